import PyProof.Rows.All
import Wide.All
import OpenK.AllK
import Wide.FinOn
import Lean
import PyProof.EqAt
import PyProof.EqKinds
import PyProof.TupleCall
import PyProof.NeKinds
import PyProof.NeData
import PyProof.EqLayable
import PyProof.ZipIter
import PyProof.EnumMake
import KE.LcSums
import PyProof.CompFree
import PyProof.ListRange
import PyProof.Rows.Range3
import PyProof.TupleOfSeq
import KE.KSortTup
import PyProof.Rows.TupAdd
import PyProof.DictWalks
import PyProof.StrWalks
import PyProof.SliceStr2
import PyProof.StrBlock2
import PyProof.StrLaws
import PyProof.StrCalls
import PyProof.CallStr
import KE.KIntText
import KE.KDictSum
import PyProof.Rows.SetFrom
import PyProof.SetRoads
import PyProof.Rows.StrInSeq3
import PyProof.Rows.CountFlat
import PyProof.InstStoreFacts
import PyProof.ExcInit
import PyProof.ExcArgsOwn
import PyProof.Rows.FStr
import Open.Boot
import Open.Tree
import PySem.Challenge.RW_slantfloor_k71_what_pulls_what
local macro_rules | `(tactic| ac_rfl)=>`(tactic| first | lia | omega)
set_option Elab.async false
set_option linter.all false
set_option maxRecDepth 100000
set_option maxHeartbeats 1000000
namespace L2
open PySem PySem.Spec PyProof.Rows
structure Like (o oe:Obj):Prop where
  cls:oe.cls=o.cls
  dict:oe.dict=o.dict
  fl:∃ us vs,o.data=.fields us/\oe.data=.fields vs /\ ∀ i,i ≠ 1->vs[i]?=us[i]?
def a7k (o:Obj):Prop:=∃ us:Array Value,o.data=.fields us/\us[2]?=some .none
theorem Like.mild {o oe:Obj} (k:Like o oe) (m:a7k o):a7k oe:=by
  obtain ⟨us,d,q⟩:=m
  obtain ⟨us',vs,d',dv,i⟩:=k.fl
  rw [d] at d'
  cases d'
  exact ⟨vs,dv,(i 2 (by decide)).trans q⟩
theorem Like.rfl' {o:Obj} {us:Array Value} (d:o.data=.fields us):Like o o:=⟨rfl,rfl,us,us,d,d,fun _ _=>rfl⟩
def Tr (h base:Heap) (e:Addr) (o:Obj) (fl:Value):Prop:=
  ∃ (oe:Obj) (vs:Array Value) (T:Addr) (oT:Obj) (ts:Array Value),h.get? e=some oe/\Like o oe/\oe.data=.fields vs/\vs[1]?=some (.ref T)/\base.get? T=none/\T ≠ e/\h.get? T=some oT/\oT.data=.fields ts/\ts[3]?=some fl
structure Fly (base:Heap) (l:List Env) (e:Addr) (o:Obj) (fl:Value) (h:Heap):Prop where
  st:base.StaysIn h
  no:base.get? e=none
  fr:h.FunFrames base l
  tr:Tr h base e o fl
theorem Fly.there {base h:Heap} {l:List Env} {e:Addr} {o:Obj} {fl:Value} (x:Fly base l e o fl h):∃ oe,h.get? e=some oe/\Like o oe:=by
  obtain ⟨oe,_,_,_,_,g,k,_⟩:=x.tr
  exact ⟨oe,g,k⟩
theorem dat1 {o:Obj} {vs:Array Value} {i:Nat} {v:Value} (d:o.data=.fields vs):(Obj.mapFields (·.setIfInBounds i v) o).data=.fields (vs.setIfInBounds i v):=Obj.data_mapFields d _
theorem Like.set {o oe:Obj} {v:Value} (k:Like o oe):Like o (Obj.mapFields (·.setIfInBounds 1 v) oe):=by
  obtain ⟨us,vs,d,dv,i⟩:=k.fl
  refine ⟨(Obj.cls_mapFields ..).trans k.cls,?_,us,_,d,dat1 dv,fun j hj=>?_⟩
  . rw [<- k.dict]
    obtain ⟨c0,d0,a0,s0⟩:=oe
    cases dv
    rfl
  . rw [Array.getElem?_setIfInBounds_ne (fun z=>hj z.symm)]
    exact i j hj
section
variable {M:Model} {A:Around} {E:Value->Shared->Prop} {s:Shared} {base:Heap} {env:Env} {outer:List Env} {L e:Addr} {o:Obj}
theorem a9r {oe:Obj} {vs:Array Value} {head:Value} {had:Bool} {Q:Unit->Shared->Prop} (hfr:A.frames=some (env :: outer)) (fr:s.heap.FunFrames base (env :: outer)) (hf:env.frame=some L) (st:base.StaysIn s.heap) (no:base.get? e=none)
    (g:s.heap.get? e=some oe) (k:Like o oe) (d:oe.data=.fields vs) (hsz:1 < vs.size) (q:∀ h',Fly base (env :: outer) e o (rawInt L) h'->s.heap.UpToSlots h'->Q () { s with heap:=h' }):
    wpAny M A (do let a <- frameOf env; let pl <- entryPlaceOf L had; let b <- EntryCells.newEntry head a .none (rawInt L) .none pl; setField (.ref e) 1 b) Q E s:=by
  have nfr:e ∉ (env :: outer).filterMap (·.frame):=fun hm=>by
    obtain ⟨_,o',g',nf⟩:=fr.mem hm
    rw [g] at g'
    cases g'
    exact nf vs d
  refine wpAny_bind (wpAny_frameOf_fun hfr fr hf fun h1 ⟨_,same,slot⟩=>wpAny_bind (wpAny_entryPlaceOf fun pl hpl=>?_))
  unfold EntryCells.newEntry newFields
  refine wpAny_bind (wpAny_newObj_type ?_ (hpl.sizeOk5 _ _ _ _ _))
  have h3:(([head,.ref L,.none,rawInt L,.none] ++ (if pl.isEmpty then List.replicate 6 Value.none else pl)).toArray:Array Value)[3]?=some (rawInt L):=by
    first | (simp; done) | (rcases hpl with rfl | ⟨_,_,_,_,_,_,_,rfl⟩ <;> simp)
  generalize (([head,.ref L,.none,rawInt L,.none] ++ (if pl.isEmpty then List.replicate 6 Value.none else pl)).toArray:Array Value)=ts at h3
  generalize hob:({ cls:=.type "traceback",dict:=none,data:=.fields ts }:Obj)=ob
  have g1:h1.get? e=some oe:=(same e nfr).trans g
  have gT:(h1.push ob).get? h1.objs.size=some ob:=by
    subst hob
    exact Heap.get?_push_size h1 rfl
  have ne:h1.objs.size ≠ e:=Nat.ne_of_gt (Heap.lt_size g1)
  have st1:base.StaysIn h1:=fun b u z=>(same b fun hm=>by rw [(fr.mem hm).1] at z; cases z).trans (st b u z)
  have keep:∀ b u,b ≠ e->h1.get? b=some u->((h1.push ob).update e (Obj.mapFields (·.setIfInBounds 1 (.ref h1.objs.size)))).get? b=some u:=fun b u hb z=>
    (Heap.get?_update_other _ _ (Ne.symm hb)).trans (Heap.get?_push_of_some _ z)
  have rec':∀ b u,s.heap.get? b=some u->(∀ us,u.data ≠ .fields us)->b ≠ e:=fun b u z nf q=>by
    rw [q,g] at z
    cases z
    exact nf vs d
  refine wpAny_setField (Heap.get?_push_of_some _ g1) d hsz (q _ ⟨fun b u z=>keep b u (fun q=>by rw [q,no] at z; cases z) (st1 b u z),no,fr.of_keeps fun b u z nf=>?_,?_⟩ fun b u z nf=>?_)
  . obtain ⟨sl,z'⟩:=slot b u z
    exact ⟨_,keep b _ (rec' b u z nf) z',rfl⟩
  . refine ⟨_,_,h1.objs.size,ob,ts,Heap.get?_update_self _ (Heap.get?_push_of_some _ g1) (Obj.isFreed_of_fields (dat1 d)),k.set,dat1 d,by simp [hsz],st1.fresh,ne,?_,by rw [<- hob],h3⟩
    exact (Heap.get?_update_other _ _ (Ne.symm ne)).trans gT
  . obtain ⟨sl,z'⟩:=slot b u z
    exact ⟨sl,keep b _ (rec' b u z nf) z'⟩
theorem fly_first {us:Array Value} {Q:Unit->Shared->Prop} (hfr:A.frames=some (env :: outer)) (fr:s.heap.FunFrames base (env :: outer)) (hf:env.frame=some L) (st:base.StaysIn s.heap) (no:base.get? e=none)
    (g:s.heap.get? e=some o) (d:o.data=.fields us) (n1:us[1]?=some .none) (q:∀ h',Fly base (env :: outer) e o (rawInt L) h'->s.heap.UpToSlots h'->Q () { s with heap:=h' }):wpAny M A (noteFrame (.ref e) env) Q E s:=by
  unfold noteFrame
  simp only [hf]
  refine wpAny_bind (wpAny_field g d n1 ?_)
  rw [if_neg (by decide)]
  exact a9r hfr fr hf st no g (Like.rfl' d) d (Array.getElem?_eq_some_iff.mp n1).1 q
theorem b1o {Q:Unit->Shared->Prop} (hfr:A.frames=some (env :: outer)) (hf:env.frame=some L) (x:Fly base (env :: outer) e o .none s.heap)
    (q:∀ h',Fly base (env :: outer) e o (rawInt L) h'->s.heap.UpToSlots h'->Q () { s with heap:=h' }):wpAny M A (noteFrame (.ref e) env) Q E s:=by
  obtain ⟨st,no,fr,oe,vs,T,oT,ts,g,k,d,n1,nT,ne,gT,dT,n3⟩:=x
  unfold noteFrame
  simp only [hf]
  refine wpAny_bind (wpAny_field g d n1 ?_)
  rw [if_pos (show (Value.ref T != Value.none)=true by simp)]
  refine wpAny_bind (wpAny_field gT dT n3 ?_)
  rw [if_neg (show ¬ ((Value.none == rawInt L)=true) by simp [rawInt])]
  have oth:∀ b,b ≠ T->(s.heap.update T (Obj.mapFields (·.setIfInBounds 3 Value.none))).get? b=s.heap.get? b:=fun b hb=>Heap.get?_update_other _ _ (Ne.symm hb)
  have rec':∀ b u,s.heap.get? b=some u->(∀ us,u.data ≠ .fields us)->b ≠ T:=fun b u z nf q=>by
    rw [q,gT] at z
    cases z
    exact nf ts dT
  refine wpAny_bind (wpAny_setField gT dT (Array.getElem?_eq_some_iff.mp n3).1 (a9r hfr (fr.of_keeps fun b u z nf=>⟨u,(oth b (rec' b u z nf)).trans z,rfl⟩) hf (fun b u z=>(oth b fun q=>by rw [q,nT] at z; cases z).trans (st b u z)) no ((oth e (Ne.symm ne)).trans g) k d (Array.getElem?_eq_some_iff.mp n1).1 fun h' x' u'=>q h' x' fun b u z nf=>u' b u ((oth b (rec' b u z nf)).trans z) nf))
theorem a5p {l:List Env} {fl:Value} {Q:Unit->Shared->Prop} (x:Fly base l e o fl s.heap) (q:∀ h',Fly base l e o .none h'->s.heap.UpToSlots h'->Q () { s with heap:=h' }):wpAny M A (setFlight (.ref e) none) Q E s:=by
  obtain ⟨st,no,fr,oe,vs,T,oT,ts,g,k,d,n1,nT,ne,gT,dT,n3⟩:=x
  have z3:=(Array.getElem?_eq_some_iff.mp n3).1
  have oth:∀ b,b ≠ T->(s.heap.update T (Obj.mapFields (·.setIfInBounds 3 ((none:Option Addr).elim Value.none fun f=>rawInt f)))).get? b=s.heap.get? b:=fun b hb=>Heap.get?_update_other _ _ (Ne.symm hb)
  have rec':∀ b u,s.heap.get? b=some u->(∀ us,u.data ≠ .fields us)->b ≠ T:=fun b u z nf q=>by
    rw [q,gT] at z
    cases z
    exact nf ts dT
  unfold setFlight
  refine wpAny_bind (wpAny_field g d n1 ?_)
  rw [if_pos (show (Value.ref T != Value.none)=true by simp)]
  refine wpAny_setField gT dT z3 (q _ ⟨fun b u z=>(oth b fun q=>by rw [q,nT] at z; cases z).trans (st b u z),no,fr.of_keeps fun b u z nf=>⟨u,(oth b (rec' b u z nf)).trans z,rfl⟩,?_⟩ fun b u z nf=>⟨u.slots,(oth b (rec' b u z nf)).trans z⟩)
  exact ⟨oe,vs,T,_,_,(oth e (Ne.symm ne)).trans g,k,d,n1,nT,ne,Heap.get?_update_self _ gT (Obj.isFreed_of_fields (dat1 dT)),dat1 dT,by simp [z3]⟩
theorem fly_made {us:Array Value} {Q:Unit->Shared->Prop} (hfr:A.frames=some (env :: outer)) (fr:s.heap.FunFrames base (env :: outer)) (hf:env.frame=some L) (st:base.StaysIn s.heap) (no:base.get? e=none)
    (g:s.heap.get? e=some o) (d:o.data=.fields us) (n1:us[1]?=some .none) (q:∀ h',Fly base outer e o .none h'->s.heap.UpToSlots h'->Q () { s with heap:=h' }):wpAny M A (leaving env (.ref e)) Q E s:=by
  unfold leaving
  refine wpAny_bind (fly_first hfr fr hf st no g d n1 fun h1 x1 u1=>a5p x1 fun h2 x2 u2=>q h2 ⟨x2.st,x2.no,?_,x2.tr⟩ (u1.trans u2))
  obtain ⟨_,_,z⟩:=x2.fr
  exact z
theorem fly_on {Q:Unit->Shared->Prop} (hfr:A.frames=some (env :: outer)) (hf:env.frame=some L) (x:Fly base (env :: outer) e o .none s.heap) (q:∀ h',Fly base outer e o .none h'->s.heap.UpToSlots h'->Q () { s with heap:=h' }):
    wpAny M A (leaving env (.ref e)) Q E s:=by
  unfold leaving
  refine wpAny_bind (b1o hfr hf x fun h1 x1 u1=>a5p x1 fun h2 x2 u2=>q h2 ⟨x2.st,x2.no,?_,x2.tr⟩ (u1.trans u2))
  obtain ⟨_,_,z⟩:=x2.fr
  exact z
end
end L2
namespace L2
open PySem PySem.Spec PyProof.Rows
def Qu (A:Around) (h:Heap):Prop:=A.handled=none \/ ∃ (a:Addr) (o:Obj),A.handled=some (.ref a)/\h.get? a=some o/\a7k o
theorem Qu.keeps {A:Around} {h h':Heap} (q:Qu A h) (k:∀ b o,a7k o->h.get? b=some o->h'.get? b=some o):Qu A h':=by
  rcases q with q | ⟨a,o,e,g,m⟩
  . exact .inl q
  . exact .inr ⟨a,o,e,k a o m g,m⟩
theorem a8w:entryFor table "proto.unchain" = some Builtin.«proto.unchain» := entryFor_of_fast (by kernel_rfl)
section
variable {prog:Program} {w:World} {A:Around} {E:Value->Shared->Prop} {s:Shared}
theorem a8P {e:Value} {a:Addr} {o:Obj} {Q:Value->Shared->Prop} (g:s.heap.get? a=some o) (m:a7k o) (q:Q .none s):wpAny (model prog w) A (runValue (.builtin "proto.unchain" ⟨[e,.ref a,.ref a,.bool false],[]⟩)) Q E s:=by
  obtain ⟨us,d,n2⟩:=m
  refine runValue_entry a8w ?_
  unfold Builtin.«proto.unchain»
  dsimp only
  refine wpAny_bind (wpAny_field g d n2 ?_)
  rw [if_pos (by decide)]
  exact wpAny_pure ⟨_,rfl,q⟩
theorem raise_new {α:Type} {a:Addr} {o:Obj} {us:Array Value} {Q:α->Shared->Prop} (q:Qu A s.heap) (g:s.heap.get? a=some o) (d:o.data=.fields us) (hz:2 < us.size) (hm:∀ v,A.handled=some v->v ≠ .ref a)
    (h:∀ h' o',(∀ b u,b ≠ a->s.heap.get? b=some u->h'.get? b=some u)->h'.get? a=some o'->o'.cls=o.cls->E (.ref a) { s with heap:=h' }):wpAny (model prog w) A (raiseNew (α:=α) (.ref a)) Q E s:=by
  simp only [raiseNew]
  refine wpAny_bind (wpAny_handled ?_)
  rcases q with q | ⟨b,ob,q,gb,mb⟩
  . rw [q]
    exact wpAny_bind (wpAny_pure (wpAny_throw (h s.heap o (fun _ _ _ z=>z) g rfl)))
  . rw [q]
    have ne:b ≠ a:=fun z=>hm _ q (by rw [z])
    dsimp only
    rw [if_pos (show (Value.ref b != Value.ref a)=true by simpa using ne)]
    refine wpAny_bind (wpAny_holding (a8P gb mb (wpAny_bind ?_)))
    unfold updateField
    refine wpAny_bind (wpAny_load g ?_)
    rw [d]
    dsimp only
    rw [if_pos hz]
    refine wpAny_update g (wpAny_throw (h _ (Obj.mapFields (·.setIfInBounds 2 (.ref b)) o) (fun c u hc z=>(Heap.get?_update_other _ _ (Ne.symm hc)).trans z) (Heap.get?_update_self _ g (Obj.isFreed_of_fields (dat1 d))) (Obj.cls_mapFields ..)))
theorem a3t {α:Type} {Q:α->Shared->Prop} (q:Qu A s.heap) (h:∀ h' e,(∀ b u,s.heap.get? b=some u->h'.get? b=some u)->(∃ o,h'.get? e=some o/\o.cls=.type "StopIteration")->E (.ref e) { s with heap:=h' }):
    wpAny (model prog w) A (newExc (.type "StopIteration") [] >>= fun e=>raiseNew (α:=α) e) Q E s:=by
  refine wpAny_bind ?_
  simp only [newExc,newTuple]
  refine wpAny_bind (wpAny_newObj_type (wpAny_bind (m:=firstArgMember _ _) (wpAny_of_eq (a:=Value.none) (by first | rfl | (simp only [firstArgMember]; rfl)) (wpAny_newObj_type ?_ (by size_fits)))) (by size_fits))
  refine raise_new (q.keeps fun b u _ z=>Heap.get?_push_of_some _ (Heap.get?_push_of_some _ z)) (Heap.get?_push_size _ rfl) rfl (by simp; ac_rfl) (fun v e z=>?_) fun h' o' k g c=>h h' _ (fun b u z=>k b u ?_ (Heap.get?_push_of_some _ (Heap.get?_push_of_some _ z))) ⟨o',g,c⟩
  . subst z
    rcases q with q | ⟨b,ob,q,gb,_⟩
    . rw [q] at e; cases e
    . rw [q] at e
      cases e
      exact Nat.lt_irrefl _ (Nat.lt_of_lt_of_le (Heap.lt_size gb) (by rw [Heap.size_push]; exact Nat.le_succ _))
  . intro e
    subst e
    exact Nat.lt_irrefl _ (Nat.lt_of_lt_of_le (Heap.lt_size z) (by rw [Heap.size_push]; exact Nat.le_succ _))
theorem end_list {it l:Addr} {i:Nat} {xs:Array Value} {Q:Option Value->Shared->Prop} (q:Qu A s.heap) (t:s.heap.IsListIter it l i) (il:s.heap.IsList l xs) (n:xs[i]?=none) (h:∀ h',Heap.ExtBut it s.heap h'->Q none { s with heap:=h' }):
    wpAny (model prog w) A (pyNext (.ref it)) Q E s:=by
  obtain ⟨o,g,c,d⟩:=id t
  obtain ⟨ol,gl,_,nl,dl⟩:=il
  unfold pyNext
  refine wpAny_bind (wpAny_attempt (wpAny_callSpecial?_slot (name:=Str.ofString "__next__") t.typeIs slot_listiter_next (wpAny_call_entry slot_listiter_next t.typeIs entry_listiter_next ?_ (args_listiter_next _))))
  refine wpAny_bind (m:=field (.ref it) 0) (wpAny_field g d (x:=.ref l) rfl ?_)
  rw [if_neg (show ¬ ((Value.ref l == Value.none)=true) from fun z=>nomatch z)]
  refine wpAny_bind (m:=field (.ref it) 1) (wpAny_field g d (x:=.int i 0) rfl (wpAny_bind (m:=seqItems? (.ref l)) (wpAny_seqItems gl dl ?_)))
  simp only [Int.toNat_natCast,n]
  have ne:∀ b u,a7k u->s.heap.get? b=some u->b ≠ it:=fun b u m gb z=>by
    subst z
    rw [g] at gb
    cases gb
    obtain ⟨us,du,z2⟩:=m
    rw [d] at du
    cases du
    simp at z2
  refine wpAny_bind (wpAny_rule (wpAny_bind (wpAny_setField g d (by simp) (a3t (q.keeps fun b u m z=>(Heap.get?_update_other _ _ (Ne.symm (ne b u m z))).trans z) fun h' e k ⟨oe,ge,ce⟩=>?_))))
  refine wpAny_bind (wpAny_isInstance (T:="StopIteration") (b:=true) ⟨oe,ge,ce⟩ isSubtype_stop (wpAny_pure (h _ fun b u hb z=>k b u ((Heap.get?_update_other _ _ (Ne.symm hb)).trans z))))
theorem end_tuple {it l:Addr} {i:Nat} {xs:Array Value} {Q:Option Value->Shared->Prop} (q:Qu A s.heap) (t:s.heap.IsTupleIter it l i) (il:s.heap.IsTuple l xs) (n:xs[i]?=none) (h:∀ h',Heap.ExtBut it s.heap h'->Q none { s with heap:=h' }):
    wpAny (model prog w) A (pyNext (.ref it)) Q E s:=by
  obtain ⟨o,g,c,d⟩:=id t
  obtain ⟨ol,gl,_,nl,dl⟩:=il
  unfold pyNext
  refine wpAny_bind (wpAny_attempt (wpAny_callSpecial?_slot (name:=Str.ofString "__next__") t.typeIs F.slot_tuple_iterator_next (wpAny_call_entry F.slot_tuple_iterator_next t.typeIs F.entry_tuple_iterator_next ?_ (F.args_tuple_iterator_next_1 _))))
  refine wpAny_bind (m:=field (.ref it) 0) (wpAny_field g d (x:=.ref l) rfl ?_)
  rw [if_neg (show ¬ ((Value.ref l == Value.none)=true) from fun z=>nomatch z)]
  refine wpAny_bind (m:=field (.ref it) 1) (wpAny_field g d (x:=.int i 0) rfl (wpAny_bind (m:=seqItems? (.ref l)) (wpAny_seqItems gl dl ?_)))
  simp only [Int.toNat_natCast,n]
  have ne:∀ b u,a7k u->s.heap.get? b=some u->b ≠ it:=fun b u m gb z=>by
    subst z
    rw [g] at gb
    cases gb
    obtain ⟨us,du,z2⟩:=m
    rw [d] at du
    cases du
    simp at z2
  refine wpAny_bind (wpAny_rule (wpAny_bind (wpAny_setField g d (by simp) (a3t (q.keeps fun b u m z=>(Heap.get?_update_other _ _ (Ne.symm (ne b u m z))).trans z) fun h' e k ⟨oe,ge,ce⟩=>?_))))
  refine wpAny_bind (wpAny_isInstance (T:="StopIteration") (b:=true) ⟨oe,ge,ce⟩ isSubtype_stop (wpAny_pure (h _ fun b u hb z=>k b u ((Heap.get?_update_other _ _ (Ne.symm hb)).trans z))))
theorem end_range {it:Addr} {x left step:Int} {Q:Option Value->Shared->Prop} (q:Qu A s.heap) (t:IsRangeIter s.heap it x left step) (n:left<=0) (h:∀ h',Heap.ExtBut it s.heap h'->Q none { s with heap:=h' }):
    wpAny (model prog w) A (pyNext (.ref it)) Q E s:=by
  have ty:s.TypeIs (.ref it) "range_iterator" := ⟨_,t,rfl⟩
  unfold pyNext
  refine wpAny_bind (wpAny_attempt (wpAny_callSpecial?_slot (name:=Str.ofString "__next__") ty F.slot_range_iterator_next (wpAny_call_entry F.slot_range_iterator_next ty F.entry_range_iterator_next ?_ (F.args_range_iterator_next_1 _))))
  refine wpAny_bind (m:=field (.ref it) 0) (wpAny_field t rfl (x:=rawInt x) rfl (wpAny_bind (m:=field (.ref it) 1) (wpAny_field t rfl (x:=rawInt left) rfl (wpAny_bind (m:=field (.ref it) 2) (wpAny_field t rfl (x:=rawInt step) rfl ?_)))))
  refine (show wpAny _ _ (ite (left<=0) _ _) _ _ s from ?_)
  rw [if_pos n]
  refine wpAny_bind (wpAny_rule (wpAny_bind (a3t q fun h' e k ⟨oe,ge,ce⟩=>?_)))
  refine wpAny_bind (wpAny_isInstance (T:="StopIteration") (b:=true) ⟨oe,ge,ce⟩ isSubtype_stop (wpAny_pure (h _ fun b u hb z=>k b u z)))
theorem a5G {it l:Addr} {i:Nat} {xs:Array Value} {Q:Value->Shared->Prop} (q:Qu A s.heap) (t:s.heap.IsListIter it l i) (il:s.heap.IsList l xs) (n:xs[i]?=none)
    (h:∀ h' e,Heap.ExtBut it s.heap h'->(∃ o,h'.get? e=some o/\o.cls=.type "StopIteration")->E (.ref e) { s with heap:=h' }):wpAny (model prog w) A (Builtin.SmallTypes.nextOf (.ref it)) Q E s:=by
  obtain ⟨o,g,c,d⟩:=id t
  obtain ⟨ol,gl,_,nl,dl⟩:=il
  unfold Builtin.SmallTypes.nextOf
  refine wpAny_bind (wpAny_callSpecial?_slot (name:=Str.ofString "__next__") t.typeIs slot_listiter_next (wpAny_call_entry slot_listiter_next t.typeIs entry_listiter_next ?_ (args_listiter_next _)))
  refine wpAny_bind (m:=field (.ref it) 0) (wpAny_field g d (x:=.ref l) rfl ?_)
  rw [if_neg (show ¬ ((Value.ref l == Value.none)=true) from fun z=>nomatch z)]
  refine wpAny_bind (m:=field (.ref it) 1) (wpAny_field g d (x:=.int i 0) rfl (wpAny_bind (m:=seqItems? (.ref l)) (wpAny_seqItems gl dl ?_)))
  simp only [Int.toNat_natCast,n]
  have ne:∀ b u,a7k u->s.heap.get? b=some u->b ≠ it:=fun b u m gb z=>by
    subst z
    rw [g] at gb
    cases gb
    obtain ⟨us,du,z2⟩:=m
    rw [d] at du
    cases du
    simp at z2
  exact wpAny_bind (wpAny_rule (wpAny_bind (wpAny_setField g d (by simp) (a3t (q.keeps fun b u m z=>(Heap.get?_update_other _ _ (Ne.symm (ne b u m z))).trans z) fun h' e k z=>h h' e (fun b u hb z=>k b u ((Heap.get?_update_other _ _ (Ne.symm hb)).trans z)) z))))
theorem end_enum {e it l:Addr} {i:Nat} {xs:Array Value} {old:Value} {Q:Option Value->Shared->Prop} (q:Qu A s.heap) (he:IsEnum s.heap e it i old) (t:s.heap.IsListIter it l i) (il:s.heap.IsList l xs) (n:xs[i]?=none)
    (h:∀ h',Heap.ExtBut it s.heap h'->Q none { s with heap:=h' }):wpAny (model prog w) A (pyNext (.ref e)) Q E s:=by
  have ty:s.TypeIs (.ref e) "enumerate" := ⟨_,he,rfl⟩
  unfold pyNext
  refine wpAny_bind (wpAny_attempt (wpAny_callSpecial?_slot (name:=Str.ofString "__next__") ty F.slot_enumerate_next (wpAny_call_entry F.slot_enumerate_next ty F.entry_enumerate_next ?_ (F.args_enumerate_next_1 _))))
  refine wpAny_bind (m:=field (.ref e) 2) (wpAny_field he rfl (x:=.ref it) rfl (wpAny_bind (a5G q t il n fun h' x k ⟨oe,ge,ce⟩=>?_)))
  exact wpAny_bind (wpAny_isInstance (T:="StopIteration") (b:=true) ⟨oe,ge,ce⟩ isSubtype_stop (wpAny_pure (h _ k)))
theorem end_zip {z TI TO i1 i2 l1 l2:Addr} {k1 k2:Nat} {xs ys:Array Value} {a b:Value} {Q:Option Value->Shared->Prop} (q:Qu A s.heap) (D:ZipApart z TI TO i1 i2 l1 l2) (hz:IsZip s.heap z TI TO .none) (pI:IsPair s.heap TI (.ref i1) (.ref i2)) (pO:IsPair s.heap TO a b)
    (t1:s.heap.IsListIter i1 l1 k1) (t2:s.heap.IsListIter i2 l2 k2) (il1:s.heap.IsList l1 xs) (il2:s.heap.IsList l2 ys) (n:xs[k1]?=none \/ ys[k2]?=none)
    (h:∀ h',(∀ c o,c ≠ z->c ≠ TO->c ≠ i1->c ≠ i2->s.heap.get? c=some o->h'.get? c=some o)->Q none { s with heap:=h' }):wpAny (model prog w) A (pyNext (.ref z)) Q E s:=by
  have ty:s.TypeIs (.ref z) "zip" := ⟨_,hz,rfl⟩
  have fin:∀ h' e,(∃ o,h'.get? e=some o/\o.cls=.type "StopIteration")->(∀ c o,c ≠ z->c ≠ TO->c ≠ i1->c ≠ i2->s.heap.get? c=some o->h'.get? c=some o) ->
      wpAny (model prog w) A (isInstance (.ref e) (.type "StopIteration") >>= fun y=>if y=true then pure none else throw (.ref e)) Q E { s with heap:=h' }:=fun h' e ⟨oe,ge,ce⟩ k=>
    wpAny_bind (wpAny_isInstance (T:="StopIteration") (b:=true) ⟨oe,ge,ce⟩ isSubtype_stop (wpAny_pure (h _ k)))
  have mz:∀ f0,¬ a7k { cls:=.type "zip",dict:=none,data:=.fields #[f0,.bool false,.bool false,.ref TI,.ref TO],slots:=#[] }:=fun f0 ⟨us,du,z2⟩=>by
    cases du
    simp at z2
  have mi:∀ {h1:Heap} {i l:Addr} {k:Nat},h1.IsListIter i l k -> ∀ u,a7k u->h1.get? i ≠ some u:=fun ⟨o,g,_,d⟩ u ⟨us,du,z2⟩ gu=>by
    rw [g] at gu
    cases gu
    rw [d] at du
    cases du
    simp at z2
  have mp:∀ {h1:Heap} {p:Addr} {x y:Value},IsPair h1 p x y -> ∀ u,a7k u->h1.get? p ≠ some u:=fun g u ⟨us,du,z2⟩ gu=>by
    rw [g] at gu
    cases gu
    cases du
  unfold pyNext
  refine wpAny_bind (wpAny_attempt (wpAny_callSpecial?_slot (name:=Str.ofString "__next__") ty F.slot_zip_next (wpAny_call_entry F.slot_zip_next ty F.entry_zip_next ?_ (F.args_zip_next_1 _))))
  refine wpAny_bind (m:=field (.ref z) 2) (wpAny_field hz rfl (x:=.bool false) rfl (wpAny_bind (m:=field (.ref z) 3) (wpAny_field hz rfl (x:=.ref TI) rfl (wpAny_bind (wpAny_seqItems pI rfl ?_)))))
  refine wpAny_bind (m:=Builtin.SmallTypes.ownedTupleIsFree (.ref z)) ?_
  unfold Builtin.SmallTypes.ownedTupleIsFree
  refine wpAny_bind (wpAny_field hz rfl (x:=.none) rfl (wpAny_pure ?_))
  simp only [if_true]
  refine wpAny_bind (wpAny_rule (wpAny_bind (wpAny_field hz rfl (x:=.ref TO) rfl (wpAny_bind (wpAny_setField_rec hz (by simp) fun h1 hz1 s1=>wpAny_bind ?_)))))
  replace hz1:IsZip h1 z TI TO .ellipsis:=hz1
  have q1:Qu A h1:=q.keeps fun c u m g=>s1.extBut c u (fun e=>by subst e; rw [hz] at g; cases g; exact mz _ m) g
  simp only [List.zipIdx_cons,List.zipIdx_nil,List.forIn_cons,List.forIn_nil]
  refine wpAny_bind (wpAny_bind (wpAny_onRaise (wpAny_bind (m:=Builtin.SmallTypes.nextOf (.ref i1)) ?_)))
  have t1':=t1.extBut s1.extBut D.i1z
  have il1':=il1.extBut s1.extBut D.l1z
  cases hx:xs[k1]? with
  | none=>
    refine a5G q1 t1' il1' hx fun h2 e s2 ⟨oe,ge,ce⟩=>?_
    have hz2:IsZip h2 z TI TO .ellipsis:=s2 _ _ D.i1z.symm hz1
    have ne:e ≠ z:=fun y=>by subst y; rw [hz2] at ge; cases ge; simp at ce
    exact wpAny_setField_rec hz2 (by simp) fun h3 _ s3=>fin h3 e ⟨oe,s3.extBut _ _ ne ge,ce⟩ fun c o c1 _ c3 _ g=>s3.extBut _ _ c1 (s2 _ _ c3 (s1.extBut _ _ c1 g))
  | some x=>
    have hy:ys[k2]?=none:=n.elim (fun y=>by rw [hx] at y; cases y) id
    refine wpAny_nextOf_list_item t1' il1' hx fun h2 t2' s2=>wpAny_pure ?_
    have pO2:IsPair h2 TO a b:=s2.extBut _ _ D.TOi1 (s1.extBut _ _ D.TOz pO)
    have q2:Qu A h2:=q1.keeps fun c u m g=>s2.extBut c u (fun e=>by subst e; exact mi t1' u m g) g
    refine wpAny_bind (wpAny_seqItems pO2 rfl (wpAny_bind (wpAny_updateSeq_pair pO2 fun h3 pO3 s3=>wpAny_bind (wpAny_letGo (wpAny_pure ?_)))))
    have q3:Qu A h3:=q2.keeps fun c u m g=>s3.extBut c u (fun e=>by subst e; exact mp pO2 u m g) g
    refine wpAny_bind (wpAny_bind (wpAny_onRaise (wpAny_bind (m:=Builtin.SmallTypes.nextOf (.ref i2)) ?_)))
    refine a5G q3 (((t2.extBut s1.extBut D.i2z).extBut s2.extBut D.i12.symm).extBut s3.extBut D.TOi2.symm) (((il2.extBut s1.extBut D.l2z).extBut s2.extBut D.l2i1).extBut s3.extBut D.l2TO) hy fun h4 e s4 ⟨oe,ge,ce⟩=>?_
    have hz4:IsZip h4 z TI TO .ellipsis:=s4 _ _ D.i2z.symm (s3.extBut _ _ D.TOz.symm (s2.extBut _ _ D.i1z.symm hz1))
    have ne:e ≠ z:=fun y=>by subst y; rw [hz4] at ge; cases ge; simp at ce
    exact wpAny_setField_rec hz4 (by simp) fun h5 _ s5=>fin h5 e ⟨oe,s5.extBut _ _ ne ge,ce⟩ fun c o c1 c2 c3 c4 g=>s5.extBut _ _ c1 (s4 _ _ c4 (s3.extBut _ _ c2 (s2.extBut _ _ c3 (s1.extBut _ _ c1 g))))
theorem walk_list {a:Addr} {o:Obj} (hh:A.handled=some (.ref a)) (m:a7k o) (I ax:Addr) (hne:ax ≠ I) (xs:Array Value):
    Walks prog w A I [I,ax,a] [I] xs.size (fun i v=>xs[i]?=some v) (fun i h=>(h.IsListIter I ax i/\h.IsList ax xs)/\h.get? a=some o) where
  sub:=fun b hb=>by simp at hb; simp [hb]
  frame:=fun _ _ _ st k=>⟨⟨st.1.1.at fun o e=>k I (by simp) o e,st.1.2.at fun o e=>k ax (by simp) o e⟩,k a (by simp) _ st.2⟩
  item:=fun i s Q E hi st h=>by
    have na:a ≠ I:=fun e=>by
      subst e
      obtain ⟨o',g,_,d⟩:=st.1.1
      obtain ⟨us,du,z2⟩:=m
      rw [st.2] at g
      cases g
      rw [d] at du
      cases du
      simp at z2
    exact wpAny_pyNext_list_item st.1.1 st.1.2 (x:=xs[i]) (by simp [hi]) fun h' t sb=>h _ h' s.toks (by simp [hi]) ⟨⟨t,st.1.2.extBut sb.extBut hne⟩,sb.extBut _ _ na st.2⟩ fun b o hb e=>sb.extBut b o (fun z=>hb (by simp [z])) e
  done:=fun s Q E st h=>end_list (.inr ⟨a,o,hh,st.2,m⟩) st.1.1 st.1.2 (by simp) fun h' k=>h h' s.toks fun b o hb e=>k b o (fun z=>hb (by simp [z])) e
  self:=fun _ _ _ _ st q=>wpAny_pyIter_listiter st.1.1 q
theorem sum_q {l:Addr} {xs:Array (Int × Tok)} {Q:Value->Shared->Prop} (q:Qu A s.heap) (il:s.heap.IsList l (intItems xs))
    (h:∀ h' tk t',(∀ b o,s.heap.get? b=some o->h'.get? b=some o)->Q (.int (preSum (numAt xs) xs.size) t') { s with heap:=h',toks:=tk }):wpAny (model prog w) A (call (.builtin "sum") [.ref l]) Q E s:=by
  rcases q with q | ⟨a,o,q,g,m⟩
  . exact sum_intListG q il h
  . refine call_sum_walkG (iter_intList il fun s2 e st fp ne=>?_)
    subst e
    refine ⟨_,_,_,_,_,_,numAt xs,rfl,walk_list (A:=A.in1) q m _ l ne (intItems xs),⟨st,Heap.get?_push_of_some _ g⟩,fun b hb=>?_,fun _ _=>intItems_at,fun h' tk t' k=>?_⟩
    . rcases List.mem_cons.mp hb with e | hb
      . exact fp b (by simp [e])
      . rcases List.mem_cons.mp hb with e | hb
        . exact fp b (by simp [e])
        . have e:b=a:=by simpa using hb
          subst e
          exact Heap.lt_size (Heap.get?_push_of_some _ g)
    . have:=h h' tk t' (old_kept k)
      simpa [intItems] using this
theorem item_range {it:Addr} {lo c:Int} {n i:Nat} {Q:Option Value->Shared->Prop} (hi:i < n) (t:IsRangeIter s.heap it (lo + (i:Nat) * c) ((n:Int) - (i:Nat)) c)
    (h:∀ v h' tk,(∃ t,v=.int (lo + i * c) t)->IsRangeIter h' it (lo + ((i + 1:Nat):Int) * c) ((n:Int) - ((i + 1:Nat):Int)) c->(∀ b o,b ∉ [it]->s.heap.get? b=some o->h'.get? b=some o)->Q (some v) { s with heap:=h',toks:=tk }):
    wpAny (model prog w) A (pyNext (.ref it)) Q E s:=by
  refine wpAny_pyNext_range_item t (by ac_rfl) fun h' t' sb=>h _ h' _ ⟨_,rfl⟩ ?_ fun b o hb e=>sb.extBut b o (fun z=>hb (by simp [z])) e
  rw [show ((i + 1:Nat):Int)=(i:Int) + 1 by simp,show lo + ((i:Int) + 1) * c=lo + i * c + c by rw [Int.add_mul,Int.one_mul,Int.add_assoc],show (n:Int) - ((i:Int) + 1)=n - i - 1 by ac_rfl]
  exact t'
end
end L2
namespace L2
open PySem PySem.Spec PyProof.Rows
noncomputable abbrev Key:=Sum Int Str
noncomputable def keyIs:Key->Value->Bool
  | .inl k,v=>Value.isInt k v
  | .inr x,v=>Value.isStrOf x v
noncomputable def keyH (w:World):Key->Int
  | .inl k=>hashInt k
  | .inr x=>hashStr w x
theorem a1v:∀ {k:Key} {v:Value},keyIs k v=true->(∃ i t,k=Sum.inl i/\v=Value.int i t) \/ (∃ x t,k=Sum.inr x/\v=Value.str x t)
  | .inl i,v,h=>by
    obtain ⟨t,e⟩:=Value.isInt_shape (k:=i) (v:=v) h
    exact .inl ⟨i,t,rfl,e⟩
  | .inr x,v,h=>by
    obtain ⟨t,e⟩:=Value.isStrOf_shape (x:=x) (v:=v) h
    exact .inr ⟨x,t,rfl,e⟩
theorem keyIs_int (i:Int) (t:Tok):keyIs (.inl i) (.int i t)=true:=by simp [keyIs,Value.isInt]
theorem keyIs_str (x:Str) (t:Tok):keyIs (.inr x) (.str x t)=true:=by simp [keyIs,Value.isStrOf]
theorem key_ll (a b:Int):decide ((Sum.inl a:Key)=Sum.inl b)=(a == b):=by
  by_cases e:a=b
  . subst e; simp
  . have h:¬ (Sum.inl a:Key)=Sum.inl b:=fun q=>e (Sum.inl.inj q)
    rw [decide_eq_false h]
    exact (beq_eq_false_iff_ne.mpr e).symm
theorem key_rr (a b:Str):decide ((Sum.inr a:Key)=Sum.inr b)=decide (a=b):=by
  by_cases e:a=b
  . subst e; simp
  . have h:¬ (Sum.inr a:Key)=Sum.inr b:=fun q=>e (Sum.inr.inj q)
    rw [decide_eq_false h,decide_eq_false e]
theorem key_lr (a:Int) (b:Str):decide ((Sum.inl a:Key)=Sum.inr b)=false:=decide_eq_false (fun q=>nomatch q)
theorem key_rl (a:Str) (b:Int):decide ((Sum.inr a:Key)=Sum.inl b)=false:=decide_eq_false (fun q=>nomatch q)
noncomputable def a2i (prog:Program) (w:World):PySem.KeyKind prog w Key where
  is:=keyIs
  hash:=keyH w
  inj:=fun v a b ha hb=>by
    rcases a1v ha with ⟨i,t,rfl,rfl⟩ | ⟨x,t,rfl,rfl⟩
    . rcases a1v hb with ⟨j,u,rfl,e⟩ | ⟨y,u,rfl,e⟩
      . injection e with e1 _; rw [e1]
      . exact nomatch e
    . rcases a1v hb with ⟨j,u,rfl,e⟩ | ⟨y,u,rfl,e⟩
      . exact nomatch e
      . injection e with e1 _; rw [e1]
  byValue:=fun k v h=>by
    rcases a1v h with ⟨i,t,rfl,rfl⟩ | ⟨x,t,rfl,rfl⟩ <;> rfl
  pyHash:=fun hv h=>by
    rcases a1v hv with ⟨i,t,rfl,rfl⟩ | ⟨x,t,rfl,rfl⟩
    . exact wpAny_pyHash_int h
    . exact wpAny_pyHash_str h
  eqBool:=fun hu hv h=>by
    rcases a1v hu with ⟨i,t,rfl,rfl⟩ | ⟨x,t,rfl,rfl⟩
    . rcases a1v hv with ⟨j,u,rfl,rfl⟩ | ⟨y,u,rfl,rfl⟩
      . rw [key_ll] at h; exact wpAny_eqBool_int h
      . rw [key_lr] at h; exact SeqAt.EqAt.int_str i t y u _ _ _ _ h
    . rcases a1v hv with ⟨j,u,rfl,rfl⟩ | ⟨y,u,rfl,rfl⟩
      . rw [key_rl] at h; exact SeqAt.EqAt.str_int x t j u _ _ _ _ h
      . rw [key_rr] at h; exact wpAny_eqBool_str h
  «strs» := fun k x t v h=>by
    rcases a1v h with ⟨i,u,rfl,e⟩ | ⟨y,u,rfl,e⟩
    . exact nomatch e
    . injection e with e1 _
      subst e1
      cases v <;> rfl
theorem b0n (prog:Program) (w:World) (i:Int) (t:Tok):(a2i prog w).is (.inl i) (.int i t)=true:=keyIs_int i t
theorem b0m (prog:Program) (w:World) (x:Str) (t:Tok):(a2i prog w).is (.inr x) (.str x t)=true:=keyIs_str x t
end L2
namespace L2
open PySem PySem.Spec PyProof.Rows
inductive V where
  | non | bl (b:Bool) | int (i:Int) | str (x:Str) | byt (b:Array UInt8) | flt (b:UInt64) | ref (a:Addr) | ty (n:String)
  deriving DecidableEq
def a1W:V->Value->Prop
  | .non,u=>u=Value.none
  | .bl b,u=>u=Value.bool b
  | .int i,u=>∃ t,u=Value.int i t
  | .str x,u=>∃ t,u=Value.str x t
  | .byt b,u=>∃ t,u=Value.bytes b t
  | .flt b,u=>∃ t,u=Value.float b t
  | .ref a,u=>u=Value.ref a
  | .ty n,u=>u=Value.type n
abbrev a1u:List V->List Value->Prop:=Paired a1W
theorem a1u.length {xs:List V} {us:List Value} (r:a1u xs us):xs.length=us.length:=Paired.length r
theorem a1u.get:∀ {xs:List V} {us:List Value} {i:Nat} {x:V},a1u xs us->xs[i]?=some x -> ∃ u,us[i]?=some u/\a1W x u
  | _,_,_,_,.nil,e=>by simp at e
  | _,_,0,_,.cons r _,e=>by simp at e; subst e; exact ⟨_,rfl,r⟩
  | _,_,i + 1,x,.cons _ t,e=>by
    obtain ⟨u,h1,h2⟩:=a1u.get (i:=i) (x:=x) t (by simpa using e)
    exact ⟨u,by simpa using h1,h2⟩
theorem a1u.set {x:V} {u:Value} (r:a1W x u):∀ {xs:List V} {us:List Value} (i:Nat),a1u xs us->a1u (xs.set i x) (us.set i u)
  | _,_,_,.nil=>.nil
  | _,_,0,.cons _ t=>.cons r t
  | _,_,i + 1,.cons q t=>.cons q (a1u.set r i t)
theorem a1u.append:∀ {xs ys:List V} {us ws:List Value},a1u xs us->a1u ys ws->a1u (xs ++ ys) (us ++ ws)
  | _,_,_,_,.nil,s=>s
  | _,_,_,_,.cons r t,s=>.cons r (a1u.append t s)
theorem a1u.take:∀ {xs:List V} {us:List Value} (n:Nat),a1u xs us->a1u (xs.take n) (us.take n)
  | _,_,0,_=>.nil
  | _,_,_ + 1,.nil=>.nil
  | _,_,n + 1,.cons r t=>.cons r (a1u.take n t)
theorem a1u.drop:∀ {xs:List V} {us:List Value} (n:Nat),a1u xs us->a1u (xs.drop n) (us.drop n)
  | _,_,0,r=>r
  | _,_,_ + 1,.nil=>.nil
  | _,_,n + 1,.cons _ t=>a1u.drop n t
def a9M:Option V->Option Value->Prop
  | some v,some u=>a1W v u
  | none,none=>True
  | _,_=>False
def KV {κ:Type}:List (κ × V)->List (κ × Value)->Prop:=Paired fun (p:κ × V) (q:κ × Value)=>p.1=q.1/\a1W p.2 q.2
noncomputable def kV:Key->V
  | .inl i=>.int i
  | .inr x=>.str x
inductive HO where
  /-- a list -/
  | lst (xs:List V)
  /-- a tuple (never changes) -/
  | tup (xs:List V)
  /-- a dict whose keys are ints and texts; one whose keys are tuples of ints and texts (the empty one is both) -/
  | dK (kvs:List (Key × V)) | dT (ep:Nat) (kvs:List (List Key × V))
  /-- a set of ints: its members,its size -/
  | set (S:Int->Bool) (n:Nat)
  /-- an instance of the class at C,its dict at dx,its attributes -/
  | ins (C dx:Addr) (fs:List (Str × V))
  /-- the dict of the instance at x -/
  | own (x:Addr)
  /-- the dict of an exception -/
  | xd (fs:List (Str × V))
  /-- a bound method,f of x -/
  | met (f x:Addr)
  /-- a range object lo,lo + 1,.. below hi -/
  | rng (lo hi:Int)
  /-- a thing that is known to the object (the script; a dict while a loop walks it): read,never written while it is so -/
  | frz (o:Obj) (u:HO)
  /-- a code object's table -/
  | tbl (ps:Array Value)
  /-- a code object's table whose lambdas are named q; such a lambda's code -/
  | lam (q:Str) | cod (q:Str)
  /-- any other thing,by what is true of its one object (a def of one's own: SetO a S n:=HO.ext fun h=>..) -/
  | ext (φ:Heap->Prop)
noncomputable abbrev Hp:=Addr->Option HO
noncomputable def upd (H:Hp) (a:Addr) (o:HO):Hp:=fun b=>if b=a then some o else H b
theorem a0E {H:Hp} {a:Addr} {o:HO}:upd H a o a=some o:=by unfold upd; rw [if_pos rfl]
theorem a0w {H:Hp} {a b:Addr} {o:HO} (h:b ≠ a):upd H a o b=H b:=by unfold upd; rw [if_neg h]
theorem ne_of {H:Hp} {a b:Addr} {o u:HO} (h:H a=some o) (h':H b=some u) (d:o ≠ u):a ≠ b:=by
  intro e; subst e; rw [h] at h'; exact d (Option.some.inj h')
theorem a0u {H:Hp} {a b:Addr} {o:HO} (h:H a=some o) (h':H b=none):a ≠ b:=by
  intro e; subst e; rw [h] at h'; cases h'
section
variable (P:Program) (w:World)
def a1K (H:Hp) (h:Heap) (a:Addr):HO->Prop
  | .lst xs=>xs.length<=sizeLine /\ ∃ (its:List Value) (n:Nat),a1u xs its/\h.get? a=some { cls:=.type "list",data:=.seq its.toArray n }
  | .tup xs=>xs.length<=sizeLine /\ ∃ its:List Value,a1u xs its/\IsTup h a its.toArray
  | .dK kvs=>kvs.length<=sizeLine/\(a == sysModules)=false /\ ∃ vs,KV kvs vs/\h.DictOf (a2i P w) a vs
  | .dT ep kvs=>kvs.length<=sizeLine/\(a == sysModules)=false /\ ∃ xs:List (List Key × Addr × Value),
      Paired (fun (p:List Key × V) (q:List Key × Addr × Value)=>p.1=q.1/\H q.2.1=some (.tup (p.1.map kV))/\a1W p.2 q.2.2) kvs xs /\
      ∃ o es,h.get? a=some o/\o.ExactDict/\o.data=.dict es ep/\es.toList=xs.map (entryOfKey (tupleKind (a2i P w)))/\(xs.map (·.1)).Nodup
  | .set S n=>h.SetOf (intKind P w) a S n
  | .ins C dx fs=>H dx=some (.own a)/\fs.length<=1000/\dx ≠ a/\h.get? a=some (W.instObj C dx) /\
      ∃ mA,h.Ns1 dx mA/\(∀ f,a9M (fs.lookup f) (mA f))/\PySem.Within mA (fs.map (·.1))
  | .own _=>∃ o,h.get? a=some o
  | .xd fs=>∃ mA,h.Ns1 a mA /\ ∀ f,a9M (fs.lookup f) (mA f)
  | .rng lo hi=>∃ t u v,h.get? a=some { cls:=.type "range",data:=.fields #[.int lo t,.int hi u,.int 1 v] }
  | .frz o u=>h.get? a=some o/\a1K H h a u
  | .tbl ps=>h.get? a=some { cls:=.none,data:=.fields ps }
  | .lam q=>∃ ps:Array Value,h.get? a=some (W.tabObj ps)/\TriplesOk ps.toList /\ ∀ p:Pos,codeAmong p ps.toList=none \/ ∃ c,codeAmong p ps.toList=some (.ref c)/\H c=some (.cod q)
  | .cod q=>h.CodeRec (.ref a) q
  | .met f x=>h.get? a=some (W.methodObj (.ref f) (.ref x))
  | .ext φ=>φ h/\(∃ o,h.get? a=some o) /\ ∀ h1 h2:Heap,φ h1->(∀ o,h1.get? a=some o->h2.get? a=some o)->φ h2
def HOk (H:Hp) (h:Heap):Prop:=∀ a o,H a=some o->a1K P w H h a o
end
section
variable {P:Program} {w:World} {H H':Hp} {h h':Heap} {a:Addr} {o:HO}
theorem a1K.lt (x:a1K P w H h a o):a < h.objs.size:=by
  cases o with
  | lst xs=>obtain ⟨_,_,_,_,e⟩:=x; exact Heap.lt_size e
  | tup xs=>obtain ⟨_,_,_,p⟩:=x; exact p.lt
  | dK kvs=>obtain ⟨_,_,_,_,o,_,_,e,_⟩:=x; exact Heap.lt_size e
  | dT ep kvs=>obtain ⟨_,_,_,_,o,_,e,_⟩:=x; exact Heap.lt_size e
  | set S n=>obtain ⟨o,_,_,_,e,_⟩:=x; exact Heap.lt_size e
  | ins C dx fs=>obtain ⟨_,_,_,e,_⟩:=x; exact Heap.lt_size e
  | own y=>obtain ⟨_,e⟩:=x; exact Heap.lt_size e
  | xd fs=>obtain ⟨_,⟨_,_,_,e,_⟩,_⟩:=x; exact Heap.lt_size e
  | rng lo hi=>obtain ⟨_,_,_,e⟩:=x; exact Heap.lt_size e
  | frz ob u=>obtain ⟨e,_⟩:=x; exact Heap.lt_size e
  | tbl ps=>exact Heap.lt_size (show h.get? a=some _ from x)
  | lam q=>obtain ⟨_,e,_⟩:=x; exact Heap.lt_size e
  | cod q=>obtain ⟨_,_,_,_,e,e2,_⟩:=x; cases e; exact Heap.lt_size e2
  | met f y=>exact Heap.lt_size (show h.get? a=some _ from x)
  | ext φ=>obtain ⟨_,⟨_,e⟩,_⟩:=x; exact Heap.lt_size e
theorem Paired.mapP {α β:Type} {F G:α->β->Prop}:∀ {l₁:List α} {l₂:List β},Paired F l₁ l₂->(∀ a b,F a b->G a b)->Paired G l₁ l₂
  | _,_,.nil,_=>.nil
  | _,_,.cons r t,f=>.cons (f _ _ r) (Paired.mapP t f)
theorem a1K.stay (x:a1K P w H h a o) (k:∀ b u,(b=a \/ H b=some (.own a))->h.get? b=some u->h'.get? b=some u)
    (ho:∀ b,H b=some (.own a)->H' b=some (.own a)) (ht:∀ b xs,H b=some (.tup xs)->H' b=some (.tup xs)) (hc:∀ b q,H b=some (.cod q)->H' b=some (.cod q)):a1K P w H' h' a o:=by
  induction o with
  | lst xs=>obtain ⟨z,its,n,r,e⟩:=x; exact ⟨z,its,n,r,k _ _ (.inl rfl) e⟩
  | tup xs=>obtain ⟨z,its,r,ob,e,c⟩:=x; exact ⟨z,its,r,ob,k _ _ (.inl rfl) e,c⟩
  | dK kvs=>obtain ⟨z,y,vs,r,ob,es,ep,e,c⟩:=x; exact ⟨z,y,vs,r,ob,es,ep,k _ _ (.inl rfl) e,c⟩
  | dT ep kvs=>
    obtain ⟨z,y,xs,r,ob,es,e,c⟩:=x
    exact ⟨z,y,xs,Paired.mapP r fun p q z=>⟨z.1,ht _ _ z.2.1,z.2.2⟩,ob,es,k _ _ (.inl rfl) e,c⟩
  | set S n=>obtain ⟨ob,es,ep,t,e,c⟩:=x; exact ⟨ob,es,ep,t,k _ _ (.inl rfl) e,c⟩
  | ins C dx fs=>
    obtain ⟨d,z,ne,e,mA,⟨od,es,ep,e2,c⟩,r⟩:=x
    exact ⟨ho _ d,z,ne,k _ _ (.inl rfl) e,mA,⟨od,es,ep,k _ _ (.inr d) e2,c⟩,r⟩
  | own y=>obtain ⟨ob,e⟩:=x; exact ⟨ob,k _ _ (.inl rfl) e⟩
  | xd fs=>obtain ⟨mA,⟨od,es,ep,e,c⟩,r⟩:=x; exact ⟨mA,⟨od,es,ep,k _ _ (.inl rfl) e,c⟩,r⟩
  | rng lo hi=>obtain ⟨t,u,v,e⟩:=x; exact ⟨t,u,v,k _ _ (.inl rfl) e⟩
  | frz ob u ih=>obtain ⟨e,q⟩:=x; exact ⟨k _ _ (.inl rfl) e,ih q⟩
  | tbl ps=>
    have e:h.get? a=some { cls:=.none,data:=.fields ps }:=x
    show h'.get? a=some { cls:=.none,data:=.fields ps }
    exact k a _ (.inl rfl) e
  | lam q=>
    obtain ⟨ps,e,t,f⟩:=x
    exact ⟨ps,k _ _ (.inl rfl) e,t,fun p=>(f p).imp_right fun ⟨c,e1,e2⟩=>⟨c,e1,hc _ _ e2⟩⟩
  | cod q=>
    obtain ⟨_,o,vs,t,e,e2,e3⟩:=x
    cases e
    exact ⟨a,o,vs,t,rfl,k _ _ (.inl rfl) e2,e3⟩
  | met f y=>
    have e:h.get? a=some (W.methodObj (.ref f) (.ref y)):=x
    show h'.get? a=some (W.methodObj (.ref f) (.ref y))
    exact k a _ (.inl rfl) e
  | ext φ=>obtain ⟨p,⟨o,e⟩,st⟩:=x; exact ⟨st _ _ p fun o q=>k _ _ (.inl rfl) q,⟨o,k _ _ (.inl rfl) e⟩,st⟩
theorem HOk.lt (x:HOk P w H h) (e:H a=some o):a < h.objs.size:=(x a o e).lt
theorem HOk.fresh (x:HOk P w H h) (e:h.objs.size<=a):H a=none:=by
  cases q:H a with
  | none=>rfl
  | some u=>exact absurd (Nat.lt_of_lt_of_le (x.lt q) e) (Nat.lt_irrefl _)
theorem HOk.kept (x:HOk P w H h) (k:∀ b u,h.get? b=some u->h'.get? b=some u):HOk P w H h':=fun a o e=>
  (x a o e).stay (fun b u _ q=>k b u q) (fun _ q=>q) (fun _ _ q=>q) fun _ _ q=>q
theorem HOk.laid (x:HOk P w H h) (k:∀ b u,h.get? b=some u->h'.get? b=some u) (hp:h.objs.size<=a) (new:a1K P w (upd H a o) h' a o):HOk P w (upd H a o) h':=fun b u e=>by
  have hn:=x.fresh hp
  by_cases hb:b=a
  . subst hb; rw [a0E] at e; cases e; exact new
  . rw [a0w hb] at e
    exact (x b u e).stay (fun c v _ q=>k c v q) (fun c q=>by rw [a0w (a0u q hn)]; exact q) (fun c xs q=>by rw [a0w (a0u q hn)]; exact q) fun c xs q=>by rw [a0w (a0u q hn)]; exact q
end
def Rd (H:Hp) (a:Addr) (u:HO):Prop:=H a=some u \/ ∃ o,H a=some (.frz o u)
theorem Rd.ok {P:Program} {w:World} {H:Hp} {h:Heap} {a:Addr} {u:HO} (r:Rd H a u) (x:HOk P w H h):a1K P w H h a u:=by
  rcases r with r | ⟨o,r⟩
  . exact x a u r
  . obtain ⟨_,q⟩:=x a _ r
    exact q
def Mut:Option HO->Prop
  | some (.lst _)=>True
  | some (.dK _)=>True
  | some (.dT _ _)=>True
  | some (.set _ _)=>True
  | some (.ins _ _ _)=>True
  | some (.ext _)=>True
  | _=>False
section
variable {P:Program} {w:World} {H:Hp} {h h':Heap} {x e:Addr} {o':HO}
theorem HOk.write (ok:HOk P w H h) (mu:Mut (H x)) (he:e=x \/ H e=some (.own x)) (k:∀ b u,b ≠ e->h.get? b=some u->h'.get? b=some u) (heo:∃ u,h'.get? e=some u)
    (new:a1K P w (upd H x o') h' x o'):HOk P w (upd H x o') h':=fun b u q=>by
  have nown:∀ c y,H c=some (.own y)->c ≠ x:=fun c y r z=>by subst z; rw [r] at mu; exact mu
  have ntup:∀ c xs,H c=some (.tup xs)->c ≠ x:=fun c xs r z=>by subst z; rw [r] at mu; exact mu
  have ncod:∀ c q,H c=some (.cod q)->c ≠ x:=fun c xs r z=>by subst z; rw [r] at mu; exact mu
  by_cases hb:b=x
  . subst hb; rw [a0E] at q; cases q; exact new
  . rw [a0w hb] at q
    by_cases hbe:b=e
    . have q':H b=some (.own x):=by
        rcases he with z | z
        . exact absurd (hbe.trans z) hb
        . rw [hbe]; exact z
      rw [q] at q'; cases q'
      obtain ⟨v,hv⟩:=heo
      exact ⟨v,by rw [hbe]; exact hv⟩
    . refine (ok b u q).stay (fun c v hc r=>k c v ?_ r) (fun c r=>by rw [a0w (nown c b r)]; exact r) (fun c xs r=>by rw [a0w (ntup c xs r)]; exact r) fun c xs r=>by rw [a0w (ncod c xs r)]; exact r
      rcases hc with rfl | hc
      . exact hbe
      . rintro rfl
        rcases he with z | z
        . exact nown c b hc z
        . rw [hc] at z; cases z; exact hb rfl
end
structure Un (fs ex:List Addr) (H H':Hp) (h h':Heap):Prop where
  keep:∀ b o,h.get? b=some o->H b=none->b ∉ fs->b ∉ ex->h'.get? b=some o
  slot:∀ b o,h.get? b=some o->H b=none->b ∈ fs->b ∉ ex -> ∃ sl,h'.get? b=some { o with slots:=sl }
  free:∀ b o,h.get? b=some o->H b=none->b ∉ ex->H' b=none
  there:∀ b o,h.get? b=some o->b ∉ ex -> ∃ o',h'.get? b=some o'
  tups:∀ b xs,H b=some (.tup xs)->H' b=some (.tup xs)
  frzs:∀ b o u,H b=some (.frz o u)->H' b=some (.frz o u)
  tbls:∀ b ps,H b=some (.tbl ps) -> ∃ more,H' b=some (.tbl (ps ++ more))
section
variable {fs fs' ex ex':List Addr} {H H1 H2:Hp} {h h1 h2 h':Heap} {a x e:Addr} {o:HO}
theorem Un.any (u:Un fs ex H H1 h h1) {b:Addr} {ob:Obj} (q:h.get? b=some ob) (n:H b=none) (hx:b ∉ ex):∃ sl,h1.get? b=some { ob with slots:=sl }:=by
  by_cases hb:b ∈ fs
  . exact u.slot b ob q n hb hx
  . exact ⟨ob.slots,u.keep b ob q n hb hx⟩
theorem Un.kept (k:∀ b u,h.get? b=some u->h'.get? b=some u):Un fs ex H H h h':=
  ⟨fun b ob q _ _ _=>k b ob q,fun b ob q _ _ _=>⟨ob.slots,k b ob q⟩,fun _ _ _ n _=>n,fun b ob q _=>⟨ob,k b ob q⟩,fun _ _ q=>q,fun _ _ _ q=>q,fun _ ps q=>⟨#[],by rw [q]; simp⟩⟩
theorem Un.refl:Un fs ex H H h h:=Un.kept fun _ _ q=>q
theorem Un.laid (k:∀ b u,h.get? b=some u->h'.get? b=some u) (hp:h.objs.size<=a) (hn:H a=none):Un fs ex H (upd H a o) h h' where
  keep:=fun b u q _ _ _=>k b u q
  slot:=fun b u q _ _ _=>⟨u.slots,k b u q⟩
  free:=fun b u q n _=>by rw [a0w (Nat.ne_of_lt (Nat.lt_of_lt_of_le (Heap.lt_size q) hp))]; exact n
  there:=fun b u q _=>⟨u,k b u q⟩
  tups:=fun b xs q=>by rw [a0w (a0u q hn)]; exact q
  frzs:=fun b u xs q=>by rw [a0w (a0u q hn)]; exact q
  tbls:=fun b ps q=>⟨#[],by rw [a0w (a0u q hn),q]; simp⟩
theorem Un.write (mu:Mut (H x)) (he:e=x \/ H e=some (.own x)) (k:∀ b u,b ≠ e->h.get? b=some u->h'.get? b=some u) (heo:∃ u,h'.get? e=some u):Un fs ex H (upd H x o) h h':=by
  have hx:∀ b,H b=none->b ≠ x:=fun b n z=>by subst z; rw [n] at mu; exact mu
  have hb:∀ b,H b=none->b ≠ e:=fun b n z=>by
    subst z
    rcases he with r | r
    . exact hx b n r
    . rw [n] at r; cases r
  have hm:∀ b u,H b=some u -> ¬ Mut (some u)->b ≠ x:=fun b u q nm z=>by subst z; rw [q] at mu; exact nm mu
  refine ⟨fun b u q n _ _=>k b u (hb b n) q,fun b u q n _ _=>⟨u.slots,k b u (hb b n) q⟩,fun b u q n _=>by rw [a0w (hx b n)]; exact n,fun b u q _=>?_,
    fun b xs q=>by rw [a0w (hm b _ q fun z=>z)]; exact q,fun b u xs q=>by rw [a0w (hm b _ q fun z=>z)]; exact q,fun b ps q=>⟨#[],by rw [a0w (hm b _ q fun z=>z),q]; simp⟩⟩
  by_cases hbe:b=e
  . subst hbe; exact heo
  . exact ⟨u,k b u hbe q⟩
end
noncomputable def trk (h:Heap) (H:Hp):List Addr:=(List.range h.objs.size).filter fun a=>(H a).isSome
noncomputable def hidT (h:Heap) (H:Hp):Heap:=W.hideAll h (trk h H)
theorem hidT_size (h:Heap) (H:Hp):(hidT h H).objs.size=h.objs.size:=W.hideAll_size _ _
theorem hidT_get {h:Heap} {H:Hp} {b:Addr} {o:Obj} (e:h.get? b=some o) (n:H b=none):(hidT h H).get? b=some o:=
  W.hideAll_get _ e fun hm=>by
    have q:(H b).isSome=true:=(List.mem_filter.mp hm).2
    rw [n] at q; simp at q
theorem of_hidT {h:Heap} {H:Hp} {b:Addr} {o:Obj} (e:(hidT h H).get? b=some o):h.get? b=some o/\H b=none:=by
  have e':h.get? b=some o:=W.of_hideAll (trk h H) e
  refine ⟨e',?_⟩
  cases q:H b with
  | none=>rfl
  | some x=>
    have hm:b ∈ trk h H:=List.mem_filter.mpr ⟨List.mem_range.mpr (Heap.lt_size e'),by simp [q]⟩
    have z:(hidT h H).get? b=none:=W.hideAll_none (trk h H) hm
    rw [z] at e; cases e
end L2
namespace L2
open PySem PySem.Spec PyProof.Rows
structure Mod (K:W.Frag) (mg:Str->Option Value) (base:Heap):Prop where
  kin:K.In base
  glob:base.Ns mainGlobals mg
  blt:∃ mb,base.Ns builtinsNs mb /\ ∀ x:Str,x ≠ "__name__" -> mb x=bootBuiltins x
  nolimit:base.NoLimit
/-- the context: a def's body (or a comprehension's block) running. base: fixed through the whole law; s₀,HZ: the entry; outer: the frames whose slots others may change (a def's callers); stack: all frames that run;
   ex: iterators that were made ahead of the entry and are walked here (a comprehension's); fn: the names whose cells were made at the entry (a def: all; a comprehension's block: its own); calm: not within an except suite; pn: pins that every state bears; xe: what is wanted of an exception that leaves the code -/
structure Cx where
  prog:Program
  w:World
  K:W.Frag
  mg:Str->Option Value
  base:Heap
  A:Around
  N:List Str
  s₀:Shared
  HZ:Hp
  env:Env
  outer:List Env
  stack:List Env
  ex:List Addr
  fn:Str->Bool
  calm:Bool
  pn:List (Addr × Obj)
  xe:Value->Shared->Prop
  hs:List Addr
noncomputable def frs (l:List Env):List Addr:=l.filterMap (·.frame)
noncomputable abbrev Cx.fs (X:Cx):List Addr:=frs X.outer
def Vis (sc:Scope) (x:Str):Prop:=sc.names.lookup x=some .local \/ sc.names.lookup x=some .cell \/ sc.names.lookup x=some .free
def Loc (sc:Scope) (x:Str):Prop:=sc.names.lookup x=some .local \/ sc.names.lookup x=some .cell
def Look (env:Env) (h:Heap) (m:Str->Option Value) (x:Str) (u:Value):Prop:=
  (env.kindOf x=some .local/\m x=some u) \/ ((env.kindOf x=some .cell \/ env.kindOf x=some .free) /\ ∃ c,env.cells.lookup x=some c/\h.IsCell c (some u))
structure Cx.Ok (X:Cx):Prop where
  mod:Mod X.K X.mg X.base
  kind:X.env.scope.kind=.function
  glob:X.env.globals=mainGlobals
  blt:X.env.builtins=builtinsNs
  above:X.s₀.heap.objs.size<=X.env.locals
  inj:∀ x y c,X.env.cells.lookup x=some c->X.env.cells.lookup y=some c->x=y
  has:∀ x,(X.env.kindOf x=some .cell \/ X.env.kindOf x=some .free) -> ∃ c,X.env.cells.lookup x=some c
  cab:∀ x c,X.fn x=true->X.env.cells.lookup x=some c->X.s₀.heap.objs.size<=c
  hd:X.calm=true->X.A.handled=none
  frames:X.A.frames=some X.stack
  stk:X.stack=X.outer \/ (X.stack=X.env :: X.outer/\X.env.frame=some X.env.locals)
  exf:∀ b ∈ X.ex,b ≠ X.env.locals /\ ∀ x c,X.env.cells.lookup x=some c->c ≠ b
  bs:∀ b o,X.base.get? b=some o->X.s₀.heap.get? b=some o/\X.HZ b=none
  bsz:X.base.objs.size<=X.s₀.heap.objs.size
  noex:∀ b o,X.base.get? b=some o->b ∉ X.ex
  exfs:∀ b ∈ X.ex,b ∉ X.fs
  funs:X.s₀.heap.FunFrames X.base X.outer
  frf:∀ b ∈ X.fs,X.HZ b=none
  hq:X.A.handled=none \/ ∃ a,a ∈ X.hs/\X.A.handled=some (.ref a)
structure Inv (X:Cx) (pins:List (Addr × Obj)) (σ:List (Option V)) (H:Hp) (s:Shared):Prop where
  ok:X.Ok
  os:s.os=X.s₀.os
  bare:AllBare s.gens
  base:Un X.fs X.ex X.HZ H X.s₀.heap s.heap
  loc:∃ m,s.heap.Ns X.env.locals m /\ ∀ (i:Nat) (x:Str) (v:V),X.N[i]?=some x->σ[i]?=some (some v)->Vis X.env.scope x -> ∃ u,a1W v u/\Look X.env s.heap m x u
  cell:∀ x c,X.env.cells.lookup x=some c -> ∃ v,s.heap.IsCell c v
  free:H X.env.locals=none
  freeC:∀ x c,X.env.cells.lookup x=some c->H c=none
  pin:∀ p ∈ X.pn ++ pins,s.heap.get? p.1=some p.2/\H p.1=none/\p.1 ≠ X.env.locals/\p.1 ∉ X.fs /\ ∀ v,p.2.data ≠ .cell v
  hok:HOk X.prog X.w H s.heap
  len:σ.length=X.N.length
  mild:∀ a ∈ X.hs,∃ o u,H a=some (.frz o u)/\a7k o
section
variable {X:Cx} {pins:List (Addr × Obj)} {σ:List (Option V)} {H H':Hp} {s:Shared} {h':Heap}
theorem Cx.Ok.nofr (ok:X.Ok) {b:Addr} {o:Obj} (e:X.base.get? b=some o):b ∉ X.fs:=fun hb=>by
  have:=(ok.funs.mem hb).1
  rw [e] at this; cases this
theorem Inv.bs (I:Inv X pins σ H s):∀ b o,X.base.get? b=some o->s.heap.get? b=some o/\H b=none:=fun b o e=>
  ⟨I.base.keep b o (I.ok.bs b o e).1 (I.ok.bs b o e).2 (I.ok.nofr e) (I.ok.noex b o e),I.base.free b o (I.ok.bs b o e).1 (I.ok.bs b o e).2 (I.ok.noex b o e)⟩
theorem Inv.qu (I:Inv X pins σ H s):Qu X.A s.heap:=by
  rcases I.ok.hq with e | ⟨a,ha,e⟩
  . exact .inl e
  . obtain ⟨o,u,g,m⟩:=I.mild a ha
    obtain ⟨ho,_⟩:=(show a1K X.prog X.w H s.heap a (.frz o u) from I.hok a _ g)
    exact .inr ⟨a,o,e,ho,m⟩
theorem Inv.bk (I:Inv X pins σ H s):∀ b o,X.base.get? b=some o->s.heap.get? b=some o:=fun b o e=>(I.bs b o e).1
theorem Inv.mod (I:Inv X pins σ H s):Mod X.K X.mg X.base:=I.ok.mod
theorem Inv.kIn (I:Inv X pins σ H s):X.K.In s.heap:=I.ok.mod.kin.keeps I.bk
theorem Inv.lt (I:Inv X pins σ H s):X.env.locals < s.heap.objs.size:=let ⟨_,hn,_⟩:=I.loc; hn.lt
theorem Inv.sz (I:Inv X pins σ H s):X.s₀.heap.objs.size<=s.heap.objs.size:=Nat.le_trans I.ok.above (Nat.le_of_lt I.lt)
theorem Inv.nofs (I:Inv X pins σ H s) {a:Addr} (h:s.heap.objs.size<=a):a ∉ X.fs:=fun hb=>by
  obtain ⟨_,o,ho,_⟩:=I.ok.funs.mem hb
  exact absurd (Nat.lt_of_lt_of_le (Heap.lt_size ho) (Nat.le_trans I.sz h)) (Nat.lt_irrefl _)
theorem Inv.cne (I:Inv X pins σ H s):∀ x c,X.env.cells.lookup x=some c->c ≠ X.env.locals:=fun x c e z=>by
  obtain ⟨v,o,ho,hd⟩:=I.cell x c e
  obtain ⟨m,⟨o',es,ep,ho',hd',_⟩,_⟩:=I.loc
  rw [z,ho'] at ho; cases ho; rw [hd'] at hd; cases hd
theorem Inv.funs (I:Inv X pins σ H s):s.heap.FunFrames X.base X.outer:=by
  have all:∀ (l:List Env),(∀ b ∈ frs l,b ∈ X.fs)->X.s₀.heap.FunFrames X.base l->s.heap.FunFrames X.base l:=by
    intro l
    induction l with
    | nil=>intro _ _; trivial
    | cons env r ih=>
      intro hs hl
      obtain ⟨hk,⟨L,o,hf,hn,ho,hd⟩,hr⟩:=hl
      have hL:L ∈ X.fs:=hs L (by unfold frs; rw [List.filterMap_cons,hf]; exact List.mem_cons_self)
      obtain ⟨sl,e⟩:=I.base.slot L o ho (I.ok.frf L hL) hL fun z=>I.ok.exfs L z hL
      exact ⟨hk,⟨L,_,hf,hn,e,hd⟩,ih (fun b hb=>hs b (by unfold frs; rw [List.filterMap_cons,hf]; exact List.mem_cons_of_mem _ hb)) hr⟩
  exact all X.outer (fun _ hb=>hb) I.ok.funs
theorem Inv.stack (I:Inv X pins σ H s):s.heap.FunFrames X.base X.stack:=by
  rcases I.ok.stk with e | ⟨e,hf⟩
  . rw [e]; exact I.funs
  . rw [e]
    obtain ⟨m,hn,_⟩:=I.loc
    refine .cons (by rw [I.ok.kind]; decide) hf hn ?_ I.funs
    exact Heap.get?_none_of_le (Nat.le_trans I.ok.bsz I.ok.above)
theorem Inv.stkSub (I:Inv X pins σ H s):∀ b ∈ frs X.stack,b ∈ X.env.locals :: X.fs:=fun b hb=>by
  rcases I.ok.stk with e | ⟨e,hf⟩
  . rw [e] at hb; exact List.mem_cons_of_mem _ hb
  . rw [e] at hb
    unfold frs at hb
    rw [List.filterMap_cons,hf] at hb
    exact hb
theorem Inv.stkFree (I:Inv X pins σ H s):∀ b ∈ frs X.stack,H b=none:=fun b hb=>by
  rcases List.mem_cons.mp (I.stkSub b hb) with e | hb
  . rw [e]; exact I.free
  . obtain ⟨_,o,ho,_⟩:=I.ok.funs.mem hb
    exact I.base.free b o ho (I.ok.frf b hb) fun z=>I.ok.exfs b z hb
theorem Inv.step {g':Array GenState} {t':Nat} {d':Drawn} {ch:List Addr} (I:Inv X pins σ H s)
    (hch:∀ b ∈ ch,(b ∈ X.ex \/ X.s₀.heap.objs.size<=b)/\b ≠ X.env.locals/\(∀ x c,X.env.cells.lookup x=some c->c ≠ b) /\ ∀ p ∈ X.pn ++ pins,p.1 ≠ b)
    (keep:∀ b o,b ≠ X.env.locals->b ∉ X.fs->b ∉ ch->s.heap.get? b=some o->H b=none->h'.get? b=some o)
    (slot:∀ b o,b ≠ X.env.locals->b ∈ X.fs->b ∉ ch->s.heap.get? b=some o->H b=none -> ∃ sl,h'.get? b=some { o with slots:=sl }) (free:∀ b o,b ∉ ch->s.heap.get? b=some o->H b=none->H' b=none)
    (there:∀ b o,b ∉ ch->s.heap.get? b=some o -> ∃ o',h'.get? b=some o')
    (tups:∀ b xs,H b=some (.tup xs)->H' b=some (.tup xs)) (frzs:∀ b o u,H b=some (.frz o u)->H' b=some (.frz o u)) (tbls:∀ b ps,H b=some (.tbl ps) -> ∃ more,H' b=some (.tbl (ps ++ more)))
    (ns:∀ m,s.heap.Ns X.env.locals m->h'.Ns X.env.locals m) (hok:HOk X.prog X.w H' h') (hg:AllBare g'):
    Inv X pins σ H' { s with heap:=h',gens:=g',drawn:=d',toks:=t' }:=by
  have neL:∀ b o,X.s₀.heap.get? b=some o->b ≠ X.env.locals:=fun b o e=>Nat.ne_of_lt (Nat.lt_of_lt_of_le (Heap.lt_size e) I.ok.above)
  have neC:∀ b o,X.s₀.heap.get? b=some o->b ∉ X.ex->b ∉ ch:=fun b o e hx hb=>by
    rcases (hch b hb).1 with z | z
    . exact hx z
    . exact absurd (Nat.lt_of_lt_of_le (Heap.lt_size e) z) (Nat.lt_irrefl _)
  have cellK:∀ x c,X.env.cells.lookup x=some c -> ∀ v,s.heap.IsCell c v->h'.IsCell c v:=fun x c e v ⟨o,ho,hd⟩=>by
    have nch:c ∉ ch:=fun z=>(hch c z).2.2.1 x c e rfl
    by_cases hc:c ∈ X.fs
    . obtain ⟨sl,q⟩:=slot c o (I.cne x c e) hc nch ho (I.freeC x c e)
      exact ⟨_,q,hd⟩
    . exact ⟨o,keep c o (I.cne x c e) hc nch ho (I.freeC x c e),hd⟩
  refine ⟨I.ok,I.os,hg,⟨fun b o e n hb hx=>?_,fun b o e n hb hx=>?_,fun b o e n hx=>?_,fun b o e hx=>?_,fun b xs e=>tups b xs (I.base.tups b xs e),fun b o xs e=>frzs b o xs (I.base.frzs b o xs e),fun b ps e=>?_⟩,?_,fun x c e=>?_,?_,fun x c e=>?_,fun p hp=>?_,hok,I.len,fun a ha=>let ⟨o,u,g,m⟩:=I.mild a ha; ⟨o,u,frzs a o u g,m⟩⟩
  . exact keep b o (neL b o e) hb (neC b o e hx) (I.base.keep b o e n hb hx) (I.base.free b o e n hx)
  . obtain ⟨sl,e1⟩:=I.base.slot b o e n hb hx
    obtain ⟨sl',e2⟩:=slot b _ (neL b o e) hb (neC b o e hx) e1 (I.base.free b o e n hx)
    exact ⟨sl',e2⟩
  . obtain ⟨o',e1⟩:=I.base.there b o e hx
    exact free b o' (neC b o e hx) e1 (I.base.free b o e n hx)
  . obtain ⟨o',e1⟩:=I.base.there b o e hx
    exact there b o' (neC b o e hx) e1
  . obtain ⟨m1,e1⟩:=I.base.tbls b ps e
    obtain ⟨m2,e2⟩:=tbls b _ e1
    exact ⟨m1 ++ m2,by rw [e2,Array.append_assoc]⟩
  . obtain ⟨m,hn,hl⟩:=I.loc
    refine ⟨m,ns m hn,fun i x v e1 e2 e3=>?_⟩
    obtain ⟨u,r,l⟩:=hl i x v e1 e2 e3
    refine ⟨u,r,?_⟩
    rcases l with l | ⟨k,c,e,z⟩
    . exact .inl l
    . exact .inr ⟨k,c,e,cellK x c e _ z⟩
  . obtain ⟨v,z⟩:=I.cell x c e
    exact ⟨v,cellK x c e v z⟩
  . obtain ⟨m,⟨o,_,_,ho,_⟩,_⟩:=I.loc
    exact free _ o (fun z=>(hch _ z).2.1 rfl) ho I.free
  . obtain ⟨v,o,ho,hd⟩:=I.cell x c e
    exact free c o (fun z=>(hch c z).2.2.1 x c e rfl) ho (I.freeC x c e)
  . obtain ⟨e,n,ne,nf,d⟩:=I.pin p hp
    have nch:p.1 ∉ ch:=fun z=>(hch p.1 z).2.2.2 p hp rfl
    exact ⟨keep p.1 p.2 ne nf nch e n,free p.1 p.2 nch e n,ne,nf,d⟩
theorem Inv.un {t':Nat} (I:Inv X pins σ H s) (u:Un X.fs [] H H' s.heap h') (hok:HOk X.prog X.w H' h'):Inv X pins σ H' { s with heap:=h',toks:=t' }:=by
  obtain ⟨m,⟨o,es,ep,ho,r⟩,_⟩:=id I.loc
  obtain ⟨sl,hL⟩:=u.any ho I.free (by simp)
  exact I.step (g':=s.gens) (d':=s.drawn) (ch:=[]) (fun _ z=>nomatch z) (fun b o _ hb _ e n=>u.keep b o e n hb (by simp)) (fun b o _ hb _ e n=>u.slot b o e n hb (by simp)) (fun b o _ e n=>u.free b o e n (by simp)) (fun b o _ e=>u.there b o e (by simp)) u.tups u.frzs u.tbls (fun m' hm=>by
    obtain ⟨o',es',ep',ho',r'⟩:=hm
    rw [ho] at ho'; cases ho'
    exact ⟨_,es',ep',hL,r'⟩) hok I.bare
theorem Inv.call {g':Array GenState} {t':Nat} {d':Drawn} {ch:List Addr} (I:Inv X pins σ H s) (u:Un (frs X.stack) ch H H' s.heap h') (hok:HOk X.prog X.w H' h') (hg:AllBare g')
    (hch:∀ b ∈ ch,(b ∈ X.ex \/ X.s₀.heap.objs.size<=b)/\b ≠ X.env.locals/\(∀ x c,X.env.cells.lookup x=some c->c ≠ b) /\ ∀ p ∈ X.pn ++ pins,p.1 ≠ b):
    Inv X pins σ H' { s with heap:=h',gens:=g',drawn:=d',toks:=t' }:=by
  obtain ⟨m,⟨o,es,ep,ho,r⟩,_⟩:=id I.loc
  obtain ⟨sl,hL⟩:=u.any ho I.free fun z=>(hch _ z).2.1 rfl
  exact I.step (ch:=ch) hch (fun b o hL hb hc e n=>u.keep b o e n (fun z=>(List.mem_cons.mp (I.stkSub b z)).elim hL hb) hc) (fun b o _ _ hc e n=>u.any e n hc) (fun b o hc e n=>u.free b o e n hc) (fun b o hc e=>u.there b o e hc) u.tups u.frzs u.tbls (fun m' hm=>by
    obtain ⟨o',es',ep',ho',r'⟩:=hm
    rw [ho] at ho'; cases ho'
    exact ⟨_,es',ep',hL,r'⟩) hok hg
theorem Inv.turned {t':Nat} {it:Addr} (I:Inv X pins σ H s) (k:∀ b o,b ≠ it->s.heap.get? b=some o->h'.get? b=some o) (hn:H it=none) (hL:it ≠ X.env.locals)
    (h1:it ∈ X.ex \/ X.s₀.heap.objs.size<=it) (h2:∀ x c,X.env.cells.lookup x=some c->c ≠ it) (h3:∀ p ∈ X.pn ++ pins,p.1 ≠ it):Inv X pins σ H { s with heap:=h',toks:=t' }:=by
  have nit:∀ b u,H b=some u->b ≠ it:=fun b u e z=>by rw [z,hn] at e; cases e
  refine I.step (g':=s.gens) (d':=s.drawn) (ch:=[it]) (fun b hb=>?_) (fun b o _ _ hc e _=>k b o (fun z=>hc (by simp [z])) e) (fun b o _ _ hc e _=>⟨o.slots,k b o (fun z=>hc (by simp [z])) e⟩) (fun _ _ _ _ n=>n)
    (fun b o hc e=>⟨o,k b o (fun z=>hc (by simp [z])) e⟩) (fun _ _ e=>e) (fun _ _ _ e=>e) (fun b ps e=>⟨#[],by rw [e]; simp⟩) (fun m hm=>?_) (fun b u e=>?_) I.bare
  . have e:b=it:=by simpa using hb
    subst e
    exact ⟨h1,hL,h2,h3⟩
  . obtain ⟨o,es,ep,ho,r⟩:=hm
    exact ⟨o,es,ep,k _ o (Ne.symm hL) ho,r⟩
  . refine (I.hok b u e).stay (fun c v hc q=>k c v ?_ q) (fun _ q=>q) (fun _ _ q=>q) fun _ _ q=>q
    rcases hc with z | z
    . rw [z]; exact nit b u e
    . exact nit c _ z
theorem Inv.tok (I:Inv X pins σ H s) (t:Nat):Inv X pins σ H { s with toks:=t }:=I.un (h':=s.heap) (t':=t) Un.refl I.hok
theorem Inv.kept {t':Nat} (I:Inv X pins σ H s) (k:∀ b u,s.heap.get? b=some u->h'.get? b=some u):Inv X pins σ H { s with heap:=h',toks:=t' }:=I.un (Un.kept k) (I.hok.kept k)
theorem Inv.laid {a:Addr} {o:HO} {t':Nat} (I:Inv X pins σ H s) (k:∀ b u,s.heap.get? b=some u->h'.get? b=some u) (hp:s.heap.objs.size<=a) (new:a1K X.prog X.w (upd H a o) h' a o):
    Inv X pins σ (upd H a o) { s with heap:=h',toks:=t' }:=I.un (Un.laid k hp (I.hok.fresh hp)) (I.hok.laid k hp new)
theorem Inv.write {x e:Addr} {o:HO} {t':Nat} (I:Inv X pins σ H s) (mu:Mut (H x)) (he:e=x \/ H e=some (.own x)) (k:∀ b u,b ≠ e->s.heap.get? b=some u->h'.get? b=some u) (heo:∃ u,h'.get? e=some u)
    (new:a1K X.prog X.w (upd H x o) h' x o):Inv X pins σ (upd H x o) { s with heap:=h',toks:=t' }:=I.un (Un.write mu he k heo) (I.hok.write mu he k heo new)
theorem Inv.pins_of {pins':List (Addr × Obj)} (I:Inv X pins σ H s) (h:∀ p ∈ pins',s.heap.get? p.1=some p.2/\H p.1=none/\p.1 ≠ X.env.locals/\p.1 ∉ X.fs /\ ∀ v,p.2.data ≠ .cell v):Inv X pins' σ H s:=
  ⟨I.ok,I.os,I.bare,I.base,I.loc,I.cell,I.free,I.freeC,fun p hp=>(List.mem_append.mp hp).elim (fun z=>I.pin p (List.mem_append_left _ z)) (h p),I.hok,I.len,I.mild⟩
theorem a8l {N:List Str} (hN:N.Nodup) {i j:Nat} {x:Str} (a:N[i]?=some x) (b:N[j]?=some x):i=j:=by
  obtain ⟨h1,e1⟩:=List.getElem?_eq_some_iff.mp a
  obtain ⟨h2,e2⟩:=List.getElem?_eq_some_iff.mp b
  exact (List.getElem_inj hN).mp (e1.trans e2.symm)
theorem a8R {M:Model} {A:Around} {E:Value->Shared->Prop} {i:Nat} {x:Str} {v:V} {u:Value} {Q:Unit->Shared->Prop} (I:Inv X pins σ H s) (hN:X.N.Nodup) (hi:X.N[i]?=some x) (hx:Loc X.env.scope x) (r:a1W v u)
    (h:∀ s',Inv X pins (σ.set i (some v)) H s'->(∃ a,Heap.SameBut a s.heap s'.heap/\(a=X.env.locals \/ X.env.cells.lookup x=some a))->Q () s') (hf:X.fn x=true \/ X.env.scope.names.lookup x=some .local:=by first | exact .inl rfl | exact .inr rfl | assumption):wpAny M A (storeName X.env x u) Q E s:=by
  obtain ⟨m,hn,hl⟩:=id I.loc
  have hcls:(X.env.scope.kind == .class || (X.env.scope.kind == .module && X.env.locals != X.env.globals))=false:=by rw [I.ok.kind]; rfl
  have hiσ:i < σ.length:=by rw [I.len]; exact (List.getElem?_eq_some_iff.mp hi).1
  have cne:=I.cne
  have tracked:∀ {a:Addr} {h':Heap},(∃ o,s.heap.get? a=some o/\H a=none)->Heap.SameBut a s.heap h'->HOk X.prog X.w H h':=fun {a h'} ha hs b ob e=>by
    obtain ⟨_,_,hfree⟩:=ha
    refine (I.hok b ob e).stay (fun c w' hc q=>(hs.2 c ?_).trans q) (fun _ q=>q) (fun _ _ q=>q) fun _ _ q=>q
    rintro rfl
    rcases hc with rfl | hc
    . rw [hfree] at e; cases e
    . rw [hfree] at hc; cases hc
  rcases hx with hk | hk
  . refine wpAny_storeName_local hk hn (fun h' hn' hs=>?_) hcls
    obtain ⟨oL,_,_,hoL,_⟩:=id hn
    refine h _ ⟨I.ok,I.os,I.bare,⟨fun b o e n hb hx=>?_,fun b o e n hb hx=>?_,I.base.free,fun b o e hx=>?_,I.base.tups,I.base.frzs,I.base.tbls⟩,⟨_,hn',fun j y v' e1 e2 e3=>?_⟩,fun y c e=>?_,I.free,I.freeC,fun p hp=>?_,tracked ⟨oL,hoL,I.free⟩ hs,by simpa using I.len,I.mild⟩ ⟨_,hs,.inl rfl⟩
    . exact (hs.2 b (Nat.ne_of_lt (Nat.lt_of_lt_of_le (Heap.lt_size e) I.ok.above))).trans (I.base.keep b o e n hb hx)
    . obtain ⟨sl,e1⟩:=I.base.slot b o e n hb hx
      exact ⟨sl,(hs.2 b (Nat.ne_of_lt (Nat.lt_of_lt_of_le (Heap.lt_size e) I.ok.above))).trans e1⟩
    . obtain ⟨o',e1⟩:=I.base.there b o e hx
      exact ⟨o',(hs.2 b (Nat.ne_of_lt (Nat.lt_of_lt_of_le (Heap.lt_size e) I.ok.above))).trans e1⟩
    . by_cases hj:j=i
      . subst hj
        rw [hi] at e1; cases e1
        rw [List.getElem?_set_self hiσ] at e2
        cases e2
        exact ⟨u,r,.inl ⟨hk,by simp⟩⟩
      . rw [List.getElem?_set_ne (Ne.symm hj)] at e2
        obtain ⟨u',r',q⟩:=hl j y v' e1 e2 e3
        refine ⟨u',r',?_⟩
        rcases q with ⟨k,e⟩ | ⟨k,c,e,z⟩
        . refine .inl ⟨k,?_⟩
          have:y ≠ x:=fun e=>hj (a8l hN e1 (e ▸ hi))
          simp [this,e]
        . exact .inr ⟨k,c,e,z.sameBut hs (cne y c e)⟩
    . obtain ⟨w',z⟩:=I.cell y c e
      exact ⟨w',z.sameBut hs (cne y c e)⟩
    . obtain ⟨e,n,ne,nf,d⟩:=I.pin p hp
      exact ⟨(hs.2 p.1 ne).trans e,n,ne,nf,d⟩
  . have hfn:X.fn x=true:=by
      rcases hf with z | z
      . exact z
      . rw [z] at hk; cases hk
    obtain ⟨c,hc⟩:=I.ok.has x (.inl hk)
    obtain ⟨w',z⟩:=I.cell x c hc
    refine wpAny_storeName_cell I.ok.kind hk hc z (fun h' hc' hs=>?_)
    obtain ⟨oc,hoc,hocd⟩:=id z
    refine h { s with heap:=h' } ⟨I.ok,I.os,I.bare,⟨fun b o e n hb hx=>?_,fun b o e n hb hx=>?_,I.base.free,fun b o e hx=>?_,I.base.tups,I.base.frzs,I.base.tbls⟩,⟨m,hn.sameBut hs (Ne.symm (cne x c hc)),fun j y v' e1 e2 e3=>?_⟩,fun y c' e=>?_,I.free,I.freeC,fun p hp=>?_,tracked ⟨oc,hoc,I.freeC x c hc⟩ hs,by simpa using I.len,I.mild⟩ ⟨c,hs,.inr hc⟩
    . exact (hs.2 b (Nat.ne_of_lt (Nat.lt_of_lt_of_le (Heap.lt_size e) (I.ok.cab x c hfn hc)))).trans (I.base.keep b o e n hb hx)
    . obtain ⟨sl,e1⟩:=I.base.slot b o e n hb hx
      exact ⟨sl,(hs.2 b (Nat.ne_of_lt (Nat.lt_of_lt_of_le (Heap.lt_size e) (I.ok.cab x c hfn hc)))).trans e1⟩
    . obtain ⟨o',e1⟩:=I.base.there b o e hx
      exact ⟨o',(hs.2 b (Nat.ne_of_lt (Nat.lt_of_lt_of_le (Heap.lt_size e) (I.ok.cab x c hfn hc)))).trans e1⟩
    . by_cases hj:j=i
      . subst hj
        rw [hi] at e1; cases e1
        rw [List.getElem?_set_self hiσ] at e2
        cases e2
        exact ⟨u,r,.inr ⟨.inl hk,c,hc,hc'⟩⟩
      . rw [List.getElem?_set_ne (Ne.symm hj)] at e2
        obtain ⟨u',r',q⟩:=hl j y v' e1 e2 e3
        refine ⟨u',r',?_⟩
        rcases q with q | ⟨k,c',e,z'⟩
        . exact .inl q
        . refine .inr ⟨k,c',e,z'.sameBut hs ?_⟩
          rintro rfl
          exact hj (a8l hN e1 (I.ok.inj _ _ _ e hc ▸ hi))
    . by_cases hcc:c'=c
      . subst hcc; exact ⟨_,hc'⟩
      . obtain ⟨w2,z2⟩:=I.cell y c' e
        exact ⟨w2,z2.sameBut hs hcc⟩
    . obtain ⟨e,n,ne,nf,d⟩:=I.pin p hp
      refine ⟨(hs.2 p.1 ?_).trans e,n,ne,nf,d⟩
      intro q
      rw [q,hoc] at e
      have q':oc=p.2:=Option.some.inj e
      exact d w' (by rw [<- q']; exact hocd)
theorem a5a {M:Model} {A:Around} {E:Value->Shared->Prop} {i:Nat} {x:Str} {v:V} {u:Value} {Q:Unit->Shared->Prop} (I:Inv X pins σ H s) (hN:X.N.Nodup) (hi:X.N[i]?=some x) (hx:Loc X.env.scope x) (r:a1W v u)
    (h:∀ s',Inv X pins (σ.set i (some v)) H s'->Q () s') (hf:X.fn x=true \/ X.env.scope.names.lookup x=some .local:=by first | exact .inl rfl | exact .inr rfl | assumption):wpAny M A (storeName X.env x u) Q E s:=
  a8R I hN hi hx r (fun s' I' _=>h s' I') hf
theorem Inv.call' {s':Shared} {ch:List Addr} (I:Inv X pins σ H s) (ho:s'.os=s.os) (u:Un (frs X.stack) ch H H' s.heap s'.heap) (hok:HOk X.prog X.w H' s'.heap) (hg:AllBare s'.gens)
    (hch:∀ b ∈ ch,(b ∈ X.ex \/ X.s₀.heap.objs.size<=b)/\b ≠ X.env.locals/\(∀ x c,X.env.cells.lookup x=some c->c ≠ b) /\ ∀ p ∈ X.pn ++ pins,p.1 ≠ b):Inv X pins σ H' s':=by
  obtain ⟨h',g',d',t',o'⟩:=s'
  have e:o'=s.os:=ho
  subst e
  exact I.call (g':=g') (t':=t') (d':=d') u hok hg hch
end
abbrev XK:=Value->Option Addr->Hp->Prop
noncomputable abbrev St:=List (Option V)
abbrev VK:=V->Hp->Prop
abbrev TE:=St->Hp->VK->Prop
abbrev TT:=St->Hp->(Bool->Hp->Prop)->Prop
abbrev TA:=St->Hp->(List V->Hp->Prop)->Prop
structure Ends where
  nx:St->Hp->Prop
  rt:VK
  bk:St->Hp->Prop:=fun _ _=>False
  ct:St->Hp->Prop:=fun _ _=>False
abbrev TS:=Ends->St->Hp->Prop
inductive EP (X:Cx) (pins:List (Addr × Obj)) (σ:St) (Q:VK) (u:Value) (s':Shared):Prop
  | mk (v:V) (H':Hp) (I:Inv X pins σ H' s') (r:a1W v u) (q:Q v H')
inductive TP (X:Cx) (pins:List (Addr × Obj)) (σ:St) (Q:Bool->Hp->Prop) (b:Bool) (s':Shared):Prop
  | mk (H':Hp) (I:Inv X pins σ H' s') (q:Q b H')
inductive AP (X:Cx) (pins:List (Addr × Obj)) (σ:St) (Q:List V->Hp->Prop) (us:List Value) (s':Shared):Prop
  | mk (vs:List V) (H':Hp) (I:Inv X pins σ H' s') (r:a1u vs us) (q:Q vs H')
inductive NP (X:Cx) (pins:List (Addr × Obj)) (P:St->Hp->Prop) (s':Shared):Prop
  | mk (σ':St) (H':Hp) (I:Inv X pins σ' H' s') (q:P σ' H')
inductive RP (X:Cx) (pins:List (Addr × Obj)) (P:VK) (u:Value) (s':Shared):Prop
  | mk (v:V) (σ':St) (H':Hp) (I:Inv X pins σ' H' s') (r:a1W v u) (q:P v H')
def SP (X:Cx) (pins:List (Addr × Obj)) (D:Ends) (f:Flow) (s':Shared):Prop:=
  match f with
  | .next=>NP X pins D.nx s'
  | .brk=>NP X pins D.bk s'
  | .cont=>NP X pins D.ct s'
  | .ret u=>RP X pins D.rt u s'
def PE (X:Cx) (e:Expr) (t:TE):Prop:=
  ∀ (pins:List (Addr × Obj)) (s:Shared) (σ:St) (H:Hp) (Q:VK),Inv X pins σ H s->t σ H Q->wpAny (model X.prog X.w) X.A (eval e X.env) (EP X pins σ Q) X.xe s
def PT (X:Cx) (e:Expr) (t:TT):Prop:=
  ∀ (pins:List (Addr × Obj)) (s:Shared) (σ:St) (H:Hp) (Q:Bool->Hp->Prop),Inv X pins σ H s->t σ H Q->wpAny (model X.prog X.w) X.A (isTrue e X.env (eval e X.env)) (TP X pins σ Q) X.xe s
def PW (X:Cx) (e:Expr) (t:TT):Prop:=
  ∀ (whole:Sem Value) (pins:List (Addr × Obj)) (s:Shared) (σ:St) (H:Hp) (Q:Bool->Hp->Prop),Inv X pins σ H s->t σ H Q->wpAny (model X.prog X.w) X.A (isTrue e X.env whole) (TP X pins σ Q) X.xe s
theorem PW.pt {X:Cx} {e:Expr} {t:TT} (h:PW X e t):PT X e t:=h _
def PA (X:Cx) (es:List Expr) (t:TA):Prop:=
  ∀ (pos:Pos) (pins:List (Addr × Obj)) (s:Shared) (σ:St) (H:Hp) (Q:List V->Hp->Prop),Inv X pins σ H s->t σ H Q->wpAny (model X.prog X.w) X.A (spliced (backTo pos (starEach es X.env))) (AP X pins σ Q) X.xe s
def PS (X:Cx) (st:Stmt) (t:TS):Prop:=
  ∀ (pins:List (Addr × Obj)) (s:Shared) (σ:St) (H:Hp) (D:Ends),Inv X pins σ H s->t D σ H->wpAny (model X.prog X.w) X.A (exec st X.env) (SP X pins D) X.xe s
def PSs (X:Cx) (st:List Stmt) (t:TS):Prop:=
  ∀ (pins:List (Addr × Obj)) (s:Shared) (σ:St) (H:Hp) (D:Ends),Inv X pins σ H s->t D σ H->wpAny (model X.prog X.w) X.A (execs st X.env) (SP X pins D) X.xe s
theorem thn {α:Type} {t:Sem α} {Q Q':α->Shared->Prop} {M:Model} {A:Around} {E:Value->Shared->Prop} {s:Shared} (h:wpAny M A t Q E s) (hQ:∀ a s,Q a s->Q' a s):wpAny M A t Q' E s:=wpAny_mono h hQ fun _ _ x=>x
end L2
namespace L2
open PySem PySem.Spec PyProof.Rows
section
variable {X:Cx}
def tVar (i:Nat):TE:=fun σ H Q=>∃ v,σ[i]?=some (some v)/\Q v H
def tC (v:V):TE:=fun _ H Q=>Q v H
theorem pe_var {i:Nat} {x:Str} {pos:Pos} (hN:X.N[i]?=some x) (hv:Vis X.env.scope x) (hd:(x == ("__debug__" : Str))=false:=by decide) (hcd:(x == ("__classdict__" : Str))=false:=by decide):PE X (.Name x pos) (tVar i):=by
  intro pins s σ H Q I h
  obtain ⟨v,e,h⟩:=h
  obtain ⟨m,hn,hl⟩:=I.loc
  obtain ⟨u,r,l⟩:=hl i x v hN e hv
  have fin:EP X pins σ Q u s:=⟨v,H,I,r,h⟩
  rcases l with ⟨hk,hm⟩ | ⟨hk,c,hc,hcell⟩
  . exact wpAny_Name (wpAny_loadName_local I.ok.kind hk hn hm fin) hd
  . rcases hk with hk | hk
    . exact wpAny_Name (wpAny_loadName_cell I.ok.kind hk hc hcell fin) hd
    . exact wpAny_Name (wpAny_loadName_free I.ok.kind hk hc hcell fin hcd) hd
theorem pe_int {i j pos}:PE X (.Constant (.int i) j pos) (tC (.int i)):=fun _ _ _ H _ I h=>wpAny_Constant_int ⟨.int i,H,I.tok _,⟨_,rfl⟩,h⟩
theorem pe_bl {b j pos}:PE X (.Constant (.bool b) j pos) (tC (.bl b)):=fun _ _ _ H _ I h=>Constant_bool ⟨.bl b,H,I,rfl,h⟩
theorem pe_non {j pos}:PE X (.Constant .none j pos) (tC .non):=fun _ _ _ H _ I h=>Constant_none ⟨.non,H,I,rfl,h⟩
theorem pe_str {x j pos}:PE X (.Constant (.str x) j pos) (tC (.str x)):=fun _ _ _ H _ I h=>Calls.Constant_str ⟨.str x,H,I.tok _,⟨_,rfl⟩,h⟩
def Gl (X:Cx) (x:Str):Prop:=X.env.kindOf x=some .globalImplicit
theorem a4d {E:Value->Shared->Prop} {pins:List (Addr × Obj)} {s:Shared} {σ:St} {H:Hp} {x:Str} {u:Value} {pos:Pos} {Q:Value->Shared->Prop} (I:Inv X pins σ H s) (hg:Gl X x) (hm:X.mg x=some u) (h:Q u s)
    (hd:(x == ("__debug__" : Str))=false:=by decide):wpAny (model X.prog X.w) X.A (eval (.Name x pos) X.env) Q E s:=
  Calls.Name_function_global I.ok.kind hg (Calls.loadGlobal_global (by rw [I.ok.glob]; exact I.mod.glob.keeps I.bk) hm h) hd
theorem a6L {E:Value->Shared->Prop} {pins:List (Addr × Obj)} {s:Shared} {σ:St} {H:Hp} {x:Str} {u:Value} {pos:Pos} {Q:Value->Shared->Prop} (I:Inv X pins σ H s) (hg:Gl X x) (hm:X.mg x=none) (hv:bootBuiltins x=some u) (h:Q u s)
    (hn:x ≠ "__name__" := by decide) (hd:(x == ("__debug__" : Str))=false:=by decide):wpAny (model X.prog X.w) X.A (eval (.Name x pos) X.env) Q E s:=by
  obtain ⟨mb,h1,h2⟩:=I.mod.blt
  exact Calls.Name_function_global I.ok.kind hg (Calls.loadGlobal_builtin (by rw [I.ok.glob]; exact I.mod.glob.keeps I.bk) hm (by rw [I.ok.blt]; exact h1.keeps I.bk) ((h2 x hn).trans hv) h) hd
theorem a9U {x:Str} {v:V} {u:Value} {pos:Pos} (hg:Gl X x) (hm:X.mg x=some u) (r:a1W v u) (hd:(x == ("__debug__" : Str))=false:=by decide):PE X (.Name x pos) (tC v):=
  fun _ _ _ H _ I h=>a4d I hg hm ⟨v,H,I,r,h⟩ hd
theorem a3q {x:Str} {v:V} {u:Value} {pos:Pos} (hg:Gl X x) (hm:X.mg x=none) (hv:bootBuiltins x=some u) (r:a1W v u) (hn:x ≠ "__name__" := by decide) (hd:(x == ("__debug__" : Str))=false:=by decide):PE X (.Name x pos) (tC v):=
  fun _ _ _ H _ I h=>a6L I hg hm hv ⟨v,H,I,r,h⟩ hn hd
variable {a b:Expr} {ta tb:TE} {pos:Pos}
variable {tA tB':TT} {rest:List Expr}
def tOr (t u:TT):TT:=fun σ H Q=>t σ H fun c H1=>if c=true then Q true H1 else u σ H1 Q
def tNot (t:TT):TT:=fun σ H Q=>t σ H fun c H1=>Q (!c) H1
theorem pw_or1 (ha:PT X a tA):PW X (.BoolOp .Or [a] pos) tA:=by
  intro wh pins s σ H Q I h
  refine isTrue_or (thn (ha pins s σ H Q I h) fun c s1 e=>?_)
  cases c with
  | false=>exact isTrue_or_nil e
  | true=>exact e
theorem pw_or (ha:PT X a tA) (hb:PW X (.BoolOp .Or (b :: rest) pos) tB'):PW X (.BoolOp .Or (a :: b :: rest) pos) (tOr tA tB'):=by
  intro wh pins s σ H Q I h
  refine isTrue_or (thn (ha pins s σ H _ I h) fun c s1 ⟨H1,I1,q1⟩=>?_)
  cases c with
  | true=>exact ⟨H1,I1,q1⟩
  | false=>exact hb wh pins s1 σ H1 Q I1 q1
theorem pt_not (ha:PT X a tA):PT X (.UnaryOp .Not a pos) (tNot tA):=by
  intro pins s σ H Q I h
  exact isTrue_not (thn (ha pins s σ H (fun c H1=>Q (!c) H1) I h) fun c s' z=>by cases z; exact ⟨_,by assumption,by assumption⟩)
def tAndV (ta tb:TE):TE:=fun σ H Q=>ta σ H fun x H1=>∃ c,x=.bl c/\if c=true then tb σ H1 Q else Q (.bl false) H1
def tOrV (ta tb:TE):TE:=fun σ H Q=>ta σ H fun x H1=>∃ c,x=.bl c/\if c=true then Q (.bl true) H1 else tb σ H1 Q
def tNotV (ta:TE):TE:=fun σ H Q=>ta σ H fun x H1=>∃ c,x=.bl c/\Q (.bl (!c)) H1
theorem pe_one {op} {t:TE} (h:PE X a t):PE X (.BoolOp op [a] pos) t:=fun pins s σ H Q I hw=>BoolOp_one (h pins s σ H Q I hw)
theorem pe_and (ha:PE X a ta) (hb:PE X (.BoolOp .And (b :: rest) pos) tb):PE X (.BoolOp .And (a :: b :: rest) pos) (tAndV ta tb):=by
  intro pins s σ H Q I h
  refine BoolOp_and (thn (ha pins s σ H _ I h) fun v s1 ⟨x,H1,I1,r1,q1⟩=>?_)
  obtain ⟨c,rfl,q1⟩:=q1
  cases r1
  refine wpAny_truthy_bool ?_
  cases c with
  | true=>exact hb pins s1 σ H1 Q I1 q1
  | false=>exact ⟨.bl false,H1,I1,rfl,q1⟩
theorem pe_or (ha:PE X a ta) (hb:PE X (.BoolOp .Or (b :: rest) pos) tb):PE X (.BoolOp .Or (a :: b :: rest) pos) (tOrV ta tb):=by
  intro pins s σ H Q I h
  refine BoolOp_or (thn (ha pins s σ H _ I h) fun v s1 ⟨x,H1,I1,r1,q1⟩=>?_)
  obtain ⟨c,rfl,q1⟩:=q1
  cases r1
  refine wpAny_truthy_bool ?_
  cases c with
  | false=>exact hb pins s1 σ H1 Q I1 q1
  | true=>exact ⟨.bl true,H1,I1,rfl,q1⟩
theorem pe_not (ha:PE X a ta):PE X (.UnaryOp .Not a pos) (tNotV ta):=by
  intro pins s σ H Q I h
  refine UnaryOp_ (thn (ha pins s σ H _ I h) fun v s1 ⟨x,H1,I1,r1,q1⟩=>?_)
  obtain ⟨c,rfl,q1⟩:=q1
  cases r1
  exact not_of (wpAny_truthy_bool ⟨.bl (!c),H1,I1,rfl,q1⟩)
def tIf (t:TT) (ta tb:TE):TE:=fun σ H Q=>t σ H fun c H1=>if c=true then ta σ H1 Q else tb σ H1 Q
theorem pe_ifExp {c:Expr} (hc:PT X c tA) (ha:PE X a ta) (hb:PE X b tb):PE X (.IfExp c a b pos) (tIf tA ta tb):=by
  intro pins s σ H Q I h
  refine wpAny_IfExp (thn (hc pins s σ H _ I h) fun d s1 ⟨H1,I1,q1⟩=>?_)
  cases d with
  | true=>exact ha pins s1 σ H1 Q I1 q1
  | false=>exact hb pins s1 σ H1 Q I1 q1
end
end L2
namespace L2
open PySem PySem.Spec PyProof.Rows
def SqL (K:W.Frag) (H:Hp) (a:Addr) (xs:List V):Prop:=
  Rd H a (.lst xs) \/
    ∃ (o:Obj) (its:Array Value) (n:Nat),K.lookup a=some o/\o.cls=.type "list" /\ o.dict=none/\o.data=.seq its n/\its.size<=sizeLine/\a1u xs its.toList
def SqT (K:W.Frag) (H:Hp) (a:Addr) (xs:List V):Prop:=
  Rd H a (.tup xs) \/
    ∃ (o:Obj) (its:Array Value) (n:Nat),K.lookup a=some o/\o.cls=.type "tuple" /\ o.data=.seq its n/\its.size<=sizeLine/\a1u xs its.toList
noncomputable def absV:Value->Option V
  | .none=>some .non
  | .bool b=>some (.bl b)
  | .int i _=>some (.int i)
  | .str x _=>some (.str x)
  | .bytes b _=>some (.byt b)
  | .float b _=>some (.flt b)
  | .ref a=>some (.ref a)
  | .type n=>some (.ty n)
  | _=>none
theorem a1W.abs {x:V} {u:Value} (r:a1W x u):absV u=some x:=by
  cases x with
  | non=>cases r; rfl
  | bl _=>cases r; rfl
  | int _=>obtain ⟨t,rfl⟩:=r; rfl
  | str _=>obtain ⟨t,rfl⟩:=r; rfl
  | byt _=>obtain ⟨t,rfl⟩:=r; rfl
  | flt _=>obtain ⟨t,rfl⟩:=r; rfl
  | ref _=>cases r; rfl
  | ty _=>cases r; rfl
theorem a1W.inj {x y:V} {u:Value} (r:a1W x u) (q:a1W y u):x=y:=Option.some.inj (r.abs.symm.trans q.abs)
theorem a1u.inj:∀ {xs ys:List V} {us:List Value},a1u xs us->a1u ys us->xs=ys
  | _,_,_,.nil,.nil=>rfl
  | _,_,_,.cons r t,.cons r' t'=>by rw [r.inj r',a1u.inj t t']
section
variable {X:Cx} {pins:List (Addr × Obj)} {σ:St} {H:Hp} {s:Shared} {a:Addr} {xs ys:List V}
theorem SqL.of {K:W.Frag} (h:H a=some (.lst xs)):SqL K H a xs:=.inl (.inl h)
theorem SqT.of {K:W.Frag} (h:H a=some (.tup xs)):SqT K H a xs:=.inl (.inl h)
theorem Inv.list (I:Inv X pins σ H s) (h:SqL X.K H a xs):∃ its:List Value,a1u xs its/\PlainL s.heap a its.toArray/\xs.length<=sizeLine:=by
  rcases h with h | ⟨o,its,n,hk,hc,hd,hs,hz,r⟩
  . obtain ⟨z,its,n,r,e⟩:=h.ok I.hok
    exact ⟨its,r,⟨_,n,e,rfl,rfl,rfl⟩,z⟩
  . refine ⟨its.toList,r,⟨o,n,I.kIn a o hk,hc,hd,by simpa using hs⟩,?_⟩
    have e:=r.length
    simp only [Array.length_toList] at e
    ac_rfl
theorem Inv.tuple (I:Inv X pins σ H s) (h:SqT X.K H a xs):∃ its:List Value,a1u xs its/\IsTup s.heap a its.toArray/\xs.length<=sizeLine:=by
  rcases h with h | ⟨o,its,n,hk,hc,hs,hz,r⟩
  . obtain ⟨z,its,r,p⟩:=h.ok I.hok
    exact ⟨its,r,p,z⟩
  . refine ⟨its.toList,r,⟨o,I.kIn a o hk,hc,n,by simpa using hs⟩,?_⟩
    have e:=r.length
    simp only [Array.length_toList] at e
    ac_rfl
theorem Inv.list_inj (I:Inv X pins σ H s) (h:SqL X.K H a xs) (h':SqL X.K H a ys):xs=ys:=by
  obtain ⟨its,r,⟨o,n,e,_,_,d⟩,_⟩:=I.list h
  obtain ⟨its',r',⟨o',n',e',_,_,d'⟩,_⟩:=I.list h'
  rw [e] at e'; cases e'
  rw [d] at d'
  injection d' with d1 _
  have:its=its':=by simpa using congrArg Array.toList d1
  subst this
  exact r.inj r'
theorem Inv.tuple_inj (I:Inv X pins σ H s) (h:SqT X.K H a xs) (h':SqT X.K H a ys):xs=ys:=by
  obtain ⟨its,r,⟨o,e,_,n,d⟩,_⟩:=I.tuple h
  obtain ⟨its',r',⟨o',e',_,n',d'⟩,_⟩:=I.tuple h'
  rw [e] at e'; cases e'
  rw [d] at d'
  injection d' with d1 _
  have:its=its':=by simpa using congrArg Array.toList d1
  subst this
  exact r.inj r'
end
noncomputable abbrev Cx.wish (X:Cx) (E:Value->Shared->Prop):Cx:={ X with xe:=E }
noncomputable abbrev Cx.nox (X:Cx):Cx:=X.wish fun _ _=>False
theorem Cx.Ok.wish {X:Cx} (ok:X.Ok) (E:Value->Shared->Prop):(X.wish E).Ok:=
  ⟨ok.mod,ok.kind,ok.glob,ok.blt,ok.above,ok.inj,ok.has,ok.cab,ok.hd,ok.frames,ok.stk,ok.exf,ok.bs,ok.bsz,ok.noex,ok.exfs,ok.funs,ok.frf,ok.hq⟩
theorem Cx.Ok.unwish {X:Cx} {E:Value->Shared->Prop} (ok:(X.wish E).Ok):X.Ok:=
  ⟨ok.mod,ok.kind,ok.glob,ok.blt,ok.above,ok.inj,ok.has,ok.cab,ok.hd,ok.frames,ok.stk,ok.exf,ok.bs,ok.bsz,ok.noex,ok.exfs,ok.funs,ok.frf,ok.hq⟩
section
variable {X:Cx} {pins:List (Addr × Obj)} {σ:St} {H:Hp} {s:Shared} {E:Value->Shared->Prop}
theorem Inv.wish (I:Inv X pins σ H s) (E:Value->Shared->Prop):Inv (X.wish E) pins σ H s:=⟨I.ok.wish E,I.os,I.bare,I.base,I.loc,I.cell,I.free,I.freeC,I.pin,I.hok,I.len,I.mild⟩
theorem Inv.unwish (I:Inv (X.wish E) pins σ H s):Inv X pins σ H s:=⟨I.ok.unwish,I.os,I.bare,I.base,I.loc,I.cell,I.free,I.freeC,I.pin,I.hok,I.len,I.mild⟩
theorem SP.unwish {D:Ends} {f:Flow} {s':Shared} (h:SP (X.wish E) pins D f s'):SP X pins D f s':=by
  cases f with
  | next=>obtain ⟨σ',H',I,q⟩:=h; exact ⟨σ',H',I.unwish,q⟩
  | brk=>obtain ⟨σ',H',I,q⟩:=h; exact ⟨σ',H',I.unwish,q⟩
  | cont=>obtain ⟨σ',H',I,q⟩:=h; exact ⟨σ',H',I.unwish,q⟩
  | ret u=>obtain ⟨v,σ',H',I,r,q⟩:=h; exact ⟨v,σ',H',I.unwish,r,q⟩
theorem PSs.nox {st:List Stmt} {t:TS} (h:PSs X.nox st t):PSs X st t:=fun pins s σ H D I hw=>
  wpAny_mono (h pins s σ H D (I.wish _) hw) (fun _ _ q=>q.unwish) fun _ _ z=>False.elim z
end
section
variable {X:Cx} {st:Stmt} {rest:List Stmt} {t u:TS} {e:Expr} {te:TE} {pos:Pos}
def tNext:TS:=fun D σ H=>D.nx σ H
def tSeq (t u:TS):TS:=fun D σ H=>t { D with nx:=u D } σ H
theorem pss_nil:PSs X [] tNext:=fun _ _ σ H _ I h=>wpAny_execs_nil ⟨σ,H,I,h⟩
theorem b0T (h1:PS X st t) (h2:PSs X rest u):PSs X (st :: rest) (tSeq t u):=by
  intro pins s σ H D I h
  refine wpAny_execs_cons (thn (h1 pins s σ H { D with nx:=u D } I h) fun f s1 q=>?_)
  cases f with
  | next=>
    obtain ⟨σ',H',I',q⟩:=q
    exact h2 pins s1 σ' H' D I' q
  | ret v=>exact q
  | brk=>exact q
  | cont=>exact q
theorem pss_one (h1:PS X st t):PSs X [st] t:=by
  intro pins s σ H D I h
  refine wpAny_execs_cons (thn (h1 pins s σ H D I h) fun f s1 q=>?_)
  cases f with
  | next=>exact wpAny_execs_nil q
  | ret v=>exact q
  | brk=>exact q
  | cont=>exact q
theorem Inv.quiet {pins:List (Addr × Obj)} {σ:St} {H:Hp} {s:Shared} (I:Inv X pins σ H s):interactive X.env=false:=by simp [interactive,I.ok.kind]
def tDrop (te:TE):TS:=fun D σ H=>te σ H fun _ H1=>D.nx σ H1
theorem a9S (he:PE X e te) (hs:swapsWith e none pos.line X.env=pure false:=by rfl):PS X (.Expr e pos) (tDrop te):=by
  intro pins s σ H D I h
  exact wpAny_Expr_any (thn (he pins s σ H _ I h) fun v s1 ⟨x,H1,I1,r1,q1⟩=>⟨σ,H1,I1,q1⟩) I.quiet hs
def tRet (te:TE):TS:=fun D σ H=>te σ H D.rt
theorem ps_ret (he:PE X e te):PS X (.Return (some e) pos) (tRet te):=by
  intro pins s σ H D I h
  exact wpAny_Return_some (thn (he pins s σ H _ I h) fun v s1 ⟨x,H1,I1,r1,q1⟩=>⟨x,σ,H1,I1,r1,q1⟩)
def tIfS (c:TT) (t u:TS):TS:=fun D σ H=>c σ H fun b H1=>if b=true then t D σ H1 else u D σ H1
theorem ps_if {c:Expr} {a b:List Stmt} {tc:TT} (hc:PT X c tc) (ha:PSs X a t) (hb:PSs X b u):PS X (.If c a b pos) (tIfS tc t u):=by
  intro pins s σ H D I h
  refine wpAny_If (thn (hc pins s σ H _ I h) fun d s1 ⟨H1,I1,q1⟩=>?_)
  cases d with
  | true=>exact ha pins s1 σ H1 D I1 q1
  | false=>exact hb pins s1 σ H1 D I1 q1
def tNever:TS:=fun _ _ _=>False
theorem ps_never:PS X st tNever:=fun _ _ _ _ _ _ h=>h.elim
end
abbrev TG:=V->St->Hp->(St->Hp->Prop)->Prop
abbrev TGs:=List V->St->Hp->(St->Hp->Prop)->Prop
def PG (X:Cx) (target:Expr) (t:TG):Prop:=
  ∀ (pins:List (Addr × Obj)) (s:Shared) (σ:St) (H:Hp) (v:V) (u:Value) (Q:St->Hp->Prop),Inv X pins σ H s->a1W v u->t v σ H Q ->
    wpAny (model X.prog X.w) X.A (assign target X.env u) (fun _ s'=>∃ σ' H',Inv X pins σ' H' s'/\Q σ' H') X.xe s
def PGs (X:Cx) (ts:List Expr) (t:TGs):Prop:=
  ∀ (pins:List (Addr × Obj)) (s:Shared) (σ:St) (H:Hp) (vs:List V) (us:List Value) (Q:St->Hp->Prop),Inv X pins σ H s->a1u vs us->t vs σ H Q ->
    wpAny (model X.prog X.w) X.A (assignInOrder ((assignEach ts X.env).map (·.2)) us) (fun _ s'=>∃ σ' H',Inv X pins σ' H' s'/\Q σ' H') X.xe s
abbrev TSet:=V->V->V->Hp->(Hp->Prop)->Prop
def PSet (X:Cx) (t:TSet):Prop:=
  ∀ (pins:List (Addr × Obj)) (s:Shared) (σ:St) (H:Hp) (o i v:V) (ov iv u:Value) (Q:Hp->Prop),Inv X pins σ H s->a1W o ov->a1W i iv->a1W v u->t o i v H Q ->
    wpAny (model X.prog X.w) X.A (setItem ov iv u) (fun _ s'=>∃ H',Inv X pins σ H' s'/\Q H') X.xe s
abbrev TIp:=V->V->Hp->VK->Prop
def PIp (X:Cx) (op:Operator) (t:TIp):Prop:=
  ∀ (pins:List (Addr × Obj)) (s:Shared) (σ:St) (H:Hp) (x y:V) (v u:Value) (Q:VK),Inv X pins σ H s->a1W x v->a1W y u->t x y H Q ->
    wpAny (model X.prog X.w) X.A (inplaceOp op v u) (EP X pins σ Q) X.xe s
section
variable {X:Cx} {pos:Pos}
def gName (i:Nat):TG:=fun v σ H Q=>Q (σ.set i (some v)) H
theorem a3f {i:Nat} {x:Str} (hN:X.N.Nodup) (hi:X.N[i]?=some x) (hx:Loc X.env.scope x) (hf:X.fn x=true \/ X.env.scope.names.lookup x=some .local:=by first | exact .inl rfl | exact .inr rfl | assumption):PG X (.Name x pos) (gName i):=by
  intro pins s σ H v u Q I r h
  exact wpAny_assign_Name (a5a I hN hi hx r (fun s' I'=>⟨_,H,I',h⟩) hf)
def gNil:TGs:=fun vs σ H Q=>vs=[]/\Q σ H
def gCons (t:TG) (u:TGs):TGs:=fun vs σ H Q=>∃ v r,vs=v :: r/\t v σ H fun σ' H'=>u r σ' H' Q
theorem a8c:PGs X [] gNil:=by
  intro pins s σ H vs us Q I r h
  obtain ⟨e,h⟩:=h
  subst e
  cases r
  exact assignInOrder_nil ⟨σ,H,I,h⟩
theorem a2D {e:Expr} {es:List Expr} {t:TG} {u:TGs} (h1:PG X e t) (h2:PGs X es u)
    (hs:(assignEach (e :: es) X.env).map (·.2)=assign e X.env :: (assignEach es X.env).map (·.2):=by rfl):PGs X (e :: es) (gCons t u):=by
  intro pins s σ H vs us Q I r h
  obtain ⟨v,vr,e1,h⟩:=h
  subst e1
  cases r with
  | cons r rr=>
    rw [hs]
    refine assignInOrder_cons (thn (h1 pins s σ H _ _ _ I r h) fun _ s1 ⟨σ1,H1,I1,q1⟩=>?_)
    exact h2 pins s1 σ1 H1 _ _ Q I1 rr q1
def gTup (K:W.Frag) (n:Nat) (t:TGs):TG:=fun v σ H Q=>∃ a xs,v=.ref a/\SqT K H a xs/\xs.length=n/\t xs σ H Q
theorem pg_tup {es:List Expr} {k:Nat} {t:TGs} {n:Nat} (hc:X.calm=true) (h:PGs X es t)
    (hn:(assignEach es X.env).length=n:=by rfl) (hst:(assignEach es X.env).findIdx? (·.1)=none:=by rfl):PG X (.Tuple es k pos) (gTup X.K n t):=by
  intro pins s σ H v u Q I r hw
  obtain ⟨a,xs,e1,hq,hl,hw⟩:=hw
  subst e1
  cases r
  obtain ⟨its,rv,ht,hz⟩:=I.tuple hq
  refine assign_Tuple_tuple (I.ok.hd hc) ht (by simp [hn,<- hl,rv.length]) hst fun h' hx=>?_
  have I1:Inv X pins σ H { s with heap:=h' }:=I.kept (t':=s.toks) fun b o e=>hx b o (Nat.ne_of_lt (Heap.lt_size e)) e
  exact h pins _ σ H xs _ Q I1 (by simpa using rv) hw
def tAsg (te:TE) (g:TG):TS:=fun D σ H=>te σ H fun x H1=>g x σ H1 D.nx
theorem ps_asg {tg e:Expr} {te:TE} {g:TG} (he:PE X e te) (hg:PG X tg g) (hs:swapsWithSole [tg] e pos.line X.env=pure false:=by rfl) (hw:swappedStores [tg] e X.env=pure none:=by rfl)
    (h1:(assignEach [tg] X.env).map (·.2)=[assign tg X.env]:=by rfl):PS X (.Assign [tg] e pos) (tAsg te g):=by
  intro pins s σ H D I h
  refine wpAny_Assign_stores (thn (he pins s σ H _ I h) fun v s1 ⟨x,H1,I1,r1,q1⟩=>?_) hs hw
  rw [h1]
  exact thn (hg pins s1 σ H1 x v _ I1 r1 q1) fun _ s2 q=>by obtain ⟨σ',H',I',q⟩:=q; exact ⟨σ',H',I',q⟩
theorem ps_set {i:Nat} {x:Str} {e:Expr} {te:TE} {pos':Pos} (hN:X.N.Nodup) (hi:X.N[i]?=some x) (hx:Loc X.env.scope x) (he:PE X e te) (hs:swapsWith e (some (.Name x pos')) pos.line X.env=pure false:=by rfl) (hf:X.fn x=true \/ X.env.scope.names.lookup x=some .local:=by first | exact .inl rfl | exact .inr rfl | assumption):
    PS X (.Assign [.Name x pos'] e pos) (tAsg te (gName i)):=by
  intro pins s σ H D I h
  refine wpAny_Assign_Name (thn (he pins s σ H _ I h) fun v s1 ⟨y,H1,I1,r1,q1⟩=>?_) hs
  exact a5a I1 hN hi hx r1 (fun s2 I2=>⟨_,H1,I2,q1⟩) hf
def tAug (i:Nat) (te:TE) (ti:TIp):TS:=fun D σ H=>∃ x,σ[i]?=some (some x)/\te σ H fun y H1=>ti x y H1 fun z H2=>D.nx (σ.set i (some z)) H2
theorem ps_aug {i:Nat} {x:Str} {e:Expr} {te:TE} {op:Operator} {ti:TIp} {pos':Pos} (hN:X.N.Nodup) (hi:X.N[i]?=some x) (hx:Loc X.env.scope x) (he:PE X e te) (ho:PIp X op ti) (hf:X.fn x=true \/ X.env.scope.names.lookup x=some .local:=by first | exact .inl rfl | exact .inr rfl | assumption):
    PS X (.AugAssign (.Name x pos') op e pos) (tAug i te ti):=by
  intro pins s σ H D I h
  obtain ⟨v,e1,h⟩:=h
  obtain ⟨m,hn,hl⟩:=I.loc
  have vis:Vis X.env.scope x:=by rcases hx with k | k; exact .inl k; exact .inr (.inl k)
  obtain ⟨u,r,l⟩:=hl i x v hi e1 vis
  refine wpAny_AugAssign_Name ?_
  have go:wpAny (model X.prog X.w) X.A (eval e X.env) (fun w s₂=>wpAny (model X.prog X.w) X.A (inplaceOp op u w) (fun r s₃=>wpAny (model X.prog X.w) X.A (storeName X.env x r) (fun _=>SP X pins D .next) X.xe s₃) X.xe s₂) X.xe s:=by
    refine thn (he pins s σ H _ I h) fun w s1 ⟨y,H1,I1,r1,q1⟩=>?_
    refine thn (ho pins s1 σ H1 v y u w _ I1 r r1 q1) fun z s2 ⟨zv,H2,I2,r2,q2⟩=>?_
    exact a5a I2 hN hi hx r2 (fun s3 I3=>⟨_,H2,I3,q2⟩) hf
  rcases l with ⟨hk,hm⟩ | ⟨hk,c,hc,hcell⟩
  . exact wpAny_loadName_local I.ok.kind hk hn hm go
  . rcases hk with hk | hk
    . exact wpAny_loadName_cell I.ok.kind hk hc hcell go
    . rcases hx with k | k
      . have:X.env.scope.names.lookup x=some .free:=hk
        rw [k] at this; cases this
      . have:X.env.scope.names.lookup x=some .free:=hk
        rw [k] at this; cases this
def tAugS (to ti te:TE) (tget:V->V->Hp->VK->Prop) (tip:TIp) (tset:TSet):TS:=fun D σ H=>to σ H fun o H1=>ti σ H1 fun i H2=>tget o i H2 fun x H3=>te σ H3 fun y H4=>tip x y H4 fun z H5=>tset o i z H5 fun H6=>D.nx σ H6
def PGet (X:Cx) (t:V->V->Hp->VK->Prop):Prop:=
  ∀ (pins:List (Addr × Obj)) (s:Shared) (σ:St) (H:Hp) (o i:V) (ov iv:Value) (Q:VK),Inv X pins σ H s->a1W o ov->a1W i iv->t o i H Q ->
    wpAny (model X.prog X.w) X.A (getItem ov iv) (EP X pins σ Q) X.xe s
theorem ps_augS {o i e:Expr} {to ti te:TE} {tget:V->V->Hp->VK->Prop} {tip:TIp} {tset:TSet} {op:Operator} {tpos:Pos} (ho:PE X o to) (hi:PE X i ti) (hg:PGet X tget) (he:PE X e te) (hp:PIp X op tip) (hs:PSet X tset)
    (ha:∀ ov iv new,augStore i ov iv new=(do holding [new,ov,iv] (setItem ov iv new); release [new,ov,iv] []; pure .next):=by intros; rfl):PS X (.AugAssign (.Subscript o i tpos) op e pos) (tAugS to ti te tget tip tset):=by
  intro pins s σ H D I h
  refine wpAny_AugAssign_SubscriptAny (thn (ho pins s σ H _ I h) fun ov s1 ⟨x1,H1,I1,r1,q1⟩=>?_) ha
  refine thn (hi pins s1 σ H1 _ I1 q1) fun iv s2 ⟨x2,H2,I2,r2,q2⟩=>?_
  refine thn (hg pins s2 σ H2 x1 x2 ov iv _ I2 r1 r2 q2) fun old s3 ⟨x3,H3,I3,r3,q3⟩=>?_
  refine thn (he pins s3 σ H3 _ I3 q3) fun v s4 ⟨x4,H4,I4,r4,q4⟩=>?_
  refine thn (hp pins s4 σ H4 x3 x4 old v _ I4 r3 r4 q4) fun new s5 ⟨x5,H5,I5,r5,q5⟩=>?_
  exact thn (hs pins s5 σ H5 x1 x2 x5 ov iv new _ I5 r1 r2 r5 q5) fun _ s6 ⟨H6,I6,q6⟩=>⟨σ,H6,I6,q6⟩
def ipI (f:Int->Int->Int):TIp:=fun x y H Q=>∃ i j,x=.int i/\y=.int j/\Q (.int (f i j)) H
theorem ip_add:PIp X .Add (ipI fun i j=>i + j):=by
  intro pins s σ H x y v u Q I r1 r2 h
  obtain ⟨i,j,e1,e2,q⟩:=h
  subst e1; subst e2
  obtain ⟨t,rfl⟩:=r1
  obtain ⟨t',rfl⟩:=r2
  exact iadd_int ⟨.int _,H,I.tok _,⟨_,rfl⟩,q⟩
end
section
variable {X:Cx} {pos:Pos}
end
structure It where
  go:Nat->Hp->Prop
  yld:Nat->Hp->V->Hp->Prop
  stop:Nat->Hp->Prop
def FpOk (X:Cx) (pins:List (Addr × Obj)) (H:Hp) (b:Addr):Prop:=
  H b=none/\b ≠ X.env.locals/\b ∉ X.fs/\(b ∈ X.ex \/ X.s₀.heap.objs.size<=b)/\(∀ x c,X.env.cells.lookup x=some c->c ≠ b) /\ ∀ p ∈ X.pn ++ pins,p.1 ≠ b
theorem Inv.fpOk {X:Cx} {pins:List (Addr × Obj)} {σ:St} {H H':Hp} {s:Shared} {b:Addr} (I:Inv X pins σ H s) (hb:s.heap.objs.size<=b) (hn:H' b=none):FpOk X pins H' b:=by
  refine ⟨hn,Nat.ne_of_gt (Nat.lt_of_lt_of_le I.lt hb),I.nofs hb,.inr (Nat.le_trans I.sz hb),fun x c e z=>?_,fun p hp z=>?_⟩
  . obtain ⟨v,q⟩:=I.cell x c e
    exact absurd (Nat.lt_of_lt_of_le q.lt (by rw [z]; exact hb)) (Nat.lt_irrefl _)
  . exact absurd (Nat.lt_of_lt_of_le (Heap.lt_size (I.pin p hp).1) (by rw [z]; exact hb)) (Nat.lt_irrefl _)
structure Turn (P:Program) (w:World) (K:W.Frag) (tg:Expr) (J:It) (fp:List Addr) (it:Addr) (tn:Nat->Heap->Prop):Prop where
  mem:it ∈ fp
  obj:∀ i h,tn i h -> ∀ b ∈ fp,∃ o,h.get? b=some o /\ ∀ v,o.data ≠ .cell v
  keep:∀ i h h',tn i h->(∀ b ∈ fp,∀ o,h.get? b=some o->h'.get? b=some o)->tn i h'
  item:∀ (X:Cx),X.prog=P->X.w=w->X.K=K->X.N=X.N -> ∀ (i:Nat) (pins:List (Addr × Obj)) (s:Shared) (σ:St) (H:Hp) (E:Value->Shared->Prop),Inv X pins σ H s->(∀ b ∈ fp,FpOk X pins H b)->tn i s.heap->J.go i H ->
    wpAny (model P w) X.A (pyNext (.ref it)) (fun r s1=>∃ u,r=some u /\
      wpAny (model P w) X.A (letOwnedTupleGo tg (.ref it) u) (fun _ s2=>∃ x H',Inv X pins σ H' s2/\a1W x u/\J.yld i H x H'/\tn (i + 1) s2.heap /\ ∀ b ∈ fp,H' b=none) E s1) E s
  done:∀ (X:Cx),X.prog=P->X.w=w->X.K=K->X.N=X.N -> ∀ (i:Nat) (pins:List (Addr × Obj)) (s:Shared) (σ:St) (H:Hp) (E:Value->Shared->Prop),Inv X pins σ H s->(∀ b ∈ fp,FpOk X pins H b)->tn i s.heap->J.stop i H ->
    wpAny (model P w) X.A (pyNext (.ref it)) (fun r s1=>r=none/\Inv X pins σ H s1) E s
  self:∀ (A:Around) (i:Nat) (s:Shared) (Q:Value->Shared->Prop) (E:Value->Shared->Prop),tn i s.heap->Q (.ref it) s->wpAny (model P w) A (pyIter (.ref it)) Q E s
abbrev TI:=St->Hp->(It->Hp->Prop)->Prop
def PIE (X:Cx) (pins:List (Addr × Obj)) (σ:St) (tg:Expr) (R:It->Hp->Prop) (itv:Value) (s2:Shared):Prop:=
  ∃ (it:Addr) (fp:List Addr) (tn:Nat->Heap->Prop) (J:It) (H':Hp),itv=.ref it/\Inv X pins σ H' s2/\Turn X.prog X.w X.K tg J fp it tn/\tn 0 s2.heap/\(∀ b ∈ fp,FpOk X pins H' b)/\R J H'
def PI (X:Cx) (tg iter:Expr) (wi:TI):Prop:=
  ∀ (pins:List (Addr × Obj)) (s:Shared) (σ:St) (H:Hp) (R:It->Hp->Prop),Inv X pins σ H s->wi σ H R ->
    wpAny (model X.prog X.w) X.A (eval iter X.env) (fun v s1=>wpAny (model X.prog X.w) X.A (pyIter v) (PIE X pins σ tg R) X.xe s1) X.xe s
theorem go_of {M:Model} {A:Around} {E:Value->Shared->Prop} {s:Shared} {tg:Expr} {it:Addr} {u:Value} {o:Obj} {n:String} {vs:Array Value} {Q:Unit->Shared->Prop} (ho:s.heap.get? it=some o) (hc:o.cls=.type n) (hd:o.data=.fields vs)
    (hn:["enumerate", "zip", "dict_itemiterator", "dict_reverseitemiterator", "odict_iterator", "itertools.zip_longest", "itertools.pairwise"].contains n=false) (hQ:Q () s):wpAny M A (letOwnedTupleGo tg (.ref it) u) Q E s:=by
  unfold letOwnedTupleGo
  cases tg <;> first
    | exact wpAny_pure hQ
    | (cases u <;> first
        | exact wpAny_pure hQ
        | (refine wpAny_bind (wpAny_load ho ?_)
           rw [hc,hd]
           show wpAny M A (if (["enumerate", "zip", "dict_itemiterator", "dict_reverseitemiterator", "odict_iterator", "itertools.zip_longest", "itertools.pairwise"].contains n && vs[0]? == some (rawInt _))=true then _ else _) Q E s
           rw [if_neg (by intro h; rw [hn,Bool.false_and] at h; cases h)]
           exact wpAny_pure hQ))
noncomputable def Itl (K:W.Frag) (a:Addr):It:=
  ⟨fun i H=>∃ xs x,SqL K H a xs/\xs[i]?=some x,fun i H x H'=>H'=H /\ ∀ xs,SqL K H a xs->xs[i]?=some x,fun i H=>∃ xs,SqL K H a xs/\xs.length<=i⟩
noncomputable def Itt (K:W.Frag) (a:Addr):It:=
  ⟨fun i H=>∃ xs x,SqT K H a xs/\xs[i]?=some x,fun i H x H'=>H'=H /\ ∀ xs,SqT K H a xs->xs[i]?=some x,fun i H=>∃ xs,SqT K H a xs/\xs.length<=i⟩
noncomputable def Itr (lo:Int) (n:Nat):It:=⟨fun i _=>i < n,fun i H x H'=>H'=H/\x=.int (lo + i),fun i _=>n<=i⟩
theorem turn_list {P:Program} {w:World} {K:W.Frag} {tg:Expr} (a it:Addr):Turn P w K tg (Itl K a) [it] it (fun i h=>h.IsListIter it a i) where
  mem:=by simp
  obj:=fun i h st b hb=>by
    have e:b=it:=by simpa using hb
    subst e
    obtain ⟨o,e,c,d⟩:=st
    exact ⟨o,e,fun v z=>by rw [d] at z; cases z⟩
  keep:=fun i h h' st k=>st.at fun o e=>k it (by simp) o e
  item:=by
    intro X hP hw hK hc i pins s σ H E I hf st hg
    subst hP hw hK
    obtain ⟨xs,x,hq,hx⟩:=hg
    obtain ⟨its,rv,p,hz⟩:=I.list hq
    obtain ⟨u,hu,ru⟩:=rv.get hx
    obtain ⟨f0,f1,f2,f3,f4,f5⟩:=hf it (by simp)
    refine wpAny_pyNext_list_item st p.isList (x:=u) (by simpa using hu) fun h' st' sb=>?_
    have I1:Inv X pins σ H { s with heap:=h' }:=I.turned (t':=s.toks) (fun b o hb e=>(sb.2 b hb).trans e) f0 f1 f3 f4 f5
    obtain ⟨o,e,c,d⟩:=id st'
    exact ⟨u,rfl,go_of (s:={ s with heap:=h' }) e c d (by decide) ⟨x,H,I1,ru,⟨rfl,fun ys hy=>by rw [I.list_inj hy hq]; exact hx⟩,st',fun b hb=>(hf b hb).1⟩⟩
  done:=by
    intro X hP hw hK hc i pins s σ H E I hf st hg
    subst hP hw hK
    obtain ⟨xs,hq,hx⟩:=hg
    obtain ⟨its,rv,p,hz⟩:=I.list hq
    obtain ⟨f0,f1,f2,f3,f4,f5⟩:=hf it (by simp)
    have hl:=rv.length
    exact end_list I.qu st p.isList (by simp; ac_rfl) fun h' eb=>⟨rfl,I.turned (t':=s.toks) (fun b o hb e=>eb b o hb e) f0 f1 f3 f4 f5⟩
  self:=fun _ _ _ _ _ st h=>wpAny_pyIter_listiter st h
theorem turn_tuple {P:Program} {w:World} {K:W.Frag} {tg:Expr} (a it:Addr):Turn P w K tg (Itt K a) [it] it (fun i h=>h.IsTupleIter it a i) where
  mem:=by simp
  obj:=fun i h st b hb=>by
    have e:b=it:=by simpa using hb
    subst e
    obtain ⟨o,e,c,d⟩:=st
    exact ⟨o,e,fun v z=>by rw [d] at z; cases z⟩
  keep:=fun i h h' st k=>st.at fun o e=>k it (by simp) o e
  item:=by
    intro X hP hw hK hc i pins s σ H E I hf st hg
    subst hP hw hK
    obtain ⟨xs,x,hq,hx⟩:=hg
    obtain ⟨its,rv,p,hz⟩:=I.tuple hq
    obtain ⟨u,hu,ru⟩:=rv.get hx
    obtain ⟨f0,f1,f2,f3,f4,f5⟩:=hf it (by simp)
    refine wpAny_pyNext_tuple_item st (show s.heap.IsTuple a its.toArray from p) (x:=u) (by simpa using hu) fun h' st' sb=>?_
    have I1:Inv X pins σ H { s with heap:=h' }:=I.turned (t':=s.toks) (fun b o hb e=>(sb.2 b hb).trans e) f0 f1 f3 f4 f5
    obtain ⟨o,e,c,d⟩:=id st'
    exact ⟨u,rfl,go_of (s:={ s with heap:=h' }) e c d (by decide) ⟨x,H,I1,ru,⟨rfl,fun ys hy=>by rw [I.tuple_inj hy hq]; exact hx⟩,st',fun b hb=>(hf b hb).1⟩⟩
  done:=by
    intro X hP hw hK hc i pins s σ H E I hf st hg
    subst hP hw hK
    obtain ⟨xs,hq,hx⟩:=hg
    obtain ⟨its,rv,p,hz⟩:=I.tuple hq
    obtain ⟨f0,f1,f2,f3,f4,f5⟩:=hf it (by simp)
    have hl:=rv.length
    exact end_tuple I.qu st (show s.heap.IsTuple a its.toArray from p) (by simp; ac_rfl) fun h' eb=>⟨rfl,I.turned (t':=s.toks) (fun b o hb e=>eb b o hb e) f0 f1 f3 f4 f5⟩
  self:=fun _ _ _ _ _ st h=>wpAny_pyIter_tupleiter st h
theorem turn_range {P:Program} {w:World} {K:W.Frag} {tg:Expr} (it:Addr) (lo:Int) (n:Nat):Turn P w K tg (Itr lo n) [it] it (fun i h=>IsRangeIter h it (lo + (i:Nat) * 1) ((n:Int) - (i:Nat)) 1) where
  mem:=by simp
  obj:=fun i h st b hb=>by
    have e:b=it:=by simpa using hb
    subst e
    exact ⟨_,st,fun v z=>by
      have z':Data.fields _=Data.cell v:=z
      cases z'⟩
  keep:=fun i h h' st k=>k it (by simp) _ st
  item:=by
    intro X hP hw hK hc i pins s σ H E I hf st hg
    subst hP hw hK
    obtain ⟨f0,f1,f2,f3,f4,f5⟩:=hf it (by simp)
    refine item_range hg st fun v h' tk hv st' kk=>?_
    obtain ⟨t,rfl⟩:=hv
    have I1:Inv X pins σ H { s with heap:=h',toks:=tk }:=I.turned (fun b o hb e=>kk b o (by simpa using hb) e) f0 f1 f3 f4 f5
    refine ⟨_,rfl,go_of (s:={ s with heap:=h',toks:=tk }) (n:="range_iterator") st' rfl rfl (by decide) ⟨.int (lo + i),H,I1,⟨t,?_⟩,⟨rfl,rfl⟩,st',fun b hb=>(hf b hb).1⟩⟩
    rw [Int.mul_one]
  done:=by
    intro X hP hw hK hc i pins s σ H E I hf st hg
    subst hP hw hK
    obtain ⟨f0,f1,f2,f3,f4,f5⟩:=hf it (by simp)
    exact end_range I.qu st (by have:n<=i:=hg; ac_rfl) fun h' eb=>⟨rfl,I.turned (t':=s.toks) (fun b o hb e=>eb b o hb e) f0 f1 f3 f4 f5⟩
  self:=fun _ _ _ _ _ st h=>wpAny_pyIter_rangeiter st h
end L2
namespace L2
open PySem PySem.Spec PyProof.Rows
section
variable {X:Cx} {tg:Expr}
theorem b0R {pins:List (Addr × Obj)} {σ:St} {H:Hp} {s:Shared} {R:It->Hp->Prop} {E:Value->Shared->Prop} {lo hi:Int} {t u v:Tok} {tk:Nat} (I:Inv X pins σ H s) (h1:-(2 ^ 62)<=lo) (h2:lo < 2 ^ 62) (h3:-(2 ^ 62)<=hi) (h4:hi < 2 ^ 62)
    (q:R (Itr lo (hi - lo).toNat) H):wpAny (model X.prog X.w) X.A (pyIter (.ref s.heap.objs.size)) (PIE X pins σ tg R) E { s with heap:=s.heap.push { cls:=.type "range",data:=.fields #[.int lo t,.int hi u,.int 1 v] },toks:=tk }:=by
  refine wpAny_pyIter_range (IsRange.new ..) (small_one h1 h2 h3 h4) ?_
  have I1:Inv X pins σ H { s with heap:=s.heap.push { cls:=.type "range",data:=.fields #[.int lo t,.int hi u,.int 1 v] },toks:=tk }:=I.kept fun b o e=>Heap.get?_push_of_some _ e
  refine ⟨(s.heap.push { cls:=.type "range",data:=.fields #[.int lo t,.int hi u,.int 1 v] }).objs.size,[(s.heap.push { cls:=.type "range",data:=.fields #[.int lo t,.int hi u,.int 1 v] }).objs.size],_,_,H,rfl,
    I1.kept (t':=tk) fun b o e=>Heap.get?_push_of_some _ e,turn_range _ lo (hi - lo).toNat,?_,fun b hb=>?_,q⟩
  . have e1:lo + ((0:Nat):Int) * 1=lo:=by simp
    have e2:(((hi - lo).toNat:Nat):Int) - ((0:Nat):Int)=Builtin.Range.rangeSize lo hi 1:=by rw [rangeSize_one]; split <;> ac_rfl
    show IsRangeIter _ _ (lo + ((0:Nat):Int) * 1) ((((hi - lo).toNat:Nat):Int) - ((0:Nat):Int)) 1
    rw [e1,e2]
    exact Heap.get?_push_size _ rfl
  . have e:b=(s.heap.push { cls:=.type "range",data:=.fields #[.int lo t,.int hi u,.int 1 v] }).objs.size:=by simpa using hb
    subst e
    exact I1.fpOk (Nat.le_refl _) (I1.hok.fresh (Nat.le_refl _))
def iRng1 (ta:TA):TI:=fun σ H R=>ta σ H fun vs H1=>∃ j:Int,vs=[.int j] /\ -(2 ^ 62)<=j/\j < 2 ^ 62/\R (Itr 0 j.toNat) H1
def iRng2 (ta:TA):TI:=fun σ H R=>ta σ H fun vs H1=>∃ i j:Int,vs=[.int i,.int j]/\(-(2 ^ 62)<=i/\i < 2 ^ 62 /\ -(2 ^ 62)<=j/\j < 2 ^ 62)/\R (Itr i (j - i).toNat) H1
theorem pi_range1 {a:Expr} {ta:TA} {p pos:Pos} (hg:Gl X "range") (hm:X.mg "range" = none) (ha:PA X [a] ta) (hs:starEach [a] X.env=[(false,eval a X.env)]:=by rfl):PI X tg (.Call (.Name "range" p) [a] [] pos) (iRng1 ta):=by
  intro pins s σ H R I h
  refine Call_ (a6L I hg hm boot_range (PyProof.Rows.callWith_type1 (thn (ha pos pins s σ H _ I h) fun us s1 ⟨vs,H1,I1,r1,q1⟩=>?_) hs rfl))
  obtain ⟨j,e,q1,q2,q⟩:=q1
  subst e
  cases r1 with
  | cons r rr=>
    cases rr
    obtain ⟨t,rfl⟩:=r
    exact call_range_1 (b0R I1 (by ac_rfl) (by ac_rfl) q1 q2 (by simpa using q))
theorem pi_range2 {a b:Expr} {ta:TA} {p pos:Pos} (hg:Gl X "range") (hm:X.mg "range" = none) (ha:PA X [a,b] ta) (hs:starEach [a,b] X.env=[(false,eval a X.env),(false,eval b X.env)]:=by rfl) (hs2:starEach [b] X.env=[(false,eval b X.env)]:=by rfl):
    PI X tg (.Call (.Name "range" p) [a,b] [] pos) (iRng2 ta):=by
  intro pins s σ H R I h
  refine Call_ (a6L I hg hm boot_range (PyProof.Rows.callWith_type1 (thn (ha pos pins s σ H _ I h) fun us s1 ⟨vs,H1,I1,r1,q1⟩=>?_) (by rw [hs,hs2]) (by rw [hs2]; rfl)))
  obtain ⟨i,j,e,⟨q1,q2,q3,q4⟩,q⟩:=q1
  subst e
  cases r1 with
  | cons r rr=>
    cases rr with
    | cons r' rr=>
      cases rr
      obtain ⟨t,rfl⟩:=r
      obtain ⟨t',rfl⟩:=r'
      exact call_range_2 (b0R I1 q1 q2 q3 q4 q)
def tFor (wi:TI) (g:TG) (tb:TS):TS:=fun D σ H=>wi σ H fun J H1=>∃ W:Nat->Nat->St->Hp->Prop,(∃ m,W 0 m σ H1) /\ ∀ i m σ H,W i m σ H ->
  (J.stop i H/\D.nx σ H) \/ (J.go i H /\ ∃ N:St->Hp->Prop,(∀ σ' H',N σ' H' -> ∃ m',m' < m/\W (i + 1) m' σ' H') /\ ∀ x H',J.yld i H x H'->g x σ H' fun σ2 H2=>tb { D with nx:=N,ct:=N,bk:=D.nx } σ2 H2)
noncomputable def a9a (fp:List Addr) (h:Heap):List (Addr × Obj):=fp.filterMap fun b=>(h.get? b).map fun o=>(b,o)
theorem a4l {fp:List Addr} {h:Heap} {b:Addr} {o:Obj} (hb:b ∈ fp) (e:h.get? b=some o):(b,o) ∈ a9a fp h:=List.mem_filterMap.mpr ⟨b,hb,by rw [e]; rfl⟩
theorem of_pinsAt {fp:List Addr} {h:Heap} {p:Addr × Obj} (hp:p ∈ a9a fp h):p.1 ∈ fp/\h.get? p.1=some p.2:=by
  obtain ⟨b,hb,e⟩:=List.mem_filterMap.mp hp
  cases q:h.get? b with
  | none=>rw [q] at e; cases e
  | some o=>
    rw [q] at e
    have e':(b,o)=p:=Option.some.inj e
    subst e'
    exact ⟨hb,q⟩
theorem Inv.pinned {pins:List (Addr × Obj)} {σ:St} {H:Hp} {s:Shared} {fp:List Addr} (I:Inv X pins σ H s) (hf:∀ b ∈ fp,FpOk X pins H b) (ho:∀ b ∈ fp,∃ o,s.heap.get? b=some o /\ ∀ v,o.data ≠ .cell v):Inv X (pins ++ a9a fp s.heap) σ H s:=
  I.pins_of fun p hp=>(List.mem_append.mp hp).elim (fun z=>I.pin p (List.mem_append_right _ z)) fun z=>by
    obtain ⟨hb,e⟩:=of_pinsAt z
    obtain ⟨f0,f1,f2,_⟩:=hf p.1 hb
    obtain ⟨o,e',d⟩:=ho p.1 hb
    rw [e] at e'; cases e'
    exact ⟨e,f0,f1,f2,d⟩
theorem Inv.unpinned {pins pl:List (Addr × Obj)} {σ:St} {H:Hp} {s:Shared} (I:Inv X (pins ++ pl) σ H s):Inv X pins σ H s:=I.pins_of fun p hp=>I.pin p (List.mem_append_right _ (List.mem_append_left _ hp))
theorem ps_for {iter:Expr} {body:List Stmt} {wi:TI} {g:TG} {tb:TS} {pos:Pos} (hp:PassesOwn (model X.prog X.w) X.A X.env X.xe) (hc:X.N=X.N) (hi:PI X tg iter wi) (hg:PG X tg g) (hb:PSs X body tb)
    (hs:∀ x,foldedSetIterable iter X.env x=pure x:=by intro _; rfl):PS X (.For tg iter body [] pos) (tFor wi g tb):=by
  intro pins s σ H D I h
  refine wpAny_For (thn (hi pins s σ H _ I h) fun v s1 h1=>thn h1 fun itv s2 h2=>?_) hs
  obtain ⟨it,fp,tn,J,H2,e,I2,T,st2,f2,W,⟨m0,w0⟩,turn⟩:=h2
  subst e
  have stat:∀ {H':Hp},(∀ b ∈ fp,H' b=none) -> ∀ b ∈ fp,FpOk X pins H' b:=fun hn b hb=>⟨hn b hb,(f2 b hb).2⟩
  refine codeAny_forLoop_any (fun n s'=>∃ i σ' H',Inv X pins σ' H' s'/\tn i s'.heap/\(∀ b ∈ fp,H' b=none)/\W i n σ' H') ?_ m0 ⟨0,σ,H2,I2,st2,fun b hb=>(f2 b hb).1,w0⟩
  rintro n s3 ⟨i,σ3,H3,I3,st3,fr3,w3⟩
  rcases turn i n σ3 H3 w3 with ⟨stop,qn⟩ | ⟨go,N,hN,step⟩
  . refine wpAny_passesOwn hp (thn (T.done X rfl rfl rfl hc i pins s3 σ3 H3 X.xe I3 (stat fr3) st3 stop) fun r s4 ⟨hr,I4⟩=>?_)
    subst hr
    exact wpAny_execs_nil ⟨σ3,H3,I4,qn⟩
  . refine wpAny_passesOwn hp (thn (T.item X rfl rfl rfl hc i pins s3 σ3 H3 X.xe I3 (stat fr3) st3 go) fun r s4 ⟨u,hr,h4⟩=>?_)
    subst hr
    refine wpAny_passesOwn hp (thn h4 fun _ s5 ⟨x,H5,I5,r5,y5,st5,fr5⟩=>?_)
    have I5':=I5.pinned (stat fr5) (T.obj _ _ st5)
    refine wpAny_passesOwn hp (thn (hg _ s5 σ3 H5 x u _ I5' r5 (step x H5 y5)) fun _ s6 ⟨σ6,H6,I6,q6⟩=>?_)
    refine wpAny_passesOwn hp (thn (hb _ s6 σ6 H6 _ I6 q6) fun f s7 q7=>?_)
    have again:∀ {σ7:St} {H7:Hp},Inv X (pins ++ a9a fp s5.heap) σ7 H7 s7->N σ7 H7 -> ∃ m,m < n /\ ∃ i σ' H',Inv X pins σ' H' s7/\tn i s7.heap/\(∀ b ∈ fp,H' b=none)/\W i m σ' H':=fun {σ7 H7} I7 n7=>by
      obtain ⟨m',hm,w7⟩:=hN σ7 H7 n7
      refine ⟨m',hm,i + 1,σ7,H7,I7.unpinned,T.keep _ _ _ st5 fun b hb o e=>(I7.pin (b,o) (List.mem_append_right _ (List.mem_append_right _ (a4l hb e)))).1,fun b hb=>?_,w7⟩
      obtain ⟨o,e,d⟩:=T.obj _ _ st5 b hb
      exact (I7.pin (b,o) (List.mem_append_right _ (List.mem_append_right _ (a4l hb e)))).2.1
    cases f with
    | next=>obtain ⟨σ7,H7,I7,n7⟩:=q7; exact again I7 n7
    | cont=>obtain ⟨σ7,H7,I7,n7⟩:=q7; exact again I7 n7
    | brk=>obtain ⟨σ7,H7,I7,q7⟩:=q7; exact ⟨σ7,H7,I7.unpinned,q7⟩
    | ret v=>obtain ⟨x7,σ7,H7,I7,r7,q7⟩:=q7; exact ⟨x7,σ7,H7,I7.unpinned,r7,q7⟩
end
end L2
namespace L2
open PySem PySem.Spec PyProof.Rows
abbrev R2:=V->V->Hp->VK->Prop
def OpR (X:Cx) (f:Value->Value->Sem Value) (r:R2):Prop:=
  ∀ (pins:List (Addr × Obj)) (s:Shared) (σ:St) (H:Hp) (x y:V) (v u:Value) (Q:VK),Inv X pins σ H s->a1W x v->a1W y u->r x y H Q ->
    wpAny (model X.prog X.w) X.A (f v u) (EP X pins σ Q) X.xe s
def UnR (X:Cx) (f:Value->Sem Value) (r:V->Hp->VK->Prop):Prop:=
  ∀ (pins:List (Addr × Obj)) (s:Shared) (σ:St) (H:Hp) (x:V) (v:Value) (Q:VK),Inv X pins σ H s->a1W x v->r x H Q ->
    wpAny (model X.prog X.w) X.A (f v) (EP X pins σ Q) X.xe s
def a3A (X:Cx) (f:Value) (r:List V->Hp->VK->Prop):Prop:=
  ∀ (pins:List (Addr × Obj)) (s:Shared) (σ:St) (H:Hp) (xs:List V) (us:List Value) (Q:VK),Inv X pins σ H s->a1u xs us->r xs H Q ->
    wpAny (model X.prog X.w) X.A (call f us) (EP X pins σ Q) X.xe s
def TruR (X:Cx) (r:V->Hp->(Bool->Hp->Prop)->Prop):Prop:=
  ∀ (pins:List (Addr × Obj)) (s:Shared) (σ:St) (H:Hp) (x:V) (v:Value) (Q:Bool->Hp->Prop),Inv X pins σ H s->a1W x v->r x H Q ->
    wpAny (model X.prog X.w) X.A (truthy v) (TP X pins σ Q) X.xe s
def tOp (r:R2) (ta tb:TE):TE:=fun σ H Q=>ta σ H fun x H1=>tb σ H1 fun y H2=>r x y H2 Q
def tUn (r:V->Hp->VK->Prop) (ta:TE):TE:=fun σ H Q=>ta σ H fun x H1=>r x H1 Q
def rI (C:Int->Int->Prop) (g:Int->Int->V):R2:=fun x y H Q=>∃ i j,x=.int i/\y=.int j/\C i j/\Q (g i j) H
def rI0 (g:Int->Int->V):R2:=fun x y H Q=>∃ i j,x=.int i/\y=.int j/\Q (g i j) H
def rU (g:Int->V):V->Hp->VK->Prop:=fun x H Q=>∃ i,x=.int i/\Q (g i) H
section
variable {X:Cx} {a b c:Expr} {ta tb tc:TE} {pos:Pos}
theorem binT (ha:PE X a ta) (hb:PE X b tb) {pins:List (Addr × Obj)} {s:Shared} {σ:St} {H:Hp} {R:V->V->Hp->Prop} (I:Inv X pins σ H s)
    (h:ta σ H fun x H1=>tb σ H1 fun y H2=>R x y H2) {Q:Value->Shared->Prop} {f:Value->Value->Sem Value}
    (hf:∀ v u s2 x y H2,Inv X pins σ H2 s2->a1W x v->a1W y u->R x y H2->wpAny (model X.prog X.w) X.A (f v u) Q X.xe s2):
    wpAny (model X.prog X.w) X.A (eval a X.env) (fun v s₁=>wpAny (model X.prog X.w) X.A (eval b X.env) (fun u s₂=>wpAny (model X.prog X.w) X.A (f v u) Q X.xe s₂) X.xe s₁) X.xe s:=by
  refine thn (ha pins s σ H _ I h) fun v s1 ⟨x,H1,I1,r1,q1⟩=>?_
  refine thn (hb pins s1 σ H1 _ I1 q1) fun u s2 ⟨y,H2,I2,r2,q2⟩=>?_
  exact hf v u s2 x y H2 I2 r1 r2 q2
theorem pe_op {op:Operator} {r:R2} (ho:OpR X (binaryOp op) r) (ha:PE X a ta) (hb:PE X b tb):PE X (.BinOp a op b pos) (tOp r ta tb):=by
  intro pins s σ H Q I h
  exact wpAny_BinOp (binT ha hb I h fun v u s2 x y H2 I2 rx ry q=>ho pins s2 σ H2 x y v u Q I2 rx ry q)
theorem pe_un {op:UnaryOp} {r:V->Hp->VK->Prop} (ho:UnR X (unaryOp op) r) (ha:PE X a ta):PE X (.UnaryOp op a pos) (tUn r ta):=by
  intro pins s σ H Q I h
  exact UnaryOp_ (thn (ha pins s σ H _ I h) fun v s1 ⟨x,H1,I1,r1,q1⟩=>ho pins s1 σ H1 x v Q I1 r1 q1)
theorem opI {f:Value->Value->Sem Value} {C:Int->Int->Prop} {g:Int->Int->Int}
    (rule:∀ (i j:Int) (t u:Tok) (s:Shared) (Q:Value->Shared->Prop) (E:Value->Shared->Prop),C i j->Q (.int (g i j) s.toks) { s with toks:=s.toks + 1 }->wpAny (model X.prog X.w) X.A (f (.int i t) (.int j u)) Q E s):
    OpR X f (rI C fun i j=>.int (g i j)):=by
  intro pins s σ H x y v u Q I rx ry h
  obtain ⟨i,j,rfl,rfl,hc,q⟩:=h
  obtain ⟨t,rfl⟩:=rx
  obtain ⟨t',rfl⟩:=ry
  exact rule i j t t' s _ _ hc ⟨.int (g i j),H,I.tok _,⟨_,rfl⟩,q⟩
theorem opI0 {f:Value->Value->Sem Value} {g:Int->Int->Int}
    (rule:∀ (i j:Int) (t u:Tok) (s:Shared) (Q:Value->Shared->Prop) (E:Value->Shared->Prop),Q (.int (g i j) s.toks) { s with toks:=s.toks + 1 }->wpAny (model X.prog X.w) X.A (f (.int i t) (.int j u)) Q E s):
    OpR X f (rI0 fun i j=>.int (g i j)):=by
  intro pins s σ H x y v u Q I rx ry h
  obtain ⟨i,j,rfl,rfl,q⟩:=h
  obtain ⟨t,rfl⟩:=rx
  obtain ⟨t',rfl⟩:=ry
  exact rule i j t t' s _ _ ⟨.int (g i j),H,I.tok _,⟨_,rfl⟩,q⟩
theorem opB0 {f:Value->Value->Sem Value} {g:Int->Int->Bool}
    (rule:∀ (i j:Int) (t u:Tok) (s:Shared) (Q:Value->Shared->Prop) (E:Value->Shared->Prop),Q (.bool (g i j)) s->wpAny (model X.prog X.w) X.A (f (.int i t) (.int j u)) Q E s):
    OpR X f (rI0 fun i j=>.bl (g i j)):=by
  intro pins s σ H x y v u Q I rx ry h
  obtain ⟨i,j,rfl,rfl,q⟩:=h
  obtain ⟨t,rfl⟩:=rx
  obtain ⟨t',rfl⟩:=ry
  exact rule i j t t' s _ _ ⟨.bl (g i j),H,I,rfl,q⟩
def CPow (i j:Int):Prop:=0<=j/\j<=1000000/\i.natAbs < 2 ^ 64
def CMul (i j:Int):Prop:=(-(2 ^ 64) < i/\i < 2 ^ 64) \/ (-(2 ^ 64) < j/\j < 2 ^ 64)
theorem CMul.ok {i j:Int} (h:CMul i j):IntMulOk i j:=by
  rcases h with ⟨h1,h2⟩ | ⟨h1,h2⟩
  . exact .of_left (intBits_le_64 h1 h2)
  . exact .of_right (intBits_le_64 h1 h2)
theorem op_add:OpR X (binaryOp .Add) (rI0 fun i j=>.int (i + j)):=opI0 fun _ _ _ _ _ _ _ q=>add_int q
theorem op_sub:OpR X (binaryOp .Sub) (rI0 fun i j=>.int (i - j)):=opI0 fun _ _ _ _ _ _ _ q=>sub_int q
theorem op_mod:OpR X (binaryOp .Mod) (rI (fun _ j=>0 < j) fun i j=>.int (i % j)):=opI fun i j _ _ _ _ _ hc q=>by
  have h1:(0:Int) < j:=hc
  exact mod_int' (by ac_rfl) (by rw [Int.fmod_eq_emod_of_nonneg i (by ac_rfl)]; exact q)
theorem op_pow:OpR X (binaryOp .Pow) (rI CPow fun i j=>.int (i ^ j.toNat)):=opI fun _ _ _ _ _ _ _ hc q=>pow_int_small hc.1 hc.2.1 hc.2.2 q
theorem iop_sub:OpR X (inplaceOp .Sub) (rI0 fun i j=>.int (i - j)):=opI0 fun _ _ _ _ _ _ _ q=>isub_int q
theorem unI {f:Value->Sem Value} {g:Int->Int}
    (rule:∀ (i:Int) (t:Tok) (s:Shared) (Q:Value->Shared->Prop) (E:Value->Shared->Prop),Q (.int (g i) s.toks) { s with toks:=s.toks + 1 }->wpAny (model X.prog X.w) X.A (f (.int i t)) Q E s):
    UnR X f (rU fun i=>.int (g i)):=by
  intro pins s σ H x v Q I rx h
  obtain ⟨i,rfl,q⟩:=h
  obtain ⟨t,rfl⟩:=rx
  exact rule i t s _ _ ⟨.int (g i),H,I.tok _,⟨_,rfl⟩,q⟩
theorem un_neg:UnR X (unaryOp .USub) (rU fun i=>.int (-i)):=unI fun _ _ _ _ _ q=>neg_int q
end
section
variable {X:Cx} {a b c:Expr} {ta tb tc:TE} {pos:Pos}
theorem op_lt:OpR X (compareOp .Lt) (rI0 fun i j=>.bl (decide (i < j))):=opB0 fun _ _ _ _ _ _ _ q=>lt_int q
theorem op_le:OpR X (compareOp .LtE) (rI0 fun i j=>.bl (decide (i<=j))):=opB0 fun _ _ _ _ _ _ _ q=>le_int q
theorem op_gt:OpR X (compareOp .Gt) (rI0 fun i j=>.bl (decide (j < i))):=opB0 fun _ _ _ _ _ _ _ q=>gt_int q
theorem OpR.or {f:Value->Value->Sem Value} {r r':R2} (h:OpR X f r) (h':OpR X f r'):OpR X f (fun x y H Q=>r x y H Q \/ r' x y H Q):=by
  intro pins s σ H x y v u Q I rx ry q
  rcases q with q | q
  . exact h pins s σ H x y v u Q I rx ry q
  . exact h' pins s σ H x y v u Q I rx ry q
theorem nomark (b:Expr) {op:CmpOp} (h:op ≠ .In:=by decide) (h2:op ≠ .NotIn:=by decide):behindInMarks op b=false:=by
  have e1:(op == CmpOp.In)=false:=by cases op <;> first | rfl | exact absurd rfl h
  have e2:(op == CmpOp.NotIn)=false:=by cases op <;> first | rfl | exact absurd rfl h2
  cases b <;> simp [behindInMarks,e1,e2]
theorem pe_cmpR {op:CmpOp} {r:R2} (ho:OpR X (compareOp op) r) (ha:PE X a ta) (hb:PE X b tb) (hm:behindInMarks op b=false):PE X (.Compare a [op] [b] pos) (tOp r ta tb):=by
  intro pins s σ H Q I h
  exact wpAny_Compare1 (binT ha hb I h fun v u s2 x y H2 I2 rx ry q=>ho pins s2 σ H2 x y v u Q I2 rx ry q) hm
def tTest (t:TE):TT:=fun σ H Q=>t σ H fun x H'=>∃ k,x=.bl k/\Q k H'
theorem pt_cmpR {op:CmpOp} {r:R2} (ho:OpR X (compareOp op) r) (ha:PE X a ta) (hb:PE X b tb) (hm:behindInMarks op b=false):PT X (.Compare a [op] [b] pos) (tTest (tOp r ta tb)):=by
  intro pins s σ H Q I h
  refine wpAny_isTrue_Compare1 (thn (ha pins s σ H _ I h) fun v s1 ⟨x,H1,I1,r1,q1⟩=>thn (hb pins s1 σ H1 _ I1 q1) fun u s2 ⟨y,H2,I2,r2,q2⟩=>
    thn (ho pins s2 σ H2 x y v u _ I2 r1 r2 q2) fun c s3 ⟨z,H3,I3,r3,k,e,q3⟩=>?_) hm
  subst e
  cases r3
  exact wpAny_truthy_bool ⟨H3,I3,q3⟩
def tChain (r r':R2) (ta tb tc:TE):TE:=fun σ H Q=>ta σ H fun x H1=>tb σ H1 fun y H2=>r x y H2 fun z H3=>∃ k,z=.bl k /\
  (if k=true then tc σ H3 fun w' H4=>r' y w' H4 Q else Q (.bl false) H3)
theorem pe_chain {op op':CmpOp} {r r':R2} (ho:OpR X (compareOp op) r) (ho':OpR X (compareOp op') r') (ha:PE X a ta) (hb:PE X b tb) (hc:PE X c tc)
    (hm:lastMarks [op,op'] [b,c]=false:=by with_unfolding_all rfl):PE X (.Compare a [op,op'] [b,c] pos) (tChain r r' ta tb tc):=by
  intro pins s σ H Q I h
  refine Compare_chain (thn (ha pins s σ H _ I h) fun v s1 ⟨x,H1,I1,r1,q1⟩=>chain_link (thn (hb pins s1 σ H1 _ I1 q1) fun u s2 ⟨y,H2,I2,r2,q2⟩=>
    thn (ho pins s2 σ H2 x y v u _ I2 r1 r2 q2) fun d s3 ⟨z,H3,I3,r3,k,e,q3⟩=>?_)) hm
  subst e
  cases r3
  refine wpAny_truthy_bool ?_
  cases k with
  | false=>exact ite_ff ⟨.bl false,H3,I3,rfl,q3⟩
  | true=>exact ite_tt (chain_last (thn (hc pins s3 σ H3 _ I3 q3) fun w' s4 ⟨z',H4,I4,r4,q4⟩=>ho' pins s4 σ H4 y z' u w' Q I4 r2 r4 q4))
theorem pt_chain {op op':CmpOp} {r r':R2} (ho:OpR X (compareOp op) r) (ho':OpR X (compareOp op') r') (ha:PE X a ta) (hb:PE X b tb) (hc:PE X c tc)
    (hm:lastMarks [op,op'] [b,c]=false:=by with_unfolding_all rfl):PT X (.Compare a [op,op'] [b,c] pos) (tTest (tChain r r' ta tb tc)):=by
  intro pins s σ H Q I h
  refine isTrue_chain (thn (ha pins s σ H _ I h) fun v s1 ⟨x,H1,I1,r1,q1⟩=>test_link (thn (hb pins s1 σ H1 _ I1 q1) fun u s2 ⟨y,H2,I2,r2,q2⟩=>
    thn (ho pins s2 σ H2 x y v u _ I2 r1 r2 q2) fun d s3 ⟨z,H3,I3,r3,k,e,q3⟩=>?_)) hm
  subst e
  cases r3
  refine wpAny_truthy_bool ?_
  cases k with
  | false=>
    obtain ⟨k',e',q'⟩:=q3
    cases e'
    exact ite_ff ⟨H3,I3,q'⟩
  | true=>
    refine ite_tt (test_last (thn (hc pins s3 σ H3 _ I3 q3) fun w' s4 ⟨z',H4,I4,r4,q4⟩=>thn (ho' pins s4 σ H4 y z' u w' _ I4 r2 r4 q4) fun d' s5 ⟨z2,H5,I5,r5,k2,e2,q5⟩=>?_))
    subst e2
    cases r5
    exact wpAny_truthy_bool ⟨H5,I5,q5⟩
def TruV (K:W.Frag) (x:V) (H:Hp) (k:Bool):Prop:=
  match x with
  | .non=>k=false
  | .bl b=>k=b
  | .int i=>k=(i != 0)
  | .str y=>y.length<=sizeLine/\k=((y.length:Int) != 0)
  | .byt y=>y.size<=sizeLine/\k=((y.size:Int) != 0)
  | .ref p=>(∃ xs,SqL K H p xs/\k = !xs.isEmpty) \/ (∃ xs,SqT K H p xs/\k = !xs.isEmpty) \/ ∃ kvs,H p=some (.dK kvs)/\k = !kvs.isEmpty
  | _=>False
theorem isEmpty_kv {κ:Type} {kvs:List (κ × V)} {vs:List (κ × Value)} (r:KV kvs vs):(!vs.isEmpty) = !kvs.isEmpty:=by
  cases r <;> rfl
theorem a7C {xs:List V} {its:List Value} (r:a1u xs its):(!its.toArray.isEmpty) = !xs.isEmpty:=by
  cases r <;> simp
theorem a6c:(sizeLine:Nat) < 2 ^ 63:=by rw [sizeLine_eq]; decide
theorem tru_ok:TruR X (fun x H Q=>∃ k,TruV X.K x H k/\Q k H):=by
  intro pins s σ H x v Q I rx h
  obtain ⟨k,e,q⟩:=h
  have hl:=a6c
  have hs:sizeLine=16777216:=sizeLine_eq
  cases x with
  | non=>
    cases rx
    have e':k=false:=e
    subst e'
    exact truthy_none ⟨H,I,q⟩
  | bl b=>
    cases rx
    have e':k=b:=e
    subst e'
    exact wpAny_truthy_bool ⟨H,I,q⟩
  | int i=>
    obtain ⟨t,rfl⟩:=rx
    have e':k=(i != 0):=e
    subst e'
    exact PySem.P.truthy_int ⟨H,I,q⟩
  | str y=>
    obtain ⟨t,rfl⟩:=rx
    obtain ⟨hy,e'⟩:y.length<=sizeLine/\k=((y.length:Int) != 0):=e
    subst e'
    exact PySem.P.truthy_str (by ac_rfl) ⟨H,I.tok _,q⟩
  | byt y=>
    obtain ⟨t,rfl⟩:=rx
    obtain ⟨hy,e'⟩:y.size<=sizeLine/\k=((y.size:Int) != 0):=e
    subst e'
    exact W.truthy_bytes (by ac_rfl) ⟨H,I.tok _,q⟩
  | ref p=>
    cases rx
    have e':(∃ xs,SqL X.K H p xs/\k = !xs.isEmpty) \/ (∃ xs,SqT X.K H p xs/\k = !xs.isEmpty) \/ ∃ kvs,H p=some (.dK kvs)/\k = !kvs.isEmpty:=e
    rcases e' with ⟨xs,hx,e'⟩ | ⟨xs,hx,e'⟩ | ⟨kvs,hx,e'⟩
    . subst e'
      obtain ⟨its,r,pl,hz⟩:=I.list hx
      have hlen:=r.length
      exact wpAny_truthy_list pl.isList (by simp only [List.size_toArray]; ac_rfl) ⟨H,I.tok _,by rw [a7C r]; exact q⟩
    . subst e'
      obtain ⟨its,r,pl,hz⟩:=I.tuple hx
      have hlen:=r.length
      exact truthy_tuple pl (by simp only [List.size_toArray]; ac_rfl) ⟨H,I.tok _,by rw [a7C r]; exact q⟩
    . subst e'
      obtain ⟨hz,hS,vs,r,m⟩:kvs.length<=sizeLine/\(p == sysModules)=false /\ ∃ vs,KV kvs vs/\s.heap.DictOf (a2i X.prog X.w) p vs:=I.hok p _ hx
      have hlen:kvs.length=vs.length:=Paired.length r
      exact wpAny_truthy_dict hS m (by ac_rfl) ⟨H,I.tok _,by rw [isEmpty_kv r]; exact q⟩
  | _=>exact (show False from e).elim
theorem pt_truth (ha:PE X a ta) (he:∀ whole,isTrue a X.env whole=(do let v <- whole; standAt a.pos; holding [v] (truthy v))):
    PT X a (fun σ H Q=>ta σ H fun x H'=>∃ k,TruV X.K x H' k/\Q k H'):=by
  intro pins s σ H Q I h
  exact isTrue_plain (thn (ha pins s σ H _ I h) fun v s1 ⟨x,H1,I1,r1,q1⟩=>tru_ok pins s1 σ H1 x v Q I1 r1 q1) (he _)
theorem op_add_str:OpR X (binaryOp .Add) (fun x y H Q=>∃ i j,x=.str i/\y=.str j/\i.length + j.length<=sizeLine/\Q (.str (i ++ j)) H):=by
  intro pins s σ H x y v u Q I rx ry h
  obtain ⟨i,j,rfl,rfl,hz,q⟩:=h
  obtain ⟨t,rfl⟩:=rx
  obtain ⟨t',rfl⟩:=ry
  exact add_str (fun t' tk=>⟨.str (i ++ j),H,I.tok _,⟨_,rfl⟩,q⟩) hz
theorem a7d {x:V} {us:List Value} (r:a1u [x] us):∃ u,us=[u]/\a1W x u:=by
  cases r with
  | cons r1 r2=>cases r2; exact ⟨_,rfl,r1⟩
theorem vals2 {x y:V} {us:List Value} (r:a1u [x,y] us):∃ u w',us=[u,w']/\a1W x u/\a1W y w':=by
  cases r with
  | cons r1 r2=>
    cases r2 with
    | cons r3 r4=>cases r4; exact ⟨_,_,rfl,r1,r3⟩
theorem call_abs:a3A X (.builtin "abs") (fun xs H Q=>∃ i,xs=[.int i]/\Q (.int (if i < 0 then -i else i)) H):=by
  intro pins s σ H xs us Q I r h
  obtain ⟨i,rfl,q⟩:=h
  obtain ⟨u,rfl,t,rfl⟩:=a7d r
  exact call_abs_int fun u tk=>⟨.int (if i < 0 then -i else i),H,I.tok _,⟨_,rfl⟩,q⟩
theorem call_min2 (hc:X.calm=true):a3A X (.builtin "min") (fun xs H Q=>∃ i j,xs=[.int i,.int j]/\Q (.int (if j < i then j else i)) H):=by
  intro pins s σ H xs us Q I r h
  obtain ⟨i,j,rfl,q⟩:=h
  obtain ⟨u,w',rfl,⟨t,rfl⟩,⟨t',rfl⟩⟩:=vals2 r
  refine min_two_ints (I.ok.hd hc) fun h' tk k=>⟨_,H,I.kept k,?_,q⟩
  by_cases hj:j < i
  . rw [if_pos hj,if_pos hj]; exact ⟨_,rfl⟩
  . rw [if_neg hj,if_neg hj]; exact ⟨_,rfl⟩
end
end L2
namespace L2
open PySem PySem.Spec PyProof.Rows
structure ObjM (h:Heap) (x dx C:Addr) (mA:Str->Option Value):Prop where
  obj:h.get? x=some (W.instObj C dx)
  ns:h.Ns1 dx mA
  ne:dx ≠ x
theorem lookIn_ns {h:Heap} {dx:Addr} {mA:Str->Option Value} (n:h.Ns1 dx mA):∃ od,h.get? dx=some od /\ ∀ name,W.lookIn name od=some (mA name):=by
  obtain ⟨o,es,ep,ho,hd,hk,_,hm⟩:=n
  refine ⟨o,ho,fun name=>?_⟩
  have e:=hm name
  unfold nsFind findBy at e
  rw [<- Array.find?_toList] at e
  unfold W.lookIn
  rw [hd]
  dsimp only
  split
  . rename_i y q
    rw [q] at e
    exact congrArg some e
  . rename_i q
    rw [q] at e
    have a:es.toList.any (·.refKey)=false:=by
      rw [List.any_eq_false]
      intro y hy
      obtain ⟨z,t,hkey⟩:=hk y (Array.mem_toList_iff.mp hy)
      simp [DictEntry.refKey,hkey]
    have a':¬ es.toList.any (·.refKey)=true:=by rw [a]; exact Bool.false_ne_true
    rw [if_neg a']
    exact congrArg some e
theorem ObjM.look {h:Heap} {x dx C:Addr} {mA:Str->Option Value} (I:ObjM h x dx C mA):∃ od,W.InstAt h x (W.instObj C dx) C (some od) /\ ∀ name,W.lookIn name od=some (mA name):=
  let ⟨od,ho,hl⟩:=lookIn_ns I.ns
  ⟨od,⟨I.obj,rfl,rfl,ho⟩,hl⟩
section
variable {prog:Program} {w:World} {A:Around} {E:Value->Shared->Prop} {s:Shared} {K:W.Frag} {x dx C f:Addr} {mA:Str->Option Value} {name:Str} {v:Value}
theorem get_map {expr:Bool} {Q:Value->Shared->Prop} (X:K.In s.heap) (I:ObjM s.heap x dx C mA) (hg:W.plainGet K C name=true) (hh:W.hasDictIn K C=true)
    (ha:W.findIn K (.ref C) name=some none) (hv:mA name=some v) (hv':W.handedIn v=true) (h:Q v { s with toks:=s.toks + 1 }):
    wpAny (model prog w) A (getAttr (.ref x) name expr) Q E s:=by
  obtain ⟨od,J,hl⟩:=I.look
  exact W.get_value X J (W.plainGet_of hg).1 (W.findObj_own hh ha rfl (by rw [hl,hv])) hv' h
theorem get_meth {pl:Sem Bool} {Q:Value × List Value->Shared->Prop} (X:K.In s.heap) (I:ObjM s.heap x dx C mA) (hg:W.plainGet K C name=true)
    (hf:W.findIn K (.ref C) name=some (some (.ref f))) (ht:W.isFn K (.ref f)=true) (hv:mA name=none) (h:Q (.ref f,[.ref x]) s):
    wpAny (model prog w) A (getMethod (.ref x) name pl) Q E s:=by
  obtain ⟨od,J,hl⟩:=I.look
  exact W.method_fn X J (W.plainGet_of hg).1 (W.plainGet_of hg).2 hf (beq_iff_eq.mp ht) (by show (W.lookIn name od).map (·.isSome)=some false; rw [hl,hv]; rfl) h
theorem set_map {ns:List Str} {Q:Unit->Shared->Prop} (X:K.In s.heap) (I:ObjM s.heap x dx C mA)
    (hs:W.findIn K (.ref C) "__setattr__" = some (some (.builtin "object.__setattr__"))) (hp:W.plainOver K C=true) (ht:W.takerIn K C name=some none) (hh:W.hasDictIn K C=true)
    (hw:PySem.Within mA ns) (hsz:ns.length<=sizeLine)
    (h:∀ h',ObjM h' x dx C (fun y=>if y=name then some v else mA y)->Heap.SameBut dx s.heap h'->Q () { s with heap:=h',toks:=s.toks + 2 }):
    wpAny (model prog w) A (setAttr (.ref x) name v) Q E s:=by
  obtain ⟨od,J,hl⟩:=I.look
  refine W.set_plain X J hs (W.osa_open (s:={ s with toks:=s.toks + 1 }) (r:=none) X J hp ht fun b=>?_)
  obtain ⟨cd,hc,hd'⟩:=W.any_some hh
  have hx:s.heap.get? x=some ⟨.ref C,some dx,.plain,#[]⟩:=I.obj
  refine wpAny_bind (wpAny_pure (wpAny_bind (wpAny_bind (wpAny_loadPart hx (wpAny_bind (W.Looks.here (s:={ s with toks:=s.toks + 1 }) (W.looks_clsIn X hc) ?_))))))
  rw [hd']
  refine wpAny_pure (a:=some dx) (wpAny_bind (wpAny_pure (wpAny_bind ?_)))
  refine wpAny_nsSet1 (s:={ s with toks:=s.toks + 1 }) I.ns fun h' hn2 hs2=>?_
  obtain ⟨oD,esD,epD,hoD,hdD,hcD⟩:=hn2.count (PySem.Within.cons name v hw)
  refine wpAny_bind (wpAny_lookBehind hoD (by rw [hdD]; exact pastItsLine_dict (Nat.le_trans hcD (by rw [List.length_cons]; ac_rfl))) ?_)
  exact wpAny_pure (h _ ⟨(hs2.2 _ (Ne.symm I.ne)).trans I.obj,hn2,I.ne⟩ hs2)
theorem make_map {R:Result->Shared->Prop} {vs:List Value} {kw:List (Str × Value)} (X:K.In s.heap) (hm:W.makesIn K C=true)
    (hi:W.findIn K (.ref C) "__init__" = some (some (.ref f))) (hf:W.typeIn K (.ref f)=some (.type "function"))
    (h:codeAny (model prog w) (A.under (.builtin "type.__call__" ⟨.ref C :: vs,kw⟩)) (.call (.ref f) ⟨.ref (s.heap.objs.size + 1) :: vs,kw⟩) (W.InitBack (s.heap.objs.size + 1) R)
      { s with heap:=(s.heap.push W.emptyDict).push (W.instObj C s.heap.objs.size) }):
    codeAny (model prog w) A (.call (.ref C) ⟨vs,kw⟩) R s:=by
  obtain ⟨hh,g,d,t,os⟩:=s
  exact W.make_core (W.makes_of X hm) (W.looks_findIn X hi) (fun self=>W.bind_fn X self hf) (.inl rfl) h
end
noncomputable def a8a (f:Str) (v:V):List (Str × V)->List (Str × V)
  | []=>[(f,v)]
  | (g,x) :: r=>if g=f then (g,v) :: r else (g,x) :: a8a f v r
theorem a6I (f g:Str) (v:V):∀ fs:List (Str × V),(a8a f v fs).lookup g=if g=f then some v else fs.lookup g
  | []=>by
    show List.lookup g [(f,v)]=_
    by_cases h:g=f
    . have hb:(g == f)=true:=beq_iff_eq.mpr h
      simp only [List.lookup,hb,if_pos h]
    . have hb:(g == f)=false:=beq_eq_false_iff_ne.mpr h
      simp only [List.lookup,hb,if_neg h]
  | (k,x) :: r=>by
    have ih:=a6I f g v r
    rw [show a8a f v ((k,x) :: r)=(if k=f then (k,v) :: r else (k,x) :: a8a f v r) from rfl]
    by_cases hk:k=f
    . rw [if_pos hk]
      by_cases h:g=k
      . have hb:(g == k)=true:=beq_iff_eq.mpr h
        simp only [List.lookup,hb,if_pos (h.trans hk)]
      . have hb:(g == k)=false:=beq_eq_false_iff_ne.mpr h
        simp only [List.lookup,hb,if_neg (fun e:g=f=>h (e.trans hk.symm))]
    . rw [if_neg hk]
      by_cases h:g=k
      . have hb:(g == k)=true:=beq_iff_eq.mpr h
        simp only [List.lookup,hb,if_neg (fun e:g=f=>hk (h.symm.trans e))]
      . have hb:(g == k)=false:=beq_eq_false_iff_ne.mpr h
        simp only [List.lookup,hb]
        exact ih
theorem a6M (f:Str) (v:V):∀ fs:List (Str × V),f ∈ (a8a f v fs).map (·.1) /\ ∀ g,g ∈ fs.map (·.1)->g ∈ (a8a f v fs).map (·.1)
  | []=>⟨by simp [a8a],fun g h=>by simp at h⟩
  | (k,x) :: r=>by
    obtain ⟨i1,i2⟩:=a6M f v r
    rw [show a8a f v ((k,x) :: r)=(if k=f then (k,v) :: r else (k,x) :: a8a f v r) from rfl]
    by_cases hk:k=f
    . rw [if_pos hk]
      subst hk
      exact ⟨by simp,fun g h=>by simpa using h⟩
    . rw [if_neg hk]
      refine ⟨?_,fun g h=>?_⟩
      . rw [List.map_cons]
        exact List.mem_cons_of_mem _ i1
      . rw [List.map_cons] at h ⊢
        rcases List.mem_cons.mp h with e | e
        . exact List.mem_cons.mpr (.inl e)
        . exact List.mem_cons_of_mem _ (i2 g e)
theorem a6K (f:Str) (v:V):∀ fs:List (Str × V),(a8a f v fs).length<=fs.length + 1
  | []=>by simp [a8a]
  | (k,x) :: r=>by
    have ih:=a6K f v r
    rw [show a8a f v ((k,x) :: r)=(if k=f then (k,v) :: r else (k,x) :: a8a f v r) from rfl]
    by_cases hk:k=f
    . rw [if_pos hk,List.length_cons,List.length_cons]; ac_rfl
    . rw [if_neg hk,List.length_cons,List.length_cons]; ac_rfl
theorem a9M.some_of {v:V} {o:Option Value} (r:a9M (some v) o):∃ u,o=some u/\a1W v u:=by
  cases o with
  | none=>exact (show False from r).elim
  | some u=>exact ⟨u,rfl,r⟩
theorem a9M.none_of {o:Option Value} (r:a9M none o):o=none:=by
  cases o with
  | none=>rfl
  | some u=>exact (show False from r).elim
theorem handed_of {v:V} {u:Value} (r:a1W v u):W.handedIn u=true:=by
  cases v with
  | non=>cases (show u=Value.none from r); rfl
  | bl b=>cases (show u=Value.bool b from r); rfl
  | int i=>obtain ⟨t,e⟩:=(show ∃ t,u=Value.int i t from r); cases e; rfl
  | str x=>obtain ⟨t,e⟩:=(show ∃ t,u=Value.str x t from r); cases e; rfl
  | byt b=>obtain ⟨t,e⟩:=(show ∃ t,u=Value.bytes b t from r); cases e; rfl
  | flt b=>obtain ⟨t,e⟩:=(show ∃ t,u=Value.float b t from r); cases e; rfl
  | ref a=>cases (show u=Value.ref a from r); rfl
  | ty n=>cases (show u=Value.type n from r); rfl
section
variable {P:Program} {w:World} {H H':Hp} {h h':Heap} {a C dx:Addr} {fs fs':List (Str × V)}
theorem a8s (hok:HOk P w H h) (e:H a=some (.ins C dx fs)):∃ mA,ObjM h a dx C mA/\(∀ f,a9M (fs.lookup f) (mA f))/\PySem.Within mA (fs.map (·.1))/\fs.length<=1000/\H dx=some (.own a):=by
  obtain ⟨d,z,ne,ob,mA,n,r,q⟩:=(show a1K P w H h a (.ins C dx fs) from hok a _ e)
  exact ⟨mA,⟨ob,n,ne⟩,r,q,z,d⟩
end
structure Cls (K:W.Frag) (C:Addr):Prop where
  pg:W.plainGet K C Str.empty=true
  hd:W.hasDictIn K C=true
  po:W.plainOver K C=true
  sa:W.findIn K (.ref C) "__setattr__" = some (some (.builtin "object.__setattr__"))
theorem Cls.get {K:W.Frag} {C:Addr} (c:Cls K C) (f:Str):W.plainGet K C f=true:=c.pg
def a3Q (K:W.Frag) (C:Addr) (f:Str):Prop:=W.findIn K (.ref C) f=some none
theorem a3Q.taker {K:W.Frag} {C:Addr} {f:Str} (n:a3Q K C f):W.takerIn K C f=some none:=by
  unfold W.takerIn
  rw [show W.findIn K (.ref C) f=some none from n]
  rfl
structure Meth (K:W.Frag) (C:Addr) (m:Str) (f:Addr):Prop where
  at_:W.findIn K (.ref C) m=some (some (.ref f))
  fn:W.isFn K (.ref f)=true
  kp:W.keepIn K (.ref f)=true
section
variable {X:Cx} {pins:List (Addr × Obj)} {σ:St} {H:Hp} {s:Shared} {a C dx:Addr} {fs:List (Str × V)} {f:Str} {v:V} {A:Around} {E:Value->Shared->Prop}
theorem getattr_ok {b:Bool} {Q:Value->Shared->Prop} (I:Inv X pins σ H s) (e:H a=some (.ins C dx fs)) (c:Cls X.K C) (n:a3Q X.K C f) (l:fs.lookup f=some v)
    (h:∀ u s',Inv X pins σ H s'->a1W v u->Q u s'):wpAny (model X.prog X.w) A (getAttr (.ref a) f b) Q E s:=by
  obtain ⟨mA,O,r,_,_,_⟩:=a8s I.hok e
  obtain ⟨u,hu,ru⟩:=a9M.some_of (v:=v) (o:=mA f) (by rw [<- l]; exact r f)
  exact get_map I.kIn O (c.get f) c.hd n hu (handed_of ru) (h u _ (I.tok _) ru)
theorem a7E {m:Str} {g:Addr} {pl:Sem Bool} {Q:Value × List Value->Shared->Prop} (I:Inv X pins σ H s) (e:H a=some (.ins C dx fs)) (c:Cls X.K C) (k:Meth X.K C m g) (l:fs.lookup m=none)
    (h:Q (.ref g,[.ref a]) s):wpAny (model X.prog X.w) A (getMethod (.ref a) m pl) Q E s:=by
  obtain ⟨mA,O,r,_,_,_⟩:=a8s I.hok e
  have hn:mA m=none:=a9M.none_of (by rw [<- l]; exact r m)
  exact get_meth I.kIn O (c.get m) k.at_ k.fn hn h
theorem setattr_ok {y:V} {u:Value} {Q:Unit->Shared->Prop} (I:Inv X pins σ H s) (e:H a=some (.ins C dx fs)) (c:Cls X.K C) (n:a3Q X.K C f) (hl:fs.length < 1000) (ry:a1W y u)
    (h:∀ s',Inv X pins σ (upd H a (.ins C dx (a8a f y fs))) s'->Q () s'):wpAny (model X.prog X.w) A (setAttr (.ref a) f u) Q E s:=by
  obtain ⟨mA,O,r,wi,_,ho⟩:=a8s I.hok e
  have hz:(fs.map (·.1)).length<=sizeLine:=by rw [List.length_map,sizeLine_eq]; ac_rfl
  refine set_map I.kIn O c.sa c.po n.taker c.hd wi hz fun h' O' sb=>h _ ?_
  have hd:∃ o,h'.get? dx=some o:=let ⟨o,_,_,e',_⟩:=O'.ns; ⟨o,e'⟩
  refine I.write (x:=a) (e:=dx) (by rw [e]; exact True.intro) (.inr ho) (fun b q hb z=>(sb.2 b hb).trans z) hd ?_
  refine ⟨by rw [a0w O.ne]; exact ho,?_,O.ne,O'.obj,_,O'.ns,fun g=>?_,fun g hg=>?_⟩
  . have:=a6K f y fs; ac_rfl
  . show a9M ((a8a f y fs).lookup g) (if g=f then some u else mA g)
    rw [a6I]
    by_cases q:g=f
    . rw [if_pos q,if_pos q]; exact ry
    . rw [if_neg q,if_neg q]; exact r g
  . by_cases q:g=f
    . rw [q]; exact (a6M f y fs).1
    . refine (a6M f y fs).2 g (wi g fun z=>hg ?_)
      show (if g=f then some u else mA g)=none
      rw [if_neg q]; exact z
theorem Inv.made (I:Inv X pins σ H s):Inv X pins σ (upd (upd H s.heap.objs.size (.own (s.heap.objs.size + 1))) (s.heap.objs.size + 1) (.ins C s.heap.objs.size []))
    { s with heap:=(s.heap.push W.emptyDict).push (W.instObj C s.heap.objs.size) }:=by
  have e1:(s.heap.push W.emptyDict).get? s.heap.objs.size=some W.emptyDict:=Heap.get?_push_size s.heap rfl
  have e2:((s.heap.push W.emptyDict).push (W.instObj C s.heap.objs.size)).get? (s.heap.objs.size + 1)=some (W.instObj C s.heap.objs.size):=by
    have:=Heap.get?_push_size (s.heap.push W.emptyDict) (o:=W.instObj C s.heap.objs.size) rfl
    rwa [Heap.size_push] at this
  have e3:(s.heap.push W.emptyDict).Ns s.heap.objs.size (fun _=>none):=⟨W.emptyDict,#[],_,e1,rfl,(fun e he=>absurd he (by simp)),fun _=>rfl⟩
  have I1:=I.laid (a:=s.heap.objs.size) (o:=.own (s.heap.objs.size + 1)) (h':=s.heap.push W.emptyDict) (t':=s.toks) (fun b u q=>Heap.get?_push_of_some _ q) (Nat.le_refl _) ⟨_,e1⟩
  refine I1.laid (a:=s.heap.objs.size + 1) (o:=.ins C s.heap.objs.size []) (t':=s.toks) (fun b u q=>Heap.get?_push_of_some _ q) (Nat.le_of_eq (Heap.size_push _ _)) ?_
  have ne:s.heap.objs.size ≠ s.heap.objs.size + 1:=Nat.ne_of_lt (Nat.lt_succ_self _)
  refine ⟨by rw [a0w ne,a0E],Nat.zero_le _,ne,e2,fun _=>none,(Heap.Ns1.of_empty e3).at fun o q=>Heap.get?_push_of_some _ q,fun _=>True.intro,fun y hy=>absurd rfl hy⟩
theorem attr_of {prog:Program} {w:World} {env:Env} {e:Expr} {f:Str} {pos:Pos} {s:Shared} {Q:Value->Shared->Prop} (hb:attributeBase e f env (eval e env)=eval e env)
    (h:wpAny (model prog w) A (eval e env) (fun o s₁=>wpAny (model prog w) A (getAttr o f true) Q E s₁) E s):wpAny (model prog w) A (eval (.Attribute e f pos) env) Q E s:=
  Attribute_any_ h (by rw [arm_eval_Attribute,hb])
end
def tFld (K:W.Frag) (ta:TE) (f:Str):TE:=fun σ H Q=>ta σ H fun x H1=>∃ a C dx fs v,x=.ref a/\H1 a=some (.ins C dx fs)/\Cls K C/\a3Q K C f/\fs.lookup f=some v/\Q v H1
def sFld (K:W.Frag) (ta tv:TE) (f:Str):TS:=fun D σ H=>tv σ H fun y H1=>ta σ H1 fun x H2=>∃ a C dx fs,x=.ref a/\H2 a=some (.ins C dx fs)/\Cls K C/\a3Q K C f/\fs.length < 1000 /\
  D.nx σ (upd H2 a (.ins C dx (a8a f y fs)))
section
variable {X:Cx} {o e value:Expr} {f:Str} {pos pos' tpos:Pos} {ta tv:TE}
theorem pe_fld (he:PE X e ta) (hb:attributeBase e f X.env (eval e X.env)=eval e X.env):PE X (.Attribute e f pos) (tFld X.K ta f):=by
  intro pins s σ H Q I h
  refine attr_of hb (thn (he pins s σ H _ I h) fun u s1 ⟨x,H1,I1,rx,a,C,dx,fs,v,ex,ea,c,n,l,q⟩=>?_)
  subst ex
  obtain rfl:u=Value.ref a:=rx
  exact getattr_ok I1 ea c n l fun u' s2 I2 ru=>⟨v,H1,I2,ru,q⟩
theorem ps_fld (ha:PE X o ta) (hv:PE X value tv) (hs:swapsWith value (some (.Attribute o f pos')) pos.line X.env=pure false):PS X (.Assign [.Attribute o f pos'] value pos) (sFld X.K ta tv f):=by
  intro pins s σ H D I h
  refine plainObj_wpAny_Assign_Attribute (thn (hv pins s σ H _ I h) fun u s1 ⟨y,H1,I1,ry,q⟩=>thn (ha pins s1 σ H1 _ I1 q) fun ov s2 ⟨x,H2,I2,rx,a,C,dx,fs,ex,ea,c,n,l,q2⟩=>?_) hs
  subst ex
  obtain rfl:ov=Value.ref a:=rx
  exact setattr_ok I2 ea c n l ry fun s3 I3=>⟨σ,_,I3,q2⟩
end
section
variable {X:Cx} {pins:List (Addr × Obj)} {σ:St} {H:Hp} {s:Shared} {A:Around} {E:Value->Shared->Prop} {Q:Value->Shared->Prop} {c:Value} {b:Bool}
inductive TyOf (K:W.Frag) (H:Hp):V->Value->Prop where
  | non:TyOf K H .non (.type "NoneType")
  | bl (x:Bool):TyOf K H (.bl x) (.type "bool")
  | int (i:Int):TyOf K H (.int i) (.type "int")
  | str (x:Str):TyOf K H (.str x) (.type "str")
  | flt (x:UInt64):TyOf K H (.flt x) (.type "float")
  | lst {a:Addr} {xs:List V} (e:H a=some (.lst xs)):TyOf K H (.ref a) (.type "list")
  | frz {a:Addr} {o:Obj} {xs:List V} (e:H a=some (.frz o (.lst xs))):TyOf K H (.ref a) (.type "list")
  | tup {a:Addr} {xs:List V} (e:H a=some (.tup xs)):TyOf K H (.ref a) (.type "tuple")
  | dK {a:Addr} {kvs:List (Key × V)} (e:H a=some (.dK kvs)):TyOf K H (.ref a) (.type "dict")
  | dT {a:Addr} {ep:Nat} {kvs:List (List Key × V)} (e:H a=some (.dT ep kvs)):TyOf K H (.ref a) (.type "dict")
  | ins {a C dx:Addr} {fs:List (Str × V)} (e:H a=some (.ins C dx fs)) (cl:Cls K C) (ha:W.findIn K (.ref C) "__class__" = some (some (.builtin "object.__class__")))
      (hn:W.specialIn K (.builtin "object.__class__") "__get__" = some (some (.builtin "getset_descriptor.__get__"))) (htk:W.takesIn K (.builtin "object.__class__")=some true)
      (hm:W.mroIn K C (.type "object")=some true):TyOf K H (.ref a) (.ref C)
theorem isinst_ok {x:V} {u t:Value} (I:Inv X pins σ H s) (rx:a1W x u) (ty:TyOf X.K H x t) (e:W.kitOne X.K t c=some b) (h:∀ tk,Q (.bool b) { s with toks:=tk }):
    wpAny (model X.prog X.w) A (call (.builtin "isinstance") [u,c]) Q E s:=by
  cases ty with
  | non=>cases (show u=Value.none from rx); exact W.kia_one W.kitx_none I.kIn True.intro e (fun z=>nomatch z) h
  | bl y=>cases (show u=Value.bool y from rx); exact W.kia_one W.kitx_bool I.kIn True.intro e (fun z=>nomatch z) h
  | int i=>obtain ⟨t,q⟩:=(show ∃ t,u=Value.int i t from rx); cases q; exact W.kia_one W.kitx_int I.kIn True.intro e (fun z=>nomatch z) h
  | str y=>obtain ⟨t,q⟩:=(show ∃ t,u=Value.str y t from rx); cases q; exact W.kia_one W.kitx_str I.kIn True.intro e (fun z=>nomatch z) h
  | flt y=>obtain ⟨t,q⟩:=(show ∃ t,u=Value.float y t from rx); cases q; exact W.kia_one W.kitx_float I.kIn True.intro e (fun z=>nomatch z) h
  | @lst a xs ea=>
    cases (show u=Value.ref a from rx)
    obtain ⟨_,_,n,_,h1⟩:=(show a1K X.prog X.w H s.heap a (.lst xs) from I.hok a _ ea)
    exact W.kia_one W.kitx_list I.kIn ⟨_,h1,rfl⟩ e (fun z=>nomatch z) h
  | @frz a ob xs ea=>
    cases (show u=Value.ref a from rx)
    obtain ⟨_,_,_,n,_,h1⟩:=(show a1K X.prog X.w H s.heap a (.frz ob (.lst xs)) from I.hok a _ ea)
    exact W.kia_one W.kitx_list I.kIn ⟨_,h1,rfl⟩ e (fun z=>nomatch z) h
  | @tup a xs ea=>
    cases (show u=Value.ref a from rx)
    obtain ⟨_,_,_,p⟩:=(show a1K X.prog X.w H s.heap a (.tup xs) from I.hok a _ ea)
    obtain ⟨o,h1,h2,_⟩:=p
    exact W.kia_one W.kitx_tuple I.kIn ⟨o,h1,h2⟩ e (fun z=>nomatch z) h
  | @dK a kvs ea=>
    cases (show u=Value.ref a from rx)
    obtain ⟨_,_,vs,_,p⟩:=(show a1K X.prog X.w H s.heap a (.dK kvs) from I.hok a _ ea)
    obtain ⟨o,es,ep,h1,h2,_⟩:=p
    exact W.kia_one W.kitx_dict I.kIn ⟨o,h1,h2.1⟩ e (fun z=>nomatch z) h
  | @dT a ep kvs ea=>
    cases (show u=Value.ref a from rx)
    obtain ⟨_,_,xs,_,o,es,h1,h2,_⟩:=(show a1K X.prog X.w H s.heap a (.dT ep kvs) from I.hok a _ ea)
    exact W.kia_one W.kitx_dict I.kIn ⟨o,h1,h2.1⟩ e (fun z=>nomatch z) h
  | @ins a C dx fs ea cl ha hn htk hm=>
    cases (show u=Value.ref a from rx)
    obtain ⟨mA,O,_⟩:=a8s I.hok ea
    obtain ⟨od,J,_⟩:=O.look
    exact W.kia_one (W.kitx_own (cl.get _) cl.hd ha hn htk hm) I.kIn J e (fun z=>nomatch z) h
end
end L2
namespace L2
open PySem PySem.Spec PyProof.Rows
structure Room (k:Nat) (A:Around):Prop where
  hd:A.handled=none
  dp:A.depth + 3 * k + 5 < recursionLimit
  un:A.units + 16 * k + 200 < cLine
theorem Room.mono {j k:Nat} {A:Around} (r:Room k A) (h:j<=k):Room j A:=⟨r.hd,by have:=r.dp; ac_rfl,by have:=r.un; ac_rfl⟩
theorem Room.deeper {k:Nat} {A:Around} (r:Room (k + 1) A) (env:Env):Room k (A.deeper env):=
  ⟨r.hd,by have:=r.dp; show A.depth + 1 + 3 * k + 5 < _; ac_rfl,by have:=r.un; show A.units + 3 + 16 * k + 200 < _; ac_rfl⟩
theorem make_depth {A:Around} {C:Addr} {us:List Value} {kw:List (Str × Value)}:(A.under (.builtin "type.__call__" ⟨.ref C :: us,kw⟩)).depth=A.depth + 1:=by
  first | rfl | simp [Around.under,Code.weight,Code.isCreation,Code.isGuard,Code.isCaller,Code.frames,Code.isFrame,guardIds]
theorem make_units {A:Around} {C:Addr} {us:List Value} {kw:List (Str × Value)}:(A.under (.builtin "type.__call__" ⟨.ref C :: us,kw⟩)).units=A.units + 1:=by
  first | rfl | simp [Around.under,Code.cUnits,Code.frames,Code.isFrame]
theorem Room.make {k:Nat} {A:Around} (r:Room (k + 1) A) (C:Addr) (us:List Value) (kw:List (Str × Value)):Room k (A.under (.builtin "type.__call__" ⟨.ref C :: us,kw⟩)):=
  ⟨r.hd,by have:=r.dp; rw [make_depth]; ac_rfl,by have:=r.un; rw [make_units]; ac_rfl⟩
theorem Room.depth {k:Nat} {A:Around} (r:Room k A):A.depth < recursionLimit:=by have:=r.dp; ac_rfl
theorem Room.units {k:Nat} {A:Around} (r:Room k A):A.units + 64 < cLine:=by have:=r.un; ac_rfl
def tNil:TA:=fun _ H Q=>Q [] H
def tCons (ta:TE) (tr:TA):TA:=fun σ H Q=>ta σ H fun x H1=>tr σ H1 fun xs H2=>Q (x :: xs) H2
section
variable {X:Cx} {e:Expr} {es:List Expr} {te:TE} {t:TA} {pos:Pos}
theorem a7y:PA X [] tNil:=fun _ _ _ _ H Q I h=>Calls.spliced_nil ⟨[],H,I,.nil,h⟩
theorem a3F (ha:PE X e te) (hr:PA X es t) (hs:starEach (e :: es) X.env=(false,eval e X.env) :: starEach es X.env:=by rfl):PA X (e :: es) (tCons te t):=by
  intro pos pins s σ H Q I h
  rw [hs]
  show wpAny _ _ (spliced ((false,eval e X.env) :: backTo pos (starEach es X.env))) _ _ s
  refine Calls.spliced_cons (thn (ha pins s σ H _ I h) fun u s1 ⟨x,H1,I1,r1,q1⟩=>?_)
  exact thn (hr pos pins s1 σ H1 _ I1 q1) fun us s2 ⟨xs,H2,I2,r2,q2⟩=>⟨x :: xs,H2,I2,.cons r1 r2,q2⟩
def tTup (t:TA):TE:=fun σ H Q=>t σ H fun xs H1=>xs.length<=sizeLine /\ ∀ p,H1 p=none->Q (.ref p) (upd H1 p (.tup xs))
def tLst (t:TA):TE:=fun σ H Q=>t σ H fun xs H1=>xs.length<=sizeLine /\ ∀ p,H1 p=none->Q (.ref p) (upd H1 p (.lst xs))
theorem pe_tup {x1} (h:PA X es t):PE X (.Tuple es x1 pos) (tTup t):=by
  intro pins s σ H Q I hq
  refine wpAny_Tuple_spliced (thn (h pos pins s σ H _ I hq) fun us s1 ⟨xs,H1,I1,r,z,q⟩=>⟨by rw [<- r.length]; exact z,?_⟩)
  have hf:H1 s1.heap.objs.size=none:=I1.hok.fresh (Nat.le_refl _)
  refine ⟨.ref s1.heap.objs.size,upd H1 s1.heap.objs.size (.tup xs),I1.laid (t':=s1.toks) (fun b u e=>Heap.get?_push_of_some _ e) (Nat.le_refl _) ?_,rfl,q _ hf⟩
  exact ⟨z,us,r,⟨_,Heap.get?_push_size _ rfl,rfl,_,rfl⟩⟩
theorem pe_lst (h:PA X es t):PE X (.List es pos) (tLst t):=by
  intro pins s σ H Q I hq
  refine wpAny_List_spliced (thn (h pos pins s σ H _ I hq) fun us s1 ⟨xs,H1,I1,r,z,q⟩=>⟨by rw [<- r.length]; exact z,?_⟩)
  have hf:H1 s1.heap.objs.size=none:=I1.hok.fresh (Nat.le_refl _)
  refine ⟨.ref s1.heap.objs.size,upd H1 s1.heap.objs.size (.lst xs),I1.laid (t':=s1.toks) (fun b u e=>Heap.get?_push_of_some _ e) (Nat.le_refl _) ?_,rfl,q _ hf⟩
  exact ⟨z,us,0,r,Heap.get?_push_size _ rfl⟩
end
abbrev Sp:=List V->Hp->VK->XK->Prop
abbrev CXT:=List Env->Hp->Shared->XK->Value->Shared->Prop
structure Env0 (P:Program) (w:World) (K:W.Frag) (mg:Str->Option Value) (base:Heap) (A:Around) (outer:List Env) (s:Shared) (H:Hp):Prop where
  frames:A.frames=some outer
  mod:Mod K mg base
  bs:∀ b o,base.get? b=some o->s.heap.get? b=some o/\H b=none
  bsz:base.objs.size<=s.heap.objs.size
  funs:s.heap.FunFrames base outer
  frf:∀ b ∈ frs outer,H b=none
  hok:HOk P w H s.heap
  bare:AllBare s.gens
def CE (outer:List Env) (P:Program) (w:World) (H:Hp) (s:Shared) (Q:VK) (u:Value) (s':Shared):Prop:=
  ∃ v H',s'.os=s.os/\AllBare s'.gens/\Un (frs outer) [] H H' s.heap s'.heap/\HOk P w H' s'.heap/\a1W v u/\Q v H'
def CR (CX:CXT) (outer:List Env) (P:Program) (w:World) (H:Hp) (s:Shared) (Q:VK) (E:XK) (r:Result) (s':Shared):Prop:=
  match r with
  | .ok (.ret u)=>CE outer P w H s Q u s'
  | .ok _=>False
  | .error e=>CX outer H s E e s'
structure FnOk (P:Program) (w:World) (K:W.Frag) (mg:Str->Option Value) (base:Heap) (CX:CXT) (k:Nat) (f:Addr) (fd:FuncData) (ps:List Str) (sp:Sp):Prop where
  len:∀ vs H Q E,sp vs H Q E->vs.length=ps.length
  run:∀ (A:Around) (outer:List Env) (s:Shared) (H:Hp) (args:Args) (us:List Value) (vs:List V) (Q:VK) (E:XK),Room k A->Env0 P w K mg base A outer s H->BindsTo s fd args (ps.zip us)->a1u vs us->sp vs H Q E ->
    codeAny (model P w) A (.call (.ref f) args) (CR CX outer P w H s Q E) s
theorem Env0.make {P:Program} {w:World} {K:W.Frag} {mg:Str->Option Value} {base:Heap} {A:Around} {outer:List Env} {s:Shared} {H:Hp} (e:Env0 P w K mg base A outer s H) (C:Addr) (us:List Value) (kw:List (Str × Value)):
    Env0 P w K mg base (A.under (.builtin "type.__call__" ⟨.ref C :: us,kw⟩)) outer s H:=⟨by first | exact e.frames | (simpa [Around.under,Code.envs,Code.isFrame,pushEnvs] using e.frames),e.mod,e.bs,e.bsz,e.funs,e.frf,e.hok,e.bare⟩
section
variable {X:Cx} {pins:List (Addr × Obj)} {σ:St} {H:Hp} {s s':Shared}
theorem Inv.env0 (I:Inv X pins σ H s):Env0 X.prog X.w X.K X.mg X.base X.A X.stack s H:=
  ⟨I.ok.frames,I.ok.mod,I.bs,Nat.le_trans I.ok.bsz I.sz,I.stack,I.stkFree,I.hok,I.bare⟩
theorem Inv.after {Q:VK} {u:Value} (I:Inv X pins σ H s) (h:CE X.stack X.prog X.w H s Q u s'):EP X pins σ Q u s':=by
  obtain ⟨v,H',os,bare,un,hok,r,q⟩:=h
  obtain ⟨hh,g,d,t,os'⟩:=s'
  obtain rfl:os'=s.os:=os
  exact ⟨v,H',I.call (h':=hh) (g':=g) (d':=d) (t':=t) (ch:=[]) un hok bare (fun b z=>absurd z (by simp)),r,q⟩
end
def tCall (sp:Sp) (dvs:List V) (E:XK) (t:TA):TE:=fun σ H Q=>t σ H fun vs H1=>sp (vs ++ dvs) H1 Q E
def tMeth (C:Addr) (m:Str) (sp:Sp) (dvs:List V) (E:XK) (ta:TE) (t:TA):TE:=fun σ H Q=>ta σ H fun x H1=>∃ a dx fs,x=.ref a/\H1 a=some (.ins C dx fs)/\fs.lookup m=none /\
  t σ H1 fun vs H2=>sp (x :: (vs ++ dvs)) H2 Q E
def tMake (C:Addr) (sp:Sp) (dvs:List V) (E:XK) (t:TA):TE:=fun σ H Q=>t σ H fun vs H1=>∀ x dx,H1 x=none->H1 dx=none->dx ≠ x ->
  sp (.ref x :: (vs ++ dvs)) (upd (upd H1 dx (.own x)) x (.ins C dx [])) (fun v H2=>v=.non/\Q (.ref x) H2) E
def a3B (K:W.Frag) (fd:FuncData) (ps:List Str) (ds:List Value):Prop:=
  ∀ (s:Shared) (us:List Value),K.In s.heap->(us ++ ds).length=ps.length->BindsTo s fd ⟨us,[]⟩ (ps.zip (us ++ ds))
theorem a3B.all {K:W.Frag} {fd:FuncData} {ps:List Str} (h:∀ us:List Value,us.length=ps.length->bindArgs fd ⟨us,[]⟩=pure (ps.zip us)):a3B K fd ps []:=fun s us _ hl=>by
  rw [List.append_nil] at hl ⊢
  exact .of_eq (h us hl)
def a7a (CX:CXT) (X:Cx) (E:XK):Prop:=∀ (pins:List (Addr × Obj)) (σ:St) (H:Hp) (s:Shared) (e:Value) (s':Shared),Inv X pins σ H s->CX X.stack H s E e s'->X.xe e s'
section
variable {X:Cx} {CX:CXT} {k:Nat} {f C:Addr} {fd:FuncData} {ps:List Str} {sp:Sp} {dvs:List V} {ds:List Value} {E:XK} {x m:Str} {p pos apos:Pos} {e o:Expr} {es:List Expr} {ta:TE} {t:TA}
theorem run_fn {pins:List (Addr × Obj)} {σ:St} {H:Hp} {s:Shared} {Q:VK} {us:List Value} {vs:List V} (F:FnOk X.prog X.w X.K X.mg X.base CX k f fd ps sp) (hr:Room k X.A) (hb:a3B X.K fd ps ds) (hd:a1u dvs ds) (hx:a7a CX X E)
    (I:Inv X pins σ H s) (r:a1u vs us) (h:sp (vs ++ dvs) H Q E):wpAny (model X.prog X.w) X.A (call (.ref f) us) (EP X pins σ Q) X.xe s:=by
  have r2:a1u (vs ++ dvs) (us ++ ds):=r.append hd
  have hl:(us ++ ds).length=ps.length:=by rw [<- r2.length]; exact F.len _ _ _ _ h
  refine wpAny_call (codeAny_mono (F.run X.A X.stack s H ⟨us,[]⟩ (us ++ ds) (vs ++ dvs) Q E hr I.env0 (hb s us I.kIn hl) r2 h) fun r s' hq=>?_)
  cases r with
  | error e=>exact hx pins σ H s e s' I hq
  | ok fl=>
    cases fl with
    | ret u=>exact I.after hq
    | next=>exact False.elim hq
    | brk=>exact False.elim hq
    | cont=>exact False.elim hq
theorem pe_call (F:FnOk X.prog X.w X.K X.mg X.base CX k f fd ps sp) (hr:Room k X.A) (hg:Gl X x) (hm:X.mg x=some (.ref f)) (hk:W.keepIn X.K (.ref f)=true) (hb:a3B X.K fd ps ds) (hd:a1u dvs ds) (hx:a7a CX X E)
    (ha:PA X (e :: es) t) (hdb:(x == ("__debug__" : Str))=false:=by decide) (he:starEach (e :: es) X.env=(false,eval e X.env) :: starEach es X.env:=by rfl) (hpl:(backTo pos (starEach es X.env)).any (·.1)=false:=by rfl):
    PE X (.Call (.Name x p) (e :: es) [] pos) (tCall sp dvs E t):=by
  intro pins s σ H Q I h
  refine wpAny_Call_Name_kw (a4d I hg hm ?_ hdb)
  refine W.callWith_K (h₀:=X.base) I.ok.mod.kin hk (thn (ha pos pins s σ H _ I h) fun us s1 ⟨vs,H1,I1,r,q⟩=>⟨I1.kIn,?_⟩) he hpl
  exact run_fn F hr hb hd hx I1 r q
theorem pe_meth {pl:Sem Bool} (he:PE X o ta) (c:Cls X.K C) (hm:Meth X.K C m f) (F:FnOk X.prog X.w X.K X.mg X.base CX k f fd ps sp) (hr:Room k X.A) (hb:a3B X.K fd ps ds) (hd:a1u dvs ds) (hx:a7a CX X E) (ha:PA X (e :: es) t)
    (hst:starEach (e :: es) X.env=(false,eval e X.env) :: starEach es X.env:=by rfl) (hpl:(backTo pos (starEach es X.env)).any (·.1)=false:=by rfl)
    (ht:eval (.Call (.Attribute o m apos) (e :: es) [] pos) X.env=(do
      let ov <- eval o X.env
      standAt apos.atName
      let (f,first) <- holding [ov] (getMethod ov m pl)
      callWith pos f first (backTo pos (starEach (e :: es) X.env)) (backToKw pos (keywordEach [] X.env))):=by rfl):
    PE X (.Call (.Attribute o m apos) (e :: es) [] pos) (tMeth C m sp dvs E ta t):=by
  intro pins s σ H Q I h
  refine W.methodCall_KW (pl:=pl) (thn (he pins s σ H _ I h) fun u s1 ⟨x,H1,I1,rx,a,dx,fs,ex,ea,l,q⟩=>?_) ht
  subst ex
  obtain rfl:u=Value.ref a:=rx
  refine a7E I1 ea c hm l ?_
  refine W.callWith_K (first:=[.ref a]) (h₀:=X.base) I.ok.mod.kin hm.kp (thn (ha pos pins s1 σ H1 _ I1 q) fun us s2 ⟨vs,H2,I2,r,q2⟩=>⟨I2.kIn,?_⟩) hst hpl
  exact run_fn (us:=.ref a :: us) (vs:=.ref a :: vs) F hr hb hd hx I2 (.cons rfl r) q2
theorem pe_meth0 {pl:Sem Bool} (he:PE X o ta) (c:Cls X.K C) (hm:Meth X.K C m f) (F:FnOk X.prog X.w X.K X.mg X.base CX k f fd ps sp) (hr:Room k X.A) (hb:a3B X.K fd ps ds) (hd:a1u dvs ds) (hx:a7a CX X E)
    (ht:eval (.Call (.Attribute o m apos) [] [] pos) X.env=(do
      let ov <- eval o X.env
      standAt apos.atName
      let (f,first) <- holding [ov] (getMethod ov m pl)
      callWith pos f first (backTo pos (starEach [] X.env)) (backToKw pos (keywordEach [] X.env))):=by rfl):
    PE X (.Call (.Attribute o m apos) [] [] pos) (tMeth C m sp dvs E ta tNil):=by
  intro pins s σ H Q I h
  refine W.methodCall_KW (pl:=pl) (thn (he pins s σ H _ I h) fun u s1 ⟨x,H1,I1,rx,a,dx,fs,ex,ea,l,q⟩=>?_) ht
  subst ex
  obtain rfl:u=Value.ref a:=rx
  refine a7E I1 ea c hm l ?_
  exact W.callWith_K0 (first:=[.ref a]) I1.kIn hm.kp (run_fn (us:=[.ref a]) (vs:=[.ref a]) F hr hb hd hx I1 (.cons rfl .nil) q)
structure Mk (K:W.Frag) (C f:Addr):Prop where
  makes:W.makesIn K C=true
  init:W.findIn K (.ref C) "__init__" = some (some (.ref f))
  fn:W.isFn K (.ref f)=true
  kp:W.keepIn K (.ref C)=true
theorem run_make {pins:List (Addr × Obj)} {σ:St} {H:Hp} {s:Shared} {Q:VK} {us:List Value} {vs:List V} (M:Mk X.K C f) (F:FnOk X.prog X.w X.K X.mg X.base CX k f fd ps sp) (hr:Room (k + 1) X.A) (hb:a3B X.K fd ps ds) (hd:a1u dvs ds)
    (hx:a7a CX X E) (I:Inv X pins σ H s) (r:a1u vs us)
    (h:∀ x dx,H x=none->H dx=none->dx ≠ x->sp (.ref x :: (vs ++ dvs)) (upd (upd H dx (.own x)) x (.ins C dx [])) (fun v H2=>v=.non/\Q (.ref x) H2) E):
    wpAny (model X.prog X.w) X.A (call (.ref C) us) (EP X pins σ Q) X.xe s:=by
  have hq:=h (s.heap.objs.size + 1) s.heap.objs.size (I.hok.fresh (Nat.le_succ _)) (I.hok.fresh (Nat.le_refl _)) (Nat.ne_of_lt (Nat.lt_succ_self _))
  have I2:=Inv.made (C:=C) I
  have r2:a1u (V.ref (s.heap.objs.size + 1) :: (vs ++ dvs)) (Value.ref (s.heap.objs.size + 1) :: (us ++ ds)):=.cons rfl (r.append hd)
  have hl:(Value.ref (s.heap.objs.size + 1) :: us ++ ds).length=ps.length:=by
    have e:=r2.length
    rw [F.len _ _ _ _ hq] at e
    exact e.symm
  refine wpAny_call (make_map (f:=f) I.kIn M.makes M.init (beq_iff_eq.mp M.fn) (codeAny_mono (F.run _ X.stack _ _ ⟨Value.ref (s.heap.objs.size + 1) :: us,[]⟩ (Value.ref (s.heap.objs.size + 1) :: (us ++ ds)) _ _ E (hr.make C us [])
    (I2.env0.make C us []) (hb _ (Value.ref (s.heap.objs.size + 1) :: us) I2.kIn hl) r2 hq) fun r s' hq'=>?_))
  cases r with
  | error e=>exact hx pins σ _ _ e s' I2 hq'
  | ok fl=>
    cases fl with
    | ret u=>
      obtain ⟨v,H',I3,rv,ev,q3⟩:=I2.after hq'
      subst ev
      exact ⟨rv,⟨V.ref (s.heap.objs.size + 1),H',I3,rfl,q3⟩⟩
    | next=>exact False.elim hq'
    | brk=>exact False.elim hq'
    | cont=>exact False.elim hq'
theorem pe_make (M:Mk X.K C f) (F:FnOk X.prog X.w X.K X.mg X.base CX k f fd ps sp) (hr:Room (k + 1) X.A) (hg:Gl X x) (hm:X.mg x=some (.ref C)) (hb:a3B X.K fd ps ds) (hd:a1u dvs ds) (hx:a7a CX X E)
    (ha:PA X (e :: es) t) (hdb:(x == ("__debug__" : Str))=false:=by decide) (he:starEach (e :: es) X.env=(false,eval e X.env) :: starEach es X.env:=by rfl) (hpl:(backTo pos (starEach es X.env)).any (·.1)=false:=by rfl):
    PE X (.Call (.Name x p) (e :: es) [] pos) (tMake C sp dvs E t):=by
  intro pins s σ H Q I h
  refine wpAny_Call_Name_kw (a4d I hg hm ?_ hdb)
  refine W.callWith_K (h₀:=X.base) I.ok.mod.kin M.kp (thn (ha pos pins s σ H _ I h) fun us s1 ⟨vs,H1,I1,r,q⟩=>⟨I1.kIn,?_⟩) he hpl
  exact run_make M F hr hb hd hx I1 r q
end
section
variable {X:Cx} {CX:CXT} {k:Nat} {f C:Addr} {fd:FuncData} {ps ks:List Str} {sp:Sp} {E:XK} {x m:Str} {p pos apos kpos:Pos} {e o:Expr} {es:List Expr} {kws:List Keyword} {te ta:TE} {t tk:TA} {nm:Option Str}
variable {g:List Value->List Value->List Value} {gV:List V->List V->List V}
end
structure FnScope (N P:List Str) (sc:Scope):Prop where
  kind:sc.kind=.function
  co:sc.isCoroutine=false
  gen:sc.isGenerator=false
  nd:N.Nodup
  pre:N.take P.length=P
  par:∀ x ∈ P,sc.names.lookup x=some .local \/ sc.names.lookup x=some .cell
  nofree:∀ y ∈ sc.names,y.2 ≠ .free
theorem a9G {kindOf:Str->Option NameKind} {x:Str}:∀ {binds:List (Str × Value)} {m:Str->Option Value},(∀ v,(x,v) ∉ binds)->bindL kindOf binds m x=m x
  | [],_,_=>rfl
  | (n,v) :: r,m,h=>by
    unfold bindL
    rw [a9G fun w hw=>h w (List.mem_cons_of_mem _ hw)]
    split
    . have:x ≠ n:=by rintro rfl; exact h v List.mem_cons_self
      simp [this]
    . rfl
theorem a9I {kindOf:Str->Option NameKind} {x:Str}:∀ {binds:List (Str × Value)} {m:Str->Option Value},(∀ v,(x,v) ∉ binds)->bindC kindOf binds m x=m x
  | [],_,_=>rfl
  | (n,v) :: r,m,h=>by
    unfold bindC
    rw [a9I fun w hw=>h w (List.mem_cons_of_mem _ hw)]
    split
    . rfl
    . have:x ≠ n:=by rintro rfl; exact h v List.mem_cons_self
      simp [this]
theorem a9H {kindOf:Str->Option NameKind} {x:Str} {v:Value}:∀ {P:List Str} {vs:List Value} {i:Nat} {m:Str->Option Value},P.Nodup->P[i]?=some x->vs[i]?=some v->kindOf x=some .local ->
    bindL kindOf (P.zip vs) m x=some v
  | [],_,_,_,_,h,_,_=>by simp at h
  | _ :: _,[],_,_,_,_,h,_=>by simp at h
  | p :: P,w :: vs,0,m,nd,h1,h2,hk=>by
    simp at h1 h2; subst h1; subst h2
    show bindL kindOf ((p,w) :: P.zip vs) m p=_
    unfold bindL
    rw [a9G fun v hv=>(List.nodup_cons.mp nd).1 (List.of_mem_zip hv).1,if_pos hk]
    simp
  | p :: P,w :: vs,i + 1,m,nd,h1,h2,hk=>by
    show bindL kindOf ((p,w) :: P.zip vs) m x=_
    unfold bindL
    exact a9H (i:=i) (List.nodup_cons.mp nd).2 (by simpa using h1) (by simpa using h2) hk
theorem a9J {kindOf:Str->Option NameKind} {x:Str} {v:Value}:∀ {P:List Str} {vs:List Value} {i:Nat} {m:Str->Option Value},P.Nodup->P[i]?=some x->vs[i]?=some v->kindOf x ≠ some .local ->
    bindC kindOf (P.zip vs) m x=some v
  | [],_,_,_,_,h,_,_=>by simp at h
  | _ :: _,[],_,_,_,_,h,_=>by simp at h
  | p :: P,w :: vs,0,m,nd,h1,h2,hk=>by
    simp at h1 h2; subst h1; subst h2
    show bindC kindOf ((p,w) :: P.zip vs) m p=_
    unfold bindC
    rw [a9I fun v hv=>(List.nodup_cons.mp nd).1 (List.of_mem_zip hv).1,if_neg hk]
    simp
  | p :: P,w :: vs,i + 1,m,nd,h1,h2,hk=>by
    show bindC kindOf ((p,w) :: P.zip vs) m x=_
    unfold bindC
    exact a9J (i:=i) (List.nodup_cons.mp nd).2 (by simpa using h1) (by simpa using h2) hk
noncomputable def start (N:List Str) (vs:List V):St:=vs.map some ++ List.replicate (N.length - vs.length) none
noncomputable def hsOf (A:Around):List Addr:=match A.handled with
  | some (.ref a)=>[a]
  | _=>[]
theorem hsOf_none {A:Around} (h:A.handled=none):hsOf A=[]:=by
  unfold hsOf
  rw [h]
noncomputable def a1x (CX:CXT) (P:Program) (w:World) (K:W.Frag) (mg:Str->Option Value) (base:Heap) (N:List Str) (qual:Str) (scope:Scope) (f:Addr) (cd:Value) (A:Around) (outer:List Env) (s:Shared) (H:Hp) (E:XK):Cx where
  prog:=P
  w:=w
  K:=K
  mg:=mg
  base:=base
  A:=A.deeper (envOfC qual scope s.heap.objs.size f cd)
  N:=N
  s₀:=s
  HZ:=H
  env:=envOfC qual scope s.heap.objs.size f cd
  outer:=outer
  stack:=envOfC qual scope s.heap.objs.size f cd :: outer
  ex:=[]
  calm:=true
  fn:=fun _=>true
  pn:=[]
  hs:=hsOf A
  xe:=fun e s'=>wpAny (model P w) (A.deeper (envOfC qual scope s.heap.objs.size f cd)) (leaving (envOfC qual scope s.heap.objs.size f cd) e) (fun _ s''=>CX outer H s E e s'') (fun e' s''=>CX outer H s E e' s'') s'
theorem cell_has {sc:Scope} {n:Nat} {x:Str} (h:sc.names.lookup x=some .cell):∃ c,(cellsFrom n sc.names []).lookup x=some c:=by
  have q:=W.cellsFrom_some sc.names n [] (.inl h)
  exact Option.isSome_iff_exists.mp q
theorem a9p {CX:CXT} {P:Program} {w:World} {K:W.Frag} {mg:Str->Option Value} {base:Heap} {N ps:List Str} {qual:Str} {scope:Scope} {f:Addr} {cd:Value} {A:Around} {outer:List Env} {s s1:Shared} {H:Hp} {E:XK} {us:List Value} {vs:List V}
    (S:FnScope N ps scope) (hd:A.handled=none) (e0:Env0 P w K mg base A outer s H) (hl:vs.length=ps.length) (r:a1u vs us)
    (x:InCallC s s.heap.objs.size (bindL (envOfC qual scope s.heap.objs.size f cd).kindOf (ps.zip us) fun _=>none) (cellsFrom (s.heap.objs.size + 1) scope.names []) (bindC (envOfC qual scope s.heap.objs.size f cd).kindOf (ps.zip us) fun _=>none) s1):
    Inv (a1x CX P w K mg base N qual scope f cd A outer s H E) [] (start N vs) H s1:=by
  have hpl:ps.length<=N.length:=by have:=congrArg List.length S.pre; rw [List.length_take] at this; ac_rfl
  obtain ⟨h1,tk,rfl,hk⟩:=x.done
  have noA:∀ b:Addr,b ∉ (a1x CX P w K mg base N qual scope f cd A outer s H E).ex:=fun b z=>absurd (show b ∈ ([]:List Addr) from z) (by simp)
  refine ⟨⟨e0.mod,S.kind,rfl,rfl,Nat.le_refl _,fun y z c h1 h2=>?_,fun y hy=>?_,fun y c _ h=>?_,fun _=>hd,Around.frames_deeper e0.frames,.inr ⟨rfl,rfl⟩,fun b z=>absurd z (noA b),e0.bs,e0.bsz,fun b _ _=>noA b,fun b z=>absurd z (noA b),e0.funs,e0.frf,.inl hd⟩,
    rfl,e0.bare,Un.kept hk,⟨_,x.toInCall.ns,fun i y v h1 h2 h3=>?_⟩,fun y c h=>⟨_,x.cell y c h⟩,e0.hok.fresh (Nat.le_refl _),fun y c h=>?_,fun p hp=>absurd (show p ∈ ([]:List (Addr × Obj)) from hp) (by simp),e0.hok.kept hk,?_,fun a ha=>absurd (show a ∈ hsOf A from ha) (by rw [hsOf_none hd]; simp)⟩
  . exact name_of_addr x.apart (PySem.mem_of_lookup h1) (PySem.mem_of_lookup h2)
  . have hy:scope.names.lookup y=some .cell \/ scope.names.lookup y=some .free:=hy
    rcases hy with hy | hy
    . exact cell_has hy
    . exact absurd rfl (S.nofree _ (PySem.mem_of_lookup hy))
  . exact Nat.le_of_lt (x.above y c (PySem.mem_of_lookup h))
  . have hi:i < vs.length:=by
      unfold start at h2
      by_cases hi:i < vs.length
      . exact hi
      . rw [List.getElem?_append_right (by simpa using hi)] at h2
        rw [List.getElem?_replicate] at h2
        split at h2 <;> cases h2
    have ha:vs[i]?=some v:=by
      unfold start at h2
      rw [List.getElem?_append_left (by simpa using hi),List.getElem?_map] at h2
      cases e:vs[i]? with
      | none=>rw [e] at h2; cases h2
      | some a=>rw [e] at h2; cases h2; rfl
    obtain ⟨u,hu,rv⟩:=r.get ha
    have hp:ps[i]?=some y:=by
      rw [<- S.pre,List.getElem?_take_of_lt (by ac_rfl)]; exact h1
    have ndP:ps.Nodup:=by rw [<- S.pre]; exact S.nd.sublist (List.take_sublist _ _)
    refine ⟨u,rv,?_⟩
    rcases S.par y (List.mem_of_getElem? hp) with k | k
    . exact .inl ⟨k,a9H ndP hp hu k⟩
    . obtain ⟨c,e⟩:=cell_has (n:=s.heap.objs.size + 1) k
      refine .inr ⟨.inl k,c,e,?_⟩
      have q:=x.cell y c e
      rw [a9J ndP hp hu (by show scope.names.lookup y ≠ _; rw [k]; decide)] at q
      exact q
  . exact e0.hok.fresh (Nat.le_of_lt (x.above y c (PySem.mem_of_lookup h)))
  . unfold start
    show _=N.length
    rw [List.length_append,List.length_map,List.length_replicate]
    ac_rfl
theorem fn_of {CX:CXT} {P:Program} {w:World} {K:W.Frag} {mg:Str->Option Value} {base:Heap} {k:Nat} {f:Addr} {name qual:Str} {params:Arguments} {body:List Stmt} {scope:Scope} {dV kV doc pm cdv ct oc:Value} {an od:Option Addr}
    {osl:Array (Option Value)} {N ps:List Str} {sp:Sp} (lk:K.lookup f=some ⟨oc,od,.func (W.fnOf name qual params body scope dV kV doc pm an cdv ct),osl⟩) (hcd:W.codeIn K cdv qual=true) (S:FnScope N ps scope)
    (len:∀ vs H Q E,sp vs H Q E->vs.length=ps.length)
    (hbody:∀ (A:Around) (outer:List Env) (s:Shared) (H:Hp) (vs:List V) (Q:VK) (E:XK),Room k (A.deeper (envOfC qual scope s.heap.objs.size f cdv))->sp vs H Q E ->
      ∃ t,PSs (a1x CX P w K mg base N qual scope f cdv A outer s H E) body t/\t { nx:=fun _ H'=>Q .non H',rt:=Q } (start N vs) H):
    FnOk P w K mg base CX (k + 1) f (W.fnOf name qual params body scope dV kV doc pm an cdv ct) ps sp:=by
  refine ⟨len,fun A outer s H args us vs Q E hr e0 hb r hsp=>?_⟩
  have hl:=len _ _ _ _ hsp
  have KX:K.In s.heap:=e0.mod.kin.keeps fun b o e=>(e0.bs b o e).1
  have lim:s.heap.NoLimit:=e0.mod.nolimit.keeps fun b o e=>(e0.bs b o e).1
  have hkind:∀ y ∈ ps.zip us,scope.names.lookup y.1=some .local \/ (scope.names.lookup y.1=some .cell/\((cellsFrom (s.heap.objs.size + 1) scope.names []).lookup y.1).isSome=true):=fun ⟨n,v⟩ hy=>by
    rcases S.par n (List.of_mem_zip hy).1 with q | q
    . exact .inl q
    . exact .inr ⟨q,W.cellsFrom_some _ _ _ (.inl q)⟩
  refine codeAny_call_function hr.depth (KX _ _ lk) rfl S.co S.gen rfl (W.codeRec_of KX hcd) (hb _ _ _ _ ?_)
  refine wpAny_newFunctionEnv_cells S.kind hkind fun env he s1 x=>?_
  subst he
  refine ⟨lim.keeps x.toInCall.keep,codeAny_func ?_⟩
  obtain ⟨t,ht,hq⟩:=hbody A outer s H vs Q E (hr.deeper _) hsp
  have I:Inv (a1x CX P w K mg base N qual scope f cdv A outer s H E) [] (start N vs) H s1:=a9p S hr.hd e0 hl r x
  refine wpAny_mono (ht [] s1 (start N vs) H _ I hq) (fun fl s' hs=>?_) fun e s' hs=>hs
  have fin:∀ {σ':St} {H':Hp} {v:V} {u:Value},Inv (a1x CX P w K mg base N qual scope f cdv A outer s H E) [] σ' H' s'->a1W v u->Q v H'->CE outer P w H s Q u s':=
    fun {σ' H' v u} J rv q=>⟨v,H',J.os,J.bare,J.base,J.hok,rv,q⟩
  cases fl with
  | ret u=>
    obtain ⟨v,σ',H',J,rv,q⟩:=hs
    exact fin J rv q
  | next=>
    obtain ⟨σ',H',J,q⟩:=hs
    exact fin (v:=V.non) (u:=Value.none) J rfl q
  | brk=>
    obtain ⟨_,_,_,q⟩:=hs
    exact False.elim q
  | cont=>
    obtain ⟨_,_,_,q⟩:=hs
    exact False.elim q
end L2
namespace L2
open PySem PySem.Spec PyProof.Rows
section
variable {X:Cx} {x:Str} {p pos:Pos} {e:Expr} {es:List Expr} {t:TA} {id T:String} {r:List V->Hp->VK->Prop}
def tCB (r:List V->Hp->VK->Prop) (t:TA):TE:=fun σ H Q=>t σ H fun vs H1=>r vs H1 Q
theorem a6l (hc:a3A X (.builtin id) r) (hg:Gl X x) (hm:X.mg x=none) (hv:bootBuiltins x=some (.builtin id)) (ha:PA X (e :: es) t) (hn:x ≠ "__name__" := by decide) (hdb:(x == ("__debug__" : Str))=false:=by decide)
    (he:starEach (e :: es) X.env=(false,eval e X.env) :: starEach es X.env:=by rfl) (hpl:(backTo pos (starEach es X.env)).any (·.1)=false:=by rfl):PE X (.Call (.Name x p) (e :: es) [] pos) (tCB r t):=by
  intro pins s σ H Q I h
  refine wpAny_Call_Name_kw (a6L I hg hm hv ?_ hn hdb)
  exact PyProof.Rows.callWith_builtin1 (thn (ha pos pins s σ H _ I h) fun us s1 ⟨vs,H1,I1,r1,q1⟩=>hc pins s1 σ H1 vs us Q I1 r1 q1) he hpl
theorem pe_callTy (hc:a3A X (.type T) r) (hg:Gl X x) (hm:X.mg x=none) (hv:bootBuiltins x=some (.type T)) (ha:PA X (e :: es) t) (hn:x ≠ "__name__" := by decide) (hdb:(x == ("__debug__" : Str))=false:=by decide)
    (he:starEach (e :: es) X.env=(false,eval e X.env) :: starEach es X.env:=by rfl) (hpl:(backTo pos (starEach es X.env)).any (·.1)=false:=by rfl):PE X (.Call (.Name x p) (e :: es) [] pos) (tCB r t):=by
  intro pins s σ H Q I h
  refine wpAny_Call_Name_kw (a6L I hg hm hv ?_ hn hdb)
  exact PyProof.Rows.callWith_type1 (thn (ha pos pins s σ H _ I h) fun us s1 ⟨vs,H1,I1,r1,q1⟩=>hc pins s1 σ H1 vs us Q I1 r1 q1) he hpl
end
end L2
namespace HT
open PySem PyProof.Rows
section
open PySem.SeqAt
open PySem.AutoSeq1 (wpAny_loadPart')
open PySem.MeetsSeq PySem.MeetsSeq2 PySem.MeetsSeq3
end
section
variable {prog:Program} {w:World} {A:Around} {E:Value->Shared->Prop} {s:Shared}
theorem cat_tup {t b:Addr} {vs ws:List Value} {Q:Value->Shared->Prop} (ht:IsTup s.heap t vs.toArray) (hb:IsTup s.heap b ws.toArray) (hv:vs ≠ [])
    (h1:ws=[]->Q (.ref t) s) (h2:ws ≠ []->Q (.ref s.heap.objs.size) { s with heap:=s.heap.push { cls:=.type "tuple",data:=.seq (vs ++ ws).toArray } })
    (hsz:vs.length + ws.length<=sizeLine):wpAny (model prog w) A (binaryOp .Add (.ref t) (.ref b)) Q E s:=by
  obtain ⟨⟨cls,dd,data,sl⟩,ho,hc,n,hd⟩:=id ht
  obtain ⟨⟨cls2,dd2,data2,sl2⟩,ho2,hc2,n2,hd2⟩:=id hb
  simp only at hc hd hc2 hd2
  subst hc hd hc2 hd2
  have e:vs.toArray ++ ws.toArray=(vs ++ ws).toArray:=by simp
  by_cases hw:ws=[]
  . exact concat_meets ⟨_,ho,rfl⟩ ⟨_,ho2,rfl⟩ noFill_tuple_add seq_tuple_add PySem.F.slot_tuple_add PySem.F.entry_tuple_add (PySem.F.args_tuple_add_2 _ _)
      (tuple_addW1 t b vs.toArray ws.toArray n n2 dd dd2 sl sl2 (by simpa using hv) (by simp [hw])) ⟨ho,ho2,h1 hw⟩
  . refine concat_meets ⟨_,ho,rfl⟩ ⟨_,ho2,rfl⟩ noFill_tuple_add seq_tuple_add PySem.F.slot_tuple_add PySem.F.entry_tuple_add (PySem.F.args_tuple_add_2 _ _)
      (tuple_addW2 t b vs.toArray ws.toArray n n2 dd dd2 sl sl2 (by simpa using hv) (by simpa using hw) (by rw [List.size_toArray,List.size_toArray]; exact hsz)) ⟨ho,ho2,?_⟩
    rw [e]
    exact h2 hw
noncomputable def sIx (n d:Nat):Option Int->Nat
  | none=>d
  | some v=>if v < 0 then (v + (n:Int)).toNat else min v.toNat n
theorem b0Q (n d:Nat):sIx n d none=d:=rfl
theorem sIx_le (n d:Nat) (hd:d<=n) (o:Option Int):sIx n d o<=n:=by
  cases o with
  | none=>exact hd
  | some v=>
    show (if v < 0 then (v + (n:Int)).toNat else min v.toNat n)<=n
    by_cases hv:v < 0
    . rw [if_pos hv]; ac_rfl
    . rw [if_neg hv]; exact Nat.min_le_right _ _
theorem clip_eq (v:Int) (n d:Nat):(if v < 0 then max (v + (n:Int)) 0 else min v (n:Int))=((sIx n d (some v):Nat):Int):=by
  show (if v < 0 then max (v + (n:Int)) 0 else min v (n:Int))=(((if v < 0 then (v + (n:Int)).toNat else min v.toNat n):Nat):Int)
  by_cases hv:v < 0
  . simp only [if_pos hv]; ac_rfl
  . simp only [if_neg hv]; ac_rfl
theorem adjust_gen (lo hi:Option Int) (n:Nat):Builtin.Slice.sliceAdjust lo hi 1 (n:Int)=(((sIx n 0 lo:Nat):Int),((sIx n n hi:Nat):Int)):=by
  have h1:¬ ((1:Int) < 0):=by ac_rfl
  unfold Builtin.Slice.sliceAdjust
  simp only [h1,if_false]
  refine Prod.ext ?_ ?_
  . cases lo with
    | none=>rfl
    | some v=>exact clip_eq v n 0
  . cases hi with
    | none=>rfl
    | some v=>exact clip_eq v n n
theorem places_gen (i j:Nat):Builtin.Slice.slicePlaces (i:Int) (j:Int) 1=j - i:=by
  unfold Builtin.Slice.slicePlaces
  have h1:(1:Int) > 0:=by ac_rfl
  simp only [h1,if_true,Int.ediv_one]
  split <;> ac_rfl
theorem a7t {v:Value} {o:Option Int} {Q:Option Int->Shared->Prop} (p:IsPart v o) (h:Q o s):wpAny (model prog w) A (Builtin.Slice.slicePartIndex v) Q E s:=by
  cases p with
  | none=>exact slicePart_none h
  | int i t=>exact slicePart_int h
theorem a6f {sl:Addr} {vl vu:Value} {lo hi:Option Int} {n:Nat} {Q:Int × Int × Nat->Shared->Prop} (hs:s.heap.IsSliceOf sl vl vu .none) (pl:IsPart vl lo) (pu:IsPart vu hi)
    (h:Q (((sIx n 0 lo:Nat):Int),1,sIx n n hi - sIx n 0 lo) s):wpAny (model prog w) A (Builtin.Slice.sliceApplied (.ref sl) (pure (n:Int))) Q E s:=by
  obtain ⟨os,hos,hcs,hds⟩:=id hs
  unfold Builtin.Slice.sliceApplied Builtin.Slice.sliceFields
  refine wpAny_bind (wpAny_bind (wpAny_field hos hds (x:=vl) rfl (wpAny_bind (wpAny_field hos hds (x:=vu) rfl (wpAny_bind (wpAny_field hos hds (x:=.none) rfl (wpAny_pure ?_)))))))
  refine wpAny_bind (slicePart_none ?_)
  show wpAny _ _ (if ((1:Int) == 0)=true then _ else _) _ _ s
  rw [if_neg (by decide)]
  refine wpAny_bind (a7t pl (wpAny_bind (a7t pu (wpAny_bind (wpAny_pure ?_)))))
  show wpAny _ _ (match Builtin.Slice.sliceAdjust lo hi 1 (n:Int) with | (lo,hi)=>pure (lo,(1:Int),Builtin.Slice.slicePlaces lo hi 1)) _ _ s
  rw [adjust_gen lo hi n]
  show wpAny _ _ (pure (((sIx n 0 lo:Nat):Int),(1:Int),Builtin.Slice.slicePlaces ((sIx n 0 lo:Nat):Int) ((sIx n n hi:Nat):Int) 1)) _ _ s
  rw [places_gen]
  exact wpAny_pure h
theorem pick_gen (xs:Array Value) (i k:Nat):((List.range k).filterMap fun (m:Nat)=>xs[((i:Int) + (m:Int) * 1).toNat]?).toArray=((xs.toList.drop i).take k).toArray:=by
  have e:(fun (m:Nat)=>xs[((i:Int) + (m:Int) * 1).toNat]?)=fun m=>xs[i + m]?:=by
    funext m
    have:((i:Int) + (m:Int) * 1).toNat=i + m:=by ac_rfl
    rw [this]
  rw [e]
  have:=pick_run xs i k
  rw [List.filterMap_map] at this
  have e2:((fun x=>xs[x]?) ∘ fun x=>i + x)=fun m=>xs[i + m]?:=rfl
  rw [e2] at this
  rw [this]
theorem a5J {t sl:Addr} {items:Array Value} {vl vu:Value} {lo hi:Option Int} {Q:Value->Shared->Prop} (ht:IsTup s.heap t items) (hs:s.heap.IsSliceOf sl vl vu .none) (pl:IsPart vl lo) (pu:IsPart vu hi)
    (hw:¬ (sIx items.size 0 lo=0/\sIx items.size items.size hi=items.size))
    (h:Q (.ref s.heap.objs.size) { s with heap:=s.heap.push { cls:=.type "tuple",data:=.seq ((items.toList.drop (sIx items.size 0 lo)).take (sIx items.size items.size hi - sIx items.size 0 lo)).toArray } })
    (hsz:items.size<=sizeLine):wpAny (model prog w) A (getItem (.ref t) (.ref sl)) Q E s:=by
  have htake:sizeOk (.seq ((items.toList.drop (sIx items.size 0 lo)).take (sIx items.size items.size hi - sIx items.size 0 lo)).toArray):=by
    show ((items.toList.drop (sIx items.size 0 lo)).take (sIx items.size items.size hi - sIx items.size 0 lo)).toArray.size<=sizeLine
    rw [List.size_toArray,List.length_take,List.length_drop,Array.length_toList]
    ac_rfl
  have hj:sIx items.size items.size hi<=items.size:=sIx_le _ _ (Nat.le_refl _) hi
  obtain ⟨os,hos,hcs,hds⟩:=id hs
  have hTs:s.TypeIs (.ref sl) "slice" := ⟨os,hos,hcs⟩
  unfold getItem
  try with_reducible refine wpAny_holding ?_
  first | refine wpAny_bind (wpAny_pure ?_) | skip
  refine wpAny_bind (wpAny_sequenceKey ht.typeIs (by decide) ?_)
  refine wpAny_bind (wpAny_callSpecial?_slot (name:=Str.ofString "__getitem__") ht.typeIs PyProof.Rows.slot_tuple_getitem
    (wpAny_call_entry PyProof.Rows.slot_tuple_getitem ht.typeIs entry_tuple_getitem ?_ (args_tuple_getitem _ _)))
  show wpAny _ _ (Builtin.Tuple.tupleItemsOf (.ref t) >>= _) _ _ s
  refine wpAny_bind (tupleItemsOf_ ht ?_)
  refine wpAny_bind (wpAny_typeOf hTs ?_)
  rw [if_pos (by decide)]
  refine wpAny_bind (a6f hs pl pu ?_)
  have hno:¬ ((((sIx items.size 0 lo:Nat):Int) == 0 && (1:Int) == 1 && (sIx items.size items.size hi - sIx items.size 0 lo) == items.size)=true):=by
    intro q
    rw [Bool.and_eq_true,Bool.and_eq_true] at q
    have q1:((sIx items.size 0 lo:Nat):Int)=0:=eq_of_beq q.1.1
    have q2:sIx items.size items.size hi - sIx items.size 0 lo=items.size:=eq_of_beq q.2
    exact hw ⟨by ac_rfl,by ac_rfl⟩
  show wpAny _ _ (if (((sIx items.size 0 lo:Nat):Int) == 0 && (1:Int) == 1 && (sIx items.size items.size hi - sIx items.size 0 lo) == items.size)=true then _ else _) _ _ s
  rw [if_neg hno,pick_gen]
  first
    | exact wpAny_bind (m:=Builtin.Tuple.tupleExact _) (wpAny_newObj_type (wpAny_pure ⟨_,rfl,wpAny_pure h⟩) htake)
    | exact wpAny_bind (m:=Builtin.Tuple.tupleExact _) (wpAny_newObj_type (wpAny_bind (wpAny_pure (wpAny_pure ⟨_,rfl,wpAny_pure h⟩))) htake)
    | exact wpAny_bind (wpAny_bind (m:=Builtin.Tuple.tupleExact _) (wpAny_newObj_type (wpAny_pure (wpAny_pure ⟨_,rfl,wpAny_pure h⟩)) htake))
    | exact wpAny_bind (wpAny_bind (m:=Builtin.Tuple.tupleExact _) (wpAny_newObj_type (wpAny_pure ⟨_,rfl,wpAny_pure h⟩) htake))
end
end HT
namespace L2
open PySem PySem.Spec PyProof.Rows
abbrev TO:=St->Hp->(Option Int->Hp->Prop)->Prop
def PO (X:Cx) (e:Option Expr) (t:TO):Prop:=
  ∀ (pins:List (Addr × Obj)) (s:Shared) (σ:St) (H:Hp) (Q:Option Int->Hp->Prop),Inv X pins σ H s->t σ H Q ->
    wpAny (model X.prog X.w) X.A (evalPart e X.env) (fun u s'=>∃ o H',Inv X pins σ H' s'/\IsPart u o/\Q o H') X.xe s
noncomputable def tNoPart:TO:=fun _ H Q=>Q none H
noncomputable def tPart (t:TE):TO:=fun σ H Q=>t σ H fun x H1=>∃ i,x=.int i/\Q (some i) H1
theorem intsAre_of {ns:List Int}:∀ {us:List Value},a1u (ns.map V.int) us->IntsAre us ns:=by
  induction ns with
  | nil=>intro us r; rw [List.map_nil] at r; cases r; exact .nil
  | cons n ns ih=>
    intro us r
    rw [List.map_cons] at r
    cases r with
    | cons r1 r2=>
      obtain ⟨t,e⟩:=r1
      subst e
      exact .cons n t (ih r2)
section
variable {X:Cx} {e:Expr} {te:TE} {lo hi:Option Expr} {tl th:TO} {pos p2:Pos}
theorem po_none:PO X none tNoPart:=by
  intro pins s σ H Q I h
  rw [evalPart_none]
  exact wpAny_pure ⟨none,H,I,.none,h⟩
theorem po_some (h:PE X e te):PO X (some e) (tPart te):=by
  intro pins s σ H Q I hw
  rw [evalPart_some]
  refine thn (h pins s σ H _ I hw) fun u s1 ⟨x,H1,I1,r1,q1⟩=>?_
  obtain ⟨i,rfl,q⟩:=q1
  obtain ⟨t,rfl⟩:=r1
  exact ⟨some i,H1,I1,.int i t,q⟩
def SlR (X:Cx) (r:V->Option Int->Option Int->Hp->VK->Prop):Prop:=
  ∀ (pins:List (Addr × Obj)) (s:Shared) (σ:St) (H:Hp) (x:V) (v vl vu:Value) (lo hi:Option Int) (sl:Addr) (Q:VK),Inv X pins σ H s->a1W x v->s.heap.IsSliceOf sl vl vu .none->IsPart vl lo->IsPart vu hi->r x lo hi H Q ->
    ∃ T id,typeLookup (.type T) "__getitem__" = pure (some (.builtin id))/\s.TypeIs v T/\wpAny (model X.prog X.w) X.A (getItem v (.ref sl)) (EP X pins σ Q) X.xe s
theorem SlR.or {r r':V->Option Int->Option Int->Hp->VK->Prop} (h:SlR X r) (h':SlR X r'):SlR X (fun x lo hi H Q=>r x lo hi H Q \/ r' x lo hi H Q):=by
  intro pins s σ H x v vl vu lo hi sl Q I rx hs pl pu q
  rcases q with q | q
  . exact h pins s σ H x v vl vu lo hi sl Q I rx hs pl pu q
  . exact h' pins s σ H x v vl vu lo hi sl Q I rx hs pl pu q
def tSl (r:V->Option Int->Option Int->Hp->VK->Prop) (te:TE) (tl th:TO):TE:=fun σ H Q=>te σ H fun x H1=>tl σ H1 fun l H2=>th σ H2 fun u H3=>r x l u H3 Q
theorem b0U {r:V->Option Int->Option Int->Hp->VK->Prop} (hr:SlR X r) (he:PE X e te) (hl:PO X lo tl) (hu:PO X hi th):PE X (.Subscript e (.Slice lo hi none p2) pos) (tSl r te tl th):=by
  intro pins s σ H Q I h
  refine Subscript_ (thn (he pins s σ H _ I h) fun v s1 ⟨x,H1,I1,r1,q1⟩=>?_)
  refine wpAny_Slice (thn (hl pins s1 σ H1 _ I1 q1) fun vl s2 ⟨l,H2,I2,pl,q2⟩=>thn (hu pins s2 σ H2 _ I2 q2) fun vu s3 ⟨u,H3,I3,pu,q3⟩=>?_)
  rw [evalPart_none]
  refine wpAny_pure ?_
  have I4:Inv X pins σ H3 { s3 with heap:=s3.heap.push { cls:=.type "slice",data:=.fields #[vl,vu,.none] } }:=I3.kept (t':=s3.toks) fun b ob q=>Heap.get?_push_of_some _ q
  obtain ⟨T,id,hT,ht,hg⟩:=hr pins { s3 with heap:=s3.heap.push { cls:=.type "slice",data:=.fields #[vl,vu,.none] } } σ H3 x v vl vu l u s3.heap.objs.size Q I4 r1 (Heap.IsSliceOf.new ..) pl pu q3
  show wpAny (model X.prog X.w) X.A (subscriptTail e (.Slice lo hi none p2) v (.ref s3.heap.objs.size)) (EP X pins σ Q) X.xe { s3 with heap:=s3.heap.push { cls:=.type "slice",data:=.fields #[vl,vu,.none] } }
  exact tail_any (ops:=[.ref s3.heap.objs.size,v]) ht hT hg (by with_unfolding_all rfl)
noncomputable def cutV (xs:List V) (lo hi:Option Int):List V:=(xs.drop (HT.sIx xs.length 0 lo)).take (HT.sIx xs.length xs.length hi - HT.sIx xs.length 0 lo)
theorem a6X (xs:List V) (lo hi:Option Int):(cutV xs lo hi).length<=xs.length:=by
  unfold cutV
  rw [List.length_take,List.length_drop]
  ac_rfl
def rSlT (K:W.Frag):V->Option Int->Option Int->Hp->VK->Prop:=fun x lo hi H Q=>∃ a xs,x=.ref a/\SqT K H a xs /\
  ¬ (HT.sIx xs.length 0 lo=0/\HT.sIx xs.length xs.length hi=xs.length) /\ ∀ p,H p=none->Q (.ref p) (upd H p (.tup (cutV xs lo hi)))
theorem sl_tup:SlR X (rSlT X.K):=by
  intro pins s σ H x v vl vu lo hi sl Q I rx hs pl pu h
  obtain ⟨a,xs,rfl,hx,hw,q⟩:=h
  cases rx
  obtain ⟨its,r,ht,hz⟩:=I.tuple hx
  have hlen:its.toArray.size=xs.length:=by rw [List.size_toArray]; exact r.length.symm
  refine ⟨"tuple",_,PyProof.Rows.slot_tuple_getitem.lookup,ht.typeIs,?_⟩
  refine HT.a5J ht hs pl pu (by rw [hlen]; exact hw) ?_ (by rw [hlen]; exact hz)
  rw [hlen]
  refine ⟨.ref s.heap.objs.size,_,I.laid (t':=s.toks) (o:=.tup (cutV xs lo hi)) (fun b ob q=>Heap.get?_push_of_some _ q) (Nat.le_refl _) ?_,rfl,q _ (I.hok.fresh (Nat.le_refl _))⟩
  exact ⟨Nat.le_trans (a6X xs lo hi) hz,_,(r.drop (HT.sIx xs.length 0 lo)).take (HT.sIx xs.length xs.length hi - HT.sIx xs.length 0 lo),IsTup.new _ _⟩
def rCatT (K:W.Frag):R2:=fun x y H Q=>∃ a b xs ys,x=.ref a/\y=.ref b/\SqT K H a xs/\SqT K H b ys/\xs ≠ []/\xs.length + ys.length<=sizeLine /\
  (ys=[]->Q (.ref a) H)/\(ys ≠ [] -> ∀ p,H p=none->Q (.ref p) (upd H p (.tup (xs ++ ys))))
theorem a1u.nil_iff {xs:List V} {us:List Value} (r:a1u xs us):us=[] ↔ xs=[]:=by
  cases r with
  | nil=>simp
  | cons _ _=>simp
theorem op_catT:OpR X (binaryOp .Add) (rCatT X.K):=by
  intro pins s σ H x y v u Q I rx ry h
  obtain ⟨a,b,xs,ys,rfl,rfl,ha,hb,hx,hz,q1,q2⟩:=h
  cases rx
  cases ry
  obtain ⟨its,r1,p1,_⟩:=I.tuple ha
  obtain ⟨its2,r2,p2,_⟩:=I.tuple hb
  refine HT.cat_tup p1 p2 (fun z=>hx (r1.nil_iff.mp z)) (fun z=>⟨.ref a,H,I,rfl,q1 (r2.nil_iff.mp z)⟩) (fun z=>?_) (by rw [<- r1.length,<- r2.length]; exact hz)
  refine ⟨.ref s.heap.objs.size,_,I.laid (t':=s.toks) (o:=.tup (xs ++ ys)) (fun b ob q=>Heap.get?_push_of_some _ q) (Nat.le_refl _) ?_,rfl,q2 (fun w=>z (r2.nil_iff.mpr w)) _ (I.hok.fresh (Nat.le_refl _))⟩
  exact ⟨by rw [List.length_append]; exact hz,_,r1.append r2,IsTup.new _ _⟩
end
end L2
namespace L2
open PySem PySem.Spec PyProof.Rows
noncomputable def ixN (n:Nat) (i:Int):Option Nat:=if 0<=i then (if i < n then some i.toNat else none) else if -(n:Int)<=i then some (i + n).toNat else none
noncomputable def atI {α:Type} (xs:List α) (i:Int):Option α:=(ixN xs.length i).bind fun j=>xs[j]?
theorem ixN_seq {n:Nat} {i:Int} {j:Nat} (h:ixN n i=some j):seqIndex? i n=some j/\j < n /\ -(n:Int)<=i/\i < n:=by
  unfold ixN at h
  by_cases h0:0<=i
  . rw [if_pos h0] at h
    by_cases h1:i < n
    . rw [if_pos h1] at h
      have e:i.toNat=j:=Option.some.inj h
      exact ⟨by rw [seqIndex_of h0 h1,e],by ac_rfl,by ac_rfl,h1⟩
    . rw [if_neg h1] at h; cases h
  . rw [if_neg h0] at h
    by_cases h1:-(n:Int)<=i
    . rw [if_pos h1] at h
      have e:(i + n).toNat=j:=Option.some.inj h
      exact ⟨by rw [seqIndex_neg (by ac_rfl) h1,e],by ac_rfl,h1,by ac_rfl⟩
    . rw [if_neg h1] at h; cases h
theorem b0G {α:Type} {xs:List α} {i:Int} {v:α} (h:atI xs i=some v):∃ j,seqIndex? i xs.length=some j/\xs[j]?=some v/\j < xs.length /\ -(xs.length:Int)<=i/\i < xs.length:=by
  unfold atI at h
  cases e:ixN xs.length i with
  | none=>rw [e] at h; cases h
  | some j=>
    rw [e] at h
    obtain ⟨h1,h2,h3,h4⟩:=ixN_seq e
    exact ⟨j,h1,h,h2,h3,h4⟩
theorem atI_last {α:Type} (xs:List α) (v:α):atI (xs ++ [v]) (-1)=some v:=by
  have hl:(xs ++ [v]).length=xs.length + 1:=by simp
  have e:ixN (xs ++ [v]).length (-1)=some xs.length:=by
    unfold ixN
    rw [hl,if_neg (by decide),if_pos (by ac_rfl)]
    congr 1
    ac_rfl
  unfold atI
  rw [e]
  show (xs ++ [v])[xs.length]?=some v
  simp
def PlainIx (b:Expr):Prop:=∀ o i,subscripted b false o i=operate [o,i] (getItem o i)
def IxR (X:Cx) (r:R2):Prop:=
  ∀ (value slice:Expr) (pins:List (Addr × Obj)) (s:Shared) (σ:St) (H:Hp) (x y:V) (v u:Value) (Q:VK),Inv X pins σ H s->a1W x v->a1W y u->r x y H Q ->
    subscripted slice false v u=operate [v,u] (getItem v u)->wpAny (model X.prog X.w) X.A (subscriptTail value slice v u) (EP X pins σ Q) X.xe s
def MtR (X:Cx) (id:String) (r:V->List V->Hp->VK->Prop):Prop:=
  ∀ (pins:List (Addr × Obj)) (s:Shared) (σ:St) (H:Hp) (x:V) (xs:List V) (v:Value) (us:List Value) (Q:VK),Inv X pins σ H s->a1W x v->a1u xs us->r x xs H Q ->
    wpAny (model X.prog X.w) X.A (call (.builtin id) (v :: us)) (EP X pins σ Q) X.xe s
section
variable {X:Cx} {a b:Expr} {ta tb:TE} {pos:Pos}
theorem IxR.or {r r':R2} (h:IxR X r) (h':IxR X r'):IxR X (fun x y H Q=>r x y H Q \/ r' x y H Q):=by
  intro value slice pins s σ H x y v u Q I rx ry q hs
  rcases q with q | q
  . exact h value slice pins s σ H x y v u Q I rx ry q hs
  . exact h' value slice pins s σ H x y v u Q I rx ry q hs
theorem pe_ix {r:R2} (hr:IxR X r) (ha:PE X a ta) (hb:PE X b tb) (hs:PlainIx b):PE X (.Subscript a b pos) (tOp r ta tb):=by
  intro pins s σ H Q I h
  exact Subscript_ (binT ha hb I h fun v u s2 x y H2 I2 rx ry q=>hr a b pins s2 σ H2 x y v u Q I2 rx ry q (hs _ _))
def rIxL (K:W.Frag):R2:=fun x y H Q=>∃ p xs i v,x=.ref p/\y=.int i/\SqL K H p xs/\atI xs i=some v/\Q v H
def rIxT (K:W.Frag):R2:=fun x y H Q=>∃ p xs i v,x=.ref p/\y=.int i/\SqT K H p xs/\atI xs i=some v/\Q v H
def rIxS:R2:=fun x y H Q=>∃ z i c,x=.str z/\y=.int i/\z.length<=sizeLine/\atI z.cps.toList i=some c/\Q (.str ⟨#[c]⟩) H
theorem ix_list:IxR X (rIxL X.K):=by
  intro value slice pins s σ H x y v u Q I rx ry h hs
  obtain ⟨p,xs,i,z,rfl,rfl,hq,he,q⟩:=h
  cases rx
  obtain ⟨t,rfl⟩:=ry
  obtain ⟨its,r,pl,hz⟩:=I.list hq
  obtain ⟨j,h1,h2,h3,h4,h5⟩:=b0G he
  obtain ⟨w,ew,rw'⟩:=r.get h2
  have hl:=r.length
  have hn:=a6c
  have fin:EP X pins σ Q w s:=⟨z,H,I,rw',q⟩
  by_cases h0:0<=i
  . have hj:i.toNat=j:=by
      rw [seqIndex_of h0 h5] at h1
      exact Option.some.inj h1
    exact item_listR pl.isList h0 (by ac_rfl) (by rw [hj]; simpa using ew) fin hs
  . have hj:(i + (its.toArray.size:Int)).toNat=j:=by
      rw [seqIndex_neg (by ac_rfl) h4] at h1
      rw [List.size_toArray,<- hl]
      exact Option.some.inj h1
    exact subscriptTail_builtinR (x:=w) pl.isList.typeIs slot_list_getitem.lookup
      (wpAny_getItem_list_neg (Q:=fun r s'=>r=w/\EP X pins σ Q r s') pl.isList (by ac_rfl) (by rw [List.size_toArray] <;> ac_rfl) (by ac_rfl) (by rw [hj]; simpa using ew) ⟨rfl,fin⟩) hs
theorem ix_tup:IxR X (rIxT X.K):=by
  intro value slice pins s σ H x y v u Q I rx ry h hs
  obtain ⟨p,xs,i,z,rfl,rfl,hq,he,q⟩:=h
  cases rx
  obtain ⟨t,rfl⟩:=ry
  obtain ⟨its,r,pl,hz⟩:=I.tuple hq
  obtain ⟨j,h1,h2,h3,h4,h5⟩:=b0G he
  obtain ⟨w,ew,rw'⟩:=r.get h2
  have hl:=r.length
  have hn:=a6c
  have fin:EP X pins σ Q w s:=⟨z,H,I,rw',q⟩
  exact subscriptTail_builtinR (x:=w) pl.typeIs slot_tuple_getitem.lookup
    (getItem_tuple (j:=j) (Q:=fun r s'=>r=w/\EP X pins σ Q r s') pl (by ac_rfl) (by ac_rfl) (by rw [List.size_toArray,<- hl]; exact h1) (by simpa using ew) ⟨rfl,fin⟩) hs
theorem ix_str:IxR X rIxS:=by
  intro value slice pins s σ H x y v u Q I rx ry h hs
  obtain ⟨z,i,c,rfl,rfl,hz,he,q⟩:=h
  obtain ⟨t,rfl⟩:=rx
  obtain ⟨t',rfl⟩:=ry
  obtain ⟨j,h1,h2,h3,h4,h5⟩:=b0G he
  have hl:z.cps.toList.length=z.length:=by simp [Str.length]
  rw [hl] at h1 h4 h5
  have hn:=a6c
  exact tail_any (typeIs_str s z t) slot_str_getitem.lookup (getItem_str (c:=c) (by
    have e1:decide (i < -(2 ^ 63:Int))=false:=decide_eq_false (by ac_rfl)
    have e2:decide (i >= 2 ^ 63)=false:=decide_eq_false (by ac_rfl)
    rw [e1,e2,Bool.or_false]) (by rw [h1]; simpa using h2) ⟨.str ⟨#[c]⟩,H,I.tok _,⟨_,rfl⟩,q⟩) hs
def rIx (K:W.Frag):R2:=fun x y H Q=>rIxL K x y H Q \/ rIxT K x y H Q \/ rIxS x y H Q
theorem ix_seq:IxR X (rIx X.K):=ix_list.or (ix_tup.or ix_str)
theorem mapSeq_set (its:List Value) (n j:Nat) (u:Value):Obj.mapSeq (·.setIfInBounds j u) { cls:=.type "list",data:=.seq its.toArray n }={ cls:=.type "list",data:=.seq (its.set j u).toArray n }:=by
  simp [Obj.mapSeq]
theorem Inv.lst {pins:List (Addr × Obj)} {σ:St} {H:Hp} {s:Shared} {p:Addr} {xs:List V} (I:Inv X pins σ H s) (h:H p=some (.lst xs)):
    ∃ (its:List Value) (n:Nat),a1u xs its/\s.heap.get? p=some { cls:=.type "list",data:=.seq its.toArray n }/\xs.length<=sizeLine:=by
  obtain ⟨z,its,n,r,e⟩:=I.hok p _ h
  exact ⟨its,n,r,e,z⟩
theorem Inv.lstUpd {pins:List (Addr × Obj)} {σ:St} {H:Hp} {s:Shared} {p:Addr} {xs ys:List V} {its its':List Value} {n n':Nat} {f:Obj->Obj} (I:Inv X pins σ H s) (h:H p=some (.lst xs))
    (ho:s.heap.get? p=some { cls:=.type "list",data:=.seq its.toArray n }) (hf:f { cls:=.type "list",data:=.seq its.toArray n }={ cls:=.type "list",data:=.seq its'.toArray n' }) (r:a1u ys its') (hz:ys.length<=sizeLine) (t:Nat):
    Inv X pins σ (upd H p (.lst ys)) { s with heap:=s.heap.update p f,toks:=t }:=by
  have e:(s.heap.update p f).get? p=some { cls:=.type "list",data:=.seq its'.toArray n' }:=by
    rw [Heap.get?_update_self f ho (by rw [hf] <;> rfl),hf]
  refine I.write (x:=p) (e:=p) (by rw [h]; trivial) (.inl rfl) (fun b u hb q=>(Heap.get?_update_other _ _ (Ne.symm hb)).trans q) ⟨_,e⟩ ?_
  exact ⟨hz,its',n',r,e⟩
def rSetL:V->V->V->Hp->(Hp->Prop)->Prop:=fun o i v H Q=>∃ p xs k j,o=.ref p/\i=.int k/\H p=some (.lst xs)/\ixN xs.length k=some j/\Q (upd H p (.lst (xs.set j v)))
theorem set_list:PSet X rSetL:=by
  intro pins s σ H o i v ov iv u Q I ro ri rv h
  obtain ⟨p,xs,k,j,rfl,rfl,hp,hj,q⟩:=h
  cases ro
  obtain ⟨t,rfl⟩:=ri
  obtain ⟨its,n,r,ho,hz⟩:=I.lst hp
  obtain ⟨h1,h2,h3,h4⟩:=ixN_seq hj
  have hl:=r.length
  have hn:=a6c
  have I':Inv X pins σ (upd H p (.lst (xs.set j v))) { s with heap:=s.heap.update p (Obj.mapSeq (·.setIfInBounds j u)) }:=
    I.lstUpd hp ho (mapSeq_set its n j u) (r.set rv j) (by rw [List.length_set]; exact hz) s.toks
  by_cases h0:0<=k
  . have hk:k.toNat=j:=by
      rw [seqIndex_of h0 h4] at h1
      exact Option.some.inj h1
    exact W.ki_setAt ho h0 (by ac_rfl) (by rw [List.size_toArray,<- hl]; exact h4) (by rw [hk]; exact ⟨_,I',q⟩)
  . have hk:(k + (its.toArray.size:Int)).toNat=j:=by
      rw [seqIndex_neg (by ac_rfl) h3] at h1
      rw [List.size_toArray,<- hl]
      exact Option.some.inj h1
    exact W.ki_setBack ho (by ac_rfl) (by rw [List.size_toArray,<- hl]; exact h3) (by ac_rfl) (by rw [hk]; exact ⟨_,I',q⟩)
theorem a8T (lo hi:Option Int) (n:Nat):(sliceBounds lo hi none n).1=((HT.sIx n 0 lo:Nat):Int)/\(sliceBounds lo hi none n).2.1=((HT.sIx n n hi:Nat):Int)/\(sliceBounds lo hi none n).2.2=1:=by
  refine ⟨?_,?_,rfl⟩
  . cases lo with
    | none=>simp [sliceBounds,HT.sIx]
    | some i=>
      simp only [sliceBounds,HT.sIx,Option.getD_none,show (1:Int) > 0 by decide,if_true]
      by_cases h:i < 0
      . simp only [h,if_true] <;> ac_rfl
      . simp only [h,if_false] <;> ac_rfl
  . cases hi with
    | none=>simp [sliceBounds,HT.sIx]
    | some i=>
      simp only [sliceBounds,HT.sIx,Option.getD_none,show (1:Int) > 0 by decide,if_true]
      by_cases h:i < 0
      . simp only [h,if_true] <;> ac_rfl
      . simp only [h,if_false] <;> ac_rfl
theorem a7T (its:List Value) (lo hi:Option Int):slicePick its.toArray lo hi none=((its.drop (HT.sIx its.length 0 lo)).take (HT.sIx its.length its.length hi - HT.sIx its.length 0 lo)).toArray:=by
  obtain ⟨h1,h2,h3⟩:=a8T lo hi its.toArray.size
  unfold slicePick
  rw [h1,h2,h3]
  simp only [sliceRange_one,pick_run,List.size_toArray] <;> rfl
def rSlL (K:W.Frag):V->Option Int->Option Int->Hp->VK->Prop:=fun x lo hi H Q=>∃ a xs,x=.ref a/\SqL K H a xs /\ ∀ p,H p=none->Q (.ref p) (upd H p (.lst (cutV xs lo hi)))
theorem sl_list:SlR X (rSlL X.K):=by
  intro pins s σ H x v vl vu lo hi sl Q I rx hs pl pu h
  obtain ⟨a,xs,rfl,hx,q⟩:=h
  cases rx
  obtain ⟨its,r,ht,hz⟩:=I.list hx
  have hlen:=r.length
  refine ⟨"list",_,slot_list_getitem.lookup,ht.isList.typeIs,?_⟩
  refine wpAny_getItem_list_slice ht.isList hs pl pu .none (by simp) ?_ (by rw [List.size_toArray] <;> ac_rfl)
  rw [a7T,<- hlen]
  refine ⟨.ref s.heap.objs.size,_,I.laid (t':=s.toks) (o:=.lst (cutV xs lo hi)) (fun b ob q=>Heap.get?_push_of_some _ q) (Nat.le_refl _) ?_,rfl,q _ (I.hok.fresh (Nat.le_refl _))⟩
  exact ⟨Nat.le_trans (a6X xs lo hi) hz,_,0,(r.drop (HT.sIx xs.length 0 lo)).take (HT.sIx xs.length xs.length hi - HT.sIx xs.length 0 lo),Heap.get?_push_size _ rfl⟩
theorem a9F:a3A X (.builtin "len") (fun xs H Q=>∃ p ys,xs=[.ref p]/\(SqL X.K H p ys \/ SqT X.K H p ys)/\Q (.int ys.length) H):=by
  intro pins s σ H xs us Q I r h
  obtain ⟨p,ys,rfl,hq,q⟩:=h
  obtain ⟨u,rfl,rx⟩:=a7d r
  cases rx
  have hn:=a6c
  rcases hq with hq | hq
  . obtain ⟨its,r',pl,hz⟩:=I.list hq
    have hlen:=r'.length
    exact Calls.call_len_list pl.isList (by simp only [List.size_toArray] <;> ac_rfl) ⟨.int ys.length,H,I.tok _,⟨s.toks + 1,by rw [List.size_toArray,hlen]⟩,q⟩
  . obtain ⟨its,r',pl,hz⟩:=I.tuple hq
    have hlen:=r'.length
    exact len_tuple pl (by simp only [List.size_toArray] <;> ac_rfl) ⟨.int ys.length,H,I.tok _,⟨s.toks + 1,by rw [List.size_toArray,hlen]⟩,q⟩
theorem a9E:a3A X (.builtin "len") (fun xs H Q=>∃ z,xs=[.str z]/\z.length<=sizeLine/\Q (.int z.length) H):=by
  intro pins s σ H xs us Q I r h
  obtain ⟨z,rfl,hz,q⟩:=h
  obtain ⟨u,rfl,t,rfl⟩:=a7d r
  have hn:=a6c
  exact len_str (by ac_rfl) ⟨.int z.length,H,I.tok _,⟨_,rfl⟩,q⟩
theorem a3A.or {f:Value} {r r':List V->Hp->VK->Prop} (h:a3A X f r) (h':a3A X f r'):a3A X f (fun xs H Q=>r xs H Q \/ r' xs H Q):=by
  intro pins s σ H xs us Q I rs q
  rcases q with q | q
  . exact h pins s σ H xs us Q I rs q
  . exact h' pins s σ H xs us Q I rs q
theorem a9D:a3A X (.type "list") (fun xs H Q=>∃ p ys,xs=[.ref p]/\(SqL X.K H p ys \/ SqT X.K H p ys) /\ ∀ l,H l=none->Q (.ref l) (upd H l (.lst ys))):=by
  intro pins s σ H xs us Q I r h
  obtain ⟨p,ys,rfl,hq,q⟩:=h
  obtain ⟨u,rfl,rx⟩:=a7d r
  cases rx
  have fin:∀ (its:List Value),a1u ys its->ys.length<=sizeLine -> ∀ (h':Heap) (c':Nat),(∀ b o',s.heap.get? b=some o'->h'.get? b=some o') ->
      h'.get? s.heap.objs.size=some { cls:=.type "list",dict:=none,data:=.seq its.toArray c',slots:=#[] }->EP X pins σ Q (.ref s.heap.objs.size) { s with heap:=h' }:=fun its r' hz h' c' kp e=>
    ⟨.ref s.heap.objs.size,_,I.laid (t':=s.toks) kp (Nat.le_refl _) (show a1K X.prog X.w _ h' _ (.lst ys) from ⟨hz,its,c',r',e⟩),rfl,q _ (I.hok.fresh (Nat.le_refl _))⟩
  rcases hq with hq | hq
  . obtain ⟨its,r',pl,hz⟩:=I.list hq
    have hlen:=r'.length
    obtain ⟨o,ho,hc,n,hd⟩:=pl.isList
    exact call_list_seq p (.inl rfl) ho hc hd (fun h' c' kp e=>fin its r' hz h' c' kp e) (by simp only [List.size_toArray] <;> ac_rfl)
  . obtain ⟨its,r',pl,hz⟩:=I.tuple hq
    have hlen:=r'.length
    obtain ⟨o,ho,hc,n,hd⟩:=pl
    exact call_list_seq p (.inr rfl) ho hc hd (fun h' c' kp e=>fin its r' hz h' c' kp e) (by simp only [List.size_toArray] <;> ac_rfl)
theorem a8H:a3A X (.type "tuple") (fun xs H Q=>∃ p ys,xs=[.ref p]/\((SqL X.K H p ys /\ ∀ l,H l=none->Q (.ref l) (upd H l (.tup ys))) \/ (SqT X.K H p ys/\Q (.ref p) H))):=by
  intro pins s σ H xs us Q I r h
  obtain ⟨p,ys,rfl,h⟩:=h
  obtain ⟨u,rfl,rx⟩:=a7d r
  cases rx
  rcases h with ⟨hq,q⟩ | ⟨hq,q⟩
  . obtain ⟨its,r',pl,hz⟩:=I.list hq
    have hlen:=r'.length
    refine call_tuple_list pl.isList (fun h' kp=>?_) (by simp only [List.size_toArray] <;> ac_rfl)
    have I1:Inv X pins σ H { s with heap:=h' }:=I.kept (t':=s.toks) kp
    have I2:Inv X pins σ (upd H h'.objs.size (.tup ys)) { s with heap:=h'.push { cls:=.type "tuple",data:=.seq its.toArray } }:=
      I1.laid (t':=s.toks) (fun b o e=>Heap.get?_push_of_some _ e) (Nat.le_refl _) (show a1K X.prog X.w _ _ _ (.tup ys) from ⟨hz,its,r',IsTup.new _ _⟩)
    exact ⟨.ref h'.objs.size,_,I2,rfl,q _ (I1.hok.fresh (Nat.le_refl _))⟩
  . obtain ⟨its,r',pl,hz⟩:=I.tuple hq
    exact call_tuple_same pl ⟨.ref p,H,I,rfl,q⟩
def tyV (K:W.Frag) (T:String) (x:V) (H:Hp):Prop:=match x with
  | .str _=>T = "str"
  | .int _=>T = "int"
  | .ref p=>(T = "list" /\ ∃ xs,SqL K H p xs) \/ (T = "tuple" /\ ∃ o,K.lookup p=some o/\o.cls=.type "tuple" /\ o.dict=none) \/
      (T = "dict" /\ ((∃ kvs,H p=some (.dK kvs)) \/ ∃ ep kvs,H p=some (.dT ep kvs))) \/ (T = "set" /\ ∃ S n,H p=some (.set S n))
  | _=>False
theorem tyV_is {pins:List (Addr × Obj)} {σ:St} {H:Hp} {s:Shared} {T:String} {x:V} {v:Value} (I:Inv X pins σ H s) (r:a1W x v) (ty:tyV X.K T x H):
    s.TypeIs v T /\ ∀ a,v=.ref a -> ∃ ob,s.heap.get? a=some ob/\ob.dict=none:=by
  cases x with
  | str z=>
    obtain ⟨t,rfl⟩:=r
    cases (show T = "str" from ty)
    exact ⟨typeIs_str s z t,fun _ e=>nomatch e⟩
  | int i=>
    obtain ⟨t,rfl⟩:=r
    cases (show T = "int" from ty)
    exact ⟨typeIs_int s i t,fun _ e=>nomatch e⟩
  | ref p=>
    cases r
    rcases ty with ⟨rfl,xs,hq⟩ | ⟨rfl,o,hk,hc,hd⟩ | ⟨rfl,hk⟩ | ⟨rfl,S,n,hk⟩
    . obtain ⟨its,_,pl,_⟩:=I.list hq
      refine ⟨pl.isList.typeIs,fun a e=>?_⟩
      cases e
      obtain ⟨o,n,e,c,hd,_⟩:=pl
      exact ⟨o,e,hd⟩
    . refine ⟨⟨o,I.kIn p o hk,hc⟩,fun a e=>?_⟩
      cases e
      exact ⟨o,I.kIn _ o hk,hd⟩
    . have z:∃ o,s.heap.get? p=some o/\o.ExactDict:=by
        rcases hk with ⟨kvs,hk⟩ | ⟨ep,kvs,hk⟩
        . obtain ⟨_,_,_,_,o,_,_,e,ex,_⟩:=I.hok p _ hk
          exact ⟨o,e,ex⟩
        . obtain ⟨_,_,_,_,o,_,e,ex,_⟩:=I.hok p _ hk
          exact ⟨o,e,ex⟩
      obtain ⟨o,e,ex⟩:=z
      refine ⟨⟨o,e,ex.1⟩,fun a e2=>?_⟩
      cases e2
      exact ⟨o,e,ex.2.1⟩
    . obtain ⟨o,_,_,_,e,ex,_⟩:=I.hok p _ hk
      refine ⟨⟨o,e,ex.1⟩,fun a e2=>?_⟩
      cases e2
      exact ⟨o,e,ex.2.1⟩
  | _=>exact False.elim ty
def tBM0 (K:W.Frag) (T:String) (r:V->List V->Hp->VK->Prop) (to:TE):TE:=fun σ H Q=>to σ H fun x H1=>tyV K T x H1/\r x [] H1 Q
def tBM (K:W.Frag) (T:String) (r:V->List V->Hp->VK->Prop) (to:TE) (t:TA):TE:=fun σ H Q=>to σ H fun x H1=>tyV K T x H1/\t σ H1 fun xs H2=>r x xs H2 Q
variable {o e:Expr} {es:List Expr} {to:TE} {t:TA} {name:Str} {apos cpos:Pos} {T id:String} {r:V->List V->Hp->VK->Prop}
theorem pe_bm0 (pa:PlainAttrs T) (slot:Slot T name id) (hty:typeOf (.builtin id)=pure (.type "method_descriptor")) (hm:MtR X id r) (ho:PE X o to)
    (hbase:attributeBase o name X.env (eval o X.env)=eval o X.env:=by rfl) (hline:(apos.endLine == cpos.line)=true:=by rfl):PE X (.Call (.Attribute o name apos) [] [] cpos) (tBM0 X.K T r to):=by
  intro pins s σ H Q I h
  refine wpAny_Call_method0_late hbase hline (thn (ho pins s σ H _ I h) fun v s1 ⟨x,H1,I1,r1,ty,q1⟩=>?_)
  obtain ⟨h1,h2⟩:=tyV_is I1 r1 ty
  exact ⟨T,id,pa,slot,hty,h1,h2,Calls.callWith_builtin rfl (PySem.evalArgs_none (hm pins s1 σ H1 x [] v [] Q I1 r1 .nil q1))⟩
theorem pe_bm (pa:PlainAttrs T) (slot:Slot T name id) (hty:typeOf (.builtin id)=pure (.type "method_descriptor")) (hm:MtR X id r) (ho:PE X o to) (ha:PA X (e :: es) t)
    (hbase:attributeBase o name X.env (eval o X.env)=eval o X.env:=by rfl)
    (hfew:((backTo cpos (starEach (e :: es) X.env)).all (fun x=>!x.1) && (backToKw cpos (keywordEach [] X.env)).all (fun x=>x.1.isSome)
      && decide ((e :: es).length + ([]:List Keyword).length + (if ([]:List Keyword).isEmpty then 0 else 1) < 30))=true:=by rfl)
    (hline:(apos.endLine == cpos.line)=true:=by rfl) (hs:starEach (e :: es) X.env=(false,eval e X.env) :: starEach es X.env:=by rfl) (hplain:(backTo cpos (starEach es X.env)).any (·.1)=false:=by rfl):
    PE X (.Call (.Attribute o name apos) (e :: es) [] cpos) (tBM X.K T r to t):=by
  intro pins s σ H Q I h
  refine wpAny_Call_method_late hbase hfew hline rfl (thn (ho pins s σ H _ I h) fun v s1 ⟨x,H1,I1,r1,ty,q1⟩=>?_)
  obtain ⟨h1,h2⟩:=tyV_is I1 r1 ty
  refine ⟨T,id,pa,slot,hty,h1,h2,?_⟩
  have hA:=ha cpos pins s1 σ H1 _ I1 q1
  rw [hs] at hA ⊢
  refine Calls.callWith_builtin (by show (false || (backTo cpos (starEach es X.env)).any (·.1))=false; rw [hplain] <;> rfl) (Calls.evalArgs_plain ?_)
  exact thn hA fun us s2 ⟨vs,H2,I2,r2,q2⟩=>hm pins s2 σ H2 x vs v us Q I2 r1 r2 q2
/- xs.append(e),list.index on a module's tuple .. are MtR facts of 06m -/
end
end L2
namespace L2
open PySem PySem.Spec PyProof.Rows
def MtM (X:Cx) (id:String) (r:V->List V->Hp->VK->Prop):Prop:=
  ∀ (pins:List (Addr × Obj)) (s:Shared) (σ:St) (H:Hp) (x:V) (xs:List V) (v:Value) (us:List Value) (Q:VK),Inv X pins σ H s->a1W x v->a1u xs us->r x xs H Q ->
    wpAny (model X.prog X.w) X.A (call (.builtin id) (v :: us)) (EP X pins σ Q) X.xe s
theorem a1u.one:∀ {x:V} {us:List Value},a1u [x] us -> ∃ u,us=[u]/\a1W x u
  | _,_,.cons r .nil=>⟨_,rfl,r⟩
theorem a1u.rep {xs:List V} {us:List Value} (h:a1u xs us):∀ k:Nat,a1u (List.replicate k xs).flatten (List.replicate k us).flatten
  | 0=>.nil
  | k + 1=>by
    rw [List.replicate_succ,List.replicate_succ,List.flatten_cons,List.flatten_cons]
    exact a1u.append h (a1u.rep h k)
theorem a9q (its:List Value):∀ (k:Nat) (acc:List Value),
    List.foldl (fun x1 x2=>x1 ++ x2) acc.toArray (List.replicate k its.toArray)=(acc ++ (List.replicate k its).flatten).toArray
  | 0,acc=>by simp
  | k + 1,acc=>by
    have e:acc.toArray ++ its.toArray=(acc ++ its).toArray:=by simp
    have e2:(acc ++ its) ++ (List.replicate k its).flatten=acc ++ (List.replicate (k + 1) its).flatten:=by
      rw [List.replicate_succ,List.flatten_cons,List.append_assoc]
    rw [<- e2,<- a9q its k (acc ++ its),<- e,List.replicate_succ,List.foldl_cons]
section
variable {X:Cx} {pins:List (Addr × Obj)} {σ:St} {H:Hp} {s:Shared} {l b:Addr} {xs ys zs:List V}
theorem Inv.lset {its its':List Value} {n:Nat} {f:Array Value->Array Value} {t':Nat} (I:Inv X pins σ H s) (hH:H l=some (.lst xs))
    (e:s.heap.get? l=some { cls:=.type "list",data:=.seq its.toArray n }) (hf:f its.toArray=its'.toArray) (hv:a1u ys its') (hz:ys.length<=sizeLine):
    Inv X pins σ (upd H l (.lst ys)) { s with heap:=s.heap.update l (Obj.mapSeq f),toks:=t' }:=by
  have q:=PySem.IsL.update e f
  rw [hf] at q
  refine I.write (x:=l) (e:=l) (by rw [hH]; exact trivial) (.inl rfl) (fun b' u hb hu=>(Heap.get?_update_other s.heap (Obj.mapSeq f) (Ne.symm hb)).trans hu) ⟨_,q⟩ ?_
  exact ⟨hz,its',_,hv,q⟩
theorem Inv.lnew {its:List Value} {t':Nat} (I:Inv X pins σ H s) (hv:a1u ys its) (hz:ys.length<=sizeLine):
    Inv X pins σ (upd H s.heap.objs.size (.lst ys)) { s with heap:=s.heap.push { cls:=.type "list",data:=.seq its.toArray },toks:=t' }:=
  I.laid (fun _ _ q=>Heap.get?_push_of_some _ q) (Nat.le_refl _) ⟨hz,its,0,hv,Heap.get?_push_size _ rfl⟩
theorem Inv.fresh (I:Inv X pins σ H s):H s.heap.objs.size=none:=I.hok.fresh (Nat.le_refl _)
theorem Inv.lstM (I:Inv X pins σ H s) (hH:H l=some (.lst xs)):xs.length<=sizeLine /\ ∃ (its:List Value) (n:Nat),a1u xs its/\xs.length=its.length/\s.heap.get? l=some { cls:=.type "list",data:=.seq its.toArray n }:=by
  obtain ⟨z,its,n,r,e⟩:=I.hok l _ hH
  exact ⟨z,its,n,r,r.length,e⟩
theorem b1i {n:Nat} (h:n<=sizeLine):Builtin.List.listTooLong n=false:=by
  unfold Builtin.List.listTooLong
  exact decide_eq_false (by ac_rfl)
end
section
variable {X:Cx}
def rAppend:V->List V->Hp->VK->Prop:=fun x vs H Q=>∃ l xs y,x=.ref l/\vs=[y]/\H l=some (.lst xs)/\xs.length < sizeLine/\Q .non (upd H l (.lst (xs ++ [y])))
theorem a9f:MtM X "list.append" rAppend:=by
  intro pins s σ H x vs v us Q I rx rv h
  obtain ⟨l,xs,y,rfl,rfl,hH,hz,q⟩:=h
  cases rx
  obtain ⟨u,rfl,ru⟩:=rv.one
  obtain ⟨z,its,n,r,hl,e⟩:=I.lstM hH
  refine call_meets F.slot_list_append ⟨_,e,rfl⟩ F.entry_list_append (F.args_list_append_2 _ _) (PySem.list_append l its.toArray n u (by rw [List.size_toArray]; ac_rfl)) ⟨e,?_⟩
  refine ⟨.non,_,I.lset (its':=its ++ [u]) hH e (by simp) (r.append (.cons ru .nil)) ?_,rfl,q⟩
  rw [List.length_append,List.length_singleton]
  ac_rfl
def rExtend:V->List V->Hp->VK->Prop:=fun x vs H Q=>∃ l b xs zs,x=.ref l/\vs=[.ref b]/\H l=some (.lst xs)/\H b=some (.lst zs)/\xs.length + zs.length<=sizeLine/\Q .non (upd H l (.lst (xs ++ zs)))
theorem mt_extend:MtM X "list.extend" rExtend:=by
  intro pins s σ H x vs v us Q I rx rv h
  obtain ⟨l,b,xs,zs,rfl,rfl,hH,hB,hz,q⟩:=h
  cases rx
  obtain ⟨u,rfl,ru⟩:=rv.one
  cases ru
  obtain ⟨z,its,n,r,hl,e⟩:=I.lstM hH
  obtain ⟨z2,its2,n2,r2,hl2,e2⟩:=I.lstM hB
  have hsz:its.toArray.size + its2.toArray.size<=sizeLine:=by rw [List.size_toArray,List.size_toArray]; ac_rfl
  have hlong:¬ (!its.toArray.isEmpty && Builtin.List.listTooLong (its.toArray.size + its2.toArray.size))=true:=by
    rw [b1i hsz,Bool.and_false]
    exact Bool.false_ne_true
  refine call_meets F.slot_list_extend ⟨_,e,rfl⟩ F.entry_list_extend (F.args_list_extend_2 _ _)
    (AutoSeq1.list_extend_list_list_0 l its.toArray n b its2.toArray n2 hlong (by rw [List.size_toArray]; ac_rfl) (by ac_rfl)) ⟨e,e2,?_⟩
  refine ⟨.non,_,I.lset (its':=its ++ its2) hH e (by simp) (r.append r2) ?_,rfl,q⟩
  rw [List.length_append]
  ac_rfl
def rCat:R2:=fun x y H Q=>∃ l b xs zs,x=.ref l/\y=.ref b/\H l=some (.lst xs)/\H b=some (.lst zs)/\xs.length + zs.length<=sizeLine /\ ∀ p,H p=none->Q (.ref p) (upd H p (.lst (xs ++ zs)))
theorem op_cat:OpR X (binaryOp .Add) rCat:=by
  intro pins s σ H x y v u Q I rx ry h
  obtain ⟨l,b,xs,zs,rfl,rfl,hH,hB,hz,q⟩:=h
  cases rx
  cases ry
  obtain ⟨z,its,n,r,hl,e⟩:=I.lstM hH
  obtain ⟨z2,its2,n2,r2,hl2,e2⟩:=I.lstM hB
  refine PySem.P.add_list e e2 ?_ (by rw [List.size_toArray,List.size_toArray]; ac_rfl)
  have ea:its.toArray ++ its2.toArray=(its ++ its2).toArray:=by simp
  rw [ea]
  exact ⟨.ref _,_,I.lnew (t':=s.toks) (r.append r2) (by rw [List.length_append]; ac_rfl),rfl,q _ I.fresh⟩
def rRep:R2:=fun x y H Q=>∃ l k xs,x=.ref l/\y=.int k/\H l=some (.lst xs) /\ -(2 ^ 63)<=k/\k < 2 ^ 63/\xs.length * k.toNat<=sizeLine /\
  ∀ p,H p=none->Q (.ref p) (upd H p (.lst (List.replicate k.toNat xs).flatten))
theorem len_rep {α:Type} (xs:List α) (k:Nat):(List.replicate k xs).flatten.length=k * xs.length:=by
  induction k with
  | zero=>simp
  | succ k ih=>rw [List.replicate_succ,List.flatten_cons,List.length_append,ih,Nat.succ_mul,Nat.add_comm]
theorem op_rep:OpR X (binaryOp .Mult) rRep:=by
  intro pins s σ H x y v u Q I rx ry h
  obtain ⟨l,k,xs,rfl,rfl,hH,h1,h2,hz,q⟩:=h
  cases rx
  obtain ⟨t,rfl⟩:=ry
  obtain ⟨z,its,n,r,hl,e⟩:=I.lstM hH
  have hlen:its.toArray.size * k.toNat<=sizeLine:=by rw [List.size_toArray,<- hl]; exact hz
  have hcap:¬ its.toArray.size * k.toNat > (2 ^ 63 - 1) / 8:=by
    have:(sizeLine:Nat)<=(2 ^ 63 - 1) / 8:=by decide
    ac_rfl
  have hfit:¬ (!Builtin.List.listFitsIndex k)=true:=by
    rw [fitsIndex_both h1 h2]
    exact Bool.false_ne_true
  have hlong:¬ Builtin.List.listTooLong (its.toArray.size * k.toNat)=true:=by
    rw [b1i hlen]
    exact Bool.false_ne_true
  have hnew:List.foldl (fun x1 x2=>x1 ++ x2) #[] (List.replicate (if its.toArray.isEmpty=true then 0 else k.toNat) its.toArray)=(List.replicate k.toNat its).flatten.toArray:=by
    have f0:∀ m:Nat,List.foldl (fun x1 x2=>x1 ++ x2) #[] (List.replicate m its.toArray)=(List.replicate m its).flatten.toArray:=fun m=>by
      have:=a9q its m []
      rw [List.nil_append] at this
      exact this
    rw [f0]
    cases its with
    | nil=>simp
    | cons a r'=>rw [if_neg (by simp)]
  refine wpAny_binaryOp_repeat_ref (T:="list") (U:="int") (by decide) ⟨_,e,rfl⟩ (fun s'=>typeIs_int s' k t) noFill_list_mul F.fills_int_mul F.slot_int_rmul repeat_list F.slot_int_index.lookup
    (call_meets F.slot_int_rmul (typeIs_int s k t) F.entry_int_rmul (F.args_int_rmul_2 _ _) (int___rmul___int_list k t l its.toArray n)
      ⟨e,rfl,⟨_,e,rfl⟩,call_meets F.slot_list_mul ⟨_,e,rfl⟩ F.entry_list_mul (F.args_list_mul_2 _ _) (AutoListH.list___mul___list_int_3 l its.toArray n k t hfit hcap hlong) ⟨e,?_⟩⟩)
  rw [hnew]
  exact ⟨.ref _,_,I.lnew (t':=s.toks) (r.rep k.toNat) (by rw [len_rep,Nat.mul_comm]; exact hz),rfl,q _ I.fresh⟩
end
section
variable {prog:Program} {w:World} {A:Around} {E:Value->Shared->Prop} {s:Shared}
end
section
variable {X:Cx}
end
end L2
namespace Att
open PySem PySem.W PySem.Calls PyProof.Rows
theorem a6N {P:Params} {h:Heap}:∀ (ns:List Int) (vs:List Value),WellAll P h vs (ns.map WData.int)->IntsAre vs ns:=by
  intro ns
  induction ns with
  | nil=>
    intro vs w
    rw [List.map_nil] at w
    cases w
    exact .nil
  | cons n ns ih=>
    intro vs w
    rw [List.map_cons] at w
    cases w with
    | cons a b=>
      cases a
      exact .cons _ _ (ih _ b)
theorem script_of {l:OpenLaw} {n:Nat} (hn:l.most=some n) {P:Params} {h:Heap} {args:List WData} {vals:List Value}
    (hpre:l.row.toRowW.claim.pre args=true) (hwl:WellAll P h vals args):
    ∃ a vs ns,vals=[Value.ref a]/\args=[WData.list (ns.map WData.int)]/\h.get? a=some { cls:=.type "list",data:=.seq vs.toArray }/\IntsAre vs ns/\ns.length<=n:=by
  have hsh:WShape.hasAll [] args [.list .int]=true:=(pre_splitW hpre).1
  have hc:l.pre.holds [] { args:=args }=true:=(pre_splitW hpre).2
  obtain ⟨d,r,rfl,h1,h2⟩:=hasAllW_cons hsh
  obtain rfl:=hasAllW_nil h2
  obtain ⟨xs,rfl,h3⟩:=hasW_list h1
  obtain ⟨ns,rfl⟩:=items_int h3
  have hlen:ns.length<=n:=by
    unfold OpenLaw.pre at hc
    have h4:(WTm.not (.lt (.lit (.int (n:Int))) (.len (.arg 0)))).holds [] { args:=[.list (ns.map .int)] }=true:=by
      have h4:=(holds_andW hc).1
      rw [hn] at h4
      exact h4
    have h5:=condW_of h4 (w_not (w_lt w_lit (w_len_list (w_arg rfl))))
    rw [List.length_map] at h5
    refine Nat.le_of_not_lt fun q=>?_
    have q':(n:Int) < ((ns.length:Nat):Int):=by ac_rfl
    first
      | (rw [decide_eq_true q'] at h5; exact absurd h5 (by decide))
      | (simp at h5; ac_rfl)
  cases hwl with
  | cons w1 w2=>
    cases w2
    cases w1 with
    | list ho hall=>exact ⟨_,_,ns,rfl,rfl,ho,a6N ns _ hall,hlen⟩
theorem post_true (l:OpenLaw) (args:List WData):l.row.toRowW.claim.post args (.bool true) args=true:=
  postW_of (r:=l.row.toRowW) (X:=(true == true))
    (show WShape.has [] (.bool true) .bool=true by first | rfl | decide | simp [WShape.has,WShape.arms,WShape.armsAll])
    (show (WTm.eq .res (.lit (.bool true))).value [] { args:=args,res:=some (.bool true),after:=args }=some (.bool (true == true)) from w_eq_bool (w_res rfl) w_lit) rfl
theorem b0F {l:OpenLaw} {n:Nat} {q:Program} {loose:List Str} {XP:(Str->Option Value)->Heap->Prop} {YP:World->Heap->Prop} {d:DefRec}
    (hn:l.most=some n) (hdf:d.params.defaults=[])
    (call:∀ (w:World) (s₀ s₁:Shared) (mg mb:Str->Option Value) (fa:Addr) (o:Obj) (pm cd doc:Value) (a:Addr) (vs:List Value) (ns:List Int),
      Ground q loose [] XP w s₀ mg mb s₁.heap->YP w s₁.heap ->
      s₁.heap.get? fa=some o->o.data=.func (docDef d.name d.params d.body d.scope pm cd doc)->s₁.heap.CodeRec cd d.name->mg d.name=some (.ref fa) ->
      s₁.heap.get? a=some { cls:=.type "list",data:=.seq vs.toArray }->IntsAre vs ns->ns.length<=n->s₁.gens = #[] ->
      codeAny (model l.prog w) callerA (.call (.ref fa) ⟨[.ref a],[]⟩) (fun r s'=>r=.ok (.ret (.bool true))/\OldK s₁.heap s'.heap/\s'.os=s₁.os/\AllBare s'.gens) s₁):
    WalkO q loose XP YP l.row.toRowW d [] (fun f vs=>PySem.call f vs):=by
  intro w s₀ s₁ mg mb G Y fa o pm cd doc dV kV ho hd hcd hD hmg hg args vals as hpre hlay hrd hwl hlo
  obtain rfl:dV=.none:=Dflts.none hD hdf
  obtain rfl:kV=.none:=Dflts.noKw hD
  obtain ⟨a,vs,ns,rfl,rfl,hobj,hints,hlen⟩:=script_of hn hpre hwl
  refine enter_call (codeAny_mono (call w s₀ s₁ mg mb fa o pm cd doc a vs ns G Y ho (fd_plain hd) hcd hmg hobj hints hlen hg) fun r s' hq=>?_)
  obtain ⟨rfl,h2,h3,h4⟩:=hq
  exact ⟨.inl ⟨.bool true,.bool true,[],rfl,fun _=>rfl,.bool true,post_true l _,fun _=>⟨List.Pairwise.nil,fun _ hm=>(nomatch hm)⟩⟩,h2,h3,h4⟩
section
variable {prog:Program} {w:World} {A:Around} {E:Value->Shared->Prop} {s:Shared} {K:Frag}
end
end Att
namespace L2
open PySem PySem.Spec PyProof.Rows
theorem a8O:∀ {vs:List Value} {ns:List Int},IntsAre vs ns->a1u (ns.map V.int) vs
  | _,_,.nil=>.nil
  | _,_,.cons n t h=>.cons ⟨t,rfl⟩ (a8O h)
def Only (H:Hp):Prop:=∀ b,H b=none \/ ∃ o xs,H b=some (.frz o (.lst xs))
theorem law_call {P:Program} {w:World} {K:W.Frag} {mg mb:Str->Option Value} {CX:CXT} {k:Nat} {fa a:Addr} {fd:FuncData} {x:Str} {sp:Sp} {s₁:Shared} {vs:List Value} {ns:List Int}
    (KX:K.In s₁.heap) (hns:s₁.heap.Ns mainGlobals mg) (hb:s₁.heap.Ns builtinsNs mb) (hbb:∀ x:Str,x ≠ "__name__" -> mb x=bootBuiltins x) (hlim:s₁.heap.NoLimit) (hg:s₁.gens = #[])
    (ha:s₁.heap.get? a=some { cls:=.type "list",data:=.seq vs.toArray }) (hi:IntsAre vs ns) (hl:ns.length<=sizeLine) (hr:Room k callerA)
    (F:∀ base:Heap,K.In base->base.Ns mainGlobals mg->FnOk P w K mg base CX k fa fd [x] sp) (hbind:∀ (s:Shared) (u:Value),BindsTo s fd ⟨[u],[]⟩ [(x,u)])
    (hsp:∀ H:Hp,Only H->SqL K H a (ns.map V.int)->sp [.ref a] H (fun v _=>v=.bl true) fun _ _ _=>False)
    (hCX:∀ H e s',CX [] H s₁ (fun _ _ _=>False) e s'->False):
    codeAny (model P w) callerA (.call (.ref fa) ⟨[.ref a],[]⟩) (fun r s'=>r=.ok (.ret (.bool true))/\OldK s₁.heap s'.heap/\s'.os=s₁.os/\AllBare s'.gens) s₁:=by
  have rv:=a8O hi
  have lenV:=hi.length
  have core:∀ H:Hp,Only H->SqL K H a (ns.map V.int)->HOk P w H s₁.heap->(∀ b,H b ≠ none->b=a)->(H a ≠ none->K.lookup a=none) ->
      codeAny (model P w) callerA (.call (.ref fa) ⟨[.ref a],[]⟩) (fun r s'=>r=.ok (.ret (.bool true))/\OldK s₁.heap s'.heap/\s'.os=s₁.os/\AllBare s'.gens) s₁:=by
    intro H hO hS hok hA hK
    have base_of:∀ {b:Addr} {o:Obj},s₁.heap.get? b=some o->H b=none->(hidT s₁.heap H).get? b=some o:=fun e n=>hidT_get e n
    have noA:∀ {b:Addr} {o:Obj} {es:Array DictEntry} {ep:Nat},s₁.heap.get? b=some o->o.data=.dict es ep->H b=none:=fun {b o es ep} e d=>by
      cases q:H b with
      | none=>rfl
      | some u=>
        have e':b=a:=hA b (by rw [q]; simp)
        subst e'
        rw [ha] at e; cases e
        have d':Data.seq vs.toArray _=Data.dict es ep:=d
        cases d'
    have nsK:∀ {b:Addr} {m:Str->Option Value},s₁.heap.Ns b m->(hidT s₁.heap H).Ns b m:=fun {b m} ⟨o,es,ep,e,d,r⟩=>⟨o,es,ep,base_of e (noA e d),d,r⟩
    have hKb:K.In (hidT s₁.heap H):=fun b o e=>base_of (KX b o e) (by
      cases q:H b with
      | none=>rfl
      | some u=>
        have e':b=a:=hA b (by rw [q]; simp)
        subst e'
        rw [hK (by rw [q]; simp)] at e; cases e)
    have hM:Mod K mg (hidT s₁.heap H):=⟨hKb,nsK hns,⟨mb,nsK hb,hbb⟩,let ⟨mc,h1,h2⟩:=hlim; ⟨mc,nsK h1,h2⟩⟩
    have e0:Env0 P w K mg (hidT s₁.heap H) callerA [] s₁ H:=⟨rfl,hM,fun b o e=>of_hidT e,Nat.le_of_eq (hidT_size _ _),trivial,fun b hb=>absurd (show b ∈ ([]:List Addr) from hb) (by simp),hok,.of_eq hg⟩
    refine codeAny_mono ((F _ hKb (nsK hns)).run callerA [] s₁ H ⟨[.ref a],[]⟩ [.ref a] [.ref a] _ _ hr e0 (hbind s₁ (.ref a)) (.cons rfl .nil) (hsp H hO hS)) fun r s' h=>?_
    cases r with
    | error e=>exact (hCX H e s' h).elim
    | ok fl=>
      cases fl with
      | next=>exact False.elim h
      | brk=>exact False.elim h
      | cont=>exact False.elim h
      | ret u=>
        obtain ⟨v,H',os,bare,un,hok',r',q⟩:=h
        have q':v=.bl true:=q
        subst q'
        obtain rfl:u=Value.bool true:=r'
        refine ⟨rfl,OldK.of_keep fun b o e=>?_,os,bare⟩
        cases q:H b with
        | none=>exact un.keep b o e q (by intro z; exact absurd (show b ∈ ([]:List Addr) from z) (by simp)) (by simp)
        | some u=>
          rcases hO b with z | ⟨ob,xs,z⟩
          . rw [q] at z; cases z
          . have z2:=un.frzs b ob _ z
            obtain ⟨e1,_⟩:=hok b _ z
            obtain ⟨e2,_⟩:=hok' b _ z2
            rw [e] at e1; cases e1
            exact e2
  cases hk:K.lookup a with
  | some o=>
    have e:=KX a o hk
    rw [ha] at e
    cases e
    refine core (fun _=>none) (fun _=>.inl rfl) (.inr ⟨_,vs.toArray,_,hk,rfl,rfl,rfl,by rw [List.size_toArray,lenV]; exact hl,by simpa using rv⟩) (fun b u z=>by have z':(none:Option HO)=some u:=z; cases z') (fun b z=>absurd rfl z) fun z=>absurd rfl z
  | none=>
    refine core (fun b=>if b=a then some (.frz { cls:=.type "list",data:=.seq vs.toArray } (.lst (ns.map V.int))) else none) (fun b=>?_) (.inl (.inr ⟨{ cls:=.type "list",data:=.seq vs.toArray },if_pos rfl⟩)) (fun b u z=>?_) (fun b z=>?_) fun _=>hk
    . by_cases hb:b=a
      . exact .inr ⟨_,_,if_pos hb⟩
      . exact .inl (if_neg hb)
    . by_cases hb:b=a
      . have z':=(if_pos hb).symm.trans z
        cases z'
        subst hb
        exact ⟨ha,by rw [List.length_map]; exact hl,vs,_,rv,ha⟩
      . have z':=(if_neg hb).symm.trans z
        cases z'
    . by_cases hb:b=a
      . exact hb
      . exact absurd (if_neg hb) z
end L2
namespace L2
open PySem PySem.Spec PyProof.Rows
theorem walk_of {l:W.OpenLaw} {n k:Nat} {q:Program} {loose:List Str} {XP:(Str->Option Value)->Heap->Prop} {YP:World->Heap->Prop} {d:DefRec} {K:Params->W.Frag} {CX:World->CXT} {sp:World->Sp} {x:Str}
    (hn:l.most=some n) (hn2:n<=sizeLine) (hdf:d.params.defaults=[]) (hr:Room k callerA)
    (hY:∀ (w:World) (h:Heap),YP w h->(K w.params).In h)
    (F:∀ (w:World) (mg:Str->Option Value) (fa:Addr) (h:Heap),(K w.params).In h->h.Ns mainGlobals mg->mg d.name=some (.ref fa) ->
      ∃ fd:FuncData,(∀ (s:Shared) (u:Value),BindsTo s fd ⟨[u],[]⟩ [(x,u)]) /\
        ∀ base:Heap,(K w.params).In base->base.Ns mainGlobals mg->FnOk l.prog w (K w.params) mg base (CX w) k fa fd [x] (sp w))
    (hsp:∀ (w:World) (H:Hp) (a:Addr) (ns:List Int),ns.length<=n->Only H->SqL (K w.params) H a (ns.map V.int)->sp w [.ref a] H (fun v _=>v=.bl true) fun _ _ _=>False)
    (hCX:∀ (w:World) (H:Hp) (s:Shared) (e:Value) (s':Shared),CX w [] H s (fun _ _ _=>False) e s'->False):
    W.WalkO q loose XP YP l.row.toRowW d [] (fun f vs=>PySem.call f vs):=by
  refine Att.b0F hn hdf fun w s₀ s₁ mg mb fa o pm cd doc a vs ns G Y ho hd hcd hmg hobj hints hlen hg=>?_
  have KX:=hY w _ Y
  obtain ⟨fd,hb,hF⟩:=F w mg fa _ KX G.T.g hmg
  exact law_call KX G.T.g G.T.b G.T.builtins G.T.nolimit hg hobj hints (Nat.le_trans hlen hn2) hr hF hb (fun H hO hS=>hsp w H a ns hlen hO hS) fun H e s'=>hCX w H s₁ e s'
end L2
namespace L2
open PySem PySem.Spec PyProof.Rows
noncomputable def a0I (s:Stmt) (j:Nat):Stmt:=match s with
  | .ClassDef _ _ _ body _ _ _ _ _ _ _=>body.getD j (.Pass ⟨0,0,0,0⟩)
  | _=>.Pass ⟨0,0,0,0⟩
noncomputable def a0t (s:Stmt):Arguments:=match s with
  | .FunctionDef _ a _ _ _ _ _ _ _ _=>a
  | _=>{ posonlyargs:=[],args:=[],vararg:=none,kwonlyargs:=[],kw_defaults:=[],kwarg:=none,defaults:=[] }
noncomputable def a0o (s:Stmt):List Stmt:=match s with
  | .FunctionDef _ _ b _ _ _ _ _ _ _=>b
  | _=>[]
noncomputable def a0d (s:Stmt):Scope:=match s with
  | .FunctionDef _ _ _ _ _ _ sc _ _ _=>sc
  | _=>{ kind:=.function,names:=[],isGenerator:=false,isCoroutine:=false }
noncomputable abbrev CX0:CXT:=fun _ _ _ _ _ _=>False
abbrev E0:XK:=fun _ _ _=>False
theorem pass0 {X:Cx}:a7a CX0 X E0:=fun _ _ _ _ _ _ _ h=>h.elim
structure Fun (K:W.Frag) (x qual:Str) (st:Stmt) (f:Addr) (fd:FuncData):Prop where
  ex:∃ (oc:Value) (od:Option Addr) (kV doc pm:Value) (an:Option Addr) (cdv ct:Value) (osl:Array (Option Value)),
    fd=W.fnOf x qual (a0t st) (a0o st) (a0d st) .none kV doc pm an cdv ct/\K.lookup f=some ⟨oc,od,.func fd,osl⟩/\W.codeIn K cdv qual=true
  kp:W.keepIn K (.ref f)=true
section
variable {P:Program} {w:World} {K:W.Frag} {mg:Str->Option Value} {base:Heap}
theorem Fun.ok {x qual:Str} {st:Stmt} {f:Addr} {fd:FuncData} {N ps:List Str} {k:Nat} {sp:Sp} (F:Fun K x qual st f fd) (S:FnScope N ps (a0d st)) (len:∀ vs H Q E,sp vs H Q E->vs.length=ps.length)
    (hbody:∀ (cdv:Value) (A:Around) (outer:List Env) (s:Shared) (H:Hp) (vs:List V) (Q:VK) (E:XK),Room k (A.deeper (envOfC qual (a0d st) s.heap.objs.size f cdv))->sp vs H Q E ->
      ∃ t,PSs (a1x CX0 P w K mg base N qual (a0d st) f cdv A outer s H E).nox (a0o st) t/\t { nx:=fun _ H'=>Q .non H',rt:=Q } (start N vs) H):FnOk P w K mg base CX0 (k + 1) f fd ps sp:=by
  obtain ⟨oc,od,kV,doc,pm,an,cdv,ct,osl,rfl,lk,hcd⟩:=F.ex
  refine fn_of lk hcd S len fun A outer s H vs Q E hr hsp=>?_
  obtain ⟨t,h,q⟩:=hbody cdv A outer s H vs Q E hr hsp
  exact ⟨t,h.nox,q⟩
theorem Fun.binds {x qual:Str} {st:Stmt} {f:Addr} {fd:FuncData} {ps:List Str} (F:Fun K x qual st f fd)
    (h:∀ (kV doc pm:Value) (an:Option Addr) (cdv ct:Value) (us:List Value),us.length=ps.length->bindArgs (W.fnOf x qual (a0t st) (a0o st) (a0d st) .none kV doc pm an cdv ct) ⟨us,[]⟩=pure (ps.zip us)):a3B K fd ps []:=by
  obtain ⟨oc,od,kV,doc,pm,an,cdv,ct,osl,rfl,lk,hcd⟩:=F.ex
  exact .all (h kV doc pm an cdv ct)
theorem a0R {x qual:Str} {st:Stmt} {f:Addr} {oc:Value} {od an:Option Addr} {osl:Array (Option Value)} {kV doc pm cdv ct:Value} (l:K.lookup f=some ⟨oc,od,.func (W.fnOf x qual (a0t st) (a0o st) (a0d st) .none kV doc pm an cdv ct),osl⟩)
    (c:W.codeIn K cdv qual=true) (k:W.keepIn K (.ref f)=true):Fun K x qual st f (W.fnOf x qual (a0t st) (a0o st) (a0d st) .none kV doc pm an cdv ct):=⟨⟨oc,od,kV,doc,pm,an,cdv,ct,osl,rfl,l,c⟩,k⟩
end
theorem a3v {A:Around} {k:Nat} (hr:Room k A):A.units + 1 < cLine:=Nat.lt_of_le_of_lt (Nat.add_le_add_left (by decide:1<=64) _) hr.units
theorem small1000 {n:Nat} (h:n<=1000):n < sizeLine:=Nat.lt_of_le_of_lt h (by decide)
section
variable {X:Cx}
theorem pv (i:Nat) {x:Str} {pos:Pos} (hN:X.N[i]?=some x:=by rfl) (hv:Vis X.env.scope x:=by first | exact Or.inl rfl | exact Or.inr (Or.inl rfl) | exact Or.inr (Or.inr rfl)) (hd:(x == ("__debug__" : Str))=false:=by decide)
    (hcd:(x == ("__classdict__" : Str))=false:=by decide):PE X (.Name x pos) (tVar i):=pe_var hN hv hd hcd
end
theorem a7h {A B:Prop} (h:B):if false=true then A else B:=by
  rw [if_neg Bool.false_ne_true]
  exact h
theorem a8M {A B:Prop} (h:A):if true=true then A else B:=by
  rw [if_pos rfl]
  exact h
theorem ite2 {c A B:Prop} [Decidable c] (h1:c->A) (h2:¬ c->B):if c then A else B:=by
  by_cases h:c
  . rw [if_pos h]
    exact h1 h
  . rw [if_neg h]
    exact h2 h
def a0r (H H':Hp):Prop:=∀ b o,H b=some o->H' b=some o
theorem a0r.refl (H:Hp):a0r H H:=fun _ _ h=>h
theorem a0r.trans {H H1 H2:Hp} (a:a0r H H1) (b:a0r H1 H2):a0r H H2:=fun c o h=>b c o (a c o h)
theorem a0r.free {H H':Hp} (e:a0r H H') {l:Addr} (h:H' l=Option.none):H l=Option.none:=by
  cases q:H l with
  | none=>rfl
  | some o=>
    rw [e l o q] at h
    cases h
end L2
set_option maxHeartbeats 4000000
namespace L2
open PySem PySem.Spec PyProof.Rows
def CDivB (i j:Int):Prop:=0 < j/\j < 2 ^ 200
theorem op_fdivB {X:Cx}:OpR X (binaryOp .FloorDiv) (rI CDivB fun i j=>.int (i / j)):=opI fun i j _ _ _ _ _ hc q=>by
  have p1:(0:Int) < j:=hc.1
  have p2:j < 2 ^ 200:=hc.2
  have p3:j.natAbs < 2 ^ 200:=by ac_rfl
  have p4:j.natAbs.log2 < 200:=(Nat.log2_lt (by ac_rfl)).mpr p3
  refine floordiv_int (by ac_rfl) ?_ (.inl (PyProof.noPylong_of_log2 (by ac_rfl)))
  rw [Int.fdiv_eq_ediv_of_nonneg i (by ac_rfl)]
  exact q
theorem pe_globI {X:Cx} {x:Str} {n:Int} {pos:Pos} (hm:∃ t,X.mg x=some (.int n t)) (hg:Gl X x:=by rfl) (hd:(x == ("__debug__" : Str))=false:=by decide):PE X (.Name x pos) (tC (.int n)):=by
  obtain ⟨t,h⟩:=hm
  exact a9U hg h ⟨t,rfl⟩ hd
section
variable {X:Cx} {pins:List (Addr × Obj)} {σ:St} {H:Hp} {s:Shared} {h':Heap}
theorem Inv.turnedL {t':Nat} {fp:List Addr} (I:Inv X pins σ H s) (hf:∀ b ∈ fp,FpOk X pins H b) (k:∀ b o,b ∉ fp->s.heap.get? b=some o->h'.get? b=some o):Inv X pins σ H { s with heap:=h',toks:=t' }:=by
  have nf:∀ b u,H b=some u->b ∉ fp:=fun b u e z=>by have:=(hf b z).1; rw [e] at this; cases this
  refine I.step (g':=s.gens) (d':=s.drawn) (ch:=fp) (fun b hb=>?_) (fun b o _ _ hc e _=>k b o hc e) (fun b o _ _ hc e _=>⟨o.slots,k b o hc e⟩) (fun _ _ _ _ n=>n) (fun b o hc e=>⟨o,k b o hc e⟩) (fun _ _ e=>e) (fun _ _ _ e=>e)
    (fun b ps e=>⟨#[],by rw [e]; simp⟩) (fun m hm=>?_) (fun b u e=>?_) I.bare
  . obtain ⟨_,f1,_,f3,f4,f5⟩:=hf b hb
    exact ⟨f3,f1,f4,f5⟩
  . obtain ⟨o,es,ep,ho,r⟩:=hm
    exact ⟨o,es,ep,k _ o (fun z=>(hf _ z).2.1 rfl) ho,r⟩
  . refine (I.hok b u e).stay (fun c v hc q=>k c v ?_ q) (fun _ q=>q) (fun _ _ q=>q) fun _ _ q=>q
    rcases hc with z | z
    . rw [z]; exact nf b u e
    . exact nf c _ z
theorem Inv.turnedN {t':Nat} {fp:List Addr} {T:Addr} {ob:HO} (I:Inv X pins σ H s) (hf:∀ b ∈ fp,FpOk X pins H b) (k:∀ b o,b ∉ fp->s.heap.get? b=some o->h'.get? b=some o) (hT:s.heap.objs.size<=T)
    (new:a1K X.prog X.w (upd H T ob) h' T ob):Inv X pins σ (upd H T ob) { s with heap:=h',toks:=t' }:=by
  have hn:H T=none:=I.hok.fresh hT
  have nf:∀ b u,H b=some u->b ∉ fp:=fun b u e z=>by have:=(hf b z).1; rw [e] at this; cases this
  have nT:∀ b o,s.heap.get? b=some o->b ≠ T:=fun b o e=>Nat.ne_of_lt (Nat.lt_of_lt_of_le (Heap.lt_size e) hT)
  refine I.step (g':=s.gens) (d':=s.drawn) (ch:=fp) (fun b hb=>?_) (fun b o _ _ hc e _=>k b o hc e) (fun b o _ _ hc e _=>⟨o.slots,k b o hc e⟩) (fun b o _ e n=>by rw [a0w (nT b o e)]; exact n) (fun b o hc e=>⟨o,k b o hc e⟩)
    (fun b xs e=>by rw [a0w (a0u e hn)]; exact e) (fun b _ _ e=>by rw [a0w (a0u e hn)]; exact e)
    (fun b ps e=>⟨#[],by rw [a0w (a0u e hn),e]; simp⟩) (fun m hm=>?_) (fun b u e=>?_) I.bare
  . obtain ⟨_,f1,_,f3,f4,f5⟩:=hf b hb
    exact ⟨f3,f1,f4,f5⟩
  . obtain ⟨o,es,ep,ho,r⟩:=hm
    exact ⟨o,es,ep,k _ o (fun z=>(hf _ z).2.1 rfl) ho,r⟩
  . by_cases hb:b=T
    . subst hb
      rw [a0E] at e
      cases e
      exact new
    . rw [a0w hb] at e
      refine (I.hok b u e).stay (fun c v hc q=>k c v ?_ q) (fun c q=>by rw [a0w (a0u q hn)]; exact q) (fun c xs q=>by rw [a0w (a0u q hn)]; exact q) fun c xs q=>by rw [a0w (a0u q hn)]; exact q
      rcases hc with z | z
      . rw [z]; exact nf b u e
      . exact nf c _ z
end
noncomputable def ItE (K:W.Frag) (a:Addr):It:=
  ⟨fun i H=>∃ xs x,SqL K H a xs/\xs[i]?=some x,fun i H v H'=>∃ T x,H T=none/\v=.ref T/\H'=upd H T (.tup [.int i,x]) /\ ∀ xs,SqL K H a xs->xs[i]?=some x,fun i H=>∃ xs,SqL K H a xs/\xs.length<=i⟩
theorem turn_enum {P:Program} {w:World} {K:W.Frag} {elts:List Expr} {x1:Nat} {pos:Pos} (a e it:Addr) (hne:e ≠ it):
    Turn P w K (.Tuple elts x1 pos) (ItE K a) [e,it] e (fun i h=>(∃ old,IsEnum h e it (i:Nat) old)/\h.IsListIter it a i) where
  mem:=by simp
  obj:=fun i h st b hb=>by
    obtain ⟨⟨old,he⟩,o,ho,c,d⟩:=st
    rcases List.mem_cons.mp hb with rfl | hb
    . exact ⟨_,he,fun v z=>by cases z⟩
    . rw [List.mem_singleton.mp hb]
      exact ⟨o,ho,fun v z=>by rw [d] at z; cases z⟩
  keep:=fun i h h' st k=>⟨let ⟨old,he⟩:=st.1; ⟨old,k e (by simp) _ he⟩,st.2.at fun o q=>k it (by simp) o q⟩
  item:=by
    intro X hP hw hK hc i pins s σ H E I hf st hg
    subst hP hw hK
    obtain ⟨xs,x,hq,hx⟩:=hg
    obtain ⟨its,rv,p,hz⟩:=I.list hq
    obtain ⟨u,hu,ru⟩:=rv.get hx
    obtain ⟨⟨old,he⟩,hit⟩:=st
    refine wpAny_pyNext_enum_item he hit p.isList (x:=u) (by simpa using hu) hne fun h1 heo hit1 ht hsz hk=>⟨_,rfl,?_⟩
    refine wpAny_letOwnedTupleGo_enum heo fun h2 he2 hs2=>?_
    have heL:e < s.heap.objs.size:=Heap.lt_size he
    have hn:H s.heap.objs.size=none:=I.hok.fresh (Nat.le_refl _)
    have k2:∀ b o,b ∉ [e,it]->s.heap.get? b=some o->h2.get? b=some o:=fun b o hb q=>by
      have b1:b ≠ e:=fun z=>hb (by simp [z])
      have b2:b ≠ it:=fun z=>hb (by simp [z])
      exact (hs2.2 b b1).trans (hk b o b1 b2 q)
    have tt:h2.get? s.heap.objs.size=some { cls:=.type "tuple",data:=.seq #[.int i s.toks,u] }:=(hs2.2 _ (Nat.ne_of_gt heL)).trans ht
    refine ⟨.ref s.heap.objs.size,_,I.turnedN (ob:=.tup [.int i,x]) (T:=s.heap.objs.size) (t':=s.toks + 1) hf k2 (Nat.le_refl _) ?_,rfl,⟨_,x,hn,rfl,rfl,fun ys hy=>by rw [I.list_inj hy hq]; exact hx⟩,⟨⟨u,?_⟩,hit1.extBut hs2.extBut (Ne.symm hne)⟩,fun b hb=>?_⟩
    . exact ⟨(by decide:2<=sizeLine),[.int i s.toks,u],.cons ⟨_,rfl⟩ (.cons ru .nil),_,tt,rfl,_,rfl⟩
    . have:((i + 1:Nat):Int)=(i:Int) + 1:=by ac_rfl
      rw [this]
      exact he2
    . have hb1:=(hf b hb).1
      rw [a0w ?_]
      . exact hb1
      . rintro rfl
        obtain ⟨o,ho,_⟩:=id hit
        rcases List.mem_cons.mp hb with z | z
        . exact absurd heL (by rw [<- z]; exact Nat.lt_irrefl _)
        . have:=Heap.lt_size ho
          rw [<- List.mem_singleton.mp z] at this
          exact Nat.lt_irrefl _ this
  done:=by
    intro X hP hw hK hc i pins s σ H E I hf st hg
    subst hP hw hK
    obtain ⟨xs,hq,hx⟩:=hg
    obtain ⟨its,rv,p,hz⟩:=I.list hq
    obtain ⟨⟨old,he⟩,hit⟩:=st
    have hl:=rv.length
    exact end_enum I.qu he hit p.isList (by simp; ac_rfl) fun h1 eb=>⟨rfl,I.turnedL (t':=s.toks) hf fun b o hb q=>eb b o (fun z=>hb (by simp [z])) q⟩
  self:=fun _ _ _ _ _ st h=>by
    obtain ⟨⟨old,he⟩,_⟩:=st
    exact wpAny_pyIter_enum he h
section
variable {X:Cx}
def iEnum (K:W.Frag) (ta:TA):TI:=fun σ H R=>ta σ H fun vs H1=>∃ a,vs=[.ref a]/\(∃ xs,SqL K H1 a xs)/\R (ItE K a) H1
theorem pi_enum {elts:List Expr} {x1:Nat} {tp:Pos} {a:Expr} {ta:TA} {p pos:Pos} (hg:Gl X "enumerate") (hm:X.mg "enumerate" = none) (ha:PA X [a] ta) (hs:starEach [a] X.env=[(false,eval a X.env)]:=by rfl):
    PI X (.Tuple elts x1 tp) (.Call (.Name "enumerate" p) [a] [] pos) (iEnum X.K ta):=by
  intro pins s σ H R I h
  refine Call_ (a6L I hg hm boot_enumerate (PyProof.Rows.callWith_type1 (thn (ha pos pins s σ H _ I h) fun us s1 ⟨vs,H1,I1,r1,q1⟩=>?_) hs rfl))
  obtain ⟨l,e,⟨xs,hq⟩,q⟩:=q1
  subst e
  obtain ⟨u,rfl,ru⟩:=a7d r1
  cases ru
  obtain ⟨its,rv,pl,hz⟩:=I1.list hq
  refine call_enumerate_list pl.isList fun h1 he hit hsz hk=>wpAny_pyIter_enum he ?_
  have I2:Inv X pins σ H1 { s1 with heap:=h1 }:=I1.kept (t':=s1.toks) hk
  refine ⟨s1.heap.objs.size + 1,[s1.heap.objs.size + 1,s1.heap.objs.size],_,_,H1,rfl,I2,turn_enum l _ _ (Nat.succ_ne_self _),⟨⟨_,he⟩,hit⟩,fun b hb=>?_,q⟩
  refine I1.fpOk ?_ (I1.hok.fresh ?_)
  all_goals
    rcases List.mem_cons.mp hb with z | z
    . rw [z]; exact Nat.le_succ _
    . rw [List.mem_singleton.mp z]; exact Nat.le_refl _
end
noncomputable def ItZ (a b:Addr):It:=
  ⟨fun i H=>∃ xs ys x y,H a=some (.lst xs)/\H b=some (.lst ys)/\xs[i]?=some x/\ys[i]?=some y,
   fun i H v H'=>∃ T x y,H T=none/\v=.ref T/\H'=upd H T (.tup [x,y])/\(∀ xs,H a=some (.lst xs)->xs[i]?=some x) /\ ∀ ys,H b=some (.lst ys)->ys[i]?=some y,
   fun i H=>∃ xs ys,H a=some (.lst xs)/\H b=some (.lst ys)/\(xs.length<=i \/ ys.length<=i)⟩
structure ZApart (z TI TO i1 i2:Addr):Prop where
  a:TI ≠ z
  b:TO ≠ z
  c:i1 ≠ z
  d:i2 ≠ z
  e:TI ≠ TO
  f:TI ≠ i1
  g:TI ≠ i2
  h:TO ≠ i1
  i:TO ≠ i2
  j:i1 ≠ i2
theorem turn_zip {P:Program} {w:World} {K:W.Frag} {elts:List Expr} {x1:Nat} {pos:Pos} (a b z TI TO i1 i2:Addr) (Z:ZApart z TI TO i1 i2):
    Turn P w K (.Tuple elts x1 pos) (ItZ a b) [z,TI,TO,i1,i2] z (fun i h=>IsZip h z TI TO .none/\IsPair h TI (.ref i1) (.ref i2)/\(∃ p q,IsPair h TO p q)/\h.IsListIter i1 a i/\h.IsListIter i2 b i) where
  mem:=by simp
  obj:=fun i h st c hc=>by
    obtain ⟨hz,hI,⟨p,q,hO⟩,⟨o1,h1,_,d1⟩,⟨o2,h2,_,d2⟩⟩:=st
    simp only [List.mem_cons,List.not_mem_nil,or_false] at hc
    rcases hc with rfl | rfl | rfl | rfl | rfl
    . exact ⟨_,hz,fun v y=>by cases y⟩
    . exact ⟨_,hI,fun v y=>by cases y⟩
    . exact ⟨_,hO,fun v y=>by cases y⟩
    . exact ⟨_,h1,fun v y=>by rw [d1] at y; cases y⟩
    . exact ⟨_,h2,fun v y=>by rw [d2] at y; cases y⟩
  keep:=fun i h h' st k=>by
    obtain ⟨hz,hI,⟨p,q,hO⟩,h1,h2⟩:=st
    exact ⟨k z (by simp) _ hz,k TI (by simp) _ hI,⟨p,q,k TO (by simp) _ hO⟩,h1.at fun o y=>k i1 (by simp) o y,h2.at fun o y=>k i2 (by simp) o y⟩
  item:=by
    intro X hP hw hK hc i pins s σ H E I hf st hg
    subst hP hw hK
    obtain ⟨xs,ys,x,y,ha,hb,hx,hy⟩:=hg
    obtain ⟨its,rv,pl,hz1⟩:=I.list (SqL.of ha)
    obtain ⟨its2,rv2,pl2,hz2⟩:=I.list (SqL.of hb)
    obtain ⟨u,hu,ru⟩:=rv.get hx
    obtain ⟨u2,hu2,ru2⟩:=rv2.get hy
    obtain ⟨hz,hI,⟨p,q,hO⟩,h1,h2⟩:=st
    have na:∀ c ∈ [z,TI,TO,i1,i2],a ≠ c:=fun c hc=>a0u ha (hf c hc).1
    have nb:∀ c ∈ [z,TI,TO,i1,i2],b ≠ c:=fun c hc=>a0u hb (hf c hc).1
    have D:ZipApart z TI TO i1 i2 a b:=⟨Z.a,Z.b,Z.c,Z.d,Z.e,Z.f,Z.g,Z.h,Z.i,Z.j,na z (by simp),na TO (by simp),na i1 (by simp),na i2 (by simp),nb z (by simp),nb TO (by simp),nb i1 (by simp),nb i2 (by simp)⟩
    refine wpAny_pyNext_zip_item D hz hI hO h1 h2 pl.isList pl2.isList (x:=u) (y:=u2) (by simpa using hu) (by simpa using hu2) fun g a1 a2 a3 a4 a5 a6 hk=>⟨_,rfl,?_⟩
    refine wpAny_letOwnedTupleGo_zip a1 fun g2 hz2 hs2=>?_
    have hn:H s.heap.objs.size=none:=I.hok.fresh (Nat.le_refl _)
    have zL:z < s.heap.objs.size:=Heap.lt_size hz
    have lt:∀ {c:Addr} {o:Obj},s.heap.get? c=some o->c ≠ s.heap.objs.size:=fun e=>Nat.ne_of_lt (Heap.lt_size e)
    have k2:∀ c o,c ∉ [z,TI,TO,i1,i2]->s.heap.get? c=some o->g2.get? c=some o:=fun c o hc e=>by
      simp only [List.mem_cons,List.not_mem_nil,or_false,not_or] at hc
      exact (hs2.2 c hc.1).trans (hk c o hc.1 hc.2.2.1 hc.2.2.2.1 hc.2.2.2.2 e)
    have tt:g2.get? s.heap.objs.size=some { cls:=.type "tuple",data:=.seq #[u,u2] }:=(hs2.2 _ (Nat.ne_of_gt zL)).trans a5
    refine ⟨.ref s.heap.objs.size,_,I.turnedN (ob:=.tup [x,y]) (T:=s.heap.objs.size) (t':=s.toks) hf k2 (Nat.le_refl _) ?_,rfl,
      ⟨_,x,y,hn,rfl,rfl,fun zs hzs=>by rw [ha] at hzs; cases hzs; exact hx,fun zs hzs=>by rw [hb] at hzs; cases hzs; exact hy⟩,
      ⟨hz2,hs2.extBut _ _ Z.a (hk _ _ Z.a Z.e Z.f Z.g hI),⟨_,_,hs2.extBut _ _ Z.b a2⟩,a3.extBut hs2.extBut Z.c,a4.extBut hs2.extBut Z.d⟩,fun c hc=>?_⟩
    . exact ⟨(by decide:2<=sizeLine),[u,u2],.cons ru (.cons ru2 .nil),_,tt,rfl,_,rfl⟩
    . have hc1:=(hf c hc).1
      have:c ≠ s.heap.objs.size:=by
        simp only [List.mem_cons,List.not_mem_nil,or_false] at hc
        rcases hc with rfl | rfl | rfl | rfl | rfl
        . exact lt hz
        . exact lt hI
        . exact lt hO
        . obtain ⟨o,e,_⟩:=h1; exact lt e
        . obtain ⟨o,e,_⟩:=h2; exact lt e
      rw [a0w this]
      exact hc1
  done:=by
    intro X hP hw hK hc i pins s σ H E I hf st hg
    subst hP hw hK
    obtain ⟨xs,ys,ha,hb,hor⟩:=hg
    obtain ⟨its,rv,pl,hz1⟩:=I.list (SqL.of ha)
    obtain ⟨its2,rv2,pl2,hz2⟩:=I.list (SqL.of hb)
    obtain ⟨hz,hI,⟨p,q,hO⟩,h1,h2⟩:=st
    have na:∀ c ∈ [z,TI,TO,i1,i2],a ≠ c:=fun c hc=>a0u ha (hf c hc).1
    have nb:∀ c ∈ [z,TI,TO,i1,i2],b ≠ c:=fun c hc=>a0u hb (hf c hc).1
    have D:ZipApart z TI TO i1 i2 a b:=⟨Z.a,Z.b,Z.c,Z.d,Z.e,Z.f,Z.g,Z.h,Z.i,Z.j,na z (by simp),na TO (by simp),na i1 (by simp),na i2 (by simp),nb z (by simp),nb TO (by simp),nb i1 (by simp),nb i2 (by simp)⟩
    have l1:=rv.length
    have l2:=rv2.length
    refine end_zip I.qu D hz hI hO h1 h2 pl.isList pl2.isList ?_ fun g hk=>⟨rfl,I.turnedL (t':=s.toks) hf fun c o hc e=>?_⟩
    . rcases hor with h | h
      . exact .inl (by simp; ac_rfl)
      . exact .inr (by simp; ac_rfl)
    . simp only [List.mem_cons,List.not_mem_nil,or_false,not_or] at hc
      exact hk c o hc.1 hc.2.2.1 hc.2.2.2.1 hc.2.2.2.2 e
  self:=fun _ _ _ _ _ st h=>wpAny_pyIter_zip st.1 h
theorem zapart (n:Nat):ZApart (n + 4) (n + 2) (n + 3) n (n + 1):=
  ⟨fun e=>by have e':(n + 2:Nat)=n + 4:=e; ac_rfl,fun e=>by have e':(n + 3:Nat)=n + 4:=e; ac_rfl,fun e=>by have e':(n:Nat)=n + 4:=e; ac_rfl,fun e=>by have e':(n + 1:Nat)=n + 4:=e; ac_rfl,
   fun e=>by have e':(n + 2:Nat)=n + 3:=e; ac_rfl,fun e=>by have e':(n + 2:Nat)=n:=e; ac_rfl,fun e=>by have e':(n + 2:Nat)=n + 1:=e; ac_rfl,fun e=>by have e':(n + 3:Nat)=n:=e; ac_rfl,
   fun e=>by have e':(n + 3:Nat)=n + 1:=e; ac_rfl,fun e=>by have e':(n:Nat)=n + 1:=e; ac_rfl⟩
section
variable {X:Cx}
def iZip (ta:TA):TI:=fun σ H R=>ta σ H fun vs H1=>∃ a b,vs=[.ref a,.ref b]/\(∃ xs,H1 a=some (.lst xs))/\(∃ ys,H1 b=some (.lst ys))/\R (ItZ a b) H1
theorem pi_zip {elts:List Expr} {x1:Nat} {tp:Pos} {a b:Expr} {ta:TA} {p pos:Pos} (hg:Gl X "zip") (hm:X.mg "zip" = none) (ha:PA X [a,b] ta)
    (hs:starEach [a,b] X.env=[(false,eval a X.env),(false,eval b X.env)]:=by rfl) (hs2:starEach [b] X.env=[(false,eval b X.env)]:=by rfl):
    PI X (.Tuple elts x1 tp) (.Call (.Name "zip" p) [a,b] [] pos) (iZip ta):=by
  intro pins s σ H R I h
  refine Call_ (a6L I hg hm boot_zip (PyProof.Rows.callWith_type1 (thn (ha pos pins s σ H _ I h) fun us s1 ⟨vs,H1,I1,r1,q1⟩=>?_) (by rw [hs,hs2]) (by rw [hs2]; rfl)))
  obtain ⟨l,l2,e,⟨xs,hl⟩,⟨ys,hl2⟩,q⟩:=q1
  subst e
  obtain ⟨u,u2,rfl,ru,ru2⟩:=vals2 r1
  cases ru
  cases ru2
  obtain ⟨its,rv,pl,hz⟩:=I1.list (SqL.of hl)
  obtain ⟨its2,rv2,pl2,hz2⟩:=I1.list (SqL.of hl2)
  refine call_zip_2 pl.isList pl2.isList fun h1 hz hI hO i1 i2 hsz hk=>wpAny_pyIter_zip hz ?_
  have I2:Inv X pins σ H1 { s1 with heap:=h1 }:=I1.kept (t':=s1.toks) hk
  refine ⟨s1.heap.objs.size + 4,[s1.heap.objs.size + 4,s1.heap.objs.size + 2,s1.heap.objs.size + 3,s1.heap.objs.size,s1.heap.objs.size + 1],_,_,H1,rfl,I2,
    turn_zip l l2 _ _ _ _ _ (zapart s1.heap.objs.size),⟨hz,hI,⟨_,_,hO⟩,i1,i2⟩,fun b hb=>?_,q⟩
  have hle:s1.heap.objs.size<=b:=by
    simp only [List.mem_cons,List.not_mem_nil,or_false] at hb
    rcases hb with rfl | rfl | rfl | rfl | rfl
    . exact Nat.le_add_right _ _
    . exact Nat.le_add_right _ _
    . exact Nat.le_add_right _ _
    . exact Nat.le_refl _
    . exact Nat.le_add_right _ _
  exact I1.fpOk hle (I1.hok.fresh hle)
end
end L2
namespace L2
open PySem PySem.Spec PyProof.Rows
section
variable {X:Cx}
end
end L2
namespace L2
open PySem PySem.Spec PyProof.Rows
section
variable {X:Cx}
def rIsi (K:W.Frag):List V->Hp->VK->Prop:=fun xs H Q=>∃ x T t b,xs=[x,.ty T]/\TyOf K H x t/\W.kitOne K t (.type T)=some b/\Q (.bl b) H
theorem call_isi:a3A X (.builtin "isinstance") (rIsi X.K):=by
  intro pins s σ H xs us Q I r h
  obtain ⟨x,T,t,b,rfl,ty,k,q⟩:=h
  obtain ⟨u,u2,rfl,ru,ru2⟩:=vals2 r
  cases ru2
  exact isinst_ok I ru ty k fun tk=>⟨.bl b,H,I.tok tk,rfl,q⟩
theorem a7p:∀ {bs:List Bool} {us:List Value},a1u (bs.map V.bl) us->LSm.BoolsAre us bs
  | [],_,.nil=>.nil
  | _ :: _,_,.cons r t=>by cases r; exact .cons _ (a7p t)
theorem a7o:∀ {ns:List Int} {us:List Value},a1u (ns.map V.int) us->IntsAre us ns
  | [],_,.nil=>.nil
  | _ :: _,_,.cons r t=>by obtain ⟨t',rfl⟩:=r; exact .cons _ _ (a7o t)
def rAll (K:W.Frag):List V->Hp->VK->Prop:=fun xs H Q=>∃ (a:Addr) (bs:List Bool),xs=[.ref a]/\SqL K H a (bs.map V.bl)/\Q (.bl (bs.all id)) H
theorem call_allL (hc:X.calm=true):a3A X (.builtin "all") (rAll X.K):=by
  intro pins s σ H xs us Q I r h
  obtain ⟨a,bs,rfl,hq,q⟩:=h
  obtain ⟨u,rfl,ru⟩:=a7d r
  cases ru
  obtain ⟨its,rv,pl,hz⟩:=I.list hq
  have ba:=a7p rv
  have lt:a < s.heap.objs.size:=by obtain ⟨_,e,_⟩:=pl.isList; exact Heap.lt_size e
  refine call_all_walk (wpAny_pyIter_list pl.isList ⟨s.heap.objs.size,[s.heap.objs.size,a],[s.heap.objs.size],its.toArray.size,_,_,fun i=>(bs[i]?).getD true,rfl,
    Walks.list (A:=X.A.in1) (I.ok.hd hc) _ a (Nat.ne_of_lt lt) its.toArray,⟨⟨_,Heap.get?_push_size _ rfl,rfl,rfl⟩,pl.isList.push _⟩,fun i v s' Q' E' hP hQ=>?_,fun h' tk hk=>?_⟩)
  . obtain ⟨b,e,rfl⟩:=ba.get i v (by simpa using hP)
    have hQ':Q' ((bs[i]?).getD true) s':=hQ
    rw [e] at hQ'
    exact wpAny_truthy_bool hQ'
  . have e:((List.range its.toArray.size).all fun i=>(bs[i]?).getD true)=bs.all id:=by
      have:=LSm.range_all bs
      rw [<- ba.length] at this
      simpa using this
    rw [e]
    exact ⟨.bl _,H,I.kept (LSm.kept_iter hk),rfl,q⟩
def rSum (K:W.Frag):List V->Hp->VK->Prop:=fun xs H Q=>∃ (a:Addr) (ns:List Int),xs=[.ref a]/\SqL K H a (ns.map V.int)/\Q (.int ns.sum) H
theorem call_sumL (hc:X.N=X.N):a3A X (.builtin "sum") (rSum X.K):=by
  intro pins s σ H xs us Q I r h
  obtain ⟨a,ns,rfl,hq,q⟩:=h
  obtain ⟨u,rfl,ru⟩:=a7d r
  cases ru
  obtain ⟨its,rv,pl,hz⟩:=I.list hq
  have ia:=a7o rv
  obtain ⟨ys,hy⟩:=ia.allInts.items
  have e1:=nums_intItems ys
  rw [<- hy,show numsOf its.toArray.toList=ns from ia.numsOf] at e1
  refine sum_q I.qu (hy ▸ pl.isList) fun h' tk t' hk=>⟨.int ns.sum,H,I.kept hk,⟨t',?_⟩,q⟩
  rw [preSum_eq,e1,List.take_of_length_le (by simp)]
end
end L2
namespace L2
open PySem PySem.Spec PyProof.Rows
noncomputable def pick (js:List Nat) (σ:St):St:=js.map fun j=>(σ[j]?).join
noncomputable def cxG (X:Cx) (scope:Scope) (cl:List (Str × Addr)) (fp:List Addr) (N:List Str) (s:Shared) (H:Hp):Cx where
  prog:=X.prog
  w:=X.w
  K:=X.K
  mg:=X.mg
  base:=X.base
  A:=X.A
  N:=N
  s₀:=s
  HZ:=H
  env:=compEnvC scope cl s.heap.objs.size X.env
  outer:=X.stack
  stack:=X.stack
  ex:=fp
  fn:=fun _=>false
  calm:=X.calm
  pn:=[]
  xe:=fun _ _=>False
  hs:=X.hs
def PTs (X:Cx) (ifs:List Expr) (t:TT):Prop:=
  ∀ (pins:List (Addr × Obj)) (s:Shared) (σ:St) (H:Hp) (Q:Bool->Hp->Prop),Inv X pins σ H s->t σ H Q ->
    wpAny (model X.prog X.w) X.A (forIn ifs true fun c r=>if r=true then do let ok <- isTrue c X.env (eval c X.env); pure (ForInStep.yield ok) else pure (ForInStep.yield r)) (TP X pins σ Q) X.xe s
theorem pts_nil {X:Cx}:PTs X [] (fun _ H Q=>Q true H):=fun pins s σ H Q I h=>wpAny_tests_nil ⟨H,I,h⟩
theorem pts_one {X:Cx} {c:Expr} {t:TT} (h:PT X c t):PTs X [c] t:=fun pins s σ H Q I q=>wpAny_tests_one (h pins s σ H Q I q)
def b0K (wi:TI) (k:Nat) (js:List Nat) (g:TG) (tt:TT) (te:TE):TE:=fun σ H Q=>wi σ H fun J H1=>∀ D,H1 D=none -> ∃ W:Nat->Nat->List V->Hp->Prop,(∃ m,W 0 m [] (upd H1 D (.lst []))) /\ ∀ i m acc H2,W i m acc H2->H2 D=some (.lst acc) ->
  (J.stop i H2/\Q (.ref D) H2) \/ (J.go i H2 /\ ∀ y H3,J.yld i H2 y H3 -> ∀ old:St,old.length=k->g y (old ++ pick js σ) H3 fun σ4 H4=>(∃ new:St,new.length=k/\σ4=new ++ pick js σ)/\tt σ4 H4 fun b H5=>
    if b=true then te σ4 H5 fun v H6=>H6 D=some (.lst acc)/\acc.length < sizeLine /\ ∃ m',m' < m/\W (i + 1) m' (acc ++ [v]) (upd H6 D (.lst (acc ++ [v])))
    else H5 D=some (.lst acc) /\ ∃ m',m' < m/\W (i + 1) m' acc H5)
theorem a8G {prog:Program} {w:World} {A:Around} {R:Result->Shared->Prop} {s:Shared} {elt tgt iter:Expr} {ifs:List Expr} {scope:Scope} {pos:Pos} {it acc:Value} {env:Env} (J:Nat->Shared->Prop)
    (turn:∀ n s,J n s->wpAny (model prog w) A (pyNext it) (fun r s1=>match r with
      | none=>R (.ok .next) s1
      | some v=>wpAny (model prog w) A (letOwnedTupleGo tgt it v) (fun _ s2=>wpAny (model prog w) A (assign tgt env v) (fun _ s3=>
          wpAny (model prog w) A (forIn ifs true fun c r=>if r=true then do let ok <- isTrue c env (eval c env); pure (ForInStep.yield ok) else pure (ForInStep.yield r)) (fun b s3'=>
          if b=true then wpAny (model prog w) A (eval elt env) (fun y s4=>wpAny (model prog w) A (call (.builtin "list.append") [acc,y]) (fun _ s5=>∃ m,m < n/\J m s5) (fun _ _=>False) s4) (fun _ _=>False) s3'
          else ∃ m,m < n/\J m s3') (fun _ _=>False) s3) (fun _ _=>False) s2) (fun _ _=>False) s1) (fun _ _=>False) s)
    (n:Nat) (h:J n s):codeAny (model prog w) A (.compLoop (.ListComp elt [⟨tgt,iter,ifs,0⟩] scope pos) 0 it acc env) R s:=by
  refine codeAny_loop rfl J (fun n' s' hJ=>?_) n h
  show wpAny _ _ ((compTurn (.ListComp elt [⟨tgt,iter,ifs,0⟩] scope pos) 0 it acc env).onRaise (fun z=>do noteFrame z env; theTreesLotGoes z)) _ _ s'
  refine wpAny_noted ?_
  rw [compTurn_list]
  have nope:∀ {α:Type} {t:Sem α} {Q:α->Shared->Prop} {E:Value->Shared->Prop} {q:Shared},wpAny (model prog w) A t Q (fun _ _=>False) q->wpAny (model prog w) A t Q E q:=fun h=>wpAny_mono h (fun _ _ z=>z) fun _ _ z=>z.elim
  refine wpAny_bind (wpAny_standAt (wpAny_bind (wpAny_mono (nope (turn n' s' hJ)) (fun r s1 h1=>?_) fun _ _ z=>z)))
  cases r with
  | none=>exact wpAny_pure h1
  | some v=>
    refine wpAny_bind (wpAny_mono (nope h1) (fun _ s2 h2=>?_) fun _ _ z=>z)
    refine wpAny_bind (wpAny_mono (nope h2) (fun _ s3 h3=>?_) fun _ _ z=>z)
    refine wpAny_bind (wpAny_mono (nope h3) (fun b s4 h4=>?_) fun _ _ z=>z)
    cases b with
    | true=>
      have h4':=(show wpAny _ _ _ _ _ s4 by simpa using h4)
      simp only [if_true]
      refine wpAny_bind (wpAny_bind (wpAny_mono (nope h4') (fun y s5 h5=>?_) fun _ _ z=>z))
      refine wpAny_bind (wpAny_mono (nope h5) (fun _ s6 h6=>?_) fun _ _ z=>z)
      exact wpAny_pure (wpAny_pure ⟨rfl,h6⟩)
    | false=>
      have h4':∃ m,m < n'/\J m s4:=by simpa using h4
      simp only [Bool.false_eq_true,if_false]
      exact wpAny_bind (wpAny_pure (wpAny_pure ⟨rfl,h4'⟩))
section
variable {X:Cx}
theorem pick_get {js:List Nat} {σ:St} {i:Nat} {v:V} (h:(pick js σ)[i]?=some (some v)):∃ j,js[i]?=some j/\σ[j]?=some (some v):=by
  unfold pick at h
  rw [List.getElem?_map] at h
  cases e:js[i]? with
  | none=>rw [e] at h; cases h
  | some j=>
    rw [e] at h
    have h':(σ[j]?).join=some v:=Option.some.inj h
    refine ⟨j,rfl,?_⟩
    cases q:σ[j]? with
    | none=>rw [q] at h'; cases h'
    | some o=>rw [q] at h'; exact congrArg some h'
end
end L2
namespace L2
open PySem PySem.Spec PyProof.Rows
section
variable {X:Cx}
theorem a9B {elt iter tgt:Expr} {ifs:List Expr} {scope:Scope} {pos:Pos} {cl:List (Str × Addr)} {tgs ns:List Str} {js:List Nat} {wi:TI} {g:TG} {tt:TT} {te:TE} (hc:X.N=X.N)
    (hi:PI X tgt iter wi) (hg:∀ (fp:List Addr) (s:Shared) (H:Hp),PG (cxG X scope cl fp (tgs ++ ns) s H) tgt g) (ht:∀ (fp:List Addr) (s:Shared) (H:Hp),PTs (cxG X scope cl fp (tgs ++ ns) s H) ifs tt)
    (he:∀ (fp:List Addr) (s:Shared) (H:Hp),PE (cxG X scope cl fp (tgs ++ ns) s H) elt te)
    (hclos:closureFor scope X.env=pure cl) (hsub:∀ x c,cl.lookup x=some c->X.env.cells.lookup x=some c)
    (hhas:∀ x,((relabel scope X.env).names.lookup x=some .cell \/ (relabel scope X.env).names.lookup x=some .free) -> ∃ c,cl.lookup x=some c)
    (hjs:js.map (fun j=>X.N[j]?)=ns.map some) (hin:∀ y ∈ ns,(relabel scope X.env).names.lookup y=some .cell \/ (relabel scope X.env).names.lookup y=some .free)
    (hout:∀ y ∈ ns,X.env.kindOf y=some .cell \/ X.env.kindOf y=some .free)
    (hcell:∀ y ∈ scope.names,y.2 ≠ .cell:=by decide +kernel) (hkind:scope.kind=.function:=by rfl)
    (hnames:∀ y ∈ scope.names,y.2=.local->scope.names.lookup y.1=some .local:=by decide +kernel)
    (hs:∀ z,foldedSetIterable iter X.env z=pure z:=by intro _; rfl):
    ∀ (pos0:Pos) (pins:List (Addr × Obj)) (s:Shared) (σ:St) (H:Hp) (Q:VK) (I:Inv X pins σ H s) (h:b0K wi tgs.length js g tt te σ H Q) (use:Option (Value->Sem Unit)) (R:Value->Shared->Prop)
      (hfin:∀ (D C:Addr) (H':Hp) (s':Shared),Q (.ref D) H'->FpOk X pins H' C->(∃ m,s'.heap.Ns C m)->(∀ h',Heap.SameBut C s'.heap h'->Inv X pins σ H' { s' with heap:=h' })->compPost (model X.prog X.w) X.A X.xe use R (.ref D) C (.ok .next) s'),
      wpAny (model X.prog X.w) X.A (comprehension (.ListComp elt [⟨tgt,iter,ifs,0⟩] scope pos) scope X.env pos0 (newList []) false (eval iter X.env) use) R X.xe s:=by
  intro pos0 pins s σ H Q I h use R hfin
  refine wpAny_comprehension_free (use:=use) rfl hs hclos hkind hnames (thn (hi pins s σ H _ I h) fun v s1 h1=>thn h1 fun itv s2 h2=>?_)
  obtain ⟨it,fp,tn,J,H2,rfl,I2,T,st2,f2,body⟩:=h2
  have hD:H2 s2.heap.objs.size=none:=I2.hok.fresh (Nat.le_refl _)
  obtain ⟨W,⟨m0,w0⟩,step⟩:=body _ hD
  refine wpAny_newObj_type (wpAny_newFunctionEnv hcell (by intro y hy; simp at hy) (fun g1 hns hsb=>?_) hkind) (by size_fits)
  dsimp only at hns hsb ⊢
  have I3:Inv X pins σ (upd H2 s2.heap.objs.size (.lst [])) { s2 with heap:=s2.heap.push { cls:=.type "list",dict:=none,data:=.seq ([]:List Value).toArray } }:=I2.lnew (t':=s2.toks) .nil (by simp)
  generalize hD':s2.heap.objs.size=D at *
  generalize hH3:upd H2 D (.lst [])=H3 at *
  generalize hS3:s2.heap.push { cls:=.type "list",dict:=none,data:=.seq ([]:List Value).toArray }=g3 at *
  have zs:g3.objs.size=D + 1:=by rw [<- hS3,Heap.size_push,hD']
  have f3:∀ b ∈ fp,FpOk X pins H3 b:=fun b hb=>by
    obtain ⟨o,ho,_⟩:=T.obj _ _ st2 b hb
    have lt:=Heap.lt_size ho
    refine ⟨?_,(f2 b hb).2⟩
    rw [<- hH3,a0w (Nat.ne_of_lt (hD' ▸ lt))]
    exact (f2 b hb).1
  have ltf:∀ b ∈ fp,b < g3.objs.size:=fun b hb=>by
    obtain ⟨o,ho,_⟩:=T.obj _ _ st2 b hb
    rw [zs]
    exact Nat.lt_succ_of_lt (hD' ▸ Heap.lt_size ho)
  have kept:∀ b o,g3.get? b=some o->g1.get? b=some o:=fun b o e=>hsb.extBut b o (Nat.ne_of_lt (Heap.lt_size e)) (Heap.get?_push_of_some _ e)
  have cne:∀ x c,cl.lookup x=some c->c ≠ g3.objs.size:=fun x c e=>by
    obtain ⟨v,q⟩:=I3.cell x c (hsub x c e)
    exact Nat.ne_of_lt q.lt
  have ok:(cxG X scope cl fp (tgs ++ ns) { s2 with heap:=g3 } H3).Ok:=by
    refine ⟨I.ok.mod,hkind,I.ok.glob,I.ok.blt,Nat.le_refl _,fun y z c e1 e2=>I.ok.inj y z c (hsub y c e1) (hsub z c e2),fun y hy=>hhas y hy,fun y c e=>(nomatch e),I.ok.hd,I.ok.frames,.inl rfl,
      fun b hb=>⟨Nat.ne_of_lt (ltf b hb),fun y c e=>(f3 b hb).2.2.2.2.1 y c (hsub y c e)⟩,I3.bs,Nat.le_trans I.ok.bsz I3.sz,fun b o e hb=>?_,fun b hb=>?_,I3.stack,I3.stkFree,I.ok.hq⟩
    . rcases (f3 b hb).2.2.2.1 with q | q
      . exact I.ok.noex b o e q
      . exact absurd (Nat.lt_of_lt_of_le (Heap.lt_size (I.ok.bs b o e).1) q) (Nat.lt_irrefl _)
    . intro z
      rcases List.mem_cons.mp (I3.stkSub b z) with q | q
      . exact (f3 b hb).2.1 q
      . exact (f3 b hb).2.2.1 q
  have cells1:∀ x c,cl.lookup x=some c -> ∃ v,g1.IsCell c v:=fun x c e=>by
    obtain ⟨v,o,ho,hd⟩:=I3.cell x c (hsub x c e)
    exact ⟨v,o,kept _ _ ho,hd⟩
  have J4:Inv (cxG X scope cl fp (tgs ++ ns) { s2 with heap:=g3 } H3) [] (List.replicate tgs.length none ++ pick js σ) H3 { s2 with heap:=g1,toks:=s2.toks + ([]:List (Str × Value)).length }:=by
    refine ⟨ok,rfl,I3.bare,Un.kept kept,⟨_,hns,fun i y v e1 e2 e3=>?_⟩,fun y c e=>cells1 y c e,I3.hok.fresh (Nat.le_refl _),fun y c e=>I3.freeC y c (hsub y c e),fun p hp=>absurd (show p ∈ ([]:List (Addr × Obj)) from hp) (by simp),I3.hok.kept kept,?_,I3.mild⟩
    . have hi2:tgs.length<=i:=by
        by_cases hlt:i < tgs.length
        . rw [List.getElem?_append_left (by simpa using hlt),List.getElem?_replicate,if_pos hlt] at e2
          cases e2
        . ac_rfl
      rw [List.getElem?_append_right (by simpa using hi2),List.length_replicate] at e2
      have e1':(tgs ++ ns)[i]?=some y:=e1
      rw [List.getElem?_append_right hi2] at e1'
      obtain ⟨j,hj,hσ⟩:=pick_get e2
      have hNj:X.N[j]?=some y:=by
        have:=congrArg (fun l=>l[i - tgs.length]?) hjs
        simp only [List.getElem?_map,hj,e1',Option.map_some] at this
        exact Option.some.inj this
      have ym:y ∈ ns:=List.mem_of_getElem? e1'
      obtain ⟨m,hm,hl⟩:=I3.loc
      have vis:Vis X.env.scope y:=by
        rcases hout y ym with q | q
        . exact .inr (.inl q)
        . exact .inr (.inr q)
      obtain ⟨u,ru,lk⟩:=hl j y v hNj hσ vis
      refine ⟨u,ru,?_⟩
      rcases lk with ⟨q,_⟩ | ⟨_,c,hc1,hc2⟩
      . rcases hout y ym with z | z
        . rw [z] at q; cases q
        . rw [z] at q; cases q
      . obtain ⟨c',hc'⟩:=hhas y (hin y ym)
        have:=hsub y c' hc'
        rw [hc1] at this
        cases this
        obtain ⟨o,ho,hd⟩:=hc2
        exact .inr ⟨hin y ym,c,hc',o,kept _ _ ho,hd⟩
    . show _=(tgs ++ ns).length
      have:=congrArg List.length hjs
      simp only [List.length_map] at this
      simp [pick,this]
  have st4:tn 0 g1:=T.keep 0 _ _ st2 fun b hb o e=>kept b o (by rw [<- hS3]; exact Heap.get?_push_of_some _ e)
  have fin:∀ (H':Hp) (σ':St) (s':Shared),Inv (cxG X scope cl fp (tgs ++ ns) { s2 with heap:=g3 } H3) [] σ' H' s'->Q (.ref D) H'->compPost (model X.prog X.w) X.A X.xe use R (.ref D) g3.objs.size (.ok .next) s':=by
    intro H' σ' s' K q
    obtain ⟨m,hm,_⟩:=K.loc
    refine hfin D g3.objs.size H' s' q (I3.fpOk (Nat.le_refl _) K.free) ⟨m,hm⟩ fun h' hsb'=>?_
    have ne:∀ b o,g3.get? b=some o->b ≠ g3.objs.size:=fun b o e=>Nat.ne_of_lt (Heap.lt_size e)
    have B:Un (frs X.stack) fp H3 H' g3 s'.heap:=K.base
    refine I3.call' (s':={ s' with heap:=h' }) (ch:=fp) K.os ⟨fun b o e n hb hx=>(hsb'.2 b (ne b o e)).trans (B.keep b o e n hb hx),fun b o e n hb hx=>?_,B.free,fun b o e hx=>?_,B.tups,B.frzs,B.tbls⟩ (fun b u e=>?_) K.bare (fun b hb=>?_)
    . obtain ⟨sl,e1⟩:=B.slot b o e n hb hx
      exact ⟨sl,(hsb'.2 b (ne b o e)).trans e1⟩
    . obtain ⟨o',e1⟩:=B.there b o e hx
      exact ⟨o',(hsb'.2 b (ne b o e)).trans e1⟩
    . have nC:∀ c v,H' c=some v->c ≠ g3.objs.size:=fun c v e z=>by
        have:H' g3.objs.size=none:=K.free
        rw [z,this] at e
        cases e
      refine (K.hok b u e).stay (fun c v hc q=>(hsb'.2 c ?_).trans q) (fun _ q=>q) (fun _ _ q=>q) fun _ _ q=>q
      rcases hc with z | z
      . rw [z]; exact nC b u e
      . exact nC c _ z
    . obtain ⟨_,q1,_,q3,q4,q5⟩:=f3 b hb
      exact ⟨q3,q1,q4,q5⟩
  have loop:codeAny (model X.prog X.w) X.A (.compLoop (.ListComp elt [⟨tgt,iter,ifs,0⟩] scope pos) 0 (.ref it) (.ref D) (compEnvC scope cl g3.objs.size X.env))
      (compPost (model X.prog X.w) X.A X.xe use R (.ref D) g3.objs.size) { s2 with heap:=g1,toks:=s2.toks + ([]:List (Str × Value)).length }:=by
    refine a8G (fun n s'=>∃ i acc old H',Inv (cxG X scope cl fp (tgs ++ ns) { s2 with heap:=g3 } H3) [] (old ++ pick js σ) H' s'/\old.length=tgs.length/\tn i s'.heap/\(∀ b ∈ fp,H' b=none)/\H' D=some (.lst acc)/\W i n acc H') ?_ m0
      ⟨0,[],List.replicate tgs.length none,H3,J4,by simp,st4,fun b hb=>(f3 b hb).1,by rw [<- hH3]; exact a0E,w0⟩
    rintro n s' ⟨i,acc,old,H',K,lo,st,fr,hDl,w⟩
    have fpk:∀ {H'':Hp},(∀ b ∈ fp,H'' b=none) -> ∀ b ∈ fp,FpOk (cxG X scope cl fp (tgs ++ ns) { s2 with heap:=g3 } H3) [] H'' b:=fun hn b hb=>
      ⟨hn b hb,Nat.ne_of_lt (ltf b hb),fun z=>ok.exfs b hb z,.inl hb,fun y c e=>(f3 b hb).2.2.2.2.1 y c (hsub y c e),fun p hp=>absurd (show p ∈ ([]:List (Addr × Obj)) from hp) (by simp)⟩
    rcases step i n acc H' w hDl with ⟨stop,q⟩ | ⟨go,next⟩
    . refine thn (T.done (cxG X scope cl fp (tgs ++ ns) { s2 with heap:=g3 } H3) rfl rfl rfl rfl i [] s' _ H' _ K (fpk fr) st stop) fun r s1 ⟨hr,K1⟩=>?_
      subst hr
      exact fin H' _ s1 K1 q
    . refine thn (T.item (cxG X scope cl fp (tgs ++ ns) { s2 with heap:=g3 } H3) rfl rfl rfl rfl i [] s' _ H' _ K (fpk fr) st go) fun r s1 ⟨u,hr,h4⟩=>?_
      subst hr
      refine thn h4 fun _ s5 ⟨y,H5,K5,r5,y5,st5,fr5⟩=>?_
      have K5':=K5.pinned (fpk fr5) (T.obj _ _ st5)
      refine thn (hg fp { s2 with heap:=g3 } H3 _ s5 _ H5 y u _ K5' r5 (next y H5 y5 old lo)) fun _ s6 ⟨σ6,H6,K6,⟨new,hnew,e6⟩,q6⟩=>?_
      subst e6
      refine thn (ht fp { s2 with heap:=g3 } H3 _ s6 _ H6 _ K6 q6) fun b s6' ⟨H6',K6',q6'⟩=>?_
      have again:∀ {s8:Shared} {H8:Hp} {acc':List V} {m':Nat},Inv (cxG X scope cl fp (tgs ++ ns) { s2 with heap:=g3 } H3) ([] ++ a9a fp s5.heap) (new ++ pick js σ) H8 s8->H8 D=some (.lst acc')->m' < n->W (i + 1) m' acc' H8 ->
          ∃ m,m < n /\ ∃ i acc old H',Inv (cxG X scope cl fp (tgs ++ ns) { s2 with heap:=g3 } H3) [] (old ++ pick js σ) H' s8/\old.length=tgs.length/\tn i s8.heap/\(∀ b ∈ fp,H' b=none)/\H' D=some (.lst acc)/\W i m acc H':=by
        intro s8 H8 acc' m' K8 h8 hm' w8
        refine ⟨m',hm',i + 1,acc',new,H8,K8.unpinned,hnew,T.keep _ _ _ st5 fun b hb o e=>(K8.pin (b,o) (List.mem_append_right _ (List.mem_append_right _ (a4l hb e)))).1,fun b hb=>?_,h8,w8⟩
        obtain ⟨o,e,d⟩:=T.obj _ _ st5 b hb
        exact (K8.pin (b,o) (List.mem_append_right _ (List.mem_append_right _ (a4l hb e)))).2.1
      cases b with
      | true=>
        refine a8M ?_
        rw [if_pos rfl] at q6'
        refine thn (he fp { s2 with heap:=g3 } H3 _ s6' _ H6' _ K6' q6') fun vv s7 ⟨v,H7,K7,r7,hD7,hlen,m',hm',w7⟩=>?_
        refine thn (a9f (X:=cxG X scope cl fp (tgs ++ ns) { s2 with heap:=g3 } H3) _ s7 _ H7 (.ref D) [v] (.ref D) [vv] (fun _ H8=>H8=upd H7 D (.lst (acc ++ [v]))) K7 rfl (.cons r7 .nil) ⟨D,acc,v,rfl,rfl,hD7,hlen,rfl⟩) fun _ s8 ⟨_,H8,K8,_,e8⟩=>?_
        subst e8
        exact again K8 a0E hm' w7
      | false=>
        refine a7h ?_
        have q6f:H6' D=some (.lst acc) /\ ∃ m',m' < n/\W (i + 1) m' acc H6':=by simpa using q6'
        obtain ⟨hD7,m',hm',w7⟩:=q6f
        exact again K6' hD7 hm' w7
  exact codeAny_compStart_list loop (T.self _ 0 _ _ _ st4 loop)
theorem pe_compG {elt iter tgt:Expr} {ifs:List Expr} {scope:Scope} {pos:Pos} {cl:List (Str × Addr)} {tgs ns:List Str} {js:List Nat} {wi:TI} {g:TG} {tt:TT} {te:TE} (hc:X.N=X.N)
    (hi:PI X tgt iter wi) (hg:∀ (fp:List Addr) (s:Shared) (H:Hp),PG (cxG X scope cl fp (tgs ++ ns) s H) tgt g) (ht:∀ (fp:List Addr) (s:Shared) (H:Hp),PTs (cxG X scope cl fp (tgs ++ ns) s H) ifs tt)
    (he:∀ (fp:List Addr) (s:Shared) (H:Hp),PE (cxG X scope cl fp (tgs ++ ns) s H) elt te)
    (hclos:closureFor scope X.env=pure cl) (hsub:∀ x c,cl.lookup x=some c->X.env.cells.lookup x=some c)
    (hhas:∀ x,((relabel scope X.env).names.lookup x=some .cell \/ (relabel scope X.env).names.lookup x=some .free) -> ∃ c,cl.lookup x=some c)
    (hjs:js.map (fun j=>X.N[j]?)=ns.map some) (hin:∀ y ∈ ns,(relabel scope X.env).names.lookup y=some .cell \/ (relabel scope X.env).names.lookup y=some .free)
    (hout:∀ y ∈ ns,X.env.kindOf y=some .cell \/ X.env.kindOf y=some .free)
    (hcell:∀ y ∈ scope.names,y.2 ≠ .cell:=by decide +kernel) (hkind:scope.kind=.function:=by rfl)
    (hnames:∀ y ∈ scope.names,y.2=.local->scope.names.lookup y.1=some .local:=by decide +kernel)
    (hs:∀ z,foldedSetIterable iter X.env z=pure z:=by intro _; rfl):
    PE X (.ListComp elt [⟨tgt,iter,ifs,0⟩] scope pos) (b0K wi tgs.length js g tt te):=by
  intro pins s σ H Q I h
  rw [eval_ListComp]
  refine a9B hc hi hg ht he hclos hsub hhas hjs hin hout hcell hkind hnames hs _ pins s σ H Q I h none _ ?_
  intro D C H' s' q fp hm inv
  obtain ⟨m,hm⟩:=hm
  exact ⟨m,hm,fun h' hs'=>⟨.ref D,H',inv h' hs',rfl,q⟩⟩
theorem ps_compG {y:Str} {py spos:Pos} {iy:Nat} {elt iter tgt:Expr} {ifs:List Expr} {scope:Scope} {pos:Pos} {cl:List (Str × Addr)} {tgs ns:List Str} {js:List Nat} {wi:TI} {g:TG} {tt:TT} {te:TE} (hN:X.N.Nodup) (hi2:X.N[iy]?=some y) (hx2:Loc X.env.scope y) (hc:X.N=X.N)
    (hi:PI X tgt iter wi) (hg:∀ (fp:List Addr) (s:Shared) (H:Hp),PG (cxG X scope cl fp (tgs ++ ns) s H) tgt g) (ht:∀ (fp:List Addr) (s:Shared) (H:Hp),PTs (cxG X scope cl fp (tgs ++ ns) s H) ifs tt)
    (he:∀ (fp:List Addr) (s:Shared) (H:Hp),PE (cxG X scope cl fp (tgs ++ ns) s H) elt te)
    (hclos:closureFor scope X.env=pure cl) (hsub:∀ x c,cl.lookup x=some c->X.env.cells.lookup x=some c)
    (hhas:∀ x,((relabel scope X.env).names.lookup x=some .cell \/ (relabel scope X.env).names.lookup x=some .free) -> ∃ c,cl.lookup x=some c)
    (hjs:js.map (fun j=>X.N[j]?)=ns.map some) (hin:∀ y ∈ ns,(relabel scope X.env).names.lookup y=some .cell \/ (relabel scope X.env).names.lookup y=some .free)
    (hout:∀ y ∈ ns,X.env.kindOf y=some .cell \/ X.env.kindOf y=some .free)
    (hcell:∀ y ∈ scope.names,y.2 ≠ .cell:=by decide +kernel) (hkind:scope.kind=.function:=by rfl)
    (hnames:∀ y ∈ scope.names,y.2=.local->scope.names.lookup y.1=some .local:=by decide +kernel)
    (hs:∀ z,foldedSetIterable iter X.env z=pure z:=by intro _; rfl)
    (hsw:swapsWith (.ListComp elt [⟨tgt,iter,ifs,0⟩] scope pos) (some (.Name y py)) spos.line X.env=pure true:=by rfl) (hf:X.fn y=true \/ X.env.scope.names.lookup y=some .local:=by first | exact .inl rfl | exact .inr rfl | assumption):
    PS X (.Assign [.Name y py] (.ListComp elt [⟨tgt,iter,ifs,0⟩] scope pos) spos) (tAsg (b0K wi tgs.length js g tt te) (gName iy)):=by
  intro pins s σ H D I h
  rw [exec_Assign_Name_used _ _ _ _ hsw]
  refine wpAny_bind (wpAny_standAt (wpAny_bind ?_))
  show wpAny _ X.A (do let _ <- comprehension (.ListComp elt [⟨tgt,iter,ifs,0⟩] scope pos) scope X.env _ (newList []) false (eval iter X.env) (some (assign (.Name y py) X.env))) _ _ s
  refine wpAny_bind (wpAny_mono (a9B hc hi hg ht he hclos hsub hhas hjs hin hout hcell hkind hnames hs _ pins s σ H _ I h (some (assign (.Name y py) X.env)) (fun _ s'=>SP X pins D .next s') ?_) (fun _ s' hq=>wpAny_pure (wpAny_pure hq)) fun _ _ e=>e)
  intro E C H' s' q fp ⟨m,hm⟩ inv
  have I1:Inv X pins σ H' s':=inv s'.heap ⟨rfl,fun _ _=>rfl⟩
  show wpAny _ X.A (assign (.Name y py) X.env (.ref E)) _ _ _
  refine wpAny_assign_Name (a8R I1 hN hi2 hx2 (v:=.ref E) rfl (fun s2 I2 hsb=>?_) hf)
  obtain ⟨a,hsb,ha⟩:=hsb
  have aC:a ≠ C:=by
    rcases ha with ha | ha
    . rw [ha]; exact Ne.symm fp.2.1
    . exact fp.2.2.2.2.1 _ _ ha
  refine ⟨m,hm.sameBut hsb (Ne.symm aC),fun h' hs'=>⟨_,H',?_,q⟩⟩
  refine I2.call' (s':={ s2 with heap:=h' }) (ch:=[C]) rfl ⟨fun b o e n hb hx=>?_,fun b o e n hb hx=>?_,fun b o e n hx=>n,fun b o e hx=>?_,fun _ _ e=>e,fun _ _ _ e=>e,fun b ps e=>⟨#[],by simpa using e⟩⟩ ?_ I2.bare ?_
  . exact hs'.extBut b o (by simpa using hx) e
  . exact ⟨o.slots,hs'.extBut b o (by simpa using hx) e⟩
  . exact ⟨o,hs'.extBut b o (by simpa using hx) e⟩
  . have nC:∀ c v,H' c=some v->c ≠ C:=fun c v e z=>by
      rw [z,fp.1] at e
      cases e
    intro b u e
    refine (I2.hok b u e).stay (fun c v hc q=>(hs'.2 c ?_).trans q) (fun _ q=>q) (fun _ _ q=>q) fun _ _ q=>q
    rcases hc with z | z
    . rw [z]; exact nC b u e
    . exact nC c _ z
  . intro b hb
    obtain rfl:b=C:=by simpa using hb
    exact ⟨fp.2.2.2.1,fp.2.1,fp.2.2.2.2.1,fp.2.2.2.2.2⟩
end
end L2
namespace L2
open PySem PySem.Spec PyProof.Rows
section
variable {κ:Type} [DecidableEq κ]
noncomputable def a7q (kvs:List (κ × V)) (k:κ):Option V:=(kvs.find? fun kv=>decide (kv.1=k)).map (·.2)
noncomputable def b0S (kvs:List (κ × V)) (k:κ) (v:V):List (κ × V):=
  if (kvs.any fun kv=>decide (kv.1=k))=true then kvs.map (fun kv=>if kv.1=k then (kv.1,v) else kv) else kvs ++ [(k,v)]
theorem a4Y {p:κ × V} {r:List (κ × V)} {k:κ} (e:p.1=k):a7q (p :: r) k=some p.2:=by simp [a7q,List.find?_cons,e]
theorem a4Z {p:κ × V} {r:List (κ × V)} {k:κ} (e:¬ p.1=k):a7q (p :: r) k=a7q r k:=by simp [a7q,List.find?_cons,e]
theorem b0J (k:κ):∀ kvs:List (κ × V),(kvs.any fun kv=>decide (kv.1=k))=(a7q kvs k).isSome
  | []=>rfl
  | p :: r=>by
    rw [List.any_cons]
    by_cases e:p.1=k
    . simp only [a4Y e,decide_eq_true e,Bool.true_or,Option.isSome_some]
    . rw [a4Z e,decide_eq_false e,Bool.false_or]; exact b0J k r
theorem a6J (kvs:List (κ × V)) (k:κ) (v:V):(b0S kvs k v).length<=kvs.length + 1:=by
  unfold b0S
  split
  . rw [List.length_map]; ac_rfl
  . rw [List.length_append,List.length_cons,List.length_nil]; ac_rfl
theorem a9M.isSome_eq {o:Option V} {u:Option Value} (r:a9M o u):o.isSome=u.isSome:=by
  cases o with
  | none=>cases u with
    | none=>rfl
    | some _=>exact (show False from r).elim
  | some _=>cases u with
    | none=>exact (show False from r).elim
    | some _=>rfl
theorem KV.val {kvs:List (κ × V)} {vs:List (κ × Value)} (r:KV kvs vs) (k:κ):a9M (a7q kvs k) (valueAt vs k):=by
  unfold KV at r
  induction r with
  | nil=>exact True.intro
  | @cons p q ps qs h t ih=>
    obtain ⟨h1,h2⟩:=h
    by_cases e:p.1=k
    . have e':q.1=k:=h1.symm.trans e
      have b:valueAt (q :: qs) k=some q.2:=by simp [valueAt,List.find?_cons,e']
      rw [a4Y e,b]; exact h2
    . have e':¬ q.1=k:=fun z=>e (h1.trans z)
      have b:valueAt (q :: qs) k=valueAt qs k:=by simp [valueAt,List.find?_cons,e']
      rw [a4Z e,b]; exact ih
theorem KV.any {kvs:List (κ × V)} {vs:List (κ × Value)} (r:KV kvs vs) (k:κ):(kvs.any fun kv=>decide (kv.1=k))=vs.any fun kv=>decide (kv.1=k):=by
  unfold KV at r
  induction r with
  | nil=>rfl
  | cons h t ih=>rw [List.any_cons,List.any_cons,ih,h.1]
theorem KV.repl {kvs:List (κ × V)} {vs:List (κ × Value)} (r:KV kvs vs) (k:κ) {y:V} {u:Value} (ry:a1W y u):
    KV (kvs.map fun kv=>if kv.1=k then (kv.1,y) else kv) (vs.map fun kv=>if kv.1=k then (kv.1,u) else kv):=by
  unfold KV at r ⊢
  induction r with
  | nil=>exact .nil
  | @cons p q ps qs h t ih=>
    rw [List.map_cons,List.map_cons]
    refine .cons ?_ ih
    obtain ⟨h1,h2⟩:=h
    by_cases e:p.1=k
    . rw [if_pos e,if_pos (h1.symm.trans e)]; exact ⟨h1,ry⟩
    . rw [if_neg e,if_neg (fun z=>e (h1.trans z))]; exact ⟨h1,h2⟩
theorem KV.put {kvs:List (κ × V)} {vs:List (κ × Value)} (r:KV kvs vs) (k:κ) {y:V} {u:Value} (ry:a1W y u):KV (b0S kvs k y) (stored vs k u):=by
  unfold b0S stored
  rw [r.any k]
  by_cases e:(vs.any fun kv=>decide (kv.1=k))=true
  . rw [if_pos e,if_pos e]; exact r.repl k ry
  . rw [if_neg e,if_neg e]; exact Paired.snoc r ⟨rfl,ry⟩
theorem KV.length {kvs:List (κ × V)} {vs:List (κ × Value)} (r:KV kvs vs):kvs.length=vs.length:=Paired.length r
end
theorem kV_is {P:Program} {w:World} {k:Key} {u:Value} (r:a1W (kV k) u):(a2i P w).is k u=true:=by
  cases k with
  | inl i=>obtain ⟨t,e⟩:=(show ∃ t,u=Value.int i t from r); subst e; exact b0n P w i t
  | inr x=>obtain ⟨t,e⟩:=(show ∃ t,u=Value.str x t from r); subst e; exact b0m P w x t
theorem a9o {P:Program} {w:World}:∀ {ks:List Key} {us:List Value},a1u (ks.map kV) us->ItemsAre (a2i P w) ks us
  | [],_,r=>by rw [List.map_nil] at r; cases r; exact .nil
  | k :: ks,_,r=>by
    rw [List.map_cons] at r
    cases r with
    | cons h t=>exact .cons (kV_is h) (a9o t)
abbrev KT (H:Hp):List (List Key × V)->List (List Key × Addr × Value)->Prop:=Paired fun p q=>p.1=q.1/\H q.2.1=some (.tup (p.1.map kV))/\a1W p.2 q.2.2
theorem KT.val {H:Hp} {kvs:List (List Key × V)} {xs:List (List Key × Addr × Value)} (r:KT H kvs xs) (k:List Key):a9M (a7q kvs k) ((atKey xs k).map (·.2)):=by
  induction r with
  | nil=>exact True.intro
  | @cons p q ps qs h t ih=>
    obtain ⟨h1,_,h2⟩:=h
    by_cases e:p.1=k
    . have e':q.1=k:=h1.symm.trans e
      have b:atKey (q :: qs) k=some q.2:=by simp [atKey,List.find?_cons,e']
      rw [a4Y e,b]; exact h2
    . have e':¬ q.1=k:=fun z=>e (h1.trans z)
      have b:atKey (q :: qs) k=atKey qs k:=by simp [atKey,List.find?_cons,e']
      rw [a4Z e,b]; exact ih
theorem KT.repl {H:Hp} {kvs:List (List Key × V)} {xs:List (List Key × Addr × Value)} (r:KT H kvs xs) (k:List Key) {y:V} {u:Value} (ry:a1W y u):
    KT H (kvs.map fun kv=>if kv.1=k then (kv.1,y) else kv) (xs.map (putAt k u)):=by
  induction r with
  | nil=>exact .nil
  | @cons p q ps qs h t ih=>
    rw [List.map_cons,List.map_cons]
    refine .cons ?_ ih
    obtain ⟨h1,h2,h3⟩:=h
    unfold putAt
    by_cases e:p.1=k
    . rw [if_pos e,if_pos (h1.symm.trans e)]; exact ⟨h1,h2,ry⟩
    . rw [if_neg e,if_neg (fun z=>e (h1.trans z))]; exact ⟨h1,h2,h3⟩
theorem KT.put {H:Hp} {kvs:List (List Key × V)} {xs:List (List Key × Addr × Value)} (r:KT H kvs xs) (k:List Key) {b:Addr} {y:V} {u:Value} (hb:H b=some (.tup (k.map kV))) (ry:a1W y u):
    KT H (b0S kvs k y) (storedH xs k b u):=by
  have e:(kvs.any fun kv=>decide (kv.1=k))=(atKey xs k).isSome:=by
    rw [b0J,(r.val k).isSome_eq,Option.isSome_map]
  unfold b0S storedH
  rw [e]
  by_cases q:(atKey xs k).isSome=true
  . rw [if_pos q,if_pos q]; exact r.repl k ry
  . rw [if_neg q,if_neg q]; exact Paired.snoc r ⟨rfl,hb,ry⟩
theorem KT.keeps {H H':Hp} {kvs:List (List Key × V)} {xs:List (List Key × Addr × Value)} (r:KT H kvs xs) (ht:∀ b ys,H b=some (.tup ys)->H' b=some (.tup ys)):KT H' kvs xs:=
  Paired.mapP r fun _ _ z=>⟨z.1,ht _ _ z.2.1,z.2.2⟩
section
variable {P:Program} {w:World} {H:Hp} {h:Heap} {a:Addr}
theorem rd_of {u:HO} (ok:HOk P w H h) (e:Rd H a u):a1K P w H h a u:=e.ok ok
theorem dk_rd {kvs:List (Key × V)} (ok:HOk P w H h) (e:Rd H a (.dK kvs)):kvs.length<=sizeLine/\(a == sysModules)=false /\ ∃ vs,KV kvs vs/\h.DictOf (a2i P w) a vs:=
  show a1K P w H h a (.dK kvs) from rd_of ok e
theorem dk_of {kvs:List (Key × V)} (ok:HOk P w H h) (e:H a=some (.dK kvs)):kvs.length<=sizeLine/\(a == sysModules)=false /\ ∃ vs,KV kvs vs/\h.DictOf (a2i P w) a vs:=dk_rd ok (.inl e)
theorem key_of {ks:List Key} (ok:HOk P w H h) (e:H a=some (.tup (ks.map kV))):(tupleKind (a2i P w)).is h ks a:=by
  obtain ⟨_,its,r,o,h1,h2,n,h3⟩:=(show a1K P w H h a (.tup (ks.map kV)) from ok a _ e)
  exact ⟨o,its.toArray,n,h1,h2,h3,by simpa using a9o r⟩
theorem dt_rd {ep:Nat} {kvs:List (List Key × V)} (ok:HOk P w H h) (e:Rd H a (.dT ep kvs)):kvs.length<=sizeLine/\(a == sysModules)=false /\
    ∃ xs,KT H kvs xs/\h.DictOfH (tupleKind (a2i P w)) a xs:=by
  obtain ⟨z,y,xs,r,o,es,h1,h2,h3,h4,h5⟩:=(show a1K P w H h a (.dT ep kvs) from rd_of ok e)
  refine ⟨z,y,xs,r,o,es,ep,h1,h2,h3,h4,fun x hx=>?_,h5⟩
  have all:∀ {l:List (List Key × V)} {m:List (List Key × Addr × Value)},KT H l m -> ∀ x ∈ m,(tupleKind (a2i P w)).is h x.1 x.2.1:=by
    intro l m q
    induction q with
    | nil=>intro x hx; exact nomatch hx
    | @cons p q ps qs hq t ih=>
      intro x hx
      rcases List.mem_cons.mp hx with e | hx
      . subst e
        exact key_of ok (by rw [<- hq.1]; exact hq.2.1)
      . exact ih x hx
  exact all r x hx
theorem dt_of {ep:Nat} {kvs:List (List Key × V)} (ok:HOk P w H h) (e:H a=some (.dT ep kvs)):kvs.length<=sizeLine/\(a == sysModules)=false /\
    ∃ xs,KT H kvs xs/\h.DictOfH (tupleKind (a2i P w)) a xs:=dt_rd ok (.inl e)
end
def DGet (H:Hp) (a:Addr) (y:V) (r:Option V):Prop:=
  (∃ kvs k,Rd H a (.dK kvs)/\y=kV k/\r=a7q kvs k) \/ ∃ ep kvs k b,Rd H a (.dT ep kvs)/\y=.ref b/\H b=some (.tup (k.map kV))/\r=a7q kvs k
def DPut (H:Hp) (a:Addr) (y v:V) (R:Hp->Prop):Prop:=
  (∃ kvs k,H a=some (.dK kvs)/\y=kV k/\kvs.length < sizeLine/\R (upd H a (.dK (b0S kvs k v)))) \/
  ∃ ep kvs k b,H a=some (.dT ep kvs)/\y=.ref b/\H b=some (.tup (k.map kV))/\kvs.length < sizeLine /\ ∀ ep',R (upd H a (.dT ep' (b0S kvs k v)))
theorem DGet.k {H:Hp} {a:Addr} {kvs:List (Key × V)} {k:Key} (e:H a=some (.dK kvs)):DGet H a (kV k) (a7q kvs k):=.inl ⟨kvs,k,.inl e,rfl,rfl⟩
theorem DGet.t {H:Hp} {a b:Addr} {ep:Nat} {kvs:List (List Key × V)} {k:List Key} (e:H a=some (.dT ep kvs)) (eb:H b=some (.tup (k.map kV))):DGet H a (.ref b) (a7q kvs k):=.inr ⟨ep,kvs,k,b,.inl e,rfl,eb,rfl⟩
theorem DPut.t {H:Hp} {a b:Addr} {ep:Nat} {kvs:List (List Key × V)} {k:List Key} {v:V} {R:Hp->Prop} (e:H a=some (.dT ep kvs)) (eb:H b=some (.tup (k.map kV))) (hl:kvs.length < sizeLine) (r:∀ ep',R (upd H a (.dT ep' (b0S kvs k v)))):DPut H a (.ref b) v R:=.inr ⟨ep,kvs,k,b,e,rfl,eb,hl,r⟩
section
variable {X:Cx} {pins:List (Addr × Obj)} {σ:St} {H:Hp} {s:Shared} {a:Addr} {y v:V} {u r:Value} {o:Option V} {A:Around} {E:Value->Shared->Prop}
theorem Inv.big (I:Inv X pins σ H s):sysModules < s.heap.objs.size:=by
  have h:mainGlobals < s.heap.objs.size:=(I.mod.glob.keeps I.bk).lt
  exact Nat.lt_trans (by decide) h
theorem d_getItem {Q:Value->Shared->Prop} (hu:A.units + 1 < cLine) (I:Inv X pins σ H s) (g:DGet H a y (some v)) (ry:a1W y u) (h:∀ w' s',Inv X pins σ H s'->a1W v w'->Q w' s'):
    wpAny (model X.prog X.w) A (getItem (.ref a) u) Q E s:=by
  rcases g with ⟨kvs,k,e,ey,l⟩ | ⟨_,kvs,k,b,e,ey,eb,l⟩
  . subst ey
    obtain ⟨z,hd,vs,rel,dd⟩:=dk_rd I.hok e
    obtain ⟨w',hw,rw'⟩:=a9M.some_of (v:=v) (o:=valueAt vs k) (by rw [l]; exact rel.val k)
    exact wpAny_getItem_of (kV_is ry) dd.mapOf hw (h w' _ (I.tok _) rw')
  . subst ey
    cases (show u=Value.ref b from ry)
    obtain ⟨z,hd,xs,rel,dd⟩:=dt_rd I.hok e
    obtain ⟨w',hw,rw'⟩:=a9M.some_of (v:=v) (o:=(atKey xs k).map (·.2)) (by rw [l]; exact rel.val k)
    obtain ⟨p,hp,hp2⟩:=Option.map_eq_some_iff.mp hw
    refine wpAny_getItem_heap (tupleKind_room_in1 hu) (key_of I.hok eb) dd hp ?_
    rw [hp2]
    exact h w' _ (I.tok _) rw'
theorem d_write {h':Heap} {t':Nat} {ob:HO} (I:Inv X pins σ H s) (mu:Mut (H a)) (hs:Heap.SameBut a s.heap h') (he:∃ q,h'.get? a=some q) (new:a1K X.prog X.w (upd H a ob) h' a ob):
    Inv X pins σ (upd H a ob) { s with heap:=h',toks:=t' }:=
  I.write (x:=a) (e:=a) mu (.inl rfl) (fun b q hb z=>(hs.2 b hb).trans z) he new
theorem dk_new {P:Program} {w:World} {H':Hp} {h':Heap} {kvs:List (Key × V)} {vs:List (Key × Value)} (z:kvs.length<=sizeLine) (hd:(a == sysModules)=false) (rel:KV kvs vs) (dd:h'.DictOf (a2i P w) a vs):
    a1K P w H' h' a (.dK kvs):=⟨z,hd,vs,rel,dd⟩
theorem d_setItem {R:Hp->Prop} {Q:Unit->Shared->Prop} (hu:A.units + 1 < cLine) (I:Inv X pins σ H s) (g:DPut H a y v R) (ry:a1W y u) (rv:a1W v r) (h:∀ H' s',R H'->Inv X pins σ H' s'->Q () s'):
    wpAny (model X.prog X.w) A (setItem (.ref a) u r) Q E s:=by
  rcases g with ⟨kvs,k,e,ey,l,eH⟩ | ⟨ep0,kvs,k,b,e,ey,eb,l,eH⟩
  . subst ey
    obtain ⟨z,hd,vs,rel,dd⟩:=dk_of I.hok e
    have hz:vs.length<=sizeLine:=by rw [<- rel.length]; exact z
    have hl:(b0S kvs k v).length<=sizeLine:=by have:=a6J kvs k v; ac_rfl
    refine wpAny_setItem_pairs (hsz:=hz) (kV_is ry) dd fun h' dd' hs=>h _ _ eH ?_
    have he:∃ q,h'.get? a=some q:=let ⟨q,_,_,hq,_⟩:=dd'; ⟨q,hq⟩
    exact d_write I (by rw [e]; exact True.intro) hs he (dk_new hl hd (rel.put k rv) dd')
  . subst ey
    cases (show u=Value.ref b from ry)
    obtain ⟨z,hd,xs,rel,dd⟩:=dt_of I.hok e
    have hz:xs.length<=sizeLine:=by rw [<- Paired.length rel]; exact z
    have hl:(b0S kvs k v).length<=sizeLine:=by have:=a6J kvs k v; ac_rfl
    refine wpAny_setItem_heap (hsz:=hz) (tupleKind_room_in1 hu) (key_of I.hok eb) dd fun h' dd' hs=>?_
    obtain ⟨q,es,ep,hq,h2,h3,h4,_,h5⟩:=dd'
    refine h _ _ (eH ep) ?_
    refine d_write I (by rw [e]; exact True.intro) hs ⟨q,hq⟩ ⟨hl,hd,_,(rel.put k eb rv).keeps fun c ys ec=>?_,q,es,hq,h2,h3,h4,h5⟩
    rw [a0w (ne_of ec e (fun z=>nomatch z))]
    exact ec
end
section
variable {X:Cx} {pins:List (Addr × Obj)} {σ:St} {H:Hp} {s:Shared} {a:Addr} {kvs:List (Key × V)} {k:Key} {u:Value} {A:Around} {E:Value->Shared->Prop}
theorem d_len {Q:Value->Shared->Prop} (I:Inv X pins σ H s) (e:Rd H a (.dK kvs)) (h:∀ t s',Inv X pins σ H s'->Q (.int kvs.length t) s'):wpAny (model X.prog X.w) A (call (.builtin "len") [.ref a]) Q E s:=by
  obtain ⟨z,hd,vs,rel,dd⟩:=dk_rd I.hok e
  refine call_len_dict hd dd (by rw [<- rel.length]; rw [sizeLine_eq] at z; ac_rfl) ?_
  rw [<- rel.length]
  exact h _ _ (I.tok _)
end
theorem b0B {X:Cx} {pins:List (Addr × Obj)} {σ:St} {H:Hp} {s:Shared} {a:Addr} {y:V} {o:Option V} (I:Inv X pins σ H s) (g:DGet H a y o):s.TypeIs (.ref a) "dict" := by
  rcases g with ⟨kvs,k,e,_,_⟩ | ⟨_,kvs,k,b,e,_,_,_⟩
  . obtain ⟨_,_,vs,_,dd⟩:=dk_rd I.hok e
    exact dd.typeIs
  . obtain ⟨_,_,xs,_,dd⟩:=dt_rd I.hok e
    exact dd.typeIs
def sDPut (td ty tv:TE):TS:=fun D σ H=>tv σ H fun v H1=>td σ H1 fun x H2=>ty σ H2 fun y H3=>∃ a,x=.ref a/\DPut H3 a y v (D.nx σ)
section
variable {X:Cx} {o i e value:Expr} {pos pos' tpos:Pos} {td ty tv:TE}
theorem ps_dput (hu:X.A.units + 1 < cLine) (ho:PE X o td) (hi:PE X i ty) (hv:PE X value tv) (hs:swapsWith value (some (.Subscript o i pos')) pos.line X.env=pure false):
    PS X (.Assign [.Subscript o i pos'] value pos) (sDPut td ty tv):=by
  intro pins s σ H D I h
  refine wpAny_Assign_Subscript (thn (hv pins s σ H _ I h) fun r s1 ⟨v,H1,I1,rv,q1⟩=>thn (ho pins s1 σ H1 _ I1 q1) fun u s2 ⟨x,H2,I2,rx,q2⟩=>thn (hi pins s2 σ H2 _ I2 q2) fun iv s3 ⟨y,H3,I3,ry,a,ex,g⟩=>?_) hs
  subst ex
  obtain rfl:u=Value.ref a:=rx
  exact d_setItem hu I3 g ry rv fun H4 s4 q3 I4=>⟨σ,H4,I4,q3⟩
end
theorem dt_empty {P:Program} {w:World} {H:Hp} (h:Heap) (hb:sysModules < h.objs.size):a1K P w H (h.push { cls:=.type "dict",data:=.dict #[] }) h.objs.size (.dT 0 []):=
  ⟨Nat.zero_le _,beq_eq_false_iff_ne.mpr (Ne.symm (Nat.ne_of_lt hb)),[],.nil,_,#[],Heap.get?_push_size _ rfl,⟨rfl,rfl,rfl⟩,rfl,rfl,List.nodup_nil⟩
def tDNewT:TE:=fun _ H Q=>∀ p,H p=none->Q (.ref p) (upd H p (.dT 0 []))
section
variable {X:Cx} {pos:Pos}
theorem pe_dnewT:PE X (.Dict [] [] pos) tDNewT:=fun pins s σ H Q I h=>
  wpAny_Dict_empty ⟨.ref s.heap.objs.size,_,I.laid (a:=s.heap.objs.size) (o:=.dT 0 []) (t':=s.toks) (fun _ _ q=>Heap.get?_push_of_some _ q) (Nat.le_refl _) (dt_empty s.heap I.big),rfl,h _ (I.hok.fresh (Nat.le_refl _))⟩
end
section
variable {X:Cx} {pins:List (Addr × Obj)} {σ:St} {H:Hp} {s:Shared} {a:Addr} {y d:V} {u r:Value} {o:Option V} {A:Around} {E:Value->Shared->Prop}
end
section
variable {X:Cx} {o e f:Expr} {apos cpos:Pos} {td ty tx:TE}
end
section
variable {X:Cx} {pins:List (Addr × Obj)} {σ:St} {H:Hp} {s:Shared} {a:Addr} {kvs:List (Key × V)} {A:Around} {E:Value->Shared->Prop}
end
section
variable {X:Cx} {pins:List (Addr × Obj)} {σ:St} {H:Hp} {s:Shared} {a:Addr} {y:V} {u:Value} {A:Around} {E:Value->Shared->Prop}
end
end L2
namespace L2
open PySem PySem.Spec PyProof.Rows
section
variable {X:Cx}
theorem call_lenD:a3A X (.builtin "len") (fun xs H Q=>∃ a kvs,xs=[V.ref a]/\H a=some (.dK kvs)/\Q (.int kvs.length) H):=by
  intro pins s σ H xs us Q I r h
  obtain ⟨a,kvs,rfl,ha,q⟩:=h
  obtain ⟨u,rfl,ru⟩:=a7d r
  cases ru
  exact d_len I (.inl ha) fun t s' I'=>⟨.int kvs.length,H,I',⟨t,rfl⟩,q⟩
end
section
variable {κ:Type} [DecidableEq κ]
end
end L2
namespace L2
open PySem PySem.Spec PyProof.Rows
noncomputable abbrev Tk:=Int × Int × List Int
section
variable {prog:Program} {w:World}
noncomputable def tileHash (k:Tk):Int:=reduceHash (Builtin.Tuple.tupleHashOf [hashInt k.1,hashInt k.2.1,reduceHash (Builtin.Tuple.tupleHashOf (k.2.2.map hashInt))])
variable {A:Around} {E:Value->Shared->Prop} {s:Shared}
end
noncomputable abbrev entN (x:Tk × Addr):DictEntry:=⟨tileHash x.1,.ref x.2,.bool true⟩
def ndict (a:Addr) (xs:List (Tk × Addr)):Heap->Prop:=fun h=>xs.length<=sizeLine/\(a == sysModules)=false /\ ∃ o es ep,h.get? a=some o/\o.ExactDict/\o.data=.dict es ep/\es.toList=xs.map entN/\(xs.map (·.1)).Nodup
noncomputable abbrev HO.dN (a:Addr) (xs:List (Tk × Addr)):HO:=.ext (ndict a xs)
def TileAt (H:Hp) (k:Tk) (b:Addr):Prop:=∃ c,H b=some (.tup [.int k.1,.int k.2.1,.ref c])/\H c=some (.tup (k.2.2.map V.int))
section
variable {P:Program} {w:World} {H:Hp} {h:Heap} {a b:Addr}
end
section
variable {X:Cx} {pins:List (Addr × Obj)} {σ:St} {H:Hp} {s:Shared} {a b:Addr} {xs:List (Tk × Addr)} {k:Tk} {A:Around} {E:Value->Shared->Prop}
end
section
variable {X:Cx} {pos pos':Pos} {o i value:Expr} {td ty tv:TE}
end
end L2
namespace Z
open PySem PySem.Spec PyProof.Rows L2
noncomputable abbrev St:=L2.St
inductive Dv where
 | non
 | bl (b:Bool)
 | int (i:Int)
 | str (x:Str)
 | tup (xs:List Dv)
 | lst (xs:List Dv)
 | dik (kvs:List (Key × Dv))
 | dit (kvs:List (List Key × Dv))
 | obj (C:Addr) (fs:List (Str × Dv))
 | scr (ns:List Int)
 /-- an exception that was caught,of the class at C -/
 | exc (C:Addr) (p:Option Int)
 /-- a dict by tiles whose values are True -/
 | dns (ks:List Tk)
noncomputable def a5q:Dv->Bool
 | .lst _=>false
 | .dik _=>false
 | .dit _=>false
 | .obj _ _=>false
 | .dns _=>false
 | .tup xs=>flatDs xs
 | _=>true
where flatDs:List Dv->Bool
 | []=>true
 | d :: r=>a5q d && flatDs r
noncomputable abbrev flatDs:=a5q.flatDs
def Scr (K:W.Frag) (H:Hp) (a:Addr) (ns:List Int):Prop:=
 (∃ o,H a=some (.frz o (.lst (ns.map V.int)))) \/
  ∃ (o:Obj) (its:Array Value) (n:Nat),K.lookup a=some o/\o.cls=.type "list" /\ o.dict=none/\o.data=.seq its n/\its.size<=sizeLine/\a1u (ns.map V.int) its.toList
theorem Scr.sq {K:W.Frag} {H:Hp} {a:Addr} {ns:List Int} (h:Scr K H a ns):SqL K H a (ns.map V.int):=by
 rcases h with ⟨o,h⟩ | h
 ·exact .inl (.inr ⟨o,h⟩)
 ·exact .inr h
def a8L (H:Hp):Option Int->Option Addr->Prop
 | none,none=>True
 | some n,some d=>∃ od,H d=some (.frz od (.xd [("step",.int n)]))
 | _,_=>False
theorem a8L.gen {H H':Hp} (h:∀ a o u,H a=some (.frz o u)->H' a=some (.frz o u)):∀ {p:Option Int} {d:Option Addr},a8L H p d->a8L H' p d
 | none,none,z=>z
 | some _,some _,⟨od,z⟩=>⟨od,h _ _ _ z⟩
 | none,some _,z=>z.elim
 | some _,none,z=>z.elim
def ExcAt (H:Hp) (a C:Addr) (p:Option Int):Prop:=∃ o u,H a=some (.frz o u)/\o.cls=.ref C/\a8L H p o.dict/\a7k o
def NAt (H:Hp) (a:Addr) (ks:List Tk):Prop:=∃ xs,H a=some (.dN a xs)/\ks=xs.map (·.1) /\ ∀ x ∈ xs,TileAt H x.1 x.2
mutual
inductive Rep (K:W.Frag) (M:Addr->Prop) (H:Hp):V->Dv->Prop
 | non:Rep K M H .non .non
 | bl (b:Bool):Rep K M H (.bl b) (.bl b)
 | int (i:Int):Rep K M H (.int i) (.int i)
 | str (x:Str):Rep K M H (.str x) (.str x)
 | tup {a:Addr} {xs:List V} {ds:List Dv}:H a=some (.tup xs)->Reps K M H xs ds->Rep K M H (.ref a) (.tup ds)
 | lst {a:Addr} {xs:List V} {ds:List Dv}:H a=some (.lst xs) -> ¬ M a->Reps K M H xs ds->Rep K M H (.ref a) (.lst ds)
 | dik {a:Addr} {kvs:List (Key × V)} {ds:List (Key × Dv)}:H a=some (.dK kvs) -> ¬ M a->RepK K M H kvs ds->Rep K M H (.ref a) (.dik ds)
 | dit {a:Addr} {ep:Nat} {kvs:List (List Key × V)} {ds:List (List Key × Dv)}:H a=some (.dT ep kvs) -> ¬ M a->RepT K M H kvs ds->Rep K M H (.ref a) (.dit ds)
 | obj {a C dx:Addr} {fs:List (Str × V)} {ds:List (Str × Dv)}:H a=some (.ins C dx fs) -> ¬ M a->RepF K M H fs ds->Rep K M H (.ref a) (.obj C ds)
 | scr {a:Addr} {ns:List Int}:Scr K H a ns->Rep K M H (.ref a) (.scr ns)
 | exc {a C:Addr} {p:Option Int}:ExcAt H a C p->Rep K M H (.ref a) (.exc C p)
 | dns {a:Addr} {ks:List Tk}:NAt H a ks -> ¬ M a->Rep K M H (.ref a) (.dns ks)
inductive Reps (K:W.Frag) (M:Addr->Prop) (H:Hp):List V->List Dv->Prop
 | nil:Reps K M H [] []
 | cons {x:V} {d:Dv} {xs:List V} {ds:List Dv}:Rep K M H x d->Reps K M H xs ds->Reps K M H (x :: xs) (d :: ds)
inductive RepK (K:W.Frag) (M:Addr->Prop) (H:Hp):List (Key × V)->List (Key × Dv)->Prop
 | nil:RepK K M H [] []
 | cons {k:Key} {x:V} {d:Dv} {xs:List (Key × V)} {ds:List (Key × Dv)}:Rep K M H x d->RepK K M H xs ds->RepK K M H ((k,x) :: xs) ((k,d) :: ds)
inductive RepT (K:W.Frag) (M:Addr->Prop) (H:Hp):List (List Key × V)->List (List Key × Dv)->Prop
 | nil:RepT K M H [] []
 | cons {k:List Key} {x:V} {d:Dv} {xs:List (List Key × V)} {ds:List (List Key × Dv)}:Rep K M H x d->RepT K M H xs ds->RepT K M H ((k,x) :: xs) ((k,d) :: ds)
inductive RepF (K:W.Frag) (M:Addr->Prop) (H:Hp):List (Str × V)->List (Str × Dv)->Prop
 | nil:RepF K M H [] []
 | cons {k:Str} {x:V} {d:Dv} {xs:List (Str × V)} {ds:List (Str × Dv)}:Rep K M H x d->RepF K M H xs ds->RepF K M H ((k,x) :: xs) ((k,d) :: ds)
end
structure Gen (K:W.Frag) (M M':Addr->Prop) (H H':Hp):Prop where
 l:∀ a o,H a=some o->Mut (some o) -> ¬ M a->H' a=some o /\ ¬ M' a
 t:∀ a xs,H a=some (.tup xs)->H' a=some (.tup xs)
 s:∀ a ns,Scr K H a ns->Scr K H' a ns
 x:∀ a o u,H a=some (.frz o u)->H' a=some (.frz o u)
section
variable {K:W.Frag} {M M' M'':Addr->Prop} {H H' H'':Hp}
theorem Reps.ind {P:List V->List Dv->Prop} (h0:P [] []) (h1:∀ (x:V) (d:Dv) (xs:List V) (ds:List Dv),Rep K M H x d->Reps K M H xs ds->P xs ds->P (x :: xs) (d :: ds)) {xs:List V} {ds:List Dv} (r:Reps K M H xs ds):P xs ds:=
 Reps.rec (motive_1:=fun _ _ _=>True) (motive_2:=fun xs ds _=>P xs ds) (motive_3:=fun _ _ _=>True) (motive_4:=fun _ _ _=>True) (motive_5:=fun _ _ _=>True) trivial (fun _=>trivial) (fun _=>trivial) (fun _=>trivial) (fun _ _ _=>trivial) (fun _ _ _ _=>trivial) (fun _ _ _ _=>trivial) (fun _ _ _ _=>trivial) (fun _ _ _ _=>trivial) (fun _=>trivial) (fun _=>trivial) (fun _ _=>trivial) h0 (fun a r _ ih=>h1 _ _ _ _ a r ih) trivial (fun _ _ _ _=>trivial) trivial (fun _ _ _ _=>trivial) trivial (fun _ _ _ _=>trivial) r
theorem RepK.ind {P:List (Key × V)->List (Key × Dv)->Prop} (h0:P [] []) (h1:∀ (k:Key) (x:V) (d:Dv) (xs:List (Key × V)) (ds:List (Key × Dv)),Rep K M H x d->RepK K M H xs ds->P xs ds->P ((k,x) :: xs) ((k,d) :: ds)) {xs:List (Key × V)} {ds:List (Key × Dv)} (r:RepK K M H xs ds):P xs ds:=
 RepK.rec (motive_1:=fun _ _ _=>True) (motive_2:=fun _ _ _=>True) (motive_3:=fun xs ds _=>P xs ds) (motive_4:=fun _ _ _=>True) (motive_5:=fun _ _ _=>True) trivial (fun _=>trivial) (fun _=>trivial) (fun _=>trivial) (fun _ _ _=>trivial) (fun _ _ _ _=>trivial) (fun _ _ _ _=>trivial) (fun _ _ _ _=>trivial) (fun _ _ _ _=>trivial) (fun _=>trivial) (fun _=>trivial) (fun _ _=>trivial) trivial (fun _ _ _ _=>trivial) h0 (fun a r _ ih=>h1 _ _ _ _ _ a r ih) trivial (fun _ _ _ _=>trivial) trivial (fun _ _ _ _=>trivial) r
theorem RepT.ind {P:List (List Key × V)->List (List Key × Dv)->Prop} (h0:P [] []) (h1:∀ (k:List Key) (x:V) (d:Dv) (xs:List (List Key × V)) (ds:List (List Key × Dv)),Rep K M H x d->RepT K M H xs ds->P xs ds->P ((k,x) :: xs) ((k,d) :: ds)) {xs:List (List Key × V)} {ds:List (List Key × Dv)} (r:RepT K M H xs ds):P xs ds:=
 RepT.rec (motive_1:=fun _ _ _=>True) (motive_2:=fun _ _ _=>True) (motive_3:=fun _ _ _=>True) (motive_4:=fun xs ds _=>P xs ds) (motive_5:=fun _ _ _=>True) trivial (fun _=>trivial) (fun _=>trivial) (fun _=>trivial) (fun _ _ _=>trivial) (fun _ _ _ _=>trivial) (fun _ _ _ _=>trivial) (fun _ _ _ _=>trivial) (fun _ _ _ _=>trivial) (fun _=>trivial) (fun _=>trivial) (fun _ _=>trivial) trivial (fun _ _ _ _=>trivial) trivial (fun _ _ _ _=>trivial) h0 (fun a r _ ih=>h1 _ _ _ _ _ a r ih) trivial (fun _ _ _ _=>trivial) r
theorem RepF.ind {P:List (Str × V)->List (Str × Dv)->Prop} (h0:P [] []) (h1:∀ (k:Str) (x:V) (d:Dv) (xs:List (Str × V)) (ds:List (Str × Dv)),Rep K M H x d->RepF K M H xs ds->P xs ds->P ((k,x) :: xs) ((k,d) :: ds)) {xs:List (Str × V)} {ds:List (Str × Dv)} (r:RepF K M H xs ds):P xs ds:=
 RepF.rec (motive_1:=fun _ _ _=>True) (motive_2:=fun _ _ _=>True) (motive_3:=fun _ _ _=>True) (motive_4:=fun _ _ _=>True) (motive_5:=fun xs ds _=>P xs ds) trivial (fun _=>trivial) (fun _=>trivial) (fun _=>trivial) (fun _ _ _=>trivial) (fun _ _ _ _=>trivial) (fun _ _ _ _=>trivial) (fun _ _ _ _=>trivial) (fun _ _ _ _=>trivial) (fun _=>trivial) (fun _=>trivial) (fun _ _=>trivial) trivial (fun _ _ _ _=>trivial) trivial (fun _ _ _ _=>trivial) trivial (fun _ _ _ _=>trivial) h0 (fun a r _ ih=>h1 _ _ _ _ _ a r ih) r
theorem _root_.L2.TileAt.gen {k:Tk} {b:Addr} (t:TileAt H k b) (ht:∀ a xs,H a=some (.tup xs)->H' a=some (.tup xs)):TileAt H' k b:=let ⟨c,e1,e2⟩:=t; ⟨c,ht _ _ e1,ht _ _ e2⟩
theorem Rep.gen (G:Gen K M M' H H') {x:V} {d:Dv} (r:Rep K M H x d):Rep K M' H' x d:=
 Rep.rec (motive_1:=fun x d _=>Rep K M' H' x d) (motive_2:=fun xs ds _=>Reps K M' H' xs ds) (motive_3:=fun xs ds _=>RepK K M' H' xs ds) (motive_4:=fun xs ds _=>RepT K M' H' xs ds) (motive_5:=fun xs ds _=>RepF K M' H' xs ds)
  .non .bl .int .str (fun h _ r=>.tup (G.t _ _ h) r) (fun h m _ r=>.lst (G.l _ _ h trivial m).1 (G.l _ _ h trivial m).2 r) (fun h m _ r=>.dik (G.l _ _ h trivial m).1 (G.l _ _ h trivial m).2 r) (fun h m _ r=>.dit (G.l _ _ h trivial m).1 (G.l _ _ h trivial m).2 r)
  (fun h m _ r=>.obj (G.l _ _ h trivial m).1 (G.l _ _ h trivial m).2 r) (fun h=>.scr (G.s _ _ h)) (fun ⟨o,u,h,z,y,m⟩=>.exc ⟨o,u,G.x _ _ _ h,z,y.gen G.x,m⟩) (fun ⟨xs,h,e,t⟩ m=>.dns ⟨xs,(G.l _ _ h trivial m).1,e,fun x hx=>(t x hx).gen G.t⟩ (G.l _ _ h trivial m).2) .nil (fun _ _ a r=>.cons a r) .nil (fun _ _ a r=>.cons a r) .nil (fun _ _ a r=>.cons a r) .nil (fun _ _ a r=>.cons a r) r
theorem Reps.gen (G:Gen K M M' H H') {xs:List V} {ds:List Dv} (r:Reps K M H xs ds):Reps K M' H' xs ds:=r.ind .nil fun _ _ _ _ a _ ih=>.cons (a.gen G) ih
theorem RepK.gen (G:Gen K M M' H H') {xs:List (Key × V)} {ds:List (Key × Dv)} (r:RepK K M H xs ds):RepK K M' H' xs ds:=r.ind .nil fun _ _ _ _ _ a _ ih=>.cons (a.gen G) ih
theorem RepT.gen (G:Gen K M M' H H') {xs:List (List Key × V)} {ds:List (List Key × Dv)} (r:RepT K M H xs ds):RepT K M' H' xs ds:=r.ind .nil fun _ _ _ _ _ a _ ih=>.cons (a.gen G) ih
theorem RepF.gen (G:Gen K M M' H H') {xs:List (Str × V)} {ds:List (Str × Dv)} (r:RepF K M H xs ds):RepF K M' H' xs ds:=r.ind .nil fun _ _ _ _ _ a _ ih=>.cons (a.gen G) ih
theorem a0r.scr (S:a0r H H') {a:Addr} {ns:List Int} (h:Scr K H a ns):Scr K H' a ns:=by
 rcases h with ⟨o,h⟩ | h
 ·exact .inl ⟨o,S _ _ h⟩
 ·exact .inr h
theorem Gen.mono (S:a0r H H'):Gen K M M H H':=⟨fun a o h _ m=>⟨S _ _ h,m⟩,fun _ _ h=>S _ _ h,fun _ _ h=>a0r.scr S h,fun _ _ _ h=>S _ _ h⟩
theorem Gen.weak (h:∀ a,M' a->M a):Gen K M M' H H:=⟨fun a o e _ m=>⟨e,fun z=>m (h a z)⟩,fun _ _ h=>h,fun _ _ h=>h,fun _ _ _ h=>h⟩
theorem Gen.fresh {p:Addr} (hp:H p=none):Gen K M (fun b=>M b \/ b=p) H H:=
 ⟨fun a o e _ m=>⟨e,fun z=>z.elim m fun z=>by rw [z,hp] at e; cases e⟩,fun _ _ h=>h,fun _ _ h=>h,fun _ _ _ h=>h⟩
theorem Gen.trans (a:Gen K M M' H H') (b:Gen K M' M'' H' H''):Gen K M M'' H H'':=
 ⟨fun c o e mu m=>b.l c o (a.l c o e mu m).1 mu (a.l c o e mu m).2,fun c xs h=>b.t c xs (a.t c xs h),fun c ns h=>b.s c ns (a.s c ns h),fun c o u h=>b.x c o u (a.x c o u h)⟩
theorem mut_ne {p a:Addr} {u:HO} (mu:Mut (H p)) (e:H a=some u) (n:¬ Mut (some u)):a ≠ p:=fun z=>by
 subst z
 rw [e] at mu
 exact n mu
theorem Gen.write {p:Addr} {o:HO} (hM:M p) (mu:Mut (H p)):Gen K M M H (upd H p o):=by
 refine ⟨fun a u e _ m=>⟨?_,m⟩,fun a xs h=>?_,fun a ns h=>?_,fun a o u h=>by rw [a0w (mut_ne mu h fun z=>z)]; exact h⟩
 ·rw [a0w fun z=>m (by rw [z]; exact hM)]
  exact e
 ·rw [a0w (mut_ne mu h fun z=>z)]
  exact h
 ·rcases h with ⟨u,h⟩ | h
  ·exact .inl ⟨u,by rw [a0w (mut_ne mu h fun z=>z)]; exact h⟩
  ·exact .inr h
end
section
variable {K:W.Frag} {M M':Addr->Prop} {H H':Hp}
theorem Rep.mono {x:V} {d:Dv} (S:a0r H H') (h:Rep K M H x d):Rep K M H' x d:=h.gen (.mono S)
theorem Rep.weak {x:V} {d:Dv} (w:∀ a,M' a->M a) (h:Rep K M H x d):Rep K M' H x d:=h.gen (.weak w)
theorem Reps.mono {xs:List V} {ds:List Dv} (S:a0r H H') (h:Reps K M H xs ds):Reps K M H' xs ds:=h.gen (.mono S)
theorem Reps.weak {xs:List V} {ds:List Dv} (w:∀ a,M' a->M a) (h:Reps K M H xs ds):Reps K M' H xs ds:=h.gen (.weak w)
theorem a1T {d:Dv} {ds:List Dv} (f:flatDs (d :: ds)=true):a5q d=true/\flatDs ds=true:=by
 have f':(a5q d && flatDs ds)=true:=f
 rwa [Bool.and_eq_true] at f'
theorem Rep.flat {x:V} {d:Dv} (f:a5q d=true) (r:Rep K M H x d):Rep K M' H x d:=
 Rep.rec (motive_1:=fun x d _=>a5q d=true->Rep K M' H x d) (motive_2:=fun xs ds _=>flatDs ds=true->Reps K M' H xs ds) (motive_3:=fun _ _ _=>True) (motive_4:=fun _ _ _=>True) (motive_5:=fun _ _ _=>True)
  (fun _=>.non) (fun b _=>.bl b) (fun i _=>.int i) (fun x _=>.str x) (fun h _ ih f=>.tup h (ih (by rw [a5q] at f; exact f))) (fun _ _ _ _ f=>by simp [a5q] at f) (fun _ _ _ _ f=>by simp [a5q] at f) (fun _ _ _ _ f=>by simp [a5q] at f)
  (fun _ _ _ _ f=>by simp [a5q] at f) (fun h _=>.scr h) (fun h _=>.exc h) (fun _ _ f=>by simp [a5q] at f) (fun _=>.nil) (fun _ _ a r f=>.cons (a (a1T f).1) (r (a1T f).2)) trivial (fun _ _ _ _=>trivial) trivial (fun _ _ _ _=>trivial) trivial (fun _ _ _ _=>trivial) r f
theorem Reps.flat {xs:List V} {ds:List Dv} (f:flatDs ds=true) (r:Reps K M H xs ds):Reps K M' H xs ds:=
 r.ind (P:=fun xs ds=>flatDs ds=true->Reps K M' H xs ds) (fun _=>.nil) (fun _ _ _ _ a _ ih f=>.cons (a.flat (a1T f).1) (ih (a1T f).2)) f
theorem RepF.flat {xs:List (Str × V)} {ds:List (Str × Dv)} (f:flatDs (ds.map (·.2))=true) (r:RepF K M H xs ds):RepF K M' H xs ds:=
 r.ind (P:=fun xs ds=>flatDs (ds.map (·.2))=true->RepF K M' H xs ds) (fun _=>.nil) (fun _ _ _ _ _ a _ ih f=>.cons (a.flat (a1T f).1) (ih (a1T f).2)) f
theorem RepK.flat {xs:List (Key × V)} {ds:List (Key × Dv)} (f:flatDs (ds.map (·.2))=true) (r:RepK K M H xs ds):RepK K M' H xs ds:=
 r.ind (P:=fun xs ds=>flatDs (ds.map (·.2))=true->RepK K M' H xs ds) (fun _=>.nil) (fun _ _ _ _ _ a _ ih f=>.cons (a.flat (a1T f).1) (ih (a1T f).2)) f
theorem RepT.flat {xs:List (List Key × V)} {ds:List (List Key × Dv)} (f:flatDs (ds.map (·.2))=true) (r:RepT K M H xs ds):RepT K M' H xs ds:=
 r.ind (P:=fun xs ds=>flatDs (ds.map (·.2))=true->RepT K M' H xs ds) (fun _=>.nil) (fun _ _ _ _ _ a _ ih f=>.cons (a.flat (a1T f).1) (ih (a1T f).2)) f
theorem Reps.length {xs:List V} {ds:List Dv} (r:Reps K M H xs ds):xs.length=ds.length:=r.ind (P:=fun xs ds=>xs.length=ds.length) rfl fun _ _ _ _ _ _ ih=>congrArg (· + 1) ih
theorem Reps.append {xs ys:List V} {ds es:List Dv} (r:Reps K M H xs ds) (s:Reps K M H ys es):Reps K M H (xs ++ ys) (ds ++ es):=r.ind (P:=fun xs ds=>Reps K M H (xs ++ ys) (ds ++ es)) s fun _ _ _ _ a _ ih=>.cons a ih
theorem Reps.get {xs:List V} {ds:List Dv} {i:Nat} {d:Dv} (r:Reps K M H xs ds) (e:ds[i]?=some d):∃ x,xs[i]?=some x/\Rep K M H x d:=
 r.ind (P:=fun xs ds=>∀ i,ds[i]?=some d -> ∃ x,xs[i]?=some x/\Rep K M H x d) (fun i e=>by rw [List.getElem?_nil] at e; cases e) (fun x y xs ys a _ ih i e=>by
  cases i with
  | zero=>rw [List.getElem?_cons_zero] at e; cases e; exact ⟨x,rfl,a⟩
  | succ i=>exact ih i e) i e
theorem Reps.take {xs:List V} {ds:List Dv} (n:Nat) (r:Reps K M H xs ds):Reps K M H (xs.take n) (ds.take n):=
 r.ind (P:=fun xs ds=>∀ n,Reps K M H (xs.take n) (ds.take n)) (fun n=>by cases n <;> exact .nil) (fun _ _ _ _ a r ih n=>by cases n with
  | zero=>exact .nil
  | succ n=>exact .cons a (ih n)) n
theorem Reps.drop {xs:List V} {ds:List Dv} (n:Nat) (r:Reps K M H xs ds):Reps K M H (xs.drop n) (ds.drop n):=
 r.ind (P:=fun xs ds=>∀ n,Reps K M H (xs.drop n) (ds.drop n)) (fun n=>by cases n <;> exact .nil) (fun _ _ _ _ a r ih n=>by cases n with
  | zero=>exact .cons a r
  | succ n=>exact ih n) n
theorem Reps.set {x:V} {d:Dv} (a:Rep K M H x d) {xs:List V} {ds:List Dv} (n:Nat) (r:Reps K M H xs ds):Reps K M H (xs.set n x) (ds.set n d):=
 r.ind (P:=fun xs ds=>∀ n,Reps K M H (xs.set n x) (ds.set n d)) (fun _=>.nil) (fun _ _ _ _ b r ih n=>by cases n with
  | zero=>exact .cons a r
  | succ n=>exact .cons b (ih n)) n
theorem Reps.repl {xs:List V} {ds:List Dv} (h:Reps K M H xs ds):∀ n:Nat,Reps K M H (List.replicate n xs).flatten (List.replicate n ds).flatten
 | 0=>.nil
 | n + 1=>by
  rw [List.replicate_succ,List.replicate_succ,List.flatten_cons,List.flatten_cons]
  exact h.append (Reps.repl h n)
theorem Reps.ints:∀ ns:List Int,Reps K M H (ns.map V.int) (ns.map Dv.int)
 | []=>.nil
 | n :: r=>.cons (.int n) (Reps.ints r)
end
def a2R (K:W.Frag) (M:Addr->Prop) (H:Hp) (a:Addr):Dv->Prop
 | .lst ds=>∃ xs,H a=some (.lst xs)/\Reps K M H xs ds
 | .dik ds=>∃ kvs,H a=some (.dK kvs)/\RepK K M H kvs ds
 | .dit ds=>∃ ep kvs,H a=some (.dT ep kvs)/\RepT K M H kvs ds
 | .obj C ds=>∃ dx fs,H a=some (.ins C dx fs)/\RepF K M H fs ds
 | .dns ks=>NAt H a ks
 | _=>False
noncomputable def flatO:Dv->Bool
 | .lst ds=>flatDs ds
 | .dik ds=>flatDs (ds.map (·.2))
 | .dit ds=>flatDs (ds.map (·.2))
 | .obj _ ds=>flatDs (ds.map (·.2))
 | .dns _=>true
 | _=>false
section
variable {K:W.Frag} {M M':Addr->Prop} {H H':Hp} {a:Addr}
theorem a2R.gen {d:Dv} (G:Gen K M M' H H') (ha:∀ o,H a=some o->H' a=some o) (h:a2R K M H a d):a2R K M' H' a d:=by
 cases d with
 | lst ds=>obtain ⟨xs,e,r⟩:=h; exact ⟨xs,ha _ e,r.gen G⟩
 | dik ds=>obtain ⟨xs,e,r⟩:=h; exact ⟨xs,ha _ e,r.gen G⟩
 | dit ds=>obtain ⟨ep,xs,e,r⟩:=h; exact ⟨ep,xs,ha _ e,r.gen G⟩
 | obj C ds=>obtain ⟨dx,fs,e,r⟩:=h; exact ⟨dx,fs,ha _ e,r.gen G⟩
 | dns ks=>obtain ⟨xs,e,k,t⟩:=h; exact ⟨xs,ha _ e,k,fun x hx=>(t x hx).gen G.t⟩
 | _=>exact h.elim
theorem a2R.mono {d:Dv} (S:a0r H H') (h:a2R K M H a d):a2R K M H' a d:=h.gen (.mono S) fun o e=>S _ _ e
theorem a2R.weak {d:Dv} (w:∀ a,M' a->M a) (h:a2R K M H a d):a2R K M' H a d:=h.gen (.weak w) fun _ e=>e
theorem a2R.flat {d:Dv} (f:flatO d=true) (h:a2R K M H a d):a2R K M' H a d:=by
 cases d with
 | lst ds=>obtain ⟨xs,e,r⟩:=h; exact ⟨xs,e,r.flat f⟩
 | dik ds=>obtain ⟨xs,e,r⟩:=h; exact ⟨xs,e,r.flat f⟩
 | dit ds=>obtain ⟨ep,xs,e,r⟩:=h; exact ⟨ep,xs,e,r.flat f⟩
 | obj C ds=>obtain ⟨dx,fs,e,r⟩:=h; exact ⟨dx,fs,e,r.flat f⟩
 | dns ks=>exact h
 | _=>exact h.elim
theorem a2R.mut {d:Dv} (h:a2R K M H a d):∃ o,H a=some o/\Mut (some o):=by
 cases d with
 | lst ds=>obtain ⟨xs,e,r⟩:=h; exact ⟨_,e,trivial⟩
 | dik ds=>obtain ⟨xs,e,r⟩:=h; exact ⟨_,e,trivial⟩
 | dit ds=>obtain ⟨ep,xs,e,r⟩:=h; exact ⟨_,e,trivial⟩
 | obj C ds=>obtain ⟨dx,fs,e,r⟩:=h; exact ⟨_,e,trivial⟩
 | dns ks=>obtain ⟨xs,e,_⟩:=h; exact ⟨_,e,trivial⟩
 | _=>exact h.elim
theorem a2R.rep {d:Dv} (h:a2R K M H a d) (m:¬ M a):Rep K M H (.ref a) d:=by
 cases d with
 | lst ds=>obtain ⟨xs,e,r⟩:=h; exact .lst e m r
 | dik ds=>obtain ⟨xs,e,r⟩:=h; exact .dik e m r
 | dit ds=>obtain ⟨ep,xs,e,r⟩:=h; exact .dit e m r
 | obj C ds=>obtain ⟨dx,fs,e,r⟩:=h; exact .obj e m r
 | dns ks=>exact .dns h m
 | _=>exact h.elim
end
inductive Sl where
 | un
 | v (d:Dv)
 | own (a:Addr) (d:Dv)
def MM (F:Addr->Prop) (ρ:List Sl):Addr->Prop:=fun a=>F a \/ ∃ d,Sl.own a d ∈ ρ
def SlOk (K:W.Frag) (M:Addr->Prop) (H:Hp) (o:Option (Option V)):Sl->Prop
 | .un=>True
 | .v d=>∃ x,o=some (some x)/\Rep K M H x d
 | .own a d=>o=some (some (.ref a))/\a2R K M H a d
noncomputable abbrev lamOn:Bool:=false
def LamTab (K:W.Frag) (P:Addr) (q:Str):Prop:=lamOn=true /\ ∃ (C f:Addr) (o:Value) (od:Option Addr) (fd:FuncData) (sl:Array (Option Value)) (c:Addr) (oc:Value) (odc:Option Addr) (vs:Array Value) (slc:Array (Option Value)),
 W.nsIn K mainGlobals "Sides" = some (some (.ref C))/\W.findIn K (.ref C) "last" = some (some (.ref f))/\K.lookup f=some ⟨o,od,.func fd,sl⟩/\fd.code=.ref c/\K.lookup c=some ⟨oc,odc,.fields vs,slc⟩/\vs[11]?=some (.ref P) /\
 q = "Sides.last" ++ ".<locals>." ++ "<lambda>"
def TabOk (K:W.Frag) (H:Hp):Prop:=∀ P q,LamTab K P q->H P=some (.lam q)
structure OldF (K:W.Frag) (F:Addr->Prop) (HZ:Hp):Prop where
 f:∀ a,F a->HZ a ≠ none
 t:TabOk K HZ
theorem TabOk.mono {K:W.Frag} {H H':Hp} (t:TabOk K H) (S:a0r H H'):TabOk K H':=fun P q z=>S _ _ (t P q z)
structure Fr (K:W.Frag) (HZ:Hp) (F:Addr->Prop) (σ:St) (H:Hp) (ρ:List Sl):Prop where
 len:σ.length=ρ.length
 sl:∀ (i:Nat) (s:Sl),ρ[i]?=some s->SlOk K (MM F ρ) H σ[i]? s
 nd:∀ (i j:Nat) (a:Addr) (d d':Dv),ρ[i]?=some (.own a d)->ρ[j]?=some (.own a d')->i=j
 new:∀ (a:Addr) (d:Dv),Sl.own a d ∈ ρ->HZ a=none
 same:a0r HZ H
 old:OldF K F HZ
section
variable {K:W.Frag} {M M':Addr->Prop} {HZ H H':Hp} {F:Addr->Prop} {σ:St} {ρ:List Sl}
theorem SlOk.mono {o:Option (Option V)} {s:Sl} (S:a0r H H') (h:SlOk K M H o s):SlOk K M H' o s:=by
 cases s with
 | un=>trivial
 | v d=>obtain ⟨x,e,r⟩:=h; exact ⟨x,e,r.mono S⟩
 | own a d=>exact ⟨h.1,h.2.mono S⟩
theorem SlOk.weak {o:Option (Option V)} {s:Sl} (w:∀ a,M' a->M a) (h:SlOk K M H o s):SlOk K M' H o s:=by
 cases s with
 | un=>trivial
 | v d=>obtain ⟨x,e,r⟩:=h; exact ⟨x,e,r.weak w⟩
 | own a d=>exact ⟨h.1,h.2.weak w⟩
theorem Fr.tab (fr:Fr K HZ F σ H ρ):TabOk K H:=fr.old.t.mono fr.same
theorem Fr.mono (fr:Fr K HZ F σ H ρ) (S:a0r H H'):Fr K HZ F σ H' ρ:=⟨fr.len,fun i s e=>(fr.sl i s e).mono S,fr.nd,fr.new,fr.same.trans S,fr.old⟩
theorem Fr.at_own (fr:Fr K HZ F σ H ρ) {a:Addr} {d:Dv} (h:Sl.own a d ∈ ρ):∃ i:Nat,ρ[i]?=some (.own a d)/\σ[i]?=some (some (.ref a))/\a2R K (MM F ρ) H a d:=by
 obtain ⟨i,e⟩:=List.mem_iff_getElem?.mp h
 have:=fr.sl i _ e
 exact ⟨i,e,this.1,this.2⟩
theorem Fr.dom (fr:Fr K HZ F σ H ρ) {a:Addr} (m:MM F ρ a):H a ≠ none:=by
 rcases m with m | ⟨d,m⟩
 ·intro e
  exact fr.old.f a m (fr.same.free e)
 ·obtain ⟨_,_,_,o⟩:=fr.at_own m
  obtain ⟨u,e,_⟩:=o.mut
  rw [e]
  simp
theorem Fr.fresh (fr:Fr K HZ F σ H ρ) {a:Addr} (e:H a=none):¬ MM F ρ a:=fun m=>fr.dom m e
end
inductive R where
 | v (d:Dv)
 | ow (a:Addr) (d:Dv)
 | nw (d:Dv)
noncomputable def R.d:R->Dv
 | .v d=>d
 | .ow _ d=>d
 | .nw d=>d
noncomputable def R.free:R->Bool
 | .ow _ _=>false
 | _=>true
def Own (ρ:List Sl):Addr->Dv->Prop:=fun a d=>Sl.own a d ∈ ρ
def NoOwn:Addr->Dv->Prop:=fun _ _=>False
def a3l (K:W.Frag) (M:Addr->Prop) (O:Addr->Dv->Prop) (H:Hp) (x:V) (r:R) (H':Hp):Prop:=match r with
 | .v d=>Rep K M H' x d
 | .ow a d=>x=.ref a/\O a d/\a2R K M H' a d
 | .nw d=>∃ a,x=.ref a/\H a=none/\a2R K (fun b=>M b \/ b=a) H' a d
def a3M (K:W.Frag) (M:Addr->Prop) (H:Hp) (x:V) (d:Dv):Prop:=Rep K M H x d \/ ∃ a,x=.ref a/\a2R K M H a d
section
variable {K:W.Frag} {M M':Addr->Prop} {O:Addr->Dv->Prop} {H H' H'':Hp} {x:V} {r:R}
theorem a3l.mono (h:a3l K M O H x r H') (S:a0r H' H''):a3l K M O H x r H'':=by
 cases r with
 | v d=>exact Rep.mono S h
 | ow a d=>exact ⟨h.1,h.2.1,h.2.2.mono S⟩
 | nw d=>obtain ⟨a,e,n,o⟩:=h; exact ⟨a,e,n,o.mono S⟩
theorem a3l.ahead {H1:Hp} (h:a3l K M O H1 x r H') (S:a0r H H1):a3l K M O H x r H':=by
 cases r with
 | v d=>exact h
 | ow a d=>exact h
 | nw d=>obtain ⟨a,e,n,o⟩:=h; exact ⟨a,e,S.free n,o⟩
theorem a3l.c (h:a3l K M O H x r H'):a3M K M H' x r.d:=by
 cases r with
 | v d=>exact .inl h
 | ow a d=>exact .inr ⟨a,h.1,h.2.2⟩
 | nw d=>obtain ⟨a,e,n,o⟩:=h; exact .inr ⟨a,e,o.weak fun b z=>.inl z⟩
theorem a3l.rep (h:a3l K M O H x r H') (hM:∀ a,M a->H a ≠ none) (f:r.free=true):Rep K M H' x r.d:=by
 cases r with
 | v d=>exact h
 | ow a d=>simp [R.free] at f
 | nw d=>
  obtain ⟨a,e,n,o⟩:=h
  subst e
  exact (o.weak fun b z=>.inl z).rep fun z=>hM a z n
theorem a3M.lst {ds:List Dv} (h:a3M K M H x (.lst ds)):∃ a xs,x=.ref a/\H a=some (.lst xs)/\Reps K M H xs ds:=by
 rcases h with h | ⟨a,e,xs,h1,h2⟩
 ·cases h with
  | lst h1 _ h2=>exact ⟨_,_,rfl,h1,h2⟩
 ·exact ⟨a,xs,e,h1,h2⟩
theorem a3M.tup {ds:List Dv} (h:a3M K M H x (.tup ds)):∃ a xs,x=.ref a/\H a=some (.tup xs)/\Reps K M H xs ds:=by
 rcases h with h | ⟨a,e,o⟩
 ·cases h with
  | tup h1 h2=>exact ⟨_,_,rfl,h1,h2⟩
 ·exact o.elim
theorem a3M.int {i:Int} (h:a3M K M H x (.int i)):x=.int i:=by
 rcases h with h | ⟨a,e,o⟩
 ·cases h; rfl
 ·exact o.elim
theorem a3M.bl {b:Bool} (h:a3M K M H x (.bl b)):x=.bl b:=by
 rcases h with h | ⟨a,e,o⟩
 ·cases h; rfl
 ·exact o.elim
theorem a3M.non (h:a3M K M H x .non):x=.non:=by
 rcases h with h | ⟨a,e,o⟩
 ·cases h; rfl
 ·exact o.elim
theorem a3M.str {s:Str} (h:a3M K M H x (.str s)):x=.str s:=by
 rcases h with h | ⟨a,e,o⟩
 ·cases h; rfl
 ·exact o.elim
theorem a3M.scr {ns:List Int} (h:a3M K M H x (.scr ns)):∃ a,x=.ref a/\Scr K H a ns:=by
 rcases h with h | ⟨a,e,o⟩
 ·cases h with
  | scr h=>exact ⟨_,rfl,h⟩
 ·exact o.elim
theorem a3M.exc {C:Addr} {p:Option Int} (h:a3M K M H x (.exc C p)):∃ a,x=.ref a/\ExcAt H a C p:=by
 rcases h with h | ⟨a,e,o⟩
 ·cases h with
  | exc h=>exact ⟨_,rfl,h⟩
 ·exact o.elim
theorem a3M.dik {ds:List (Key × Dv)} (h:a3M K M H x (.dik ds)):∃ a kvs,x=.ref a/\H a=some (.dK kvs)/\RepK K M H kvs ds:=by
 rcases h with h | ⟨a,e,xs,h1,h2⟩
 ·cases h with
  | dik h1 _ h2=>exact ⟨_,_,rfl,h1,h2⟩
 ·exact ⟨a,xs,e,h1,h2⟩
theorem a3M.dit {ds:List (List Key × Dv)} (h:a3M K M H x (.dit ds)):∃ a ep kvs,x=.ref a/\H a=some (.dT ep kvs)/\RepT K M H kvs ds:=by
 rcases h with h | ⟨a,e,ep0,xs,h1,h2⟩
 ·cases h with
  | dit h1 _ h2=>exact ⟨_,_,_,rfl,h1,h2⟩
 ·exact ⟨a,ep0,xs,e,h1,h2⟩
theorem a3M.obj {C:Addr} {ds:List (Str × Dv)} (h:a3M K M H x (.obj C ds)):∃ a dx fs,x=.ref a/\H a=some (.ins C dx fs)/\RepF K M H fs ds:=by
 rcases h with h | ⟨a,e,dx,fs,h1,h2⟩
 ·cases h with
  | obj h1 _ h2=>exact ⟨_,_,_,rfl,h1,h2⟩
 ·exact ⟨a,dx,fs,e,h1,h2⟩
end
end Z
namespace Z
open PySem PySem.Spec PyProof.Rows L2
abbrev TEp:=List Sl->(R->Prop)->Prop
abbrev TAp:=List Sl->(List R->Prop)->Prop
abbrev TTp:=List Sl->(Bool->Prop)->Prop
def a4W (K:W.Frag) (M:Addr->Prop) (O:Addr->Dv->Prop) (H:Hp) (xs:List V) (rs:List R) (H':Hp):Prop:=Paired (fun x r=>a3l K M O H x r H') xs rs
def CReps (K:W.Frag) (M:Addr->Prop) (H:Hp):List V->List Dv->Prop:=Paired (a3M K M H)
section
variable {K:W.Frag} {M:Addr->Prop} {O:Addr->Dv->Prop} {H H1 H' H'':Hp}
theorem a4W.ahead {xs:List V} {rs:List R} (h:a4W K M O H1 xs rs H') (S:a0r H H1):a4W K M O H xs rs H':=Paired.mapP h fun _ _ q=>q.ahead S
theorem a4W.c:∀ {xs:List V} {rs:List R},a4W K M O H xs rs H'->CReps K M H' xs (rs.map R.d)
 | _,_,.nil=>.nil
 | _,_,.cons a t=>.cons a.c (a4W.c t)
theorem a4W.reps (hM:∀ a,M a->H a ≠ none):∀ {xs:List V} {rs:List R},a4W K M O H xs rs H'->rs.all R.free=true->Reps K M H' xs (rs.map R.d)
 | _,_,.nil,_=>.nil
 | _,_,.cons a t,f=>by
  rw [List.all_cons,Bool.and_eq_true] at f
  exact .cons (a.rep hM f.1) (a4W.reps hM t f.2)
end
inductive lift (K:W.Frag) (HZ:Hp) (F:Addr->Prop) (t:TEp) (σ:St) (H:Hp) (Q:VK):Prop
 | mk (ρ:List Sl) (fr:Fr K HZ F σ H ρ) (h:t ρ fun r=>∀ x H',a0r H H'->a3l K (MM F ρ) (Own ρ) H x r H'->Q x H')
inductive liftA (K:W.Frag) (HZ:Hp) (F:Addr->Prop) (t:TAp) (σ:St) (H:Hp) (Q:List V->Hp->Prop):Prop
 | mk (ρ:List Sl) (fr:Fr K HZ F σ H ρ) (h:t ρ fun rs=>∀ xs H',a0r H H'->a4W K (MM F ρ) (Own ρ) H xs rs H'->Q xs H')
inductive liftT (K:W.Frag) (HZ:Hp) (F:Addr->Prop) (t:TTp) (σ:St) (H:Hp) (Q:Bool->Hp->Prop):Prop
 | mk (ρ:List Sl) (fr:Fr K HZ F σ H ρ) (h:t ρ fun b=>∀ H',a0r H H'->Q b H')
structure QE (X:Cx) (e:Expr) (t:TEp):Prop where
 mono:∀ (ρ:List Sl) (Q Q':R->Prop),(∀ r,Q r->Q' r)->t ρ Q->t ρ Q'
 run:∀ (HZ:Hp) (F:Addr->Prop),PE X e (lift X.K HZ F t)
structure QA (X:Cx) (es:List Expr) (t:TAp):Prop where
 mono:∀ (ρ:List Sl) (Q Q':List R->Prop),(∀ r,Q r->Q' r)->t ρ Q->t ρ Q'
 run:∀ (HZ:Hp) (F:Addr->Prop),PA X es (liftA X.K HZ F t)
structure QT (X:Cx) (e:Expr) (t:TTp):Prop where
 mono:∀ (ρ:List Sl) (Q Q':Bool->Prop),(∀ r,Q r->Q' r)->t ρ Q->t ρ Q'
 run:∀ (HZ:Hp) (F:Addr->Prop),PT X e (liftT X.K HZ F t)
structure QW (X:Cx) (e:Expr) (t:TTp):Prop where
 mono:∀ (ρ:List Sl) (Q Q':Bool->Prop),(∀ r,Q r->Q' r)->t ρ Q->t ρ Q'
 run:∀ (HZ:Hp) (F:Addr->Prop),PW X e (liftT X.K HZ F t)
section
variable {X:Cx} {a b e c:Expr} {es:List Expr} {ta tb te tc:TEp} {ts:TAp} {pos:Pos}
theorem a0T {t t':TE} (h:PE X e t) (w:∀ σ H Q,t' σ H Q->t σ H Q):PE X e t':=fun pins s σ H Q I q=>h pins s σ H Q I (w σ H Q q)
theorem PA_imp {t t':TA} (h:PA X es t) (w:∀ σ H Q,t' σ H Q->t σ H Q):PA X es t':=fun pos pins s σ H Q I q=>h pos pins s σ H Q I (w σ H Q q)
theorem PT_imp {t t':TT} (h:PT X e t) (w:∀ σ H Q,t' σ H Q->t σ H Q):PT X e t':=fun pins s σ H Q I q=>h pins s σ H Q I (w σ H Q q)
theorem PW_imp {t t':TT} (h:PW X e t) (w:∀ σ H Q,t' σ H Q->t σ H Q):PW X e t':=fun wh pins s σ H Q I q=>h wh pins s σ H Q I (w σ H Q q)
theorem QW.qt {t:TTp} (h:QW X e t):QT X e t:=⟨h.mono,fun HZ F=>(h.run HZ F).pt⟩
theorem QE.step {HZ:Hp} {F:Addr->Prop} {σ:St} {H:Hp} {ρ:List Sl} {Q:R->Prop} {Q':VK} (h:QE X e te) (fr:Fr X.K HZ F σ H ρ) (q:te ρ Q)
  (k:∀ r x H',Q r->a0r H H'->a3l X.K (MM F ρ) (Own ρ) H x r H'->Q' x H'):lift X.K HZ F te σ H Q':=⟨ρ,fr,h.mono _ _ _ (fun r qr x H' S rx=>k r x H' qr S rx) q⟩
theorem QA.step {HZ:Hp} {F:Addr->Prop} {σ:St} {H:Hp} {ρ:List Sl} {Q:List R->Prop} {Q':List V->Hp->Prop} (h:QA X es ts) (fr:Fr X.K HZ F σ H ρ) (q:ts ρ Q)
  (k:∀ rs xs H',Q rs->a0r H H'->a4W X.K (MM F ρ) (Own ρ) H xs rs H'->Q' xs H'):liftA X.K HZ F ts σ H Q':=⟨ρ,fr,h.mono _ _ _ (fun r qr x H' S rx=>k r x H' qr S rx) q⟩
theorem QT.step {t:TTp} {HZ:Hp} {F:Addr->Prop} {σ:St} {H:Hp} {ρ:List Sl} {Q:Bool->Prop} {Q':Bool->Hp->Prop} (h:QT X e t) (fr:Fr X.K HZ F σ H ρ) (q:t ρ Q)
  (k:∀ b H',Q b->a0r H H'->Q' b H'):liftT X.K HZ F t σ H Q':=⟨ρ,fr,h.mono _ _ _ (fun r qr H' S=>k r H' qr S) q⟩
def a0e (i:Nat):TEp:=fun ρ Q=>match ρ[i]? with
 | some (.v d)=>Q (.v d)
 | some (.own a d)=>Q (.ow a d)
 | _=>False
theorem a0c (i:Nat) {x:Str} (h:PE X (.Name x pos) (tVar i)):QE X (.Name x pos) (a0e i):=by
 refine ⟨fun ρ Q Q' w h=>?_,fun HZ F=>a0T h fun σ H Q ⟨ρ,fr,q⟩=>?_⟩
 ·unfold a0e at *
  split at h
  ·exact w _ h
  ·exact w _ h
  ·exact h
 ·unfold a0e at q
  split at q
  ·rename_i d e
   obtain ⟨x,hx,r⟩:=fr.sl i _ e
   exact ⟨x,hx,q x H (a0r.refl _) r⟩
  ·rename_i a d e
   obtain ⟨hx,r⟩:=fr.sl i _ e
   exact ⟨.ref a,hx,q _ H (a0r.refl _) ⟨rfl,List.mem_of_getElem? e,r⟩⟩
  ·exact q.elim
def eC (d:Dv):TEp:=fun _ Q=>Q (.v d)
theorem q_c {v:V} {d:Dv} (h:PE X e (tC v)) (r:∀ M H,Rep X.K M H v d):QE X e (eC d):=
 ⟨fun _ _ _ w q=>w _ q,fun HZ F=>a0T h fun σ H Q ⟨ρ,fr,q⟩=>q v H (a0r.refl _) (r _ _)⟩
theorem a0i {i j pos}:QE X (.Constant (.int i) j pos) (eC (.int i)):=q_c pe_int fun _ _=>.int i
theorem a8Y {b j pos}:QE X (.Constant (.bool b) j pos) (eC (.bl b)):=q_c pe_bl fun _ _=>.bl b
theorem q_non {j pos}:QE X (.Constant .none j pos) (eC .non):=q_c pe_non fun _ _=>.non
theorem a6C {x j pos}:QE X (.Constant (.str x) j pos) (eC (.str x)):=q_c pe_str fun _ _=>.str x
theorem a6D {x:Str} {n:Int} (hm:∃ t,X.mg x=some (.int n t)) (hg:Gl X x:=by rfl) (hd:(x == ("__debug__" : Str))=false:=by decide):QE X (.Name x pos) (eC (.int n)):=q_c (pe_globI hm hg hd) fun _ _=>.int n
def a0m:TAp:=fun _ Q=>Q []
def a0b (te:TEp) (ts:TAp):TAp:=fun ρ Q=>te ρ fun r=>ts ρ fun rs=>Q (r :: rs)
theorem a0h:QA X [] a0m:=⟨fun _ _ _ w q=>w _ q,fun HZ F=>PA_imp a7y fun σ H Q ⟨ρ,fr,q⟩=>q [] H (a0r.refl _) .nil⟩
theorem a0a (ha:QE X e te) (hr:QA X es ts) (hs:starEach (e :: es) X.env=(false,eval e X.env) :: starEach es X.env:=by rfl):QA X (e :: es) (a0b te ts):=by
 refine ⟨fun ρ Q Q' w h=>ha.mono _ _ _ (fun r q=>hr.mono _ _ _ (fun rs q=>w _ q) q) h,fun HZ F=>PA_imp (a3F (ha.run HZ F) (hr.run HZ F) hs) fun σ H Q ⟨ρ,fr,q⟩=>?_⟩
 refine ha.step fr q fun r x H1 q1 S1 r1=>?_
 refine hr.step (fr.mono S1) q1 fun rs xs H2 q2 S2 r2=>?_
 exact q2 _ H2 (S1.trans S2) (.cons (r1.mono S2) (r2.ahead S1))
def OpD (X:Cx) (f:Value->Value->Sem Value) (p:Dv->Dv->(R->Prop)->Prop):Prop:=
 (∀ dx dy (Q Q':R->Prop),(∀ r,Q r->Q' r)->p dx dy Q->p dx dy Q') /\ ∃ r:R2,OpR X f r /\ ∀ (M:Addr->Prop) (O:Addr->Dv->Prop) (H:Hp) (x y:V) (dx dy:Dv) (Q:VK),a3M X.K M H x dx->a3M X.K M H y dy ->
  p dx dy (fun rr=>∀ z H',a0r H H'->a3l X.K M O H z rr H'->Q z H')->r x y H Q
def eOp (p:Dv->Dv->(R->Prop)->Prop) (ta tb:TEp):TEp:=fun ρ Q=>ta ρ fun x=>tb ρ fun y=>p x.d y.d Q
theorem a8A {p:Dv->Dv->(R->Prop)->Prop} {r:R2} (ha:QE X a ta) (hb:QE X b tb) (hr:∀ (M:Addr->Prop) (O:Addr->Dv->Prop) (H:Hp) (x y:V) (dx dy:Dv) (Q:VK),a3M X.K M H x dx->a3M X.K M H y dy ->
  p dx dy (fun rr=>∀ z H',a0r H H'->a3l X.K M O H z rr H'->Q z H')->r x y H Q) (mo:∀ dx dy (Q Q':R->Prop),(∀ r,Q r->Q' r)->p dx dy Q->p dx dy Q') (HZ:Hp) (F:Addr->Prop) (σ:St) (H:Hp) (Q:VK)
  (h:lift X.K HZ F (eOp p ta tb) σ H Q):tOp r (lift X.K HZ F ta) (lift X.K HZ F tb) σ H Q:=by
 obtain ⟨ρ,fr,q⟩:=h
 refine ha.step fr q fun rx x H1 q1 S1 r1=>?_
 refine hb.step (fr.mono S1) q1 fun ry y H2 q2 S2 r2=>?_
 refine hr (MM F ρ) (Own ρ) H2 x y _ _ Q (r1.mono S2).c r2.c (mo _ _ _ _ (fun rr k z H' S rz=>?_) q2)
 exact k z H' ((S1.trans S2).trans S) (rz.ahead (S1.trans S2))
theorem a6n {p:Dv->Dv->(R->Prop)->Prop} (ha:QE X a ta) (hb:QE X b tb) (mo:∀ dx dy (Q Q':R->Prop),(∀ r,Q r->Q' r)->p dx dy Q->p dx dy Q') (ρ:List Sl) (Q Q':R->Prop) (w:∀ r,Q r->Q' r) (h:eOp p ta tb ρ Q):eOp p ta tb ρ Q':=
 ha.mono _ _ _ (fun rx h=>hb.mono _ _ _ (fun ry h=>mo _ _ _ _ w h) h) h
theorem a0U {op:Operator} {p:Dv->Dv->(R->Prop)->Prop} (ho:OpD X (binaryOp op) p) (ha:QE X a ta) (hb:QE X b tb):QE X (.BinOp a op b pos) (eOp p ta tb):=by
 obtain ⟨mo,r,hR,hr⟩:=ho
 exact ⟨a6n ha hb mo,fun HZ F=>a0T (pe_op hR (ha.run HZ F) (hb.run HZ F)) (a8A ha hb hr mo HZ F)⟩
theorem a8X {op:CmpOp} {p:Dv->Dv->(R->Prop)->Prop} (ho:OpD X (compareOp op) p) (ha:QE X a ta) (hb:QE X b tb) (hm:behindInMarks op b=false:=by first | exact nomark _ | rfl):QE X (.Compare a [op] [b] pos) (eOp p ta tb):=by
 obtain ⟨mo,r,hR,hr⟩:=ho
 exact ⟨a6n ha hb mo,fun HZ F=>a0T (pe_cmpR hR (ha.run HZ F) (hb.run HZ F) hm) (a8A ha hb hr mo HZ F)⟩
def a1n (te:TEp):TTp:=fun ρ Q=>te ρ fun r=>match r.d with
 | .bl c=>Q c
 | _=>False
theorem a7H (mo:∀ (ρ:List Sl) (Q Q':R->Prop),(∀ r,Q r->Q' r)->te ρ Q->te ρ Q') (ρ:List Sl) (Q Q':Bool->Prop) (w:∀ r,Q r->Q' r) (h:a1n te ρ Q):a1n te ρ Q':=by
 refine mo _ _ _ (fun r q=>?_) h
 split at q
 ·exact w _ q
 ·exact q.elim
theorem eTest_of {HZ:Hp} {F:Addr->Prop} {σ:St} {H:Hp} {Q:Bool->Hp->Prop} (mo:∀ (ρ:List Sl) (Q Q':R->Prop),(∀ r,Q r->Q' r)->te ρ Q->te ρ Q') (h:liftT X.K HZ F (a1n te) σ H Q):lift X.K HZ F te σ H fun x H'=>∃ k,x=.bl k/\Q k H':=by
 obtain ⟨ρ,fr,q⟩:=h
 refine ⟨ρ,fr,mo _ _ _ (fun r q x H' S rx=>?_) q⟩
 split at q
 ·rename_i c e
  have:=rx.c
  rw [e] at this
  exact ⟨c,this.bl,q H' S⟩
 ·exact q.elim
theorem a1M {op:CmpOp} {p:Dv->Dv->(R->Prop)->Prop} (ho:OpD X (compareOp op) p) (ha:QE X a ta) (hb:QE X b tb) (hm:behindInMarks op b=false:=by first | exact nomark _ | rfl):QT X (.Compare a [op] [b] pos) (a1n (eOp p ta tb)):=by
 obtain ⟨mo,r,hR,hr⟩:=ho
 have m1:=a6n ha hb mo
 exact ⟨a7H m1,fun HZ F=>PT_imp (pt_cmpR hR (ha.run HZ F) (hb.run HZ F) hm) fun σ H Q h=>a8A ha hb hr mo HZ F σ H _ (eTest_of m1 h)⟩
def eAnd (t u:TTp):TTp:=fun ρ Q=>t ρ fun c=>if c=true then u ρ Q else Q false
def eOr (t u:TTp):TTp:=fun ρ Q=>t ρ fun c=>if c=true then Q true else u ρ Q
def a6T (t:TTp):TTp:=fun ρ Q=>t ρ fun c=>Q (!c)
theorem a6B {t:TTp} (h:QT X a t):QW X (.BoolOp .Or [a] pos) t:=⟨h.mono,fun HZ F=>pw_or1 (h.run HZ F)⟩
theorem a8V {t u:TTp} {rest:List Expr} (h:QT X a t) (k:QW X (.BoolOp .Or (b :: rest) pos) u):QW X (.BoolOp .Or (a :: b :: rest) pos) (eOr t u):=by
 refine ⟨fun ρ Q Q' w q=>h.mono _ _ _ (fun c q=>?_) q,fun HZ F=>PW_imp (pw_or (h.run HZ F) (k.run HZ F)) fun σ H Q ⟨ρ,fr,q⟩=>?_⟩
 ·split at q
  ·rw [if_pos ‹_›]; exact w _ q
  ·rw [if_neg ‹_›]; exact k.mono _ _ _ w q
 ·refine h.step fr q fun c H1 q1 S1=>?_
  cases c with
  | true=>
   simp only [if_true] at q1
   exact a8M (q1 H1 S1)
  | false=>
   simp only [Bool.false_eq_true,if_false] at q1
   exact a7h ⟨ρ,fr.mono S1,k.mono _ _ _ (fun b q H' S=>q H' (S1.trans S)) q1⟩
theorem a2o {t:TTp} (h:QT X a t):QT X (.UnaryOp .Not a pos) (a6T t):=
 ⟨fun ρ Q Q' w q=>h.mono _ _ _ (fun c q=>w _ q) q,fun HZ F=>PT_imp (pt_not (h.run HZ F)) fun σ H Q ⟨ρ,fr,q⟩=>h.step fr q fun c H1 q1 S1=>q1 H1 S1⟩
def a6U (ta tb:TEp):TEp:=fun ρ Q=>ta ρ fun r=>match r.d with
 | .bl c=>if c=true then tb ρ Q else Q (.v (.bl false))
 | _=>False
def eOrV (ta tb:TEp):TEp:=fun ρ Q=>ta ρ fun r=>match r.d with
 | .bl c=>if c=true then Q (.v (.bl true)) else tb ρ Q
 | _=>False
def eNotV (ta:TEp):TEp:=fun ρ Q=>ta ρ fun r=>match r.d with
 | .bl c=>Q (.v (.bl (!c)))
 | _=>False
theorem a7W {op} (h:QE X a ta):QE X (.BoolOp op [a] pos) ta:=⟨h.mono,fun HZ F=>pe_one (h.run HZ F)⟩
theorem a8Z {rest:List Expr} (h:QE X a ta) (k:QE X (.BoolOp .And (b :: rest) pos) tb):QE X (.BoolOp .And (a :: b :: rest) pos) (a6U ta tb):=by
 refine ⟨fun ρ Q Q' w q=>h.mono _ _ _ (fun c q=>?_) q,fun HZ F=>a0T (pe_and (h.run HZ F) (k.run HZ F)) fun σ H Q ⟨ρ,fr,q⟩=>?_⟩
 ·split at q
  ·split at q
   ·rw [if_pos ‹_›]; exact k.mono _ _ _ w q
   ·rw [if_neg ‹_›]; exact w _ q
  ·exact q
 ·refine h.step fr q fun r x H1 q1 S1 r1=>?_
  split at q1
  ·rename_i c e
   have rc:=r1.c
   rw [e] at rc
   refine ⟨c,rc.bl,?_⟩
   cases c with
   | true=>
    simp only [if_true] at q1
    exact a8M ⟨ρ,fr.mono S1,k.mono _ _ _ (fun b q z H' S rz=>q z H' (S1.trans S) (rz.ahead S1)) q1⟩
   | false=>
    simp only [Bool.false_eq_true,if_false] at q1
    exact a7h (q1 _ H1 S1 (Rep.bl false))
  ·exact q1.elim
theorem q_or {rest:List Expr} (h:QE X a ta) (k:QE X (.BoolOp .Or (b :: rest) pos) tb):QE X (.BoolOp .Or (a :: b :: rest) pos) (eOrV ta tb):=by
 refine ⟨fun ρ Q Q' w q=>h.mono _ _ _ (fun c q=>?_) q,fun HZ F=>a0T (pe_or (h.run HZ F) (k.run HZ F)) fun σ H Q ⟨ρ,fr,q⟩=>?_⟩
 ·split at q
  ·split at q
   ·rw [if_pos ‹_›]; exact w _ q
   ·rw [if_neg ‹_›]; exact k.mono _ _ _ w q
  ·exact q
 ·refine h.step fr q fun r x H1 q1 S1 r1=>?_
  split at q1
  ·rename_i c e
   have rc:=r1.c
   rw [e] at rc
   refine ⟨c,rc.bl,?_⟩
   cases c with
   | true=>
    simp only [if_true] at q1
    exact a8M (q1 _ H1 S1 (Rep.bl true))
   | false=>
    simp only [Bool.false_eq_true,if_false] at q1
    exact a7h ⟨ρ,fr.mono S1,k.mono _ _ _ (fun b q z H' S rz=>q z H' (S1.trans S) (rz.ahead S1)) q1⟩
  ·exact q1.elim
theorem q_not (h:QE X a ta):QE X (.UnaryOp .Not a pos) (eNotV ta):=by
 refine ⟨fun ρ Q Q' w q=>h.mono _ _ _ (fun c q=>?_) q,fun HZ F=>a0T (pe_not (h.run HZ F)) fun σ H Q ⟨ρ,fr,q⟩=>?_⟩
 ·split at q
  ·exact w _ q
  ·exact q
 ·refine h.step fr q fun r x H1 q1 S1 r1=>?_
  split at q1
  ·rename_i c e
   have rc:=r1.c
   rw [e] at rc
   exact ⟨c,rc.bl,q1 _ H1 S1 (Rep.bl _)⟩
  ·exact q1.elim
def eIf (t:TTp) (ta tb:TEp):TEp:=fun ρ Q=>t ρ fun c=>if c=true then ta ρ Q else tb ρ Q
theorem q_ifExp {t:TTp} (hc:QT X c t) (ha:QE X a ta) (hb:QE X b tb):QE X (.IfExp c a b pos) (eIf t ta tb):=by
 refine ⟨fun ρ Q Q' w q=>hc.mono _ _ _ (fun c q=>?_) q,fun HZ F=>a0T (pe_ifExp (hc.run HZ F) (ha.run HZ F) (hb.run HZ F)) fun σ H Q ⟨ρ,fr,q⟩=>?_⟩
 ·split at q
  ·rw [if_pos ‹_›]; exact ha.mono _ _ _ w q
  ·rw [if_neg ‹_›]; exact hb.mono _ _ _ w q
 ·refine hc.step fr q fun c H1 q1 S1=>?_
  cases c with
  | true=>
   simp only [if_true] at q1
   exact a8M ⟨ρ,fr.mono S1,ha.mono _ _ _ (fun b q z H' S rz=>q z H' (S1.trans S) (rz.ahead S1)) q1⟩
  | false=>
   simp only [Bool.false_eq_true,if_false] at q1
   exact a7h ⟨ρ,fr.mono S1,hb.mono _ _ _ (fun b q z H' S rz=>q z H' (S1.trans S) (rz.ahead S1)) q1⟩
def a4s (ts:TAp):TEp:=fun ρ Q=>ts ρ fun rs=>rs.all R.free=true/\rs.length<=1000/\Q (.v (.tup (rs.map R.d)))
def a3P (ts:TAp):TEp:=fun ρ Q=>ts ρ fun rs=>rs.all R.free=true/\rs.length<=1000/\Q (.nw (.lst (rs.map R.d)))
theorem a6w {n:Nat} (h:n<=1000):n<=sizeLine:=Nat.le_of_lt (small1000 h)
theorem a0r.new' {H:Hp} {l:Addr} {o:HO} (hl:H l=none):a0r H (upd H l o):=fun b q e=>by rw [a0w (a0u e hl)]; exact e
theorem a2T {x1} (h:QA X es ts):QE X (.Tuple es x1 pos) (a4s ts):=by
 refine ⟨fun ρ Q Q' w q=>h.mono _ _ _ (fun rs q=>⟨q.1,q.2.1,w _ q.2.2⟩) q,fun HZ F=>a0T (pe_tup (h.run HZ F)) fun σ H Q ⟨ρ,fr,q⟩=>?_⟩
 refine h.step fr q fun rs xs H1 ⟨q1,q2,q3⟩ S1 r1=>?_
 have hl:xs.length=rs.length:=Paired.length r1
 refine ⟨a6w (by ac_rfl),fun p hp=>q3 _ _ (S1.trans (a0r.new' hp)) ?_⟩
 exact .tup a0E ((r1.reps (fun a m=>fr.dom m) q1).mono (a0r.new' hp))
theorem a2U (h:QA X es ts):QE X (.List es pos) (a3P ts):=by
 refine ⟨fun ρ Q Q' w q=>h.mono _ _ _ (fun rs q=>⟨q.1,q.2.1,w _ q.2.2⟩) q,fun HZ F=>a0T (pe_lst (h.run HZ F)) fun σ H Q ⟨ρ,fr,q⟩=>?_⟩
 refine h.step fr q fun rs xs H1 ⟨q1,q2,q3⟩ S1 r1=>?_
 have hl:xs.length=rs.length:=Paired.length r1
 refine ⟨a6w (by ac_rfl),fun p hp=>q3 _ _ (S1.trans (a0r.new' hp)) ?_⟩
 exact ⟨p,rfl,S1.free hp,xs,a0E,((r1.reps (fun a m=>fr.dom m) q1).gen (.fresh hp)).mono (a0r.new' hp)⟩
end
end Z
namespace Z
open PySem PySem.Spec PyProof.Rows L2
noncomputable abbrev LIM:Nat:=1000000
theorem a2V {n:Nat} (h:n<=LIM):n<=sizeLine:=Nat.le_trans h (by rw [sizeLine_eq]; decide)
section
variable {K:W.Frag} {M:Addr->Prop} {O:Addr->Dv->Prop} {H:Hp}
theorem a6a {p:Addr} {xs:List V} {ds:List Dv} (hp:H p=none) (r:Reps K M H xs ds):a3l K M O H (.ref p) (.nw (.lst ds)) (upd H p (.lst xs)):=⟨p,rfl,hp,xs,a0E,(r.gen (.fresh hp)).mono (a0r.new' hp)⟩
theorem v_tup {p:Addr} {xs:List V} {ds:List Dv} (hp:H p=none) (r:Reps K M H xs ds):a3l K M O H (.ref p) (.v (.tup ds)) (upd H p (.tup xs)):=Rep.tup a0E (r.mono (a0r.new' hp))
end
def a1N:Dv->Dv->(R->Prop)->Prop
 | .int i,.int j,Q=>Q (.v (.int (i + j)))
 | .lst xs,.lst ys,Q=>xs.length + ys.length<=LIM/\Q (.nw (.lst (xs ++ ys)))
 | .str x,.str y,Q=>x.length + y.length<=LIM/\Q (.v (.str (x ++ y)))
 | _,_,_=>False
def pSub:Dv->Dv->(R->Prop)->Prop
 | .int i,.int j,Q=>Q (.v (.int (i - j)))
 | _,_,_=>False
def a9L (i j:Int):Prop:=CMul i j \/ (i.natAbs < 2 ^ 4000/\j.natAbs < 2 ^ 4000)
def a5Y:Dv->Dv->(R->Prop)->Prop
 | .int i,.int j,Q=>a9L i j/\Q (.v (.int (i * j)))
 | .lst xs,.int k,Q=>(-(2 ^ 63)<=k/\k < 2 ^ 63/\xs.length * k.toNat<=LIM)/\Q (.nw (.lst (List.replicate k.toNat xs).flatten))
 | _,_,_=>False
def a4v:Dv->Dv->(R->Prop)->Prop
 | .int i,.int j,Q=>(0 < j/\j < 2 ^ 200)/\Q (.v (.int (i / j)))
 | _,_,_=>False
def pDivG:Dv->Dv->(R->Prop)->Prop
 | .int i,.int j,Q=>(j ≠ 0/\j.natAbs < 2 ^ 4000)/\Q (.v (.int (i.fdiv j)))
 | _,_,_=>False
def a3h:Dv->Dv->(R->Prop)->Prop
 | .int i,.int j,Q=>0 < j/\Q (.v (.int (i % j)))
 | _,_,_=>False
def b0X:Dv->Dv->(R->Prop)->Prop
 | .int i,.int j,Q=>CPow i j/\Q (.v (.int (i ^ j.toNat)))
 | _,_,_=>False
section
variable {X:Cx}
theorem pAdd_mono:∀ dx dy (Q Q':R->Prop),(∀ r,Q r->Q' r)->a1N dx dy Q->a1N dx dy Q':=by
 intro dx dy Q Q' w h
 unfold a1N at h
 split at h
 ·exact w _ h
 ·exact ⟨h.1,w _ h.2⟩
 ·exact ⟨h.1,w _ h.2⟩
 ·exact h.elim
theorem a0A:OpD X (binaryOp .Add) a1N:=by
 refine ⟨pAdd_mono,_,op_add.or (op_cat.or op_add_str),fun M O H x y dx dy Q cx cy h=>?_⟩
 unfold a1N at h
 split at h
 ·obtain rfl:=cx.int
  obtain rfl:=cy.int
  exact .inl ⟨_,_,rfl,rfl,h _ H (a0r.refl _) (Rep.int _)⟩
 ·obtain ⟨a,xs,rfl,ea,ra⟩:=cx.lst
  obtain ⟨b,ys,rfl,eb,rb⟩:=cy.lst
  have l1:=ra.length
  have l2:=rb.length
  exact .inr (.inl ⟨a,b,xs,ys,rfl,rfl,ea,eb,a2V (by ac_rfl),fun p hp=>h.2 _ _ (a0r.new' hp) (a6a hp (ra.append rb))⟩)
 ·obtain rfl:=cx.str
  obtain rfl:=cy.str
  exact .inr (.inr ⟨_,_,rfl,rfl,a2V h.1,h.2 _ H (a0r.refl _) (Rep.str _)⟩)
 ·exact h.elim
theorem pSub_mono:∀ dx dy (Q Q':R->Prop),(∀ r,Q r->Q' r)->pSub dx dy Q->pSub dx dy Q':=by
 intro dx dy Q Q' w h
 unfold pSub at h
 split at h
 ·exact w _ h
 ·exact h.elim
theorem a6G:OpD X (binaryOp .Sub) pSub:=by
 refine ⟨pSub_mono,_,op_sub,fun M O H x y dx dy Q cx cy h=>?_⟩
 unfold pSub at h
 split at h
 ·obtain rfl:=cx.int
  obtain rfl:=cy.int
  exact ⟨_,_,rfl,rfl,h _ H (a0r.refl _) (Rep.int _)⟩
 ·exact h.elim
theorem a9L.ok {i j:Int} (h:a9L i j):IntMulOk i j:=by
 rcases h with h | ⟨h1,h2⟩
 ·exact h.ok
 ·have key:∀ {z:Int},z.natAbs < 2 ^ 4000->Builtin.Int.intBits z<=2 ^ 20:=fun {z} hz=>by
   have hl:z.natAbs ≠ 0->z.natAbs.log2 < 4000:=fun h0=>(Nat.log2_lt h0).mpr hz
   clear hz h1 h2
   unfold Builtin.Int.intBits
   by_cases h0:z=0
   ·simp [h0]
   ·have:=hl (by ac_rfl)
    simp [h0]
    ac_rfl
  exact IntMulOk.of_bits (key h1) (key h2)
theorem op_mulG:OpR X (binaryOp .Mult) (rI a9L fun i j=>.int (i * j)):=opI fun _ _ _ _ _ _ _ hc q=>mul_int q hc.ok
theorem pMul_mono:∀ dx dy (Q Q':R->Prop),(∀ r,Q r->Q' r)->a5Y dx dy Q->a5Y dx dy Q':=by
 intro dx dy Q Q' w h
 unfold a5Y at h
 split at h
 ·exact ⟨h.1,w _ h.2⟩
 ·exact ⟨h.1,w _ h.2⟩
 ·exact h.elim
theorem a1Y:OpD X (binaryOp .Mult) a5Y:=by
 refine ⟨pMul_mono,_,op_mulG.or op_rep,fun M O H x y dx dy Q cx cy h=>?_⟩
 unfold a5Y at h
 split at h
 ·obtain rfl:=cx.int
  obtain rfl:=cy.int
  exact .inl ⟨_,_,rfl,rfl,h.1,h.2 _ H (a0r.refl _) (Rep.int _)⟩
 ·obtain ⟨a,xs,rfl,ea,ra⟩:=cx.lst
  obtain rfl:=cy.int
  have l1:=ra.length
  exact .inr ⟨a,_,xs,rfl,rfl,ea,h.1.1,h.1.2.1,a2V (by rw [l1]; exact h.1.2.2),fun p hp=>h.2 _ _ (a0r.new' hp) (a6a hp (ra.repl _))⟩
 ·exact h.elim
theorem pDiv_mono:∀ dx dy (Q Q':R->Prop),(∀ r,Q r->Q' r)->a4v dx dy Q->a4v dx dy Q':=by
 intro dx dy Q Q' w h
 unfold a4v at h
 split at h
 ·exact ⟨h.1,w _ h.2⟩
 ·exact h.elim
theorem a2h:OpD X (binaryOp .FloorDiv) a4v:=by
 refine ⟨pDiv_mono,_,op_fdivB,fun M O H x y dx dy Q cx cy h=>?_⟩
 unfold a4v at h
 split at h
 ·obtain rfl:=cx.int
  obtain rfl:=cy.int
  exact ⟨_,_,rfl,rfl,h.1,h.2 _ H (a0r.refl _) (Rep.int _)⟩
 ·exact h.elim
theorem pMod_mono:∀ dx dy (Q Q':R->Prop),(∀ r,Q r->Q' r)->a3h dx dy Q->a3h dx dy Q':=by
 intro dx dy Q Q' w h
 unfold a3h at h
 split at h
 ·exact ⟨h.1,w _ h.2⟩
 ·exact h.elim
theorem a0V:OpD X (binaryOp .Mod) a3h:=by
 refine ⟨pMod_mono,_,op_mod,fun M O H x y dx dy Q cx cy h=>?_⟩
 unfold a3h at h
 split at h
 ·obtain rfl:=cx.int
  obtain rfl:=cy.int
  exact ⟨_,_,rfl,rfl,h.1,h.2 _ H (a0r.refl _) (Rep.int _)⟩
 ·exact h.elim
theorem pPow_mono:∀ dx dy (Q Q':R->Prop),(∀ r,Q r->Q' r)->b0X dx dy Q->b0X dx dy Q':=by
 intro dx dy Q Q' w h
 unfold b0X at h
 split at h
 ·exact ⟨h.1,w _ h.2⟩
 ·exact h.elim
theorem a4J:OpD X (binaryOp .Pow) b0X:=by
 refine ⟨pPow_mono,_,op_pow,fun M O H x y dx dy Q cx cy h=>?_⟩
 unfold b0X at h
 split at h
 ·obtain rfl:=cx.int
  obtain rfl:=cy.int
  exact ⟨_,_,rfl,rfl,h.1,h.2 _ H (a0r.refl _) (Rep.int _)⟩
 ·exact h.elim
def eNeg (ta:TEp):TEp:=fun ρ Q=>ta ρ fun r=>match r.d with
 | .int i=>Q (.v (.int (-i)))
 | _=>False
theorem q_neg {a:Expr} {pos:Pos} {ta:TEp} (h:QE X a ta):QE X (.UnaryOp .USub a pos) (eNeg ta):=by
 refine ⟨fun ρ Q Q' w q=>h.mono _ _ _ (fun c q=>?_) q,fun HZ F=>a0T (pe_un un_neg (h.run HZ F)) fun σ H Q ⟨ρ,fr,q⟩=>?_⟩
 ·split at q
  ·exact w _ q
  ·exact q
 ·refine h.step fr q fun r x H1 q1 S1 r1=>?_
  split at q1
  ·rename_i i e
   have rc:=r1.c
   rw [e] at rc
   exact ⟨i,rc.int,q1 _ H1 S1 (Rep.int _)⟩
  ·exact q1.elim
def pI2 (f:Int->Int->Bool):Dv->Dv->(R->Prop)->Prop
 | .int i,.int j,Q=>Q (.v (.bl (f i j)))
 | _,_,_=>False
theorem a8f {f:Int->Int->Bool}:∀ dx dy (Q Q':R->Prop),(∀ r,Q r->Q' r)->pI2 f dx dy Q->pI2 f dx dy Q':=by
 intro dx dy Q Q' w h
 unfold pI2 at h
 split at h
 ·exact w _ h
 ·exact h.elim
theorem opd_i2 {g:Value->Value->Sem Value} {f:Int->Int->Bool} (h:OpR X g (rI0 fun i j=>.bl (f i j))):OpD X g (pI2 f):=by
 refine ⟨a8f,_,h,fun M O H x y dx dy Q cx cy h=>?_⟩
 unfold pI2 at h
 split at h
 ·obtain rfl:=cx.int
  obtain rfl:=cy.int
  exact ⟨_,_,rfl,rfl,h _ H (a0r.refl _) (Rep.bl _)⟩
 ·exact h.elim
noncomputable abbrev pLt:=pI2 fun i j=>decide (i < j)
noncomputable abbrev pLe:=pI2 fun i j=>decide (i<=j)
noncomputable abbrev pGt:=pI2 fun i j=>decide (j < i)
theorem b1g:OpD X (compareOp .Lt) pLt:=opd_i2 op_lt
theorem opd_le:OpD X (compareOp .LtE) pLe:=opd_i2 op_le
theorem a9e:OpD X (compareOp .Gt) pGt:=opd_i2 op_gt
def a7I (p p':Dv->Dv->(R->Prop)->Prop) (ta tb tc:TEp):TEp:=fun ρ Q=>ta ρ fun x=>tb ρ fun y=>p x.d y.d fun z=>match z.d with
 | .bl k=>if k=true then tc ρ fun w=>p' y.d w.d Q else Q (.v (.bl false))
 | _=>False
noncomputable def isN:Dv->Bool
 | .non=>true
 | _=>false
def pIsN:Dv->Dv->(R->Prop)->Prop
 | d,.non,Q=>Q (.v (.bl (isN d)))
 | _,_,_=>False
def pNotN:Dv->Dv->(R->Prop)->Prop
 | d,.non,Q=>Q (.v (.bl (!isN d)))
 | _,_,_=>False
end
noncomputable def pyD:Dv->PyData
 | .non=>.none
 | .bl b=>.bool b
 | .int i=>.int i
 | .str x=>.str x
 | .tup xs=>.tuple (pyDs xs)
 | .lst xs=>.list (pyDs xs)
 | .scr ns=>.list (ns.map .int)
 | _=>.dict []
where pyDs:List Dv->List PyData
 | []=>[]
 | d :: r=>pyD d :: pyDs r
noncomputable abbrev pyDs:=pyD.pyDs
noncomputable def okD:Nat->Dv->Bool
 | _,.non=>true
 | _,.bl _=>true
 | _,.int _=>true
 | _,.str x=>PyData.strOk x
 | n + 1,.tup xs=>okDs n xs
 | n + 1,.lst xs=>okDs n xs
 | _ + 1,.scr _=>true
 | _,_=>false
where okDs:Nat->List Dv->Bool
 | _,[]=>true
 | n,d :: r=>okD n d && okDs n r
noncomputable abbrev okDs:=okD.okDs
noncomputable def eqD (a b:Dv):Bool:=PyData.eqv (pyD a) (pyD b)
theorem b0D (ns:List Int):PyData.canLayAll0 (ns.map .int)=true:=by
 induction ns with
 | nil=>rfl
 | cons n r ih=>rw [List.map_cons,PyData.canLayAll0,ih]; rfl
theorem depth_ints (ns:List Int):PyData.depthAll (ns.map .int)=0:=by
 induction ns with
 | nil=>rfl
 | cons n r ih=>rw [List.map_cons,PyData.depthAll,ih]; rfl
mutual
theorem b0h:∀ (n:Nat) (d:Dv),okD n d=true->(pyD d).canLay0=true/\(pyD d).depth<=n
 | _,.non,_=>⟨by simp [pyD,PyData.canLay0],by simp [pyD,PyData.depth]⟩
 | _,.bl _,_=>⟨by simp [pyD,PyData.canLay0],by simp [pyD,PyData.depth]⟩
 | _,.int _,_=>⟨by simp [pyD,PyData.canLay0],by simp [pyD,PyData.depth]⟩
 | _,.str x,h=>⟨by rw [pyD,PyData.canLay0]; cases ‹Nat› <;> simpa [okD] using h,by simp [pyD,PyData.depth]⟩
 | 0,.tup _,h=>by simp [okD] at h
 | 0,.lst _,h=>by simp [okD] at h
 | 0,.scr _,h=>by simp [okD] at h
 | n + 1,.tup xs,h=>by
  have:=a8k n xs (by rw [okD] at h; exact h)
  exact ⟨by rw [pyD,PyData.canLay0]; exact this.1,by rw [pyD,PyData.depth]; have h2:PyData.depthAll (pyD.pyDs xs)<=n:=this.2; ac_rfl⟩
 | n + 1,.lst xs,h=>by
  have:=a8k n xs (by rw [okD] at h; exact h)
  exact ⟨by rw [pyD,PyData.canLay0]; exact this.1,by rw [pyD,PyData.depth]; have h2:PyData.depthAll (pyD.pyDs xs)<=n:=this.2; ac_rfl⟩
 | n + 1,.scr ns,_=>⟨by rw [pyD,PyData.canLay0]; exact b0D ns,by rw [pyD,PyData.depth,depth_ints]; ac_rfl⟩
 | 0,.dik _,h=>by simp [okD] at h
 | 0,.dit _,h=>by simp [okD] at h
 | 0,.obj _ _,h=>by simp [okD] at h
 | 0,.exc _ _,h=>by simp [okD] at h
 | _ + 1,.exc _ _,h=>by simp [okD] at h
 | 0,.dns _,h=>by simp [okD] at h
 | _ + 1,.dns _,h=>by simp [okD] at h
 | _ + 1,.dik _,h=>by simp [okD] at h
 | _ + 1,.dit _,h=>by simp [okD] at h
 | _ + 1,.obj _ _,h=>by simp [okD] at h
theorem a8k:∀ (n:Nat) (ds:List Dv),okDs n ds=true->PyData.canLayAll0 (pyDs ds)=true/\PyData.depthAll (pyDs ds)<=n
 | _,[],_=>⟨by simp [pyD.pyDs,PyData.canLayAll0],by simp [pyD.pyDs,PyData.depthAll]⟩
 | n,d :: r,h=>by
  have h':(okD n d && okDs n r)=true:=h
  rw [Bool.and_eq_true] at h'
  have h1:=b0h n d h'.1
  have h2:=a8k n r h'.2
  refine ⟨by show PyData.canLayAll0 (pyD d :: pyDs r)=true; rw [PyData.canLayAll0,h1.1,h2.1]; rfl,?_⟩
  show PyData.depthAll (pyD d :: pyDs r)<=n
  rw [PyData.depthAll]
  ac_rfl
end
theorem a4k {n:Nat} {d:Dv} (h:okD n d=true) (hn:n<=64):SeqAt.shaped (pyD d)=true:=by
 obtain ⟨h1,h2⟩:=b0h n d h
 unfold SeqAt.shaped
 rw [h1,decide_eq_true (by ac_rfl)]
 rfl
section
variable {X:Cx} {M:Addr->Prop} {pins:List (Addr × Obj)} {σ:St} {H:Hp} {s:Shared}
theorem a7D {h:Heap}:∀ {ns:List Int} {us:List Value},a1u (ns.map V.int) us -> ∃ as,ReadsAll h us (ns.map PyData.int) as
 | [],_,.nil=>⟨_,.nil⟩
 | n :: r,_,.cons a t=>by
  obtain ⟨tk,rfl⟩:=a
  obtain ⟨as,q⟩:=a7D (h:=h) t
  exact ⟨_,.cons (.int n tk) q⟩
theorem a8i {n:Nat} {d:Dv} {ds:List Dv} (f:okDs n (d :: ds)=true):okD n d=true/\okDs n ds=true:=by
 have f':(okD n d && okDs n ds)=true:=f
 rwa [Bool.and_eq_true] at f'
theorem Rep.reads (I:Inv X pins σ H s) {n:Nat} {x:V} {d:Dv} {u:Value} (q:Rep X.K M H x d) (ok:okD n d=true) (r:a1W x u):∃ as,Reads s.heap u (pyD d) as:=by
 refine Rep.rec (motive_1:=fun x d _=>∀ n u,okD n d=true->a1W x u -> ∃ as,Reads s.heap u (pyD d) as) (motive_2:=fun xs ds _=>∀ n us,okDs n ds=true->a1u xs us -> ∃ as,ReadsAll s.heap us (pyDs ds) as) (motive_3:=fun _ _ _=>True) (motive_4:=fun _ _ _=>True) (motive_5:=fun _ _ _=>True)
  (fun n u _ r=>by cases r; exact ⟨_,.none⟩) (fun b n u _ r=>by cases r; exact ⟨_,.bool b⟩) (fun i n u _ r=>by obtain ⟨t,rfl⟩:=r; exact ⟨_,.int i t⟩) (fun y n u _ r=>by obtain ⟨t,rfl⟩:=r; exact ⟨_,.str y t⟩) ?tup ?lst ?dik ?dit ?obj ?scr ?exc ?dns ?nil ?cons
  trivial (fun _ _ _ _=>trivial) trivial (fun _ _ _ _=>trivial) trivial (fun _ _ _ _=>trivial) q n u ok r
 case tup=>
  intro a xs ds e _ ih n u ok r
  cases n with
  | zero=>simp [okD] at ok
  | succ n=>
   cases r
   obtain ⟨_,its,rv,o,ho,hc,m,hd⟩:=I.hok _ _ e
   obtain ⟨as,ra⟩:=ih n its (by rw [okD] at ok; exact ok) rv
   exact ⟨_,.tuple ho hc hd ra⟩
 case lst=>
  intro a xs ds e _ _ ih n u ok r
  cases n with
  | zero=>simp [okD] at ok
  | succ n=>
   cases r
   obtain ⟨_,its,m,rv,ho⟩:=I.hok _ _ e
   obtain ⟨as,ra⟩:=ih n its (by rw [okD] at ok; exact ok) rv
   exact ⟨_,.list ho rfl rfl ra⟩
 case dik=>intro a xs ds _ _ _ _ n u ok; cases n <;> simp [okD] at ok
 case dit=>intro a ep xs ds _ _ _ _ n u ok; cases n <;> simp [okD] at ok
 case obj=>intro a C dx xs ds _ _ _ _ n u ok; cases n <;> simp [okD] at ok
 case scr=>
  intro a ns e n u _ r
  cases r
  obtain ⟨its,rv,pl,_⟩:=I.list e.sq
  obtain ⟨o,ho,hc,m,hd⟩:=pl.isList
  obtain ⟨as,ra⟩:=a7D (h:=s.heap) rv
  exact ⟨_,.list ho hc hd (by simpa using ra)⟩
 case exc=>intro a C p _ n u ok; cases n <;> simp [okD] at ok
 case dns=>intro a ks _ _ n u ok; cases n <;> simp [okD] at ok
 case nil=>intro n us _ r; cases r; exact ⟨_,.nil⟩
 case cons=>
  intro x d xs ds _ _ i1 i2 n us ok r
  cases r with
  | cons r1 r2=>
   obtain ⟨as,ra⟩:=i1 n _ (a8i ok).1 r1
   obtain ⟨bs,rb⟩:=i2 n _ (a8i ok).2 r2
   exact ⟨_,.cons ra rb⟩
theorem Reps.reads (I:Inv X pins σ H s) {n:Nat} {xs:List V} {ds:List Dv} {us:List Value} (q:Reps X.K M H xs ds) (ok:okDs n ds=true) (r:a1u xs us):∃ as,ReadsAll s.heap us (pyDs ds) as:=
 q.ind (P:=fun xs ds=>∀ us,okDs n ds=true->a1u xs us -> ∃ as,ReadsAll s.heap us (pyDs ds) as) (fun us _ r=>by cases r; exact ⟨_,.nil⟩) (fun x d xs ds a _ ih us ok r=>by
  cases r with
  | cons r1 r2=>
   obtain ⟨as,ra⟩:=a.reads I (a8i ok).1 r1
   obtain ⟨bs,rb⟩:=ih _ (a8i ok).2 r2
   exact ⟨_,.cons ra rb⟩) us ok r
theorem a3M.reads (I:Inv X pins σ H s) {n:Nat} {x:V} {d:Dv} {u:Value} (c:a3M X.K M H x d) (ok:okD n d=true) (r:a1W x u):∃ as,Reads s.heap u (pyD d) as:=by
 rcases c with c | ⟨a,rfl,o⟩
 ·exact c.reads I ok r
 ·cases d with
  | lst ds=>
   obtain ⟨xs,e,q⟩:=o
   cases r
   cases n with
   | zero=>simp [okD] at ok
   | succ n=>
    obtain ⟨_,its,m,rv,ho⟩:=I.hok _ _ e
    obtain ⟨as,ra⟩:=Reps.reads I q (by rw [okD] at ok; exact ok) rv
    exact ⟨_,.list ho rfl rfl ra⟩
  | dik _=>cases n <;> simp [okD] at ok
  | dit _=>cases n <;> simp [okD] at ok
  | obj _ _=>cases n <;> simp [okD] at ok
  | dns _=>cases n <;> simp [okD] at ok
  | _=>exact o.elim
end
def pEq:Dv->Dv->(R->Prop)->Prop
 | .int i,.int j,Q=>Q (.v (.bl (decide (i=j))))
 | dx,dy,Q=>(okD 8 dx=true/\okD 8 dy=true)/\Q (.v (.bl (eqD dx dy)))
def pNe:Dv->Dv->(R->Prop)->Prop
 | .int i,.int j,Q=>Q (.v (.bl (!decide (i=j))))
 | dx,dy,Q=>(okD 8 dx=true/\okD 8 dy=true)/\Q (.v (.bl (!eqD dx dy)))
section
variable {X:Cx}
def rEqZ (K:W.Frag):R2:=fun x y H Q=>∃ M dx dy,a3M K M H x dx/\a3M K M H y dy/\okD 8 dx=true/\okD 8 dy=true/\Q (.bl (eqD dx dy)) H
def rNeZ (K:W.Frag):R2:=fun x y H Q=>∃ M dx dy,a3M K M H x dx/\a3M K M H y dy/\okD 8 dx=true/\okD 8 dy=true/\Q (.bl (!eqD dx dy)) H
theorem op_eqZ (hu:X.A.units + 64 < cLine):OpR X (compareOp .Eq) (rEqZ X.K):=by
 intro pins s σ H x y v u Q I rx ry h
 obtain ⟨M,dx,dy,r1,r2,o1,o2,q⟩:=h
 obtain ⟨as,ra⟩:=r1.reads I o1 rx
 obtain ⟨bs,rb⟩:=r2.reads I o2 ry
 exact SeqAt.compareEq_shaped ra rb (a4k o1 (by decide)) (a4k o2 (by decide)) hu ⟨.bl _,H,I,rfl,q⟩
theorem op_neZ (hu:X.A.units + 64 < cLine):OpR X (compareOp .NotEq) (rNeZ X.K):=by
 intro pins s σ H x y v u Q I rx ry h
 obtain ⟨M,dx,dy,r1,r2,o1,o2,q⟩:=h
 obtain ⟨as,ra⟩:=r1.reads I o1 rx
 obtain ⟨bs,rb⟩:=r2.reads I o2 ry
 exact SeqAt.compareNe_shaped ra rb (a4k o1 (by decide)) (a4k o2 (by decide)) hu ⟨.bl _,H,I,rfl,q⟩
theorem a8v (i j:Int):eqD (.int i) (.int j)=decide (i=j):=by
 show PyData.eqv (.int i) (.int j)=_
 rw [PyData.eqv]
 exact Bool.beq_eq_decide_eq i j
theorem a4c (hu:X.A.units + 64 < cLine):OpD X (compareOp .Eq) pEq:=by
 refine ⟨fun dx dy Q Q' w h=>?_,_,op_eqZ hu,fun M O H x y dx dy Q cx cy h=>?_⟩
 ·unfold pEq at *
  split at h
  ·exact w _ h
  ·exact ⟨h.1,w _ h.2⟩
 ·unfold pEq at h
  split at h
  ·refine ⟨M,_,_,cx,cy,by simp [okD],by simp [okD],?_⟩
   rw [a8v]
   exact h _ H (a0r.refl _) (Rep.bl _)
  ·exact ⟨M,_,_,cx,cy,h.1.1,h.1.2,h.2 _ H (a0r.refl _) (Rep.bl _)⟩
theorem a5Z (hu:X.A.units + 64 < cLine):OpD X (compareOp .NotEq) pNe:=by
 refine ⟨fun dx dy Q Q' w h=>?_,_,op_neZ hu,fun M O H x y dx dy Q cx cy h=>?_⟩
 ·unfold pNe at *
  split at h
  ·exact w _ h
  ·exact ⟨h.1,w _ h.2⟩
 ·unfold pNe at h
  split at h
  ·refine ⟨M,_,_,cx,cy,by simp [okD],by simp [okD],?_⟩
   rw [a8v]
   exact h _ H (a0r.refl _) (Rep.bl _)
  ·exact ⟨M,_,_,cx,cy,h.1.1,h.1.2,h.2 _ H (a0r.refl _) (Rep.bl _)⟩
end
end Z
namespace Z
open PySem PySem.Spec PyProof.Rows L2
structure En where
 nx:List Sl->Prop
 rt:R->Prop
 bk:List Sl->Prop:=fun _=>False
 ct:List Sl->Prop:=fun _=>False
abbrev TSp:=En->List Sl->Prop
structure EnLe (E E':En):Prop where
 nx:∀ ρ,E.nx ρ->E'.nx ρ
 rt:∀ r,E.rt r->E'.rt r
 bk:∀ ρ,E.bk ρ->E'.bk ρ
 ct:∀ ρ,E.ct ρ->E'.ct ρ
structure Ent (K:W.Frag) (HZ:Hp) (F:Addr->Prop) (E:En) (D:Ends):Prop where
 nx:∀ ρ σ H,Fr K HZ F σ H ρ->E.nx ρ->D.nx σ H
 bk:∀ ρ σ H,Fr K HZ F σ H ρ->E.bk ρ->D.bk σ H
 ct:∀ ρ σ H,Fr K HZ F σ H ρ->E.ct ρ->D.ct σ H
 rt:∀ r x H,a0r HZ H->a3l K F NoOwn HZ x r H->E.rt r->D.rt x H
inductive liftS (K:W.Frag) (HZ:Hp) (F:Addr->Prop) (t:TSp) (D:Ends) (σ:St) (H:Hp):Prop
 | mk (ρ:List Sl) (E:En) (fr:Fr K HZ F σ H ρ) (h:t E ρ) (en:Ent K HZ F E D)
structure QS (X:Cx) (st:Stmt) (t:TSp):Prop where
 mono:∀ E E' ρ,EnLe E E'->t E ρ->t E' ρ
 run:∀ (HZ:Hp) (F:Addr->Prop),PS X st (liftS X.K HZ F t)
structure QSs (X:Cx) (sts:List Stmt) (t:TSp):Prop where
 mono:∀ E E' ρ,EnLe E E'->t E ρ->t E' ρ
 run:∀ (HZ:Hp) (F:Addr->Prop),PSs X sts (liftS X.K HZ F t)
section
variable {X:Cx} {st:Stmt} {sts:List Stmt} {t u:TSp} {e c:Expr} {te:TEp} {pos:Pos}
theorem a1O {t t':TS} (h:PS X st t) (w:∀ D σ H,t' D σ H->t D σ H):PS X st t':=fun pins s σ H D I q=>h pins s σ H D I (w D σ H q)
theorem b0H {t t':TS} (h:PSs X sts t) (w:∀ D σ H,t' D σ H->t D σ H):PSs X sts t':=fun pins s σ H D I q=>h pins s σ H D I (w D σ H q)
def a1g:TSp:=fun E ρ=>E.nx ρ
def a0z (t u:TSp):TSp:=fun E ρ=>t { E with nx:=u E } ρ
theorem a1b:QSs X [] a1g:=⟨fun E E' ρ w h=>w.nx _ h,fun HZ F=>b0H pss_nil fun D σ H ⟨ρ,E,fr,h,en⟩=>en.nx _ _ _ fr h⟩
theorem EnLe.with_nx {E E':En} {a b:List Sl->Prop} (w:EnLe E E') (h:∀ ρ,a ρ->b ρ):EnLe { E with nx:=a } { E' with nx:=b }:=⟨h,w.rt,w.bk,w.ct⟩
theorem a0g (h1:QS X st t) (h2:QSs X sts u):QSs X (st :: sts) (a0z t u):=by
 refine ⟨fun E E' ρ w h=>h1.mono _ _ _ (w.with_nx fun ρ h=>h2.mono _ _ _ w h) h,fun HZ F=>b0H (b0T (h1.run HZ F) (h2.run HZ F)) fun D σ H ⟨ρ,E,fr,h,en⟩=>?_⟩
 exact ⟨ρ,_,fr,h,fun ρ' σ' H' fr' h'=>⟨ρ',E,fr',h',en⟩,en.bk,en.ct,en.rt⟩
theorem a0n (h1:QS X st t):QSs X [st] t:=⟨h1.mono,fun HZ F=>pss_one (h1.run HZ F)⟩
def sBreak:TSp:=fun E ρ=>E.bk ρ
def sCont:TSp:=fun E ρ=>E.ct ρ
def a1F:TSp:=fun _ _=>False
theorem a1r:QS X st a1F:=⟨fun _ _ _ _ h=>h,fun HZ F=>a1O ps_never fun D σ H ⟨ρ,E,fr,h,en⟩=>h⟩
def sDrop (te:TEp):TSp:=fun E ρ=>te ρ fun _=>E.nx ρ
theorem q_expr (he:QE X e te) (hs:swapsWith e none pos.line X.env=pure false:=by rfl):QS X (.Expr e pos) (sDrop te):=
 ⟨fun E E' ρ w h=>he.mono _ _ _ (fun _ q=>w.nx _ q) h,fun HZ F=>a1O (a9S (he.run HZ F) hs) fun D σ H ⟨ρ,E,fr,h,en⟩=>he.step fr h fun r x H1 q S1 _=>en.nx _ _ _ (fr.mono S1) q⟩
noncomputable def R.out:R->R
 | .ow _ d=>.nw d
 | r=>r
theorem a3l.out {K:W.Frag} {HZ H H':Hp} {F:Addr->Prop} {σ:St} {ρ:List Sl} {x:V} {r:R} (fr:Fr K HZ F σ H ρ) (h:a3l K (MM F ρ) (Own ρ) H x r H'):a3l K F NoOwn HZ x r.out H':=by
 cases r with
 | v d=>exact Rep.weak (fun a z=>.inl z) h
 | nw d=>
  obtain ⟨a,e,n,o⟩:=h
  exact ⟨a,e,fr.same.free n,o.weak fun b z=>z.elim (fun z=>.inl (.inl z)) .inr⟩
 | ow a d=>
  obtain ⟨e,m,o⟩:=h
  refine ⟨a,e,fr.new a d m,o.weak fun b z=>?_⟩
  rcases z with z | z
  ·exact .inl z
  ·rw [z]; exact .inr ⟨d,m⟩
def a2F (te:TEp):TSp:=fun E ρ=>te ρ fun r=>E.rt r.out
def sRetN:TSp:=fun E _=>E.rt (.v .non)
theorem a1C (he:QE X e te):QS X (.Return (some e) pos) (a2F te):=
 ⟨fun E E' ρ w h=>he.mono _ _ _ (fun _ q=>w.rt _ q) h,fun HZ F=>a1O (ps_ret (he.run HZ F)) fun D σ H ⟨ρ,E,fr,h,en⟩=>he.step fr h fun r x H1 q S1 r1=>en.rt _ _ _ (fr.same.trans S1) (a3l.out fr r1) q⟩
def sIf (c:TTp) (t u:TSp):TSp:=fun E ρ=>c ρ fun b=>if b=true then t E ρ else u E ρ
theorem a6g {a b:List Stmt} {tc:TTp} (hc:QT X c tc) (ha:QSs X a t) (hb:QSs X b u):QS X (.If c a b pos) (sIf tc t u):=by
 refine ⟨fun E E' ρ w h=>hc.mono _ _ _ (fun k q=>?_) h,fun HZ F=>a1O (ps_if (hc.run HZ F) (ha.run HZ F) (hb.run HZ F)) fun D σ H ⟨ρ,E,fr,h,en⟩=>?_⟩
 ·split at q
  ·rw [if_pos ‹_›]; exact ha.mono _ _ _ w q
  ·rw [if_neg ‹_›]; exact hb.mono _ _ _ w q
 ·refine hc.step fr h fun k H1 q S1=>?_
  cases k with
  | true=>exact a8M ⟨ρ,E,fr.mono S1,by simpa using q,en⟩
  | false=>exact a7h ⟨ρ,E,fr.mono S1,by simpa using q,en⟩
end
section
variable {K:W.Frag} {HZ H H':Hp} {F:Addr->Prop} {σ:St} {ρ:List Sl}
theorem a2k {α:Type} {l:List α} {i j:Nat} {a b:α} (h:(l.set i a)[j]?=some b):(i=j/\i < l.length/\b=a) \/ (i ≠ j/\l[j]?=some b):=by
 by_cases e:i=j
 ·subst e
  by_cases hl:i < l.length
  ·rw [List.getElem?_set_self hl] at h
   exact .inl ⟨rfl,hl,(Option.some.inj h).symm⟩
  ·rw [List.getElem?_eq_none (by simp; ac_rfl)] at h
   cases h
 ·rw [List.getElem?_set_ne e] at h
  exact .inr ⟨e,h⟩
theorem MM.set {i:Nat} {s:Sl} (a:Addr) (h:MM F (ρ.set i s) a):MM F ρ a \/ ∃ d,s=.own a d:=by
 rcases h with h | ⟨d,h⟩
 ·exact .inl (.inl h)
 ·rcases List.mem_or_eq_of_mem_set h with h | h
  ·exact .inl (.inr ⟨d,h⟩)
  ·exact .inr ⟨d,h.symm⟩
theorem Fr.setv (fr:Fr K HZ F σ H ρ) {i:Nat} {x:V} {d:Dv} (r:Rep K (MM F ρ) H x d):Fr K HZ F (σ.set i (some x)) H (ρ.set i (.v d)):=by
 have wk:∀ a,MM F (ρ.set i (.v d)) a->MM F ρ a:=fun a h=>by
  rcases MM.set a h with h | ⟨_,h⟩
  ·exact h
  ·cases h
 refine ⟨by simp [fr.len],fun j s e=>?_,fun j k a d1 d2 e1 e2=>?_,fun a d1 h=>?_,fr.same,fr.old⟩
 ·rcases a2k e with ⟨rfl,hl,rfl⟩ | ⟨ne,e⟩
  ·exact ⟨x,by rw [List.getElem?_set_self (by rw [fr.len]; exact hl)],r.weak wk⟩
  ·rw [List.getElem?_set_ne ne]
   exact (fr.sl j s e).weak wk
 ·rcases a2k e1 with ⟨_,_,z⟩ | ⟨_,e1⟩
  ·cases z
  ·rcases a2k e2 with ⟨_,_,z⟩ | ⟨_,e2⟩
   ·cases z
   ·exact fr.nd j k a d1 d2 e1 e2
 ·rcases List.mem_or_eq_of_mem_set h with h | h
  ·exact fr.new a d1 h
  ·cases h
theorem Fr.setu (fr:Fr K HZ F σ H ρ) {i:Nat} {o:Option V}:Fr K HZ F (σ.set i o) H (ρ.set i .un):=by
 have wk:∀ a,MM F (ρ.set i .un) a->MM F ρ a:=fun a h=>by
  rcases MM.set a h with h | ⟨_,h⟩
  ·exact h
  ·cases h
 refine ⟨by simp [fr.len],fun j s e=>?_,fun j k a d1 d2 e1 e2=>?_,fun a d1 h=>?_,fr.same,fr.old⟩
 ·rcases a2k e with ⟨rfl,hl,rfl⟩ | ⟨ne,e⟩
  ·trivial
  ·rw [List.getElem?_set_ne ne]
   exact (fr.sl j s e).weak wk
 ·rcases a2k e1 with ⟨_,_,z⟩ | ⟨_,e1⟩
  ·cases z
  ·rcases a2k e2 with ⟨_,_,z⟩ | ⟨_,e2⟩
   ·cases z
   ·exact fr.nd j k a d1 d2 e1 e2
 ·rcases List.mem_or_eq_of_mem_set h with h | h
  ·exact fr.new a d1 h
  ·cases h
theorem SlOk.gen {M M':Addr->Prop} {o:Option (Option V)} {s:Sl} (G:Gen K M M' H H') (hs:∀ a d,s=.own a d -> ∀ u,H a=some u->H' a=some u) (h:SlOk K M H o s):SlOk K M' H' o s:=by
 cases s with
 | un=>trivial
 | v d=>obtain ⟨x,e,r⟩:=h; exact ⟨x,e,r.gen G⟩
 | own a d=>exact ⟨h.1,h.2.gen G (hs a d rfl)⟩
theorem Fr.seto (fr:Fr K HZ F σ H ρ) (S:a0r H H') {i:Nat} {a:Addr} {d:Dv} (ha:H a=none) (o:a2R K (fun b=>MM F ρ b \/ b=a) H' a d):Fr K HZ F (σ.set i (some (.ref a))) H' (ρ.set i (.own a d)):=by
 have wk:∀ b,MM F (ρ.set i (.own a d)) b->MM F ρ b \/ b=a:=fun b h=>by
  rcases MM.set b h with h | ⟨_,h⟩
  ·exact .inl h
  ·cases h; exact .inr rfl
 have G:Gen K (MM F ρ) (MM F (ρ.set i (.own a d))) H H':=((Gen.fresh ha).trans (.mono S)).trans (.weak wk)
 have ne:∀ (j:Nat) (b:Addr) (d':Dv),ρ[j]?=some (Sl.own b d')->b ≠ a:=fun j b d' e z=>by
  have:=(fr.sl j _ e).2.mut
  obtain ⟨u,hu,_⟩:=this
  rw [z,ha] at hu
  cases hu
 refine ⟨by simp [fr.len],fun j s e=>?_,fun j k b d1 d2 e1 e2=>?_,fun b d1 h=>?_,fr.same.trans S,fr.old⟩
 ·rcases a2k e with ⟨rfl,hl,rfl⟩ | ⟨hne,e⟩
  ·exact ⟨by rw [List.getElem?_set_self (by rw [fr.len]; exact hl)],o.weak wk⟩
  ·rw [List.getElem?_set_ne hne]
   exact (fr.sl j s e).gen G fun b d' _ u hu=>S _ _ hu
 ·rcases a2k e1 with ⟨h1,_,z⟩ | ⟨_,e1⟩
  ·rcases a2k e2 with ⟨h2,_,z'⟩ | ⟨_,e2⟩
   ·ac_rfl
   ·cases z
    exact absurd rfl (ne k _ _ e2)
  ·rcases a2k e2 with ⟨h2,_,z'⟩ | ⟨_,e2⟩
   ·cases z'
    exact absurd rfl (ne j _ _ e1)
   ·exact fr.nd j k b d1 d2 e1 e2
 ·rcases List.mem_or_eq_of_mem_set h with h | h
  ·exact fr.new b d1 h
  ·cases h
   exact fr.same.free ha
theorem Fr.write (fr:Fr K HZ F σ H ρ) {i:Nat} {a:Addr} {d d':Dv} {o:HO} (hi:ρ[i]?=some (.own a d)) (n:a2R K (MM F ρ) (upd H a o) a d'):Fr K HZ F σ (upd H a o) (ρ.set i (.own a d')):=by
 have mem:Sl.own a d ∈ ρ:=List.mem_of_getElem? hi
 have wk:∀ b,MM F (ρ.set i (.own a d')) b->MM F ρ b:=fun b h=>by
  rcases MM.set b h with h | ⟨_,h⟩
  ·exact h
  ·cases h; exact .inr ⟨d,mem⟩
 obtain ⟨hs,ow⟩:=fr.sl i _ hi
 obtain ⟨u,hu,mu⟩:=ow.mut
 have mu':Mut (H a):=by rw [hu]; exact mu
 have G:Gen K (MM F ρ) (MM F (ρ.set i (.own a d'))) H (upd H a o):=(Gen.write (.inr ⟨d,mem⟩) mu').trans (.weak wk)
 refine ⟨by simp [fr.len],fun j s e=>?_,fun j k b d1 d2 e1 e2=>?_,fun b d1 h=>?_,fun b q e=>?_,fr.old⟩
 ·rcases a2k e with ⟨rfl,hl,rfl⟩ | ⟨hne,ej⟩
  ·exact ⟨hs,n.weak wk⟩
  ·refine (fr.sl j s ej).gen G fun b d2 es u hu=>?_
   subst es
   rw [a0w fun z=>hne ?_]
   ·exact hu
   ·subst z; exact fr.nd i j _ d d2 hi ej
 ·rcases a2k e1 with ⟨h1,_,z⟩ | ⟨_,e1⟩
  ·cases z
   rcases a2k e2 with ⟨h2,_,z'⟩ | ⟨_,e2⟩
   ·ac_rfl
   ·rw [<- h1]; exact fr.nd i k _ d d2 hi e2
  ·rcases a2k e2 with ⟨h2,_,z'⟩ | ⟨_,e2⟩
   ·cases z'
    rw [<- h2]; exact fr.nd j i _ d1 d e1 hi
   ·exact fr.nd j k b d1 d2 e1 e2
 ·rcases List.mem_or_eq_of_mem_set h with h | h
  ·exact fr.new b d1 h
  ·cases h
   exact fr.new _ d mem
 ·rw [a0w ?_]
  ·exact fr.same b q e
  ·intro z
   subst z
   rw [fr.new _ d mem] at e
   cases e
noncomputable def freeze (i:Nat) (ρ:List Sl):List Sl:=match ρ[i]? with
 | some (.own _ d)=>ρ.set i (.v d)
 | _=>ρ
end
section
variable {X:Cx} {e:Expr} {te:TEp} {pos pos':Pos} {sts:List Stmt} {t:TSp}
def a2a (i:Nat) (te:TEp):TSp:=fun E ρ=>te ρ fun r=>match r with
 | .v d=>E.nx (ρ.set i (.v d))
 | .nw d=>E.nx (ρ.set i (.v d))
 | .ow _ _=>False
def a5d (i:Nat) (te:TEp):TSp:=fun E ρ=>te ρ fun r=>match r with
 | .v d=>E.nx (ρ.set i (.v d))
 | .nw d=>∀ a,E.nx (ρ.set i (.own a d))
 | .ow _ _=>False
def sFrz (i:Nat) (t:TSp):TSp:=fun E ρ=>t E (freeze i ρ)
theorem a1L {i:Nat} {x:Str} (hN:X.N.Nodup) (hi:X.N[i]?=some x) (hx:Loc X.env.scope x) (he:QE X e te) (hs:swapsWith e (some (.Name x pos')) pos.line X.env=pure false:=by rfl) (hf:X.fn x=true \/ X.env.scope.names.lookup x=some .local:=by first | exact .inl rfl | exact .inr rfl | assumption):
  QS X (.Assign [.Name x pos'] e pos) (a2a i te):=by
 refine ⟨fun E E' ρ w h=>he.mono _ _ _ (fun r q=>?_) h,fun HZ F=>a1O (ps_set hN hi hx (he.run HZ F) hs hf) fun D σ H ⟨ρ,E,fr,h,en⟩=>?_⟩
 ·cases r with
  | v d=>exact w.nx _ q
  | nw d=>exact w.nx _ q
  | ow a d=>exact q
 ·refine he.step fr h fun r x H1 q S1 r1=>?_
  cases r with
  | v d=>exact en.nx _ _ _ ((fr.mono S1).setv r1) q
  | nw d=>exact en.nx _ _ _ ((fr.mono S1).setv (r1.rep (fun a m=>fr.dom m) rfl)) q
  | ow a d=>exact q.elim
theorem a4u {i:Nat} {x:Str} (hN:X.N.Nodup) (hi:X.N[i]?=some x) (hx:Loc X.env.scope x) (he:QE X e te) (hs:swapsWith e (some (.Name x pos')) pos.line X.env=pure false:=by rfl) (hf:X.fn x=true \/ X.env.scope.names.lookup x=some .local:=by first | exact .inl rfl | exact .inr rfl | assumption):
  QS X (.Assign [.Name x pos'] e pos) (a5d i te):=by
 refine ⟨fun E E' ρ w h=>he.mono _ _ _ (fun r q=>?_) h,fun HZ F=>a1O (ps_set hN hi hx (he.run HZ F) hs hf) fun D σ H ⟨ρ,E,fr,h,en⟩=>?_⟩
 ·cases r with
  | v d=>exact w.nx _ q
  | nw d=>exact fun a=>w.nx _ (q a)
  | ow a d=>exact q
 ·refine he.step fr h fun r x H1 q S1 r1=>?_
  cases r with
  | v d=>exact en.nx _ _ _ ((fr.mono S1).setv r1) q
  | nw d=>
   obtain ⟨a,rfl,ha,o⟩:=r1
   exact en.nx _ _ _ (fr.seto S1 ha o) (q a)
  | ow a d=>exact q.elim
def sAug (i:Nat) (p:Dv->Dv->(R->Prop)->Prop) (te:TEp):TSp:=fun E ρ=>match ρ[i]? with
 | some (.v d)=>te ρ fun r=>p d r.d fun z=>match z with
  | .v d'=>E.nx (ρ.set i (.v d'))
  | _=>False
 | _=>False
def IpD (X:Cx) (op:Operator) (p:Dv->Dv->(R->Prop)->Prop):Prop:=OpD X (inplaceOp op) p
theorem q_aug {i:Nat} {x:Str} {op:Operator} {p:Dv->Dv->(R->Prop)->Prop} (ho:IpD X op p) (hN:X.N.Nodup) (hi:X.N[i]?=some x) (hx:Loc X.env.scope x) (he:QE X e te) (hf:X.fn x=true \/ X.env.scope.names.lookup x=some .local:=by first | exact .inl rfl | exact .inr rfl | assumption):
  QS X (.AugAssign (.Name x pos') op e pos) (sAug i p te):=by
 obtain ⟨mo,r2,hR,hr⟩:=ho
 refine ⟨fun E E' ρ w h=>?_,fun HZ F=>a1O (ps_aug hN hi hx (he.run HZ F) (fun pins s σ H x y v u Q I rx ry h=>hR pins s σ H x y v u Q I rx ry h) hf) fun D σ H ⟨ρ,E,fr,h,en⟩=>?_⟩
 ·unfold sAug at *
  split at h
  ·refine he.mono _ _ _ (fun r q=>mo _ _ _ _ (fun z q=>?_) q) h
   split at q
   ·exact w.nx _ q
   ·exact q
  ·exact h
 ·unfold sAug at h
  split at h
  ·rename_i d ed
   obtain ⟨x,ex,rx⟩:=fr.sl i _ ed
   refine ⟨x,ex,he.step fr h fun r y H1 q S1 r1=>?_⟩
   refine hr (MM F ρ) (Own ρ) H1 x y _ _ _ (.inl (rx.mono S1)) r1.c (mo _ _ _ _ (fun z q z' H' S' rz=>?_) q)
   split at q
   ·exact en.nx _ _ _ (((fr.mono S1).mono S').setv rz) q
   ·exact q.elim
  ·exact h.elim
def sApp (i:Nat) (te:TEp):TSp:=fun E ρ=>match ρ[i]? with
 | some (.own a (.lst xs))=>te ρ fun r=>(r.free=true/\xs.length < LIM)/\E.nx (ρ.set i (.own a (.lst (xs ++ [r.d]))))
 | _=>False
theorem b1k {n:Nat} (h:n < LIM):n < sizeLine:=Nat.lt_of_lt_of_le h (a2V (Nat.le_refl _))
theorem q_app {i:Nat} {x:Str} {p1 p2 p3:Pos} (hv:PE X (.Name x p1) (tVar i)) (he:QE X e te) (hs:swapsWith (.Call (.Attribute (.Name x p1) "append" p2) [e] [] p3) none pos.line X.env=pure false:=by rfl)
  (hbase:attributeBase (.Name x p1) "append" X.env (eval (.Name x p1) X.env)=eval (.Name x p1) X.env:=by rfl)
  (hfew:((backTo p3 (starEach [e] X.env)).all (fun x=>!x.1) && (backToKw p3 (keywordEach [] X.env)).all (fun x=>x.1.isSome)
   && decide ([e].length + ([]:List Keyword).length + (if ([]:List Keyword).isEmpty then 0 else 1) < 30))=true:=by rfl)
  (hline:(p2.endLine == p3.line)=true:=by rfl) (hst:starEach [e] X.env=(false,eval e X.env) :: starEach [] X.env:=by rfl) (hplain:(backTo p3 (starEach [] X.env)).any (·.1)=false:=by rfl):
  QS X (.Expr (.Call (.Attribute (.Name x p1) "append" p2) [e] [] p3) pos) (sApp i te):=by
 refine ⟨fun E E' ρ w h=>?_,fun HZ F=>a1O (a9S (pe_bm PySem.F.plainAttrs_list PySem.F.slot_list_append PySem.F.type_list_append a9f hv (a3F (he.run HZ F) a7y hst) hbase hfew hline hst hplain) hs) fun D σ H ⟨ρ,E,fr,h,en⟩=>?_⟩
 ·unfold sApp at *
  split at h
  ·exact he.mono _ _ _ (fun r q=>⟨q.1,w.nx _ q.2⟩) h
  ·exact h
 ·unfold sApp at h
  split at h
  ·rename_i a xs hx
   obtain ⟨hs1,vs,hv1,rv1⟩:=fr.sl i _ hx
   refine ⟨_,hs1,.inl ⟨rfl,_,SqL.of hv1⟩,he.step fr h fun r y H1 q S1 r1=>?_⟩
   obtain ⟨⟨qf,ql⟩,q2⟩:=q
   have rep:=r1.rep (fun a m=>fr.dom m) qf
   have hv2:=S1 _ _ hv1
   refine ⟨a,vs,y,rfl,rfl,hv2,by rw [rv1.length]; exact b1k ql,?_⟩
   refine en.nx _ _ _ ((fr.mono S1).write (d':=.lst (xs ++ [r.d])) hx ⟨_,a0E,?_⟩) q2
   have G:Gen X.K (MM F ρ) (MM F ρ) H1 (upd H1 a (.lst (vs ++ [y]))):=Gen.write (.inr ⟨_,List.mem_of_getElem? hx⟩) (by rw [hv2]; trivial)
   exact ((rv1.mono S1).append (.cons rep .nil)).gen G
  ·exact h.elim
end
end Z
namespace Z
open PySem PySem.Spec PyProof.Rows L2
open Classical in
noncomputable def prot (H:Hp) (ρ:List Sl):Hp:=fun b=>if ∃ d,Sl.own b d ∈ ρ then none else H b
section
variable {K:W.Frag} {HZ H H1 H':Hp} {F:Addr->Prop} {σ σ':St} {ρ ρ':List Sl}
theorem a8b {b:Addr} {d:Dv} (h:Sl.own b d ∈ ρ):prot H ρ b=none:=by unfold prot; rw [if_pos ⟨d,h⟩]
theorem a1c {b:Addr} (h:¬ ∃ d,Sl.own b d ∈ ρ):prot H ρ b=H b:=by unfold prot; rw [if_neg h]
theorem a5h {b:Addr} {o:HO} (h:prot H ρ b=some o):H b=some o:=by
 by_cases c:∃ d,Sl.own b d ∈ ρ
 ·obtain ⟨d,c⟩:=c
  rw [a8b c] at h
  cases h
 ·rw [a1c c] at h
  exact h
theorem prot_none (h:prot H ρ b=none):(∃ d,Sl.own b d ∈ ρ) \/ H b=none:=by
 by_cases c:∃ d,Sl.own b d ∈ ρ
 ·exact .inl c
 ·rw [a1c c] at h
  exact .inr h
theorem Fr.prot (fr:Fr K HZ F σ H ρ):Fr K (prot H ρ) F σ H ρ:=by
 refine ⟨fr.len,fr.sl,fr.nd,fun a d h=>a8b h,fun b o h=>a5h h,fun a h=>?_,fun P q z=>?_⟩
 ·rw [a1c ?_]
  ·exact fr.dom (.inl h)
  ·rintro ⟨d,c⟩
   exact fr.old.f a h (fr.new a d c)
 ·have e:=fr.old.t P q z
  rw [a1c ?_]
  ·exact fr.same _ _ e
  ·rintro ⟨d,c⟩
   rw [fr.new P d c] at e
   cases e
theorem Fr.free_of (fr:Fr K HZ F σ H ρ) {b:Addr} (h:Z.prot H ρ b=none):HZ b=none:=by
 rcases prot_none h with ⟨d,c⟩ | h
 ·exact fr.new b d c
 ·exact fr.same.free h
theorem Fr.same_of (fr:Fr K HZ F σ H ρ) (S:a0r (Z.prot H ρ) H'):a0r HZ H':=fun b o e=>by
 refine S b o ?_
 rw [a1c ?_]
 ·exact fr.same b o e
 ·rintro ⟨d,c⟩
  rw [fr.new b d c] at e
  cases e
theorem Fr.unprot (fr:Fr K HZ F σ H ρ) (g:Fr K (Z.prot H ρ) F σ' H' ρ'):Fr K HZ F σ' H' ρ':=
 ⟨g.len,g.sl,g.nd,fun a d h=>fr.free_of (g.new a d h),fr.same_of g.same,fr.old⟩
theorem Fr.gen (fr:Fr K HZ F σ H ρ) (g:Fr K (Z.prot H ρ) F σ' H' ρ'):Gen K (MM F ρ) (MM F ρ') H H':=by
 have no:∀ a o,H a=some o -> ¬ MM F ρ a->Z.prot H ρ a=some o:=fun a o e m=>by
  rw [a1c fun c=>m (.inr c)]
  exact e
 have no2:∀ a o,H a=some o -> ¬ Mut (some o)->Z.prot H ρ a=some o:=fun a o e m=>by
  rw [a1c ?_]
  ·exact e
  ·rintro ⟨d,c⟩
   obtain ⟨_,_,_,ow⟩:=fr.at_own c
   obtain ⟨u,hu,mu⟩:=ow.mut
   rw [e] at hu
   cases hu
   exact m mu
 refine ⟨fun a o e mu m=>⟨g.same _ _ (no a o e m),?_⟩,fun a xs e=>g.same _ _ (no2 a _ e fun z=>z),fun a ns e=>?_,fun a o u e=>g.same _ _ (no2 a _ e fun z=>z)⟩
 ·rintro (h | ⟨d,h⟩)
  ·exact m (.inl h)
  ·have:=g.new a d h
   rw [no a o e m] at this
   cases this
 ·rcases e with ⟨o,e⟩ | e
  ·exact .inl ⟨o,g.same _ _ (no2 a _ e fun z=>z)⟩
  ·exact .inr e
theorem Ent.prot {E:En} {D:Ends} (fr:Fr K HZ F σ H ρ) (en:Ent K HZ F E D):Ent K (Z.prot H ρ) F E D:=by
 refine ⟨fun ρ' σ' H' g h=>en.nx _ _ _ (fr.unprot g) h,fun ρ' σ' H' g h=>en.bk _ _ _ (fr.unprot g) h,fun ρ' σ' H' g h=>en.ct _ _ _ (fr.unprot g) h,fun r x H' S rr h=>en.rt r x H' (fr.same_of S) ?_ h⟩
 cases r with
 | v d=>exact rr
 | ow a d=>exact rr
 | nw d=>obtain ⟨a,e,n,o⟩:=rr; exact ⟨a,e,fr.free_of n,o⟩
end
abbrev TIp:=List Sl->(List Dv->List (Addr × List Dv)->Prop)->Prop
def guard (ogs:List (Addr × List Dv)) (ρ:List Sl):Prop:=∀ p ∈ ogs,Sl.own p.1 (.lst p.2) ∈ ρ
def ItOk (K:W.Frag) (P:Hp) (M:Addr->Prop) (H1:Hp) (J:It) (ds:List Dv) (ogs:List (Addr × List Dv)):Prop:=
 ∀ (i:Nat) (H':Hp) (M':Addr->Prop),a0r P H'->Gen K M M' H1 H'->(∀ p ∈ ogs,a2R K M' H' p.1 (.lst p.2)) ->
  (∀ d,ds[i]?=some d->J.go i H' /\ ∀ y H'',J.yld i H' y H''->a0r H' H''/\Rep K M' H'' y d)/\(ds.length<=i->J.stop i H')
structure QI (X:Cx) (tg iter:Expr) (ti:TIp):Prop where
 mono:∀ (ρ:List Sl) (Q Q':List Dv->List (Addr × List Dv)->Prop),(∀ ds g,Q ds g->Q' ds g)->ti ρ Q->ti ρ Q'
 run:∀ (HZ:Hp) (F:Addr->Prop),∃ wi,PI X tg iter wi /\ ∀ (σ:St) (H:Hp) (ρ:List Sl) (R:It->Hp->Prop),Fr X.K HZ F σ H ρ ->
  ti ρ (fun ds ogs=>∀ J H1,a0r H H1->guard ogs ρ->ItOk X.K (prot H1 ρ) (MM F ρ) H1 J ds ogs->R J H1)->wi σ H R
section
variable {X:Cx} {tg l:Expr} {tl:TEp}
def iSeqL (K:W.Frag) (tl:TE):TI:=fun σ H R=>tl σ H fun x H1=>∃ a,x=.ref a/\(((∃ xs,SqL K H1 a xs)/\R (Itl K a) H1) \/ ((∃ xs,SqT K H1 a xs)/\R (Itt K a) H1))
theorem pi_seq {l:Expr} {tl:TE} (hl:PE X l tl):PI X tg l (iSeqL X.K tl):=by
 intro pins s σ H R I h
 refine thn (hl pins s σ H _ I h) fun v s1 ⟨x,H1,I1,r1,q1⟩=>?_
 obtain ⟨a,e,q1⟩:=q1
 subst e
 cases r1
 rcases q1 with ⟨⟨xs,hq⟩,q⟩ | ⟨⟨xs,hq⟩,q⟩
 ·obtain ⟨its,rv,p,hz⟩:=I1.list hq
  refine wpAny_pyIter_list p.isList ?_
  refine ⟨s1.heap.objs.size,[s1.heap.objs.size],_,_,H1,rfl,I1.kept (t':=s1.toks) fun b o e=>Heap.get?_push_of_some _ e,turn_list a _,⟨_,Heap.get?_push_size _ rfl,rfl,rfl⟩,fun b hb=>?_,q⟩
  have e:b=s1.heap.objs.size:=by simpa using hb
  subst e
  exact I1.fpOk (Nat.le_refl _) (I1.hok.fresh (Nat.le_refl _))
 ·obtain ⟨its,rv,p,hz⟩:=I1.tuple hq
  refine wpAny_pyIter_tuple (show s1.heap.IsTuple a its.toArray from p) ?_
  refine ⟨s1.heap.objs.size,[s1.heap.objs.size],_,_,H1,rfl,I1.kept (t':=s1.toks) fun b o e=>Heap.get?_push_of_some _ e,turn_tuple a _,⟨_,Heap.get?_push_size _ rfl,rfl,rfl⟩,fun b hb=>?_,q⟩
  have e:b=s1.heap.objs.size:=by simpa using hb
  subst e
  exact I1.fpOk (Nat.le_refl _) (I1.hok.fresh (Nat.le_refl _))
def b0q (tl:TEp):TIp:=fun ρ Q=>tl ρ fun r=>match r with
 | .v (.lst ds)=>Q ds []
 | .nw (.lst ds)=>Q ds []
 | .ow a (.lst ds)=>Q ds [(a,ds)]
 | .v (.tup ds)=>Q ds []
 | .v (.scr ns)=>Q (ns.map .int) []
 | _=>False
theorem a9n {K:W.Frag} {P:Hp} {M:Addr->Prop} {H1:Hp} {a:Addr} {xs:List V} {ds:List Dv} (hP:P a=some (.lst xs)) (r:Reps K M H1 xs ds):ItOk K P M H1 (Itl K a) ds []:=by
 intro i H' M' S G _
 have h':=S _ _ hP
 refine ⟨fun d e=>?_,fun h=>⟨xs,SqL.of h',by rw [r.length]; exact h⟩⟩
 obtain ⟨x,hx,rx⟩:=r.get e
 refine ⟨⟨xs,x,SqL.of h',hx⟩,fun y H'' ⟨e1,e2⟩=>?_⟩
 subst e1
 have:=e2 xs (SqL.of h')
 rw [hx] at this
 cases this
 exact ⟨a0r.refl _,rx.gen G⟩
theorem itok_own {K:W.Frag} {P:Hp} {M:Addr->Prop} {H1:Hp} {a:Addr} {ds:List Dv}:ItOk K P M H1 (Itl K a) ds [(a,ds)]:=by
 intro i H' M' S G ow
 obtain ⟨xs,h',r⟩:=ow (a,ds) (by simp)
 refine ⟨fun d e=>?_,fun h=>⟨xs,SqL.of h',by rw [r.length]; exact h⟩⟩
 obtain ⟨x,hx,rx⟩:=r.get e
 refine ⟨⟨xs,x,SqL.of h',hx⟩,fun y H'' ⟨e1,e2⟩=>?_⟩
 subst e1
 have:=e2 xs (SqL.of h')
 rw [hx] at this
 cases this
 exact ⟨a0r.refl _,rx⟩
theorem itok_tup {K:W.Frag} {P:Hp} {M:Addr->Prop} {H1:Hp} {a:Addr} {xs:List V} {ds:List Dv} (hP:P a=some (.tup xs)) (r:Reps K M H1 xs ds):ItOk K P M H1 (Itt K a) ds []:=by
 intro i H' M' S G _
 have h':=S _ _ hP
 refine ⟨fun d e=>?_,fun h=>⟨xs,SqT.of h',by rw [r.length]; exact h⟩⟩
 obtain ⟨x,hx,rx⟩:=r.get e
 refine ⟨⟨xs,x,SqT.of h',hx⟩,fun y H'' ⟨e1,e2⟩=>?_⟩
 subst e1
 have:=e2 xs (SqT.of h')
 rw [hx] at this
 cases this
 exact ⟨a0r.refl _,rx.gen G⟩
theorem itok_scr {K:W.Frag} {P:Hp} {M:Addr->Prop} {H1:Hp} {a:Addr} {ns:List Int} (hP:Scr K P a ns):ItOk K P M H1 (Itl K a) (ns.map .int) []:=by
 intro i H' M' S G _
 have h':=(a0r.scr S hP).sq
 refine ⟨fun d e=>?_,fun h=>⟨_,h',by simpa using h⟩⟩
 have r:Reps K M' H' (ns.map V.int) (ns.map .int):=Reps.ints ns
 obtain ⟨x,hx,rx⟩:=r.get e
 refine ⟨⟨_,x,h',hx⟩,fun y H'' ⟨e1,e2⟩=>?_⟩
 subst e1
 have:=e2 _ h'
 rw [hx] at this
 cases this
 exact ⟨a0r.refl _,rx⟩
theorem not_own {K:W.Frag} {HZ:Hp} {F:Addr->Prop} {σ:St} {H:Hp} {ρ:List Sl} {a:Addr} {o:HO} (fr:Fr K HZ F σ H ρ) (e:H a=some o) (m:¬ Mut (some o)):¬ ∃ d,Sl.own a d ∈ ρ:=by
 rintro ⟨d,c⟩
 obtain ⟨_,_,_,ow⟩:=fr.at_own c
 obtain ⟨u,hu,mu⟩:=ow.mut
 rw [e] at hu
 cases hu
 exact m mu
theorem a5f (h:QE X l tl):QI X tg l (b0q tl):=by
 refine ⟨fun ρ Q Q' w q=>h.mono _ _ _ (fun r q=>?_) q,fun HZ F=>⟨_,pi_seq (h.run HZ F),fun σ H ρ R fr q=>?_⟩⟩
 ·unfold b0q at *
  split at q <;> first | exact w _ _ q | exact q
 ·refine h.step fr q fun r x H1 q S1 r1=>?_
  have fr1:=fr.mono S1
  split at q
  ·rename_i ds
   cases r1 with
   | lst e m rs=>
    exact ⟨_,rfl,.inl ⟨⟨_,SqL.of e⟩,q _ H1 S1 (by intro p hp; simp at hp) (a9n (by rw [a1c fun c=>m (.inr c)]; exact e) rs)⟩⟩
  ·rename_i ds
   obtain ⟨a,rfl,n,xs,e,rs⟩:=r1
   exact ⟨_,rfl,.inl ⟨⟨_,SqL.of e⟩,q _ H1 S1 (by intro p hp; simp at hp) (a9n (by rw [a1c fun c=>fr.fresh n (.inr c)]; exact e) (rs.weak fun b z=>.inl z))⟩⟩
  ·rename_i a ds
   obtain ⟨rfl,m,xs,e,rs⟩:=r1
   exact ⟨_,rfl,.inl ⟨⟨_,SqL.of e⟩,q _ H1 S1 (by intro p hp; simp at hp; subst hp; exact m) itok_own⟩⟩
  ·rename_i ds
   cases r1 with
   | tup e rs=>exact ⟨_,rfl,.inr ⟨⟨_,SqT.of e⟩,q _ H1 S1 (by intro p hp; simp at hp) (itok_tup (by rw [a1c (not_own fr1 e fun z=>z)]; exact e) rs)⟩⟩
  ·rename_i ns
   cases r1 with
   | scr e=>
    refine ⟨_,rfl,.inl ⟨⟨_,e.sq⟩,q _ H1 S1 (by intro p hp; simp at hp) (itok_scr ?_)⟩⟩
    rcases e with ⟨o,e⟩ | e
    ·exact .inl ⟨o,by rw [a1c (not_own fr1 e fun z=>z)]; exact e⟩
    ·exact .inr e
  ·exact q.elim
noncomputable def a0K (lo:Int) (n:Nat):List Dv:=(List.range n).map fun (k:Nat)=>Dv.int (lo + (k:Int))
theorem rangeD_get {lo:Int} {n i:Nat} {d:Dv} (h:(a0K lo n)[i]?=some d):i < n/\d=.int (lo + i):=by
 unfold a0K at h
 rw [List.getElem?_map] at h
 cases e:(List.range n)[i]? with
 | none=>rw [e] at h; cases h
 | some k=>
  rw [e] at h
  obtain ⟨h1,h2⟩:=List.getElem?_eq_some_iff.mp e
  simp at h1 h2
  subst h2
  exact ⟨h1,(Option.some.inj h).symm⟩
theorem a7B {K:W.Frag} {P:Hp} {M:Addr->Prop} {H1:Hp} {lo:Int} {n:Nat}:ItOk K P M H1 (Itr lo n) (a0K lo n) []:=by
 intro i H' M' S G _
 refine ⟨fun d e=>?_,fun h=>(show n<=i by simpa [a0K] using h)⟩
 obtain ⟨h1,h2⟩:=rangeD_get e
 subst h2
 refine ⟨h1,fun y H'' ⟨e1,e2⟩=>?_⟩
 subst e1 e2
 exact ⟨a0r.refl _,.int _⟩
def a2j (ts:TAp):TIp:=fun ρ Q=>ts ρ fun rs=>match rs.map R.d with
 | [.int j]=>(-(2 ^ 62)<=j/\j < 2 ^ 62)/\Q (a0K 0 j.toNat) []
 | _=>False
def a5I (ts:TAp):TIp:=fun ρ Q=>ts ρ fun rs=>match rs.map R.d with
 | [.int i,.int j]=>(-(2 ^ 62)<=i/\i < 2 ^ 62 /\ -(2 ^ 62)<=j/\j < 2 ^ 62)/\Q (a0K i (j - i).toNat) []
 | _=>False
theorem a2H {K:W.Frag} {M:Addr->Prop} {H:Hp} {xs:List V} {d:Dv} (h:CReps K M H xs [d]):∃ x,xs=[x]/\a3M K M H x d:=by
 cases h with
 | cons a t=>cases t; exact ⟨_,rfl,a⟩
theorem creps2 {K:W.Frag} {M:Addr->Prop} {H:Hp} {xs:List V} {d d':Dv} (h:CReps K M H xs [d,d']):∃ x y,xs=[x,y]/\a3M K M H x d/\a3M K M H y d':=by
 cases h with
 | cons a t=>
  obtain ⟨y,rfl,b⟩:=a2H t
  exact ⟨_,_,rfl,a,b⟩
theorem a2g {a:Expr} {ts:TAp} {p pos:Pos} (hg:Gl X "range") (hm:X.mg "range" = none) (ha:QA X [a] ts) (hs:starEach [a] X.env=[(false,eval a X.env)]:=by rfl):QI X tg (.Call (.Name "range" p) [a] [] pos) (a2j ts):=by
 refine ⟨fun ρ Q Q' w q=>ha.mono _ _ _ (fun r q=>?_) q,fun HZ F=>⟨_,pi_range1 hg hm (ha.run HZ F) hs,fun σ H ρ R fr q=>?_⟩⟩
 ·split at q
  ·exact ⟨q.1,w _ _ q.2⟩
  ·exact q
 ·refine ha.step fr q fun rs xs H1 q S1 r1=>?_
  split at q
  ·rename_i j e
   have c:=r1.c
   rw [e] at c
   obtain ⟨x,rfl,cx⟩:=a2H c
   obtain rfl:=cx.int
   exact ⟨j,rfl,q.1.1,q.1.2,q.2 _ H1 S1 (by intro p hp; simp at hp) a7B⟩
  ·exact q.elim
theorem a8W {a b:Expr} {ts:TAp} {p pos:Pos} (hg:Gl X "range") (hm:X.mg "range" = none) (ha:QA X [a,b] ts) (hs:starEach [a,b] X.env=[(false,eval a X.env),(false,eval b X.env)]:=by rfl) (hs2:starEach [b] X.env=[(false,eval b X.env)]:=by rfl):
  QI X tg (.Call (.Name "range" p) [a,b] [] pos) (a5I ts):=by
 refine ⟨fun ρ Q Q' w q=>ha.mono _ _ _ (fun r q=>?_) q,fun HZ F=>⟨_,pi_range2 hg hm (ha.run HZ F) hs hs2,fun σ H ρ R fr q=>?_⟩⟩
 ·split at q
  ·exact ⟨q.1,w _ _ q.2⟩
  ·exact q
 ·refine ha.step fr q fun rs xs H1 q S1 r1=>?_
  split at q
  ·rename_i i j e
   have c:=r1.c
   rw [e] at c
   obtain ⟨x,y,rfl,cx,cy⟩:=creps2 c
   obtain rfl:=cx.int
   obtain rfl:=cy.int
   exact ⟨i,j,rfl,q.1,q.2 _ H1 S1 (by intro p hp; simp at hp) a7B⟩
  ·exact q.elim
end
abbrev TGp:=Dv->List Sl->(List Sl->Prop)->Prop
structure QG (X:Cx) (tg:Expr) (k:Nat) (g:TGp):Prop where
 mono:∀ d ρ (Q Q':List Sl->Prop),(∀ ρ,Q ρ->Q' ρ)->g d ρ Q->g d ρ Q'
 agree:∀ d ρ (Q:List Sl->Prop),g d ρ Q->g d ρ fun ρ1=>Q ρ1/\ρ1.length=ρ.length /\ ∀ j,k<=j->ρ1[j]?=ρ[j]?
 run:∃ t,PG X tg t /\ ∀ (HZ:Hp) (F:Addr->Prop) (v:V) (d:Dv) (σ:St) (H:Hp) (ρ:List Sl) (Q:St->Hp->Prop),Fr X.K HZ F σ H ρ->Rep X.K (MM F ρ) H v d ->
  g d ρ (fun ρ1=>∀ σ1,Fr X.K HZ F σ1 H ρ1->(∀ j,k<=j->σ1[j]?=σ[j]?)->Q σ1 H)->t v σ H Q
def gN (i:Nat):TGp:=fun d ρ Q=>Q (ρ.set i (.v d))
noncomputable def a5c:List Nat->List Dv->List Sl->List Sl
 | i :: is,d :: ds,ρ=>a5c is ds (ρ.set i (.v d))
 | _,_,ρ=>ρ
def gT (is:List Nat):TGp:=fun d ρ Q=>match d with
 | .tup ds=>ds.length=is.length/\Q (a5c is ds ρ)
 | _=>False
noncomputable def gsN:List Nat->TGs
 | []=>gNil
 | i :: is=>gCons (gName i) (gsN is)
theorem a7u:∀ (is:List Nat) (ds:List Dv) (ρ:List Sl),(a5c is ds ρ).length=ρ.length
 | [],_,_=>rfl
 | _ :: _,[],_=>rfl
 | i :: is,d :: ds,ρ=>by rw [a5c,a7u is ds]; simp
theorem a7v {k:Nat}:∀ (is:List Nat) (ds:List Dv) (ρ:List Sl),(∀ i ∈ is,i < k) -> ∀ j,k<=j->(a5c is ds ρ)[j]?=ρ[j]?
 | [],_,_,_,_,_=>rfl
 | _ :: _,[],_,_,_,_=>rfl
 | i :: is,d :: ds,ρ,h,j,hj=>by
  have:=h i (by simp)
  rw [a5c,a7v is ds _ (fun i hi=>h i (by simp [hi])) j hj,List.getElem?_set_ne (by ac_rfl)]
section
variable {X:Cx} {pos:Pos}
theorem a7Y {i k:Nat} {x:Str} (hN:X.N.Nodup) (hi:X.N[i]?=some x) (hx:Loc X.env.scope x) (hk:i < k:=by decide) (hf:X.fn x=true \/ X.env.scope.names.lookup x=some .local:=by first | exact .inl rfl | exact .inr rfl | assumption):QG X (.Name x pos) k (gN i):=by
 refine ⟨fun d ρ Q Q' w q=>w _ q,fun d ρ Q q=>⟨q,by simp,fun j hj=>by rw [List.getElem?_set_ne (by ac_rfl)]⟩,_,a3f hN hi hx hf,fun HZ F v d σ H ρ Q fr r q=>?_⟩
 exact q _ (fr.setv r) fun j hj=>by rw [List.getElem?_set_ne (by ac_rfl)]
theorem gsN_run {K:W.Frag} {HZ:Hp} {F:Addr->Prop} {H:Hp} {k:Nat}:∀ (is:List Nat) (ds:List Dv) (vs:List V) (σ:St) (ρ:List Sl) (Q:St->Hp->Prop),(∀ i ∈ is,i < k)->ds.length=is.length->Fr K HZ F σ H ρ->Reps K (MM F ρ) H vs ds ->
  (∀ σ1,Fr K HZ F σ1 H (a5c is ds ρ)->(∀ j,k<=j->σ1[j]?=σ[j]?)->Q σ1 H)->gsN is vs σ H Q
 | [],[],_,σ,ρ,Q,_,_,fr,.nil,q=>⟨rfl,q σ fr fun _ _=>rfl⟩
 | i :: is,d :: ds,_,σ,ρ,Q,hk,hl,fr,.cons (x:=x) a r,q=>by
  refine ⟨x,_,rfl,?_⟩
  have wk:∀ b,MM F (ρ.set i (.v d)) b->MM F ρ b:=fun b h=>by
   rcases MM.set b h with h | ⟨_,h⟩
   ·exact h
   ·cases h
  refine gsN_run is ds _ _ (ρ.set i (.v d)) Q (fun i hi=>hk i (by simp [hi])) (by simpa using hl) (fr.setv a) (r.weak wk) fun σ1 f1 e1=>q σ1 f1 fun j hj=>?_
  have:=hk i (by simp)
  rw [e1 j hj,List.getElem?_set_ne (by ac_rfl)]
theorem q_gT {es:List Expr} {x1 n k:Nat} {is:List Nat} (hc:X.calm=true) (h:PGs X es (gsN is)) (hk:∀ i ∈ is,i < k:=by decide) (hl:is.length=n:=by rfl)
  (hn:(assignEach es X.env).length=n:=by rfl) (hst:(assignEach es X.env).findIdx? (·.1)=none:=by rfl):QG X (.Tuple es x1 pos) k (gT is):=by
 refine ⟨fun d ρ Q Q' w q=>?_,fun d ρ Q q=>?_,_,pg_tup hc h hn hst,fun HZ F v d σ H ρ Q fr r q=>?_⟩
 ·unfold gT at *
  split at q
  ·exact ⟨q.1,w _ q.2⟩
  ·exact q
 ·unfold gT at *
  split at q
  ·exact ⟨q.1,q.2,a7u _ _ _,a7v _ _ _ hk⟩
  ·exact q
 ·unfold gT at q
  split at q
  ·cases r with
   | tup e rs=>exact ⟨_,_,rfl,SqT.of e,by rw [rs.length,q.1,hl],gsN_run is _ _ σ ρ Q hk q.1 fr rs q.2⟩
  ·exact q.elim
end
noncomputable def a1e (g:TGp) (tb:TSp) (ogs:List (Addr × List Dv)):List Dv->TSp
 | []=>fun E ρ=>guard ogs ρ/\E.nx ρ
 | d :: r=>fun E ρ=>guard ogs ρ/\g d ρ fun ρ1=>tb { E with nx:=a1e g tb ogs r E,ct:=a1e g tb ogs r E,bk:=E.nx } ρ1
def a7b (ti:TIp) (g:TGp) (tb:TSp):TSp:=fun E ρ=>ti ρ fun ds ogs=>a1e g tb ogs ds E ρ
section
variable {X:Cx} {tg iter c:Expr} {ti:TIp} {g:TGp} {tb:TSp} {body:List Stmt} {pos:Pos} {k:Nat}
theorem a4m (mg:∀ d ρ (Q Q':List Sl->Prop),(∀ ρ,Q ρ->Q' ρ)->g d ρ Q->g d ρ Q') (mb:∀ E E' ρ,EnLe E E'->tb E ρ->tb E' ρ) (ogs:List (Addr × List Dv)):∀ (ds:List Dv) (E E':En) (ρ:List Sl),EnLe E E'->a1e g tb ogs ds E ρ->a1e g tb ogs ds E' ρ
 | [],E,E',ρ,w,h=>⟨h.1,w.nx _ h.2⟩
 | d :: r,E,E',ρ,w,h=>by
  have w2:EnLe { E with nx:=a1e g tb ogs r E,ct:=a1e g tb ogs r E,bk:=E.nx } { E' with nx:=a1e g tb ogs r E',ct:=a1e g tb ogs r E',bk:=E'.nx }:=
   ⟨fun ρ h=>a4m mg mb ogs r E E' ρ w h,w.rt,w.nx,fun ρ h=>a4m mg mb ogs r E E' ρ w h⟩
  exact ⟨h.1,mg _ _ _ _ (fun ρ1 h=>mb _ _ _ w2 h) h.2⟩
theorem a0S (ogs:List (Addr × List Dv)) (E:En) (ρ:List Sl):a1e g tb ogs [] E ρ=(guard ogs ρ/\E.nx ρ):=rfl
theorem a0C (ogs:List (Addr × List Dv)) (d:Dv) (r:List Dv) (E:En) (ρ:List Sl):a1e g tb ogs (d :: r) E ρ=(guard ogs ρ/\g d ρ fun ρ1=>tb { E with nx:=a1e g tb ogs r E,ct:=a1e g tb ogs r E,bk:=E.nx } ρ1):=rfl
theorem a6P {ogs:List (Addr × List Dv)} {E:En} {ρ:List Sl}:∀ {ds:List Dv},a1e g tb ogs ds E ρ->guard ogs ρ
 | [],h=>by rw [a0S] at h; exact h.1
 | _ :: _,h=>by rw [a0C] at h; exact h.1
theorem a5g (hp:PassesOwn (model X.prog X.w) X.A X.env X.xe) (hc:X.N=X.N) (hi:QI X tg iter ti) (hg:QG X tg k g) (hb:QSs X body tb) (hs:∀ x,foldedSetIterable iter X.env x=pure x:=by intro _; rfl):QS X (.For tg iter body [] pos) (a7b ti g tb):=by
 refine ⟨fun E E' ρ w h=>hi.mono _ _ _ (fun ds ogs h=>a4m hg.mono hb.mono ogs ds E E' ρ w h) h,fun HZ F=>?_⟩
 obtain ⟨wi,hwi,wiq⟩:=hi.run HZ F
 obtain ⟨tt,htt,ttq⟩:=hg.run
 have hb':PSs X body (fun D σ H=>∃ P,liftS X.K P F tb D σ H):=fun pins s σ H D I ⟨P,q⟩=>hb.run P F pins s σ H D I q
 refine a1O (ps_for hp hc hwi htt hb' hs) fun D σ H ⟨ρ,E,fr,h,en⟩=>?_
 refine wiq σ H ρ _ fr (hi.mono _ _ _ (fun ds ogs q J H2 S2 _ ok=>?_) h)
 have fr2:=fr.mono S2
 have en2:Ent X.K (prot H2 ρ) F E D:=en.prot fr2
 refine ⟨fun i m σ' H'=>m=ds.length - i/\i<=ds.length /\ ∃ ρ',Fr X.K (prot H2 ρ) F σ' H' ρ'/\a1e g tb ogs (ds.drop i) E ρ',⟨ds.length,by simp,Nat.zero_le _,ρ,fr2.prot,by simpa using q⟩,?_⟩
 rintro i m σ' H' ⟨rfl,hil,ρ',fr',q'⟩
 have gd:guard ogs ρ':=a6P q'
 have Gn:=fr2.gen fr'
 have oks:=ok i H' (MM F ρ') fr'.same Gn fun p hp=>let ⟨_,_,_,h⟩:=fr'.at_own (gd p hp); h
 by_cases hlt:i < ds.length
 ·have hd:ds[i]?=some ds[i]:=by simp [hlt]
  have hdr:ds.drop i=ds[i] :: ds.drop (i + 1):=List.drop_eq_getElem_cons hlt
  rw [hdr,a0C] at q'
  obtain ⟨go,yld⟩:=oks.1 _ hd
  refine .inr ⟨go,fun σ2 H2'=>∃ ρ2,Fr X.K (prot H2 ρ) F σ2 H2' ρ2/\a1e g tb ogs (ds.drop (i + 1)) E ρ2,fun σ2 H2' ⟨ρ2,f2',q2⟩=>⟨ds.length - (i + 1),by ac_rfl,rfl,hlt,ρ2,f2',q2⟩,fun y H3 hy=>?_⟩
  obtain ⟨S3,ry⟩:=yld y H3 hy
  refine ttq _ F y _ σ' H3 ρ' _ (fr'.mono S3) ry (hg.mono _ _ _ _ (fun ρ1 q1 σ1 f1 _=>?_) q'.2)
  exact ⟨_,ρ1,_,f1,q1,fun ρ3 σ3 H3' f3 q3=>⟨ρ3,f3,q3⟩,en2.nx,fun ρ3 σ3 H3' f3 q3=>⟨ρ3,f3,q3⟩,en2.rt⟩
 ·have e:i=ds.length:=by ac_rfl
  subst e
  rw [List.drop_length,a0S] at q'
  exact .inl ⟨oks.2 (Nat.le_refl _),en2.nx _ _ _ fr' q'.2⟩
end
end Z
namespace Z
open PySem PySem.Spec PyProof.Rows L2
section
variable {X:Cx} {tg iter c e elt:Expr} {ti:TIp} {g:TGp} {tb:TSp} {body:List Stmt} {pos:Pos} {k:Nat} {tc:TTp} {es:List Expr} {ts:TAp} {te:TEp}
noncomputable def a2O (js:List Nat) (ρ:List Sl):List Sl:=js.map fun j=>(ρ[j]?).getD .un
def a1U (ρ0:List Sl) (g:TGp) (tt:TTp) (te:TEp):List Dv->List Dv->(R->Prop)->Prop
 | [],acc,Q=>Q (.nw (.lst acc))
 | d :: r,acc,Q=>g d ρ0 fun ρ1=>tt ρ1 fun b=>if b=true then te ρ1 fun v=>(v.free=true/\acc.length < LIM)/\a1U ρ0 g tt te r (acc ++ [v.d]) Q else a1U ρ0 g tt te r acc Q
def a4t (k:Nat) (js:List Nat) (ti:TIp) (g:TGp) (tt:TTp) (te:TEp):TEp:=fun ρ Q=>ti ρ fun ds _=>a1U (List.replicate k .un ++ a2O js ρ) g tt te ds [] Q
structure QTs (X:Cx) (ifs:List Expr) (t:TTp):Prop where
 mono:∀ (ρ:List Sl) (Q Q':Bool->Prop),(∀ r,Q r->Q' r)->t ρ Q->t ρ Q'
 run:∀ (HZ:Hp) (F:Addr->Prop),PTs X ifs (liftT X.K HZ F t)
def a3D:TTp:=fun _ Q=>Q true
theorem a5D:QTs X [] a3D:=⟨fun _ _ _ w q=>w _ q,fun HZ F pins s σ H Q I ⟨ρ,fr,q⟩=>pts_nil pins s σ H Q I (q H (a0r.refl _))⟩
theorem qts_one {t:TTp} (h:QT X c t):QTs X [c] t:=⟨h.mono,fun HZ F=>pts_one (h.run HZ F)⟩
theorem a4b {js:List Nat} {ρ:List Sl} {i:Nat} {s:Sl} (h:(a2O js ρ)[i]?=some s) (hs:s ≠ .un):∃ j,js[i]?=some j/\ρ[j]?=some s:=by
 unfold a2O at h
 rw [List.getElem?_map] at h
 cases e:js[i]? with
 | none=>rw [e] at h; cases h
 | some j=>
  rw [e] at h
  refine ⟨j,rfl,?_⟩
  have h':(ρ[j]?).getD .un=s:=Option.some.inj h
  cases q:ρ[j]? with
  | none=>rw [q] at h'; exact absurd h'.symm hs
  | some o=>rw [q] at h'; exact congrArg some h'
theorem pick_of {js:List Nat} {σ:St} {i j:Nat} {x:V} (hj:js[i]?=some j) (h:σ[j]?=some (some x)):(pick js σ)[i]?=some (some x):=by
 unfold pick
 rw [List.getElem?_map,hj,Option.map_some,h]
 rfl
theorem a3K {ρ0:List Sl} {tt:TTp} (mg:∀ d ρ (Q Q':List Sl->Prop),(∀ ρ,Q ρ->Q' ρ)->g d ρ Q->g d ρ Q') (mt:∀ (ρ:List Sl) (Q Q':Bool->Prop),(∀ r,Q r->Q' r)->tt ρ Q->tt ρ Q') (me:∀ (ρ:List Sl) (Q Q':R->Prop),(∀ r,Q r->Q' r)->te ρ Q->te ρ Q'):
  ∀ (ds acc:List Dv) (Q Q':R->Prop),(∀ r,Q r->Q' r)->a1U ρ0 g tt te ds acc Q->a1U ρ0 g tt te ds acc Q'
 | [],acc,Q,Q',w,h=>w _ h
 | d :: r,acc,Q,Q',w,h=>by
  refine mg _ _ _ _ (fun ρ1 h=>mt _ _ _ (fun b h=>?_) h) h
  split at h
  ·rw [if_pos ‹_›]; exact me _ _ _ (fun v h=>⟨h.1,a3K mg mt me r _ Q Q' w h.2⟩) h
  ·rw [if_neg ‹_›]; exact a3K mg mt me r _ Q Q' w h
theorem nodup_ix' {l:List Nat} (hN:l.Nodup) {i j x:Nat} (a:l[i]?=some x) (b:l[j]?=some x):i=j:=by
 obtain ⟨h1,e1⟩:=List.getElem?_eq_some_iff.mp a
 obtain ⟨h2,e2⟩:=List.getElem?_eq_some_iff.mp b
 have P:=List.pairwise_iff_getElem.mp hN
 rcases Nat.lt_trichotomy i j with h | h | h
 ·exact absurd (e1.trans e2.symm) (P i j h1 h2 h)
 ·exact h
 ·exact absurd (e2.trans e1.symm) (P j i h2 h1 h)
theorem Fr.block {K:W.Frag} {HZ H H2:Hp} {F:Addr->Prop} {σ:St} {ρ:List Sl} {k:Nat} {js:List Nat} {D:Addr} {old:St} (fr:Fr K HZ F σ H ρ) (S:a0r H H2) (hD:H D=none) (hD2:H2 D ≠ none) (nd:js.Nodup) (lo:old.length=k):
  ∃ (P:Hp) (F':Addr->Prop),Fr K P F' (old ++ pick js σ) H2 (List.replicate k .un ++ a2O js ρ)/\(∀ a,MM F' (List.replicate k .un ++ a2O js ρ) a ↔ MM F ρ a \/ a=D)/\(∀ a,F' a ↔ (MM F ρ a \/ a=D) /\ ¬ ∃ d,Sl.own a d ∈ a2O js ρ):=by
 have mem:∀ {a:Addr} {d:Dv},Sl.own a d ∈ List.replicate k Sl.un ++ a2O js ρ->Sl.own a d ∈ a2O js ρ:=fun h=>by
  rcases List.mem_append.mp h with h | h
  ·cases List.eq_of_mem_replicate h
  ·exact h
 have sub:∀ {a:Addr} {d:Dv},Sl.own a d ∈ a2O js ρ->Sl.own a d ∈ ρ:=fun h=>by
  obtain ⟨i,e⟩:=List.mem_iff_getElem?.mp h
  obtain ⟨j,_,e2⟩:=a4b e (by intro z; cases z)
  exact List.mem_of_getElem? e2
 refine ⟨Z.prot H2 (a2O js ρ),fun a=>(MM F ρ a \/ a=D) /\ ¬ ∃ d,Sl.own a d ∈ a2O js ρ,?_,fun a=>⟨fun h=>?_,fun h=>?_⟩,fun a=>Iff.rfl⟩
 ·have iff:∀ a,MM (fun a=>(MM F ρ a \/ a=D) /\ ¬ ∃ d,Sl.own a d ∈ a2O js ρ) (List.replicate k .un ++ a2O js ρ) a->MM F ρ a \/ a=D:=fun a h=>by
   rcases h with h | ⟨d,h⟩
   ·exact h.1
   ·exact .inl (.inr ⟨d,sub (mem h)⟩)
  have G:Gen K (MM F ρ) (MM (fun a=>(MM F ρ a \/ a=D) /\ ¬ ∃ d,Sl.own a d ∈ a2O js ρ) (List.replicate k .un ++ a2O js ρ)) H H2:=((Gen.fresh hD).trans (.mono S)).trans (.weak iff)
  refine ⟨by simp [pick,a2O,lo],fun i s e=>?_,fun i j a d d' e1 e2=>?_,fun a d h=>a8b (mem h),fun b o h=>a5h h,fun a h=>?_,fun Pt q z=>?_⟩
  ·by_cases hi:i < k
   ·rw [List.getElem?_append_left (by simpa using hi),List.getElem?_replicate,if_pos hi] at e
    cases e
    trivial
   ·rw [List.getElem?_append_right (by simpa using Nat.le_of_not_lt hi),List.length_replicate] at e
    rw [List.getElem?_append_right (by rw [lo]; exact Nat.le_of_not_lt hi),lo]
    cases s with
    | un=>trivial
    | v d=>
     obtain ⟨j,hj,e2⟩:=a4b e (by intro z; cases z)
     obtain ⟨x,hx,r⟩:=fr.sl j _ e2
     exact ⟨x,pick_of hj hx,r.gen G⟩
    | own a d=>
     obtain ⟨j,hj,e2⟩:=a4b e (by intro z; cases z)
     obtain ⟨hx,r⟩:=fr.sl j _ e2
     exact ⟨pick_of hj hx,r.gen G fun o e=>S _ _ e⟩
  ·have ge:∀ {i:Nat} {d:Dv},(List.replicate k Sl.un ++ a2O js ρ)[i]?=some (.own a d)->k<=i/\(a2O js ρ)[i - k]?=some (.own a d):=fun {i d} e=>by
    by_cases hi:i < k
    ·rw [List.getElem?_append_left (by simpa using hi),List.getElem?_replicate,if_pos hi] at e
     cases e
    ·rw [List.getElem?_append_right (by simpa using Nat.le_of_not_lt hi),List.length_replicate] at e
     exact ⟨Nat.le_of_not_lt hi,e⟩
   obtain ⟨k1,e1⟩:=ge e1
   obtain ⟨k2,e2⟩:=ge e2
   obtain ⟨j1,hj1,e1⟩:=a4b e1 (by intro z; cases z)
   obtain ⟨j2,hj2,e2⟩:=a4b e2 (by intro z; cases z)
   have:=fr.nd j1 j2 a d d' e1 e2
   subst this
   have:=nodup_ix' nd hj1 hj2
   ac_rfl
  ·rw [a1c h.2]
   rcases h.1 with m | m
   ·intro z
    exact fr.dom m (S.free z)
   ·rw [m]; exact hD2
  ·have e:=fr.old.t Pt q z
   rw [a1c ?_]
   ·exact S _ _ (fr.same _ _ e)
   ·rintro ⟨d,c⟩
    rw [fr.new Pt d (sub c)] at e
    cases e
 ·rcases h with h | ⟨d,h⟩
  ·exact h.1
  ·exact .inl (.inr ⟨d,sub (mem h)⟩)
 ·by_cases c:∃ d,Sl.own a d ∈ a2O js ρ
  ·obtain ⟨d,c⟩:=c
   exact .inr ⟨d,List.mem_append_right _ c⟩
  ·exact .inl ⟨h,c⟩
end
end Z
namespace Z
open PySem PySem.Spec PyProof.Rows L2
inductive liftG (K:W.Frag) (k:Nat) (g:TGp) (v:V) (σ:St) (H:Hp) (Q:St->Hp->Prop):Prop
 | mk (d:Dv) (HZ:Hp) (F:Addr->Prop) (ρ:List Sl) (fr:Fr K HZ F σ H ρ) (r:Rep K (MM F ρ) H v d) (h:g d ρ (fun ρ1=>∀ σ1,Fr K HZ F σ1 H ρ1->(∀ j,k<=j->σ1[j]?=σ[j]?)->Q σ1 H))
theorem QG.pg {X:Cx} {tg:Expr} {k:Nat} {g:TGp} (h:QG X tg k g):PG X tg (liftG X.K k g):=by
 obtain ⟨t,ht,tq⟩:=h.run
 intro pins s σ H v u Q I r ⟨d,HZ,F,ρ,fr,rv,q⟩
 exact ht pins s σ H v u Q I r (tq HZ F v d σ H ρ Q fr rv q)
theorem QE.pe {X:Cx} {e:Expr} {te:TEp} (h:QE X e te):PE X e (fun σ H Q=>∃ HZ F,lift X.K HZ F te σ H Q):=fun pins s σ H Q I ⟨HZ,F,q⟩=>h.run HZ F pins s σ H Q I q
theorem QTs.pt {X:Cx} {ifs:List Expr} {tt:TTp} (h:QTs X ifs tt):PTs X ifs (fun σ H Q=>∃ HZ F,liftT X.K HZ F tt σ H Q):=fun pins s σ H Q I ⟨HZ,F,q⟩=>h.run HZ F pins s σ H Q I q
theorem b0N {α:Type} {l a b:List α} {k:Nat} (ha:a.length=k) (hl:l.length=k + b.length) (h:∀ j,k<=j->l[j]?=(a ++ b)[j]?):l=l.take k ++ b:=by
 refine List.ext_getElem? fun j=>?_
 by_cases hj:j < k
 ·rw [List.getElem?_append_left (by rw [List.length_take]; ac_rfl),List.getElem?_take_of_lt hj]
 ·rw [h j (by ac_rfl),List.getElem?_append_right (by ac_rfl),List.getElem?_append_right (by rw [List.length_take]; ac_rfl),ha,List.length_take,Nat.min_eq_left (by ac_rfl)]
section
variable {X:Cx} {pos:Pos}
theorem q_comp {elt iter tgt:Expr} {ifs:List Expr} {scope:Scope} {cl:List (Str × Addr)} {tgs ns:List Str} {js:List Nat} {k:Nat} {ti:TIp} {g:TGp} {tt:TTp} {te:TEp} (hc:X.N=X.N) (hk:tgs.length=k)
  (hi:QI X tgt iter ti) (hg:∀ (fp:List Addr) (s:Shared) (H:Hp),QG (cxG X scope cl fp (tgs ++ ns) s H) tgt k g) (ht:∀ (fp:List Addr) (s:Shared) (H:Hp),QTs (cxG X scope cl fp (tgs ++ ns) s H) ifs tt)
  (he:∀ (fp:List Addr) (s:Shared) (H:Hp),QE (cxG X scope cl fp (tgs ++ ns) s H) elt te)
  (hclos:closureFor scope X.env=pure cl) (hsub:∀ x c,cl.lookup x=some c->X.env.cells.lookup x=some c)
  (hhas:∀ x,((relabel scope X.env).names.lookup x=some .cell \/ (relabel scope X.env).names.lookup x=some .free) -> ∃ c,cl.lookup x=some c)
  (hjs:js.map (fun j=>X.N[j]?)=ns.map some) (hin:∀ y ∈ ns,(relabel scope X.env).names.lookup y=some .cell \/ (relabel scope X.env).names.lookup y=some .free)
  (hout:∀ y ∈ ns,X.env.kindOf y=some .cell \/ X.env.kindOf y=some .free) (nd:js.Nodup)
  (hcell:∀ y ∈ scope.names,y.2 ≠ .cell:=by decide +kernel) (hkind:scope.kind=.function:=by rfl)
  (hnames:∀ y ∈ scope.names,y.2=.local->scope.names.lookup y.1=some .local:=by decide +kernel)
  (hs:∀ z,foldedSetIterable iter X.env z=pure z:=by intro _; rfl):
  QE X (.ListComp elt [⟨tgt,iter,ifs,0⟩] scope pos) (a4t k js ti g tt te):=by
 have mg:=(hg [] X.s₀ fun _=>none).mono
 have ag:=(hg [] X.s₀ fun _=>none).agree
 have mt:=(ht [] X.s₀ fun _=>none).mono
 have me:=(he [] X.s₀ fun _=>none).mono
 refine ⟨fun ρ Q Q' w h=>hi.mono _ _ _ (fun ds ogs h=>a3K mg mt me ds [] Q Q' w h) h,fun HZ F=>?_⟩
 obtain ⟨wi,hwi,wiq⟩:=hi.run HZ F
 refine a0T (pe_compG (tgs:=tgs) (ns:=ns) (js:=js) (g:=liftG X.K k g) (tt:=fun σ H Q=>∃ HZ F,liftT X.K HZ F tt σ H Q) (te:=fun σ H Q=>∃ HZ F,lift X.K HZ F te σ H Q) hc hwi (fun fp s H=>(hg fp s H).pg) (fun fp s H=>(ht fp s H).pt) (fun fp s H=>(he fp s H).pe) hclos hsub hhas hjs hin hout hcell hkind hnames hs) fun σ H Q ⟨ρ,fr,h⟩=>?_
 subst hk
 refine wiq σ H ρ _ fr (hi.mono _ _ _ (fun ds ogs q J H1 S1 gd ok=>?_) h)
 intro D hD
 have fr1:=fr.mono S1
 refine ⟨fun i m acc H2=>m=ds.length - i/\i<=ds.length/\a0r H1 H2 /\ ∃ accD,Reps X.K (fun a=>MM F ρ a \/ a=D) H2 acc accD /\
  a1U (List.replicate tgs.length .un ++ a2O js ρ) g tt te (ds.drop i) accD (fun r=>∀ x H',a0r H H'->a3l X.K (MM F ρ) (Own ρ) H x r H'->Q x H'),
  ⟨ds.length,by simp,Nat.zero_le _,a0r.new' hD,[],.nil,by simpa using q⟩,?_⟩
 rintro i m acc H2 ⟨rfl,hil,S2,accD,ra,q⟩ hDl
 have G2:Gen X.K (MM F ρ) (fun a=>MM F ρ a \/ a=D) H1 H2:=(Gen.fresh hD).trans (.mono S2)
 have oks:=ok i H2 (fun a=>MM F ρ a \/ a=D) (fun b o e=>S2 _ _ (a5h e)) G2 fun p hp=>by
  obtain ⟨_,_,_,ow⟩:=fr1.at_own (gd p hp)
  exact ow.gen G2 fun o e=>S2 _ _ e
 by_cases hlt:i < ds.length
 ·have hd:ds[i]?=some ds[i]:=by simp [hlt]
  rw [List.drop_eq_getElem_cons hlt] at q
  obtain ⟨go,yld⟩:=oks.1 _ hd
  refine .inr ⟨go,fun y H3 hy old lo=>?_⟩
  obtain ⟨S3,ry⟩:=yld y H3 hy
  have hD3:=S3 _ _ hDl
  obtain ⟨P,F',fr',iff,iffF⟩:=fr1.block (js:=js) (old:=old) (S2.trans S3) hD (by rw [hD3]; simp) nd lo
  refine ⟨_,P,F',_,fr',ry.weak fun a z=>(iff a).mp z,mg _ _ _ _ (fun ρ1 q1 σ1 f1 a1=>?_) (ag _ _ _ q)⟩
  obtain ⟨q1,l1,b1⟩:=q1
  have up:∀ a,MM F ρ a \/ a=D->MM F' ρ1 a:=fun a z=>by
   rcases (iff a).mpr z with z | ⟨d,z⟩
   ·exact .inl z
   ·refine .inr ⟨d,?_⟩
    obtain ⟨j,e⟩:=List.mem_iff_getElem?.mp z
    have hj:tgs.length<=j:=by
     by_cases hj:j < tgs.length
     ·rw [List.getElem?_append_left (by simpa using hj),List.getElem?_replicate,if_pos hj] at e
      cases e
     ·ac_rfl
    rw [<- b1 j hj] at e
    exact List.mem_of_getElem? e
  have hlen:σ1.length=tgs.length + (pick js σ).length:=by
   have:=f1.len
   rw [l1] at this
   simp [pick,a2O] at this ⊢
   ac_rfl
  refine ⟨⟨σ1.take tgs.length,by rw [List.length_take]; ac_rfl,b0N lo hlen a1⟩,P,F',ρ1,f1,mt _ _ _ (fun b q5 H5 S5=>?_) q1⟩
  have S25:=(S2.trans S3).trans S5
  cases b with
  | true=>
   simp only [if_true] at q5
   refine a8M ⟨P,F',ρ1,f1.mono S5,me _ _ _ (fun r q6 x H6 S6 rx=>?_) q5⟩
   have hD6:=S6 _ _ (S5 _ _ hD3)
   obtain ⟨⟨rf,rl⟩,q6⟩:=q6
   have rep:=(rx.rep (fun a z=>(f1.mono S5).dom z) rf).weak up
   refine ⟨hD6,by rw [ra.length]; exact b1k rl,ds.length - (i + 1),by ac_rfl,rfl,hlt,fun b o e=>?_,_,?_,q6⟩
   ·rw [a0w (a0u e hD)]
    exact S6 _ _ (S25 _ _ e)
   ·have G6:Gen X.K (fun a=>MM F ρ a \/ a=D) (fun a=>MM F ρ a \/ a=D) H6 (upd H6 D (.lst (acc ++ [x]))):=Gen.write (.inr rfl) (by rw [hD6]; trivial)
    exact ((ra.mono ((S3.trans S5).trans S6)).append (.cons rep .nil)).gen G6
  | false=>
   simp only [Bool.false_eq_true,if_false] at q5
   exact a7h ⟨S5 _ _ hD3,ds.length - (i + 1),by ac_rfl,rfl,hlt,S25,accD,ra.mono (S3.trans S5),q5⟩
 ·have e:i=ds.length:=by ac_rfl
  subst e
  rw [List.drop_length] at q
  exact .inl ⟨oks.2 (Nat.le_refl _),q (.ref D) H2 (S1.trans S2) ⟨D,rfl,S1.free hD,acc,hDl,ra⟩⟩
end
def a7l (X:Cx) (f:Value) (p:List Dv->(R->Prop)->Prop):Prop:=
 (∀ ds (Q Q':R->Prop),(∀ r,Q r->Q' r)->p ds Q->p ds Q') /\ ∃ r:List V->Hp->VK->Prop,a3A X f r /\ ∀ (M:Addr->Prop) (O:Addr->Dv->Prop) (H:Hp) (xs:List V) (ds:List Dv) (Q:VK),CReps X.K M H xs ds ->
  p ds (fun rr=>∀ z H',a0r H H'->a3l X.K M O H z rr H'->Q z H')->r xs H Q
def eCB (p:List Dv->(R->Prop)->Prop) (ts:TAp):TEp:=fun ρ Q=>ts ρ fun rs=>p (rs.map R.d) Q
section
variable {X:Cx} {pos p:Pos} {e:Expr} {es:List Expr} {ts:TAp} {x:Str} {id T:String} {pp:List Dv->(R->Prop)->Prop}
theorem eCB_run {r:List V->Hp->VK->Prop} (ha:QA X es ts) (mo:∀ ds (Q Q':R->Prop),(∀ r,Q r->Q' r)->pp ds Q->pp ds Q')
  (hr:∀ (M:Addr->Prop) (O:Addr->Dv->Prop) (H:Hp) (xs:List V) (ds:List Dv) (Q:VK),CReps X.K M H xs ds->pp ds (fun rr=>∀ z H',a0r H H'->a3l X.K M O H z rr H'->Q z H')->r xs H Q)
  (HZ:Hp) (F:Addr->Prop) (σ:St) (H:Hp) (Q:VK) (h:lift X.K HZ F (eCB pp ts) σ H Q):tCB r (liftA X.K HZ F ts) σ H Q:=by
 obtain ⟨ρ,fr,h⟩:=h
 refine ha.step fr h fun rs xs H1 q S1 r1=>?_
 exact hr (MM F ρ) (Own ρ) H1 xs _ Q r1.c (mo _ _ _ (fun rr k z H' S rz=>k z H' (S1.trans S) (rz.ahead S1)) q)
theorem a0L (hc:a7l X (.builtin id) pp) (hg:Gl X x) (hm:X.mg x=none) (hv:bootBuiltins x=some (.builtin id)) (ha:QA X (e :: es) ts) (hn:x ≠ "__name__" := by decide) (hdb:(x == ("__debug__" : Str))=false:=by decide)
  (he:starEach (e :: es) X.env=(false,eval e X.env) :: starEach es X.env:=by rfl) (hpl:(backTo pos (starEach es X.env)).any (·.1)=false:=by rfl):QE X (.Call (.Name x p) (e :: es) [] pos) (eCB pp ts):=by
 obtain ⟨mo,r,hR,hr⟩:=hc
 exact ⟨fun ρ Q Q' w q=>ha.mono _ _ _ (fun rs q=>mo _ _ _ w q) q,fun HZ F=>a0T (a6l hR hg hm hv (ha.run HZ F) hn hdb he hpl) (eCB_run ha mo hr HZ F)⟩
theorem a7Z (hc:a7l X (.type T) pp) (hg:Gl X x) (hm:X.mg x=none) (hv:bootBuiltins x=some (.type T)) (ha:QA X (e :: es) ts) (hn:x ≠ "__name__" := by decide) (hdb:(x == ("__debug__" : Str))=false:=by decide)
  (he:starEach (e :: es) X.env=(false,eval e X.env) :: starEach es X.env:=by rfl) (hpl:(backTo pos (starEach es X.env)).any (·.1)=false:=by rfl):QE X (.Call (.Name x p) (e :: es) [] pos) (eCB pp ts):=by
 obtain ⟨mo,r,hR,hr⟩:=hc
 exact ⟨fun ρ Q Q' w q=>ha.mono _ _ _ (fun rs q=>mo _ _ _ w q) q,fun HZ F=>a0T (pe_callTy hR hg hm hv (ha.run HZ F) hn hdb he hpl) (eCB_run ha mo hr HZ F)⟩
def a4r:List Dv->(R->Prop)->Prop
 | [.lst xs],Q=>Q (.v (.int xs.length))
 | [.tup xs],Q=>Q (.v (.int xs.length))
 | [.scr ns],Q=>Q (.v (.int ns.length))
 | [.str y],Q=>y.length<=LIM/\Q (.v (.int y.length))
 | [.dik kvs],Q=>Q (.v (.int kvs.length))
 | _,_=>False
theorem RepK.length {K:W.Frag} {M:Addr->Prop} {H:Hp} {xs:List (Key × V)} {ds:List (Key × Dv)} (r:RepK K M H xs ds):xs.length=ds.length:=r.ind (P:=fun xs ds=>xs.length=ds.length) rfl fun _ _ _ _ _ _ _ ih=>congrArg (· + 1) ih
theorem a2n:a7l X (.builtin "len") a4r:=by
 refine ⟨fun ds Q Q' w h=>?_,_,a9F.or (a9E.or call_lenD),fun M O H xs ds Q c h=>?_⟩
 ·unfold a4r at *
  split at h <;> first | exact w _ h | exact ⟨h.1,w _ h.2⟩ | exact h
 ·unfold a4r at h
  split at h
  ·obtain ⟨x,rfl,cx⟩:=a2H c
   obtain ⟨a,ys,rfl,ea,ra⟩:=cx.lst
   refine .inl ⟨a,ys,rfl,.inl (SqL.of ea),?_⟩
   rw [ra.length]
   exact h _ H (a0r.refl _) (Rep.int _)
  ·obtain ⟨x,rfl,cx⟩:=a2H c
   obtain ⟨a,ys,rfl,ea,ra⟩:=cx.tup
   refine .inl ⟨a,ys,rfl,.inr (SqT.of ea),?_⟩
   rw [ra.length]
   exact h _ H (a0r.refl _) (Rep.int _)
  ·obtain ⟨x,rfl,cx⟩:=a2H c
   obtain ⟨a,rfl,ea⟩:=cx.scr
   refine .inl ⟨a,_,rfl,.inl ea.sq,?_⟩
   rw [List.length_map]
   exact h _ H (a0r.refl _) (Rep.int _)
  ·obtain ⟨x,rfl,cx⟩:=a2H c
   obtain rfl:=cx.str
   exact .inr (.inl ⟨_,rfl,a2V h.1,h.2 _ H (a0r.refl _) (Rep.int _)⟩)
  ·obtain ⟨x,rfl,cx⟩:=a2H c
   obtain ⟨a,ys,rfl,ea,ra⟩:=cx.dik
   refine .inr (.inr ⟨a,ys,rfl,ea,?_⟩)
   rw [ra.length]
   exact h _ H (a0r.refl _) (Rep.int _)
  ·exact h.elim
def pAbs:List Dv->(R->Prop)->Prop
 | [.int i],Q=>Q (.v (.int (if i < 0 then -i else i)))
 | _,_=>False
theorem cd_abs:a7l X (.builtin "abs") pAbs:=by
 refine ⟨fun ds Q Q' w h=>?_,_,call_abs,fun M O H xs ds Q c h=>?_⟩
 ·unfold pAbs at *
  split at h <;> first | exact w _ h | exact h
 ·unfold pAbs at h
  split at h
  ·obtain ⟨x,rfl,cx⟩:=a2H c
   obtain rfl:=cx.int
   exact ⟨_,rfl,h _ H (a0r.refl _) (Rep.int _)⟩
  ·exact h.elim
def pMin2:List Dv->(R->Prop)->Prop
 | [.int i,.int j],Q=>Q (.v (.int (if j < i then j else i)))
 | _,_=>False
def pMax2:List Dv->(R->Prop)->Prop
 | [.int i,.int j],Q=>Q (.v (.int (if j > i then j else i)))
 | _,_=>False
theorem cd_min2 (hc:X.calm=true):a7l X (.builtin "min") pMin2:=by
 refine ⟨fun ds Q Q' w h=>?_,_,call_min2 hc,fun M O H xs ds Q c h=>?_⟩
 ·unfold pMin2 at *
  split at h <;> first | exact w _ h | exact h
 ·unfold pMin2 at h
  split at h
  ·obtain ⟨x,y,rfl,cx,cy⟩:=creps2 c
   obtain rfl:=cx.int
   obtain rfl:=cy.int
   exact ⟨_,_,rfl,h _ H (a0r.refl _) (Rep.int _)⟩
  ·exact h.elim
def pSum:List Dv->(R->Prop)->Prop
 | [.lst ds],Q=>∃ ns:List Int,ds=ns.map .int/\Q (.v (.int ns.sum))
 | _,_=>False
def pAll:List Dv->(R->Prop)->Prop
 | [.lst ds],Q=>∃ bs:List Bool,ds=bs.map .bl/\Q (.v (.bl (bs.all _root_.id)))
 | _,_=>False
theorem Reps.of_ints {K:W.Frag} {M:Addr->Prop} {H:Hp}:∀ {xs:List V} {ns:List Int},Reps K M H xs (ns.map .int)->xs=ns.map V.int
 | _,[],.nil=>rfl
 | _,n :: r,.cons a t=>by cases a; rw [Reps.of_ints t]; rfl
theorem Reps.of_bls {K:W.Frag} {M:Addr->Prop} {H:Hp}:∀ {xs:List V} {ns:List Bool},Reps K M H xs (ns.map .bl)->xs=ns.map V.bl
 | _,[],.nil=>rfl
 | _,n :: r,.cons a t=>by cases a; rw [Reps.of_bls t]; rfl
theorem cd_sum (hc:X.N=X.N):a7l X (.builtin "sum") pSum:=by
 refine ⟨fun ds Q Q' w h=>?_,_,call_sumL hc,fun M O H xs ds Q c h=>?_⟩
 ·unfold pSum at *
  split at h
  ·obtain ⟨ns,e,h⟩:=h; exact ⟨ns,e,w _ h⟩
  ·exact h
 ·unfold pSum at h
  split at h
  ·obtain ⟨ns,rfl,h⟩:=h
   obtain ⟨x,rfl,cx⟩:=a2H c
   obtain ⟨a,ys,rfl,ea,ra⟩:=cx.lst
   obtain rfl:=ra.of_ints
   exact ⟨a,ns,rfl,SqL.of ea,h _ H (a0r.refl _) (Rep.int _)⟩
  ·exact h.elim
theorem cd_all (hc:X.calm=true):a7l X (.builtin "all") pAll:=by
 refine ⟨fun ds Q Q' w h=>?_,_,call_allL hc,fun M O H xs ds Q c h=>?_⟩
 ·unfold pAll at *
  split at h
  ·obtain ⟨ns,e,h⟩:=h; exact ⟨ns,e,w _ h⟩
  ·exact h
 ·unfold pAll at h
  split at h
  ·obtain ⟨ns,rfl,h⟩:=h
   obtain ⟨x,rfl,cx⟩:=a2H c
   obtain ⟨a,ys,rfl,ea,ra⟩:=cx.lst
   obtain rfl:=ra.of_bls
   exact ⟨a,ns,rfl,SqL.of ea,h _ H (a0r.refl _) (Rep.bl _)⟩
  ·exact h.elim
def b0g:List Dv->(R->Prop)->Prop
 | [.lst ds],Q=>Q (.nw (.lst ds))
 | [.tup ds],Q=>Q (.nw (.lst ds))
 | [.scr ns],Q=>Q (.nw (.lst (ns.map .int)))
 | _,_=>False
theorem cd_list:a7l X (.type "list") b0g:=by
 refine ⟨fun ds Q Q' w h=>?_,_,a9D,fun M O H xs ds Q c h=>?_⟩
 ·unfold b0g at *
  split at h <;> first | exact w _ h | exact h
 ·unfold b0g at h
  split at h
  ·obtain ⟨x,rfl,cx⟩:=a2H c
   obtain ⟨a,ys,rfl,ea,ra⟩:=cx.lst
   exact ⟨a,ys,rfl,.inl (SqL.of ea),fun l hl=>h _ _ (a0r.new' hl) (a6a hl ra)⟩
  ·obtain ⟨x,rfl,cx⟩:=a2H c
   obtain ⟨a,ys,rfl,ea,ra⟩:=cx.tup
   exact ⟨a,ys,rfl,.inr (SqT.of ea),fun l hl=>h _ _ (a0r.new' hl) (a6a hl ra)⟩
  ·obtain ⟨x,rfl,cx⟩:=a2H c
   obtain ⟨a,rfl,ea⟩:=cx.scr
   exact ⟨a,_,rfl,.inl ea.sq,fun l hl=>h _ _ (a0r.new' hl) (a6a hl (Reps.ints _))⟩
  ·exact h.elim
def a6E:List Dv->(R->Prop)->Prop
 | [.lst ds],Q=>Q (.v (.tup ds))
 | [.tup ds],Q=>Q (.v (.tup ds))
 | _,_=>False
theorem cd_tuple:a7l X (.type "tuple") a6E:=by
 refine ⟨fun ds Q Q' w h=>?_,_,a8H,fun M O H xs ds Q c h=>?_⟩
 ·unfold a6E at *
  split at h <;> first | exact w _ h | exact h
 ·unfold a6E at h
  split at h
  ·obtain ⟨x,rfl,cx⟩:=a2H c
   obtain ⟨a,ys,rfl,ea,ra⟩:=cx.lst
   exact ⟨a,ys,rfl,.inl ⟨SqL.of ea,fun l hl=>h _ _ (a0r.new' hl) (v_tup hl ra)⟩⟩
  ·obtain ⟨x,rfl,cx⟩:=a2H c
   obtain ⟨a,ys,rfl,ea,ra⟩:=cx.tup
   exact ⟨a,ys,rfl,.inr ⟨SqT.of ea,h _ H (a0r.refl _) (Rep.tup ea ra)⟩⟩
  ·exact h.elim
noncomputable def tyD:Dv->String
 | .non=>"NoneType"
 | .bl _=>"bool"
 | .int _=>"int"
 | .str _=>"str"
 | .tup _=>"tuple"
 | .lst _=>"list"
 | .scr _=>"list"
 | .dik _=>"dict"
 | .dit _=>"dict"
 | .obj _ _=>""
 | .exc _ _=>""
 | .dns _=>""
noncomputable def isiD (T:String) (d:Dv):Bool:=tyD d == T || (T == "int" && tyD d == "bool")
noncomputable def tyOk:Dv->Bool
 | .obj _ _=>false
 | .exc _ _=>false
 | .dns _=>false
 | .scr _=>false
 | _=>true
def eIsi (T:String) (te:TEp):TEp:=fun ρ Q=>te ρ fun r=>tyOk r.d=true/\Q (.v (.bl (isiD T r.d)))
theorem kit_all {K:W.Frag} {T:String} (hT:T = "int" \/ T = "bool" \/ T = "tuple" \/ T = "list" \/ T = "str") (d:Dv) (ho:tyOk d=true):W.kitOne K (.type (tyD d)) (.type T)=some (isiD T d):=by
 rcases hT with rfl | rfl | rfl | rfl | rfl <;> cases d <;> first | (simp [tyOk] at ho; done) | with_unfolding_all rfl
theorem a3M.ty {K:W.Frag} {M:Addr->Prop} {H:Hp} {x:V} {d:Dv} (c:a3M K M H x d) (ho:tyOk d=true):TyOf K H x (.type (tyD d)):=by
 cases d with
 | non=>obtain rfl:=c.non; exact .non
 | bl b=>obtain rfl:=c.bl; exact .bl b
 | int i=>obtain rfl:=c.int; exact .int i
 | str y=>obtain rfl:=c.str; exact .str y
 | tup ds=>obtain ⟨a,xs,rfl,e,_⟩:=c.tup; exact .tup e
 | lst ds=>obtain ⟨a,xs,rfl,e,_⟩:=c.lst; exact .lst e
 | dik ds=>obtain ⟨a,xs,rfl,e,_⟩:=c.dik; exact .dK e
 | dit ds=>obtain ⟨a,ep,xs,rfl,e,_⟩:=c.dit; exact .dT e
 | obj C fs=>simp [tyOk] at ho
 | scr ns=>simp [tyOk] at ho
 | exc C p=>simp [tyOk] at ho
 | dns ks=>simp [tyOk] at ho
theorem a7X {te:TEp} {p2:Pos} (hT:T = "int" \/ T = "bool" \/ T = "tuple" \/ T = "list" \/ T = "str") (hg:Gl X "isinstance") (hm:X.mg "isinstance" = none) (ha:QE X e te) (hty:PE X (.Name x p2) (tC (.ty T)))
  (he:starEach [e,.Name x p2] X.env=(false,eval e X.env) :: starEach [.Name x p2] X.env:=by rfl) (he2:starEach [Expr.Name x p2] X.env=(false,eval (.Name x p2) X.env) :: starEach [] X.env:=by rfl) (hpl:(backTo pos (starEach [.Name x p2] X.env)).any (·.1)=false:=by rfl):
  QE X (.Call (.Name "isinstance" p) [e,.Name x p2] [] pos) (eIsi T te):=by
 refine ⟨fun ρ Q Q' w q=>ha.mono _ _ _ (fun r q=>⟨q.1,w _ q.2⟩) q,fun HZ F=>a0T (a6l call_isi hg hm boot_isinstance (a3F (ha.run HZ F) (a3F hty a7y he2) he) (by decide) (by decide) he hpl) fun σ H Q ⟨ρ,fr,h⟩=>?_⟩
 refine ha.step fr h fun r x H1 q S1 r1=>?_
 exact ⟨x,T,_,_,rfl,r1.c.ty q.1,kit_all hT _ q.1,q.2 _ H1 S1 (Rep.bl _)⟩
end
end Z
namespace Z
open PySem PySem.Spec PyProof.Rows L2
noncomputable def kD:Key->Dv
 | .inl i=>.int i
 | .inr x=>.str x
def pIx:Dv->Dv->(R->Prop)->Prop
 | .lst xs,.int i,Q=>match atI xs i with
  | some d=>Q (.v d)
  | none=>False
 | .tup xs,.int i,Q=>match atI xs i with
  | some d=>Q (.v d)
  | none=>False
 | .scr ns,.int i,Q=>match atI ns i with
  | some n=>Q (.v (.int n))
  | none=>False
 | .str z,.int i,Q=>z.length<=LIM/\match atI z.cps.toList i with
  | some c=>Q (.v (.str ⟨#[c]⟩))
  | none=>False
 | .dik kvs,.int i,Q=>match kvs.find? (fun kv=>decide (kv.1=Sum.inl i)) with
  | some kv=>Q (.v kv.2)
  | none=>False
 | .dik kvs,.str x,Q=>match kvs.find? (fun kv=>decide (kv.1=Sum.inr x)) with
  | some kv=>Q (.v kv.2)
  | none=>False
 | .dit kvs,.tup ds,Q=>∃ k:List Key,ds=k.map kD/\match kvs.find? (fun kv=>decide (kv.1=k)) with
  | some kv=>Q (.v kv.2)
  | none=>False
 | _,_,_=>False
section
variable {X:Cx} {a b e:Expr} {ta tb te:TEp} {pos:Pos}
theorem Reps.at {K:W.Frag} {M:Addr->Prop} {H:Hp} {xs:List V} {ds:List Dv} {i:Int} {d:Dv} (r:Reps K M H xs ds) (h:atI ds i=some d):∃ x,atI xs i=some x/\Rep K M H x d:=by
 unfold atI at *
 rw [r.length]
 cases e:ixN ds.length i with
 | none=>rw [e] at h; cases h
 | some j=>
  rw [e] at h
  obtain ⟨x,hx,rx⟩:=r.get (i:=j) h
  exact ⟨x,hx,rx⟩
theorem atI_map {α β:Type} {f:α->β} {l:List α} {i:Int}:atI (l.map f) i=(atI l i).map f:=by
 unfold atI
 rw [List.length_map]
 cases ixN l.length i with
 | none=>rfl
 | some j=>simp
theorem RepK.val {K:W.Frag} {M:Addr->Prop} {H:Hp} {k:Key} {xs:List (Key × V)} {ds:List (Key × Dv)} (r:RepK K M H xs ds):(∀ kv,ds.find? (fun kv=>decide (kv.1=k))=some kv -> ∃ x,a7q xs k=some x/\Rep K M H x kv.2)/\(ds.find? (fun kv=>decide (kv.1=k))=none->a7q xs k=none):=
 r.ind (P:=fun xs ds=>(∀ kv,ds.find? (fun kv=>decide (kv.1=k))=some kv -> ∃ x,a7q xs k=some x/\Rep K M H x kv.2)/\(ds.find? (fun kv=>decide (kv.1=k))=none->a7q xs k=none)) ⟨fun _ h=>(by cases h),fun _=>rfl⟩ fun k' x d xs ds a _ ih=>by
  by_cases e:k'=k
  ·rw [List.find?_cons_of_pos (by simpa using e),a4Y e]
   exact ⟨fun kv h=>by cases h; exact ⟨x,rfl,a⟩,fun h=>by cases h⟩
  ·rw [List.find?_cons_of_neg (by simpa using e),a4Z e]
   exact ih
theorem RepT.val {K:W.Frag} {M:Addr->Prop} {H:Hp} {k:List Key} {xs:List (List Key × V)} {ds:List (List Key × Dv)} (r:RepT K M H xs ds):(∀ kv,ds.find? (fun kv=>decide (kv.1=k))=some kv -> ∃ x,a7q xs k=some x/\Rep K M H x kv.2)/\(ds.find? (fun kv=>decide (kv.1=k))=none->a7q xs k=none):=
 r.ind (P:=fun xs ds=>(∀ kv,ds.find? (fun kv=>decide (kv.1=k))=some kv -> ∃ x,a7q xs k=some x/\Rep K M H x kv.2)/\(ds.find? (fun kv=>decide (kv.1=k))=none->a7q xs k=none)) ⟨fun _ h=>(by cases h),fun _=>rfl⟩ fun k' x d xs ds a _ ih=>by
  by_cases e:k'=k
  ·rw [List.find?_cons_of_pos (by simpa using e),a4Y e]
   exact ⟨fun kv h=>by cases h; exact ⟨x,rfl,a⟩,fun h=>by cases h⟩
  ·rw [List.find?_cons_of_neg (by simpa using e),a4Z e]
   exact ih
theorem Reps.keys {K:W.Frag} {M:Addr->Prop} {H:Hp}:∀ {xs:List V} {k:List Key},Reps K M H xs (k.map kD)->xs=k.map kV
 | _,[],.nil=>rfl
 | _,.inl i :: r,.cons a t=>by cases a; rw [Reps.keys t]; rfl
 | _,.inr x :: r,.cons a t=>by cases a; rw [Reps.keys t]; rfl
def rIxD:R2:=fun x y H Q=>∃ a v,x=.ref a/\DGet H a y (some v)/\Q v H
theorem ix_dict (hu:X.A.units + 1 < cLine):IxR X rIxD:=by
 intro value slice pins s σ H x y v u Q I rx ry h hs
 obtain ⟨a,z,rfl,g,q⟩:=h
 cases rx
 have hT:=b0B I g
 unfold subscriptTail
 refine wpAny_bind ?_
 rw [getitemInPython_of_ne hT.not_modules]
 refine wpAny_bind (wpAny_specialOf hT PySem.F.slot_dict_getitem.lookup ?_)
 have fin:wpAny (model X.prog X.w) X.A (subscripted slice false (.ref a) u) (fun r s₃=>wpAny (model X.prog X.w) X.A (letTemporaryGo value (.ref a) r >>= fun _=>pure r) (EP X pins σ Q) X.xe s₃) X.xe s:=by
  rw [hs]
  exact wpAny_operating (wpAny_mono (d_getItem hu I g ry fun w' s' I' rw'=>show EP X pins σ Q w' s' from ⟨z,H,I',rw',q⟩) (fun r s₃ h₃=>wpAny_bind (wpAny_letTemporaryGo (wpAny_pure h₃))) fun _ _ x=>x)
 first
  | exact wpAny_pure (wpAny_bind fin)
  | exact wpAny_bind (wpAny_pure (wpAny_bind fin))
  | exact wpAny_bind fin
theorem b0Z:∀ dx dy (Q Q':R->Prop),(∀ r,Q r->Q' r)->pIx dx dy Q->pIx dx dy Q':=by
 intro dx dy Q Q' w h
 unfold pIx at *
 split at h
 ·split at h
  ·exact w _ h
  ·exact h
 ·split at h
  ·exact w _ h
  ·exact h
 ·split at h
  ·exact w _ h
  ·exact h
 ·refine ⟨h.1,?_⟩
  have h2:=h.2
  split at h2
  ·exact w _ h2
  ·exact h2
 ·split at h
  ·exact w _ h
  ·exact h
 ·split at h
  ·exact w _ h
  ·exact h
 ·obtain ⟨k,e,h⟩:=h
  refine ⟨k,e,?_⟩
  split at h
  ·exact w _ h
  ·exact h
 ·exact h
theorem a3k (hu:X.A.units + 1 < cLine) (ha:QE X a ta) (hb:QE X b tb) (hs:PlainIx b:=by intro _ _; rfl):QE X (.Subscript a b pos) (eOp pIx ta tb):=by
 refine ⟨a6n ha hb b0Z,fun HZ F=>a0T (pe_ix (ix_seq.or (ix_dict hu)) (ha.run HZ F) (hb.run HZ F) hs) (a8A ha hb (fun M O H x y dx dy Q cx cy h=>?_) b0Z HZ F)⟩
 unfold pIx at h
 split at h
 ·rename_i xs i
  split at h
  ·rename_i d hd
   obtain ⟨p,vs,rfl,ea,ra⟩:=cx.lst
   obtain rfl:=cy.int
   obtain ⟨z,hz,rz⟩:=ra.at hd
   exact .inl (.inl ⟨p,vs,i,z,rfl,rfl,SqL.of ea,hz,h _ H (a0r.refl _) rz⟩)
  ·exact h.elim
 ·rename_i xs i
  split at h
  ·rename_i d hd
   obtain ⟨p,vs,rfl,ea,ra⟩:=cx.tup
   obtain rfl:=cy.int
   obtain ⟨z,hz,rz⟩:=ra.at hd
   exact .inl (.inr (.inl ⟨p,vs,i,z,rfl,rfl,SqT.of ea,hz,h _ H (a0r.refl _) rz⟩))
  ·exact h.elim
 ·rename_i ns i
  split at h
  ·rename_i n hn
   obtain ⟨p,rfl,ea⟩:=cx.scr
   obtain rfl:=cy.int
   refine .inl (.inl ⟨p,_,i,.int n,rfl,rfl,ea.sq,?_,h _ H (a0r.refl _) (Rep.int _)⟩)
   rw [atI_map,hn]
   rfl
  ·exact h.elim
 ·rename_i z i
  obtain ⟨hl,h⟩:=h
  split at h
  ·rename_i c hc
   obtain rfl:=cx.str
   obtain rfl:=cy.int
   exact .inl (.inr (.inr ⟨z,i,c,rfl,rfl,a2V hl,hc,h _ H (a0r.refl _) (Rep.str _)⟩))
  ·exact h.elim
 ·split at h
  ·rename_i kv hk
   obtain ⟨p,kvs,rfl,ea,ra⟩:=cx.dik
   obtain rfl:=cy.int
   obtain ⟨z,hz,rz⟩:=ra.val.1 kv hk
   exact .inr ⟨p,z,rfl,by rw [<- hz]; exact DGet.k (k:=Sum.inl _) ea,h _ H (a0r.refl _) rz⟩
  ·exact h.elim
 ·split at h
  ·rename_i kv hk
   obtain ⟨p,kvs,rfl,ea,ra⟩:=cx.dik
   obtain rfl:=cy.str
   obtain ⟨z,hz,rz⟩:=ra.val.1 kv hk
   exact .inr ⟨p,z,rfl,by rw [<- hz]; exact DGet.k (k:=Sum.inr _) ea,h _ H (a0r.refl _) rz⟩
  ·exact h.elim
 ·obtain ⟨k,rfl,h⟩:=h
  split at h
  ·rename_i kv hk
   obtain ⟨p,ep,kvs,rfl,ea,ra⟩:=cx.dit
   obtain ⟨b,ys,rfl,eb,rb⟩:=cy.tup
   obtain rfl:=rb.keys
   obtain ⟨z,hz,rz⟩:=ra.val.1 kv hk
   exact .inr ⟨p,z,rfl,by rw [<- hz]; exact DGet.t ea eb,h _ H (a0r.refl _) rz⟩
  ·exact h.elim
 ·exact h.elim
abbrev TOp:=List Sl->(Option Int->Prop)->Prop
structure QO (X:Cx) (e:Option Expr) (t:TOp):Prop where
 mono:∀ (ρ:List Sl) (Q Q':Option Int->Prop),(∀ r,Q r->Q' r)->t ρ Q->t ρ Q'
 run:∀ (HZ:Hp) (F:Addr->Prop),PO X e (fun σ H Q=>∃ ρ,Fr X.K HZ F σ H ρ/\t ρ fun o=>∀ H',a0r H H'->Q o H')
noncomputable def a1d:TOp:=fun _ Q=>Q none
noncomputable def a3i (te:TEp):TOp:=fun ρ Q=>te ρ fun r=>match r.d with
 | .int i=>Q (some i)
 | _=>False
theorem PO_imp {e:Option Expr} {t t':TO} (h:PO X e t) (w:∀ σ H Q,t' σ H Q->t σ H Q):PO X e t':=fun pins s σ H Q I q=>h pins s σ H Q I (w σ H Q q)
theorem a3Z:QO X none a1d:=⟨fun _ _ _ w q=>w _ q,fun HZ F=>PO_imp po_none fun σ H Q ⟨ρ,fr,q⟩=>q H (a0r.refl _)⟩
theorem a3Y (h:QE X e te):QO X (some e) (a3i te):=by
 refine ⟨fun ρ Q Q' w q=>h.mono _ _ _ (fun r q=>?_) q,fun HZ F=>PO_imp (po_some (h.run HZ F)) fun σ H Q ⟨ρ,fr,q⟩=>?_⟩
 ·split at q
  ·exact w _ q
  ·exact q
 ·refine h.step fr q fun r x H1 q S1 r1=>?_
  split at q
  ·rename_i i e
   have c:=r1.c
   rw [e] at c
   exact ⟨i,c.int,q H1 S1⟩
  ·exact q.elim
noncomputable def cut {α:Type} (xs:List α) (lo hi:Option Int):List α:=(xs.drop (HT.sIx xs.length 0 lo)).take (HT.sIx xs.length xs.length hi - HT.sIx xs.length 0 lo)
def pSl:Dv->Option Int->Option Int->(R->Prop)->Prop
 | .lst xs,lo,hi,Q=>Q (.nw (.lst (cut xs lo hi)))
 | .scr ns,lo,hi,Q=>Q (.nw (.lst ((cut ns lo hi).map .int)))
 | .tup xs,lo,hi,Q=>¬ (HT.sIx xs.length 0 lo=0/\HT.sIx xs.length xs.length hi=xs.length)/\Q (.v (.tup (cut xs lo hi)))
 | _,_,_,_=>False
def eSl (te:TEp) (tl th:TOp):TEp:=fun ρ Q=>te ρ fun r=>tl ρ fun lo=>th ρ fun hi=>pSl r.d lo hi Q
theorem pSl_mono:∀ d lo hi (Q Q':R->Prop),(∀ r,Q r->Q' r)->pSl d lo hi Q->pSl d lo hi Q':=by
 intro d lo hi Q Q' w h
 unfold pSl at *
 split at h <;> first | exact w _ h | exact ⟨h.1,w _ h.2⟩ | exact h
theorem Reps.cut {K:W.Frag} {M:Addr->Prop} {H:Hp} {xs:List V} {ds:List Dv} (r:Reps K M H xs ds) (lo hi:Option Int):Reps K M H (cutV xs lo hi) (Z.cut ds lo hi):=by
 unfold cutV Z.cut
 rw [r.length]
 exact (r.drop _).take _
theorem a4I {lo hi:Option Expr} {tl th:TOp} {p2:Pos} (he:QE X e te) (hl:QO X lo tl) (hh:QO X hi th):QE X (.Subscript e (.Slice lo hi none p2) pos) (eSl te tl th):=by
 refine ⟨fun ρ Q Q' w q=>he.mono _ _ _ (fun r q=>hl.mono _ _ _ (fun l q=>hh.mono _ _ _ (fun u q=>pSl_mono _ _ _ _ _ w q) q) q) q,fun HZ F=>a0T (b0U (sl_list.or sl_tup) (he.run HZ F) (hl.run HZ F) (hh.run HZ F)) fun σ H Q ⟨ρ,fr,q⟩=>?_⟩
 refine he.step fr q fun r x H1 q S1 r1=>?_
 refine ⟨ρ,fr.mono S1,hl.mono _ _ _ (fun l q H2 S2=>?_) q⟩
 refine ⟨ρ,(fr.mono S1).mono S2,hh.mono _ _ _ (fun u q H3 S3=>?_) q⟩
 have S13:=(S1.trans S2).trans S3
 have c:=(r1.mono (S2.trans S3)).c
 generalize r.d=d at q c
 unfold pSl at q
 split at q
 ·obtain ⟨a,xs,rfl,ea,ra⟩:=c.lst
  exact .inl ⟨a,xs,rfl,SqL.of ea,fun p hp=>q _ _ (S13.trans (a0r.new' hp)) ((a6a hp (ra.cut _ _)).ahead S13)⟩
 ·obtain ⟨a,rfl,ea⟩:=c.scr
  refine .inl ⟨a,_,rfl,ea.sq,fun p hp=>q _ _ (S13.trans (a0r.new' hp)) (a3l.ahead (a6a hp ?_) S13)⟩
  have:∀ (ns:List Int) l u,(Z.cut ns l u).map Dv.int=Z.cut (ns.map Dv.int) l u:=fun ns l u=>by
   unfold Z.cut
   simp [List.map_take,List.map_drop]
  rw [this]
  exact (Reps.ints _).cut _ _
 ·obtain ⟨a,xs,rfl,ea,ra⟩:=c.tup
  exact .inr ⟨a,xs,rfl,SqT.of ea,by rw [ra.length]; exact q.1,fun p hp=>q.2 _ _ (S13.trans (a0r.new' hp)) (a3l.ahead (v_tup hp (ra.cut _ _)) S13)⟩
 ·exact q.elim
end
end Z
namespace Z
open PySem PySem.Spec PyProof.Rows L2
section
variable {X:Cx} {a b c e:Expr} {ta tb tc te:TEp} {pos:Pos}
theorem q_chain {op op':CmpOp} {f f':Int->Int->Bool} (ho:OpR X (compareOp op) (rI0 fun i j=>.bl (f i j))) (ho':OpR X (compareOp op') (rI0 fun i j=>.bl (f' i j))) (ha:QE X a ta) (hb:QE X b tb) (hc:QE X c tc)
  (hm:lastMarks [op,op'] [b,c]=false:=by with_unfolding_all rfl):QE X (.Compare a [op,op'] [b,c] pos) (a7I (pI2 f) (pI2 f') ta tb tc):=by
 refine ⟨fun ρ Q Q' w q=>ha.mono _ _ _ (fun rx q=>hb.mono _ _ _ (fun ry q=>a8f _ _ _ _ (fun z q=>?_) q) q) q,fun HZ F=>a0T (pe_chain ho ho' (ha.run HZ F) (hb.run HZ F) (hc.run HZ F) hm) fun σ H Q ⟨ρ,fr,q⟩=>?_⟩
 ·split at q
  ·split at q
   ·rw [if_pos ‹_›]; exact hc.mono _ _ _ (fun w' q=>a8f _ _ _ _ w q) q
   ·rw [if_neg ‹_›]; exact w _ q
  ·exact q
 ·refine ha.step fr q fun rx x H1 q1 S1 r1=>?_
  refine hb.step (fr.mono S1) q1 fun ry y H2 q2 S2 r2=>?_
  have cx:=(r1.mono S2).c
  have cy:=r2.c
  generalize rx.d=dx at q2 cx
  generalize ry.d=dy at q2 cy
  unfold pI2 at q2
  split at q2
  ·rename_i Q2 i j
   obtain rfl:=cx.int
   obtain rfl:=cy.int
   refine ⟨_,_,rfl,rfl,f i j,rfl,?_⟩
   have S12:=S1.trans S2
   replace q2:=(show (if f i j=true then tc ρ (fun w=>pI2 f' (.int j) w.d (fun r=>∀ x H',a0r H H'->a3l X.K (MM F ρ) (Z.Own ρ) H x r H'->Q x H')) else (∀ x H',a0r H H'->a3l X.K (MM F ρ) (Z.Own ρ) H x (.v (.bl false)) H'->Q x H')) from q2)
   cases h:f i j with
   | true=>
    rw [h] at q2
    simp only [if_true] at q2
    refine a8M (hc.step ((fr.mono S1).mono S2) q2 fun rw' z H3 q3 S3 r3=>?_)
    have cz:=r3.c
    generalize rw'.d=dz at q3 cz
    cases dz with
    | int l=>
     obtain rfl:=cz.int
     exact ⟨_,_,rfl,rfl,q3 _ H3 (S12.trans S3) (Rep.bl _)⟩
    | _=>exact (show False from q3).elim
   | false=>
    rw [h] at q2
    simp only [Bool.false_eq_true,if_false] at q2
    exact a7h (q2 _ H2 S12 (Rep.bl _))
  ·exact q2.elim
noncomputable def a8Q:Dv->Option Bool
 | .non=>some false
 | .bl b=>some b
 | .int i=>some (i != 0)
 | .lst xs=>some (!xs.isEmpty)
 | .tup xs=>some (!xs.isEmpty)
 | .dik xs=>some (!xs.isEmpty)
 | .scr xs=>some (!xs.isEmpty)
 | _=>none
def a7c (te:TEp):TTp:=fun ρ Q=>te ρ fun r=>match a8Q r.d with
 | some k=>Q k
 | none=>False
theorem Reps.empty {K:W.Frag} {M:Addr->Prop} {H:Hp} {xs:List V} {ds:List Dv} (r:Reps K M H xs ds):xs.isEmpty=ds.isEmpty:=by cases r <;> rfl
theorem a2G (h:QE X e te) (he:∀ whole,isTrue e X.env whole=(do let v <- whole; standAt e.pos; holding [v] (truthy v)):=by intro _; rfl):QT X e (a7c te):=by
 refine ⟨fun ρ Q Q' w q=>h.mono _ _ _ (fun r q=>?_) q,fun HZ F=>PT_imp (pt_truth (h.run HZ F) he) fun σ H Q ⟨ρ,fr,q⟩=>?_⟩
 ·split at q
  ·exact w _ q
  ·exact q
 ·refine h.step fr q fun r x H1 q S1 r1=>?_
  have cx:=r1.c
  generalize r.d=d at q cx
  split at q
  ·rename_i k hk
   refine ⟨k,?_,q H1 S1⟩
   cases d with
   | non=>obtain rfl:=cx.non; simp only [a8Q,Option.some.injEq] at hk; subst hk; rfl
   | bl b=>obtain rfl:=cx.bl; simp only [a8Q,Option.some.injEq] at hk; exact hk.symm
   | int i=>obtain rfl:=cx.int; simp only [a8Q,Option.some.injEq] at hk; exact hk.symm
   | lst ds=>
    obtain ⟨a,xs,rfl,ea,ra⟩:=cx.lst
    simp only [a8Q,Option.some.injEq] at hk
    exact .inl ⟨xs,SqL.of ea,by rw [ra.empty]; exact hk.symm⟩
   | tup ds=>
    obtain ⟨a,xs,rfl,ea,ra⟩:=cx.tup
    simp only [a8Q,Option.some.injEq] at hk
    exact .inr (.inl ⟨xs,SqT.of ea,by rw [ra.empty]; exact hk.symm⟩)
   | dik ds=>
    obtain ⟨a,xs,rfl,ea,ra⟩:=cx.dik
    simp only [a8Q,Option.some.injEq] at hk
    exact .inr (.inr ⟨xs,ea,by rw [<- hk]; cases ra <;> rfl⟩)
   | scr ns=>
    obtain ⟨a,rfl,ea⟩:=cx.scr
    simp only [a8Q,Option.some.injEq] at hk
    exact .inl ⟨_,ea.sq,by rw [<- hk]; cases ns <;> rfl⟩
   | _=>simp [a8Q] at hk
  ·exact q.elim
end
abbrev Fn:=List Dv->(R->Prop)->Prop
inductive low (K:W.Frag) (sp:Fn) (vs:List V) (H:Hp) (Q:VK) (E:XK):Prop
 | mk (F:Addr->Prop) (ds:List Dv) (hF:OldF K F H) (r:Reps K F H vs ds) (q:sp ds (fun r=>∀ x H',a0r H H'->a3l K F NoOwn H x r H'->Q x H'))
structure MonoF (sp:Fn):Prop where
 mo:∀ ds (Q Q':R->Prop),(∀ r,Q r->Q' r)->sp ds Q->sp ds Q'
structure Def (P:Program) (w:World) (K:W.Frag) (mg:Str->Option Value) (base:Heap) (k:Nat) (x:Str) (ps:List Str) (sp:Sp):Prop where
 ex:∃ f fd,mg x=some (.ref f)/\W.keepIn K (.ref f)=true/\a3B K fd ps []/\FnOk P w K mg base CX0 k f fd ps sp
structure At (K:W.Frag) (mg:Str->Option Value) (x nm:Str) (st:Stmt) (ps:List Str):Prop where
 ex:∃ f fd,mg x=some (.ref f)/\Fun K nm nm st f fd/\a3B K fd ps []
structure MDef (P:Program) (w:World) (K:W.Frag) (mg:Str->Option Value) (base:Heap) (k:Nat) (C:Addr) (m:Str) (ps:List Str) (sp:Sp):Prop where
 ex:∃ f fd,Meth K C m f/\a3B K fd ps []/\FnOk P w K mg base CX0 k f fd ps sp
structure MAt (K:W.Frag) (C:Addr) (m qual:Str) (st:Stmt) (ps:List Str):Prop where
 ex:∃ f fd,Meth K C m f/\Fun K m qual st f fd/\a3B K fd ps []
theorem At.ok {P:Program} {w:World} {K:W.Frag} {mg:Str->Option Value} {base:Heap} {k:Nat} {x nm:Str} {st:Stmt} {ps N:List Str} {sp:Sp} (a:At K mg x nm st ps) (S:FnScope N ps (a0d st)) (len:∀ vs H Q E,sp vs H Q E->vs.length=ps.length)
  (hbody:∀ (f:Addr) (cdv:Value) (A:Around) (outer:List Env) (s:Shared) (H:Hp) (vs:List V) (Q:VK) (E:XK),Room k (A.deeper (envOfC nm (a0d st) s.heap.objs.size f cdv))->sp vs H Q E ->
   ∃ t,PSs (a1x CX0 P w K mg base N nm (a0d st) f cdv A outer s H E).nox (a0o st) t/\t { nx:=fun _ H'=>Q .non H',rt:=Q } (start N vs) H):Def P w K mg base (k + 1) x ps sp:=by
 obtain ⟨f,fd,hm,F,hb⟩:=a.ex
 exact ⟨f,fd,hm,F.kp,hb,F.ok S len (hbody f)⟩
theorem MAt.ok {P:Program} {w:World} {K:W.Frag} {mg:Str->Option Value} {base:Heap} {k:Nat} {C:Addr} {m qual:Str} {st:Stmt} {ps N:List Str} {sp:Sp} (a:MAt K C m qual st ps) (S:FnScope N ps (a0d st)) (len:∀ vs H Q E,sp vs H Q E->vs.length=ps.length)
  (hbody:∀ (f:Addr) (cdv:Value) (A:Around) (outer:List Env) (s:Shared) (H:Hp) (vs:List V) (Q:VK) (E:XK),Room k (A.deeper (envOfC qual (a0d st) s.heap.objs.size f cdv))->sp vs H Q E ->
   ∃ t,PSs (a1x CX0 P w K mg base N qual (a0d st) f cdv A outer s H E).nox (a0o st) t/\t { nx:=fun _ H'=>Q .non H',rt:=Q } (start N vs) H):MDef P w K mg base (k + 1) C m ps sp:=by
 obtain ⟨f,fd,hm,F,hb⟩:=a.ex
 exact ⟨f,fd,hm,hb,F.ok S len (hbody f)⟩
noncomputable def a0k (N:List Str) (ds:List Dv):List Sl:=ds.map .v ++ List.replicate (N.length - ds.length) .un
theorem b0L {K:W.Frag} {F:Addr->Prop} {H:Hp} {N:List Str} {vs:List V} {ds:List Dv} (hF:OldF K F H) (r:Reps K F H vs ds):Fr K H F (start N vs) H (a0k N ds):=by
 have no:∀ {a:Addr} {d:Dv},Sl.own a d ∈ a0k N ds->False:=fun {a d} h=>by
  rcases List.mem_append.mp h with h | h
  ·obtain ⟨z,_,e⟩:=List.mem_map.mp h
   cases e
  ·cases List.eq_of_mem_replicate h
 have wk:∀ a,MM F (a0k N ds) a->F a:=fun a h=>by
  rcases h with h | ⟨d,h⟩
  ·exact h
  ·exact (no h).elim
 have hl:=r.length
 refine ⟨by simp [L2.start,a0k,hl],fun i s e=>?_,fun i j a d d' e _=>(no (List.mem_of_getElem? e)).elim,fun a d h=>(no h).elim,a0r.refl _,hF⟩
 unfold a0k at e
 by_cases hi:i < ds.length
 ·rw [List.getElem?_append_left (by simpa using hi),List.getElem?_map] at e
  cases q:ds[i]? with
  | none=>rw [q] at e; cases e
  | some d=>
   rw [q] at e
   cases e
   obtain ⟨x,hx,rx⟩:=r.get q
   refine ⟨x,?_,rx.weak wk⟩
   unfold L2.start
   rw [List.getElem?_append_left (by simpa using (List.getElem?_eq_some_iff.mp hx).1),List.getElem?_map,hx]
   rfl
 ·rw [List.getElem?_append_right (by simpa using Nat.le_of_not_lt hi)] at e
  have:=List.mem_of_getElem? e
  cases List.eq_of_mem_replicate this
  trivial
theorem a8J {X:Cx} {sts:List Stmt} {t:TSp} {N:List Str} {H:Hp} {vs:List V} {Q:VK} {E:XK} {sp:Fn} (h:QSs X sts t) (hsp:∀ ds Q,sp ds Q->t { nx:=fun _=>Q (.v .non),rt:=Q } (a0k N ds)) (q:low X.K sp vs H Q E):
  ∃ t',PSs X sts t'/\t' { nx:=fun _ H'=>Q .non H',rt:=Q } (start N vs) H:=by
 obtain ⟨F,ds,hF,r,q⟩:=q
 exact ⟨_,h.run H F,a0k N ds,_,b0L hF r,hsp ds _ q,fun ρ σ H' fr q=>q .non H' fr.same Rep.non,fun _ _ _ _ z=>z.elim,fun _ _ _ _ z=>z.elim,fun rr x H' S rx q=>q x H' S rx⟩
theorem a8p {K:W.Frag} {sp:Fn} {n:Nat} (h:∀ ds Q,sp ds Q->ds.length=n):∀ vs H Q E,low K sp vs H Q E->vs.length=n:=fun vs H Q E ⟨F,ds,_,r,q⟩=>by rw [r.length]; exact h _ _ q
theorem At.okP {P:Program} {w:World} {K:W.Frag} {mg:Str->Option Value} {base:Heap} {k:Nat} {x nm:Str} {st:Stmt} {ps N:List Str} {sp:Fn} {t:TSp} (a:At K mg x nm st ps) (S:FnScope N ps (a0d st))
  (hq:∀ (f:Addr) (cdv:Value) (A:Around) (outer:List Env) (s:Shared) (H:Hp) (E:XK),Room k (A.deeper (envOfC nm (a0d st) s.heap.objs.size f cdv))->QSs (a1x CX0 P w K mg base N nm (a0d st) f cdv A outer s H E).nox (a0o st) t)
  (len:∀ ds Q,sp ds Q->ds.length=ps.length) (hsp:∀ ds Q,sp ds Q->t { nx:=fun _=>Q (.v .non),rt:=Q } (a0k N ds)):Def P w K mg base (k + 1) x ps (low K sp):=
 a.ok S (a8p len) fun f cdv A outer s H vs Q E hr q=>a8J (hq f cdv A outer s H E hr) hsp q
theorem MAt.okP {P:Program} {w:World} {K:W.Frag} {mg:Str->Option Value} {base:Heap} {k:Nat} {C:Addr} {m qual:Str} {st:Stmt} {ps N:List Str} {sp:Fn} {t:TSp} (a:MAt K C m qual st ps) (S:FnScope N ps (a0d st))
  (hq:∀ (f:Addr) (cdv:Value) (A:Around) (outer:List Env) (s:Shared) (H:Hp) (E:XK),Room k (A.deeper (envOfC qual (a0d st) s.heap.objs.size f cdv))->QSs (a1x CX0 P w K mg base N qual (a0d st) f cdv A outer s H E).nox (a0o st) t)
  (len:∀ ds Q,sp ds Q->ds.length=ps.length) (hsp:∀ ds Q,sp ds Q->t { nx:=fun _=>Q (.v .non),rt:=Q } (a0k N ds)):MDef P w K mg base (k + 1) C m ps (low K sp):=
 a.ok S (a8p len) fun f cdv A outer s H vs Q E hr q=>a8J (hq f cdv A outer s H E hr) hsp q
noncomputable def R.flat:R->Bool
 | .v d=>a5q d
 | .nw d=>flatO d
 | .ow _ _=>false
def back (rs:List R) (Q:R->Prop):R->Prop:=fun r=>(rs.all R.free=true \/ r.flat=true)/\Q r
def a0B (sp:Fn) (ts:TAp):TEp:=fun ρ Q=>ts ρ fun rs=>sp (rs.map R.d) (back rs Q)
section
variable {K:W.Frag} {HZ H H1:Hp} {F:Addr->Prop} {σ:St} {ρ:List Sl}
def lent (M:Addr->Prop) (rs:List R):Addr->Prop:=fun a=>M a /\ ∀ d,R.ow a d ∉ rs
theorem a3u (fr:Fr K HZ F σ H ρ) {all:List R}:∀ {xs:List V} {rs:List R},(∀ r ∈ rs,r ∈ all)->Paired (fun x r=>a3l K (MM F ρ) (Z.Own ρ) H x r H1) xs rs->Reps K (lent (MM F ρ) all) H1 xs (rs.map R.d)
 | _,_,_,.nil=>.nil
 | _,r :: _,hs,.cons a t=>by
  refine .cons ?_ (a3u fr (fun r hr=>hs r (by simp [hr])) t)
  have wk:∀ a,lent (MM F ρ) all a->MM F ρ a:=fun a z=>z.1
  cases r with
  | v d=>exact Rep.weak wk a
  | nw d=>exact (a3l.rep a (fun a m=>fr.dom m) rfl).weak wk
  | ow b d=>
   obtain ⟨rfl,_,o⟩:=a
   exact (o.weak wk).rep fun z=>z.2 d (hs _ (by simp))
theorem all_free {rs:List R} (h:rs.all R.free=true) (a:Addr) (d:Dv):R.ow a d ∉ rs:=fun z=>by
 have:=List.all_eq_true.mp h _ z
 simp [R.free] at this
theorem a5m {rs:List R} {x:V} {r:R} {H':Hp} {O:Addr->Dv->Prop} (fr:Fr K HZ F σ H ρ) (S1:a0r H H1) (h:a3l K (lent (MM F ρ) rs) NoOwn H1 x r H') (f:rs.all R.free=true \/ r.flat=true):a3l K (MM F ρ) O H x r H':=by
 rcases f with f | f
 ·have wk:∀ a,MM F ρ a->lent (MM F ρ) rs a:=fun a z=>⟨z,fun d=>all_free f a d⟩
  cases r with
  | v d=>exact Rep.weak wk h
  | ow a d=>exact h.2.1.elim
  | nw d=>
   obtain ⟨a,e,n,o⟩:=h
   exact ⟨a,e,S1.free n,o.weak fun b z=>z.elim (fun z=>.inl (wk b z)) .inr⟩
 ·cases r with
  | v d=>exact Rep.flat f h
  | ow a d=>exact h.2.1.elim
  | nw d=>
   obtain ⟨a,e,n,o⟩:=h
   exact ⟨a,e,S1.free n,o.flat f⟩
end
section
variable {X:Cx} {k:Nat} {x:Str} {ps:List Str} {sp:Fn} {e o:Expr} {es:List Expr} {ts:TAp} {to:TEp} {p pos apos:Pos} {C:Addr} {m:Str}
theorem a6p {rs:List R} {xs:List V} {HZ H H1:Hp} {F:Addr->Prop} {σ:St} {ρ:List Sl} {Q:VK} {E:XK} {Q':R->Prop} (mo:MonoF sp) (fr:Fr X.K HZ F σ H ρ) (S1:a0r H H1) (r1:a4W X.K (MM F ρ) (Z.Own ρ) H xs rs H1) (q:sp (rs.map R.d) (back rs Q'))
  (w:∀ r,Q' r -> ∀ x H',a0r H H'->a3l X.K (MM F ρ) (Z.Own ρ) H x r H'->Q x H'):low X.K sp xs H1 Q E:=by
 refine ⟨lent (MM F ρ) rs,_,⟨fun a z=>(fr.mono S1).dom z.1,(fr.mono S1).tab⟩,a3u fr (fun _ h=>h) r1,mo.mo _ _ _ (fun r q x H' S rx=>?_) q⟩
 exact w r q.2 x H' (S1.trans S) (a5m fr S1 rx q.1)
theorem a3z {rs:List R} {Q Q':R->Prop} (w:∀ r,Q r->Q' r):∀ r,back rs Q r->back rs Q' r:=fun r h=>⟨h.1,w r h.2⟩
theorem a0M (d:Def X.prog X.w X.K X.mg X.base k x ps (low X.K sp)) (mo:MonoF sp) (hr:Room k X.A) (ha:QA X (e :: es) ts) (hg:Gl X x:=by rfl)
  (hdb:(x == ("__debug__" : Str))=false:=by decide) (he:starEach (e :: es) X.env=(false,eval e X.env) :: starEach es X.env:=by rfl) (hpl:(backTo pos (starEach es X.env)).any (·.1)=false:=by rfl):
  QE X (.Call (.Name x p) (e :: es) [] pos) (a0B sp ts):=by
 obtain ⟨f,fd,hm,hk,hb,FO⟩:=d.ex
 refine ⟨fun ρ Q Q' w q=>ha.mono _ _ _ (fun rs q=>mo.mo _ _ _ (a3z w) q) q,fun HZ F=>a0T (pe_call FO hr hg hm hk hb .nil pass0 (ha.run HZ F) hdb he hpl) fun σ H Q ⟨ρ,fr,h⟩=>?_⟩
 refine ha.step fr h fun rs xs H1 q S1 r1=>?_
 rw [List.append_nil]
 exact a6p mo fr S1 r1 q fun r z=>z
def b0u (C:Addr) (m:Str) (sp:Fn) (to:TEp) (ts:TAp):TEp:=fun ρ Q=>to ρ fun ro=>match ro.d with
 | .obj C' fs=>(C'=C/\fs.lookup m=none)/\ts ρ fun rs=>sp (ro.d :: rs.map R.d) (back (ro :: rs) Q)
 | _=>False
theorem RepF.lookup {K:W.Frag} {M:Addr->Prop} {H:Hp} {f:Str} {xs:List (Str × V)} {ds:List (Str × Dv)} (r:RepF K M H xs ds):(ds.lookup f=none->xs.lookup f=none) /\ ∀ d,ds.lookup f=some d -> ∃ x,xs.lookup f=some x/\Rep K M H x d:=
 r.ind (P:=fun xs ds=>(ds.lookup f=none->xs.lookup f=none) /\ ∀ d,ds.lookup f=some d -> ∃ x,xs.lookup f=some x/\Rep K M H x d) ⟨fun _=>rfl,fun d h=>by cases h⟩ fun k x d xs ds a _ ih=>by
  rw [List.lookup_cons,List.lookup_cons]
  cases h:f == k with
  | true=>
   refine ⟨fun z=>?_,fun d' z=>?_⟩
   ·cases z
   ·cases z; exact ⟨x,rfl,a⟩
  | false=>exact ih
theorem q_meth (c:Cls X.K C) (d:MDef X.prog X.w X.K X.mg X.base k C m ps (low X.K sp)) (mo:MonoF sp) (hr:Room k X.A) (ho:QE X o to) (ha:QA X (e :: es) ts) {pl:Sem Bool}
  (hst:starEach (e :: es) X.env=(false,eval e X.env) :: starEach es X.env:=by rfl) (hpl:(backTo pos (starEach es X.env)).any (·.1)=false:=by rfl)
  (ht:eval (.Call (.Attribute o m apos) (e :: es) [] pos) X.env=(do
   let ov <- eval o X.env
   standAt apos.atName
   let (f,first) <- holding [ov] (getMethod ov m pl)
   callWith pos f first (backTo pos (starEach (e :: es) X.env)) (backToKw pos (keywordEach [] X.env))):=by rfl):
  QE X (.Call (.Attribute o m apos) (e :: es) [] pos) (b0u C m sp to ts):=by
 obtain ⟨f,fd,hm,hb,FO⟩:=d.ex
 refine ⟨fun ρ Q Q' w q=>ho.mono _ _ _ (fun ro q=>?_) q,fun HZ F=>a0T (pe_meth (pl:=pl) (ho.run HZ F) c hm FO hr hb .nil pass0 (ha.run HZ F) hst hpl ht) fun σ H Q ⟨ρ,fr,h⟩=>?_⟩
 ·split at q
  ·exact ⟨q.1,ha.mono _ _ _ (fun rs q=>mo.mo _ _ _ (a3z w) q) q.2⟩
  ·exact q
 ·refine ho.step fr h fun ro x H1 q S1 r1=>?_
  split at q
  ·rename_i C' fs e
   obtain ⟨⟨rfl,hl⟩,q⟩:=q
   have cx:=r1.c
   rw [e] at cx
   obtain ⟨a,dx,fs',rfl,ea,ra⟩:=cx.obj
   refine ⟨a,dx,fs',rfl,ea,ra.lookup.1 hl,ha.step (fr.mono S1) q fun rs xs H2 q S2 r2=>?_⟩
   rw [List.append_nil]
   exact a6p (rs:=ro :: rs) (xs:=.ref a :: xs) mo fr (S1.trans S2) (.cons (r1.mono S2) (r2.ahead S1)) q fun r z=>z
  ·exact q.elim
theorem q_meth0 (c:Cls X.K C) (d:MDef X.prog X.w X.K X.mg X.base k C m ps (low X.K sp)) (mo:MonoF sp) (hr:Room k X.A) (ho:QE X o to) {pl:Sem Bool}
  (ht:eval (.Call (.Attribute o m apos) [] [] pos) X.env=(do
   let ov <- eval o X.env
   standAt apos.atName
   let (f,first) <- holding [ov] (getMethod ov m pl)
   callWith pos f first (backTo pos (starEach [] X.env)) (backToKw pos (keywordEach [] X.env))):=by rfl):
  QE X (.Call (.Attribute o m apos) [] [] pos) (b0u C m sp to a0m):=by
 obtain ⟨f,fd,hm,hb,FO⟩:=d.ex
 refine ⟨fun ρ Q Q' w q=>ho.mono _ _ _ (fun ro q=>?_) q,fun HZ F=>a0T (pe_meth0 (pl:=pl) (ho.run HZ F) c hm FO hr hb .nil pass0 ht) fun σ H Q ⟨ρ,fr,h⟩=>?_⟩
 ·split at q
  ·exact ⟨q.1,mo.mo _ _ _ (a3z w) q.2⟩
  ·exact q
 ·refine ho.step fr h fun ro x H1 q S1 r1=>?_
  split at q
  ·rename_i C' fs e
   obtain ⟨⟨rfl,hl⟩,q⟩:=q
   have cx:=r1.c
   rw [e] at cx
   obtain ⟨a,dx,fs',rfl,ea,ra⟩:=cx.obj
   refine ⟨a,dx,fs',rfl,ea,ra.lookup.1 hl,?_⟩
   exact a6p (rs:=[ro]) (xs:=[.ref a]) (E:=E0) mo fr S1 (.cons r1 .nil) q fun r z=>z
  ·exact q.elim
def eFld (C:Addr) (f:Str) (to:TEp):TEp:=fun ρ Q=>to ρ fun ro=>match ro.d with
 | .obj C' fs=>C'=C/\match fs.lookup f with
  | some d=>Q (.v d)
  | none=>False
 | _=>False
theorem q_fld {f:Str} (c:Cls X.K C) (n:a3Q X.K C f) (ho:QE X o to) (hb:attributeBase o f X.env (eval o X.env)=eval o X.env:=by rfl):QE X (.Attribute o f pos) (eFld C f to):=by
 refine ⟨fun ρ Q Q' w q=>ho.mono _ _ _ (fun ro q=>?_) q,fun HZ F=>a0T (pe_fld (ho.run HZ F) hb) fun σ H Q ⟨ρ,fr,h⟩=>?_⟩
 ·split at q
  ·refine ⟨q.1,?_⟩
   have q2:=q.2
   split at q2
   ·exact w _ q2
   ·exact q2
  ·exact q
 ·refine ho.step fr h fun ro x H1 q S1 r1=>?_
  split at q
  ·rename_i C' fs e
   obtain ⟨rfl,q⟩:=q
   have cx:=r1.c
   rw [e] at cx
   obtain ⟨a,dx,fs',rfl,ea,ra⟩:=cx.obj
   split at q
   ·rename_i d hd
    obtain ⟨z,hz,rz⟩:=ra.lookup.2 d hd
    exact ⟨a,_,dx,fs',z,rfl,ea,c,n,hz,q _ H1 S1 rz⟩
   ·exact q.elim
  ·exact q.elim
end
end Z
namespace L2
open PySem PySem.Spec PyProof.Rows
section
variable {X:Cx} {tg:Expr}
end
end L2
namespace Z
open PySem PySem.Spec PyProof.Rows L2
section
variable {X:Cx} {tg a b c e:Expr} {ta tb te:TEp} {ts:TAp} {pos p p2:Pos}
noncomputable def rangeC (lo c:Int) (n:Nat):List Dv:=(List.range n).map fun (k:Nat)=>Dv.int (lo + (k:Int) * c)
def iRange3 (ts:TAp):TIp:=fun ρ Q=>ts ρ fun rs=>match rs.map R.d with
 | [.int i,.int j,.int c]=>(c ≠ 0/\c.natAbs < 1000/\Builtin.Range.small i j c=true/\0<=Builtin.Range.rangeSize i j c)/\Q (rangeC i c (Builtin.Range.rangeSize i j c).toNat) []
 | _=>False
def eLR1 (ts:TAp):TEp:=fun ρ Q=>ts ρ fun rs=>match rs.map R.d with
 | [.int j]=>(-(2 ^ 62)<=j/\j < 2 ^ 62/\j.toNat<=1000000)/\Q (.nw (.lst (a0K 0 j.toNat)))
 | _=>False
def eLR2 (ts:TAp):TEp:=fun ρ Q=>ts ρ fun rs=>match rs.map R.d with
 | [.int i,.int j]=>((-(2 ^ 62)<=i/\i < 2 ^ 62 /\ -(2 ^ 62)<=j/\j < 2 ^ 62)/\(j - i).toNat<=1000000)/\Q (.nw (.lst (a0K i (j - i).toNat)))
 | _=>False
noncomputable def a9s (ds:List Dv):List Dv:=(ds.zipIdx).map fun q=>.tup [.int (q.2:Int),q.1]
theorem enumD_get {ds:List Dv} {i:Nat} {d:Dv} (h:(a9s ds)[i]?=some d):∃ d0,ds[i]?=some d0/\d=.tup [.int i,d0]:=by
 unfold a9s at h
 rw [List.getElem?_map,List.getElem?_zipIdx] at h
 cases e:ds[i]? with
 | none=>rw [e] at h; cases h
 | some d0=>
  rw [e] at h
  refine ⟨d0,rfl,?_⟩
  simp at h
  exact h.symm
def b1m (ts:TAp):TIp:=fun ρ Q=>ts ρ fun rs=>match rs with
 | [.v (.lst ds)]=>Q (a9s ds) []
 | [.nw (.lst ds)]=>Q (a9s ds) []
 | [.ow a (.lst ds)]=>Q (a9s ds) [(a,ds)]
 | _=>False
structure Walked (K:W.Frag) (P:Hp) (M:Addr->Prop) (H1:Hp) (a:Addr) (ds:List Dv) (ogs:List (Addr × List Dv)):Prop where
 at_:∀ (H':Hp) (M':Addr->Prop),a0r P H'->Gen K M M' H1 H'->(∀ p ∈ ogs,a2R K M' H' p.1 (.lst p.2)) -> ∃ xs,H' a=some (.lst xs)/\Reps K M' H' xs ds
noncomputable def a7f:R->List (Addr × List Dv)
 | .ow a (.lst ds)=>[(a,ds)]
 | _=>[]
theorem walked {K:W.Frag} {HZ H H1:Hp} {F:Addr->Prop} {σ:St} {ρ:List Sl} {x:V} {r:R} {ds:List Dv} (fr:Fr K HZ F σ H ρ) (S1:a0r H H1) (r1:a3l K (MM F ρ) (Z.Own ρ) H x r H1) (hd:r.d=.lst ds):
  ∃ a xs,x=.ref a/\H1 a=some (.lst xs)/\guard (a7f r) ρ/\Walked K (prot H1 ρ) (MM F ρ) H1 a ds (a7f r):=by
 cases r with
 | v d=>
  have e:d=.lst ds:=hd
  subst e
  cases r1 with
  | lst e m rs=>
   refine ⟨_,_,rfl,e,by intro p hp; simp [a7f] at hp,⟨fun H' M' S G _=>⟨_,S _ _ (by rw [a1c fun c=>m (.inr c)]; exact e),rs.gen G⟩⟩⟩
 | nw d=>
  have e:d=.lst ds:=hd
  subst e
  obtain ⟨a,rfl,n,xs,e,rs⟩:=r1
  exact ⟨_,_,rfl,e,by intro p hp; simp [a7f] at hp,⟨fun H' M' S G _=>⟨_,S _ _ (by rw [a1c fun c=>fr.fresh n (.inr c)]; exact e),(rs.weak fun b z=>.inl z).gen G⟩⟩⟩
 | ow a d=>
  have e:d=.lst ds:=hd
  subst e
  obtain ⟨rfl,m,xs,e,rs⟩:=r1
  refine ⟨_,_,rfl,e,by intro p hp; simp [a7f] at hp; subst hp; exact m,⟨fun H' M' S G ow=>?_⟩⟩
  exact ow (a,ds) (by simp [a7f])
theorem itok_enum {K:W.Frag} {P:Hp} {M:Addr->Prop} {H1:Hp} {a:Addr} {ds:List Dv} {ogs:List (Addr × List Dv)} (w:Walked K P M H1 a ds ogs):ItOk K P M H1 (ItE K a) (a9s ds) ogs:=by
 intro i H' M' S G ow
 obtain ⟨xs,h',r⟩:=w.at_ H' M' S G ow
 refine ⟨fun d e=>?_,fun h=>⟨xs,SqL.of h',by rw [r.length]; simpa [a9s] using h⟩⟩
 obtain ⟨d0,e0,rfl⟩:=enumD_get e
 obtain ⟨x,hx,rx⟩:=r.get e0
 refine ⟨⟨xs,x,SqL.of h',hx⟩,fun y H'' ⟨T,z,hT,e1,e2,hz⟩=>?_⟩
 subst e1 e2
 have:=hz xs (SqL.of h')
 rw [hx] at this
 cases this
 exact ⟨a0r.new' hT,.tup a0E (.cons (.int _) (.cons (rx.mono (a0r.new' hT)) .nil))⟩
theorem q_iEnum {elts:List Expr} {x1:Nat} {tp:Pos} (hg:Gl X "enumerate") (hm:X.mg "enumerate" = none) (ha:QA X [a] ts) (hs:starEach [a] X.env=[(false,eval a X.env)]:=by rfl):QI X (.Tuple elts x1 tp) (.Call (.Name "enumerate" p) [a] [] pos) (b1m ts):=by
 refine ⟨fun ρ Q Q' w q=>ha.mono _ _ _ (fun r q=>?_) q,fun HZ F=>⟨_,pi_enum hg hm (ha.run HZ F) hs,fun σ H ρ R fr q=>?_⟩⟩
 ·split at q <;> first | exact w _ _ q | exact q
 ·refine ha.step fr q fun rs xs H1 q S1 r1=>?_
  have one:∀ {r:Z.R} {ds:List Dv},rs=[r]->r.d=.lst ds->(∀ J H1',a0r H H1'->guard (a7f r) ρ->ItOk X.K (prot H1' ρ) (MM F ρ) H1' J (a9s ds) (a7f r)->R J H1') -> ∃ a,xs=[V.ref a]/\(∃ xs,SqL X.K H1 a xs)/\R (ItE X.K a) H1:=by
   intro r ds e hd k
   subst e
   cases r1 with
   | cons a1 t1=>
    cases t1
    obtain ⟨a,ys,rfl,ea,gd,wk⟩:=walked fr S1 a1 hd
    exact ⟨a,rfl,⟨ys,SqL.of ea⟩,k _ H1 S1 gd (itok_enum wk)⟩
  split at q
  ·exact one rfl rfl q
  ·exact one rfl rfl q
  ·exact one rfl rfl q
  ·exact q.elim
noncomputable def zipD (xs ys:List Dv):List Dv:=List.zipWith (fun x y=>.tup [x,y]) xs ys
def iZipP (ts:TAp):TIp:=fun ρ Q=>ts ρ fun rs=>match rs with
 | [r,r']=>match r.d,r'.d with
  | .lst xs,.lst ys=>Q (zipD xs ys) (a7f r ++ a7f r')
  | _,_=>False
 | _=>False
theorem itok_zip {K:W.Frag} {P:Hp} {M:Addr->Prop} {H1:Hp} {a b:Addr} {ds es:List Dv} {o1 o2:List (Addr × List Dv)} (w1:Walked K P M H1 a ds o1) (w2:Walked K P M H1 b es o2):ItOk K P M H1 (ItZ a b) (zipD ds es) (o1 ++ o2):=by
 intro i H' M' S G ow
 obtain ⟨xs,h1,r1⟩:=w1.at_ H' M' S G fun p hp=>ow p (List.mem_append_left _ hp)
 obtain ⟨ys,h2,r2⟩:=w2.at_ H' M' S G fun p hp=>ow p (List.mem_append_right _ hp)
 refine ⟨fun d e=>?_,fun h=>⟨xs,ys,h1,h2,?_⟩⟩
 ·unfold zipD at e
  rw [List.getElem?_zipWith] at e
  cases e1:ds[i]? with
  | none=>rw [e1] at e; cases e
  | some d1=>
   cases e2:es[i]? with
   | none=>rw [e1,e2] at e; cases e
   | some d2=>
    rw [e1,e2] at e
    cases e
    obtain ⟨x,hx,rx⟩:=r1.get e1
    obtain ⟨y,hy,ry⟩:=r2.get e2
    refine ⟨⟨xs,ys,x,y,h1,h2,hx,hy⟩,fun z H'' ⟨T,z1,z2,hT,e3,e4,k1,k2⟩=>?_⟩
    subst e3 e4
    have q1:=k1 xs h1
    have q2:=k2 ys h2
    rw [hx] at q1
    rw [hy] at q2
    cases q1
    cases q2
    exact ⟨a0r.new' hT,.tup a0E (.cons (rx.mono (a0r.new' hT)) (.cons (ry.mono (a0r.new' hT)) .nil))⟩
 ·rw [r1.length,r2.length]
  simp only [zipD,List.length_zipWith] at h
  ac_rfl
theorem q_iZip {elts:List Expr} {x1:Nat} {tp:Pos} (hg:Gl X "zip") (hm:X.mg "zip" = none) (ha:QA X [a,b] ts) (hs:starEach [a,b] X.env=[(false,eval a X.env),(false,eval b X.env)]:=by rfl) (hs2:starEach [b] X.env=[(false,eval b X.env)]:=by rfl):
  QI X (.Tuple elts x1 tp) (.Call (.Name "zip" p) [a,b] [] pos) (iZipP ts):=by
 refine ⟨fun ρ Q Q' w q=>ha.mono _ _ _ (fun r q=>?_) q,fun HZ F=>⟨_,pi_zip hg hm (ha.run HZ F) hs hs2,fun σ H ρ R fr q=>?_⟩⟩
 ·split at q
  ·split at q
   ·exact w _ _ q
   ·exact q
  ·exact q
 ·refine ha.step fr q fun rs xs H1 q S1 r1=>?_
  split at q
  ·rename_i r r'
   split at q
   ·rename_i ds es h1 h2
    cases r1 with
    | cons a1 t1=>
     cases t1 with
     | cons a2 t2=>
      cases t2
      obtain ⟨a,ys,rfl,ea,gd,wk⟩:=walked fr S1 a1 h1
      obtain ⟨b,zs,rfl,eb,gd2,wk2⟩:=walked fr S1 a2 h2
      refine ⟨a,b,rfl,⟨ys,ea⟩,⟨zs,eb⟩,q _ H1 S1 (fun p hp=>?_) (itok_zip wk wk2)⟩
      rcases List.mem_append.mp hp with h | h
      ·exact gd p h
      ·exact gd2 p h
   ·exact q.elim
  ·exact q.elim
end
end Z
namespace Z
open PySem PySem.Spec PyProof.Rows L2
noncomputable def a2p (env:Env):List (Str × NameKind)->List (Str × Addr)->List (Str × Addr)
 | [],acc=>acc
 | (n,k) :: r,acc=>if (k == .free)=true then (match env.cells.lookup n with | some c=>a2p env r ((n,c) :: acc) | none=>a2p env r acc) else a2p env r acc
theorem a5v {scope:Scope} {env:Env} (h:(scope.names.all fun y=>!(y.2 == .free) || (env.cells.lookup y.1).isSome)=true):closureFor scope env=pure (a2p env scope.names []):=by
 unfold closureFor
 have key:∀ (l:List (Str × NameKind)) (acc:List (Str × Addr)),(l.all fun y=>!(y.2 == .free) || (env.cells.lookup y.1).isSome)=true ->
   (forIn (m:=Sem) l acc fun x r=>(match x with | (name,kind)=>if (kind == NameKind.free)=true then (do let c <- cellOf env name; pure (ForInStep.yield ((name,c) :: r))) else pure (ForInStep.yield r)))=pure (a2p env l acc):=by
  intro l
  induction l with
  | nil=>intro acc _; rfl
  | cons y r ih=>
   intro acc hl
   obtain ⟨n,k⟩:=y
   rw [List.all_cons,Bool.and_eq_true] at hl
   rw [List.forIn_cons]
   unfold a2p
   by_cases hk:(k == NameKind.free)=true
   ·rw [if_pos hk]
    have h1:(env.cells.lookup n).isSome=true:=by
     have:=hl.1
     simpa [hk] using this
    obtain ⟨c,hc⟩:=Option.isSome_iff_exists.mp h1
    have e:cellOf env n=pure c:=by unfold cellOf; rw [hc]
    simp only [hk,if_true,e,hc]
    exact ih _ hl.2
   ·rw [if_neg hk]
    simp only [hk]
    exact ih _ hl.2
 dsimp only
 have h2:=key scope.names [] h
 refine Eq.trans (congrArg (fun t:Sem (List (Str × Addr))=>t >>= fun r=>pure r) h2) ?_
 rfl
theorem a4h {env:Env}:∀ (l:List (Str × NameKind)) (acc:List (Str × Addr)),(∀ q ∈ acc,env.cells.lookup q.1=some q.2) -> ∀ q ∈ a2p env l acc,env.cells.lookup q.1=some q.2
 | [],acc,h,q,hq=>h q hq
 | (n,k) :: r,acc,h,q,hq=>by
  unfold a2p at hq
  split at hq
  ·split at hq
   ·rename_i c hc
    refine a4h r _ (fun q' hq'=>?_) q hq
    rcases List.mem_cons.mp hq' with e | e
    ·rw [e]; exact hc
    ·exact h q' e
   ·exact a4h r acc h q hq
  ·exact a4h r acc h q hq
theorem a4o {env:Env}:∀ (l:List (Str × NameKind)) (acc:List (Str × Addr)),∀ q ∈ acc,q ∈ a2p env l acc
 | [],acc,q,hq=>hq
 | (n,k) :: r,acc,q,hq=>by
  unfold a2p
  split
  ·split
   ·exact a4o r _ q (List.mem_cons_of_mem _ hq)
   ·exact a4o r acc q hq
  ·exact a4o r acc q hq
theorem a3w {env:Env} {x:Str}:∀ (l:List (Str × NameKind)) (acc:List (Str × Addr)),(l.all fun y=>!(y.2 == .free) || (env.cells.lookup y.1).isSome)=true->(x,NameKind.free) ∈ l -> ∃ c,(x,c) ∈ a2p env l acc
 | [],_,_,h=>by simp at h
 | (n,k) :: r,acc,hl,h=>by
  rw [List.all_cons,Bool.and_eq_true] at hl
  unfold a2p
  rcases List.mem_cons.mp h with e | e
  ·cases e
   rw [if_pos (by rfl)]
   have h1:(env.cells.lookup x).isSome=true:=by simpa using hl.1
   obtain ⟨c,hc⟩:=Option.isSome_iff_exists.mp h1
   rw [hc]
   exact ⟨c,a4o r _ _ (by simp)⟩
  ·split
   ·split
    ·exact a3w r _ hl.2 e
    ·exact a3w r _ hl.2 e
   ·exact a3w r _ hl.2 e
theorem a3H {α:Type} {x:Str} {c:α}:∀ {l:List (Str × α)},(x,c) ∈ l -> ∃ c',l.lookup x=some c'
 | (n,d) :: r,h=>by
  rw [List.lookup_cons]
  cases e:x == n with
  | true=>exact ⟨d,rfl⟩
  | false=>
   rcases List.mem_cons.mp h with z | z
   ·cases z
    simp at e
   ·exact a3H z
theorem a5V {scope:Scope} {env:Env} {x:Str} (hcell:∀ y ∈ scope.names,y.2 ≠ .cell) (h:(relabel scope env).names.lookup x=some .cell \/ (relabel scope env).names.lookup x=some .free):(x,NameKind.free) ∈ scope.names:=by
 have:(x,NameKind.cell) ∈ (relabel scope env).names \/ (x,NameKind.free) ∈ (relabel scope env).names:=h.imp PySem.mem_of_lookup PySem.mem_of_lookup
 rcases this with h | h
 ·obtain ⟨⟨n,k⟩,hm,e⟩:=List.mem_map.mp h
  dsimp only at e
  split at e
  ·rename_i hc
   rw [Bool.and_eq_true,Bool.and_eq_true,beq_iff_eq] at hc
   cases e
   rw [hc.1.1] at hm
   exact hm
  ·cases e
   exact absurd rfl (hcell _ hm)
 ·obtain ⟨⟨n,k⟩,hm,e⟩:=List.mem_map.mp h
  dsimp only at e
  split at e
  ·cases e
  ·cases e
   exact hm
section
variable {X:Cx} {pos:Pos}
theorem q_lc {elt iter tgt:Expr} {ifs:List Expr} {scope:Scope} (tgs ns:List Str) (js:List Nat) {k:Nat} {ti:TIp} {g:TGp} {tt:TTp} {te:TEp} (hc:X.N=X.N) (hi:QI X tgt iter ti)
  (hg:∀ (fp:List Addr) (s:Shared) (H:Hp),QG (cxG X scope (a2p X.env scope.names []) fp (tgs ++ ns) s H) tgt k g) (ht:∀ (fp:List Addr) (s:Shared) (H:Hp),QTs (cxG X scope (a2p X.env scope.names []) fp (tgs ++ ns) s H) ifs tt)
  (he:∀ (fp:List Addr) (s:Shared) (H:Hp),QE (cxG X scope (a2p X.env scope.names []) fp (tgs ++ ns) s H) elt te) (hk:tgs.length=k:=by rfl)
  (hall:(scope.names.all fun y=>!(y.2 == .free) || (X.env.cells.lookup y.1).isSome)=true:=by rfl) (hjs:js.map (fun j=>X.N[j]?)=ns.map some:=by rfl)
  (hin:(ns.all fun y=>(relabel scope X.env).names.lookup y == some .cell || (relabel scope X.env).names.lookup y == some .free)=true:=by rfl) (hout:(ns.all fun y=>X.env.kindOf y == some .cell || X.env.kindOf y == some .free)=true:=by rfl)
  (nd:js.Nodup:=by decide) (hcell:∀ y ∈ scope.names,y.2 ≠ .cell:=by decide +kernel) (hkind:scope.kind=.function:=by rfl)
  (hnames:∀ y ∈ scope.names,y.2=.local->scope.names.lookup y.1=some .local:=by decide +kernel) (hs:∀ z,foldedSetIterable iter X.env z=pure z:=by intro _; rfl):
  QE X (.ListComp elt [⟨tgt,iter,ifs,0⟩] scope pos) (a4t k js ti g tt te):=by
 refine q_comp hc hk hi hg ht he (a5v hall) (fun x c e=>a4h scope.names [] (by simp) (x,c) (PySem.mem_of_lookup e)) (fun x h=>?_) hjs (fun y hy=>?_) (fun y hy=>?_) nd hcell hkind hnames hs
 ·obtain ⟨c,hc⟩:=a3w scope.names [] hall (a5V hcell h)
  exact a3H hc
 ·have:=List.all_eq_true.mp hin y hy
  simpa using this
 ·have:=List.all_eq_true.mp hout y hy
  simpa using this
end
section
variable {X:Cx} {M:Addr->Prop} {pins:List (Addr × Obj)} {σ:St} {H:Hp} {s:Shared}
end
section
variable {X:Cx}
end
end Z
namespace Z
open PySem PySem.Spec PyProof.Rows L2
theorem units65 {k:Nat} {A:Around} (r:Room k A):A.units + 65 < cLine:=by have:=r.un; ac_rfl
def pModG:Dv->Dv->(R->Prop)->Prop
 | .int i,.int j,Q=>j ≠ 0/\Q (.v (.int (i.fmod j)))
 | _,_,_=>False
noncomputable def isB (b:Bool):Dv->Bool
 | .bl c=>c == b
 | _=>false
def pIsB:Dv->Dv->(R->Prop)->Prop
 | d,.bl b,Q=>Q (.v (.bl (isB b d)))
 | _,_,_=>False
def pNotB:Dv->Dv->(R->Prop)->Prop
 | d,.bl b,Q=>Q (.v (.bl (!isB b d)))
 | _,_,_=>False
section
variable {X:Cx}
def sSetI (i:Nat) (tk tv:TEp):TSp:=fun E ρ=>match ρ[i]? with
 | some (.own a (.lst xs))=>tv ρ fun r=>tk ρ fun k=>match k.d with
  | .int n=>match ixN xs.length n with
   | some j=>r.free=true/\E.nx (ρ.set i (.own a (.lst (xs.set j r.d))))
   | none=>False
  | _=>False
 | _=>False
end
end Z
namespace Z
open PySem PySem.Spec PyProof.Rows L2
structure QX (X:Cx) (st:Stmt) (i:Nat) (te:TEp):Prop where
 mono:∀ (ρ:List Sl) (Q Q':R->Prop),(∀ r,Q r->Q' r)->te ρ Q->te ρ Q'
 run:∀ (HZ:Hp) (F:Addr->Prop),PS X st (tAsg (lift X.K HZ F te) (gName i))
section
variable {X:Cx} {pos:Pos} {st:Stmt} {te:TEp} {i:Nat}
theorem QX.step {HZ:Hp} {F:Addr->Prop} {σ:St} {H:Hp} {ρ:List Sl} {Q:R->Prop} {Q':VK} (h:QX X st i te) (fr:Fr X.K HZ F σ H ρ) (q:te ρ Q)
  (k:∀ r x H',Q r->a0r H H'->a3l X.K (MM F ρ) (Own ρ) H x r H'->Q' x H'):lift X.K HZ F te σ H Q':=⟨ρ,fr,h.mono _ _ _ (fun r qr x H' S rx=>k r x H' qr S rx) q⟩
theorem q_setX (he:QX X st i te):QS X st (a2a i te):=by
 refine ⟨fun E E' ρ w h=>he.mono _ _ _ (fun r q=>?_) h,fun HZ F=>a1O (he.run HZ F) fun D σ H ⟨ρ,E,fr,h,en⟩=>?_⟩
 ·cases r with
  | v d=>exact w.nx _ q
  | nw d=>exact w.nx _ q
  | ow a d=>exact q
 ·refine he.step fr h fun r x H1 q S1 r1=>?_
  cases r with
  | v d=>exact en.nx _ _ _ ((fr.mono S1).setv r1) q
  | nw d=>exact en.nx _ _ _ ((fr.mono S1).setv (r1.rep (fun a m=>fr.dom m) rfl)) q
  | ow a d=>exact q.elim
end
section
variable {X:Cx} {pos:Pos}
theorem q_compX {y:Str} {py spos:Pos} {iy:Nat} {elt iter tgt:Expr} {ifs:List Expr} {scope:Scope} {cl:List (Str × Addr)} {tgs ns:List Str} {js:List Nat} {k:Nat} {ti:TIp} {g:TGp} {tt:TTp} {te:TEp} (hN:X.N.Nodup) (hi2:X.N[iy]?=some y) (hx2:Loc X.env.scope y) (hc:X.N=X.N) (hk:tgs.length=k)
  (hi:QI X tgt iter ti) (hg:∀ (fp:List Addr) (s:Shared) (H:Hp),QG (cxG X scope cl fp (tgs ++ ns) s H) tgt k g) (ht:∀ (fp:List Addr) (s:Shared) (H:Hp),QTs (cxG X scope cl fp (tgs ++ ns) s H) ifs tt)
  (he:∀ (fp:List Addr) (s:Shared) (H:Hp),QE (cxG X scope cl fp (tgs ++ ns) s H) elt te)
  (hclos:closureFor scope X.env=pure cl) (hsub:∀ x c,cl.lookup x=some c->X.env.cells.lookup x=some c)
  (hhas:∀ x,((relabel scope X.env).names.lookup x=some .cell \/ (relabel scope X.env).names.lookup x=some .free) -> ∃ c,cl.lookup x=some c)
  (hjs:js.map (fun j=>X.N[j]?)=ns.map some) (hin:∀ y ∈ ns,(relabel scope X.env).names.lookup y=some .cell \/ (relabel scope X.env).names.lookup y=some .free)
  (hout:∀ y ∈ ns,X.env.kindOf y=some .cell \/ X.env.kindOf y=some .free) (nd:js.Nodup)
  (hcell:∀ y ∈ scope.names,y.2 ≠ .cell:=by decide +kernel) (hkind:scope.kind=.function:=by rfl)
  (hnames:∀ y ∈ scope.names,y.2=.local->scope.names.lookup y.1=some .local:=by decide +kernel)
  (hs:∀ z,foldedSetIterable iter X.env z=pure z:=by intro _; rfl)
  (hsw:swapsWith (.ListComp elt [⟨tgt,iter,ifs,0⟩] scope pos) (some (.Name y py)) spos.line X.env=pure true:=by rfl) (hf:X.fn y=true \/ X.env.scope.names.lookup y=some .local:=by first | exact .inl rfl | exact .inr rfl | assumption):
  QX X (.Assign [.Name y py] (.ListComp elt [⟨tgt,iter,ifs,0⟩] scope pos) spos) iy (a4t k js ti g tt te):=by
 have mg:=(hg [] X.s₀ fun _=>none).mono
 have ag:=(hg [] X.s₀ fun _=>none).agree
 have mt:=(ht [] X.s₀ fun _=>none).mono
 have me:=(he [] X.s₀ fun _=>none).mono
 refine ⟨fun ρ Q Q' w h=>hi.mono _ _ _ (fun ds ogs h=>a3K mg mt me ds [] Q Q' w h) h,fun HZ F=>?_⟩
 obtain ⟨wi,hwi,wiq⟩:=hi.run HZ F
 suffices key:∀ σ H Q,lift X.K HZ F (a4t k js ti g tt te) σ H Q->b0K wi tgs.length js (liftG X.K k g) (fun σ H Q=>∃ HZ F,liftT X.K HZ F tt σ H Q) (fun σ H Q=>∃ HZ F,lift X.K HZ F te σ H Q) σ H Q from
  a1O (ps_compG (tgs:=tgs) (ns:=ns) (js:=js) (g:=liftG X.K k g) (tt:=fun σ H Q=>∃ HZ F,liftT X.K HZ F tt σ H Q) (te:=fun σ H Q=>∃ HZ F,lift X.K HZ F te σ H Q) hN hi2 hx2 hc hwi (fun fp s H=>(hg fp s H).pg) (fun fp s H=>(ht fp s H).pt) (fun fp s H=>(he fp s H).pe) hclos hsub hhas hjs hin hout hcell hkind hnames hs hsw hf) fun D σ H h=>key σ H _ h
 intro σ H Q ⟨ρ,fr,h⟩
 subst hk
 refine wiq σ H ρ _ fr (hi.mono _ _ _ (fun ds ogs q J H1 S1 gd ok=>?_) h)
 intro D hD
 have fr1:=fr.mono S1
 refine ⟨fun i m acc H2=>m=ds.length - i/\i<=ds.length/\a0r H1 H2 /\ ∃ accD,Reps X.K (fun a=>MM F ρ a \/ a=D) H2 acc accD /\
  a1U (List.replicate tgs.length .un ++ a2O js ρ) g tt te (ds.drop i) accD (fun r=>∀ x H',a0r H H'->a3l X.K (MM F ρ) (Own ρ) H x r H'->Q x H'),
  ⟨ds.length,by simp,Nat.zero_le _,a0r.new' hD,[],.nil,by simpa using q⟩,?_⟩
 rintro i m acc H2 ⟨rfl,hil,S2,accD,ra,q⟩ hDl
 have G2:Gen X.K (MM F ρ) (fun a=>MM F ρ a \/ a=D) H1 H2:=(Gen.fresh hD).trans (.mono S2)
 have oks:=ok i H2 (fun a=>MM F ρ a \/ a=D) (fun b o e=>S2 _ _ (a5h e)) G2 fun p hp=>by
  obtain ⟨_,_,_,ow⟩:=fr1.at_own (gd p hp)
  exact ow.gen G2 fun o e=>S2 _ _ e
 by_cases hlt:i < ds.length
 ·have hd:ds[i]?=some ds[i]:=by simp [hlt]
  rw [List.drop_eq_getElem_cons hlt] at q
  obtain ⟨go,yld⟩:=oks.1 _ hd
  refine .inr ⟨go,fun y H3 hy old lo=>?_⟩
  obtain ⟨S3,ry⟩:=yld y H3 hy
  have hD3:=S3 _ _ hDl
  obtain ⟨P,F',fr',iff,iffF⟩:=fr1.block (js:=js) (old:=old) (S2.trans S3) hD (by rw [hD3]; simp) nd lo
  refine ⟨_,P,F',_,fr',ry.weak fun a z=>(iff a).mp z,mg _ _ _ _ (fun ρ1 q1 σ1 f1 a1=>?_) (ag _ _ _ q)⟩
  obtain ⟨q1,l1,b1⟩:=q1
  have up:∀ a,MM F ρ a \/ a=D->MM F' ρ1 a:=fun a z=>by
   rcases (iff a).mpr z with z | ⟨d,z⟩
   ·exact .inl z
   ·refine .inr ⟨d,?_⟩
    obtain ⟨j,e⟩:=List.mem_iff_getElem?.mp z
    have hj:tgs.length<=j:=by
     by_cases hj:j < tgs.length
     ·rw [List.getElem?_append_left (by simpa using hj),List.getElem?_replicate,if_pos hj] at e
      cases e
     ·ac_rfl
    rw [<- b1 j hj] at e
    exact List.mem_of_getElem? e
  have hlen:σ1.length=tgs.length + (pick js σ).length:=by
   have:=f1.len
   rw [l1] at this
   simp [pick,a2O] at this ⊢
   ac_rfl
  refine ⟨⟨σ1.take tgs.length,by rw [List.length_take]; ac_rfl,b0N lo hlen a1⟩,P,F',ρ1,f1,mt _ _ _ (fun b q5 H5 S5=>?_) q1⟩
  have S25:=(S2.trans S3).trans S5
  cases b with
  | true=>
   simp only [if_true] at q5
   refine a8M ⟨P,F',ρ1,f1.mono S5,me _ _ _ (fun r q6 x H6 S6 rx=>?_) q5⟩
   have hD6:=S6 _ _ (S5 _ _ hD3)
   obtain ⟨⟨rf,rl⟩,q6⟩:=q6
   have rep:=(rx.rep (fun a z=>(f1.mono S5).dom z) rf).weak up
   refine ⟨hD6,by rw [ra.length]; exact b1k rl,ds.length - (i + 1),by ac_rfl,rfl,hlt,fun b o e=>?_,_,?_,q6⟩
   ·rw [a0w (a0u e hD)]
    exact S6 _ _ (S25 _ _ e)
   ·have G6:Gen X.K (fun a=>MM F ρ a \/ a=D) (fun a=>MM F ρ a \/ a=D) H6 (upd H6 D (.lst (acc ++ [x]))):=Gen.write (.inr rfl) (by rw [hD6]; trivial)
    exact ((ra.mono ((S3.trans S5).trans S6)).append (.cons rep .nil)).gen G6
  | false=>
   simp only [Bool.false_eq_true,if_false] at q5
   exact a7h ⟨S5 _ _ hD3,ds.length - (i + 1),by ac_rfl,rfl,hlt,S25,accD,ra.mono (S3.trans S5),q5⟩
 ·have e:i=ds.length:=by ac_rfl
  subst e
  rw [List.drop_length] at q
  exact .inl ⟨oks.2 (Nat.le_refl _),q (.ref D) H2 (S1.trans S2) ⟨D,rfl,S1.free hD,acc,hDl,ra⟩⟩
theorem q_lcX {y:Str} {py spos:Pos} {iy:Nat} {elt iter tgt:Expr} {ifs:List Expr} {scope:Scope} (tgs ns:List Str) (js:List Nat) {k:Nat} {ti:TIp} {g:TGp} {tt:TTp} {te:TEp} (hN:X.N.Nodup) (hi2:X.N[iy]?=some y) (hx2:Loc X.env.scope y) (hc:X.N=X.N) (hi:QI X tgt iter ti)
  (hg:∀ (fp:List Addr) (s:Shared) (H:Hp),QG (cxG X scope (a2p X.env scope.names []) fp (tgs ++ ns) s H) tgt k g) (ht:∀ (fp:List Addr) (s:Shared) (H:Hp),QTs (cxG X scope (a2p X.env scope.names []) fp (tgs ++ ns) s H) ifs tt)
  (he:∀ (fp:List Addr) (s:Shared) (H:Hp),QE (cxG X scope (a2p X.env scope.names []) fp (tgs ++ ns) s H) elt te) (hk:tgs.length=k:=by rfl)
  (hall:(scope.names.all fun y=>!(y.2 == .free) || (X.env.cells.lookup y.1).isSome)=true:=by rfl) (hjs:js.map (fun j=>X.N[j]?)=ns.map some:=by rfl)
  (hin:(ns.all fun y=>(relabel scope X.env).names.lookup y == some .cell || (relabel scope X.env).names.lookup y == some .free)=true:=by rfl) (hout:(ns.all fun y=>X.env.kindOf y == some .cell || X.env.kindOf y == some .free)=true:=by rfl)
  (nd:js.Nodup:=by decide) (hcell:∀ y ∈ scope.names,y.2 ≠ .cell:=by decide +kernel) (hkind:scope.kind=.function:=by rfl)
  (hnames:∀ y ∈ scope.names,y.2=.local->scope.names.lookup y.1=some .local:=by decide +kernel) (hs:∀ z,foldedSetIterable iter X.env z=pure z:=by intro _; rfl)
  (hsw:swapsWith (.ListComp elt [⟨tgt,iter,ifs,0⟩] scope pos) (some (.Name y py)) spos.line X.env=pure true:=by rfl) (hf:X.fn y=true \/ X.env.scope.names.lookup y=some .local:=by first | exact .inl rfl | exact .inr rfl | assumption):
  QX X (.Assign [.Name y py] (.ListComp elt [⟨tgt,iter,ifs,0⟩] scope pos) spos) iy (a4t k js ti g tt te):=by
 refine q_compX hN hi2 hx2 hc hk hi hg ht he (a5v hall) (fun x c e=>a4h scope.names [] (by simp) (x,c) (PySem.mem_of_lookup e)) (fun x h=>?_) hjs (fun y hy=>?_) (fun y hy=>?_) nd hcell hkind hnames hs hsw hf
 ·obtain ⟨c,hc⟩:=a3w scope.names [] hall (a5V hcell h)
  exact a3H hc
 ·have:=List.all_eq_true.mp hin y hy
  simpa using this
 ·have:=List.all_eq_true.mp hout y hy
  simpa using this
end
end Z
namespace Z
open PySem PySem.Spec PyProof.Rows L2
def pIAdd:Dv->Dv->(R->Prop)->Prop
 | .int i,.int j,Q=>Q (.v (.int (i + j)))
 | .str x,.str y,Q=>x.length + y.length<=LIM/\Q (.v (.str (x ++ y)))
 | _,_,_=>False
def pISub:Dv->Dv->(R->Prop)->Prop
 | .int i,.int j,Q=>Q (.v (.int (i - j)))
 | _,_,_=>False
def pIMul:Dv->Dv->(R->Prop)->Prop
 | .int i,.int j,Q=>a9L i j/\Q (.v (.int (i * j)))
 | _,_,_=>False
section
variable {X:Cx}
theorem iopd_sub:IpD X .Sub pISub:=by
 refine ⟨fun dx dy Q Q' w h=>?_,_,iop_sub,fun M O H x y dx dy Q cx cy h=>?_⟩
 ·unfold pISub at h
  split at h
  ·exact w _ h
  ·exact h.elim
 ·unfold pISub at h
  split at h
  ·obtain rfl:=cx.int
   obtain rfl:=cy.int
   exact ⟨_,_,rfl,rfl,h _ H (a0r.refl _) (Rep.int _)⟩
  ·exact h.elim
def sAsg (te:TEp) (g:TGp):TSp:=fun E ρ=>te ρ fun r=>r.free=true/\g r.d ρ E.nx
theorem q_asg {tg e:Expr} {te:TEp} {g:TGp} {k:Nat} {pos:Pos} (he:QE X e te) (hg:QG X tg k g) (hs:swapsWithSole [tg] e pos.line X.env=pure false:=by rfl) (hw:swappedStores [tg] e X.env=pure none:=by rfl)
  (h1:(assignEach [tg] X.env).map (·.2)=[assign tg X.env]:=by rfl):QS X (.Assign [tg] e pos) (sAsg te g):=by
 obtain ⟨t,ht,hr⟩:=hg.run
 refine ⟨fun E E' ρ w h=>he.mono _ _ _ (fun r q=>⟨q.1,hg.mono _ _ _ _ (fun ρ q=>w.nx _ q) q.2⟩) h,fun HZ F=>a1O (ps_asg (he.run HZ F) ht hs hw h1) fun D σ H ⟨ρ,E,fr,h,en⟩=>?_⟩
 refine he.step fr h fun r x H1 q S1 r1=>?_
 have rep:=r1.rep (fun a m=>fr.dom m) q.1
 exact hr HZ F x r.d σ H1 ρ _ (fr.mono S1) rep (hg.mono _ _ _ _ (fun ρ1 q σ1 fr1 _=>en.nx _ _ _ fr1 q) q.2)
theorem qt_chain {a b c:Expr} {ta tb tc:TEp} {pos:Pos} {op op':CmpOp} {f f':Int->Int->Bool} (ho:OpR X (compareOp op) (rI0 fun i j=>.bl (f i j))) (ho':OpR X (compareOp op') (rI0 fun i j=>.bl (f' i j))) (ha:QE X a ta) (hb:QE X b tb) (hc:QE X c tc)
  (hm:lastMarks [op,op'] [b,c]=false:=by with_unfolding_all rfl):QT X (.Compare a [op,op'] [b,c] pos) (a1n (a7I (pI2 f) (pI2 f') ta tb tc)):=by
 have Q0:=q_chain (pos:=pos) ho ho' ha hb hc hm
 have low:∀ (HZ:Hp) (F:Addr->Prop) (σ:St) (H:Hp) (Q:VK),lift X.K HZ F (a7I (pI2 f) (pI2 f') ta tb tc) σ H Q->tChain (rI0 fun i j=>.bl (f i j)) (rI0 fun i j=>.bl (f' i j)) (lift X.K HZ F ta) (lift X.K HZ F tb) (lift X.K HZ F tc) σ H Q:=by
  rintro HZ F σ H Q ⟨ρ,fr,q⟩
  refine ha.step fr q fun rx x H1 q1 S1 r1=>?_
  refine hb.step (fr.mono S1) q1 fun ry y H2 q2 S2 r2=>?_
  have cx:=(r1.mono S2).c
  have cy:=r2.c
  generalize rx.d=dx at q2 cx
  generalize ry.d=dy at q2 cy
  unfold pI2 at q2
  split at q2
  ·rename_i Q2 i j
   obtain rfl:=cx.int
   obtain rfl:=cy.int
   refine ⟨_,_,rfl,rfl,f i j,rfl,?_⟩
   have S12:=S1.trans S2
   replace q2:=(show (if f i j=true then tc ρ (fun w=>pI2 f' (.int j) w.d (fun r=>∀ x H',a0r H H'->a3l X.K (MM F ρ) (Z.Own ρ) H x r H'->Q x H')) else (∀ x H',a0r H H'->a3l X.K (MM F ρ) (Z.Own ρ) H x (.v (.bl false)) H'->Q x H')) from q2)
   cases h:f i j with
   | true=>
    rw [h] at q2
    simp only [if_true] at q2
    refine a8M (hc.step ((fr.mono S1).mono S2) q2 fun rw' z H3 q3 S3 r3=>?_)
    have cz:=r3.c
    generalize rw'.d=dz at q3 cz
    cases dz with
    | int l=>
     obtain rfl:=cz.int
     exact ⟨_,_,rfl,rfl,q3 _ H3 (S12.trans S3) (Rep.bl _)⟩
    | _=>exact (show False from q3).elim
   | false=>
    rw [h] at q2
    simp only [Bool.false_eq_true,if_false] at q2
    exact a7h (q2 _ H2 S12 (Rep.bl _))
  ·exact q2.elim
 refine ⟨fun ρ Q Q' w q=>a7H Q0.mono ρ Q Q' w q,fun HZ F=>PT_imp (pt_chain ho ho' (ha.run HZ F) (hb.run HZ F) (hc.run HZ F) hm) fun σ H Q ⟨ρ,fr,q⟩=>?_⟩
 refine low HZ F σ H _ (Q0.step fr q fun r x H1 q S1 r1=>?_)
 have cx:=r1.c
 generalize r.d=d at q cx
 split at q
 ·obtain rfl:=cx.bl
  exact ⟨_,rfl,q H1 S1⟩
 ·exact q.elim
end
end Z
namespace Z
open PySem PySem.Spec PyProof.Rows L2
section
variable {X:Cx} {e:Expr} {te:TEp} {pos:Pos}
def sExt (i:Nat) (te:TEp):TSp:=fun E ρ=>match ρ[i]? with
 | some (.own a (.lst xs))=>te ρ fun r=>match r.d with
  | .lst ys=>xs.length + ys.length<=LIM/\E.nx (ρ.set i (.own a (.lst (xs ++ ys))))
  | _=>False
 | _=>False
theorem q_ext {i:Nat} {x:Str} {p1 p2 p3:Pos} (hv:PE X (.Name x p1) (tVar i)) (he:QE X e te) (hs:swapsWith (.Call (.Attribute (.Name x p1) "extend" p2) [e] [] p3) none pos.line X.env=pure false:=by rfl)
  (hbase:attributeBase (.Name x p1) "extend" X.env (eval (.Name x p1) X.env)=eval (.Name x p1) X.env:=by rfl)
  (hfew:((backTo p3 (starEach [e] X.env)).all (fun x=>!x.1) && (backToKw p3 (keywordEach [] X.env)).all (fun x=>x.1.isSome)
   && decide ([e].length + ([]:List Keyword).length + (if ([]:List Keyword).isEmpty then 0 else 1) < 30))=true:=by rfl)
  (hline:(p2.endLine == p3.line)=true:=by rfl) (hst:starEach [e] X.env=(false,eval e X.env) :: starEach [] X.env:=by rfl) (hplain:(backTo p3 (starEach [] X.env)).any (·.1)=false:=by rfl):
  QS X (.Expr (.Call (.Attribute (.Name x p1) "extend" p2) [e] [] p3) pos) (sExt i te):=by
 refine ⟨fun E E' ρ w h=>?_,fun HZ F=>a1O (a9S (pe_bm PySem.F.plainAttrs_list PySem.F.slot_list_extend PySem.F.type_list_extend mt_extend hv (a3F (he.run HZ F) a7y hst) hbase hfew hline hst hplain) hs) fun D σ H ⟨ρ,E,fr,h,en⟩=>?_⟩
 ·unfold sExt at *
  split at h
  ·refine he.mono _ _ _ (fun r q=>?_) h
   split at q
   ·exact ⟨q.1,w.nx _ q.2⟩
   ·exact q
  ·exact h
 ·unfold sExt at h
  split at h
  ·rename_i a xs hx
   obtain ⟨hs1,vs,hv1,rv1⟩:=fr.sl i _ hx
   refine ⟨_,hs1,.inl ⟨rfl,_,SqL.of hv1⟩,he.step fr h fun r y H1 q S1 r1=>?_⟩
   have cy:=r1.c
   generalize r.d=d at q cy
   split at q
   ·rename_i ys
    obtain ⟨b,zs,rfl,eb,rb⟩:=cy.lst
    obtain ⟨ql,q2⟩:=q
    have hv2:=S1 _ _ hv1
    refine ⟨a,b,vs,zs,rfl,rfl,hv2,eb,a2V (by rw [rv1.length,rb.length]; exact ql),?_⟩
    refine en.nx _ _ _ ((fr.mono S1).write (d':=.lst (xs ++ ys)) hx ⟨_,a0E,?_⟩) q2
    have G:Gen X.K (MM F ρ) (MM F ρ) H1 (upd H1 a (.lst (vs ++ zs))):=Gen.write (.inr ⟨_,List.mem_of_getElem? hx⟩) (by rw [hv2]; trivial)
    exact ((rv1.mono S1).append rb).gen G
   ·exact q.elim
  ·exact h.elim
noncomputable def putD (f:Str) (d:Dv):List (Str × Dv)->List (Str × Dv)
 | []=>[(f,d)]
 | (g,x) :: r=>if g=f then (g,d) :: r else (g,x) :: putD f d r
theorem RepF.put {K:W.Frag} {M:Addr->Prop} {H:Hp} {f:Str} {x:V} {d:Dv} (a:Rep K M H x d) {xs:List (Str × V)} {ds:List (Str × Dv)} (r:RepF K M H xs ds):RepF K M H (a8a f x xs) (putD f d ds):=
 r.ind (P:=fun xs ds=>RepF K M H (a8a f x xs) (putD f d ds)) (.cons a .nil) fun k _ _ _ _ b r ih=>by
  show RepF K M H (if k=f then _ else _) (if k=f then _ else _)
  split
  ·exact .cons a r
  ·exact .cons b ih
theorem RepF.length {K:W.Frag} {M:Addr->Prop} {H:Hp} {xs:List (Str × V)} {ds:List (Str × Dv)} (r:RepF K M H xs ds):xs.length=ds.length:=r.ind (P:=fun xs ds=>xs.length=ds.length) rfl fun _ _ _ _ _ _ _ ih=>congrArg (· + 1) ih
def a9Q (C:Addr) (i:Nat) (f:Str) (te:TEp):TSp:=fun E ρ=>match ρ[i]? with
 | some (.own a (.obj C' fs))=>te ρ fun r=>(C'=C/\r.free=true/\fs.length < 1000)/\E.nx (ρ.set i (.own a (.obj C' (putD f r.d fs))))
 | _=>False
theorem q_attr {C:Addr} {i:Nat} {x f:Str} {p1 p2:Pos} (c:Cls X.K C) (n:a3Q X.K C f) (hv:PE X (.Name x p1) (tVar i)) (he:QE X e te)
  (hs:swapsWith e (some (.Attribute (.Name x p1) f p2)) pos.line X.env=pure false:=by rfl):QS X (.Assign [.Attribute (.Name x p1) f p2] e pos) (a9Q C i f te):=by
 refine ⟨fun E E' ρ w h=>?_,fun HZ F=>a1O (ps_fld hv he.pe hs) fun D σ H ⟨ρ,E,fr,h,en⟩=>?_⟩
 ·unfold a9Q at *
  split at h
  ·exact he.mono _ _ _ (fun r q=>⟨q.1,w.nx _ q.2⟩) h
  ·exact h
 ·unfold a9Q at h
  split at h
  ·rename_i a C' fs hx
   refine ⟨HZ,F,he.step fr h fun r y H1 q S1 r1=>?_⟩
   obtain ⟨⟨rfl,qf,ql⟩,q2⟩:=q
   have fr1:=fr.mono S1
   obtain ⟨hs1,dx,fs1,hv1,rv1⟩:=fr1.sl i _ hx
   have rep:=r1.rep (fun a m=>fr.dom m) qf
   refine ⟨_,hs1,a,C',dx,fs1,rfl,hv1,c,n,by rw [rv1.length]; exact ql,?_⟩
   refine en.nx _ _ _ (fr1.write (d':=.obj C' (putD f r.d fs)) hx ⟨dx,_,a0E,?_⟩) q2
   have G:Gen X.K (MM F ρ) (MM F ρ) H1 (upd H1 a (.ins C' dx (a8a f y fs1))):=Gen.write (.inr ⟨_,List.mem_of_getElem? hx⟩) (by rw [hv1]; trivial)
   exact (RepF.put rep rv1).gen G
  ·exact h.elim
end
def lowI (K:W.Frag) (C:Addr) (sp:Fn):Sp:=fun vs H Q _=>∃ (x dx:Addr) (vs':List V) (H0:Hp) (F:Addr->Prop) (ds:List Dv),vs=.ref x :: vs'/\H=upd (upd H0 dx (.own x)) x (.ins C dx [])/\H0 x=none/\H0 dx=none/\dx ≠ x/\OldF K F H0/\Reps K F H0 vs' ds /\
 sp ds (fun r=>∀ H',a0r H0 H'->a3l K F NoOwn H0 (.ref x) r H'->Q .non H')
structure IDef (P:Program) (w:World) (K:W.Frag) (mg:Str->Option Value) (base:Heap) (k:Nat) (x:Str) (C:Addr) (ps:List Str) (sp:Fn):Prop where
 ex:∃ f fd,Mk K C f/\mg x=some (.ref C)/\a3B K fd ps []/\FnOk P w K mg base CX0 k f fd ps (lowI K C sp)
structure IAt (K:W.Frag) (mg:Str->Option Value) (x:Str) (C:Addr) (qual:Str) (st:Stmt) (ps:List Str):Prop where
 ex:∃ f fd,Mk K C f/\mg x=some (.ref C)/\Fun K "__init__" qual st f fd/\a3B K fd ps []
noncomputable def a3N (C a:Addr) (N:List Str) (ds:List Dv):List Sl:=.own a (.obj C []) :: (ds.map .v ++ List.replicate (N.length - (ds.length + 1)) .un)
theorem same_two {H0:Hp} {x dx:Addr} {o o':HO} (hx:H0 x=none) (hd:H0 dx=none):a0r H0 (upd (upd H0 dx o) x o'):=fun b q e=>by
 rw [a0w (a0u e hx),a0w (a0u e hd)]
 exact e
theorem startI_fr {K:W.Frag} {C x dx:Addr} {F:Addr->Prop} {H0:Hp} {N:List Str} {vs:List V} {ds:List Dv} (hx:H0 x=none) (hd:H0 dx=none) (hF:OldF K F H0) (r:Reps K F H0 vs ds):
  Fr K H0 F (start N (.ref x :: vs)) (upd (upd H0 dx (.own x)) x (.ins C dx [])) (a3N C x N ds):=by
 have S:a0r H0 (upd (upd H0 dx (.own x)) x (.ins C dx [])):=same_two hx hd
 have only:∀ {a:Addr} {d:Dv},Sl.own a d ∈ a3N C x N ds->a=x:=fun {a d} h=>by
  rcases List.mem_cons.mp h with h | h
  ·cases h; rfl
  ·rcases List.mem_append.mp h with h | h
   ·obtain ⟨z,_,e⟩:=List.mem_map.mp h
    cases e
   ·cases List.eq_of_mem_replicate h
 have wk:∀ a,MM F (a3N C x N ds) a->F a \/ a=x:=fun a h=>by
  rcases h with h | ⟨d,h⟩
  ·exact .inl h
  ·exact .inr (only h)
 have G:Gen K F (MM F (a3N C x N ds)) H0 (upd (upd H0 dx (.own x)) x (.ins C dx [])):=((Gen.fresh hx).trans (.mono S)).trans (.weak wk)
 have hl:=r.length
 have r':=r.gen G
 have zero:∀ (i:Nat) (a:Addr) (d:Dv),(a3N C x N ds)[i]?=some (.own a d)->i=0:=fun i a d e=>by
  cases i with
  | zero=>rfl
  | succ i=>
   have e':(ds.map Sl.v ++ List.replicate (N.length - (ds.length + 1)) Sl.un)[i]?=some (.own a d):=e
   have:=List.mem_of_getElem? e'
   rcases List.mem_append.mp this with h | h
   ·obtain ⟨z,_,e⟩:=List.mem_map.mp h
    cases e
   ·cases List.eq_of_mem_replicate h
 refine ⟨by simp [L2.start,a3N,hl],fun i s e=>?_,fun i j a d d' e1 e2=>?_,fun a d h=>by rw [only h]; exact hx,S,hF⟩
 ·cases i with
  | zero=>
   cases e
   exact ⟨rfl,dx,[],a0E,.nil⟩
  | succ i=>
   have e':(ds.map Sl.v ++ List.replicate (N.length - (ds.length + 1)) Sl.un)[i]?=some s:=e
   have es:(start N (.ref x :: vs))[i + 1]?=(vs.map some ++ List.replicate (N.length - (vs.length + 1)) none)[i]?:=by simp [L2.start]
   rw [es]
   by_cases hi:i < ds.length
   ·rw [List.getElem?_append_left (by simpa using hi),List.getElem?_map] at e'
    cases q:ds[i]? with
    | none=>rw [q] at e'; cases e'
    | some d=>
     rw [q] at e'
     cases e'
     obtain ⟨y,hy,ry⟩:=r'.get q
     refine ⟨y,?_,ry⟩
     rw [List.getElem?_append_left (by simpa using (List.getElem?_eq_some_iff.mp hy).1),List.getElem?_map,hy]
     rfl
   ·rw [List.getElem?_append_right (by simpa using Nat.le_of_not_lt hi)] at e'
    have:=List.mem_of_getElem? e'
    cases List.eq_of_mem_replicate this
    trivial
 ·rw [zero i a d e1,zero j a d' e2]
theorem IAt.okP {P:Program} {w:World} {K:W.Frag} {mg:Str->Option Value} {base:Heap} {k:Nat} {x qual:Str} {C:Addr} {st:Stmt} {ps N:List Str} {sp:Fn} {t:TSp} (m:IAt K mg x C qual st ps) (S:FnScope N ps (a0d st))
  (hq:∀ (f:Addr) (cdv:Value) (A:Around) (outer:List Env) (s:Shared) (H:Hp) (E:XK),Room k (A.deeper (envOfC qual (a0d st) s.heap.objs.size f cdv))->QSs (a1x CX0 P w K mg base N qual (a0d st) f cdv A outer s H E).nox (a0o st) t)
  (len:∀ ds Q,sp ds Q->ds.length + 1=ps.length) (hsp:∀ ds Q,sp ds Q -> ∀ a,t { nx:=fun ρ=>∃ d,ρ[0]?=some (.own a d)/\Q (.nw d),rt:=fun _=>False } (a3N C a N ds)):IDef P w K mg base (k + 1) x C ps sp:=by
 obtain ⟨f,fd,M,hm,FF,hb⟩:=m.ex
 refine ⟨f,fd,M,hm,hb,FF.ok S (fun vs H Q E ⟨a,dx,vs',H0,F,ds,e,_,_,_,_,_,r,q⟩=>?_) fun cdv A outer s H vs Q E hr q=>?_⟩
 ·rw [e,List.length_cons,r.length]
  exact len _ _ q
 ·obtain ⟨a,dx,vs',H0,F,ds,rfl,rfl,hx,hd,hn,hF,r,q⟩:=q
  refine ⟨_,(hq f cdv A outer s _ E hr).run H0 F,a3N C a N ds,_,startI_fr hx hd hF r,hsp ds _ q a,?_,fun _ _ _ _ z=>z.elim,fun _ _ _ _ z=>z.elim,fun _ _ _ _ _ z=>z.elim⟩
  rintro ρ σ H' fr ⟨d,hd',q⟩
  have mem:Sl.own a d ∈ ρ:=List.mem_of_getElem? hd'
  exact q H' fr.same ⟨a,rfl,hx,(fr.sl 0 _ hd').2.weak fun b z=>z.elim .inl fun z=>.inr ⟨d,by rw [z]; exact mem⟩⟩
def eMake (sp:Fn) (ts:TAp):TEp:=fun ρ Q=>ts ρ fun rs=>sp (rs.map R.d) (back rs Q)
section
variable {X:Cx} {k:Nat} {x:Str} {ps:List Str} {sp:Fn} {e:Expr} {es:List Expr} {ts:TAp} {p pos:Pos} {C:Addr}
theorem q_make (d:IDef X.prog X.w X.K X.mg X.base k x C ps sp) (mo:MonoF sp) (hr:Room (k + 1) X.A) (ha:QA X (e :: es) ts) (hg:Gl X x:=by rfl)
  (hdb:(x == ("__debug__" : Str))=false:=by decide) (he:starEach (e :: es) X.env=(false,eval e X.env) :: starEach es X.env:=by rfl) (hpl:(backTo pos (starEach es X.env)).any (·.1)=false:=by rfl):
  QE X (.Call (.Name x p) (e :: es) [] pos) (eMake sp ts):=by
 obtain ⟨f,fd,M,hm,hb,FO⟩:=d.ex
 refine ⟨fun ρ Q Q' w q=>ha.mono _ _ _ (fun rs q=>mo.mo _ _ _ (a3z w) q) q,fun HZ F=>a0T (pe_make M FO hr hg hm hb .nil pass0 (ha.run HZ F) hdb he hpl) fun σ H Q ⟨ρ,fr,h⟩=>?_⟩
 refine ha.step fr h fun rs xs H1 q S1 r1=>?_
 intro a dx hx hd hn
 rw [List.append_nil]
 refine ⟨a,dx,xs,H1,lent (MM F ρ) rs,rs.map R.d,rfl,rfl,hx,hd,hn,⟨fun b z=>(fr.mono S1).dom z.1,(fr.mono S1).tab⟩,a3u fr (fun _ h=>h) r1,mo.mo _ _ _ (fun r q H' S rx=>?_) q⟩
 exact ⟨rfl,q.2 _ H' (S1.trans S) (a5m fr S1 rx q.1)⟩
end
end Z
namespace Z
open PySem PySem.Spec PyProof.Rows L2
section
variable {K:W.Frag} {HZ H1 H':Hp} {F:Addr->Prop} {σ:St} {ρ:List Sl} {a b:Addr}
end
noncomputable def startM (a:Addr) (N:List Str):List Dv->List Sl
 | []=>[]
 | d :: ds=>.own a d :: (ds.map .v ++ List.replicate (N.length - (ds.length + 1)) .un)
def sMov (i:Nat) (sp:Fn) (ts:TAp):TSp:=fun E ρ=>ts ρ fun rs=>match rs with
 | .ow a d :: rest=>ρ[i]?=some (.own a d)/\rest.all R.free=true/\sp (d :: rest.map R.d) (fun r=>match r with | .nw d'=>∀ b,E.nx (ρ.set i (.own b d')) | _=>False)
 | _=>False
section
variable {X:Cx} {k i:Nat} {x y:Str} {ps:List Str} {sp:Fn} {e:Expr} {es:List Expr} {ts:TAp} {p pos pos2 py:Pos}
end
end Z
namespace Z
open PySem PySem.Spec PyProof.Rows L2
def pShl:Dv->Dv->(R->Prop)->Prop
 | .int i,.int j,Q=>CPow i j/\Q (.v (.int (i * 2 ^ j.toNat)))
 | _,_,_=>False
section
variable {X:Cx}
end
end Z
namespace L2
open PySem PySem.Spec PyProof.Rows AutoSeq1
section
variable {prog:Program} {w:World} {A:Around} {E:Value->Shared->Prop} {s:Shared} {r:Addr} {a b c:Int} {t u v:Tok} {n:Nat}
end
section
variable {prog:Program} {w:World} {A:Around} {E:Value->Shared->Prop} {s:Shared} {r:Addr} {a b c:Int} {t u v:Tok} {n:Nat}
end
end L2
namespace L2
open PySem PySem.Spec PyProof.Rows
section
variable {X:Cx}
end
end L2
namespace Z
open PySem PySem.Spec PyProof.Rows L2
section
variable {X:Cx} {a:Expr} {ts:TAp} {p p2 pos:Pos}
def eTR1 (ts:TAp):TEp:=fun ρ Q=>ts ρ fun rs=>match rs.map R.d with
 | [.int j]=>(-(2 ^ 62)<=j/\j < 2 ^ 62/\j.toNat<=1000000)/\Q (.v (.tup (a0K 0 j.toNat)))
 | _=>False
end
end Z
namespace Tim
open PySem PySem.W PyProof.Rows
structure Weak (lt:Nat->Nat->Bool):Prop where
 irr:∀ a,lt a a=false
 tr:∀ a b c,lt a b=true->lt b c=true->lt a c=true
 nt:∀ a b c,lt a c=true->lt a b=true \/ lt b c=true
noncomputable def at' (p:Array Nat) (k:Nat):Nat:=p.getD k 0
def Pm (N:Nat) (p:Array Nat):Prop:=p.Perm (List.toArray (List.range N))
section
variable {lt:Nat->Nat->Bool} {N:Nat} {p:Array Nat}
theorem Pm.size (h:Pm N p):p.size=N:=by
 have:=Array.Perm.size_eq h
 simpa using this
theorem Pm.list (h:Pm N p):p.toList.Perm (List.range N):=by
 have:=Array.perm_iff_toList_perm.mp h
 simpa using this
theorem a9K {k:Nat} (hk:k < p.size):at' p k=p.toList[k]'(by simpa using hk):=by
 unfold at'
 simp [Array.getD,hk]
theorem Pm.ltN (h:Pm N p) {k:Nat} (hk:k < N):at' p k < N:=by
 have hs:k < p.size:=by rw [h.size]; exact hk
 rw [a9K hs]
 exact List.mem_range.mp (h.list.mem_iff.mp (List.getElem_mem _))
def Bef (lt:Nat->Nat->Bool) (a b:Nat):Prop:=lt b a=false/\(lt a b=true \/ a < b)
theorem Weak.asym (W:Weak lt) {a b:Nat} (h:lt a b=true):lt b a=false:=by
 cases e:lt b a with
 | false=>rfl
 | true=>have:=W.tr _ _ _ h e; rw [W.irr] at this; cases this
theorem Bef.of (W:Weak lt) {a b:Nat} (h:lt a b=true):Bef lt a b:=⟨W.asym h,.inl h⟩
def Up (lt:Nat->Nat->Bool) (p:Array Nat) (k:Nat):Prop:=∀ u v,u < v->v < k->Bef lt (at' p u) (at' p v)
end
end Tim
namespace L2
open PySem PySem.Spec PySem.W PyProof.Rows Tim
noncomputable abbrev picked (vs:List Value) (p:Array Nat):List Value:=p.toList.map fun i=>vs.getD i Value.none
structure Cmp (prog:Program) (w:World) (s:Shared) (a:Addr) (vs:List Value) (lt:Nat->Nat->Bool) (κ:SortKind):Prop where
 wk:Weak lt
 kind:∀ (A:Around) (h:Heap) (Q:SortKind->Shared->Prop),(∀ b o,b ≠ a->s.heap.get? b=some o->h.get? b=some o)->Q κ { s with heap:=h }->wpAny (model prog w) A (keyKind' vs.toArray) Q (fun _ _=>False) { s with heap:=h }
 less:∀ (A:Around) (h:Heap) (i j:Nat) (C:Bool->Shared->Prop),(∀ b o,b ≠ a->s.heap.get? b=some o->h.get? b=some o)->i < vs.length->j < vs.length->i ≠ j->C (lt i j) { s with heap:=h } ->
  wpAny (model prog w) A (keyLt' κ (vs.getD i Value.none) (vs.getD j Value.none)) C (fun _ _=>False) { s with heap:=h }
section
variable {prog:Program} {w:World} {A:Around} {E:Value->Shared->Prop} {s:Shared}
theorem picked_id (vs:List Value):picked vs (List.toArray (List.range vs.length))=vs:=by
 apply List.ext_getElem?
 intro i
 by_cases h:i < vs.length
 ·simp [picked,h]
 ·simp [picked,h]
end
noncomputable def a7A:List Int->List Int->Bool
 | [],[]=>false
 | [],_ :: _=>true
 | _ :: _,[]=>false
 | a :: r,b :: t=>if a=b then a7A r t else decide (a < b)
theorem a8r:∀ a,a7A a a=false
 | []=>rfl
 | a :: r=>by rw [a7A,if_pos rfl]; exact a8r r
theorem a8q:∀ a b c,a7A a b=true->a7A b c=true->a7A a c=true
 | [],[],_,h,_=>by cases h
 | [],_ :: _,[],_,k=>by cases k
 | [],_ :: _,_ :: _,_,_=>rfl
 | _ :: _,[],_,h,_=>by cases h
 | _ :: _,_ :: _,[],_,k=>by cases k
 | a :: r,b :: t,c :: u,h,k=>by
  unfold a7A at h k ⊢
  by_cases e:a=b
  ·rw [if_pos e] at h
   subst e
   by_cases e2:a=c
   ·rw [if_pos e2] at k ⊢
    exact a8q r t u h k
   ·rw [if_neg e2] at k ⊢
    exact k
  ·rw [if_neg e] at h
   have h1:=of_decide_eq_true h
   by_cases e2:b=c
   ·subst e2
    rw [if_neg e]
    exact h
   ·rw [if_neg e2] at k
    have h2:=of_decide_eq_true k
    rw [if_neg (by ac_rfl)]
    exact decide_eq_true (by ac_rfl)
theorem a6m:∀ a b,a ≠ b->a7A a b=true \/ a7A b a=true
 | [],[],h=>absurd rfl h
 | [],_ :: _,_=>.inl rfl
 | _ :: _,[],_=>.inr rfl
 | a :: r,b :: t,h=>by
  unfold a7A
  by_cases e:a=b
  ·subst e
   rw [if_pos rfl,if_pos rfl]
   exact a6m r t fun z=>h (by rw [z])
  ·rw [if_neg e,if_neg (Ne.symm e)]
   rcases Int.lt_or_gt_of_ne e with z | z
   ·exact .inl (decide_eq_true z)
   ·exact .inr (decide_eq_true z)
theorem lexB_weak (f:Nat->List Int):Weak fun i j=>a7A (f i) (f j):=by
 refine ⟨fun a=>a8r _,fun a b c=>a8q _ _ _,fun a b c h=>?_⟩
 by_cases e:f a=f b
 ·exact .inr (by rw [<- e]; exact h)
 ·rcases a6m _ _ e with z | z
  ·exact .inl z
  ·exact .inr (a8q _ _ _ z h)
section
variable {prog:Program} {w:World} {A:Around} {s:Shared} {C:Bool->Shared->Prop} {fin:Bool}
theorem b1l:∀ (ns ms:List Int) (us vs ru rv:List Value) (i:Nat),IntsAre us ns->IntsAre vs ms->ns.length=ms.length->ns ≠ ms->C (a7A ns ms) s->KatLex prog w A true fin C ((us ++ ru).zip (vs ++ rv)) i s
 | [],[],_,_,_,_,_,_,_,_,n,_=>absurd rfl n
 | [],_ :: _,_,_,_,_,_,_,_,l,_,_=>by cases l
 | _ :: _,[],_,_,_,_,_,_,_,l,_,_=>by cases l
 | a :: r,b :: t,_,_,ru,rv,i,.cons _ x hu,.cons _ y hv,l,n,q=>by
  unfold a7A at q
  refine kat_cons (wpAny_eqBool_int (kat_go (fun e=>kat_yes ?_) fun e=>kat_no ?_))
  ·have e':a=b:=by simpa using e
   rw [if_pos e'] at q
   exact b1l r t _ _ ru rv (i + 1) hu hv (by simpa using l) (fun z=>n (by rw [e',z])) q
  ·have e':¬ a=b:=by simpa using e
   rw [if_neg e'] at q
   by_cases z:i=0
   ·rw [show (true && i == 0)=true by simp [z]]
    exact oneLt_int q
   ·rw [show (true && i == 0)=false by simp [z]]
    exact kat_one _ _ (lt_int q)
end
section
variable {X:Cx}
noncomputable abbrev SIt:=Addr × List Int × List V
theorem perm_of {α:Type} {N:Nat} {p:Array Nat} (P:Pm N p) (xs:List α) (hl:xs.length=N) (d:α):(p.toList.map fun i=>xs.getD i d).Perm xs:=by
 have e:(List.range N).map (fun i=>xs.getD i d)=xs:=by
  apply List.ext_getElem?
  intro i
  by_cases h:i < N
  ·simp [h,hl]
  ·simp [h,hl]
 have:=P.list.map fun i=>xs.getD i d
 rwa [e] at this
theorem a9N {α:Type} {N:Nat} {p:Array Nat} {lt:Nat->Nat->Bool} (P:Pm N p) (U:Up lt p N) (xs:List α) (d:α) (Rel:α->α->Prop) (hR:∀ i j,i < N->j < N->Bef lt i j->Rel (xs.getD i d) (xs.getD j d)):
  (p.toList.map fun i=>xs.getD i d).Pairwise Rel:=by
 rw [List.pairwise_map]
 rw [List.pairwise_iff_getElem]
 intro i j hi hj hij
 have si:i < p.size:=by simpa using hi
 have sj:j < p.size:=by simpa using hj
 have b:=U i j hij (by rw [<- P.size]; exact sj)
 rw [a9K si,a9K sj] at b
 have:=P.ltN (k:=i) (by rw [<- P.size]; exact si)
 have:=P.ltN (k:=j) (by rw [<- P.size]; exact sj)
 rw [a9K si] at *
 rw [a9K sj] at *
 exact hR _ _ (by assumption) (by assumption) b
end
end L2
namespace Z
open PySem PySem.Spec PyProof.Rows L2
section
variable {X:Cx} {e:Expr} {te:TEp} {pos:Pos}
def eDT:TEp:=fun _ Q=>Q (.nw (.dit []))
theorem q_dnewT:QE X (.Dict [] [] pos) eDT:=
 ⟨fun ρ Q Q' w q=>w _ q,fun HZ F=>a0T pe_dnewT fun σ H Q ⟨ρ,fr,q⟩ p hp=>q _ _ (a0r.new' hp) ⟨p,rfl,hp,0,[],a0E,.nil⟩⟩
noncomputable def putT (kvs:List (List Key × Dv)) (k:List Key) (d:Dv):List (List Key × Dv):=
 if kvs.any (fun kv=>decide (kv.1=k)) then kvs.map (fun kv=>if kv.1=k then (kv.1,d) else kv) else kvs ++ [(k,d)]
theorem RepT.any {K:W.Frag} {M:Addr->Prop} {H:Hp} {k:List Key} {xs:List (List Key × V)} {ds:List (List Key × Dv)} (r:RepT K M H xs ds):xs.any (fun kv=>decide (kv.1=k))=ds.any (fun kv=>decide (kv.1=k)):=
 r.ind (P:=fun xs ds=>xs.any (fun kv=>decide (kv.1=k))=ds.any (fun kv=>decide (kv.1=k))) rfl fun _ _ _ _ _ _ _ ih=>by rw [List.any_cons,List.any_cons,ih]
theorem RepT.len {K:W.Frag} {M:Addr->Prop} {H:Hp} {xs:List (List Key × V)} {ds:List (List Key × Dv)} (r:RepT K M H xs ds):xs.length=ds.length:=r.ind (P:=fun xs ds=>xs.length=ds.length) rfl fun _ _ _ _ _ _ _ ih=>congrArg (· + 1) ih
theorem RepT.snoc {K:W.Frag} {M:Addr->Prop} {H:Hp} {k:List Key} {x:V} {d:Dv} (a:Rep K M H x d) {xs:List (List Key × V)} {ds:List (List Key × Dv)} (r:RepT K M H xs ds):RepT K M H (xs ++ [(k,x)]) (ds ++ [(k,d)]):=
 r.ind (P:=fun xs ds=>RepT K M H (xs ++ [(k,x)]) (ds ++ [(k,d)])) (.cons a .nil) fun _ _ _ _ _ b _ ih=>.cons b ih
theorem RepT.repl {K:W.Frag} {M:Addr->Prop} {H:Hp} {k:List Key} {x:V} {d:Dv} (a:Rep K M H x d) {xs:List (List Key × V)} {ds:List (List Key × Dv)} (r:RepT K M H xs ds):
  RepT K M H (xs.map fun kv=>if kv.1=k then (kv.1,x) else kv) (ds.map fun kv=>if kv.1=k then (kv.1,d) else kv):=
 r.ind (P:=fun xs ds=>RepT K M H (xs.map fun kv=>if kv.1=k then (kv.1,x) else kv) (ds.map fun kv=>if kv.1=k then (kv.1,d) else kv)) .nil fun k' _ _ _ _ b _ ih=>by
  rw [List.map_cons,List.map_cons]
  by_cases e:k'=k
  ·rw [if_pos e,if_pos e]; exact .cons a ih
  ·rw [if_neg e,if_neg e]; exact .cons b ih
theorem RepT.put {K:W.Frag} {M:Addr->Prop} {H:Hp} {k:List Key} {x:V} {d:Dv} {xs:List (List Key × V)} {ds:List (List Key × Dv)} (r:RepT K M H xs ds) (a:Rep K M H x d):RepT K M H (b0S xs k x) (putT ds k d):=by
 unfold b0S putT
 rw [r.any (k:=k)]
 split
 ·exact r.repl a
 ·exact r.snoc a
def sPut (i:Nat) (tk tv:TEp):TSp:=fun E ρ=>match ρ[i]? with
 | some (.own a (.dit kvs))=>tv ρ fun r=>tk ρ fun kk=>∃ k:List Key,kk.d=.tup (k.map kD)/\(r.free=true/\kvs.length < LIM)/\E.nx (ρ.set i (.own a (.dit (putT kvs k r.d))))
 | _=>False
theorem q_put {i:Nat} {x:Str} {p1 p2:Pos} {k:Expr} {tk:TEp} (hu:X.A.units + 1 < cLine) (hv:PE X (.Name x p1) (tVar i)) (hk:QE X k tk) (he:QE X e te)
  (hs:swapsWith e (some (.Subscript (.Name x p1) k p2)) pos.line X.env=pure false:=by rfl):QS X (.Assign [.Subscript (.Name x p1) k p2] e pos) (sPut i tk te):=by
 refine ⟨fun E E' ρ w h=>?_,fun HZ F=>a1O (ps_dput hu hv (hk.run HZ F) (he.run HZ F) hs) fun D σ H ⟨ρ,E,fr,h,en⟩=>?_⟩
 ·unfold sPut at *
  split at h
  ·exact he.mono _ _ _ (fun r q=>hk.mono _ _ _ (fun kk ⟨k,a,b,c⟩=>⟨k,a,b,w.nx _ c⟩) q) h
  ·exact h
 ·unfold sPut at h
  split at h
  ·rename_i a kvs hx
   refine he.step fr h fun r y H1 q S1 r1=>?_
   have fr1:=fr.mono S1
   obtain ⟨hs1,ep,vs,hv1,rv1⟩:=fr1.sl i _ hx
   refine ⟨_,hs1,hk.step fr1 q fun kk z H2 q S2 rk=>?_⟩
   obtain ⟨ks,ek,⟨qf,ql⟩,q2⟩:=q
   have ck:=rk.c
   rw [ek] at ck
   obtain ⟨b,zs,rfl,eb,rb⟩:=ck.tup
   have ez:zs=ks.map kV:=rb.keys
   have rep:=(r1.rep (fun a m=>fr.dom m) qf).mono S2
   have hv2:=S2 _ _ hv1
   refine ⟨a,rfl,DPut.t hv2 (ez ▸ eb) (by rw [rv1.len]; exact b1k ql) fun ep2=>?_⟩
   refine en.nx _ _ _ ((fr1.mono S2).write (d':=.dit (putT kvs ks r.d)) hx ⟨_,_,a0E,?_⟩) q2
   have G:Gen X.K (MM F ρ) (MM F ρ) H2 (upd H2 a (.dT ep2 (b0S vs ks y))):=Gen.write (.inr ⟨_,List.mem_of_getElem? hx⟩) (by rw [hv2]; trivial)
   exact ((rv1.gen (.mono S2)).put rep).gen G
  ·exact h.elim
def sClear (i:Nat):TSp:=fun E ρ=>match ρ[i]? with
 | some (.own a (.lst _))=>E.nx (ρ.set i (.own a (.lst [])))
 | _=>False
def b0O (i:Nat):TSp:=fun E ρ=>match ρ[i]? with
 | some (.own a (.lst xs))=>E.nx (ρ.set i (.own a (.lst xs.reverse)))
 | _=>False
theorem perm_lift {α β:Type} {f:α->β} {zs ws:List β} (hp:zs.Perm ws):∀ {its:List α},its.map f=ws -> ∃ jts:List α,jts.Perm its/\zs=jts.map f:=by
 induction hp with
 | nil=>intro its hz; exact ⟨its,.refl _,hz.symm⟩
 | cons x p ih=>
  intro its hz
  cases its with
  | nil=>cases hz
  | cons t r=>
   rw [List.map_cons] at hz
   injection hz with h1 h2
   obtain ⟨j,hj,e⟩:=ih h2
   exact ⟨t :: j,hj.cons t,by rw [List.map_cons,h1,e]⟩
 | swap x y l=>
  intro its hz
  match its,hz with
  | t :: u :: r,hz=>
   simp only [List.map_cons,List.cons.injEq] at hz
   obtain ⟨h1,h2,h3⟩:=hz
   exact ⟨u :: t :: r,.swap _ _ _,by simp only [List.map_cons,h1,h2,h3]⟩
 | trans p1 p2 ih1 ih2=>
  intro its hz
  obtain ⟨j,hj,e⟩:=ih2 hz
  obtain ⟨j2,hj2,e2⟩:=ih1 e.symm
  exact ⟨j2,hj2.trans hj,e2⟩
end
end Z
namespace Z
open PySem PySem.Spec PyProof.Rows L2
theorem pAdd_ii {i j:Int} {Q:R->Prop}:(a1N (.int i) (.int j) Q)=(Q (.v (.int (i + j)))):=rfl
theorem pSub_ii {i j:Int} {Q:R->Prop}:(pSub (.int i) (.int j) Q)=(Q (.v (.int (i - j)))):=rfl
theorem pMul_ii {i j:Int} {Q:R->Prop}:(a5Y (.int i) (.int j) Q)=(a9L i j/\Q (.v (.int (i * j)))):=rfl
theorem pDiv_ii {i j:Int} {Q:R->Prop}:(a4v (.int i) (.int j) Q)=((0 < j/\j < 2 ^ 200)/\Q (.v (.int (i / j)))):=rfl
theorem b1e {i j:Int} {Q:R->Prop}:(pDivG (.int i) (.int j) Q)=((j ≠ 0/\j.natAbs < 2 ^ 4000)/\Q (.v (.int (i.fdiv j)))):=rfl
theorem pMod_ii {i j:Int} {Q:R->Prop}:(a3h (.int i) (.int j) Q)=(0 < j/\Q (.v (.int (i % j)))):=rfl
theorem b0Y {i j:Int} {Q:R->Prop}:(pModG (.int i) (.int j) Q)=(j ≠ 0/\Q (.v (.int (i.fmod j)))):=rfl
theorem pPow_ii {i j:Int} {Q:R->Prop}:(b0X (.int i) (.int j) Q)=(CPow i j/\Q (.v (.int (i ^ j.toNat)))):=rfl
theorem pAdd_ll {xs ys:List Dv} {Q:R->Prop}:(a1N (.lst xs) (.lst ys) Q)=((xs.length + ys.length<=LIM/\Q (.nw (.lst (xs ++ ys))))):=rfl
theorem pAdd_ss {x y:Str} {Q:R->Prop}:(a1N (.str x) (.str y) Q)=((x.length + y.length<=LIM/\Q (.v (.str (x ++ y))))):=rfl
theorem pMul_li {xs:List Dv} {k:Int} {Q:R->Prop}:(a5Y (.lst xs) (.int k) Q)=(((-(2 ^ 63)<=k/\k < 2 ^ 63/\xs.length * k.toNat<=LIM)/\Q (.nw (.lst (List.replicate k.toNat xs).flatten)))):=rfl
theorem pI2_ii {f:Int->Int->Bool} {i j:Int} {Q:R->Prop}:(pI2 f (.int i) (.int j) Q)=(Q (.v (.bl (f i j)))):=rfl
theorem pIsN_n {d:Dv} {Q:R->Prop}:(pIsN d .non Q)=(Q (.v (.bl (isN d)))):=rfl
theorem pNotN_n {d:Dv} {Q:R->Prop}:(pNotN d .non Q)=(Q (.v (.bl (!isN d)))):=rfl
theorem pIsB_b {d:Dv} {b:Bool} {Q:R->Prop}:(pIsB d (.bl b) Q)=(Q (.v (.bl (isB b d)))):=rfl
theorem pNotB_b {d:Dv} {b:Bool} {Q:R->Prop}:(pNotB d (.bl b) Q)=(Q (.v (.bl (!isB b d)))):=rfl
theorem pEq_ii {i j:Int} {Q:R->Prop}:(pEq (.int i) (.int j) Q)=(Q (.v (.bl (decide (i=j))))):=rfl
theorem pNe_ii {i j:Int} {Q:R->Prop}:(pNe (.int i) (.int j) Q)=(Q (.v (.bl (!decide (i=j))))):=rfl
theorem pEq_bl {x:Bool} {d:Dv} {Q:R->Prop}:(pEq (.bl x) d Q)=(((okD 8 (.bl x)=true/\okD 8 d=true)/\Q (.v (.bl (eqD (.bl x) d))))):=rfl
theorem pNe_bl {x:Bool} {d:Dv} {Q:R->Prop}:(pNe (.bl x) d Q)=(((okD 8 (.bl x)=true/\okD 8 d=true)/\Q (.v (.bl (!eqD (.bl x) d))))):=rfl
theorem pEq_tup {x:List Dv} {d:Dv} {Q:R->Prop}:(pEq (.tup x) d Q)=(((okD 8 (.tup x)=true/\okD 8 d=true)/\Q (.v (.bl (eqD (.tup x) d))))):=rfl
theorem pNe_tup {x:List Dv} {d:Dv} {Q:R->Prop}:(pNe (.tup x) d Q)=(((okD 8 (.tup x)=true/\okD 8 d=true)/\Q (.v (.bl (!eqD (.tup x) d))))):=rfl
theorem pEq_lst {x:List Dv} {d:Dv} {Q:R->Prop}:(pEq (.lst x) d Q)=(((okD 8 (.lst x)=true/\okD 8 d=true)/\Q (.v (.bl (eqD (.lst x) d))))):=rfl
theorem pNe_lst {x:List Dv} {d:Dv} {Q:R->Prop}:(pNe (.lst x) d Q)=(((okD 8 (.lst x)=true/\okD 8 d=true)/\Q (.v (.bl (!eqD (.lst x) d))))):=rfl
theorem pEq_str {x:Str} {d:Dv} {Q:R->Prop}:(pEq (.str x) d Q)=(((okD 8 (.str x)=true/\okD 8 d=true)/\Q (.v (.bl (eqD (.str x) d))))):=rfl
theorem pNe_str {x:Str} {d:Dv} {Q:R->Prop}:(pNe (.str x) d Q)=(((okD 8 (.str x)=true/\okD 8 d=true)/\Q (.v (.bl (!eqD (.str x) d))))):=rfl
theorem pEq_scr {x:List Int} {d:Dv} {Q:R->Prop}:(pEq (.scr x) d Q)=(((okD 8 (.scr x)=true/\okD 8 d=true)/\Q (.v (.bl (eqD (.scr x) d))))):=rfl
theorem pNe_scr {x:List Int} {d:Dv} {Q:R->Prop}:(pNe (.scr x) d Q)=(((okD 8 (.scr x)=true/\okD 8 d=true)/\Q (.v (.bl (!eqD (.scr x) d))))):=rfl
theorem pIx_l {xs:List Dv} {i:Int} {Q:R->Prop}:(pIx (.lst xs) (.int i) Q)=((match atI xs i with | some d=>Q (.v d) | none=>False)):=rfl
theorem pIx_t {xs:List Dv} {i:Int} {Q:R->Prop}:(pIx (.tup xs) (.int i) Q)=((match atI xs i with | some d=>Q (.v d) | none=>False)):=rfl
theorem pIx_s {ns:List Int} {i:Int} {Q:R->Prop}:(pIx (.scr ns) (.int i) Q)=((match atI ns i with | some n=>Q (.v (.int n)) | none=>False)):=rfl
theorem pSl_l {xs:List Dv} {lo hi:Option Int} {Q:R->Prop}:(pSl (.lst xs) lo hi Q)=(Q (.nw (.lst (cut xs lo hi)))):=rfl
theorem pSl_s {ns:List Int} {lo hi:Option Int} {Q:R->Prop}:(pSl (.scr ns) lo hi Q)=(Q (.nw (.lst ((cut ns lo hi).map .int)))):=rfl
theorem pSl_t {xs:List Dv} {lo hi:Option Int} {Q:R->Prop}:(pSl (.tup xs) lo hi Q)=((¬ (HT.sIx xs.length 0 lo=0/\HT.sIx xs.length xs.length hi=xs.length)/\Q (.v (.tup (cut xs lo hi))))):=rfl
theorem pLen_l {xs:List Dv} {Q:R->Prop}:(a4r [(.lst xs)] Q)=(Q (.v (.int xs.length))):=rfl
theorem pLen_t {xs:List Dv} {Q:R->Prop}:(a4r [(.tup xs)] Q)=(Q (.v (.int xs.length))):=rfl
theorem pLen_s {ns:List Int} {Q:R->Prop}:(a4r [.scr ns] Q)=(Q (.v (.int ns.length))):=rfl
theorem pAbs_i {i:Int} {Q:R->Prop}:(pAbs [.int i] Q)=(Q (.v (.int (if i < 0 then -i else i)))):=rfl
theorem pMin_i {i j:Int} {Q:R->Prop}:(pMin2 [.int i,.int j] Q)=(Q (.v (.int (if j < i then j else i)))):=rfl
theorem pMax_i {i j:Int} {Q:R->Prop}:(pMax2 [.int i,.int j] Q)=(Q (.v (.int (if j > i then j else i)))):=rfl
theorem b0W {xs:List Dv} {Q:R->Prop}:(a6E [.lst xs] Q)=(Q (.v (.tup xs))):=rfl
theorem b0V {xs:List Dv} {Q:R->Prop}:(a6E [.tup xs] Q)=(Q (.v (.tup xs))):=rfl
theorem pList_l {xs:List Dv} {Q:R->Prop}:(b0g [.lst xs] Q)=(Q (.nw (.lst xs))):=rfl
theorem pList_t {xs:List Dv} {Q:R->Prop}:(b0g [.tup xs] Q)=(Q (.nw (.lst xs))):=rfl
theorem pAll_l {ds:List Dv} {Q:R->Prop}:(pAll [.lst ds] Q)=((∃ bs:List Bool,ds=bs.map .bl/\Q (.v (.bl (bs.all _root_.id))))):=rfl
theorem pSum_l {ds:List Dv} {Q:R->Prop}:(pSum [.lst ds] Q)=((∃ ns:List Int,ds=ns.map .int/\Q (.v (.int ns.sum)))):=rfl
theorem Rd_v {d:Dv}:(R.d (.v d))=(d):=rfl
theorem Rd_n {d:Dv}:(R.d (.nw d))=(d):=rfl
theorem Rd_o {a:Addr} {d:Dv}:(R.d (.ow a d))=(d):=rfl
theorem Ro_v {d:Dv}:(R.out (.v d))=(.v d):=rfl
theorem Ro_n {d:Dv}:(R.out (.nw d))=(.nw d):=rfl
theorem Ro_o {a:Addr} {d:Dv}:(R.out (.ow a d))=(.nw d):=rfl
theorem Rf_v {d:Dv}:(R.free (.v d))=(true):=rfl
theorem Rf_n {d:Dv}:(R.free (.nw d))=(true):=rfl
theorem Rf_o {a:Addr} {d:Dv}:(R.free (.ow a d))=(false):=rfl
theorem Rl_v {d:Dv}:(R.flat (.v d))=(a5q d):=rfl
theorem Rl_n {d:Dv}:(R.flat (.nw d))=(flatO d):=rfl
theorem Rl_o {a:Addr} {d:Dv}:(R.flat (.ow a d))=(false):=rfl
theorem eqD_bb {a b:Bool}:(eqD (.bl a) (.bl b))=((a == b)):=by cases a <;> cases b <;> simp [eqD,pyD,PyData.eqv]
theorem a3b {ρ0:List Sl} {g:TGp} {tt:TTp} {te:TEp} {acc:List Dv} {Q:R->Prop}:(a1U ρ0 g tt te [] acc Q)=(Q (.nw (.lst acc))):=rfl
theorem a2x {ρ0:List Sl} {g:TGp} {tt:TTp} {te:TEp} {d:Dv} {r acc:List Dv} {Q:R->Prop}:(a1U ρ0 g tt te (d :: r) acc Q)=((g d ρ0 fun ρ1=>tt ρ1 fun b=>if b=true then te ρ1 fun v=>(v.free=true/\acc.length < LIM)/\a1U ρ0 g tt te r (acc ++ [v.d]) Q else a1U ρ0 g tt te r acc Q)):=rfl
theorem a2Q {α:Type} {xs:List α} {i:Int} (h0:0<=i) (h1:i < xs.length):atI xs i=xs[i.toNat]?:=by
 unfold atI ixN
 rw [if_pos h0,if_pos h1]
 rfl
theorem atI_0 {α:Type} {x:α} {r:List α}:atI (x :: r) 0=some x:=by rw [a2Q (by decide) (by simp <;> ac_rfl)]; rfl
theorem atI_1 {α:Type} {x y:α} {r:List α}:atI (x :: y :: r) 1=some y:=by rw [a2Q (by decide) (by simp <;> ac_rfl)]; rfl
theorem atI_2 {α:Type} {x y z:α} {r:List α}:atI (x :: y :: z :: r) 2=some z:=by rw [a2Q (by decide) (by simp <;> ac_rfl)]; rfl
theorem atI_3 {α:Type} {x y z w:α} {r:List α}:atI (x :: y :: z :: w :: r) 3=some w:=by rw [a2Q (by decide) (by simp <;> ac_rfl)]; rfl
theorem atI_4 {α:Type} {x y z w v:α} {r:List α}:atI (x :: y :: z :: w :: v :: r) 4=some v:=by rw [a2Q (by decide) (by simp <;> ac_rfl)]; rfl
theorem isB_bb {b c:Bool}:isB b (.bl c)=(c == b):=rfl
theorem isB_int {b:Bool} {i:Int}:isB b (.int i)=false:=rfl
theorem isN_n:isN .non=true:=rfl
theorem isN_b {b:Bool}:isN (.bl b)=false:=rfl
theorem isN_i {i:Int}:isN (.int i)=false:=rfl
theorem isN_s {i:Str}:isN (.str i)=false:=rfl
theorem isN_t {i:List Dv}:isN (.tup i)=false:=rfl
theorem isN_l {i:List Dv}:isN (.lst i)=false:=rfl
theorem isN_o {C:Addr} {i:List (Str × Dv)}:isN (.obj C i)=false:=rfl
theorem truD_b {b:Bool}:a8Q (.bl b)=some b:=rfl
theorem truD_n:a8Q .non=some false:=rfl
theorem truD_i {i:Int}:a8Q (.int i)=some (i != 0):=rfl
theorem truD_l {xs:List Dv}:a8Q (.lst xs)=some (!xs.isEmpty):=rfl
theorem truD_t {xs:List Dv}:a8Q (.tup xs)=some (!xs.isEmpty):=rfl
theorem truD_k {xs:List (Key × Dv)}:a8Q (.dik xs)=some (!xs.isEmpty):=rfl
theorem truD_s {xs:List Int}:a8Q (.scr xs)=some (!xs.isEmpty):=rfl
theorem ixN_10:ixN 1 0=some 0:=rfl
theorem ixN_20:ixN 2 0=some 0:=rfl
theorem ixN_21:ixN 2 1=some 1:=rfl
theorem ixN_30:ixN 3 0=some 0:=rfl
theorem ixN_31:ixN 3 1=some 1:=rfl
theorem ixN_32:ixN 3 2=some 2:=rfl
theorem ixN_40:ixN 4 0=some 0:=rfl
theorem ixN_41:ixN 4 1=some 1:=rfl
theorem ixN_42:ixN 4 2=some 2:=rfl
theorem ixN_43:ixN 4 3=some 3:=rfl
theorem ixN_50:ixN 5 0=some 0:=rfl
theorem ixN_51:ixN 5 1=some 1:=rfl
theorem ixN_52:ixN 5 2=some 2:=rfl
theorem ixN_53:ixN 5 3=some 3:=rfl
theorem ixN_54:ixN 5 4=some 4:=rfl
theorem a1q {lo:Int}:a0K lo 0=[]:=rfl
theorem a1a {lo:Int} {n:Nat}:a0K lo (n + 1)=.int lo :: a0K (lo + 1) n:=by
 unfold a0K
 rw [List.range_succ_eq_map,List.map_cons,List.map_map]
 congr 1
 ·simp
 ·apply List.map_congr_left
  intro k _
  show Dv.int _=Dv.int _
  congr 1
  show lo + ((k + 1:Nat):Int)=lo + 1 + k
  ac_rfl
theorem b1d {i j:Int} {Q:R->Prop}:(pIAdd (.int i) (.int j) Q)=(Q (.v (.int (i + j)))):=rfl
theorem b1b {i j:Int} {Q:R->Prop}:(pISub (.int i) (.int j) Q)=(Q (.v (.int (i - j)))):=rfl
theorem b1c {i j:Int} {Q:R->Prop}:(pIMul (.int i) (.int j) Q)=(a9L i j/\Q (.v (.int (i * j)))):=rfl
theorem cut_from {α:Type} {xs:List α} {k:Int} (h0:0<=k):cut xs (some k) none=xs.drop k.toNat:=by
 unfold cut
 have e:HT.sIx xs.length 0 (some k)=min k.toNat xs.length:=by show (if k < 0 then _ else _)=_; rw [if_neg (by ac_rfl)]
 rw [e,HT.b0Q]
 rcases Nat.le_total k.toNat xs.length with h | h
 ·rw [Nat.min_eq_left h]
  exact List.take_of_length_le (by rw [List.length_drop]; exact Nat.le_refl _)
 ·rw [Nat.min_eq_right h,List.drop_of_length_le (Nat.le_refl _),List.drop_of_length_le h,List.take_nil]
theorem cut_to {α:Type} {xs:List α} {k:Int} (h0:0<=k):cut xs none (some k)=xs.take k.toNat:=by
 unfold cut
 have e:HT.sIx xs.length xs.length (some k)=min k.toNat xs.length:=by show (if k < 0 then _ else _)=_; rw [if_neg (by ac_rfl)]
 rw [e,HT.b0Q,List.drop_zero,Nat.sub_zero]
 rcases Nat.le_total k.toNat xs.length with h | h
 ·rw [Nat.min_eq_left h]
 ·rw [Nat.min_eq_right h,List.take_of_length_le (Nat.le_refl _),List.take_of_length_le h]
theorem b0M {a:Addr} {N:List Str} {d:Dv} {ds:List Dv}:startM a N (d :: ds)=.own a d :: (ds.map .v ++ List.replicate (N.length - (ds.length + 1)) .un):=rfl
theorem pShl_ii {i j:Int} {Q:R->Prop}:(pShl (.int i) (.int j) Q)=(CPow i j/\Q (.v (.int (i * 2 ^ j.toNat)))):=rfl
theorem kD_inj:∀ {a b:List Key},a.map kD=b.map kD->a=b
 | [],[],_=>rfl
 | [],_ :: _,h=>by cases h
 | _ :: _,[],h=>by cases h
 | a :: r,b :: t,h=>by
  rw [List.map_cons,List.map_cons] at h
  injection h with h1 h2
  have e:a=b:=by cases a <;> cases b <;> first | (injection h1 with h1; rw [h1]) | cases h1
  rw [e,kD_inj h2]
theorem pIx_d2 {kvs:List (List Key × Dv)} {a b:Int} {Q:R->Prop}:(pIx (.dit kvs) (.tup [.int a,.int b]) Q)=(match kvs.find? (fun kv=>decide (kv.1=[Sum.inl a,Sum.inl b])) with | some kv=>Q (.v kv.2) | none=>False):=by
 apply propext
 constructor
 ·rintro ⟨k,e,h⟩
  have:k=[Sum.inl a,Sum.inl b]:=kD_inj (e.symm.trans rfl)
  subst this
  exact h
 ·exact fun h=>⟨[Sum.inl a,Sum.inl b],rfl,h⟩
theorem zc:(type_of% @beq_self_eq_true.{0})/\(type_of% @List.getElem?_cons_zero.{0})/\(type_of% @List.getElem?_cons_succ.{0})/\(type_of% @List.set_cons_zero.{0})/\(type_of% @List.set_cons_succ.{0})/\(type_of% @List.map_cons.{0,0})/\(type_of% @List.map_nil.{0,0})/\(type_of% @List.cons_append.{0})/\(type_of% @List.nil_append.{0})/\(type_of% @List.append_nil.{0})/\(type_of% @List.length_cons.{0})/\(type_of% @List.length_nil.{0})/\(type_of% @List.replicate_succ.{0})/\(type_of% @List.replicate_zero.{0})/\(type_of% @List.all_cons.{0})/\(type_of% @List.all_nil.{0})/\(type_of% @Option.getD_some.{0})/\(type_of% @Bool.and_true)/\(type_of% @Bool.true_and)/\(type_of% @if_true.{1})/\(type_of% @Bool.false_eq_true)/\(type_of% @if_false.{1})/\(type_of% @true_and)/\(type_of% @and_true)/\(type_of% @true_or)/\(type_of% @decide_eq_true_eq)/\(type_of% @decide_true)/\(type_of% @decide_false)/\(type_of% @Bool.not_true)/\(type_of% @Bool.not_false)/\(type_of% @List.not_mem_nil.{0})/\(type_of% @false_imp_iff)/\(type_of% @implies_true.{1}):=
 ⟨@beq_self_eq_true.{0},@List.getElem?_cons_zero.{0},@List.getElem?_cons_succ.{0},@List.set_cons_zero.{0},@List.set_cons_succ.{0},@List.map_cons.{0,0},@List.map_nil.{0,0},@List.cons_append.{0},@List.nil_append.{0},@List.append_nil.{0},@List.length_cons.{0},@List.length_nil.{0},@List.replicate_succ.{0},@List.replicate_zero.{0},@List.all_cons.{0},@List.all_nil.{0},@Option.getD_some.{0},@Bool.and_true,@Bool.true_and,@if_true.{1},@Bool.false_eq_true,@if_false.{1},@true_and,@and_true,@true_or,@decide_eq_true_eq,@decide_true,@decide_false,@Bool.not_true,@Bool.not_false,@List.not_mem_nil.{0},@false_imp_iff,@implies_true.{1}⟩
theorem zt:(type_of% @eDT.eq_1)/\(type_of% @sPut.eq_1)/\(type_of% @sClear.eq_1)/\(type_of% @b0O.eq_1)/\(type_of% @pIx_d2)/\(type_of% @eTR1.eq_1)/\(type_of% @pShl_ii)/\(type_of% @sExt.eq_1)/\(type_of% @a9Q.eq_1)/\(type_of% @eMake.eq_1)/\(type_of% @sMov.eq_1)/\(type_of% @b0u.eq_1)/\(type_of% @eFld.eq_1)/\(type_of% @a3N.eq_1)/\(type_of% @b0M)/\(type_of% @sAsg.eq_1)/\(type_of% @b1d)/\(type_of% @b1b)/\(type_of% @b1c)/\(type_of% @iRange3.eq_1)/\(type_of% @b1m.eq_1)/\(type_of% @iZipP.eq_1)/\(type_of% @eLR1.eq_1)/\(type_of% @eLR2.eq_1)/\(type_of% @a0z.eq_1)/\(type_of% @a1g.eq_1)/\(type_of% @sBreak.eq_1)/\(type_of% @sCont.eq_1)/\(type_of% @a1F.eq_1)/\(type_of% @sDrop.eq_1)/\(type_of% @a2F.eq_1)/\(type_of% @sRetN.eq_1)/\(type_of% @sIf.eq_1)/\(type_of% @a2a.eq_1)/\(type_of% @a5d.eq_1)/\(type_of% @sFrz.eq_1)/\(type_of% @freeze.eq_1)/\(type_of% @sAug.eq_1)/\(type_of% @sApp.eq_1)/\(type_of% @sSetI.eq_1)/\(type_of% @a7b.eq_1)/\(type_of% @a0e.eq_1)/\(type_of% @eC.eq_1)/\(type_of% @a0b.eq_1)/\(type_of% @a0m.eq_1)/\(type_of% @eOp.eq_1)/\(type_of% @a1n.eq_1)/\(type_of% @eAnd.eq_1)/\(type_of% @eOr.eq_1)/\(type_of% @a6T.eq_1)/\(type_of% @a6U.eq_1)/\(type_of% @eOrV.eq_1)/\(type_of% @eNotV.eq_1)/\(type_of% @eIf.eq_1)/\(type_of% @a4s.eq_1)/\(type_of% @a3P.eq_1)/\(type_of% @eNeg.eq_1)/\(type_of% @a7c.eq_1)/\(type_of% @a0B.eq_1)/\(type_of% @back.eq_1)/\(type_of% @eCB.eq_1)/\(type_of% @eIsi.eq_1)/\(type_of% @a4t.eq_1)/\(type_of% @a3D.eq_1)/\(type_of% @eSl.eq_1)/\(type_of% @a3i.eq_1)/\(type_of% @a1d.eq_1)/\(type_of% @b0q.eq_1)/\(type_of% @a2j.eq_1)/\(type_of% @a5I.eq_1)/\(type_of% @gN.eq_1)/\(type_of% @gT.eq_1)/\(type_of% @a0k.eq_1)/\(type_of% @a7I.eq_1)/\(type_of% @pAdd_ii)/\(type_of% @pSub_ii)/\(type_of% @pMul_ii)/\(type_of% @pDiv_ii)/\(type_of% @b1e)/\(type_of% @pMod_ii)/\(type_of% @b0Y)/\(type_of% @pPow_ii)/\(type_of% @pAdd_ll)/\(type_of% @pAdd_ss)/\(type_of% @pMul_li)/\(type_of% @pI2_ii)/\(type_of% @pIsN_n)/\(type_of% @pNotN_n)/\(type_of% @pIsB_b)/\(type_of% @pNotB_b)/\(type_of% @pEq_ii)/\(type_of% @pNe_ii)/\(type_of% @pEq_bl)/\(type_of% @pNe_bl)/\(type_of% @pEq_tup)/\(type_of% @pNe_tup)/\(type_of% @pEq_lst)/\(type_of% @pNe_lst)/\(type_of% @pEq_str)/\(type_of% @pNe_str)/\(type_of% @pEq_scr)/\(type_of% @pNe_scr)/\(type_of% @pIx_l)/\(type_of% @pIx_t)/\(type_of% @pIx_s)/\(type_of% @pSl_l)/\(type_of% @pSl_s)/\(type_of% @pSl_t)/\(type_of% @pLen_l)/\(type_of% @pLen_t)/\(type_of% @pLen_s)/\(type_of% @pAbs_i)/\(type_of% @pMin_i)/\(type_of% @pMax_i)/\(type_of% @b0W)/\(type_of% @b0V)/\(type_of% @pList_l)/\(type_of% @pList_t)/\(type_of% @pAll_l)/\(type_of% @pSum_l)/\(type_of% @a3b)/\(type_of% @a2x)/\(type_of% @a2O.eq_1):=
 ⟨@eDT.eq_1,@sPut.eq_1,@sClear.eq_1,@b0O.eq_1,@pIx_d2,@eTR1.eq_1,@pShl_ii,@sExt.eq_1,@a9Q.eq_1,@eMake.eq_1,@sMov.eq_1,@b0u.eq_1,@eFld.eq_1,@a3N.eq_1,@b0M,@sAsg.eq_1,@b1d,@b1b,@b1c,@iRange3.eq_1,@b1m.eq_1,@iZipP.eq_1,@eLR1.eq_1,@eLR2.eq_1,@a0z.eq_1,@a1g.eq_1,@sBreak.eq_1,@sCont.eq_1,@a1F.eq_1,@sDrop.eq_1,@a2F.eq_1,@sRetN.eq_1,@sIf.eq_1,@a2a.eq_1,@a5d.eq_1,@sFrz.eq_1,@freeze.eq_1,@sAug.eq_1,@sApp.eq_1,@sSetI.eq_1,@a7b.eq_1,@a0e.eq_1,@eC.eq_1,@a0b.eq_1,@a0m.eq_1,@eOp.eq_1,@a1n.eq_1,@eAnd.eq_1,@eOr.eq_1,@a6T.eq_1,@a6U.eq_1,@eOrV.eq_1,@eNotV.eq_1,@eIf.eq_1,@a4s.eq_1,@a3P.eq_1,@eNeg.eq_1,@a7c.eq_1,@a0B.eq_1,@back.eq_1,@eCB.eq_1,@eIsi.eq_1,@a4t.eq_1,@a3D.eq_1,@eSl.eq_1,@a3i.eq_1,@a1d.eq_1,@b0q.eq_1,@a2j.eq_1,@a5I.eq_1,@gN.eq_1,@gT.eq_1,@a0k.eq_1,@a7I.eq_1,@pAdd_ii,@pSub_ii,@pMul_ii,@pDiv_ii,@b1e,@pMod_ii,@b0Y,@pPow_ii,@pAdd_ll,@pAdd_ss,@pMul_li,@pI2_ii,@pIsN_n,@pNotN_n,@pIsB_b,@pNotB_b,@pEq_ii,@pNe_ii,@pEq_bl,@pNe_bl,@pEq_tup,@pNe_tup,@pEq_lst,@pNe_lst,@pEq_str,@pNe_str,@pEq_scr,@pNe_scr,@pIx_l,@pIx_t,@pIx_s,@pSl_l,@pSl_s,@pSl_t,@pLen_l,@pLen_t,@pLen_s,@pAbs_i,@pMin_i,@pMax_i,@b0W,@b0V,@pList_l,@pList_t,@pAll_l,@pSum_l,@a3b,@a2x,@a2O.eq_1⟩
theorem zo:(type_of% @Rd_v)/\(type_of% @Rd_n)/\(type_of% @Rd_o)/\(type_of% @Ro_v)/\(type_of% @Ro_n)/\(type_of% @Ro_o)/\(type_of% @Rf_v)/\(type_of% @Rf_n)/\(type_of% @Rf_o)/\(type_of% @Rl_v)/\(type_of% @Rl_n)/\(type_of% @Rl_o)/\(type_of% @eqD_bb)/\(type_of% @a0S)/\(type_of% @a0C)/\(type_of% @isB_bb)/\(type_of% @isB_int)/\(type_of% @isN_n)/\(type_of% @isN_b)/\(type_of% @isN_i)/\(type_of% @isN_s)/\(type_of% @isN_t)/\(type_of% @isN_l)/\(type_of% @isN_o)/\(type_of% @truD_b)/\(type_of% @truD_n)/\(type_of% @truD_i)/\(type_of% @truD_l)/\(type_of% @truD_t)/\(type_of% @truD_k)/\(type_of% @truD_s)/\(type_of% @atI_0)/\(type_of% @atI_1)/\(type_of% @atI_2)/\(type_of% @atI_3)/\(type_of% @atI_4)/\(type_of% @ixN_10)/\(type_of% @ixN_20)/\(type_of% @ixN_21)/\(type_of% @ixN_30)/\(type_of% @ixN_31)/\(type_of% @ixN_32)/\(type_of% @ixN_40)/\(type_of% @ixN_41)/\(type_of% @ixN_42)/\(type_of% @ixN_43)/\(type_of% @ixN_50)/\(type_of% @ixN_51)/\(type_of% @ixN_52)/\(type_of% @ixN_53)/\(type_of% @ixN_54):=
 ⟨@Rd_v,@Rd_n,@Rd_o,@Ro_v,@Ro_n,@Ro_o,@Rf_v,@Rf_n,@Rf_o,@Rl_v,@Rl_n,@Rl_o,@eqD_bb,@a0S,@a0C,@isB_bb,@isB_int,@isN_n,@isN_b,@isN_i,@isN_s,@isN_t,@isN_l,@isN_o,@truD_b,@truD_n,@truD_i,@truD_l,@truD_t,@truD_k,@truD_s,@atI_0,@atI_1,@atI_2,@atI_3,@atI_4,@ixN_10,@ixN_20,@ixN_21,@ixN_30,@ixN_31,@ixN_32,@ixN_40,@ixN_41,@ixN_42,@ixN_43,@ixN_50,@ixN_51,@ixN_52,@ixN_53,@ixN_54⟩
end Z
namespace Sf
structure Rw where
 x:Int
 y:Int
 m:Int
def Rw.up (r:Rw):Prop:=0 < r.y \/ (r.y=0/\0 < r.x)
noncomputable def crs (a b:Rw):Int:=a.x * b.y - b.x * a.y
noncomputable def place (v:Rw) (rows:List Rw):Nat:=rows.countP fun r=>decide (0 < crs r v)
def Srt (rows:List Rw):Prop:=rows.Pairwise fun a b=>0 < crs a b
structure Pre (s:Int) (rows:List Rw):Prop where
 srt:Srt rows
 ok:∀ r ∈ rows,r.up /\ -s<=r.x/\r.x<=s/\r.y<=s/\1<=r.m
noncomputable def many (rows:List Rw):Int:=(rows.map (·.m)).sum
structure Good (rows:List Rw):Prop where
 lo:2<=rows.length
 hi:rows.length<=6
 srt:Srt rows
 ok:∀ r ∈ rows,r.up /\ -999999999999<=r.x/\r.x<=999999999999/\r.y<=999999999999/\1<=r.m
 tot:many rows<=12
noncomputable def a0O:Nat->List Rw->List Int
 | _,[]=>[]
 | k,r :: rs=>List.replicate r.m.toNat (k:Int) ++ a0O (k + 1) rs
noncomputable abbrev a0F (rows:List Rw):List Int:=a0O 0 rows
end Sf
namespace L2
open PySem PySem.Spec PyProof.Rows
section
variable {D:Ends} {σ:St} {H:Hp} {Q:VK} {t u:TS} {te ta tb tc:TE} {g:TG} {K:W.Frag}
end
end L2
namespace Z
open PySem PySem.Spec PyProof.Rows L2
theorem start_low {K:W.Frag} {H:Hp} {a:Addr} {ns:List Int} {sp:Fn} (h:∀ Q:R->Prop,Q (.v (.bl true))->sp [.scr ns] Q) (hO:Only H) (hT:TabOk K H) (hS:SqL K H a (ns.map V.int)):low K sp [.ref a] H (fun v _=>v=.bl true) (fun _ _ _=>False):=by
 refine ⟨fun _=>False,[.scr ns],⟨fun _ z=>z.elim,hT⟩,.cons (.scr ?_) .nil,h _ fun x H' S r=>?_⟩
 ·rcases hS with (h | h) | h
  ·rcases hO a with z | ⟨o,xs,z⟩
   ·rw [z] at h; cases h
   ·rw [z] at h; cases h
  ·exact .inl h
  ·exact .inr h
 ·have r':Rep K (fun _=>False) H' x (.bl true):=r
  cases r'
  rfl
end Z
namespace L2
open PySem PySem.Spec PyProof.Rows
section
variable {P:Program} {w:World} {K:W.Frag} {H H':Hp} {h h':Heap} {a C:Addr}
theorem a1K.at {o:HO} (x:a1K P w H h a o):∃ ob,h.get? a=some ob:=by
 cases o with
 | lst xs=>obtain ⟨_,_,_,_,e⟩:=x; exact ⟨_,e⟩
 | tup xs=>obtain ⟨_,_,_,_,e,_⟩:=x; exact ⟨_,e⟩
 | dK kvs=>obtain ⟨_,_,_,_,o,_,_,e,_⟩:=x; exact ⟨_,e⟩
 | dT ep kvs=>obtain ⟨_,_,_,_,o,_,e,_⟩:=x; exact ⟨_,e⟩
 | set S n=>obtain ⟨o,_,_,_,e,_⟩:=x; exact ⟨_,e⟩
 | ins C dx fs=>obtain ⟨_,_,_,e,_⟩:=x; exact ⟨_,e⟩
 | own y=>exact x
 | xd fs=>obtain ⟨_,⟨_,_,_,e,_⟩,_⟩:=x; exact ⟨_,e⟩
 | lam q=>obtain ⟨_,e,_⟩:=x; exact ⟨_,e⟩
 | cod q=>obtain ⟨_,_,_,_,e,e2,_⟩:=x; cases e; exact ⟨_,e2⟩
 | rng lo hi=>obtain ⟨_,_,_,e⟩:=x; exact ⟨_,e⟩
 | frz ob u=>obtain ⟨e,_⟩:=x; exact ⟨_,e⟩
 | tbl ps=>exact ⟨_,(show h.get? a=some _ from x)⟩
 | met f y=>exact ⟨_,(show h.get? a=some _ from x)⟩
 | ext φ=>obtain ⟨_,e,_⟩:=x; exact e
theorem HOk.out (x:HOk P w H h) (e:h.get? a=none):H a=none:=by
 cases q:H a with
 | none=>rfl
 | some u=>
  obtain ⟨o,z⟩:=(x a u q).at
  rw [e] at z
  cases z
noncomputable abbrev exRow:List Value:=[.type "ValueError",.type "Exception",.type "BaseException",.type "object"]
def ExcC (K:W.Frag) (C:Addr):Prop:=W.excIn K C exRow "ValueError.__new__" = true
theorem ExcC.cls (X:K.In h) (q:ExcC K C):∃ bm N nm qn bs hd sn sub ab col dd k0 k1 k2 k3 k5 mN,
  h.get? C=some (excClassObj nm qn C N bs bm hd sn sub ab col dd k0 k1 k2 k3 k5 "ValueError.__new__")/\h.Ns N mN/\mN "__init__" = none/\OwnTail h exRow bm:=by
 unfold ExcC W.excIn at q
 split at q
 ·rename_i dd cd sl ho
  split at q
  ·rename_i C1 bm a0 a1 a2 a3 n a5 hm hs
   rw [Bool.and_eq_true,Bool.and_eq_true,Bool.and_eq_true,Bool.and_eq_true,Bool.and_eq_true] at q
   obtain ⟨⟨⟨⟨⟨e1,e2⟩,e3⟩,e4⟩,e5⟩,e6⟩:=q
   cases beq_iff_eq.mp e1
   cases beq_iff_eq.mp e2
   cases cd with
   | mk nm bs mro ns qn hd sn sub ab col del=>
    dsimp only at hm e3 e5 e6
    cases hm
    have dz:del=false:=by cases del <;> simp_all
    cases dz
    cases sl with
    | mk l=>
     dsimp only at hs
     cases hs
     exact ⟨bm,ns,nm,qn,bs,hd,sn,sub,ab,col,dd,a0,a1,a2,a3,a5,_,X _ _ ho,.of_isNs (W.isNs_of_in X e5),W.nsMap_none_of_in X e5 (beq_iff_eq.mp e6),W.tail_of_in X e4⟩
  ·cases q
 ·cases q
end
noncomputable def CX1 (P:Program) (w:World):CXT:=fun outer H s E e s'=>∃ (a:Addr) (o:Obj) (C:Addr) (H':Hp) (B:Heap),e=.ref a/\s'.os=s.os/\AllBare s'.gens/\Un (frs outer) [] H H' s.heap s'.heap/\HOk P w H' s'.heap /\
 Fly B outer a o .none s'.heap/\(∀ b o,s'.heap.get? b=some o->b ∉ frs outer->(H' b ≠ none \/ ∃ u,s.heap.get? b=some u)->B.get? b=some o)/\s.heap.get? a=none/\H' a=none/\E (.ref C) o.dict H'/\o.cls=.ref C/\a7k o
section
variable {P:Program} {w:World} {fs:List Addr} {H H':Hp} {h0 h1 h2 B:Heap}
theorem Un.fly (u:Un fs [] H H' h0 h1) (k:∀ b o,h1.get? b=some o->b ∉ fs->(H' b ≠ none \/ ∃ u,h0.get? b=some u)->B.get? b=some o) (hB:B.StaysIn h2)
  (sl:∀ b ∈ fs,∀ o,h1.get? b=some o -> ∃ z,h2.get? b=some { o with slots:=z }):Un fs [] H H' h0 h2 where
 keep:=fun b o e n hb hx=>hB b o (k b o (u.keep b o e n hb hx) hb (.inr ⟨_,e⟩))
 slot:=fun b o e n hb hx=>by
  obtain ⟨z,q⟩:=u.slot b o e n hb hx
  obtain ⟨z',q'⟩:=sl b hb _ q
  exact ⟨z',q'⟩
 free:=u.free
 there:=fun b o e hx=>by
  obtain ⟨o',q⟩:=u.there b o e hx
  by_cases hb:b ∈ fs
  ·obtain ⟨z,q'⟩:=sl b hb _ q
   exact ⟨_,q'⟩
  ·exact ⟨_,hB b o' (k b o' q hb (.inr ⟨_,e⟩))⟩
 tups:=u.tups
 frzs:=u.frzs
 tbls:=u.tbls
theorem HOk.fly (x:HOk P w H' h1) (nf:∀ b ∈ fs,H' b=none) (k:∀ b o,h1.get? b=some o->b ∉ fs->(H' b ≠ none \/ ∃ u,h0.get? b=some u)->B.get? b=some o) (hB:B.StaysIn h2):HOk P w H' h2:=fun b o e=>
 (x b o e).stay (fun c v hc q=>by
  have hn:H' c ≠ none:=by
   rcases hc with z | z
   ·rw [z,e]; simp
   ·rw [z]; simp
  exact hB c v (k c v q (fun m=>hn (nf c m)) (.inl hn))) (fun _ q=>q) (fun _ _ q=>q) fun _ _ q=>q
end
section
variable {P:Program} {w:World} {K:W.Frag} {mg:Str->Option Value} {base:Heap} {N:List Str} {qual:Str} {scope:Scope} {f:Addr} {cd:Value} {A:Around} {outer:List Env} {s0:Shared} {H0:Hp} {E:XK}
theorem xe_made {pins:List (Addr × Obj)} {σ:St} {H:Hp} {s:Shared} {h':Heap} {a C:Addr} {us:List Value} (I:Inv (a1x (CX1 P w) P w K mg base N qual scope f cd A outer s0 H0 E) pins σ H s) (m:Heap.MadeExcOf s.heap h' a (.ref C) us)
  (hE:E (.ref C) none H):(a1x (CX1 P w) P w K mg base N qual scope f cd A outer s0 H0 E).xe (.ref a) { s with heap:=h' }:=by
 have hin:∀ env ∈ (a1x (CX1 P w) P w K mg base N qual scope f cd A outer s0 H0 E).stack,∀ b,env.frame=some b->b ∈ frs (a1x (CX1 P w) P w K mg base N qual scope f cd A outer s0 H0 E).stack:=fun env he b hb=>List.mem_filterMap.mpr ⟨env,he,hb⟩
 obtain ⟨t,ge,_,_⟩:=m.there
 have nb:(W.hideAll s.heap (frs (a1x (CX1 P w) P w K mg base N qual scope f cd A outer s0 H0 E).stack)).get? a=none:=by
  cases q:(W.hideAll s.heap (frs (a1x (CX1 P w) P w K mg base N qual scope f cd A outer s0 H0 E).stack)).get? a with
  | none=>rfl
  | some o'=>
   have:=W.of_hideAll _ q
   rw [m.new] at this
   cases this
 refine fly_made (base:=W.hideAll s.heap (frs (a1x (CX1 P w) P w K mg base N qual scope f cd A outer s0 H0 E).stack)) I.ok.frames ((W.funFrames_hide I.stack hin).of_keeps fun b o hb _=>⟨o,m.keeps b o hb,rfl⟩) rfl (fun b o q=>m.keeps b o (W.of_hideAll _ q)) nb ge rfl rfl fun h2 x1 x4=>?_
 have fs:∀ b,b ∈ frs (a1x (CX1 P w) P w K mg base N qual scope f cd A outer s0 H0 E).stack->b=(envOfC qual scope s0.heap.objs.size f cd).locals \/ b ∈ frs outer:=fun b hb=>List.mem_cons.mp (I.stkSub b hb)
 have k1:∀ b o,s.heap.get? b=some o->b ∉ frs outer->(H b ≠ none \/ ∃ u,s0.heap.get? b=some u)->(W.hideAll s.heap (frs (a1x (CX1 P w) P w K mg base N qual scope f cd A outer s0 H0 E).stack)).get? b=some o:=fun b o e nb hc=>by
  refine W.hideAll_get _ e fun hm=>?_
  rcases fs b hm with z | z
  ·rcases hc with hc | ⟨u,hu⟩
   ·exact hc (I.stkFree b hm)
   ·have:b < s0.heap.objs.size:=Heap.lt_size hu
    have h2:s0.heap.objs.size<=b:=by rw [z]; exact I.ok.above
    exact absurd (Nat.lt_of_lt_of_le this h2) (Nat.lt_irrefl _)
  ·exact nb z
 have sl:∀ b ∈ frs outer,∀ o,s.heap.get? b=some o -> ∃ z,h2.get? b=some { o with slots:=z }:=fun b hb o e=>by
  obtain ⟨_,o',q,nf⟩:=I.funs.mem hb
  rw [e] at q
  cases q
  exact x4 b o (m.keeps b o e) nf
 refine ⟨a,_,C,H,_,rfl,I.os,I.bare,Un.fly I.base k1 x1.st sl,HOk.fly (fs:=frs outer) I.hok (fun b hb=>?_) k1 x1.st,x1,fun b o e nb hc=>?_,?_,I.hok.out m.new,hE,rfl,⟨_,rfl,rfl⟩⟩
 ·obtain ⟨_,o,q,_⟩:=I.ok.funs.mem hb
  exact I.base.free b o q (I.ok.frf b hb) (fun z=>nomatch z)
 ·have:∃ o',s.heap.get? b=some o':=by
   rcases hc with hc | ⟨u,hu⟩
   ·cases q:H b with
    | none=>exact (hc q).elim
    | some v=>exact (I.hok b v q).at
   ·exact I.base.there b u hu (fun z=>nomatch z)
  obtain ⟨o',q⟩:=this
  have q1:=k1 b o' q nb hc
  have q2:=x1.st b o' q1
  rw [e] at q2
  cases q2
  exact q1
 ·cases q:s0.heap.get? a with
  | none=>rfl
  | some o=>
   obtain ⟨o',q'⟩:=I.base.there a o q (fun z=>nomatch z)
   rw [m.new] at q'
   cases q'
end
section
variable {X:Cx} {x:Str} {C:Addr} {e:Expr} {es:List Expr} {t:TA} {np cpos pos:Pos}
theorem ps_raise {Ψ:Hp->Prop} (hh:X.A.handled=none) (hm:X.mg x=some (.ref C)) (hg:Gl X x) (q:ExcC X.K C) (ha:PA X (e :: es) t)
  (hx:∀ (pins:List (Addr × Obj)) (σ:St) (H:Hp) (s:Shared) (h':Heap) (a:Addr) (us:List Value),Inv X pins σ H s->Heap.MadeExcOf s.heap h' a (.ref C) us->Ψ H->X.xe (.ref a) { s with heap:=h' })
  (hdb:(x == ("__debug__" : Str))=false:=by decide) (he:starEach (e :: es) X.env=(false,eval e X.env) :: starEach es X.env:=by rfl) (hpl:(backTo cpos (starEach es X.env)).any (·.1)=false:=by rfl):
  PS X (.Raise (some (.Call (.Name x np) (e :: es) [] cpos)) none pos) (fun _ σ H=>t σ H fun vs H1=>vs.length<=sizeLine/\Ψ H1):=by
 intro pins s σ H D I h
 obtain ⟨bm,N,nm,qn,bs,hd,sn,sub,ab,col,dd,a0,a1,a2,a3,a5,mN,c1,c2,c3,c4⟩:=q.cls I.ok.mod.kin
 refine wpAny_Raise_call_subT (N:=N) (bm:=bm) (C:=C) (q:=qn) (nm:=nm) (bs:=bs) (sn:=sn) (hdct:=hd) (sub:=sub) (col:=col) (ab:=ab) (dd:=dd) (k5:=a5) (k0:=a0) (k1:=a1) (k2:=a2) (k3:=a3) PySem.F.excBase_ValueError (mN:=mN) (c4.hasType rfl) hh ?_ c3 (a4d I hg hm ⟨rfl,?_⟩ hdb)
 ·rw [he]
  show (false || (backTo cpos (starEach es X.env)).any (·.1))=false
  rw [hpl]
  rfl
 ·have h1:=ha cpos pins s σ H _ I h
  rw [he] at h1 ⊢
  refine Calls.evalArgs_plain (wpAny_mono h1 (fun us s1 z=>?_) fun _ _ z=>z)
  obtain ⟨vs,H1,I1,r,l,p⟩:=z
  exact ⟨rfl,by rw [<- r.length]; exact l,I1.bk _ _ c1,c2.keeps I1.bk,c4.keeps I1.bk,fun h' a m=>hx pins σ H1 s1 h' a us I1 m p⟩
end
end L2
namespace L2
open PySem PySem.Spec PyProof.Rows
noncomputable abbrev Cx.inx (X:Cx) (a:Addr):Cx:={ X with A:=X.A.mark (some (.ref a)),calm:=false,xe:=fun _ _=>False,hs:=a :: X.hs }
section
variable {X:Cx} {pins:List (Addr × Obj)} {σ:St} {H:Hp} {s:Shared} {a:Addr}
theorem Cx.Ok.inx (ok:X.Ok) (a:Addr):(X.inx a).Ok:=
 ⟨ok.mod,ok.kind,ok.glob,ok.blt,ok.above,ok.inj,ok.has,ok.cab,(fun z=>nomatch z),ok.frames,ok.stk,ok.exf,ok.bs,ok.bsz,ok.noex,ok.exfs,ok.funs,ok.frf,.inr ⟨a,List.mem_cons_self,rfl⟩⟩
theorem Inv.inx (I:Inv X pins σ H s) (a:Addr) (m:∃ o u,H a=some (.frz o u)/\a7k o):Inv (X.inx a) pins σ H s:=⟨I.ok.inx a,I.os,I.bare,I.base,I.loc,I.cell,I.free,I.freeC,I.pin,I.hok,I.len,fun b hb=>(List.mem_cons.mp hb).elim (fun e=>e ▸ m) (I.mild b)⟩
theorem Inv.outx (ok:X.Ok) (I:Inv (X.inx a) pins σ H s):Inv X pins σ H s:=⟨ok,I.os,I.bare,I.base,I.loc,I.cell,I.free,I.freeC,I.pin,I.hok,I.len,fun b hb=>I.mild b (List.mem_cons_of_mem _ hb)⟩
theorem Inv.goes {M:Model} {A:Around} {E:Value->Shared->Prop} {Q:Unit->Shared->Prop} {n:Str} {i:Nat} {pos:Pos} (I:Inv X pins σ H s) (hN:X.N.Nodup) (hi:X.N[i]?=some n) (hk:X.env.scope.names.lookup n=some .local)
  (h:∀ s',Inv X pins (σ.set i none) H s'->Q () s'):wpAny M A (do bindName X.env n .none; unbindBehindTheSuite X.env n pos) Q E s:=by
 obtain ⟨m,hn,hl⟩:=id I.loc
 have hcls:(X.env.scope.kind == .class || (X.env.scope.kind == .module && X.env.locals != X.env.globals))=false:=by rw [I.ok.kind]; rfl
 refine wpAny_nameGoes_keeps hk hn hcls fun h' v hn' hs=>h _ ?_
 have old:∀ b o,X.s₀.heap.get? b=some o->h'.get? b=s.heap.get? b:=fun b o e=>hs.2 b (Nat.ne_of_lt (Nat.lt_of_lt_of_le (Heap.lt_size e) I.ok.above))
 refine ⟨I.ok,I.os,I.bare,⟨fun b o e n hb hx=>?_,fun b o e n hb hx=>?_,I.base.free,fun b o e hx=>?_,I.base.tups,I.base.frzs,I.base.tbls⟩,⟨_,hn',fun j y v' e1 e2 e3=>?_⟩,fun y c e=>?_,I.free,I.freeC,fun p hp=>?_,fun b ob e=>?_,by simpa using I.len,I.mild⟩
 ·exact (old b o e).trans (I.base.keep b o e n hb hx)
 ·obtain ⟨sl,q⟩:=I.base.slot b o e n hb hx
  exact ⟨sl,(old b o e).trans q⟩
 ·obtain ⟨o',q⟩:=I.base.there b o e hx
  exact ⟨o',(old b o e).trans q⟩
 ·have ne:i ≠ j:=fun z=>by
   subst z
   by_cases hl2:i < σ.length
   ·rw [List.getElem?_set_self hl2] at e2; cases e2
   ·rw [List.getElem?_eq_none (by simpa using Nat.le_of_not_lt hl2)] at e2; cases e2
  rw [List.getElem?_set_ne ne] at e2
  obtain ⟨u,r,q⟩:=hl j y v' e1 e2 e3
  have yn:y ≠ n:=fun z=>ne (a8l hN hi (z ▸ e1))
  refine ⟨u,r,?_⟩
  rcases q with ⟨k,q⟩ | ⟨k,c,q,z⟩
  ·exact .inl ⟨k,by simp [yn,q]⟩
  ·exact .inr ⟨k,c,q,z.sameBut hs (I.cne y c q)⟩
 ·obtain ⟨w',z⟩:=I.cell y c e
  exact ⟨w',z.sameBut hs (I.cne y c e)⟩
 ·obtain ⟨e,q,ne,nf,d⟩:=I.pin p hp
  exact ⟨(hs.2 p.1 ne).trans e,q,ne,nf,d⟩
 ·refine (I.hok b ob e).stay (fun c w' hc q=>(hs.2 c ?_).trans q) (fun _ q=>q) (fun _ _ q=>q) fun _ _ q=>q
  rintro rfl
  rcases hc with rfl | hc
  ·rw [I.free] at e; cases e
  ·rw [I.free] at hc; cases hc
end
section
variable {X:Cx} {pins:List (Addr × Obj)} {σ:St} {H1:Hp} {s1 s2:Shared} {E:XK} {e:Value} {D:Ends}
noncomputable abbrev Ends.goes (D:Ends) (i:Nat):Ends:={ nx:=fun σ H=>D.nx (σ.set i none) H,rt:=D.rt,bk:=fun σ H=>D.bk (σ.set i none) H,ct:=fun σ H=>D.ct (σ.set i none) H }
theorem caught {c n:Str} {i:Nat} {b0:Stmt} {hb:List Stmt} {hpos np:Pos} {rest:List ExceptHandler} {th:TS} {C0 C1:Addr} (I1:Inv X pins σ H1 s1) (cx:CX1 X.prog X.w X.stack H1 s1 E e s2)
  (hN:X.N.Nodup) (hi:X.N[i]?=some n) (hk:X.env.scope.names.lookup n=some .local) (hst:X.stack=X.env :: X.outer) (hfr:X.env.frame=some X.env.locals) (hg:Gl X c) (hm:X.mg c=some (.ref C1))
  (hx:W.exmOne X.K (.ref C0) (.ref C1)=some true)
  (hE:∀ C dd H',E (.ref C) dd H'->C=C0 /\ ∀ a o,H' a=none->o.cls=.ref C0->o.dict=dd->a7k o->th (D.goes i) (σ.set i (some (.ref a))) (upd H' a (.frz o (.own a))))
  (hbody:∀ a,PSs (X.inx a) (b0 :: hb) th) (hdb:(c == ("__debug__" : Str))=false:=by decide):
  wpAny (model X.prog X.w) X.A (noteFrame e X.env) (fun _ s3=>wpAny (model X.prog X.w) X.A (setFlight e none) (fun _ s4=>
   wpAny (model X.prog X.w) X.A (handleBy e X.env (.ExceptHandler (some (.Name c np)) (some n) (b0 :: hb) hpos :: rest)) (SP X pins D) X.xe s4) X.xe s3) X.xe s2:=by
 obtain ⟨a,o0,C,H',B,rfl,os,bare,un,hok,fl,k,na,nH,hE',hc0,hm0⟩:=cx
 obtain ⟨rfl,go⟩:=hE C _ H' hE'
 have ff:X.A.frames=some (X.env :: X.outer):=by rw [<- hst]; exact I1.ok.frames
 have nfr:∀ b ∈ frs X.stack,H' b=none:=fun b hb=>by
  obtain ⟨_,o,q,_⟩:=I1.stack.mem hb
  exact un.free b o q (I1.stkFree b hb) (fun z=>nomatch z)
 have sl:∀ {h:Heap},s2.heap.UpToSlots h -> ∀ b ∈ frs X.stack,∀ o,s2.heap.get? b=some o -> ∃ z,h.get? b=some { o with slots:=z }:=fun {h} u b hb o e=>by
  obtain ⟨_,o1,q,nf⟩:=I1.stack.mem hb
  obtain ⟨z,q2⟩:=un.slot b o1 q (I1.stkFree b hb) hb (fun z=>nomatch z)
  rw [e] at q2
  cases q2
  exact u b _ e nf
 have inv:∀ h,B.StaysIn h->s2.heap.UpToSlots h->Inv X pins σ H' { s2 with heap:=h }:=fun h hB u=>
  I1.call' os (un.fly k hB (sl u)) (HOk.fly hok nfr k hB) bare (fun _ z=>nomatch z)
 rw [hst] at fl
 refine b1o ff hfr fl fun h4 hl4 u4=>?_
 refine a5p hl4 fun h5 hl5 u5=>?_
 have I5:=inv h5 hl5.st (u4.trans u5)
 obtain ⟨o5,he5,lk5⟩:=hl5.there
 have hc5:o5.cls=.ref C:=lk5.cls.trans hc0
 have nu:∀ b u,H' b=some u->b ≠ a:=fun b u e z=>by rw [z,nH] at e; cases e
 have invx:∀ h oh,B.StaysIn h->s2.heap.UpToSlots h->h.get? a=some oh->Inv X pins σ (upd H' a (.frz oh (.own a))) { s2 with heap:=h }:=fun h oh hB u g=>by
  have un6:=un.fly k hB (sl u)
  refine I1.call' os (ch:=[]) ⟨un6.keep,un6.slot,fun b o e n hx=>?_,un6.there,fun b xs e=>?_,fun b o u e=>?_,fun b ps e=>?_⟩ (fun b u' e=>?_) bare (fun _ z=>nomatch z)
  ·rw [a0w (fun z=>by rw [z,na] at e; cases e)]
   exact un6.free b o e n hx
  ·rw [a0w (nu b _ (un6.tups b xs e))]
   exact un6.tups b xs e
  ·rw [a0w (nu b _ (un6.frzs b o u e))]
   exact un6.frzs b o u e
  ·obtain ⟨m,q⟩:=un6.tbls b ps e
   exact ⟨m,by rw [a0w (nu b _ q)]; exact q⟩
  ·by_cases hb:b=a
   ·subst hb
    rw [a0E] at e
    cases e
    exact ⟨g,_,g⟩
   ·rw [a0w hb] at e
    exact ((inv h hB u).hok b u' e).stay (fun _ _ _ q=>q) (fun c q=>by rw [a0w (nu c _ q)]; exact q) (fun c xs q=>by rw [a0w (nu c _ q)]; exact q) fun c xs q=>by rw [a0w (nu c _ q)]; exact q
 have I5x:=(invx h5 o5 hl5.st (u4.trans u5) he5).inx a ⟨o5,_,a0E,lk5.mild hm0⟩
 refine wpAny_handleBy_cons (codeAny_handlers_test (a4d (X:=X.inx a) I5x hg hm ?_ hdb)) (fun z=>nomatch z)
 have LT:W.Looks (model X.prog X.w) h5 (typeOf (.ref a)) (.ref C):=hc5 ▸ (W.Looks.ld he5).andThen .now
 refine (W.exm_one I5.kIn LT hx).here (codeAny_handlers_suite_as ?_)
 refine a5p hl5 fun h6 hl6 u6=>?_
 obtain ⟨o6,he6,lk6⟩:=hl6.there
 have hc6:o6.cls=.ref C:=lk6.cls.trans hc0
 have I7:=invx h6 o6 hl6.st ((u4.trans u5).trans u6) he6
 refine a5a (X:=X.inx a) (v:=.ref a) (I7.inx a ⟨o6,_,a0E,lk6.mild hm0⟩) hN hi (.inl hk) rfl (fun s7 I8=>?_) (.inr hk)
 refine wpAny_mono (hbody a pins s7 _ _ (D.goes i) I8 (go a o6 nH hc6 lk6.dict (lk6.mild hm0))) (fun f s8 q=>?_) fun _ _ z=>z.elim
 cases f with
 | next=>
  obtain ⟨σ',H'',I9,q⟩:=q
  exact (I9.outx I1.ok).goes hN hi hk fun s9 I10=>⟨_,_,I10,q⟩
 | brk=>
  obtain ⟨σ',H'',I9,q⟩:=q
  exact (I9.outx I1.ok).goes hN hi hk fun s9 I10=>⟨_,_,I10,q⟩
 | cont=>
  obtain ⟨σ',H'',I9,q⟩:=q
  exact (I9.outx I1.ok).goes hN hi hk fun s9 I10=>⟨_,_,I10,q⟩
 | ret u=>
  obtain ⟨v,σ',H'',I9,r,q⟩:=q
  exact (I9.outx I1.ok).goes hN hi hk fun s9 I10=>⟨v,_,_,I10,r,q⟩
end
section
variable {X:Cx} {k:Nat} {f:Addr} {fd:FuncData} {ps:List Str} {sp:Sp} {x:Str} {p cpos epos pos:Pos} {e:Expr} {es:List Expr} {t:TA}
theorem ps_try {c n:Str} {i:Nat} {b0:Stmt} {hb orelse:List Stmt} {hpos np:Pos} {th to:TS} {C0 C1:Addr} (hno:∀ e s,¬ X.xe e s) (F:FnOk X.prog X.w X.K X.mg X.base (CX1 X.prog X.w) k f fd ps sp) (hr:Room k X.A) (hg:Gl X x)
  (hm:X.mg x=some (.ref f)) (hkp:W.keepIn X.K (.ref f)=true) (hbd:a3B X.K fd ps []) (ha:PA X (e :: es) t)
  (hN:X.N.Nodup) (hi:X.N[i]?=some n) (hk:X.env.scope.names.lookup n=some .local) (hst:X.stack=X.env :: X.outer) (hfr:X.env.frame=some X.env.locals) (hgc:Gl X c) (hmc:X.mg c=some (.ref C1))
  (hx:W.exmOne X.K (.ref C0) (.ref C1)=some true) (hbody:∀ a,PSs (X.inx a) (b0 :: hb) th) (hel:PSs X orelse to)
  (hdb:(x == ("__debug__" : Str))=false:=by decide) (hdc:(c == ("__debug__" : Str))=false:=by decide) (he:starEach (e :: es) X.env=(false,eval e X.env) :: starEach es X.env:=by rfl) (hpl:(backTo cpos (starEach es X.env)).any (·.1)=false:=by rfl)
  (hs:swapsWith (.Call (.Name x p) (e :: es) [] cpos) none epos.line X.env=pure false:=by rfl):
  PS X (.Try [.Expr (.Call (.Name x p) (e :: es) [] cpos) epos] [.ExceptHandler (some (.Name c np)) (some n) (b0 :: hb) hpos] orelse [] pos)
   (fun D σ H=>t σ H fun vs H1=>sp vs H1 (fun _ H2=>to D σ H2) (fun cv dd H2=>∀ C,cv=.ref C->C=C0 /\ ∀ a o,H2 a=none->o.cls=.ref C0->o.dict=dd->a7k o->th (D.goes i) (σ.set i (some (.ref a))) (upd H2 a (.frz o (.own a))))):=by
 intro pins s σ H D I h
 refine wpAny_Try_except (wpAny_execs_cons (wpAny_Expr_any (wpAny_Call_Name_kw (a4d I hg hm ?_ hdb)) I.quiet hs))
 refine W.callWith_K (h₀:=X.base) I.ok.mod.kin hkp (wpAny_mono (ha cpos pins s σ H _ I h) (fun us s1 z=>?_) fun e s z=>(hno e s z).elim) he hpl
 obtain ⟨vs,H1,I1,r,q⟩:=z
 refine ⟨I1.kIn,?_⟩
 have hl:us.length=ps.length:=by rw [<- r.length]; exact F.len _ _ _ _ q
 have hb1:=hbd s1 us I1.kIn (by rw [List.append_nil]; exact hl)
 rw [List.append_nil] at hb1
 refine wpAny_call (codeAny_mono (F.run X.A X.stack s1 H1 ⟨us,[]⟩ us vs _ _ hr I1.env0 hb1 r q) fun r s2 hq=>?_)
 cases r with
 | error e=>
  dsimp only [CR] at hq
  exact caught I1 hq hN hi hk hst hfr hgc hmc hx (fun C dd H' z=>z C rfl) hbody hdc
 | ok fl=>
  cases fl with
  | ret u=>
   obtain ⟨v,H2,I2,_,q2⟩:=I1.after hq
   exact wpAny_execs_nil (hel pins s2 σ H2 D I2 q2)
  | next=>exact False.elim hq
  | brk=>exact False.elim hq
  | cont=>exact False.elim hq
end
end L2
namespace L2
open PySem PySem.Spec PyProof.Rows
structure ExcI (K:W.Frag) (C:Addr):Prop where
 cls:W.isClsIn K C=true
 ga:W.findIn K (.ref C) "__getattribute__" = some (some (.builtin "BaseException.__getattribute__"))
 gt:W.findIn K (.ref C) "__getattr__" = some none
 be:W.mroIn K C (.type "BaseException")=some true
 ca:W.findIn K (.ref C) "__class__" = some (some (.builtin "object.__class__"))
 sp:W.specialIn K (.builtin "object.__class__") "__get__" = some (some (.builtin "getset_descriptor.__get__"))
 tk:W.takesIn K (.builtin "object.__class__")=some true
 ob:W.mroIn K C (.type "object")=some true
def b0I (x C:Addr) (h:Heap):Prop:=∃ o,h.get? x=some o/\o.cls=.ref C
section
open PySem.Calls PySem.Builtin PySem.Builtin.ObjectAttr PySem.Builtin.Getset_descriptor
variable {K:W.Frag} {M:Model} {h:Heap} {x C:Addr}
theorem b0I.ty (o:b0I x C h):W.Looks M h (typeOf (.ref x)) (.ref C):=by
 obtain ⟨ox,e,c⟩:=o
 rw [<- c]
 exact (W.Looks.ld e).andThen .now
theorem b0o {n:Str} {a g:Value} (X:K.In h) (ha:W.findIn K (.ref C) n=some (some a)) (hg:W.specialIn K a "__get__" = some (some g)) (ht:W.takesIn K a=some true):
  W.Looks M h (find (.ref x) (.ref C) n) (.bind g a):=by
 have l1:=W.looks_findIn (M:=M) X ha
 have l2:W.Looks M h (getOf (some a)) (some g):=W.looks_specialIn X hg
 have l3:W.Looks M h (dataDescriptor? (some a) (some g)) (some (g,a)):=(W.looks_takesIn (M:=M) X ht).andThen .now
 exact l1.andThen (l2.andThen (l3.andThen (W.Looks.tag .now)))
variable {prog:Program} {w:World} {A:Around} {E:Value->Shared->Prop} {s:Shared}
theorem a9C {R:Result->Shared->Prop} {tp:Value} (X:K.In s.heap) (o:b0I x C s.heap) (hm:W.mroIn K C (.type "object")=some true) (hR:R (.ok (.ret (.ref C))) s):
  codeAny (model prog w) A (.call (.builtin "getset_descriptor.__get__") ⟨[.builtin "object.__class__",.ref x,tp],[]⟩) R s:=by
 obtain ⟨hp,ge,dr,tk,os⟩:=s
 have l0:W.Looks (model prog w) hp (typeOf (.ref x)) (.ref C):=o.ty
 have l1:=W.looks_mroIn (M:=model prog w) X hm
 refine codeAny_call_builtin W.KF.slot_gs.plain W.KF.entry_gs (W.KF.slot_gs.check _ _ _ _ _ _ _ _ W.KF.type_class (W.KF.args_gs _ _ _) ?_)
 unfold Builtin.«getset_descriptor.__get__»
 unfold descrGet
 rw [W.dga_obj]
 refine wpAny_bind (wpAny_pure ?_)
 unfold descrGetter
 unfold descrCheckInstance
 unfold descrNameAndClass
 unfold isInstance
 simp only [W.KF.owner_class]
 repeat lk
 refine ⟨Code.quiet_builtin _ (by decide +kernel),codeAny_builtin W.KF.entry_class ?_⟩
 unfold Builtin.«object.__class__»
 unfold shownTypeOf
 repeat lk
 exact hR
theorem ga_entry {R:Fin->Shared->Prop} {tk:Tok} (X:K.In s.heap) (o:b0I x C s.heap) (c:ExcI K C) (hR:R (.done (.ret (.ref C))) s):wpAny (model prog w) A (Builtin.«object.__getattribute__» ⟨[.ref x,.str "__class__" tk],[]⟩) R E s:=by
 obtain ⟨hp,g,d,t,os⟩:=s
 have l0:W.Looks (model prog w) hp (typeOf (.ref x)) (.ref C):=o.ty
 have l3:=b0o (M:=model prog w) (x:=x) X c.ca c.sp c.tk
 unfold Builtin.«object.__getattribute__»
 refine wpAny_bind (wpAny_pure (wpAny_bind (wpAny_pure (wpAny_bind (l0.at (wpAny_bind (l3.at ?_)))))))
 show wpAny _ _ (bindTo _ _ _ _) _ _ _
 unfold bindTo
 refine wpAny_bind (wpAny_holding (wpAny_call (a9C X o c.ob ?_)))
 exact wpAny_pure hR
theorem ga_check {Q:Unit->Shared->Prop} {nv:Value} (X:K.In s.heap) (o:b0I x C s.heap) (c:ExcI K C) (hQ:Q () s):wpAny (model prog w) A (checkBuiltinCall "BaseException.__getattribute__" ⟨[.ref x,nv],[]⟩) Q E s:=by
 obtain ⟨hp,g,d,t,os⟩:=s
 have l0:W.Looks (model prog w) hp (typeOf (.ref x)) (.ref C):=o.ty
 have l4:=W.looks_mroIn (M:=model prog w) X c.be
 have k1:builtinKind "BaseException.__getattribute__" = some .slot:=by decide +kernel
 have k2:splitId "BaseException.__getattribute__" = some ("BaseException", "__getattribute__"):=by decide +kernel
 have k3:=PySem.F.args_bexc_ga (.ref x) nv
 simp only [checkBuiltinCall,k1,k2]
 refine wpAny_bind ?_
 unfold isInstance
 refine wpAny_bind (l0.at (l4.at ?_))
 repeat (any_goals (first | assumption | wp_step))
theorem a7j {Q:Option Value->Shared->Prop} (X:K.In s.heap) (o:b0I x C s.heap) (c:ExcI K C) (hQ:Q (some (.ref C)) { s with toks:=s.toks + 1 }):wpAny (model prog w) A (getAttr? (.ref x) "__class__") Q E s:=by
 obtain ⟨hp,g,d,t,os⟩:=s
 have l0:W.Looks (model prog w) hp (typeOf (.ref x)) (.ref C):=o.ty
 have l1:=W.looks_findIn (M:=model prog w) X c.ga
 have l2:=W.looks_findIn (M:=model prog w) X c.gt
 have l4:=W.looks_mroIn (M:=model prog w) X c.be
 have ne:(Value.builtin "BaseException.__getattribute__" == Value.builtin "object.__getattribute__")=false:=by decide +kernel
 unfold getAttr?
 unfold getAttrBy?
 unfold getAttrBy
 refine wpAny_bind (wpAny_mkText (wpAny_bind (wpAny_attempt (wpAny_holding (wpAny_bind (l0.at (wpAny_bind (l1.at ?_))))))))
 dsimp only
 rw [ne,Bool.and_false,if_neg Bool.false_ne_true]
 unfold getAttrByItsOwn
 unfold hookBefore
 rw [if_pos (show onTheHeap (Value.ref C)=true from rfl)]
 refine wpAny_bind (l2.at ?_)
 refine wpAny_bind (wpAny_attempt (wpAny_holding ?_))
 unfold callGetattribute
 rw [if_neg (by simp)]
 unfold boundAndCalled
 refine wpAny_bind (wpAny_of_eq (PySem.F.attr_ValueError.ga.bind (.ref x)) ?_)
 refine wpAny_call (codeAny_call_builtin PySem.F.attr_ValueError.ga.plain PySem.F.entry_bexc_ga ?_)
 refine ga_check X o c (ga_entry X o c ?_)
 exact W.handed_on rfl (wpAny_pure hQ)
theorem kit_exc (c:ExcI K C):W.KitX K (.ref x) (.ref C) (b0I x C) where
 ty:=fun _ _ _ o=>o.ty
 it:=fun _ _ X _=>by
  have cl:=c.cls
  unfold W.isClsIn W.clsIn at cl
  split at cl
  ·rename_i ho
   intro A1 Q1 E1 s1 kp z
   unfold isType loadHead
   exact wpAny_bind (wpAny_loadPart (kp _ _ (X _ _ ho)) (wpAny_pure z))
  ·cases cl
 ne:=fun h tp dd its m sl X htp=>by
  have cl:=c.cls
  refine Bool.eq_false_iff.mpr fun z=>?_
  have e:C=tp:=Value.ref.inj (beq_iff_eq.mp z)
  subst e
  unfold W.isClsIn W.clsIn at cl
  split at cl
  ·rename_i ho
   cases (X _ _ ho).symm.trans htp
  ·cases cl
 ca:=fun X o k=>a7j X o c k
end
section
variable {X:Cx}
def rIsiE (K:W.Frag):List V->Hp->VK->Prop:=fun xs H Q=>∃ (a C C':Addr) (o:Obj) (u:HO) (b:Bool),xs=[.ref a,.ref C']/\H a=some (.frz o u)/\o.cls=.ref C/\ExcI K C/\W.kitOne K (.ref C) (.ref C')=some b/\Q (.bl b) H
theorem call_isiE:a3A X (.builtin "isinstance") (rIsiE X.K):=by
 intro pins s σ H xs us Q I r h
 obtain ⟨a,C,C',o,u,b,rfl,ha,hc,ci,kb,q⟩:=h
 obtain ⟨u1,u2,rfl,r1,r2⟩:=vals2 r
 cases r1
 cases r2
 obtain ⟨ho,_⟩:=(show a1K X.prog X.w H s.heap a (.frz o u) from I.hok a _ ha)
 exact W.kia_one (kit_exc ci) I.kIn ⟨o,ho,hc⟩ kb (fun z=>nomatch z) fun tk=>⟨.bl b,H,I.tok tk,rfl,q⟩
end
noncomputable abbrev a5W (A:Around):Around:={ A with handled:=none }
def HdOk (A:Around) (H:Hp):Prop:=A.handled=none \/ ∃ a o u,A.handled=some (.ref a)/\H a=some (.frz o u)/\a7k o
theorem Inv.hdOk {X:Cx} {pins:List (Addr × Obj)} {σ:St} {H:Hp} {s:Shared} (I:Inv X pins σ H s):HdOk X.A H:=by
 rcases I.ok.hq with e | ⟨a,ha,e⟩
 ·exact .inl e
 ·obtain ⟨o,u,g,m⟩:=I.mild a ha
  exact .inr ⟨a,o,u,e,g,m⟩
structure FnOkH (P:Program) (w:World) (K:W.Frag) (mg:Str->Option Value) (base:Heap) (k:Nat) (f:Addr) (fd:FuncData) (ps:List Str) (sp:Sp):Prop where
 len:∀ vs H Q E,sp vs H Q E->vs.length=ps.length
 run:∀ (A:Around) (outer:List Env) (s:Shared) (H:Hp) (args:Args) (us:List Value) (vs:List V) (Q:VK) (E:XK),Room k (a5W A)->HdOk A H->Env0 P w K mg base A outer s H->BindsTo s fd args (ps.zip us)->a1u vs us->sp vs H Q E ->
  codeAny (model P w) A (.call (.ref f) args) (CR CX0 outer P w H s Q E) s
noncomputable abbrev cxH (P:Program) (w:World) (K:W.Frag) (mg:Str->Option Value) (base:Heap) (N:List Str) (qual:Str) (scope:Scope) (f:Addr) (cd:Value) (A:Around) (outer:List Env) (s:Shared) (H:Hp) (E:XK):Cx:=
 { a1x CX0 P w K mg base N qual scope f cd A outer s H E with calm:=false,xe:=fun _ _=>False }
theorem fn_ofH {P:Program} {w:World} {K:W.Frag} {mg:Str->Option Value} {base:Heap} {k:Nat} {f:Addr} {name qual:Str} {params:Arguments} {body:List Stmt} {scope:Scope} {dV kV doc pm cdv ct oc:Value} {an od:Option Addr}
  {osl:Array (Option Value)} {N ps:List Str} {sp:Sp} (lk:K.lookup f=some ⟨oc,od,.func (W.fnOf name qual params body scope dV kV doc pm an cdv ct),osl⟩) (hcd:W.codeIn K cdv qual=true) (S:FnScope N ps scope)
  (len:∀ vs H Q E,sp vs H Q E->vs.length=ps.length)
  (hbody:∀ (A:Around) (outer:List Env) (s:Shared) (H:Hp) (vs:List V) (Q:VK) (E:XK),Room k (a5W (A.deeper (envOfC qual scope s.heap.objs.size f cdv)))->sp vs H Q E ->
   ∃ t,PSs (cxH P w K mg base N qual scope f cdv A outer s H E) body t/\t { nx:=fun _ H'=>Q .non H',rt:=Q } (start N vs) H):
  FnOkH P w K mg base (k + 1) f (W.fnOf name qual params body scope dV kV doc pm an cdv ct) ps sp:=by
 refine ⟨len,fun A outer s H args us vs Q E hr hdk e0 hb r hsp=>?_⟩
 have hl:=len _ _ _ _ hsp
 have KX:K.In s.heap:=e0.mod.kin.keeps fun b o e=>(e0.bs b o e).1
 have lim:s.heap.NoLimit:=e0.mod.nolimit.keeps fun b o e=>(e0.bs b o e).1
 have hkind:∀ y ∈ ps.zip us,scope.names.lookup y.1=some .local \/ (scope.names.lookup y.1=some .cell/\((cellsFrom (s.heap.objs.size + 1) scope.names []).lookup y.1).isSome=true):=fun ⟨n,v⟩ hy=>by
  rcases S.par n (List.of_mem_zip hy).1 with q | q
  ·exact .inl q
  ·exact .inr ⟨q,W.cellsFrom_some _ _ _ (.inl q)⟩
 refine codeAny_call_function (show A.depth < recursionLimit from hr.depth) (KX _ _ lk) rfl S.co S.gen rfl (W.codeRec_of KX hcd) (hb _ _ _ _ ?_)
 refine wpAny_newFunctionEnv_cells S.kind hkind fun env he s1 x=>?_
 subst he
 refine ⟨lim.keeps x.toInCall.keep,codeAny_func ?_⟩
 obtain ⟨t,ht,hq⟩:=hbody A outer s H vs Q E (hr.deeper _) hsp
 have e1:Env0 P w K mg base (a5W A) outer s H:=⟨e0.frames,e0.mod,e0.bs,e0.bsz,e0.funs,e0.frf,e0.hok,e0.bare⟩
 have I0:Inv (a1x CX0 P w K mg base N qual scope f cdv (a5W A) outer s H E) [] (start N vs) H s1:=a9p S rfl e1 hl r x
 have I:Inv (cxH P w K mg base N qual scope f cdv A outer s H E) [] (start N vs) H s1:=
  ⟨⟨I0.ok.mod,I0.ok.kind,I0.ok.glob,I0.ok.blt,I0.ok.above,I0.ok.inj,I0.ok.has,I0.ok.cab,(fun z=>nomatch z),I0.ok.frames,I0.ok.stk,I0.ok.exf,I0.ok.bs,I0.ok.bsz,I0.ok.noex,I0.ok.exfs,I0.ok.funs,I0.ok.frf,(show A.handled=none \/ ∃ a,a ∈ hsOf A/\A.handled=some (.ref a) from hdk.elim .inl fun ⟨a,_,_,e,_,_⟩=>.inr ⟨a,by unfold hsOf; rw [e]; exact List.mem_cons_self,e⟩)⟩,
   I0.os,I0.bare,I0.base,I0.loc,I0.cell,I0.free,I0.freeC,I0.pin,I0.hok,I0.len,(show ∀ a ∈ hsOf A,∃ o u,H a=some (.frz o u)/\a7k o from fun b hb=>by
    unfold hsOf at hb
    rcases hdk with e | ⟨a,o,u,e,g,m⟩
    ·rw [e] at hb; simp at hb
    ·rw [e] at hb
     have:b=a:=by simpa using hb
     subst this
     exact ⟨o,u,g,m⟩)⟩
 refine wpAny_mono (ht [] s1 (start N vs) H _ I hq) (fun fl s' hs=>?_) fun e s' hs=>hs.elim
 have fin:∀ {σ':St} {H':Hp} {v:V} {u:Value},Inv (cxH P w K mg base N qual scope f cdv A outer s H E) [] σ' H' s'->a1W v u->Q v H'->CE outer P w H s Q u s':=
  fun {σ' H' v u} J rv q=>⟨v,H',J.os,J.bare,J.base,J.hok,rv,q⟩
 cases fl with
 | ret u=>
  obtain ⟨v,σ',H',J,rv,q⟩:=hs
  exact fin J rv q
 | next=>
  obtain ⟨σ',H',J,q⟩:=hs
  exact fin (v:=V.non) (u:=Value.none) J rfl q
 | brk=>
  obtain ⟨_,_,_,q⟩:=hs
  exact False.elim q
 | cont=>
  obtain ⟨_,_,_,q⟩:=hs
  exact False.elim q
section
variable {X:Cx} {k:Nat} {f:Addr} {fd:FuncData} {ps:List Str} {sp:Sp} {E:XK} {x:Str} {p pos:Pos} {e:Expr} {es:List Expr} {t:TA}
theorem pe_callH (F:FnOkH X.prog X.w X.K X.mg X.base k f fd ps sp) (hr:Room k (a5W X.A)) (hg:Gl X x) (hm:X.mg x=some (.ref f)) (hk:W.keepIn X.K (.ref f)=true) (hb:a3B X.K fd ps [])
  (ha:PA X (e :: es) t) (hdb:(x == ("__debug__" : Str))=false:=by decide) (he:starEach (e :: es) X.env=(false,eval e X.env) :: starEach es X.env:=by rfl) (hpl:(backTo pos (starEach es X.env)).any (·.1)=false:=by rfl):
  PE X (.Call (.Name x p) (e :: es) [] pos) (tCall sp [] E t):=by
 intro pins s σ H Q I h
 refine wpAny_Call_Name_kw (a4d I hg hm ?_ hdb)
 refine W.callWith_K (h₀:=X.base) I.ok.mod.kin hk (thn (ha pos pins s σ H _ I h) fun us s1 ⟨vs,H1,I1,r,q⟩=>⟨I1.kIn,?_⟩) he hpl
 replace q:sp (vs ++ []) H1 Q E:=q
 rw [List.append_nil] at q
 have hl:us.length=ps.length:=by rw [<- r.length]; exact F.len _ _ _ _ q
 have hb1:=hb s1 us I1.kIn (by rw [List.append_nil]; exact hl)
 rw [List.append_nil] at hb1
 refine wpAny_call (codeAny_mono (F.run X.A X.stack s1 H1 ⟨us,[]⟩ us vs Q E hr I1.hdOk I1.env0 hb1 r q) fun r s' hq=>?_)
 cases r with
 | error e=>exact False.elim hq
 | ok fl=>
  cases fl with
  | ret u=>exact I1.after hq
  | next=>exact False.elim hq
  | brk=>exact False.elim hq
  | cont=>exact False.elim hq
end
end L2
namespace Z
open PySem PySem.Spec PyProof.Rows L2
noncomputable abbrev Exn:=Addr × Option Int
abbrev FnX:=List Dv->(R->Prop)->(Exn->Prop)->Prop
inductive lowX (K:W.Frag) (sp:FnX) (vs:List V) (H:Hp) (Q:VK) (E:XK):Prop
 | mk (F:Addr->Prop) (ds:List Dv) (Ψ:Exn->Prop) (hF:OldF K F H) (r:Reps K F H vs ds) (q:sp ds (fun r=>∀ x H',a0r H H'->a3l K F NoOwn H x r H'->Q x H') Ψ) (hE:∀ C p dd H',Ψ (C,p)->a0r H H'->a8L H' p dd->E (.ref C) dd H')
structure MonoX (sp:FnX):Prop where
 mo:∀ ds (Q Q':R->Prop) (Ψ Ψ':Exn->Prop),(∀ r,Q r->Q' r)->(∀ C,Ψ C->Ψ' C)->sp ds Q Ψ->sp ds Q' Ψ'
structure DefX (P:Program) (w:World) (K:W.Frag) (mg:Str->Option Value) (base:Heap) (k:Nat) (x:Str) (ps:List Str) (sp:Sp):Prop where
 ex:∃ f fd,mg x=some (.ref f)/\W.keepIn K (.ref f)=true/\a3B K fd ps []/\FnOk P w K mg base (CX1 P w) k f fd ps sp
structure QxS (X:Cx) (HZ:Hp) (F:Addr->Prop) (st:Stmt) (t:TSp):Prop where
 mono:∀ E E' ρ,EnLe E E'->t E ρ->t E' ρ
 run:PS X st (liftS X.K HZ F t)
structure QxB (X:Cx) (HZ:Hp) (F:Addr->Prop) (sts:List Stmt) (t:TSp):Prop where
 mono:∀ E E' ρ,EnLe E E'->t E ρ->t E' ρ
 run:PSs X sts (liftS X.K HZ F t)
section
variable {X:Cx} {HZ:Hp} {F:Addr->Prop} {st:Stmt} {sts a b:List Stmt} {t u:TSp} {c:Expr} {tc:TTp} {pos:Pos}
theorem QS.x (h:QS X st t):QxS X HZ F st t:=⟨h.mono,h.run HZ F⟩
theorem QSs.x (h:QSs X sts t):QxB X HZ F sts t:=⟨h.mono,h.run HZ F⟩
theorem a6e (h:QxS X HZ F st t):QxB X HZ F [st] t:=⟨h.mono,pss_one h.run⟩
theorem a1Z (h1:QxS X HZ F st t) (h2:QxB X HZ F sts u):QxB X HZ F (st :: sts) (a0z t u):=by
 refine ⟨fun E E' ρ w h=>h1.mono _ _ _ (w.with_nx fun ρ h=>h2.mono _ _ _ w h) h,b0H (b0T h1.run h2.run) fun D σ H z=>?_⟩
 obtain ⟨ρ,E,fr,h,en⟩:=z
 exact ⟨ρ,_,fr,h,fun ρ' σ' H' fr' h'=>⟨ρ',E,fr',h',en⟩,en.bk,en.ct,en.rt⟩
theorem x_if (hc:QT X c tc) (ha:QxB X HZ F a t) (hb:QxB X HZ F b u):QxS X HZ F (.If c a b pos) (sIf tc t u):=by
 refine ⟨fun E E' ρ w h=>hc.mono _ _ _ (fun k q=>?_) h,a1O (ps_if (hc.run HZ F) ha.run hb.run) fun D σ H z=>?_⟩
 ·cases k with
  | true=>exact a8M (ha.mono _ _ _ w (by simpa using q))
  | false=>exact a7h (hb.mono _ _ _ w (by simpa using q))
 ·obtain ⟨ρ,E,fr,h,en⟩:=z
  refine hc.step fr h fun k H1 q S1=>?_
  cases k with
  | true=>exact a8M ⟨ρ,E,fr.mono S1,by simpa using q,en⟩
  | false=>exact a7h ⟨ρ,E,fr.mono S1,by simpa using q,en⟩
end
def b0P (Ψ:Exn->Prop) (C:Addr) (ts:TAp):TSp:=fun _ ρ=>ts ρ fun rs=>rs.length<=1000/\Ψ (C,none)
theorem a4W.len {K:W.Frag} {M:Addr->Prop} {O:Addr->Dv->Prop} {H H':Hp}:∀ {xs:List V} {rs:List R},a4W K M O H xs rs H'->xs.length=rs.length
 | _,_,.nil=>rfl
 | _,_,.cons _ t=>by rw [List.length_cons,List.length_cons,a4W.len t]
section
variable {P:Program} {w:World} {K:W.Frag} {mg:Str->Option Value} {base:Heap} {N:List Str} {qual:Str} {scope:Scope} {f:Addr} {cd:Value} {A:Around} {outer:List Env} {s0:Shared} {H0:Hp} {E:XK}
end
theorem At.okX {P:Program} {w:World} {K:W.Frag} {mg:Str->Option Value} {base:Heap} {k:Nat} {x nm:Str} {st:Stmt} {ps N:List Str} {sp:FnX} {t:(Exn->Prop)->TSp} (a:At K mg x nm st ps) (S:FnScope N ps (a0d st))
  (hq:∀ (f:Addr) (cdv:Value) (A:Around) (outer:List Env) (s:Shared) (H:Hp) (E:XK) (F:Addr->Prop) (Ψ:Exn->Prop),Room k (A.deeper (envOfC nm (a0d st) s.heap.objs.size f cdv))->(∀ C p dd H',Ψ (C,p)->a0r H H'->a8L H' p dd->E (.ref C) dd H') ->
   QxB (a1x (CX1 P w) P w K mg base N nm (a0d st) f cdv A outer s H E) H F (a0o st) (t Ψ))
  (len:∀ ds Q Ψ,sp ds Q Ψ->ds.length=ps.length) (hsp:∀ ds Q Ψ,sp ds Q Ψ->t Ψ { nx:=fun _=>Q (.v .non),rt:=Q } (a0k N ds)):DefX P w K mg base (k + 1) x ps (lowX K sp):=by
 obtain ⟨f,fd,hm,F,hb⟩:=a.ex
 obtain ⟨oc,od,kV,doc,pm,an,cdv,ct,osl,rfl,lk,hcd⟩:=F.ex
 refine ⟨f,_,hm,F.kp,hb,fn_of lk hcd S (fun vs H Q E z=>?_) fun A outer s H vs Q E hr z=>?_⟩
 ·obtain ⟨F,ds,Ψ,hF,r,q,hE⟩:=z
  rw [r.length]
  exact len _ _ _ q
 ·obtain ⟨F,ds,Ψ,hF,r,q,hE⟩:=z
  exact ⟨_,(hq f cdv A outer s H E F Ψ hr hE).run,a0k N ds,_,b0L hF r,hsp ds _ Ψ q,fun ρ σ H' fr q=>q .non H' fr.same Rep.non,fun _ _ _ _ z=>z.elim,fun _ _ _ _ z=>z.elim,fun rr x H' S rx q=>q x H' S rx⟩
noncomputable abbrev En.goes (E:En) (i:Nat):En:={ nx:=fun ρ=>E.nx (ρ.set i .un),rt:=E.rt,bk:=fun ρ=>E.bk (ρ.set i .un),ct:=fun ρ=>E.ct (ρ.set i .un) }
def sTry (C0:Addr) (i:Nat) (sp:FnX) (ts:TAp) (th to:TSp):TSp:=fun E ρ=>ts ρ fun rs=>sp (rs.map R.d) (fun _=>to E ρ) (fun x=>x.1=C0/\th (E.goes i) (ρ.set i (.v (.exc C0 x.2))))
theorem EnLe.goes {E E':En} (w:EnLe E E') (i:Nat):EnLe (E.goes i) (E'.goes i):=⟨fun _ h=>w.nx _ h,w.rt,fun _ h=>w.bk _ h,fun _ h=>w.ct _ h⟩
theorem Ent.goes {K:W.Frag} {HZ:Hp} {F:Addr->Prop} {E:En} {D:Ends} (en:Ent K HZ F E D) (i:Nat):Ent K HZ F (E.goes i) (D.goes i):=
 ⟨fun _ _ _ fr h=>en.nx _ _ _ fr.setu h,fun _ _ _ fr h=>en.bk _ _ _ fr.setu h,fun _ _ _ fr h=>en.ct _ _ _ fr.setu h,en.rt⟩
section
variable {X:Cx} {k:Nat} {ps:List Str} {sp:FnX} {x:Str} {p cpos epos pos:Pos} {e:Expr} {es:List Expr} {ts:TAp}
theorem q_try {c n:Str} {i:Nat} {b0:Stmt} {hb orelse:List Stmt} {hpos np:Pos} {th to:TSp} {C0 C1:Addr} (hno:∀ e s,¬ X.xe e s) (d:DefX X.prog X.w X.K X.mg X.base k x ps (lowX X.K sp)) (mo:MonoX sp) (hr:Room k X.A) (ha:QA X (e :: es) ts)
  (hN:X.N.Nodup) (hmc:X.mg c=some (.ref C1)) (hx:W.exmOne X.K (.ref C0) (.ref C1)=some true) (hbody:∀ a,QSs (X.inx a) (b0 :: hb) th) (hel:QSs X orelse to)
  (hi:X.N[i]?=some n:=by rfl) (hk:X.env.scope.names.lookup n=some .local:=by rfl) (hst:X.stack=X.env :: X.outer:=by rfl) (hfr:X.env.frame=some X.env.locals:=by rfl) (hg:Gl X x:=by rfl) (hgc:Gl X c:=by rfl)
  (hdb:(x == ("__debug__" : Str))=false:=by decide) (hdc:(c == ("__debug__" : Str))=false:=by decide) (he:starEach (e :: es) X.env=(false,eval e X.env) :: starEach es X.env:=by rfl) (hpl:(backTo cpos (starEach es X.env)).any (·.1)=false:=by rfl)
  (hs:swapsWith (.Call (.Name x p) (e :: es) [] cpos) none epos.line X.env=pure false:=by rfl):
  QS X (.Try [.Expr (.Call (.Name x p) (e :: es) [] cpos) epos] [.ExceptHandler (some (.Name c np)) (some n) (b0 :: hb) hpos] orelse [] pos) (sTry C0 i sp ts th to):=by
 obtain ⟨f,fd,hm,hkp,hbd,FO⟩:=d.ex
 refine ⟨fun E E' ρ w h=>ha.mono _ _ _ (fun rs q=>mo.mo _ _ _ _ _ (fun _ q=>hel.mono _ _ _ w q) (fun C q=>⟨q.1,(hbody 0).mono _ _ _ (w.goes i) q.2⟩) q) h,fun HZ F=>a1O (ps_try (th:=liftS X.K HZ F th) (to:=liftS X.K HZ F to) hno FO hr hg hm hkp hbd (ha.run HZ F) hN hi hk hst hfr hgc hmc hx (fun a=>(hbody a).run HZ F) (hel.run HZ F) hdb hdc he hpl hs) fun D σ H z=>?_⟩
 obtain ⟨ρ,E,fr,h,en⟩:=z
 refine ha.step fr h fun rs xs H1 q S1 r1=>?_
 have fr1:=fr.mono S1
 refine ⟨lent (MM F ρ) rs,_,fun x=>x.1=C0/\th (E.goes i) (ρ.set i (.v (.exc C0 x.2))),⟨fun a z=>fr1.dom z.1,fr1.tab⟩,a3u fr (fun _ h=>h) r1,mo.mo _ _ _ _ _ (fun r q x H' S rx=>?_) (fun C q=>q) q,fun C p dd H2 q S2 py=>?_⟩
 ·exact ⟨ρ,E,fr1.mono S,q,en⟩
 ·intro C' ec
  cases ec
  refine ⟨q.1,fun a o hn hc hd hm=>?_⟩
  have S3:a0r H2 (upd H2 a (.frz o (.own a))):=a0r.new' hn
  exact ⟨_,_,((fr1.mono S2).mono S3).setv (.exc ⟨o,_,a0E,hc,by rw [hd]; exact py.gen fun b o u e=>S3 b _ e,hm⟩),q.2,en.goes i⟩
end
structure DefH (P:Program) (w:World) (K:W.Frag) (mg:Str->Option Value) (base:Heap) (k:Nat) (x:Str) (ps:List Str) (sp:Sp):Prop where
 ex:∃ f fd,mg x=some (.ref f)/\W.keepIn K (.ref f)=true/\a3B K fd ps []/\FnOkH P w K mg base k f fd ps sp
theorem At.okH {P:Program} {w:World} {K:W.Frag} {mg:Str->Option Value} {base:Heap} {k:Nat} {x nm:Str} {st:Stmt} {ps N:List Str} {sp:Fn} {t:TSp} (a:At K mg x nm st ps) (S:FnScope N ps (a0d st))
  (hq:∀ (f:Addr) (cdv:Value) (A:Around) (outer:List Env) (s:Shared) (H:Hp) (E:XK),Room k (a5W (A.deeper (envOfC nm (a0d st) s.heap.objs.size f cdv)))->QSs (cxH P w K mg base N nm (a0d st) f cdv A outer s H E) (a0o st) t)
  (len:∀ ds Q,sp ds Q->ds.length=ps.length) (hsp:∀ ds Q,sp ds Q->t { nx:=fun _=>Q (.v .non),rt:=Q } (a0k N ds)):DefH P w K mg base (k + 1) x ps (low K sp):=by
 obtain ⟨f,fd,hm,F,hb⟩:=a.ex
 obtain ⟨oc,od,kV,doc,pm,an,cdv,ct,osl,rfl,lk,hcd⟩:=F.ex
 exact ⟨f,_,hm,F.kp,hb,fn_ofH lk hcd S (a8p len) fun A outer s H vs Q E hr z=>a8J (hq f cdv A outer s H E hr) hsp z⟩
theorem Room.inx {k:Nat} {A:Around} (r:Room k A) (v:Option Value):Room k (a5W (A.mark v)):=⟨rfl,r.dp,r.un⟩
section
variable {X:Cx} {k:Nat} {x:Str} {ps:List Str} {sp:Fn} {e:Expr} {es:List Expr} {ts:TAp} {p pos:Pos}
theorem q_callH (d:DefH X.prog X.w X.K X.mg X.base k x ps (low X.K sp)) (mo:MonoF sp) (hr:Room k (a5W X.A)) (ha:QA X (e :: es) ts) (hg:Gl X x:=by rfl)
  (hdb:(x == ("__debug__" : Str))=false:=by decide) (he:starEach (e :: es) X.env=(false,eval e X.env) :: starEach es X.env:=by rfl) (hpl:(backTo pos (starEach es X.env)).any (·.1)=false:=by rfl):
  QE X (.Call (.Name x p) (e :: es) [] pos) (a0B sp ts):=by
 obtain ⟨f,fd,hm,hk,hb,FO⟩:=d.ex
 refine ⟨fun ρ Q Q' w q=>ha.mono _ _ _ (fun rs q=>mo.mo _ _ _ (a3z w) q) q,fun HZ F=>a0T (pe_callH (E:=E0) FO hr hg hm hk hb (ha.run HZ F) hdb he hpl) fun σ H Q z=>?_⟩
 obtain ⟨ρ,fr,h⟩:=z
 refine ha.step fr h fun rs xs H1 q S1 r1=>?_
 rw [List.append_nil]
 exact a6p mo fr S1 r1 q fun r z=>z
def a5r (K:W.Frag) (C':Addr) (te:TEp):TEp:=fun ρ Q=>te ρ fun r=>match r.d with
 | .exc C _=>ExcI K C /\ ∃ b,W.kitOne K (.ref C) (.ref C')=some b/\Q (.v (.bl b))
 | _=>False
theorem a4a {y:Str} {C':Addr} {te:TEp} {p2:Pos} (hg:Gl X "isinstance") (hm:X.mg "isinstance" = none) (ha:QE X e te) (hmy:X.mg y=some (.ref C')) (hgy:Gl X y:=by rfl) (hdy:(y == ("__debug__" : Str))=false:=by decide)
  (he:starEach [e,.Name y p2] X.env=(false,eval e X.env) :: starEach [.Name y p2] X.env:=by rfl) (he2:starEach [Expr.Name y p2] X.env=(false,eval (.Name y p2) X.env) :: starEach [] X.env:=by rfl) (hpl:(backTo pos (starEach [.Name y p2] X.env)).any (·.1)=false:=by rfl):
  QE X (.Call (.Name "isinstance" p) [e,.Name y p2] [] pos) (a5r X.K C' te):=by
 refine ⟨fun ρ Q Q' w q=>ha.mono _ _ _ (fun r q=>?_) q,fun HZ F=>a0T (a6l call_isiE hg hm boot_isinstance (a3F (ha.run HZ F) (a3F (a9U (v:=.ref C') hgy hmy rfl hdy) a7y he2) he) (by decide) (by decide) he hpl) fun σ H Q z=>?_⟩
 ·generalize r.d=d at q ⊢
  cases d with
  | exc C p=>
   obtain ⟨ci,b,kb,q⟩:=q
   exact ⟨ci,b,kb,w _ q⟩
  | _=>exact q.elim
 ·obtain ⟨ρ,fr,h⟩:=z
  refine ha.step fr h fun r x H1 q S1 r1=>?_
  have cx:=r1.c
  generalize r.d=d at q cx
  cases d with
  | exc C p=>
   obtain ⟨ci,b,kb,q⟩:=q
   obtain ⟨a,rfl,o,u,ea,hc,_⟩:=cx.exc
   exact ⟨a,C,C',o,u,b,rfl,ea,hc,ci,kb,q _ H1 S1 (Rep.bl _)⟩
  | _=>exact q.elim
end
section
variable {X:Cx}
end
end Z
namespace L2
open PySem PySem.Spec PyProof.Rows
section
variable {P:Program} {w:World} {K:W.Frag} {mg:Str->Option Value} {base:Heap} {N:List Str} {qual:Str} {scope:Scope} {f:Addr} {cd:Value} {A:Around} {outer:List Env} {s0:Shared} {H0:Hp} {E E':XK}
theorem xe_on {pins:List (Addr × Obj)} {σ:St} {H:Hp} {s s2:Shared} {e:Value} (I:Inv (a1x (CX1 P w) P w K mg base N qual scope f cd A outer s0 H0 E) pins σ H s)
  (cx:CX1 P w (a1x (CX1 P w) P w K mg base N qual scope f cd A outer s0 H0 E).stack H s E' e s2) (hE:∀ C dd H',E' (.ref C) dd H'->E (.ref C) dd H'):(a1x (CX1 P w) P w K mg base N qual scope f cd A outer s0 H0 E).xe e s2:=by
 obtain ⟨a,o0,C,H',B,rfl,os,bare,un,hok,fl,k,na,nH,hE',hc0,hm0⟩:=cx
 have nfr:∀ b ∈ frs (a1x (CX1 P w) P w K mg base N qual scope f cd A outer s0 H0 E).stack,H' b=none:=fun b hb=>by
  obtain ⟨_,o,q,_⟩:=I.stack.mem hb
  exact un.free b o q (I.stkFree b hb) (fun z=>nomatch z)
 have I2:Inv (a1x (CX1 P w) P w K mg base N qual scope f cd A outer s0 H0 E) pins σ H' s2:=I.call' os un hok bare (fun _ z=>nomatch z)
 have mem:∀ b,b ∈ frs (a1x (CX1 P w) P w K mg base N qual scope f cd A outer s0 H0 E).stack->b=(envOfC qual scope s0.heap.objs.size f cd).locals \/ b ∈ frs outer:=fun b hb=>List.mem_cons.mp (I.stkSub b hb)
 have k1:∀ b o,s2.heap.get? b=some o->b ∉ frs outer->(H' b ≠ none \/ ∃ u,s0.heap.get? b=some u)->B.get? b=some o:=fun b o q nb hc=>by
  refine k b o q (fun hm=>?_) ?_
  ·rcases mem b hm with z | z
   ·rcases hc with hc | ⟨u,hu⟩
    ·exact hc (nfr b hm)
    ·have h1:b < s0.heap.objs.size:=Heap.lt_size hu
     have h2:s0.heap.objs.size<=b:=by rw [z]; exact I.ok.above
     exact absurd (Nat.lt_of_lt_of_le h1 h2) (Nat.lt_irrefl _)
   ·exact nb z
  ·rcases hc with hc | ⟨u,hu⟩
   ·exact .inl hc
   ·exact .inr (I.base.there b u hu (fun z=>nomatch z))
 refine fly_on I.ok.frames rfl fl fun h' fl' u'=>?_
 have sl:∀ b ∈ frs outer,∀ o,s2.heap.get? b=some o -> ∃ z,h'.get? b=some { o with slots:=z }:=fun b hb o q=>by
  obtain ⟨_,o',q',nf⟩:=I2.funs.mem hb
  rw [q] at q'
  cases q'
  exact u' b o q nf
 refine ⟨a,o0,C,H',B,rfl,os.trans I.os,bare,Un.fly I2.base k1 fl'.st sl,HOk.fly (fs:=frs outer) I2.hok (fun b hb=>?_) k1 fl'.st,fl',fun b o q nb hc=>?_,?_,nH,hE C _ H' hE',hc0,hm0⟩
 ·obtain ⟨_,o,q,_⟩:=I.ok.funs.mem hb
  exact I2.base.free b o q (I.ok.frf b hb) (fun z=>nomatch z)
 ·have:∃ o',s2.heap.get? b=some o':=by
   rcases hc with hc | ⟨u,hu⟩
   ·cases q:H' b with
    | none=>exact (hc q).elim
    | some v=>exact (I2.hok b v q).at
   ·exact I2.base.there b u hu (fun z=>nomatch z)
  obtain ⟨o',q2⟩:=this
  have q3:=k1 b o' q2 nb hc
  have q4:=fl'.st b o' q3
  rw [q] at q4
  cases q4
  exact q3
 ·cases q:s0.heap.get? a with
  | none=>rfl
  | some o=>
   obtain ⟨o',q'⟩:=I.base.there a o q (fun z=>nomatch z)
   rw [na] at q'
   cases q'
end
end L2
namespace L2
open PySem PySem.Spec PyProof.Rows
section
variable {X:Cx} {pins:List (Addr × Obj)} {σ:St} {H1:Hp} {s1 s2:Shared} {E:XK} {e:Value} {D:Ends}
end
section
variable {X:Cx} {k:Nat} {f:Addr} {fd:FuncData} {ps:List Str} {sp:Sp} {x:Str} {p cpos epos pos:Pos} {e:Expr} {es:List Expr} {t:TA}
end
section
variable {P:Program} {w:World} {K:W.Frag} {mg:Str->Option Value} {base:Heap} {N:List Str} {qual:Str} {scope:Scope} {fa:Addr} {cd:Value} {A:Around} {outer:List Env} {s0:Shared} {H0:Hp} {E0:XK}
variable {k:Nat} {f:Addr} {fd:FuncData} {ps:List Str} {sp:Sp} {x:Str} {p cpos pos:Pos} {e:Expr} {es:List Expr} {t:TA}
theorem ps_callX {y:Str} {j:Nat} {yp:Pos} (F:FnOk P w K mg base (CX1 P w) k f fd ps sp) (hr:Room k (a1x (CX1 P w) P w K mg base N qual scope fa cd A outer s0 H0 E0).A) (hg:Gl (a1x (CX1 P w) P w K mg base N qual scope fa cd A outer s0 H0 E0) x)
  (hm:mg x=some (.ref f)) (hkp:W.keepIn K (.ref f)=true) (hbd:a3B K fd ps []) (ha:PA (a1x (CX1 P w) P w K mg base N qual scope fa cd A outer s0 H0 E0) (e :: es) t)
  (hN:N.Nodup) (hj:N[j]?=some y) (hy:Loc (a1x (CX1 P w) P w K mg base N qual scope fa cd A outer s0 H0 E0).env.scope y)
  (hdb:(x == ("__debug__" : Str))=false:=by decide) (he:starEach (e :: es) (a1x (CX1 P w) P w K mg base N qual scope fa cd A outer s0 H0 E0).env=(false,eval e (a1x (CX1 P w) P w K mg base N qual scope fa cd A outer s0 H0 E0).env) :: starEach es (a1x (CX1 P w) P w K mg base N qual scope fa cd A outer s0 H0 E0).env:=by rfl) (hpl:(backTo cpos (starEach es (a1x (CX1 P w) P w K mg base N qual scope fa cd A outer s0 H0 E0).env)).any (·.1)=false:=by rfl)
  (hs:swapsWith (.Call (.Name x p) (e :: es) [] cpos) (some (.Name y yp)) pos.line (a1x (CX1 P w) P w K mg base N qual scope fa cd A outer s0 H0 E0).env=pure false:=by rfl) (hf:(a1x (CX1 P w) P w K mg base N qual scope fa cd A outer s0 H0 E0).fn y=true \/ (a1x (CX1 P w) P w K mg base N qual scope fa cd A outer s0 H0 E0).env.scope.names.lookup y=some .local:=by first | exact .inl rfl | exact .inr rfl | assumption):
  PS (a1x (CX1 P w) P w K mg base N qual scope fa cd A outer s0 H0 E0) (.Assign [.Name y yp] (.Call (.Name x p) (e :: es) [] cpos) pos)
   (fun D σ H=>t σ H fun vs H1=>sp vs H1 (fun v H2=>D.nx (σ.set j (some v)) H2) (fun cv dd H2=>∀ C,cv=.ref C->E0 (.ref C) dd H2)):=by
 intro pins s σ H D I h
 refine wpAny_Assign_Name (wpAny_Call_Name_kw (a4d I hg hm ?_ hdb)) hs
 refine W.callWith_K (h₀:=base) I.ok.mod.kin hkp (wpAny_mono (ha cpos pins s σ H _ I h) (fun us s1 z=>?_) fun e s z=>z) he hpl
 obtain ⟨vs,H1,I1,r,q⟩:=z
 refine ⟨I1.kIn,?_⟩
 have hl:us.length=ps.length:=by rw [<- r.length]; exact F.len _ _ _ _ q
 have hb1:=hbd s1 us I1.kIn (by rw [List.append_nil]; exact hl)
 rw [List.append_nil] at hb1
 refine wpAny_call (codeAny_mono (F.run (a1x (CX1 P w) P w K mg base N qual scope fa cd A outer s0 H0 E0).A (a1x (CX1 P w) P w K mg base N qual scope fa cd A outer s0 H0 E0).stack s1 H1 ⟨us,[]⟩ us vs _ _ hr I1.env0 hb1 r q) fun r s2 hq=>?_)
 cases r with
 | error e=>
  dsimp only [CR] at hq
  exact xe_on I1 hq fun C dd H' z=>z C rfl
 | ok fl=>
  cases fl with
  | ret u=>
   obtain ⟨v,H2,I2,r2,q2⟩:=I1.after hq
   exact a5a I2 hN hj hy r2 (fun s3 I3=>⟨_,H2,I3,q2⟩) hf
  | next=>exact False.elim hq
  | brk=>exact False.elim hq
  | cont=>exact False.elim hq
end
end L2
namespace Z
open PySem PySem.Spec PyProof.Rows L2
section
variable {P:Program} {w:World} {K:W.Frag} {mg:Str->Option Value} {base:Heap} {N:List Str} {qual:Str} {scope:Scope} {f:Addr} {cd:Value} {A:Around} {outer:List Env} {s0:Shared} {H0:Hp} {E:XK} {HZ:Hp} {F:Addr->Prop} {Ψ:Exn->Prop}
theorem x_raiseG {x:Str} {C:Addr} {e:Expr} {es:List Expr} {ts:TAp} {np cpos pos:Pos} (hS:∀ H',a0r HZ H'->a0r H0 H') (hh:(A.deeper (envOfC qual scope s0.heap.objs.size f cd)).handled=none) (hE:∀ C p dd H',Ψ (C,p)->a0r H0 H'->a8L H' p dd->E (.ref C) dd H')
  (hm:mg x=some (.ref C)) (q:ExcC K C) (hg:Gl (a1x (CX1 P w) P w K mg base N qual scope f cd A outer s0 H0 E) x) (ha:QA (a1x (CX1 P w) P w K mg base N qual scope f cd A outer s0 H0 E) (e :: es) ts)
  (hdb:(x == ("__debug__" : Str))=false:=by decide) (he:starEach (e :: es) (a1x (CX1 P w) P w K mg base N qual scope f cd A outer s0 H0 E).env=(false,eval e (a1x (CX1 P w) P w K mg base N qual scope f cd A outer s0 H0 E).env) :: starEach es (a1x (CX1 P w) P w K mg base N qual scope f cd A outer s0 H0 E).env:=by rfl)
  (hpl:(backTo cpos (starEach es (a1x (CX1 P w) P w K mg base N qual scope f cd A outer s0 H0 E).env)).any (·.1)=false:=by rfl):
  QxS (a1x (CX1 P w) P w K mg base N qual scope f cd A outer s0 H0 E) HZ F (.Raise (some (.Call (.Name x np) (e :: es) [] cpos)) none pos) (b0P Ψ C ts):=by
 refine ⟨fun E E' ρ w h=>h,a1O (ps_raise (X:=a1x (CX1 P w) P w K mg base N qual scope f cd A outer s0 H0 E) (Ψ:=fun H1=>E (.ref C) none H1) hh hm hg q (ha.run HZ F) (fun pins σ H s h' a us I m p=>xe_made I m p) hdb he hpl) fun D σ H z=>?_⟩
 obtain ⟨ρ,E',fr,h,en⟩:=z
 refine ha.step fr h fun rs xs H1 q1 S1 r1=>⟨?_,hE C none none H1 q1.2 (hS _ (fr.same.trans S1)) trivial⟩
 rw [r1.len]
 exact Nat.le_trans q1.1 (by decide)
def a5U (j:Nat) (sp:FnX) (ts:TAp) (Ψ:Exn->Prop):TSp:=fun E ρ=>ts ρ fun rs=>sp (rs.map R.d) (back rs fun r=>match r with
 | .v d=>E.nx (ρ.set j (.v d))
 | .nw d=>E.nx (ρ.set j (.v d))
 | .ow _ _=>False) Ψ
theorem a6s {k:Nat} {ps:List Str} {sp:FnX} {x y:Str} {j:Nat} {p cpos pos yp:Pos} {e:Expr} {es:List Expr} {ts:TAp} (hS:∀ H',a0r HZ H'->a0r H0 H') (hE:∀ C p dd H',Ψ (C,p)->a0r H0 H'->a8L H' p dd->E (.ref C) dd H')
  (d:DefX P w K mg base k x ps (lowX K sp)) (mo:MonoX sp) (hr:Room k (a1x (CX1 P w) P w K mg base N qual scope f cd A outer s0 H0 E).A) (ha:QA (a1x (CX1 P w) P w K mg base N qual scope f cd A outer s0 H0 E) (e :: es) ts)
  (hN:N.Nodup) (hj:N[j]?=some y:=by rfl) (hy:Loc (a1x (CX1 P w) P w K mg base N qual scope f cd A outer s0 H0 E).env.scope y:=by first | exact .inl rfl | exact .inr rfl) (hg:Gl (a1x (CX1 P w) P w K mg base N qual scope f cd A outer s0 H0 E) x:=by rfl)
  (hdb:(x == ("__debug__" : Str))=false:=by decide) (he:starEach (e :: es) (a1x (CX1 P w) P w K mg base N qual scope f cd A outer s0 H0 E).env=(false,eval e (a1x (CX1 P w) P w K mg base N qual scope f cd A outer s0 H0 E).env) :: starEach es (a1x (CX1 P w) P w K mg base N qual scope f cd A outer s0 H0 E).env:=by rfl) (hpl:(backTo cpos (starEach es (a1x (CX1 P w) P w K mg base N qual scope f cd A outer s0 H0 E).env)).any (·.1)=false:=by rfl)
  (hs:swapsWith (.Call (.Name x p) (e :: es) [] cpos) (some (.Name y yp)) pos.line (a1x (CX1 P w) P w K mg base N qual scope f cd A outer s0 H0 E).env=pure false:=by rfl) (hf:(a1x (CX1 P w) P w K mg base N qual scope f cd A outer s0 H0 E).fn y=true \/ (a1x (CX1 P w) P w K mg base N qual scope f cd A outer s0 H0 E).env.scope.names.lookup y=some .local:=by first | exact .inl rfl | exact .inr rfl | assumption):
  QxS (a1x (CX1 P w) P w K mg base N qual scope f cd A outer s0 H0 E) HZ F (.Assign [.Name y yp] (.Call (.Name x p) (e :: es) [] cpos) pos) (a5U j sp ts Ψ):=by
 obtain ⟨fa,fd,hm,hkp,hbd,FO⟩:=d.ex
 refine ⟨fun E1 E2 ρ w1 h=>ha.mono _ _ _ (fun rs q=>mo.mo _ _ _ _ _ (fun r q=>⟨q.1,?_⟩) (fun C q=>q) q) h,a1O (ps_callX FO hr hg hm hkp hbd (ha.run HZ F) hN hj hy hdb he hpl hs hf) fun D σ H z=>?_⟩
 ·cases r with
  | v d=>exact w1.nx _ q.2
  | nw d=>exact w1.nx _ q.2
  | ow a d=>exact q.2
 ·obtain ⟨ρ,E',fr,h,en⟩:=z
  refine ha.step fr h fun rs xs H1 q S1 r1=>?_
  have fr1:=fr.mono S1
  refine ⟨lent (MM F ρ) rs,_,Ψ,⟨fun a z=>fr1.dom z.1,fr1.tab⟩,a3u fr (fun _ h=>h) r1,mo.mo _ _ _ _ _ (fun r q x H' S rx=>?_) (fun C q=>q) q,fun C p dd H2 q S2 py C' ec=>?_⟩
  ·have b:a3l K (MM F ρ) (Z.Own ρ) H x r H':=a5m fr S1 rx q.1
   have fr2:=fr1.mono S
   cases r with
   | v d=>exact en.nx _ _ _ (fr2.setv b) q.2
   | nw d=>exact en.nx _ _ _ (fr2.setv (b.rep (fun a m=>fr.dom m) rfl)) q.2
   | ow a d=>exact q.2.elim
  ·cases ec
   exact hE C p dd H2 q (hS _ ((fr.same.trans S1).trans S2)) py
theorem x_for {tg iter:Expr} {ti:TIp} {g:TGp} {tb:TSp} {body:List Stmt} {pos:Pos} {k:Nat} (hS:∀ H',a0r HZ H'->a0r H0 H') (hi:QI (a1x (CX1 P w) P w K mg base N qual scope f cd A outer s0 H0 E) tg iter ti) (hg:QG (a1x (CX1 P w) P w K mg base N qual scope f cd A outer s0 H0 E) tg k g)
  (hb:∀ H₁:Hp,(∀ H',a0r H₁ H'->a0r H0 H')->QxB (a1x (CX1 P w) P w K mg base N qual scope f cd A outer s0 H0 E) H₁ F body tb) (hs:∀ x,foldedSetIterable iter (a1x (CX1 P w) P w K mg base N qual scope f cd A outer s0 H0 E).env x=pure x:=by intro _; rfl):
  QxS (a1x (CX1 P w) P w K mg base N qual scope f cd A outer s0 H0 E) HZ F (.For tg iter body [] pos) (a7b ti g tb):=by
 have mb:=(hb HZ hS).mono
 refine ⟨fun E E' ρ w h=>hi.mono _ _ _ (fun ds ogs h=>a4m hg.mono mb ogs ds E E' ρ w h) h,?_⟩
 obtain ⟨wi,hwi,wiq⟩:=hi.run HZ F
 obtain ⟨tt,htt,ttq⟩:=hg.run
 have hb':PSs (a1x (CX1 P w) P w K mg base N qual scope f cd A outer s0 H0 E) body (fun D σ H=>∃ P',(∀ H',a0r P' H'->a0r H0 H')/\liftS K P' F tb D σ H):=fun pins s σ H D I ⟨P',h1,q⟩=>(hb P' h1).run pins s σ H D I q
 refine a1O (ps_for PassesOwn.leaving rfl hwi htt hb' hs) fun D σ H z=>?_
 obtain ⟨ρ,E',fr,h,en⟩:=z
 refine wiq σ H ρ _ fr (hi.mono _ _ _ (fun ds ogs q J H2 S2 _ ok=>?_) h)
 have fr2:=fr.mono S2
 have en2:Ent K (prot H2 ρ) F E' D:=en.prot fr2
 refine ⟨fun i m σ' H'=>m=ds.length - i/\i<=ds.length /\ ∃ ρ',Fr K (prot H2 ρ) F σ' H' ρ'/\a1e g tb ogs (ds.drop i) E' ρ',⟨ds.length,by simp,Nat.zero_le _,ρ,fr2.prot,by simpa using q⟩,?_⟩
 rintro i m σ' H' ⟨rfl,hil,ρ',fr',q'⟩
 have gd:guard ogs ρ':=a6P q'
 have Gn:=fr2.gen fr'
 have oks:=ok i H' (MM F ρ') fr'.same Gn fun p hp=>let ⟨_,_,_,h⟩:=fr'.at_own (gd p hp); h
 by_cases hlt:i < ds.length
 ·have hd:ds[i]?=some ds[i]:=by simp [hlt]
  have hdr:ds.drop i=ds[i] :: ds.drop (i + 1):=List.drop_eq_getElem_cons hlt
  rw [hdr,a0C] at q'
  obtain ⟨go,yld⟩:=oks.1 _ hd
  refine .inr ⟨go,fun σ2 H2'=>∃ ρ2,Fr K (prot H2 ρ) F σ2 H2' ρ2/\a1e g tb ogs (ds.drop (i + 1)) E' ρ2,fun σ2 H2' ⟨ρ2,f2',q2⟩=>⟨ds.length - (i + 1),by ac_rfl,rfl,hlt,ρ2,f2',q2⟩,fun y H3 hy=>?_⟩
  obtain ⟨S3,ry⟩:=yld y H3 hy
  refine ttq _ F y _ σ' H3 ρ' _ (fr'.mono S3) ry (hg.mono _ _ _ _ (fun ρ1 q1 σ1 f1 _=>?_) q'.2)
  exact ⟨prot H2 ρ,fun H' S=>hS _ (fr2.same_of S),ρ1,_,f1,q1,fun ρ3 σ3 H3' f3 q3=>⟨ρ3,f3,q3⟩,en2.nx,fun ρ3 σ3 H3' f3 q3=>⟨ρ3,f3,q3⟩,en2.rt⟩
 ·have e:i=ds.length:=by ac_rfl
  subst e
  rw [List.drop_length,a0S] at q'
  exact .inl ⟨oks.2 (Nat.le_refl _),en2.nx _ _ _ fr' q'.2⟩
end
section
variable {X:Cx} {k:Nat} {ps:List Str} {sp:FnX} {x:Str} {p cpos epos pos:Pos} {e:Expr} {es:List Expr} {ts:TAp}
end
end Z
namespace Z
open PySem PySem.Spec PyProof.Rows L2
section
variable {K:W.Frag} {M M':Addr->Prop} {H:Hp}
end
section
variable {X:Cx} {k i:Nat} {y f:Str} {ps:List Str} {sp:Fn} {e e1 e2 z c:Expr} {es:List Expr} {ts:TAp} {tt:TTp} {tb tr:TSp} {te te2:TEp} {body rest:List Stmt} {p cpos pos' apos ipos q1 q2 q3 q4 q5 r1 r3 r4 r5:Pos}
end
theorem DefX.calm {P:Program} {w:World} {K:W.Frag} {mg:Str->Option Value} {base:Heap} {k:Nat} {x:Str} {ps:List Str} {sp:FnX} (d:DefX P w K mg base k x ps (lowX K sp)):Def P w K mg base k x ps (low K fun ds Q=>sp ds Q fun _=>False):=by
 obtain ⟨f,fd,hm,hk,hb,FO⟩:=d.ex
 refine ⟨f,fd,hm,hk,hb,fun vs H Q E q=>?_,fun A outer s H args us vs Q E hr he hbd hv q=>?_⟩
 ·obtain ⟨F,ds,hF,r,q⟩:=q
  exact FO.len vs H Q (fun _ _ _=>False) ⟨F,ds,fun _=>False,hF,r,q,fun _ _ _ _ z=>z.elim⟩
 ·obtain ⟨F,ds,hF,r,q⟩:=q
  refine codeAny_mono (FO.run A outer s H args us vs Q (fun _ _ _=>False) hr he hbd hv ⟨F,ds,fun _=>False,hF,r,q,fun _ _ _ _ z=>z.elim⟩) fun rr s' hq=>?_
  cases rr with
  | ok o=>cases o <;> exact hq
  | error e=>
   obtain ⟨_,_,_,_,_,_,_,_,_,_,_,_,_,_,z,_⟩:=hq
   exact z.elim
theorem MonoX.calm {sp:FnX} (m:MonoX sp):MonoF fun ds Q=>sp ds Q fun _=>False:=⟨fun ds Q Q' w h=>m.mo ds Q Q' _ _ w (fun _ z=>z) h⟩
end Z
namespace L2
open PySem PySem.Spec PyProof.Rows
section
variable {prog:Program} {w:World} {A:Around} {E:Value->Shared->Prop} {s:Shared}
end
section
variable {X:Cx}
def rCatU (K:W.Frag):R2:=fun x y H Q=>∃ a b xs ys,x=.ref a/\y=.ref b/\SqT K H a xs/\SqT K H b ys/\xs.length + ys.length<=sizeLine /\
 (xs=[]->Q (.ref b) H)/\(xs ≠ []->ys=[]->Q (.ref a) H)/\(xs ≠ []->ys ≠ [] -> ∀ p,H p=none->Q (.ref p) (upd H p (.tup (xs ++ ys))))
theorem op_catU:OpR X (binaryOp .Add) (rCatU X.K):=by
 intro pins s σ H x y v u Q I rx ry h
 obtain ⟨a,b,xs,ys,rfl,rfl,ha,hb,hz,q0,q1,q2⟩:=h
 by_cases hx:xs=[]
 ·cases rx
  cases ry
  obtain ⟨its,r1,p1,_⟩:=I.tuple ha
  obtain ⟨its2,r2,p2,_⟩:=I.tuple hb
  have hv:=r1.nil_iff.mpr hx
  obtain ⟨⟨cls,dd,data,sl⟩,ho,hc,n,hd⟩:=id p1
  obtain ⟨⟨cls2,dd2,data2,sl2⟩,ho2,hc2,n2,hd2⟩:=id p2
  simp only at hc hd hc2 hd2
  subst hc hd hc2 hd2
  exact concat_meets ⟨_,ho,rfl⟩ ⟨_,ho2,rfl⟩ noFill_tuple_add seq_tuple_add PySem.F.slot_tuple_add PySem.F.entry_tuple_add (PySem.F.args_tuple_add_2 _ _)
   (tuple_addW0 a b its.toArray its2.toArray n n2 dd dd2 sl sl2 (by simp [hv])) ⟨ho,ho2,.ref b,H,I,rfl,q0 hx⟩
 ·exact op_catT pins s σ H _ _ v u Q I rx ry ⟨a,b,xs,ys,rfl,rfl,ha,hb,hx,hz,q1 hx,q2 hx⟩
end
end L2
namespace Z
open PySem PySem.Spec PyProof.Rows L2
section
variable {X:Cx}
def a8g:Dv->Dv->(R->Prop)->Prop
 | .tup xs,.tup ys,Q=>xs.length + ys.length<=LIM/\Q (.v (.tup (xs ++ ys)))
 | _,_,_=>False
theorem b1f {xs ys:List Dv} {Q:R->Prop}:a8g (.tup xs) (.tup ys) Q=(xs.length + ys.length<=LIM/\Q (.v (.tup (xs ++ ys)))):=rfl
theorem a8h:OpD X (binaryOp .Add) a8g:=by
 refine ⟨fun dx dy Q Q' w h=>?_,_,op_catU,fun M O H x y dx dy Q cx cy h=>?_⟩
 ·unfold a8g at *
  split at h
  ·exact ⟨h.1,w _ h.2⟩
  ·exact h
 ·unfold a8g at h
  split at h
  ·obtain ⟨a,xs,rfl,ea,ra⟩:=cx.tup
   obtain ⟨b,ys,rfl,eb,rb⟩:=cy.tup
   have l1:=ra.length
   have l2:=rb.length
   refine ⟨a,b,xs,ys,rfl,rfl,SqT.of ea,SqT.of eb,a2V (by ac_rfl),fun e=>?_,fun _ e=>?_,fun _ _ p hp=>h.2 _ _ (a0r.new' hp) (v_tup hp (ra.append rb))⟩
   ·subst e
    cases ra
    exact h.2 _ H (a0r.refl _) (Rep.tup eb rb)
   ·subst e
    cases rb
    refine h.2 _ H (a0r.refl _) ?_
    rw [List.append_nil]
    exact Rep.tup ea ra
  ·exact h.elim
end
end Z
namespace L2
open PySem PySem.Spec PyProof.Rows
section
variable {prog:Program} {w:World} {A:Around} {E:Value->Shared->Prop} {s:Shared}
structure Ent (h:Heap) (d:Addr) (es:Array DictEntry) (ep:Nat):Prop where
 at_:∃ o,h.get? d=some o/\o.ExactDict/\o.data=.dict es ep
theorem keyNext {it d:Addr} {i n ep:Nat} {es:Array DictEntry} {en:DictEntry} {Q:Option Value->Shared->Prop} (k:s.heap.IsKeyIter it d i n ep) (g:Ent s.heap d es ep) (hn:es.size=n) (he:es[i]?=some en)
  (q:∀ h',h'.IsKeyIter it d (i + 1) n ep->Heap.SameBut it s.heap h'->Q (some en.key) { s with heap:=h' }):wpAny (model prog w) A (pyNext (.ref it)) Q E s:=by
 obtain ⟨⟨od,gd,_,dd⟩⟩:=g
 obtain ⟨oi,gi,ci,fi⟩:=id k
 have up:(s.heap.update it (Obj.mapFields (·.setIfInBounds 1 (rawInt ((i:Int) + 1))))).IsKeyIter it d (i + 1) n ep:=
  ⟨_,Heap.get?_update_self _ gi (Obj.isFreed_of_fields (Obj.data_mapFields fi _)),(Obj.cls_mapFields ..).trans ci,by rw [Obj.data_mapFields fi]; simp [rawInt]⟩
 have fin:=q _ up (Heap.SameBut.update ..)
 unfold pyNext
 refine wpAny_bind (wpAny_attempt (wpAny_callSpecial?_slot (name:=Str.ofString "__next__") k.typeIs F.slot_dict_keyiterator_next (wpAny_call_entry F.slot_dict_keyiterator_next k.typeIs F.entry_dict_keyiterator_next (wpAny_bind (wpAny_pure (wpAny_bind (wpAny_bind ?a)))) (F.args_dict_keyiterator_next_1 _))))
 refine wpAny_bind (wpAny_typeNameOfWhole_keyiter k.typeIs (wpAny_pure (wpAny_bind (wpAny_fieldsOf gi fi ?b))))
 rw [show (if Builtin.Dict_items.ownsTuple "dict_keyiterator" = true then 2 else 0)=0 by decide]
 show wpAny _ _ (ite ((Value.ref d == Value.none)=true) _ _) _ _ s
 rw [if_neg (by exact fun z=>nomatch z)]
 refine wpAny_bind (wpAny_pure (wpAny_bind (wpAny_dictEntries gd dd ?c)))
 rw [if_neg (by rw [hn]; simp)]
 refine wpAny_bind (wpAny_pure (wpAny_bind (wpAny_dictEpoch gd dd ?d)))
 rw [if_neg (by simp)]
 refine wpAny_pure ?e
 simp only [show ¬ ((i:Int) < 0) by ac_rfl,ite_false,Int.toNat_natCast,he]
 refine wpAny_bind (wpAny_bind (wpAny_typeNameOfWhole_keyiter k.typeIs (wpAny_pure (wpAny_bind (wpAny_isOneOf_keyiter k.typeIs ?f)))))
 show wpAny _ _ (setField (.ref it) 1 (rawInt ((i:Int) + 1)) >>= _) _ _ s
 refine wpAny_bind (wpAny_setField gi fi (by simp) (wpAny_bind (wpAny_holding (wpAny_bind (wpAny_isOneOf_keyiter (s:={ s with heap:=s.heap.update it (Obj.mapFields (·.setIfInBounds 1 (rawInt ((i:Int) + 1)))) }) up.typeIs ?g)))))
 show wpAny _ _ (pure en.key) _ _ _
 exact wpAny_pure (wpAny_pure ⟨_,rfl,wpAny_pure fin⟩)
theorem keyEnd {it d:Addr} {i n ep:Nat} {es:Array DictEntry} {Q:Option Value->Shared->Prop} (qu:Qu A s.heap) (k:s.heap.IsKeyIter it d i n ep) (g:Ent s.heap d es ep) (hn:es.size=n) (hi:n<=i)
  (q:∀ h',Heap.ExtBut it s.heap h'->Q none { s with heap:=h' }):wpAny (model prog w) A (pyNext (.ref it)) Q E s:=by
 obtain ⟨⟨od,gd,_,dd⟩⟩:=g
 obtain ⟨oi,gi,ci,fi⟩:=id k
 have he:es[i]?=none:=Array.getElem?_eq_none (by ac_rfl)
 unfold pyNext
 refine wpAny_bind (wpAny_attempt (wpAny_callSpecial?_slot (name:=Str.ofString "__next__") k.typeIs F.slot_dict_keyiterator_next (wpAny_call_entry F.slot_dict_keyiterator_next k.typeIs F.entry_dict_keyiterator_next (wpAny_bind (wpAny_pure (wpAny_bind (wpAny_bind ?a)))) (F.args_dict_keyiterator_next_1 _))))
 refine wpAny_bind (wpAny_typeNameOfWhole_keyiter k.typeIs (wpAny_pure (wpAny_bind (wpAny_fieldsOf gi fi ?b))))
 rw [show (if Builtin.Dict_items.ownsTuple "dict_keyiterator" = true then 2 else 0)=0 by decide]
 show wpAny _ _ (ite ((Value.ref d == Value.none)=true) _ _) _ _ s
 rw [if_neg (by exact fun z=>nomatch z)]
 refine wpAny_bind (wpAny_pure (wpAny_bind (wpAny_dictEntries gd dd ?c)))
 rw [if_neg (by rw [hn]; simp)]
 refine wpAny_bind (wpAny_pure (wpAny_bind (wpAny_dictEpoch gd dd ?d)))
 rw [if_neg (by simp)]
 refine wpAny_pure ?e
 simp only [show ¬ ((i:Int) < 0) by ac_rfl,ite_false,Int.toNat_natCast,he]
 refine wpAny_bind (wpAny_bind (wpAny_typeNameOfWhole_keyiter k.typeIs (wpAny_pure ?f)))
 show wpAny _ _ (setField (.ref it) 0 .none >>= _) _ _ s
 have ne:∀ b u,a7k u->s.heap.get? b=some u->b ≠ it:=fun b u m gb z=>by
  subst z
  rw [gi] at gb
  cases gb
  obtain ⟨us,du,z2⟩:=m
  rw [fi] at du
  cases du
  simp at z2
 refine wpAny_bind (wpAny_setField gi fi (by simp) (a3t (qu.keeps fun b u m z=>(Heap.get?_update_other _ _ (Ne.symm (ne b u m z))).trans z) fun h' e kk ⟨oe,ge,ce⟩=>?_))
 exact wpAny_bind (wpAny_isInstance (T:="StopIteration") (b:=true) ⟨oe,ge,ce⟩ isSubtype_stop (wpAny_pure (q _ fun b u hb z=>kk b u ((Heap.get?_update_other _ _ (Ne.symm hb)).trans z))))
theorem keyIter {d:Addr} {ep:Nat} {es:Array DictEntry} {Q:Value->Shared->Prop} (hd:(d == sysModules)=false) (g:Ent s.heap d es ep)
  (q:Q (.ref s.heap.objs.size) { s with heap:=s.heap.push { cls:=.type "dict_keyiterator",data:=.fields #[.ref d,.int 0 0,.int es.size 0,.int ep 0] } }):wpAny (model prog w) A (pyIter (.ref d)) Q E s:=by
 obtain ⟨⟨od,gd,ex,dd⟩⟩:=g
 have ty:s.TypeIs (.ref d) "dict" := ⟨od,gd,ex.1⟩
 refine wpAny_pyIter_slot ty F.slot_dict_iter (wpAny_call_entry F.slot_dict_iter ty F.entry_dict_iter (wpAny_bind (show wpAny _ _ (Builtin.Dict.dictSlotNone _ _) _ _ s from ?a)) (F.args_dict_iter_1 _))
 unfold Builtin.Dict.dictSlotNone
 refine wpAny_bind (wpAny_notOrdered_dict ty (show wpAny _ _ (pure (Value.ref d)) _ _ s from wpAny_pure (show wpAny _ _ (Builtin.Dict.showsAll d >>= _) _ _ s from wpAny_bind ?b)))
 unfold Builtin.Dict.showsAll
 rw [if_neg (by rw [hd]; exact Bool.false_ne_true)]
 refine wpAny_pure (wpAny_bind (wpAny_dictEntries gd dd (wpAny_bind (wpAny_dictEpoch gd dd (wpAny_bind (wpAny_newObj_type (wpAny_pure ⟨_,rfl, "dict_keyiterator",_,⟨_,Heap.get?_push_size _ rfl,rfl⟩,F.slot_dict_keyiterator_next.lookup,?c⟩)))))))
 simpa [rawInt] using q
end
end L2
namespace Z
open PySem PySem.Spec PyProof.Rows L2
section
variable {X:Cx} {tg l:Expr} {tl:TEp}
end
end Z
namespace L2
open PySem PySem.Spec PyProof.Rows
noncomputable def cutS (z:Str) (lo hi:Option Int):Str:=⟨((z.cps.toList.drop (HT.sIx z.cps.toList.length 0 lo)).take (HT.sIx z.cps.toList.length z.cps.toList.length hi - HT.sIx z.cps.toList.length 0 lo)).toArray⟩
noncomputable def clip1 (n:Int) (d:Int):Option Int->Int
 | none=>d
 | some i=>max 0 (min (if i < 0 then i + n else i) n)
theorem clip1_eq (n d:Nat) (o:Option Int):clip1 n d o=((HT.sIx n d o:Nat):Int):=by
 cases o with
 | none=>rfl
 | some i=>
  show max 0 (min (if i < 0 then i + (n:Int) else i) (n:Int))=(((if i < 0 then (i + (n:Int)).toNat else min i.toNat n:Nat)):Int)
  by_cases h:i < 0
  ·rw [if_pos h,if_pos h]; ac_rfl
  ·rw [if_neg h,if_neg h]; ac_rfl
theorem idx_of (lo hi:Option Int) (n:Nat):Builtin.Str.strSliceIndices lo hi 1 n=(List.range (HT.sIx n n hi - HT.sIx n 0 lo)).map (fun k=>HT.sIx n 0 lo + k):=by
 have e:Builtin.Str.strSliceIndices lo hi 1 n=sliceRange (clip1 n (0:Nat) lo) (clip1 n n hi) 1:=by cases lo <;> cases hi <;> rfl
 rw [e,clip1_eq,clip1_eq]
 unfold sliceRange
 rw [if_pos (show (1:Int) > 0 by decide)]
 generalize HT.sIx n n hi=q
 generalize HT.sIx n 0 lo=p
 by_cases h:(p:Int) < q
 ·rw [if_pos h]
  show List.map _ (List.range (((q:Int) - p + 1 - 1) / 1).toNat)=_
  rw [show (((q:Int) - p + 1 - 1) / 1).toNat=q - p by rw [Int.ediv_one]; ac_rfl]
  refine List.map_congr_left fun k _=>?_
  ac_rfl
 ·rw [if_neg h,show q - p=0 by ac_rfl]
  rfl
theorem pickedN (l:List Nat):∀ (n a:Nat),a + n<=l.length->((List.range n).map (a + ·)).filterMap (l[·]?)=(l.drop a).take n
 | 0,_,_=>by simp
 | n + 1,a,h=>by
  have hlt:a + n < l.length:=by ac_rfl
  rw [List.range_succ,List.map_append,List.filterMap_append,pickedN l n a (by ac_rfl),List.take_add_one,List.getElem?_drop]
  simp [List.getElem?_eq_getElem hlt]
theorem slice_cut (z:Str) (lo hi:Option Int):Txt.slice z lo hi=cutS z lo hi:=by
 have hn:z.cps.toList.length=z.length:=Array.length_toList
 unfold Txt.slice cutS
 rw [idx_of,hn]
 have h1:HT.sIx z.length z.length hi<=z.length:=HT.sIx_le _ _ (Nat.le_refl _) hi
 have h0:HT.sIx z.length 0 lo<=z.length:=HT.sIx_le _ _ (Nat.zero_le _) lo
 generalize HT.sIx z.length z.length hi=q at *
 generalize HT.sIx z.length 0 lo=p at *
 by_cases h:q - p=z.length
 ·rw [if_pos (by rw [List.length_map,List.length_range,h]; simp)]
  by_cases hz:z.length=0
  ·have e:z.cps.toList=[]:=List.eq_nil_of_length_eq_zero (hn.trans hz)
   refine PyProof.Rows.ext_toList ?_
   simp [e]
  ·rw [show p=0 by ac_rfl,List.drop_zero,List.take_of_length_le (by ac_rfl)]
 ·rw [if_neg (by rw [List.length_map,List.length_range]; simpa using h)]
  refine PyProof.Rows.ext_toList ?_
  show ((List.filterMap (fun x=>z.cps[x]?) (List.map (fun k=>p + k) (List.range (q - p)))).toArray).toList=(List.take (q - p) (List.drop p z.cps.toList)).toArray.toList
  rw [List.toList_toArray,List.toList_toArray]
  by_cases hpq:p<=q
  ·rw [<- pickedN z.cps.toList (q - p) p (by ac_rfl)]
   simp
  ·rw [show q - p=0 by ac_rfl]; rfl
def rSlS:V->Option Int->Option Int->Hp->VK->Prop:=fun x lo hi H Q=>∃ z,x=.str z/\z.length<=sizeLine/\Q (.str (cutS z lo hi)) H
theorem part_of {v:Value} {o:Option Int} (p:IsPart v o):∃ l:Option (Int × Tok),v=partValue l/\l.map (·.1)=o:=by
 cases p with
 | none=>exact ⟨none,rfl,rfl⟩
 | int i t=>exact ⟨some (i,t),rfl,rfl⟩
theorem sl_str {X:Cx}:SlR X rSlS:=by
 intro pins s σ H x v vl vu lo hi sl Q I rx hs pl pu h
 obtain ⟨z,rfl,hz,q⟩:=h
 obtain ⟨t,rfl⟩:=rx
 obtain ⟨l,rfl,rfl⟩:=part_of pl
 obtain ⟨u,rfl,rfl⟩:=part_of pu
 refine ⟨"str",_,F.slot_str_getitem.lookup,typeIs_str s z t,wpAny_getItem_str_slice (l:=l) (u:=u) (st:=none) hs rfl ?_⟩
 rw [<- slice_cut] at q
 have hl:=Txt.slice_le z (l.map (·.1)) (u.map (·.1))
 unfold Txt.slice at q hl
 unfold sliceMade slicePicked
 by_cases c:((1:Int) == 1 && (Builtin.Str.strSliceIndices (l.map (·.1)) (u.map (·.1)) 1 z.length).length == z.length)=true
 ·rw [if_pos c] at q
  rw [if_pos (by exact c)]
  exact ⟨.str z,H,I,⟨t,rfl⟩,q⟩
 ·rw [if_neg c] at q hl
  rw [if_neg (by exact c)]
  exact ⟨Nat.le_trans hl hz,.str _,H,I.tok _,⟨_,rfl⟩,q⟩
section
variable {X:Cx}
end
end L2
namespace Z
open PySem PySem.Spec PyProof.Rows L2
section
variable {X:Cx} {tg l e o:Expr} {tl te to:TEp} {pos apos cpos:Pos}
def pSlS:Dv->Option Int->Option Int->(R->Prop)->Prop
 | .str z,lo,hi,Q=>z.length<=LIM/\Q (.v (.str (cutS z lo hi)))
 | _,_,_,_=>False
def eSlS (te:TEp) (tl th:TOp):TEp:=fun ρ Q=>te ρ fun r=>tl ρ fun lo=>th ρ fun hi=>pSlS r.d lo hi Q
theorem q_sliceS {lo hi:Option Expr} {tl th:TOp} {p2:Pos} (he:QE X e te) (hl:QO X lo tl) (hh:QO X hi th):QE X (.Subscript e (.Slice lo hi none p2) pos) (eSlS te tl th):=by
 refine ⟨fun ρ Q Q' w q=>he.mono _ _ _ (fun r q=>hl.mono _ _ _ (fun l q=>hh.mono _ _ _ (fun u q=>?_) q) q) q,fun HZ F=>a0T (b0U sl_str (he.run HZ F) (hl.run HZ F) (hh.run HZ F)) fun σ H Q ⟨ρ,fr,q⟩=>?_⟩
 ·generalize r.d=d at q ⊢
  unfold pSlS at *
  cases d with
  | str z=>exact ⟨q.1,w _ q.2⟩
  | _=>exact q
 ·refine he.step fr q fun r x H1 q S1 r1=>?_
  refine ⟨ρ,fr.mono S1,hl.mono _ _ _ (fun l q H2 S2=>?_) q⟩
  refine ⟨ρ,(fr.mono S1).mono S2,hh.mono _ _ _ (fun u q H3 S3=>?_) q⟩
  have S13:=(S1.trans S2).trans S3
  have c:=(r1.mono (S2.trans S3)).c
  generalize r.d=d at q c
  unfold pSlS at q
  split at q
  ·obtain rfl:=c.str
   exact ⟨_,rfl,a2V q.1,q.2 _ _ S13 (Rep.str _)⟩
  ·exact q.elim
end
end Z
namespace Z
open PySem PySem.Spec PyProof.Rows L2
theorem pSlS_s {z:Str} {lo hi:Option Int} {Q:R->Prop}:(pSlS (.str z) lo hi Q)=(z.length<=LIM/\Q (.v (.str (cutS z lo hi)))):=rfl
end Z
namespace L2
open PySem PySem.Spec PySem.W PyProof.Rows Tim
section
variable {prog:Program} {w:World} {A:Around} {E:Value->Shared->Prop} {s:Shared}
theorem cmp_tup {prog:Program} {w:World} {s:Shared} {a:Addr} {its:List SIt} {k:Nat} (two:2<=(its.map fun t=>Value.ref t.1).length) (hits:∀ t ∈ its,t.2.1.length=k + 1) (hd:its.Pairwise (fun t u=>t.2.1 ≠ u.2.1))
  (tup:∀ t ∈ its,∃ (o:Obj) (a b:List Value) (n:Nat),s.heap.get? t.1=some o/\o.cls=.type "tuple" /\ o.data=.seq (a ++ b).toArray n/\IntsAre a t.2.1) (far:∀ t ∈ its,t.1 ≠ a):
  Cmp prog w s a (its.map fun t=>Value.ref t.1) (fun i j=>a7A (its.getD i (0,[],[])).2.1 (its.getD j (0,[],[])).2.1) (tuples' true):=by
 have len:(its.map fun t=>Value.ref t.1).length=its.length:=by simp
 let num:Nat->List Int:=fun i=>(its.getD i (0,[],[])).2.1
 have get:∀ i,i < its.length->(its.map fun t=>Value.ref t.1).getD i Value.none=Value.ref (its.getD i (0,[],[])).1:=fun i hi=>by simp [hi]
 have mem:∀ i,i < its.length->its.getD i (0,[],[]) ∈ its:=fun i hi=>by
  rw [List.getD_eq_getElem?_getD,List.getElem?_eq_getElem hi]
  exact List.getElem_mem hi
 have ne:∀ i j,i < its.length->j < its.length->i ≠ j->num i ≠ num j:=fun i j hi hj n=>by
  have e:∀ i,i < its.length->num i=(its[i]!).2.1:=fun i hi=>by simp [num,hi]
  have pw:=List.pairwise_iff_getElem.mp hd
  have ei:its.getD i (0,[],[])=its[i]:=by simp [hi]
  have ej:its.getD j (0,[],[])=its[j]:=by simp [hj]
  show (its.getD i (0,[],[])).2.1 ≠ (its.getD j (0,[],[])).2.1
  rw [ei,ej]
  rcases Nat.lt_or_gt_of_ne n with z | z
  ·exact pw i j hi hj z
  ·exact (pw j i hj hi z).symm
 refine ⟨lexB_weak num,fun A h Q' hk q'=>?_,fun A h i j C hk hi hj hn q'=>?_⟩
 ·have go:∀ l:List SIt,(∀ t ∈ l,t ∈ its) -> ∃ fs:List Value,KatTups h (l.map fun t=>Value.ref t.1) fs/\fs.length=l.length /\ ∀ v ∈ fs,∃ x y,v=Value.int x y:=by
   intro l
   induction l with
   | nil=>intro _; exact ⟨[],.nil,rfl,fun v hv=>by cases hv⟩
   | cons t r ih=>
    intro hm
    obtain ⟨fs,kt,e,al⟩:=ih fun u hu=>hm u (List.mem_cons_of_mem _ hu)
    have ht:=hm t (List.mem_cons_self ..)
    obtain ⟨o,a,b,n,ho,hc,hd',ia⟩:=tup t ht
    obtain ⟨x,rest,ex⟩:∃ x rest,t.2.1=x :: rest:=by
     have:=hits t ht
     cases e':t.2.1 with
     | nil=>rw [e'] at this; cases this
     | cons x rest=>exact ⟨x,rest,rfl⟩
    rw [ex] at ia
    cases ia with
    | cons _ y ia'=>
     refine ⟨Value.int x y :: fs,KatTups.cons (hk _ _ (far t ht) ho) hc hd' (by simp) kt,by simp [e],fun v hv=>?_⟩
     rcases List.mem_cons.mp hv with rfl | hv
     ·exact ⟨x,y,rfl⟩
     ·exact al v hv
  obtain ⟨fs,kt,e,al⟩:=go its fun _ h=>h
  refine kat_kind (s:={ s with heap:=h }) (T:=.type "int") kt (by rw [e]; simp at two; ac_rfl) (fun v hv=>?_) (by decide) q'
  obtain ⟨x,y,rfl⟩:=al v hv
  exact Looks.of_pure rfl
 ·rw [len] at hi hj
  rw [get i hi,get j hj]
  obtain ⟨o,a,b,n,ho,hc,hd',ia⟩:=tup _ (mem i hi)
  obtain ⟨o2,a2,b2,n2,ho2,hc2,hd2,ia2⟩:=tup _ (mem j hj)
  refine kat_lt (s:={ s with heap:=h }) (hk _ _ (far _ (mem i hi)) ho) hd' (hk _ _ (far _ (mem j hj)) ho2) hd2 ?_
  exact b1l _ _ a a2 b b2 0 ia ia2 (by rw [hits _ (mem i hi),hits _ (mem j hj)]) (ne i j hi hj hn) q'
theorem Ent.keep {h h':Heap} {d:Addr} {es:Array DictEntry} {ep:Nat} (x:Ent h d es ep) (k:∀ o,h.get? d=some o->h'.get? d=some o):Ent h' d es ep:=by
 obtain ⟨⟨o,g,r⟩⟩:=x
 exact ⟨⟨o,k o g,r⟩⟩
theorem Ent.lt {h:Heap} {d:Addr} {es:Array DictEntry} {ep:Nat} (x:Ent h d es ep):d < h.objs.size:=by
 obtain ⟨⟨o,g,r⟩⟩:=x
 exact Heap.lt_size g
theorem ent_walks (hh:A.handled=none) (I d:Addr) (hne:d ≠ I) (es:Array DictEntry) (ep:Nat):
  Walks prog w A I [I,d] [I] es.size (fun i v=>∃ en,es[i]?=some en/\v=en.key) (fun i h=>h.IsKeyIter I d i es.size ep/\Ent h d es ep) where
 sub:=fun b hb=>by rw [List.mem_singleton.mp hb]; exact List.mem_cons_self ..
 frame:=fun i h h' st k=>⟨st.1.at fun o e=>k I (by simp) o e,st.2.keep fun o e=>k d (by simp) o e⟩
 item:=fun i s Q E hi st q=>by
  have hx:es[i]?=some es[i]:=Array.getElem?_eq_getElem hi
  exact keyNext st.1 st.2 rfl hx fun h' st' sb=>q _ h' s.toks ⟨_,hx,rfl⟩ ⟨st',st.2.keep fun o e=>(sb.2 d hne).trans e⟩ fun b o hb e=>(sb.2 b (by simpa using hb)).trans e
 done:=fun s Q E st q=>keyEnd (.inl hh) st.1 st.2 rfl (Nat.le_refl _) fun h' eb=>q h' s.toks fun b o hb e=>eb b o (by simpa using hb) e
 self:=fun i s Q E st q=>wpAny_pyIter_keyiter st.1 q
theorem ent_src {d:Addr} {es:Array DictEntry} {ep:Nat} (lo:(d == sysModules)=false):W.KdlSrc prog w "dict" d d es.size (fun i v=>∃ en,es[i]?=some en/\v=en.key) (fun h=>Ent h d es ep) where
 type:=fun s x=>by
  obtain ⟨⟨o,g,ex,_⟩⟩:=x
  exact ⟨o,g,ex.1⟩
 there:=fun h x=>⟨x.lt,x.lt⟩
 keep:=fun h h' x k=>x.keep fun o e=>k d (.inl rfl) o e
 notList:=by decide
 notTuple:=by decide
 hint:=fun A E s Q x q=>W.kdl_hint_dict (by obtain ⟨⟨o,g,ex,_⟩⟩:=x; exact ⟨o,g,ex.1⟩) q
 iter:=fun A s hh x=>⟨_,_,fun E Q q=>keyIter lo x q,ent_walks hh _ d (Nat.ne_of_lt x.lt) es ep,⟨_,Heap.get?_push_size _ rfl,rfl,rfl⟩,x.keep fun o e=>Heap.get?_push_of_some _ e⟩
theorem coll_src {T:String} {r d:Addr} {n:Nat} {P:Nat->Value->Prop} {OK:Heap->Prop} {R:List Value->Shared->Prop} (K:W.KdlSrc prog w T r d n P OK) (hq:A.handled=none) (ok:OK s.heap) (le:n<=sizeLine)
  (fin:∀ (h1:Heap) (tk:Nat) (acc:Array Value),(∀ b o,s.heap.get? b=some o->h1.get? b=some o)->s.heap.objs.size < h1.objs.size->ItemsOf P acc n->R acc.toList { s with heap:=h1,toks:=tk }):wpAny (model prog w) A (collect (.ref r)) R E s:=by
 obtain ⟨l1,l2⟩:=K.there _ ok
 let N:=s.heap.objs.size
 let hN:=s.heap.push { cls:=.type "list",data:=.seq ([]:List Value).toArray }
 have oN:hN.get? N=some { cls:=.type "list",data:=.seq #[] }:=Heap.get?_push_size _ rfl
 have up:∀ b o,s.heap.get? b=some o->hN.get? b=some o:=fun b o e=>Heap.get?_push_of_some _ e
 let G:Result->Shared->Prop:=fun q s2=>∃ (h1:Heap) (tk:Nat) (acc:Array Value) (c:Nat),q=.ok (.ret (.ref N))/\s2={ s with heap:=h1,toks:=tk }/\(∀ b o,s.heap.get? b=some o->h1.get? b=some o)/\h1.get? N=some { cls:=.type "list",dict:=none,data:=.seq acc c,slots:=#[] }/\ItemsOf P acc n
 have gone:=W.kdl_extend (A:=A) (s:={ s with heap:=hN }) (R:=G) K hq (K.keep _ _ ok fun b _ o e=>up b o e) N (Nat.ne_of_gt l1) (Nat.ne_of_gt l2) (.ref N) 0 oN
  (fun h1 tk acc c k g it=>⟨h1,tk,acc,c,rfl,rfl,fun b o e=>k b o (Nat.ne_of_lt (Heap.lt_size e)) (up b o e),g,it⟩) le
 have last:∀ (h1:Heap) (tk:Nat) (acc:Array Value) (c:Nat),(∀ b o,s.heap.get? b=some o->h1.get? b=some o)->h1.get? N=some { cls:=.type "list",dict:=none,data:=.seq acc c,slots:=#[] }->ItemsOf P acc n ->
   wpAny (model prog w) A (do let o <- load N; match o.data with | .seq xs _=>pure xs.toList | _=>unsupported "internal:collect") R E { s with heap:=h1,toks:=tk }:=fun h1 tk acc c k g it=>
  wpAny_bind (wpAny_load g (wpAny_pure (fin h1 tk acc k (Heap.lt_size g) it)))
 unfold collect
 refine wpAny_bind (wpAny_runValue (codeAny_builtin PySem.F.entry_proto_collect ?_)); rw [Around.under_plainId PySem.F.plain_proto_collect _]
 refine wpAny_bind (m:=newList []) (wpAny_newObj_type (wpAny_pure ⟨plainId_quiet PySem.F.plain_list_iadd _,codeAny_builtin PySem.F.entry_list_iadd ?_⟩)); rw [Around.under_plainId PySem.F.plain_list_iadd _]
 refine wpAny_mono gone (fun fin2 s2 z=>?_) fun e s2 z=>?_
 ·cases fin2 with
  | done f=>obtain ⟨h1,tk,acc,c,e,rfl,k,g,it⟩:=z; cases e; exact last h1 tk acc c k g it
  | again c1=>exact ⟨z.1,codeAny_mono z.2 fun q s3 y=>by obtain ⟨h1,tk,acc,c,rfl,rfl,k,g,it⟩:=y; exact last h1 tk acc c k g it⟩
 ·obtain ⟨_,_,_,_,z,_⟩:=z; cases z
end
section
variable {X:Cx}
theorem its_of {H:Hp} {kvs:List (List Key × V)} {xs:List (List Key × Addr × Value)} (r:KT H kvs xs) {kns:List (List Int)} (hk:kvs.map (·.1)=kns.map fun l=>l.map Sum.inl):
  ∃ its:List SIt,its.map (·.2.1)=kns/\xs.map (fun q=>Value.ref q.2.1)=its.map (fun t=>Value.ref t.1)/\(∀ t ∈ its,H t.1=some (.tup (t.2.1.map V.int))/\t.2.2=[])/\xs.map (·.1)=kns.map fun l=>l.map Sum.inl:=by
 induction r generalizing kns with
 | nil=>
  cases kns with
  | nil=>exact ⟨[],rfl,rfl,fun t ht=>(List.not_mem_nil ht).elim,rfl⟩
  | cons _ _=>cases hk
 | @cons p q ps qs h t ih=>
  cases kns with
  | nil=>cases hk
  | cons l kns=>
   rw [List.map_cons,List.map_cons] at hk
   injection hk with h1 h2
   obtain ⟨its,e1,e2,e3,e4⟩:=ih h2
   refine ⟨(q.2.1,l,[]) :: its,by rw [List.map_cons,e1],by rw [List.map_cons,List.map_cons,e2],fun t ht=>?_,by rw [List.map_cons,List.map_cons,e4,<- h.1,h1]⟩
   rcases List.mem_cons.mp ht with rfl | ht
   ·refine ⟨?_,rfl⟩
    have:=h.2.1
    rw [h1,List.map_map] at this
    exact this
   ·exact e3 t ht
end
end L2
namespace L2
open PySem PySem.Spec PyProof.Rows
section
variable {X:Cx}
theorem get_list0:PGet X (fun o i H Q=>∃ p xs k v,o=.ref p/\i=.int (k:Nat)/\H p=some (.lst xs)/\xs[k]?=some v/\Q v H):=by
 intro pins s σ H o i ov iv Q I ro ri h
 obtain ⟨p,xs,k,v,rfl,rfl,hp,hv,q⟩:=h
 cases ro
 obtain ⟨t,rfl⟩:=ri
 obtain ⟨its,r,pl,hz⟩:=I.list (SqL.of hp)
 obtain ⟨w,ew,rw'⟩:=r.get hv
 have hl:=r.length
 have hk:=(List.getElem?_eq_some_iff.mp hv).1
 have hn:=a6c
 exact wpAny_getItem_list pl.isList (by ac_rfl) (by ac_rfl) (by rw [Int.toNat_natCast]; simpa using ew) ⟨v,H,I,rw',q⟩
structure Words (K:W.Frag) (wa:Addr) (ys:List Str):Prop where
 at_:∃ (o:Obj) (vs:List Value) (n:Nat),K.lookup wa=some o/\o.cls=.type "tuple" /\ o.data=.seq vs.toArray n/\StrsAre vs ys
theorem op_inW {wa:Addr} {ys:List Str} (W:Words X.K wa ys):OpR X (compareOp .In) (fun x y H Q=>∃ z,x=.str z/\y=.ref wa/\Q (.bl (ys.any (· == z))) H):=by
 intro pins s σ H x y v u Q I rx ry h
 obtain ⟨z,rfl,rfl,q⟩:=h
 obtain ⟨t,rfl⟩:=rx
 cases ry
 obtain ⟨o,vs,n,hk,hc,hd,hs⟩:=W.at_
 exact in_tuple_strs (items:=vs.toArray) ⟨o,I.kIn wa o hk,hc,n,hd⟩ (by simpa using hs) ⟨.bl _,H,I,rfl,q⟩
def tChain3 (r r' r'':R2) (ta tb tc td:TE):TE:=fun σ H Q=>ta σ H fun x H1=>tb σ H1 fun y H2=>r x y H2 fun z H3=>∃ k,z=.bl k /\
 (if k=true then tc σ H3 fun w' H4=>r' y w' H4 fun z' H5=>∃ k',z'=.bl k'/\(if k'=true then td σ H5 fun u' H6=>r'' w' u' H6 Q else Q (.bl false) H5) else Q (.bl false) H3)
theorem pe_chain3 {a b c d:Expr} {ta tb tc td:TE} {pos:Pos} {op op' op'':CmpOp} {r r' r'':R2} (ho:OpR X (compareOp op) r) (ho':OpR X (compareOp op') r') (ho'':OpR X (compareOp op'') r'') (ha:PE X a ta) (hb:PE X b tb) (hc:PE X c tc) (hd:PE X d td)
  (hm:lastMarks [op,op',op''] [b,c,d]=false:=by with_unfolding_all rfl):PE X (.Compare a [op,op',op''] [b,c,d] pos) (tChain3 r r' r'' ta tb tc td):=by
 intro pins s σ H Q I h
 refine Compare_chain (thn (ha pins s σ H _ I h) fun v s1 ⟨x,H1,I1,r1,q1⟩=>chain_link (thn (hb pins s1 σ H1 _ I1 q1) fun u s2 ⟨y,H2,I2,r2,q2⟩=>
  thn (ho pins s2 σ H2 x y v u _ I2 r1 r2 q2) fun d1 s3 ⟨z,H3,I3,r3,k,e,q3⟩=>?_)) hm
 subst e
 cases r3
 refine wpAny_truthy_bool ?_
 cases k with
 | false=>exact ite_ff ⟨.bl false,H3,I3,rfl,q3⟩
 | true=>
  refine ite_tt (chain_link (thn (hc pins s3 σ H3 _ I3 q3) fun u3 s4 ⟨y4,H4,I4,r4,q4⟩=>thn (ho' pins s4 σ H4 y y4 u u3 _ I4 r2 r4 q4) fun d2 s5 ⟨z5,H5,I5,r5,k5,e5,q5⟩=>?_))
  subst e5
  cases r5
  refine wpAny_truthy_bool ?_
  cases k5 with
  | false=>exact ite_ff ⟨.bl false,H5,I5,rfl,q5⟩
  | true=>exact ite_tt (chain_last (thn (hd pins s5 σ H5 _ I5 q5) fun w6 s6 ⟨z6,H6,I6,r6,q6⟩=>ho'' pins s6 σ H6 y4 z6 u3 w6 Q I6 r4 r6 q6))
end
end L2
namespace Z
open PySem PySem.Spec PyProof.Rows L2
section
variable {X:Cx} {a b c d e:Expr} {ta tb tc td te:TEp} {pos:Pos}
def a8B (f g h:Int->Int->Bool) (ta tb tc td:TEp):TEp:=fun ρ Q=>ta ρ fun x=>tb ρ fun y=>∃ i j,x.d=.int i/\y.d=.int j /\
 if f i j=true then tc ρ fun z=>∃ k,z.d=.int k/\(if g j k=true then td ρ fun u=>∃ l,u.d=.int l/\Q (.v (.bl (h k l))) else Q (.v (.bl false))) else Q (.v (.bl false))
theorem q_chain3 {op op' op'':CmpOp} {f g h:Int->Int->Bool} (ho:OpR X (compareOp op) (rI0 fun i j=>.bl (f i j))) (ho':OpR X (compareOp op') (rI0 fun i j=>.bl (g i j))) (ho'':OpR X (compareOp op'') (rI0 fun i j=>.bl (h i j))) (ha:QE X a ta) (hb:QE X b tb) (hc:QE X c tc) (hd:QE X d td)
  (hm:lastMarks [op,op',op''] [b,c,d]=false:=by with_unfolding_all rfl):QE X (.Compare a [op,op',op''] [b,c,d] pos) (a8B f g h ta tb tc td):=by
 refine ⟨fun ρ Q Q' w q=>ha.mono _ _ _ (fun x q=>hb.mono _ _ _ (fun y q=>?_) q) q,fun HZ F=>a0T (pe_chain3 ho ho' ho'' (ha.run HZ F) (hb.run HZ F) (hc.run HZ F) (hd.run HZ F) hm) fun σ H Q ⟨ρ,fr,q⟩=>?_⟩
 ·obtain ⟨i,j,e1,e2,q⟩:=q
  refine ⟨i,j,e1,e2,?_⟩
  cases hf:f i j with
  | false=>rw [hf] at q; exact a7h (w _ (by simpa using q))
  | true=>
   rw [hf] at q
   refine a8M (hc.mono _ _ _ (fun z q=>?_) (by simpa using q))
   obtain ⟨k,e3,q⟩:=q
   refine ⟨k,e3,?_⟩
   cases hg:g j k with
   | false=>rw [hg] at q; exact a7h (w _ (by simpa using q))
   | true=>rw [hg] at q; exact a8M (hd.mono _ (fun u=>∃ l,u.d=Dv.int l/\Q (.v (.bl (h k l)))) _ (fun u q=>by obtain ⟨l,e4,q⟩:=q; exact ⟨l,e4,w _ q⟩) (by simpa using q))
 ·refine ha.step fr q fun rx x H1 q1 S1 r1=>?_
  refine hb.step (fr.mono S1) q1 fun ry y H2 q2 S2 r2=>?_
  have cx:=(r1.mono S2).c
  have cy:=r2.c
  obtain ⟨i,j,e1,e2,q2⟩:=q2
  rw [e1] at cx
  rw [e2] at cy
  obtain rfl:=cx.int
  obtain rfl:=cy.int
  have S12:=S1.trans S2
  refine ⟨_,_,rfl,rfl,f i j,rfl,?_⟩
  cases hf:f i j with
  | false=>
   rw [hf] at q2
   simp only [Bool.false_eq_true,if_false] at q2
   exact a7h (q2 _ H2 S12 (Rep.bl _))
  | true=>
   rw [hf] at q2
   refine a8M (hc.step ((fr.mono S1).mono S2) (show tc ρ _ by simpa using q2) fun rz z H3 q3 S3 r3=>?_)
   have cz:=r3.c
   obtain ⟨k,e3,q3⟩:=q3
   rw [e3] at cz
   obtain rfl:=cz.int
   have S13:=S12.trans S3
   refine ⟨_,_,rfl,rfl,g j k,rfl,?_⟩
   cases hg:g j k with
   | false=>
    rw [hg] at q3
    simp only [Bool.false_eq_true,if_false] at q3
    exact a7h (q3 _ H3 S13 (Rep.bl _))
   | true=>
    rw [hg] at q3
    refine a8M (hd.step (((fr.mono S1).mono S2).mono S3) (show td ρ _ by simpa using q3) fun ru u H4 q4 S4 r4=>?_)
    have cu:=r4.c
    obtain ⟨l,e4,q4⟩:=q4
    rw [e4] at cu
    obtain rfl:=cu.int
    exact ⟨_,_,rfl,rfl,q4 _ H4 (S13.trans S4) (Rep.bl _)⟩
def eInW (ys:List Str) (te:TEp):TEp:=fun ρ Q=>te ρ fun r=>∃ z,r.d=.str z/\Q (.v (.bl (ys.any (· == z))))
theorem q_inW {y:Str} {p2:Pos} {wa:Addr} {ys:List Str} (he:QE X e te) (hmy:X.mg y=some (.ref wa)) (W:Words X.K wa ys) (hgy:Gl X y:=by rfl) (hdy:(y == ("__debug__" : Str))=false:=by decide) (hmk:behindInMarks .In (.Name y p2)=false:=by with_unfolding_all rfl):
  QE X (.Compare e [.In] [.Name y p2] pos) (eInW ys te):=by
 refine ⟨fun ρ Q Q' w q=>he.mono _ _ _ (fun r ⟨z,e1,q⟩=>⟨z,e1,w _ q⟩) q,fun HZ F=>a0T (pe_cmpR (op_inW W) (he.run HZ F) (a9U (v:=.ref wa) hgy hmy rfl hdy) hmk) fun σ H Q ⟨ρ,fr,q⟩=>?_⟩
 refine he.step fr q fun r x H1 q S1 r1=>?_
 obtain ⟨z,e1,q⟩:=q
 have cx:=r1.c
 rw [e1] at cx
 obtain rfl:=cx.str
 exact ⟨_,rfl,rfl,q _ H1 S1 (Rep.bl _)⟩
def sAugI (i:Nat) (tk te:TEp):TSp:=fun E ρ=>match ρ[i]? with
 | some (.own a (.lst xs))=>tk ρ fun k=>∃ (n:Nat) (x:Int),k.d=.int n/\xs[n]?=some (.int x)/\te ρ fun r=>∃ y:Int,r.d=.int y/\E.nx (ρ.set i (.own a (.lst (xs.set n (.int (x + y))))))
 | _=>False
theorem q_augI {i:Nat} {x:Str} {p1 p2:Pos} {k:Expr} {tk:TEp} (hv:PE X (.Name x p1) (tVar i)) (hk:QE X k tk) (he:QE X e te)
  (ha:∀ ov iv new,augStore k ov iv new=(do holding [new,ov,iv] (setItem ov iv new); release [new,ov,iv] []; pure .next):=by intros; rfl):QS X (.AugAssign (.Subscript (.Name x p1) k p2) .Add e pos) (sAugI i tk te):=by
 refine ⟨fun E E' ρ w h=>?_,fun HZ F=>a1O (ps_augS hv (hk.run HZ F) get_list0 (he.run HZ F) ip_add set_list ha) fun D σ H ⟨ρ,E,fr,h,en⟩=>?_⟩
 ·unfold sAugI at *
  split at h
  ·exact hk.mono _ _ _ (fun kk ⟨n,z,e1,e2,q⟩=>⟨n,z,e1,e2,he.mono _ _ _ (fun r ⟨y,e3,q⟩=>⟨y,e3,w.nx _ q⟩) q⟩) h
  ·exact h
 ·unfold sAugI at h
  split at h
  ·rename_i a xs hx
   obtain ⟨hs1,vs,hv1,rv1⟩:=fr.sl i _ hx
   refine ⟨_,hs1,hk.step fr h fun kk z H1 q S1 rk=>?_⟩
   obtain ⟨n,zz,e1,e2,q⟩:=q
   have ck:=rk.c
   rw [e1] at ck
   obtain rfl:=ck.int
   obtain ⟨v,hv2,rv2⟩:=rv1.get e2
   cases rv2
   have h1:=S1 _ _ hv1
   refine ⟨a,vs,n,_,rfl,rfl,h1,hv2,he.step (fr.mono S1) q fun r y H2 q S2 r2=>?_⟩
   obtain ⟨yy,e3,q⟩:=q
   have cy:=r2.c
   rw [e3] at cy
   obtain rfl:=cy.int
   have h2:=S2 _ _ h1
   have hn:=(List.getElem?_eq_some_iff.mp e2).1
   refine ⟨_,_,rfl,rfl,a,vs,n,n,rfl,rfl,h2,?_,?_⟩
   ·unfold ixN
    rw [rv1.length,if_pos (by ac_rfl),if_pos (by ac_rfl),Int.toNat_natCast]
   refine en.nx _ _ _ (((fr.mono S1).mono S2).write (d':=.lst (xs.set n (.int (zz + yy)))) hx ⟨_,a0E,?_⟩) q
   have G:Gen X.K (MM F ρ) (MM F ρ) H2 (upd H2 a (.lst (vs.set n (.int (zz + yy))))):=Gen.write (.inr ⟨_,List.mem_of_getElem? hx⟩) (by rw [h2]; trivial)
   exact (Reps.set (Rep.int _) n ((rv1.mono S1).mono S2)).gen G
  ·exact h.elim
end
end Z
namespace L2
open PySem PySem.Spec PyProof.Rows
section
variable {X:Cx}
end
end L2
namespace Z
open PySem PySem.Spec PyProof.Rows L2
section
variable {X:Cx} {a b c d e:Expr} {ta tb tc td te:TEp} {pos:Pos}
theorem RepT.keys {K:W.Frag} {M:Addr->Prop} {H:Hp} {xs:List (List Key × V)} {ds:List (List Key × Dv)} (r:RepT K M H xs ds):xs.map (·.1)=ds.map (·.1):=
 r.ind (P:=fun xs ds=>xs.map (·.1)=ds.map (·.1)) rfl fun _ _ _ _ _ _ _ ih=>by rw [List.map_cons,List.map_cons,ih]
end
end Z
namespace Z
open PySem PySem.Spec PyProof.Rows L2
section
variable {X:Cx} {pos:Pos}
end
end Z
namespace Z
open PySem PySem.Spec PyProof.Rows L2
end Z
namespace Z
open PySem PySem.Spec PyProof.Rows L2
end Z
namespace L2
open PySem PySem.Spec PyProof.Rows
section
variable {X:Cx}
noncomputable def cntT:List Bool->Nat
 | []=>0
 | b :: r=>cntT r + (if b=true then 1 else 0)
theorem cnt_vals:∀ (bs:List Bool) {its:List Value},a1u (bs.map V.bl) its->its=bs.map Value.bool
 | [],_,r=>by cases r; rfl
 | b :: bs,_,r=>by
  cases r with
  | cons a t=>
   rw [cnt_vals bs t,show _=Value.bool b from a]
   rfl
theorem cnt_p:∀ bs:List Bool,(bs.map Value.bool).countP (isBoolOf true)=cntT bs
 | []=>rfl
 | b :: bs=>by
  rw [List.map_cons,List.countP_cons,cnt_p bs]
  cases b <;> rfl
theorem mt_cntT:MtR X "list.count" (fun x vs H Q=>∃ (l:Addr) (bs:List Bool),x=.ref l/\vs=[.bl true]/\H l=some (.lst (bs.map V.bl))/\Q (.int (cntT bs)) H):=by
 intro pins s σ H x vs v us Q I rx rv h
 obtain ⟨l,bs,rfl,rfl,hH,q⟩:=h
 cases rx
 obtain ⟨u,rfl,ru⟩:=rv.one
 cases (show u=Value.bool true from ru)
 obtain ⟨z,its,n,r,hl,e⟩:=I.lstM hH
 have ei:=cnt_vals bs r
 subst ei
 refine call_meets F.slot_list_count ⟨_,e,rfl⟩ F.entry_list_count (F.args_list_count_2 _ _) (PySem.SeqAt.list_countAt l (bs.map Value.bool).toArray n none #[] (.bool true) (isBoolOf true)) ⟨e,fun y hy=>?_,?_⟩
 ·obtain ⟨b,_,rfl⟩:=List.mem_map.mp (List.mem_toArray.mp hy)
  exact PySem.SeqAt.EqAt.bool_bool b true
 ·rw [show (bs.map Value.bool).toArray.toList=bs.map Value.bool from rfl,cnt_p]
  exact ⟨.int (cntT bs),H,I.tok _,⟨_,rfl⟩,q⟩
def rIsiV (K:W.Frag):List V->Hp->VK->Prop:=fun xs H Q=>∃ (a C:Addr) (o:Obj) (u:HO) (b:Bool),xs=[.ref a,.ty "ValueError"]/\H a=some (.frz o u)/\o.cls=.ref C/\ExcI K C/\W.kitOne K (.ref C) (.type "ValueError")=some b/\Q (.bl b) H
theorem call_isiV:a3A X (.builtin "isinstance") (rIsiV X.K):=by
 intro pins s σ H xs us Q I r h
 obtain ⟨a,C,o,u,b,rfl,ha,hc,ci,kb,q⟩:=h
 obtain ⟨u1,u2,rfl,r1,r2⟩:=vals2 r
 cases r1
 cases r2
 obtain ⟨ho,_⟩:=(show a1K X.prog X.w H s.heap a (.frz o u) from I.hok a _ ha)
 exact W.kia_one (kit_exc ci) I.kIn ⟨o,ho,hc⟩ kb (fun z=>nomatch z) fun tk=>⟨.bl b,H,I.tok tk,rfl,q⟩
end
section
variable {P:Program} {w:World} {K:W.Frag} {mg:Str->Option Value} {base:Heap} {N:List Str} {qual:Str} {scope:Scope} {fa:Addr} {cd:Value} {A:Around} {outer:List Env} {s0:Shared} {H0:Hp} {E0:XK}
variable {k:Nat} {f:Addr} {fd:FuncData} {ps:List Str} {sp:Sp} {x:Str} {p cpos pos:Pos} {e:Expr} {es:List Expr} {t:TA}
end
end L2
namespace Z
open PySem PySem.Spec PyProof.Rows L2
section
variable {X:Cx} {o e:Expr} {to te:TEp} {p pos apos cpos:Pos}
def eCntT (to:TEp):TEp:=fun ρ Q=>to ρ fun r=>match r.d with
 | .lst ds=>∃ bs:List Bool,ds=bs.map Dv.bl/\Q (.v (.int (cntT bs)))
 | _=>False
theorem q_cntT (ho:QE X o to) (he:QE X e (eC (.bl true))) (hbase:attributeBase o "count" X.env (eval o X.env)=eval o X.env:=by rfl)
  (hfew:((backTo cpos (starEach (e :: []) X.env)).all (fun x=>!x.1) && (backToKw cpos (keywordEach [] X.env)).all (fun x=>x.1.isSome)
   && decide ((e :: []).length + ([]:List Keyword).length + (if ([]:List Keyword).isEmpty then 0 else 1) < 30))=true:=by rfl)
  (hline:(apos.endLine == cpos.line)=true:=by rfl) (hs:starEach (e :: []) X.env=(false,eval e X.env) :: starEach [] X.env:=by rfl) (hplain:(backTo cpos (starEach [] X.env)).any (·.1)=false:=by rfl):
  QE X (.Call (.Attribute o "count" apos) [e] [] cpos) (eCntT to):=by
 have hA:QA X [e] (a0b (eC (.bl true)) a0m):=a0a he a0h hs
 refine ⟨fun ρ Q Q' w h=>ho.mono _ _ _ (fun r h=>?_) h,fun HZ F=>a0T (pe_bm PySem.F.plainAttrs_list PySem.F.slot_list_count PySem.F.type_list_count mt_cntT (ho.run HZ F) (hA.run HZ F) hbase hfew hline hs hplain) fun σ H Q z=>?_⟩
 ·generalize r.d=d at h ⊢
  cases d with
  | lst ds=>obtain ⟨bs,a,q⟩:=h; exact ⟨bs,a,w _ q⟩
  | _=>exact h.elim
 ·obtain ⟨ρ,fr,h⟩:=z
  refine ho.step fr h fun r x H1 h S1 r1=>?_
  have cx:=r1.c
  generalize r.d=d at h cx
  cases d with
  | lst ds=>
   obtain ⟨bs,eds,q⟩:=h
   obtain ⟨a,xs,rfl,ea,ra⟩:=cx.lst
   refine ⟨.inl ⟨rfl,xs,SqL.of ea⟩,?_⟩
   refine hA.step (fr.mono S1) (Q:=fun rs=>rs=[.v (.bl true)]) rfl fun rs xs' H2 er S2 r2=>?_
   subst er
   have cc:=r2.c
   obtain ⟨y,rfl,cy⟩:=a2H cc
   obtain rfl:=cy.bl
   subst eds
   rw [ra.of_bls] at ea
   exact ⟨a,bs,rfl,rfl,S2 _ _ ea,q _ H2 (S1.trans S2) (Rep.int _)⟩
  | _=>exact h.elim
def eIsiV (K:W.Frag) (te:TEp):TEp:=fun ρ Q=>te ρ fun r=>match r.d with
 | .exc C _=>ExcI K C /\ ∃ b,W.kitOne K (.ref C) (.type "ValueError")=some b/\Q (.v (.bl b))
 | _=>False
theorem q_isiV {p2:Pos} (hg:Gl X "isinstance") (hm:X.mg "isinstance" = none) (ha:QE X e te) (hmv:X.mg "ValueError" = none) (hgv:Gl X "ValueError" := by rfl) (hbv:bootBuiltins "ValueError" = some (.type "ValueError"):=by rfl)
  (he:starEach [e,.Name "ValueError" p2] X.env=(false,eval e X.env) :: starEach [.Name "ValueError" p2] X.env:=by rfl) (he2:starEach [Expr.Name "ValueError" p2] X.env=(false,eval (.Name "ValueError" p2) X.env) :: starEach [] X.env:=by rfl) (hpl:(backTo pos (starEach [.Name "ValueError" p2] X.env)).any (·.1)=false:=by rfl):
  QE X (.Call (.Name "isinstance" p) [e,.Name "ValueError" p2] [] pos) (eIsiV X.K te):=by
 refine ⟨fun ρ Q Q' w q=>ha.mono _ _ _ (fun r q=>?_) q,fun HZ F=>a0T (a6l call_isiV hg hm boot_isinstance (a3F (ha.run HZ F) (a3F (a3q (v:=.ty "ValueError") hgv hmv hbv rfl) a7y he2) he) (by decide) (by decide) he hpl) fun σ H Q z=>?_⟩
 ·generalize r.d=d at q ⊢
  cases d with
  | exc C p=>
   obtain ⟨ci,b,kb,q⟩:=q
   exact ⟨ci,b,kb,w _ q⟩
  | _=>exact q.elim
 ·obtain ⟨ρ,fr,h⟩:=z
  refine ha.step fr h fun r x H1 q S1 r1=>?_
  have cx:=r1.c
  generalize r.d=d at q cx
  cases d with
  | exc C p=>
   obtain ⟨ci,b,kb,q⟩:=q
   obtain ⟨a,rfl,o,u,ea,hc,_⟩:=cx.exc
   exact ⟨a,C,o,u,b,rfl,ea,hc,ci,kb,q _ H1 S1 (Rep.bl _)⟩
  | _=>exact q.elim
end
section
variable {P:Program} {w:World} {K:W.Frag} {mg:Str->Option Value} {base:Heap} {N:List Str} {qual:Str} {scope:Scope} {f:Addr} {cd:Value} {A:Around} {outer:List Env} {s0:Shared} {H0:Hp} {E:XK} {HZ:Hp} {F:Addr->Prop} {Ψ:Exn->Prop}
end
end Z
namespace L2
open PySem PySem.Spec PyProof.Rows
section
open PySem.Builtin PySem.Builtin.ObjectAttr PySem.W
variable {prog:Program} {w:World} {A:Around} {E:Value->Shared->Prop} {K:Frag} {s:Shared} {x C S:Addr} {ox:Obj} {us:Array Value} {cd:ClassData} {name:Str} {v:Value}
end
section
open PySem.Builtin PySem.W
variable {prog:Program} {w:World} {A:Around} {E:Value->Shared->Prop} {K:Frag} {h:Heap} {g:Array GenState} {d:Drawn} {t:Nat} {os:OsState}
variable {nm q:Str} {C N S fI:Addr} {bs:List Value} {sn:List Str} {sub:List Value} {ab:Bool} {col:Option Bool} {dd:Option Addr} {k0 k1 k2 k3 k5:Option Value}
end
section
open PySem.Builtin PySem.W
variable {prog:Program} {w:World} {A:Around} {E:Value->Shared->Prop} {h:Heap} {g:Array GenState} {d:Drawn} {t:Nat} {os:OsState}
variable {nm q:Str} {C N S e t0:Addr} {bs:List Value} {sn:List Str} {sub:List Value} {ab:Bool} {col:Option Bool} {dd dct:Option Addr} {k0 k1 k2 k3 k5:Option Value}
end
end L2
namespace L2
open PySem PySem.Spec PyProof.Rows
section
variable {K:W.Frag} {C S fI:Addr} {h:Heap}
end
section
variable {X:Cx} {pins:List (Addr × Obj)} {σ:St} {H:Hp} {s:Shared}
end
section
variable {X:Cx} {e:Expr} {te:TE}
end
section
variable {X:Cx} {C S fI:Addr}
end
section
variable {X:Cx} {CX:CXT} {k:Nat} {C S fI:Addr} {fd:FuncData} {ps:List Str}
end
section
variable {P:Program} {w:World} {K:W.Frag} {mg:Str->Option Value} {base:Heap} {N:List Str} {qual:Str} {scope:Scope} {f:Addr} {cd:Value} {A:Around} {outer:List Env} {s0:Shared} {H0:Hp} {E:XK}
end
end L2
namespace L2
open PySem PySem.Spec PyProof.Rows
section
open PySem.Calls PySem.Builtin PySem.Builtin.ObjectAttr
variable {K:W.Frag} {x C d:Addr} {o:Obj} {mA:Str->Option Value} {v:Value} {prog:Program} {w:World} {A:Around} {E:Value->Shared->Prop} {s:Shared}
end
section
variable {X:Cx} {e:Expr} {te:TE} {pos:Pos}
end
end L2
namespace Z
open PySem PySem.Spec PyProof.Rows L2
structure QxE (X:Cx) (HZ:Hp) (F:Addr->Prop) (e:Expr) (t:TEp):Prop where
 mono:∀ (ρ:List Sl) (Q Q':R->Prop),(∀ r,Q r->Q' r)->t ρ Q->t ρ Q'
 run:PE X e (lift X.K HZ F t)
section
variable {X:Cx} {HZ:Hp} {F:Addr->Prop} {a b e:Expr} {es:List Expr} {te:TEp} {ts:TAp} {pos p:Pos} {x:Str} {id T:String} {pp:List Dv->(R->Prop)->Prop}
theorem QxE.step {σ:St} {H:Hp} {ρ:List Sl} {Q:R->Prop} {Q':VK} (h:QxE X HZ F e te) (fr:Fr X.K HZ F σ H ρ) (q:te ρ Q)
  (k:∀ r x H',Q r->a0r H H'->a3l X.K (MM F ρ) (Own ρ) H x r H'->Q' x H'):lift X.K HZ F te σ H Q':=⟨ρ,fr,h.mono _ _ _ (fun r qr x H' S rx=>k r x H' qr S rx) q⟩
theorem x_ret (he:QxE X HZ F e te):QxS X HZ F (.Return (some e) pos) (a2F te):=
 ⟨fun E E' ρ w h=>he.mono _ _ _ (fun _ q=>w.rt _ q) h,a1O (ps_ret he.run) fun D σ H ⟨ρ,E,fr,h,en⟩=>he.step fr h fun r x H1 q S1 r1=>en.rt _ _ _ (fr.same.trans S1) (a3l.out fr r1) q⟩
end
def a6d (sp:FnX) (ts:TAp) (Ψ:Exn->Prop):TEp:=fun ρ Q=>ts ρ fun rs=>sp (rs.map R.d) (back rs Q) Ψ
section
variable {P:Program} {w:World} {K:W.Frag} {mg:Str->Option Value} {base:Heap} {N:List Str} {qual:Str} {scope:Scope} {f:Addr} {cd:Value} {A:Around} {outer:List Env} {s0:Shared} {H0:Hp} {E:XK} {HZ:Hp} {F:Addr->Prop} {Ψ:Exn->Prop}
theorem a6r {k:Nat} {ps:List Str} {sp:FnX} {x:Str} {p pos:Pos} {e:Expr} {es:List Expr} {ts:TAp} (hS:∀ H',a0r HZ H'->a0r H0 H') (hE:∀ C p dd H',Ψ (C,p)->a0r H0 H'->a8L H' p dd->E (.ref C) dd H')
  (d:DefX P w K mg base k x ps (lowX K sp)) (mo:MonoX sp) (hr:Room k (a1x (CX1 P w) P w K mg base N qual scope f cd A outer s0 H0 E).A) (ha:QA (a1x (CX1 P w) P w K mg base N qual scope f cd A outer s0 H0 E) (e :: es) ts)
  (hg:Gl (a1x (CX1 P w) P w K mg base N qual scope f cd A outer s0 H0 E) x:=by rfl) (hdb:(x == ("__debug__" : Str))=false:=by decide) (he:starEach (e :: es) (a1x (CX1 P w) P w K mg base N qual scope f cd A outer s0 H0 E).env=(false,eval e (a1x (CX1 P w) P w K mg base N qual scope f cd A outer s0 H0 E).env) :: starEach es (a1x (CX1 P w) P w K mg base N qual scope f cd A outer s0 H0 E).env:=by rfl)
  (hpl:(backTo pos (starEach es (a1x (CX1 P w) P w K mg base N qual scope f cd A outer s0 H0 E).env)).any (·.1)=false:=by rfl):
  QxE (a1x (CX1 P w) P w K mg base N qual scope f cd A outer s0 H0 E) HZ F (.Call (.Name x p) (e :: es) [] pos) (a6d sp ts Ψ):=by
 obtain ⟨fa,fd,hm,hkp,hbd,FO⟩:=d.ex
 refine ⟨fun ρ Q Q' w1 h=>ha.mono _ _ _ (fun rs q=>mo.mo _ _ _ _ _ (a3z w1) (fun C q=>q) q) h,a0T (pe_call (X:=(a1x (CX1 P w) P w K mg base N qual scope f cd A outer s0 H0 E)) (E:=fun cv dd H2=>∀ C,cv=.ref C->E (.ref C) dd H2) FO hr hg hm hkp hbd .nil (fun pins σ H s e s' I cx=>xe_on I cx fun C dd H' z=>z C rfl) (ha.run HZ F) hdb he hpl) fun σ H Q z=>?_⟩
 obtain ⟨ρ,fr,h⟩:=z
 refine ha.step fr h fun rs xs H1 q S1 r1=>?_
 rw [List.append_nil]
 have fr1:=fr.mono S1
 refine ⟨lent (MM F ρ) rs,_,Ψ,⟨fun a z=>fr1.dom z.1,fr1.tab⟩,a3u fr (fun _ h=>h) r1,mo.mo _ _ _ _ _ (fun r q x H' S rx=>?_) (fun C q=>q) q,fun C p dd H2 q S2 py C' ec=>?_⟩
 ·exact q.2 x H' (S1.trans S) (a5m fr S1 rx q.1)
 ·cases ec
  exact hE C p dd H2 q (hS _ ((fr.same.trans S1).trans S2)) py
end
end Z
namespace L2
open PySem PySem.Spec PyProof.Rows PySem.W
noncomputable def gal:Bool->Keyed->Array Keyed->Nat->Nat->Nat->StateT SortSt Sem (Option Nat):=sortPriv% PySem.Builtin.gallop
noncomputable def mgLo:Array Keyed->Array Keyed->StateT SortSt Sem (Array Keyed):=sortPriv% PySem.Builtin.mergeLo
noncomputable def mgHi:Array Keyed->Array Keyed->StateT SortSt Sem (Array Keyed):=sortPriv% PySem.Builtin.mergeHi
section
variable {M:Model} {A:Around} {E:Value->Shared->Prop} {s:Shared}
structure Tm (M:Model) (A:Around) (E:Value->Shared->Prop) (s:Shared) (N:Nat) (lt:Nat->Nat->Bool) (it:Nat->Keyed) (κ:SortKind):Prop where
 cmp:∀ i j,i < N->j < N->i ≠ j -> ∀ (st:SortSt) (Q:Option Bool->SortSt->Prop),kindOf st=κ->Q (some (lt i j)) st->wpS M A E s (lt' (it i) (it j)) Q st
 tot:∀ i j,i < N->j < N->i ≠ j->lt i j = !lt j i
 tr:∀ i j k,i < N->j < N->k < N->lt i j=true->lt j k=true->lt i k=true
theorem a0s {arr:Array Keyed} {i:Nat} {x:Keyed} {st:SortSt} {Q:Keyed->SortSt->Prop} (h:arr[i]?=some x) (q:Q x st):wpS M A E s (elem' arr i) Q st:=by
 rw [elem'_eq,h]
 exact wpS_pure q
theorem b1n {N:Nat} {lt:Nat->Nat->Bool} {it:Nat->Keyed} {κ:SortKind} (T:Tm M A E s N lt it κ) {left:Bool} {x:Nat} {arr:Array Keyed} {base n hint:Nat} {f:Nat->Nat} {st:SortSt} {Q:Option Nat->SortSt->Prop} (hk:kindOf st=κ) (hx:x < N)
  (ha:∀ i,i < n->arr[base + i]?=some (it (f i))) (hf:∀ i,i < n->f i < N/\f i ≠ x) (up:∀ i j,i < j->j < n->lt (f i) (f j)=true) (hh:hint < n)
  (q:∀ k,k<=n->(∀ i,i < k->lt (f i) x=true)->(∀ i,k<=i->i < n->lt x (f i)=true)->Q (some k) st):wpS M A E s (gal left (it x) arr base n hint) Q st:=by
 have b1:∀ i (Q:Option Bool->SortSt->Prop),i < n->Q (some (lt (f i) x)) st->wpS M A E s (do
   let y <- elem' arr (base + i)
   if left=true then lt' y (it x) else do
    let r <- lt' (it x) y
    pure (r.map fun b=>!b)) Q st:=fun i Q hi q=>by
  obtain ⟨h1,h2⟩:=hf i hi
  refine wpS_bind (a0s (ha i hi) ?_)
  cases left with
  | true=>exact T.cmp _ _ h1 hx h2 st Q hk q
  | false=>
   refine wpS_bind (T.cmp _ _ hx h1 (Ne.symm h2) st _ hk (wpS_pure ?_))
   rw [T.tot _ _ hx h1 (Ne.symm h2)]
   simpa using q
 have mon:∀ i j,i<=j->j < n->lt (f j) x=true->lt (f i) x=true:=fun i j hij hj z=>by
  by_cases e:i=j
  ·rw [e]; exact z
  ·exact T.tr _ _ _ (hf i (by ac_rfl)).1 (hf j hj).1 hx (up i j (by ac_rfl) hj) z
 show wpS M A E s (gal left (it x) arr base n hint) Q st
 unfold gal
 refine wpS_bind (b1 hint _ hh ?_)
 dsimp only
 cases y0:lt (f hint) x with
 | true=>
  rw [if_pos rfl]
  refine wpS_bind (wpS_mono (wpS_forRange (I:=fun i c st'=>st=st' /\ ∃ l o,c=(none,l,o)/\l < o/\i + 1<=o/\hint + l < n/\lt (f (hint + l)) x=true)
   (Q:=fun c st'=>st=st' /\ ∃ l o,c=(none,l,o)/\l < o/\hint + l < n/\lt (f (hint + l)) x=true/\(hint + o < n->lt (f (hint + o)) x=false)) ?_ ?_ ?_) ?_)
  ·rintro i c st' _ hi ⟨rfl,l,o,rfl,l1,l2,l3,l4⟩
   dsimp only
   by_cases z:o >= n - hint
   ·rw [if_pos z]
    exact wpS_pure ⟨rfl,l,o,rfl,l1,l3,l4,fun h=>by ac_rfl⟩
   ·rw [if_neg z]
    refine wpS_bind (b1 (hint + o) _ (by ac_rfl) ?_)
    cases y:lt (f (hint + o)) x with
    | true=>
     dsimp only
     rw [if_neg (by decide)]
     exact wpS_pure ⟨rfl,_,_,rfl,by ac_rfl,by ac_rfl,by ac_rfl,y⟩
    | false=>
     dsimp only
     rw [if_pos (by decide)]
     exact wpS_pure ⟨rfl,l,o,rfl,l1,l3,l4,fun _=>y⟩
  ·rintro c st' ⟨rfl,l,o,rfl,l1,l2,l3,l4⟩
   exact ⟨rfl,l,o,rfl,l1,l3,l4,fun h=>by ac_rfl⟩
  ·exact ⟨rfl,0,1,rfl,by ac_rfl,by ac_rfl,by ac_rfl,y0⟩
  rintro c st' ⟨rfl,l,o,rfl,l1,l3,l4,l5⟩
  dsimp only
  refine wpS_bind (wpS_mono (wpS_forRange (I:=fun i c st'=>st=st' /\ ∃ lo hi,c=(none,lo,hi)/\lo<=hi/\hi<=n/\hi - lo + i<=n/\(∀ i,i < lo->lt (f i) x=true)/\(∀ i,hi<=i->i < n->lt (f i) x=false))
   (Q:=fun c st'=>st=st' /\ ∃ k,c=(none,k,k)/\k<=n/\(∀ i,i < k->lt (f i) x=true)/\(∀ i,k<=i->i < n->lt (f i) x=false)) ?_ ?_ ?_) ?_)
  ·rintro i c st' _ hi ⟨rfl,lo,h,rfl,l1,l2,l3,l4,l5⟩
   dsimp only
   by_cases z:lo >= h
   ·rw [if_pos z]
    have e:lo=h:=by ac_rfl
    subst e
    exact wpS_pure ⟨rfl,lo,rfl,l2,l4,l5⟩
   ·rw [if_neg z]
    refine wpS_bind (b1 (lo + (h - lo) / 2) _ (by ac_rfl) ?_)
    cases y:lt (f (lo + (h - lo) / 2)) x with
    | true=>
     dsimp only
     rw [if_pos rfl]
     exact wpS_pure ⟨rfl,_,_,rfl,by ac_rfl,by ac_rfl,by ac_rfl,fun j hj=>mon j _ (by ac_rfl) (by ac_rfl) y,l5⟩
    | false=>
     dsimp only
     rw [if_neg (by decide)]
     refine wpS_pure ⟨rfl,_,_,rfl,by ac_rfl,by ac_rfl,by ac_rfl,l4,fun j hj hn=>?_⟩
     cases y2:lt (f j) x with
     | false=>rfl
     | true=>rw [mon _ j hj hn y2] at y; cases y
  ·rintro c st' ⟨rfl,lo,h,rfl,l1,l2,l3,l4,l5⟩
   have e:lo=h:=by ac_rfl
   subst e
   exact ⟨rfl,lo,rfl,l2,l4,l5⟩
  ·exact ⟨rfl,_,_,rfl,by ac_rfl,by ac_rfl,by ac_rfl,fun j hj=>mon j _ (by ac_rfl) l3 l4,fun j hj hn=>by
    cases y2:lt (f j) x with
    | false=>rfl
    | true=>have z:=mon (hint + o) j (by ac_rfl) hn y2; rw [l5 (by ac_rfl)] at z; cases z⟩
  ·rintro c st' ⟨rfl,k,rfl,l2,l4,l5⟩
   exact wpS_pure (q k l2 l4 fun i hi hn=>by rw [T.tot _ _ hx (hf i hn).1 (Ne.symm (hf i hn).2),l5 i hi hn]; rfl)
 | false=>
  rw [if_neg (by decide)]
  refine wpS_bind (wpS_mono (wpS_forRange (I:=fun i c st'=>st=st' /\ ∃ l o,c=(none,l,o)/\l < o/\i + 1<=o/\l<=hint/\lt (f (hint - l)) x=false)
   (Q:=fun c st'=>st=st' /\ ∃ l o,c=(none,l,o)/\l < o/\l<=hint/\lt (f (hint - l)) x=false/\(o<=hint->lt (f (hint - o)) x=true)) ?_ ?_ ?_) ?_)
  ·rintro i c st' _ hi ⟨rfl,l,o,rfl,l1,l2,l3,l4⟩
   dsimp only
   by_cases z:o >= hint + 1
   ·rw [if_pos z]
    exact wpS_pure ⟨rfl,l,o,rfl,l1,l3,l4,fun h=>by ac_rfl⟩
   ·rw [if_neg z]
    refine wpS_bind (b1 (hint - o) _ (by ac_rfl) ?_)
    cases y:lt (f (hint - o)) x with
    | true=>
     dsimp only
     rw [if_pos rfl]
     exact wpS_pure ⟨rfl,l,o,rfl,l1,l3,l4,fun _=>y⟩
    | false=>
     dsimp only
     rw [if_neg (by decide)]
     exact wpS_pure ⟨rfl,_,_,rfl,by ac_rfl,by ac_rfl,by ac_rfl,y⟩
  ·rintro c st' ⟨rfl,l,o,rfl,l1,l2,l3,l4⟩
   exact ⟨rfl,l,o,rfl,l1,l3,l4,fun h=>by ac_rfl⟩
  ·exact ⟨rfl,0,1,rfl,by ac_rfl,by ac_rfl,by ac_rfl,y0⟩
  rintro c st' ⟨rfl,l,o,rfl,l1,l3,l4,l5⟩
  dsimp only
  refine wpS_bind (wpS_mono (wpS_forRange (I:=fun i c st'=>st=st' /\ ∃ lo hi,c=(none,lo,hi)/\lo<=hi/\hi<=n/\hi - lo + i<=n/\(∀ i,i < lo->lt (f i) x=true)/\(∀ i,hi<=i->i < n->lt (f i) x=false))
   (Q:=fun c st'=>st=st' /\ ∃ k,c=(none,k,k)/\k<=n/\(∀ i,i < k->lt (f i) x=true)/\(∀ i,k<=i->i < n->lt (f i) x=false)) ?_ ?_ ?_) ?_)
  ·rintro i c st' _ hi ⟨rfl,lo,h,rfl,l1,l2,l3,l4,l5⟩
   dsimp only
   by_cases z:lo >= h
   ·rw [if_pos z]
    have e:lo=h:=by ac_rfl
    subst e
    exact wpS_pure ⟨rfl,lo,rfl,l2,l4,l5⟩
   ·rw [if_neg z]
    refine wpS_bind (b1 (lo + (h - lo) / 2) _ (by ac_rfl) ?_)
    cases y:lt (f (lo + (h - lo) / 2)) x with
    | true=>
     dsimp only
     rw [if_pos rfl]
     exact wpS_pure ⟨rfl,_,_,rfl,by ac_rfl,by ac_rfl,by ac_rfl,fun j hj=>mon j _ (by ac_rfl) (by ac_rfl) y,l5⟩
    | false=>
     dsimp only
     rw [if_neg (by decide)]
     refine wpS_pure ⟨rfl,_,_,rfl,by ac_rfl,by ac_rfl,by ac_rfl,l4,fun j hj hn=>?_⟩
     cases y2:lt (f j) x with
     | false=>rfl
     | true=>rw [mon _ j hj hn y2] at y; cases y
  ·rintro c st' ⟨rfl,lo,h,rfl,l1,l2,l3,l4,l5⟩
   have e:lo=h:=by ac_rfl
   subst e
   exact ⟨rfl,lo,rfl,l2,l4,l5⟩
  ·exact ⟨rfl,_,_,rfl,by ac_rfl,by ac_rfl,by ac_rfl,fun j hj=>mon j (hint - o) (by ac_rfl) (by ac_rfl) (l5 (by ac_rfl)),fun j hj hn=>by
    cases y2:lt (f j) x with
    | false=>rfl
    | true=>have z:=mon (hint - l) j (by ac_rfl) hn y2; rw [l4] at z; cases z⟩
  ·rintro c st' ⟨rfl,k,rfl,l2,l4,l5⟩
   exact wpS_pure (q k l2 l4 fun i hi hn=>by rw [T.tot _ _ hx (hf i hn).1 (Ne.symm (hf i hn).2),l5 i hi hn]; rfl)
end
end L2
namespace L2
open PySem PySem.Spec PyProof.Rows PySem.W
structure Mg (lt:Nat->Nat->Bool) (la lb lo:List Nat) (ia ib:Nat):Prop where
 pm:(lo ++ (la.drop ia ++ lb.drop ib)).Perm (la ++ lb)
 up:lo.Pairwise fun x y=>lt x y=true
 lo:∀ o ∈ lo,∀ r ∈ la.drop ia ++ lb.drop ib,lt o r=true
structure Two (N:Nat) (lt:Nat->Nat->Bool) (la lb:List Nat):Prop where
 ua:la.Pairwise fun x y=>lt x y=true
 ub:lb.Pairwise fun x y=>lt x y=true
 nd:(la ++ lb).Nodup
 bd:∀ x ∈ la ++ lb,x < N
section
variable {N:Nat} {lt:Nat->Nat->Bool} {la lb lo:List Nat} {ia ib:Nat}
theorem Two.symm (T:Two N lt la lb):Two N lt lb la:=⟨T.ub,T.ua,(List.perm_append_comm.nodup_iff).mp T.nd,fun x hx=>T.bd x (List.perm_append_comm.mem_iff.mp hx)⟩
theorem Mg.symm (m:Mg lt la lb lo ia ib):Mg lt lb la lo ib ia:=
 ⟨((List.perm_append_comm (l₁:=lb.drop ib) (l₂:=la.drop ia)).append_left lo).trans (m.pm.trans List.perm_append_comm),m.up,fun o ho r hr=>m.lo o ho r (List.perm_append_comm.mem_iff.mp hr)⟩
theorem Mg.takeA (T:Two N lt la lb) (m:Mg lt la lb lo ia ib) (k:Nat) (h:∀ x ∈ (la.drop ia).take k,∀ r ∈ lb.drop ib,lt x r=true):Mg lt la lb (lo ++ (la.drop ia).take k) (ia + k) ib:=by
 have e:(la.drop ia).take k ++ la.drop (ia + k)=la.drop ia:=by rw [<- List.drop_drop,List.take_append_drop]
 have ud:(la.drop ia).Pairwise fun x y=>lt x y=true:=T.ua.sublist (List.drop_sublist _ _)
 rw [<- e] at ud
 have ud2:=List.pairwise_append.mp ud
 refine ⟨?_,List.pairwise_append.mpr ⟨m.up,ud2.1,fun o ho x hx=>m.lo o ho x ?_⟩,fun o ho r hr=>?_⟩
 ·have:=m.pm
  rw [<- e] at this
  simpa [List.append_assoc] using this
 ·exact List.mem_append_left _ (List.mem_of_mem_take hx)
 ·rcases List.mem_append.mp ho with ho | ho
  ·refine m.lo o ho r ?_
   rcases List.mem_append.mp hr with hr | hr
   ·exact List.mem_append_left _ (by rw [<- e]; exact List.mem_append_right _ hr)
   ·exact List.mem_append_right _ hr
  ·rcases List.mem_append.mp hr with hr | hr
   ·exact ud2.2.2 o ho r hr
   ·exact h o ho r hr
theorem Mg.takeB (T:Two N lt la lb) (m:Mg lt la lb lo ia ib) (k:Nat) (h:∀ x ∈ (lb.drop ib).take k,∀ r ∈ la.drop ia,lt x r=true):Mg lt la lb (lo ++ (lb.drop ib).take k) ia (ib + k):=
 (m.symm.takeA T.symm k h).symm
def Dn2 (lt:Nat->Nat->Bool) (la lb l:List Nat):Prop:=l.Perm (la ++ lb)/\l.Pairwise fun x y=>lt x y=true
theorem Mg.endA (T:Two N lt la lb) (m:Mg lt la lb lo ia ib) (h:∀ x ∈ la.drop ia,∀ r ∈ lb.drop ib,lt x r=true):Dn2 lt la lb (lo ++ la.drop ia ++ lb.drop ib):=by
 refine ⟨by rw [List.append_assoc]; exact m.pm,?_⟩
 rw [List.append_assoc]
 refine List.pairwise_append.mpr ⟨m.up,List.pairwise_append.mpr ⟨T.ua.sublist (List.drop_sublist _ _),T.ub.sublist (List.drop_sublist _ _),h⟩,m.lo⟩
theorem Mg.endB (T:Two N lt la lb) (m:Mg lt la lb lo ia ib) (h:∀ x ∈ lb.drop ib,∀ r ∈ la.drop ia,lt x r=true):Dn2 lt la lb (lo ++ lb.drop ib ++ la.drop ia):=by
 have:=m.symm.endA T.symm h
 exact ⟨this.1.trans List.perm_append_comm,this.2⟩
theorem a6o {l:List Nat} {i:Nat} (h:i < l.length):l.drop i=l.getD i 0 :: l.drop (i + 1):=by
 rw [List.drop_eq_getElem_cons h]
 simp [List.getD,h]
theorem Two.headA (T:Two N lt la lb) (tr:∀ i j k,i < N->j < N->k < N->lt i j=true->lt j k=true->lt i k=true) {x:Nat} (hx:x < N) (hi:ia < la.length) (h:lt x (la.getD ia 0)=true):∀ r ∈ la.drop ia,lt x r=true:=fun r hr=>by
 rw [a6o hi] at hr
 rcases List.mem_cons.mp hr with e | hr
 ·rw [e]; exact h
 ·have ud:(la.drop ia).Pairwise fun x y=>lt x y=true:=T.ua.sublist (List.drop_sublist _ _)
  rw [a6o hi] at ud
  have b1:la.getD ia 0 < N:=T.bd _ (List.mem_append_left _ (by rw [List.getD_eq_getElem?_getD,List.getElem?_eq_getElem hi]; exact List.getElem_mem hi))
  have b2:r < N:=T.bd r (List.mem_append_left _ (List.mem_of_mem_drop hr))
  exact tr _ _ _ hx b1 b2 h ((List.pairwise_cons.mp ud).1 r hr)
end
end L2
namespace L2
open PySem PySem.Spec PyProof.Rows PySem.W
section
variable {M:Model} {A:Around} {E:Value->Shared->Prop} {s:Shared} {N:Nat} {lt:Nat->Nat->Bool} {it:Nat->Keyed} {κ:SortKind} {la lb:List Nat}
structure SEq (st st':SortSt):Prop where
 k:kindOf st'=kindOf st
 a:arrOf st'=arrOf st
 p:pendingOf st'=pendingOf st
 f:failedOf st'=failedOf st
theorem SEq.refl (st:SortSt):SEq st st:=⟨rfl,rfl,rfl,rfl⟩
noncomputable abbrev arK (it:Nat->Keyed) (l:List Nat):Array Keyed:=(l.map it).toArray
theorem a0l {l:List Nat} {i:Nat} (h:i < l.length):(arK it l)[i]?=some (it (l.getD i 0)):=by
 simp [List.getD,h]
theorem a0x {l:List Nat} {x:Nat}:(arK it l).push (it x)=arK it (l ++ [x]):=by simp [arK]
theorem a0q {l m:List Nat}:arK it l ++ arK it m=arK it (l ++ m):=by simp [arK]
theorem a8K {l:List Nat}:(arK it l).size=l.length:=by simp [arK]
theorem a1R {l:List Nat} {i j:Nat}:(arK it l).extract i j=arK it ((l.drop i).take (j - i)):=by
 simp [arK,List.map_take,List.map_drop]
theorem arK_tail {l:List Nat} {i:Nat}:(arK it l).extract i l.length=arK it (l.drop i):=by
 rw [a1R,List.take_of_length_le (by simp)]
theorem Two.neAB (W:Two N lt la lb) {i j:Nat} (hi:i < la.length) (hj:j < lb.length):la.getD i 0 ≠ lb.getD j 0:=by
 have e1:la.getD i 0=la[i]:=by simp [List.getD,hi]
 have e2:lb.getD j 0=lb[j]:=by simp [List.getD,hj]
 rw [e1,e2]
 exact (List.nodup_append.mp W.nd).2.2 _ (List.getElem_mem hi) _ (List.getElem_mem hj)
theorem Two.ltA (W:Two N lt la lb) {i:Nat} (hi:i < la.length):la.getD i 0 < N:=W.bd _ (List.mem_append_left _ (by rw [List.getD_eq_getElem?_getD,List.getElem?_eq_getElem hi]; exact List.getElem_mem hi))
theorem Two.upA (W:Two N lt la lb) {i j:Nat} (hij:i < j) (hj:j < la.length):lt (la.getD i 0) (la.getD j 0)=true:=by
 have e1:la.getD i 0=la[i]'(by ac_rfl):=by simp [List.getD,show i < la.length by ac_rfl]
 have e2:la.getD j 0=la[j]:=by simp [List.getD,hj]
 rw [e1,e2]
 exact List.pairwise_iff_getElem.mp W.ua i j (by ac_rfl) hj hij
variable {lo:List Nat} {ia ib:Nat}
structure Trn (N:Nat) (lt:Nat->Nat->Bool):Prop where
 tr:∀ i j k,i < N->j < N->k < N->lt i j=true->lt j k=true->lt i k=true
theorem _root_.L2.Tm.trn (T:Tm M A E s N lt it κ):Trn N lt:=⟨T.tr⟩
theorem Mg.stepB (T:Trn N lt) (W:Two N lt la lb) (m:Mg lt la lb lo ia ib) (hi:ia < la.length) (hj:ib < lb.length) (h:lt (lb.getD ib 0) (la.getD ia 0)=true):Mg lt la lb (lo ++ [lb.getD ib 0]) ia (ib + 1):=by
 have e:(lb.drop ib).take 1=[lb.getD ib 0]:=by rw [a6o hj]; rfl
 have:=m.takeB W 1 (by
  rw [e]
  intro x hx
  rw [List.mem_singleton.mp hx]
  exact W.headA T.tr (W.symm.ltA hj) hi h)
 rwa [e] at this
theorem Mg.stepA (T:Trn N lt) (W:Two N lt la lb) (m:Mg lt la lb lo ia ib) (hi:ia < la.length) (hj:ib < lb.length) (h:lt (la.getD ia 0) (lb.getD ib 0)=true):Mg lt la lb (lo ++ [la.getD ia 0]) (ia + 1) ib:=(m.symm.stepB T W.symm hj hi h).symm
theorem Mg.galA (T:Trn N lt) (W:Two N lt la lb) (m:Mg lt la lb lo ia ib) {k:Nat} (hj:ib < lb.length) (hk:k<=la.length - ia) (h:∀ i,i < k->lt (la.getD (ia + i) 0) (lb.getD ib 0)=true):Mg lt la lb (lo ++ (la.drop ia).take k) (ia + k) ib:=
 m.takeA W k fun x hx r hr=>by
  obtain ⟨i,hi,e⟩:=List.mem_iff_getElem.mp hx
  simp at hi
  have e2:x=la.getD (ia + i) 0:=by
   rw [<- e]
   simp [List.getD,show ia + i < la.length by ac_rfl]
  subst e2
  exact W.symm.headA T.tr (W.ltA (by ac_rfl)) hj (h i (by ac_rfl)) r hr
theorem Mg.galB (T:Trn N lt) (W:Two N lt la lb) (m:Mg lt la lb lo ia ib) {k:Nat} (hi:ia < la.length) (hk:k<=lb.length - ib) (h:∀ i,i < k->lt (lb.getD (ib + i) 0) (la.getD ia 0)=true):Mg lt la lb (lo ++ (lb.drop ib).take k) ia (ib + k):=
 (m.symm.galA T W.symm hi hk h).symm
theorem Mg.doneA (W:Two N lt la lb) (m:Mg lt la lb lo ia ib) (h:ia=la.length \/ ib=lb.length):Dn2 lt la lb (lo ++ la.drop ia ++ lb.drop ib):=m.endA W fun x hx r hr=>by
 rcases h with h | h
 ·rw [h,List.drop_length] at hx; cases hx
 ·rw [h,List.drop_length] at hr; cases hr
theorem Mg.lastA (W:Two N lt la lb) (m:Mg lt la lb lo ia ib) (hz:∀ r ∈ lb,lt r (la.getD (la.length - 1) 0)=true) (h:ia + 1=la.length):Dn2 lt la lb (lo ++ lb.drop ib ++ la.drop ia):=m.endB W fun x hx r hr=>by
 rw [a6o (by ac_rfl),h,List.drop_length] at hr
 rw [List.mem_singleton.mp hr,show ia=la.length - 1 by ac_rfl]
 exact hz x (List.mem_of_mem_drop hx)
theorem a7F (T:Tm M A E s N lt it κ) (W:Two N lt la lb) {left:Bool} {st:SortSt} {Q:Option Nat->SortSt->Prop} (hk:kindOf st=κ) (hi:ia < la.length) (hj:ib < lb.length)
  (q:∀ k,k<=la.length - ia->(∀ i,i < k->lt (la.getD (ia + i) 0) (lb.getD ib 0)=true)->(∀ i,k<=i->i < la.length - ia->lt (lb.getD ib 0) (la.getD (ia + i) 0)=true)->Q (some k) st):
  wpS M A E s (gal left (it (lb.getD ib 0)) (arK it la) ia (la.length - ia) 0) Q st:=
 b1n T (f:=fun i=>la.getD (ia + i) 0) hk (W.symm.ltA hj) (fun i h=>a0l (by ac_rfl)) (fun i h=>⟨W.ltA (by ac_rfl),W.neAB (by ac_rfl) hj⟩) (fun i j h h2=>W.upA (by ac_rfl) (by ac_rfl)) (by ac_rfl) q
theorem mgLo_ok (T:Tm M A E s N lt it κ) (W:Two N lt la lb) {st:SortSt} {Q:Array Keyed->SortSt->Prop} (hk:kindOf st=κ) (ha:0 < la.length) (hb:0 < lb.length) (h0:lt (lb.getD 0 0) (la.getD 0 0)=true) (hz:∀ r ∈ lb,lt r (la.getD (la.length - 1) 0)=true)
  (q:∀ l st',Dn2 lt la lb l->SEq st st'->Q (arK it l) st'):wpS M A E s (mgLo (arK it la) (arK it lb)) Q st:=by
 have m0:Mg lt la lb [] 0 0:=⟨by simp,.nil,fun o ho=>by cases ho⟩
 have m1:=m0.stepB T.trn W ha hb h0
 unfold mgLo
 refine wpS_bind (wpS_lift (wpAny_rule ⟨rfl,?_⟩))
 refine wpS_bind (a0s (a0l hb) ?_)
 dsimp only
 simp only [a8K,arK_tail,beq_iff_eq]
 rw [show #[it (lb.getD 0 0)]=arK it ([] ++ [lb.getD 0 0]) from rfl]
 simp only [a0q]
 by_cases c1:1=lb.length
 ·rw [if_pos c1]
  exact wpS_pure (q _ _ (by have:=m1.doneA W (.inr c1); simpa using this) (.refl st))
 rw [if_neg c1]
 by_cases c2:0 + 1=la.length
 ·rw [if_pos c2]
  exact wpS_pure (q _ _ (by have:=m1.lastA W hz c2; simpa using this) (.refl st))
 rw [if_neg c2]
 refine wpS_bind (wpS_get ?_)
 refine wpS_bind (wpS_mono (wpS_forRange
  (I:=fun x c st'=>SEq st st' /\ ∃ lo ia ib g,c=(none,arK it lo,ia,ib,g)/\Mg lt la lb lo ia ib/\ia + 1 < la.length/\ib < lb.length/\x + 1<=ia + ib)
  (Q:=fun c st'=>SEq st st' /\ ∃ l c',c=(some (arK it l),c')/\Dn2 lt la lb l) ?step ?fin ?init) ?post)
 case fin=>
  rintro c st' ⟨_,lo,ia,ib,g,rfl,m,h1,h2,h3⟩
  ac_rfl
 case init=>exact ⟨.refl st,_,_,_,_,rfl,m1,by ac_rfl,by ac_rfl,by ac_rfl⟩
 case post=>
  rintro c st' ⟨e,l,c',rfl,d⟩
  exact wpS_pure (q l st' d e)
 case step=>
  rintro x c st' _ hx ⟨e,lo,ia,ib,g,rfl,m,h1,h2,h3⟩
  dsimp only
  refine wpS_bind (wpS_mono (wpS_forRange
   (I:=fun y c st'=>SEq st st' /\ ∃ lo ia' ib' ac bc,c=(none,arK it lo,ia',ib',ac,bc)/\Mg lt la lb lo ia' ib'/\ia' + 1 < la.length/\ib' < lb.length/\ia + ib + y<=ia' + ib')
   (Q:=fun c st'=>SEq st st'/\((∃ l c',c=(some (arK it l),c')/\Dn2 lt la lb l) \/ ∃ lo ia' ib' ac bc,c=(none,arK it lo,ia',ib',ac,bc)/\Mg lt la lb lo ia' ib'/\ia' + 1 < la.length/\ib' < lb.length/\ia + ib + 1<=ia' + ib')) ?s1 ?f1 ?i1) ?p1)
  case i1=>exact ⟨e,_,_,_,_,_,rfl,m,h1,h2,Nat.le_refl _⟩
  case f1=>
   rintro c st2 ⟨e2,lo2,ia2,ib2,ac,bc,rfl,m2,a1,a2,a3⟩
   exact ⟨e2,.inr ⟨_,_,_,_,_,rfl,m2,a1,a2,by ac_rfl⟩⟩
  case s1=>
   rintro y c st2 _ hy ⟨e2,lo2,ia2,ib2,ac,bc,rfl,m2,a1,a2,a3⟩
   dsimp only
   refine wpS_bind (a0s (a0l a2) (wpS_bind (a0s (a0l (by ac_rfl)) (wpS_bind (T.cmp _ _ (W.symm.ltA a2) (W.ltA (by ac_rfl)) (Ne.symm (W.neAB (by ac_rfl) a2)) _ _ (e2.k.trans hk) ?_)))))
   cases y0:lt (lb.getD ib2 0) (la.getD ia2 0) with
   | true=>
    dsimp only
    rw [if_pos rfl]
    refine wpS_bind (a0s (a0l a2) ?_)
    have m3:=m2.stepB T.trn W (by ac_rfl) a2 y0
    simp only [a0x,a0q]
    by_cases z:ib2 + 1=lb.length
    ·rw [if_pos z]
     exact wpS_pure ⟨e2,.inl ⟨_,_,rfl,m3.doneA W (.inr z)⟩⟩
    ·rw [if_neg z]
     split
     ·exact wpS_pure ⟨e2,.inr ⟨_,_,_,_,_,rfl,m3,a1,by ac_rfl,by ac_rfl⟩⟩
     ·exact wpS_pure ⟨e2,_,_,_,_,_,rfl,m3,a1,by ac_rfl,by ac_rfl⟩
   | false=>
    dsimp only
    rw [if_neg (by decide)]
    refine wpS_bind (a0s (a0l (by ac_rfl)) ?_)
    have y1:lt (la.getD ia2 0) (lb.getD ib2 0)=true:=by rw [T.tot _ _ (W.ltA (by ac_rfl)) (W.symm.ltA a2) (W.neAB (by ac_rfl) a2),y0]; rfl
    have m3:=m2.stepA T.trn W (by ac_rfl) a2 y1
    simp only [a0x,a0q]
    by_cases z:ia2 + 1 + 1=la.length
    ·rw [if_pos z]
     exact wpS_pure ⟨e2,.inl ⟨_,_,rfl,m3.lastA W hz z⟩⟩
    ·rw [if_neg z]
     split
     ·exact wpS_pure ⟨e2,.inr ⟨_,_,_,_,_,rfl,m3,by ac_rfl,a2,by ac_rfl⟩⟩
     ·exact wpS_pure ⟨e2,_,_,_,_,_,rfl,m3,by ac_rfl,a2,by ac_rfl⟩
  case p1=>
   rintro c st2 ⟨e2,⟨l,c',rfl,d⟩ | ⟨lo2,ia2,ib2,ac,bc,rfl,m2,a1,a2,a3⟩⟩
   ·exact wpS_pure ⟨e2,l,_,rfl,d⟩
   dsimp only
   refine wpS_bind (wpS_lift (wpAny_rule ⟨rfl,?_⟩))
   refine wpS_bind (wpS_mono (wpS_forRange
    (I:=fun y c st'=>SEq st st' /\ ∃ lo ia' ib' g' ac bc,c=(none,arK it lo,ia',ib',g',ac,bc)/\Mg lt la lb lo ia' ib'/\ia' + 1 < la.length/\ib' < lb.length/\ia2 + ib2 + y<=ia' + ib')
    (Q:=fun c st'=>SEq st st'/\((∃ l c',c=(some (arK it l),c')/\Dn2 lt la lb l) \/ ∃ lo ia' ib' g' ac bc,c=(none,arK it lo,ia',ib',g',ac,bc)/\Mg lt la lb lo ia' ib'/\ia' + 1 < la.length/\ib' < lb.length/\ia2 + ib2<=ia' + ib')) ?s2 ?f2 ?i2) ?p2)
   case i2=>exact ⟨e2,_,_,_,_,_,_,rfl,m2,a1,a2,Nat.le_refl _⟩
   case f2=>
    rintro c st3 ⟨e3,lo3,ia3,ib3,g3,ac3,bc3,rfl,m3,b1,b2,b3⟩
    exact ⟨e3,.inr ⟨_,_,_,_,_,_,rfl,m3,b1,b2,by ac_rfl⟩⟩
   case p2=>
    rintro c st3 ⟨e3,⟨l,c',rfl,d⟩ | ⟨lo3,ia3,ib3,g3,ac3,bc3,rfl,m3,b1,b2,b3⟩⟩
    ·exact wpS_pure ⟨e3,l,_,rfl,d⟩
    dsimp only
    refine wpS_bind (wpS_modify ?_)
    exact wpS_pure ⟨⟨e3.k,e3.a,e3.p,e3.f⟩,_,_,_,_,rfl,m3,b1,b2,by ac_rfl⟩
   case s2=>
    rintro y c st3 _ hy ⟨e3,lo3,ia3,ib3,g3,ac3,bc3,rfl,m3,b1,b2,b3⟩
    dsimp only
    by_cases hg:g3 > 1
    ·rw [if_pos hg]
     refine wpS_bind (wpS_modify ?_)
     refine wpS_bind (a0s (a0l b2) ?_)
     refine wpS_bind (a7F (left:=false) (ia:=ia3) (ib:=ib3) T W (e3.k.trans hk) (by ac_rfl) b2 fun k k1 k2 k3=>?_)
     dsimp only
     by_cases kz:k > 0
     ·rw [if_pos kz]
      have m4:=m3.galA T.trn W b2 k1 k2
      simp only [a1R,a0q,show ia3 + k - ia3=k by ac_rfl]
      by_cases z1:ia3 + k + 1=la.length
      ·rw [if_pos z1]
       exact wpS_pure ⟨⟨e3.k,e3.a,e3.p,e3.f⟩,.inl ⟨_,_,rfl,m4.lastA W hz z1⟩⟩
      rw [if_neg z1]
      by_cases z2:ia3 + k=la.length
      ·rw [if_pos z2]
       exact wpS_pure ⟨⟨e3.k,e3.a,e3.p,e3.f⟩,.inl ⟨_,_,rfl,m4.doneA W (.inl z2)⟩⟩
      rw [if_neg z2]
      have hl:=k3 k (Nat.le_refl _) (by ac_rfl)
      refine wpS_bind (a0s (a0l b2) ?_)
      have m5:=m4.stepB T.trn W (by ac_rfl) b2 hl
      simp only [a0x,a0q]
      by_cases z1:ib3 + 1=lb.length
      ·rw [if_pos z1]
       exact wpS_pure ⟨⟨e3.k,e3.a,e3.p,e3.f⟩,.inl ⟨_,_,rfl,m5.doneA W (.inr z1)⟩⟩
      rw [if_neg z1]
      refine wpS_bind (a0s (a0l (by ac_rfl)) ?_)
      refine wpS_bind (a7F (left:=true) (ia:=ib3 + 1) (ib:=ia3 + k) T W.symm (e3.k.trans hk) (by ac_rfl) (by ac_rfl) fun j j1 j2 j3=>?_)
      dsimp only
      by_cases jz:j > 0
      ·rw [if_pos jz]
       have m6:=m5.galB T.trn W (by ac_rfl) j1 j2
       simp only [a1R,a0q,show ib3 + 1 + j - (ib3 + 1)=j by ac_rfl]
       by_cases z4:ib3 + 1 + j=lb.length
       ·rw [if_pos z4]
        exact wpS_pure ⟨⟨e3.k,e3.a,e3.p,e3.f⟩,.inl ⟨_,_,rfl,m6.doneA W (.inr z4)⟩⟩
       rw [if_neg z4]
       have hl2:=j3 j (Nat.le_refl _) (by ac_rfl)
       have m7:=m6.stepA T.trn W (by ac_rfl) (by ac_rfl) hl2
       refine wpS_bind (a0s (a0l (by ac_rfl)) ?_)
       simp only [a0x,a0q]
       by_cases z3:ia3 + k + 1 + 1=la.length
       ·rw [if_pos z3]
        exact wpS_pure ⟨⟨e3.k,e3.a,e3.p,e3.f⟩,.inl ⟨_,_,rfl,m7.lastA W hz z3⟩⟩
       rw [if_neg z3]
       by_cases z5:(decide (k < 7) && decide (j < 7))=true
       ·rw [if_pos z5]
        exact wpS_pure ⟨⟨e3.k,e3.a,e3.p,e3.f⟩,.inr ⟨_,_,_,_,_,_,rfl,m7,by ac_rfl,by ac_rfl,by ac_rfl⟩⟩
       ·rw [if_neg z5]
        exact wpS_pure ⟨⟨e3.k,e3.a,e3.p,e3.f⟩,_,_,_,_,_,_,rfl,m7,by ac_rfl,by ac_rfl,by ac_rfl⟩
      ·rw [if_neg jz]
       have m6:=m5
       have hl2:=j3 0 (by ac_rfl) (by ac_rfl)
       rw [Nat.add_zero] at hl2
       have m7:=m6.stepA T.trn W (by ac_rfl) (by ac_rfl) hl2
       refine wpS_bind (a0s (a0l (by ac_rfl)) ?_)
       simp only [a0x,a0q]
       by_cases z3:ia3 + k + 1 + 1=la.length
       ·rw [if_pos z3]
        exact wpS_pure ⟨⟨e3.k,e3.a,e3.p,e3.f⟩,.inl ⟨_,_,rfl,m7.lastA W hz z3⟩⟩
       rw [if_neg z3]
       by_cases z5:(decide (k < 7) && decide (j < 7))=true
       ·rw [if_pos z5]
        exact wpS_pure ⟨⟨e3.k,e3.a,e3.p,e3.f⟩,.inr ⟨_,_,_,_,_,_,rfl,m7,by ac_rfl,by ac_rfl,by ac_rfl⟩⟩
       ·rw [if_neg z5]
        exact wpS_pure ⟨⟨e3.k,e3.a,e3.p,e3.f⟩,_,_,_,_,_,_,rfl,m7,by ac_rfl,by ac_rfl,by ac_rfl⟩
     ·rw [if_neg kz]
      have m4:=m3
      have hl:=k3 0 (by ac_rfl) (by ac_rfl)
      rw [Nat.add_zero] at hl
      refine wpS_bind (a0s (a0l b2) ?_)
      have m5:=m4.stepB T.trn W (by ac_rfl) b2 hl
      simp only [a0x,a0q]
      by_cases z1:ib3 + 1=lb.length
      ·rw [if_pos z1]
       exact wpS_pure ⟨⟨e3.k,e3.a,e3.p,e3.f⟩,.inl ⟨_,_,rfl,m5.doneA W (.inr z1)⟩⟩
      rw [if_neg z1]
      refine wpS_bind (a0s (a0l (by ac_rfl)) ?_)
      refine wpS_bind (a7F (left:=true) (ia:=ib3 + 1) (ib:=ia3) T W.symm (e3.k.trans hk) (by ac_rfl) (by ac_rfl) fun j j1 j2 j3=>?_)
      dsimp only
      by_cases jz:j > 0
      ·rw [if_pos jz]
       have m6:=m5.galB T.trn W (by ac_rfl) j1 j2
       simp only [a1R,a0q,show ib3 + 1 + j - (ib3 + 1)=j by ac_rfl]
       by_cases z4:ib3 + 1 + j=lb.length
       ·rw [if_pos z4]
        exact wpS_pure ⟨⟨e3.k,e3.a,e3.p,e3.f⟩,.inl ⟨_,_,rfl,m6.doneA W (.inr z4)⟩⟩
       rw [if_neg z4]
       have hl2:=j3 j (Nat.le_refl _) (by ac_rfl)
       have m7:=m6.stepA T.trn W (by ac_rfl) (by ac_rfl) hl2
       refine wpS_bind (a0s (a0l (by ac_rfl)) ?_)
       simp only [a0x,a0q]
       by_cases z3:ia3 + 1 + 1=la.length
       ·rw [if_pos z3]
        exact wpS_pure ⟨⟨e3.k,e3.a,e3.p,e3.f⟩,.inl ⟨_,_,rfl,m7.lastA W hz z3⟩⟩
       rw [if_neg z3]
       by_cases z5:(decide (k < 7) && decide (j < 7))=true
       ·rw [if_pos z5]
        exact wpS_pure ⟨⟨e3.k,e3.a,e3.p,e3.f⟩,.inr ⟨_,_,_,_,_,_,rfl,m7,by ac_rfl,by ac_rfl,by ac_rfl⟩⟩
       ·rw [if_neg z5]
        exact wpS_pure ⟨⟨e3.k,e3.a,e3.p,e3.f⟩,_,_,_,_,_,_,rfl,m7,by ac_rfl,by ac_rfl,by ac_rfl⟩
      ·rw [if_neg jz]
       have m6:=m5
       have hl2:=j3 0 (by ac_rfl) (by ac_rfl)
       rw [Nat.add_zero] at hl2
       have m7:=m6.stepA T.trn W (by ac_rfl) (by ac_rfl) hl2
       refine wpS_bind (a0s (a0l (by ac_rfl)) ?_)
       simp only [a0x,a0q]
       by_cases z3:ia3 + 1 + 1=la.length
       ·rw [if_pos z3]
        exact wpS_pure ⟨⟨e3.k,e3.a,e3.p,e3.f⟩,.inl ⟨_,_,rfl,m7.lastA W hz z3⟩⟩
       rw [if_neg z3]
       by_cases z5:(decide (k < 7) && decide (j < 7))=true
       ·rw [if_pos z5]
        exact wpS_pure ⟨⟨e3.k,e3.a,e3.p,e3.f⟩,.inr ⟨_,_,_,_,_,_,rfl,m7,by ac_rfl,by ac_rfl,by ac_rfl⟩⟩
       ·rw [if_neg z5]
        exact wpS_pure ⟨⟨e3.k,e3.a,e3.p,e3.f⟩,_,_,_,_,_,_,rfl,m7,by ac_rfl,by ac_rfl,by ac_rfl⟩
    ·rw [if_neg hg]
     refine wpS_bind (wpS_modify ?_)
     refine wpS_bind (a0s (a0l b2) ?_)
     refine wpS_bind (a7F (left:=false) (ia:=ia3) (ib:=ib3) T W (e3.k.trans hk) (by ac_rfl) b2 fun k k1 k2 k3=>?_)
     dsimp only
     by_cases kz:k > 0
     ·rw [if_pos kz]
      have m4:=m3.galA T.trn W b2 k1 k2
      simp only [a1R,a0q,show ia3 + k - ia3=k by ac_rfl]
      by_cases z1:ia3 + k + 1=la.length
      ·rw [if_pos z1]
       exact wpS_pure ⟨⟨e3.k,e3.a,e3.p,e3.f⟩,.inl ⟨_,_,rfl,m4.lastA W hz z1⟩⟩
      rw [if_neg z1]
      by_cases z2:ia3 + k=la.length
      ·rw [if_pos z2]
       exact wpS_pure ⟨⟨e3.k,e3.a,e3.p,e3.f⟩,.inl ⟨_,_,rfl,m4.doneA W (.inl z2)⟩⟩
      rw [if_neg z2]
      have hl:=k3 k (Nat.le_refl _) (by ac_rfl)
      refine wpS_bind (a0s (a0l b2) ?_)
      have m5:=m4.stepB T.trn W (by ac_rfl) b2 hl
      simp only [a0x,a0q]
      by_cases z1:ib3 + 1=lb.length
      ·rw [if_pos z1]
       exact wpS_pure ⟨⟨e3.k,e3.a,e3.p,e3.f⟩,.inl ⟨_,_,rfl,m5.doneA W (.inr z1)⟩⟩
      rw [if_neg z1]
      refine wpS_bind (a0s (a0l (by ac_rfl)) ?_)
      refine wpS_bind (a7F (left:=true) (ia:=ib3 + 1) (ib:=ia3 + k) T W.symm (e3.k.trans hk) (by ac_rfl) (by ac_rfl) fun j j1 j2 j3=>?_)
      dsimp only
      by_cases jz:j > 0
      ·rw [if_pos jz]
       have m6:=m5.galB T.trn W (by ac_rfl) j1 j2
       simp only [a1R,a0q,show ib3 + 1 + j - (ib3 + 1)=j by ac_rfl]
       by_cases z4:ib3 + 1 + j=lb.length
       ·rw [if_pos z4]
        exact wpS_pure ⟨⟨e3.k,e3.a,e3.p,e3.f⟩,.inl ⟨_,_,rfl,m6.doneA W (.inr z4)⟩⟩
       rw [if_neg z4]
       have hl2:=j3 j (Nat.le_refl _) (by ac_rfl)
       have m7:=m6.stepA T.trn W (by ac_rfl) (by ac_rfl) hl2
       refine wpS_bind (a0s (a0l (by ac_rfl)) ?_)
       simp only [a0x,a0q]
       by_cases z3:ia3 + k + 1 + 1=la.length
       ·rw [if_pos z3]
        exact wpS_pure ⟨⟨e3.k,e3.a,e3.p,e3.f⟩,.inl ⟨_,_,rfl,m7.lastA W hz z3⟩⟩
       rw [if_neg z3]
       by_cases z5:(decide (k < 7) && decide (j < 7))=true
       ·rw [if_pos z5]
        exact wpS_pure ⟨⟨e3.k,e3.a,e3.p,e3.f⟩,.inr ⟨_,_,_,_,_,_,rfl,m7,by ac_rfl,by ac_rfl,by ac_rfl⟩⟩
       ·rw [if_neg z5]
        exact wpS_pure ⟨⟨e3.k,e3.a,e3.p,e3.f⟩,_,_,_,_,_,_,rfl,m7,by ac_rfl,by ac_rfl,by ac_rfl⟩
      ·rw [if_neg jz]
       have m6:=m5
       have hl2:=j3 0 (by ac_rfl) (by ac_rfl)
       rw [Nat.add_zero] at hl2
       have m7:=m6.stepA T.trn W (by ac_rfl) (by ac_rfl) hl2
       refine wpS_bind (a0s (a0l (by ac_rfl)) ?_)
       simp only [a0x,a0q]
       by_cases z3:ia3 + k + 1 + 1=la.length
       ·rw [if_pos z3]
        exact wpS_pure ⟨⟨e3.k,e3.a,e3.p,e3.f⟩,.inl ⟨_,_,rfl,m7.lastA W hz z3⟩⟩
       rw [if_neg z3]
       by_cases z5:(decide (k < 7) && decide (j < 7))=true
       ·rw [if_pos z5]
        exact wpS_pure ⟨⟨e3.k,e3.a,e3.p,e3.f⟩,.inr ⟨_,_,_,_,_,_,rfl,m7,by ac_rfl,by ac_rfl,by ac_rfl⟩⟩
       ·rw [if_neg z5]
        exact wpS_pure ⟨⟨e3.k,e3.a,e3.p,e3.f⟩,_,_,_,_,_,_,rfl,m7,by ac_rfl,by ac_rfl,by ac_rfl⟩
     ·rw [if_neg kz]
      have m4:=m3
      have hl:=k3 0 (by ac_rfl) (by ac_rfl)
      rw [Nat.add_zero] at hl
      refine wpS_bind (a0s (a0l b2) ?_)
      have m5:=m4.stepB T.trn W (by ac_rfl) b2 hl
      simp only [a0x,a0q]
      by_cases z1:ib3 + 1=lb.length
      ·rw [if_pos z1]
       exact wpS_pure ⟨⟨e3.k,e3.a,e3.p,e3.f⟩,.inl ⟨_,_,rfl,m5.doneA W (.inr z1)⟩⟩
      rw [if_neg z1]
      refine wpS_bind (a0s (a0l (by ac_rfl)) ?_)
      refine wpS_bind (a7F (left:=true) (ia:=ib3 + 1) (ib:=ia3) T W.symm (e3.k.trans hk) (by ac_rfl) (by ac_rfl) fun j j1 j2 j3=>?_)
      dsimp only
      by_cases jz:j > 0
      ·rw [if_pos jz]
       have m6:=m5.galB T.trn W (by ac_rfl) j1 j2
       simp only [a1R,a0q,show ib3 + 1 + j - (ib3 + 1)=j by ac_rfl]
       by_cases z4:ib3 + 1 + j=lb.length
       ·rw [if_pos z4]
        exact wpS_pure ⟨⟨e3.k,e3.a,e3.p,e3.f⟩,.inl ⟨_,_,rfl,m6.doneA W (.inr z4)⟩⟩
       rw [if_neg z4]
       have hl2:=j3 j (Nat.le_refl _) (by ac_rfl)
       have m7:=m6.stepA T.trn W (by ac_rfl) (by ac_rfl) hl2
       refine wpS_bind (a0s (a0l (by ac_rfl)) ?_)
       simp only [a0x,a0q]
       by_cases z3:ia3 + 1 + 1=la.length
       ·rw [if_pos z3]
        exact wpS_pure ⟨⟨e3.k,e3.a,e3.p,e3.f⟩,.inl ⟨_,_,rfl,m7.lastA W hz z3⟩⟩
       rw [if_neg z3]
       by_cases z5:(decide (k < 7) && decide (j < 7))=true
       ·rw [if_pos z5]
        exact wpS_pure ⟨⟨e3.k,e3.a,e3.p,e3.f⟩,.inr ⟨_,_,_,_,_,_,rfl,m7,by ac_rfl,by ac_rfl,by ac_rfl⟩⟩
       ·rw [if_neg z5]
        exact wpS_pure ⟨⟨e3.k,e3.a,e3.p,e3.f⟩,_,_,_,_,_,_,rfl,m7,by ac_rfl,by ac_rfl,by ac_rfl⟩
      ·rw [if_neg jz]
       have m6:=m5
       have hl2:=j3 0 (by ac_rfl) (by ac_rfl)
       rw [Nat.add_zero] at hl2
       have m7:=m6.stepA T.trn W (by ac_rfl) (by ac_rfl) hl2
       refine wpS_bind (a0s (a0l (by ac_rfl)) ?_)
       simp only [a0x,a0q]
       by_cases z3:ia3 + 1 + 1=la.length
       ·rw [if_pos z3]
        exact wpS_pure ⟨⟨e3.k,e3.a,e3.p,e3.f⟩,.inl ⟨_,_,rfl,m7.lastA W hz z3⟩⟩
       rw [if_neg z3]
       by_cases z5:(decide (k < 7) && decide (j < 7))=true
       ·rw [if_pos z5]
        exact wpS_pure ⟨⟨e3.k,e3.a,e3.p,e3.f⟩,.inr ⟨_,_,_,_,_,_,rfl,m7,by ac_rfl,by ac_rfl,by ac_rfl⟩⟩
       ·rw [if_neg z5]
        exact wpS_pure ⟨⟨e3.k,e3.a,e3.p,e3.f⟩,_,_,_,_,_,_,rfl,m7,by ac_rfl,by ac_rfl,by ac_rfl⟩
end
end L2
namespace L2
open PySem PySem.Spec PyProof.Rows PySem.W
noncomputable abbrev fl (lt:Nat->Nat->Bool):Nat->Nat->Bool:=fun x y=>lt y x
section
variable {M:Model} {A:Around} {E:Value->Shared->Prop} {s:Shared} {N:Nat} {lt:Nat->Nat->Bool} {it:Nat->Keyed} {κ:SortKind} {la lb lo:List Nat} {na nb:Nat}
theorem Trn.fl (T:Trn N lt):Trn N (fl lt):=⟨fun i j k a b c h1 h2=>T.tr k j i c b a h2 h1⟩
theorem Two.fl (W:Two N lt la lb):Two N (fl lt) la.reverse lb.reverse where
 ua:=List.pairwise_reverse.mpr W.ua
 ub:=List.pairwise_reverse.mpr W.ub
 nd:=by
  have:=W.nd
  refine (List.Perm.nodup_iff ?_).mp this
  exact (List.reverse_perm la).symm.append (List.reverse_perm lb).symm
 bd:=fun x hx=>W.bd x (by simpa using hx)
structure Hg (lt:Nat->Nat->Bool) (la lb lo:List Nat) (na nb:Nat):Prop where
 m:Mg (fl lt) la.reverse lb.reverse lo (la.length - na) (lb.length - nb)
 a:na<=la.length
 b:nb<=lb.length
theorem a6A {l:List Nat} {n:Nat} (h0:0 < n) (h:n<=l.length):l.reverse.getD (l.length - n) 0=l.getD (n - 1) 0:=by
 simp only [List.getD_eq_getElem?_getD]
 rw [List.getElem?_reverse (by ac_rfl)]
 congr 2
 ac_rfl
theorem a5e {l:List Nat} {n:Nat} (h:n<=l.length):l.reverse.drop (l.length - n)=(l.take n).reverse:=by
 rw [List.drop_reverse]
 congr 2
 ac_rfl
theorem rev_cut {l:List Nat} {t n:Nat} (h1:t<=n) (h:n<=l.length):(l.reverse.drop (l.length - n)).take (n - t)=((l.drop t).take (n - t)).reverse:=by
 rw [a5e h,List.take_reverse,List.length_take,Nat.min_eq_left h]
 congr 1
 rw [show n - (n - t)=t by ac_rfl,List.drop_take]
theorem Hg.symm (h:Hg lt la lb lo na nb):Hg lt lb la lo nb na:=⟨h.m.symm,h.b,h.a⟩
theorem Hg.stepA (T:Trn N lt) (W:Two N lt la lb) (h:Hg lt la lb lo na nb) (h1:0 < na) (h2:0 < nb) (z:lt (lb.getD (nb - 1) 0) (la.getD (na - 1) 0)=true):Hg lt la lb (lo ++ [la.getD (na - 1) 0]) (na - 1) nb:=by
 have a:=h.a
 have b:=h.b
 have:=h.m.stepA T.fl W.fl (by simp; ac_rfl) (by simp; ac_rfl) (by rw [a6A h1 h.a,a6A h2 h.b]; exact z)
 rw [a6A h1 h.a,show la.length - na + 1=la.length - (na - 1) by ac_rfl] at this
 exact ⟨this,by ac_rfl,h.b⟩
theorem Hg.stepB (T:Trn N lt) (W:Two N lt la lb) (h:Hg lt la lb lo na nb) (h1:0 < na) (h2:0 < nb) (z:lt (la.getD (na - 1) 0) (lb.getD (nb - 1) 0)=true):Hg lt la lb (lo ++ [lb.getD (nb - 1) 0]) na (nb - 1):=(h.symm.stepA T W.symm h2 h1 z).symm
theorem Hg.galA (T:Trn N lt) (W:Two N lt la lb) (h:Hg lt la lb lo na nb) {t:Nat} (h2:0 < nb) (ht:t<=na) (z:∀ i,t<=i->i < na->lt (lb.getD (nb - 1) 0) (la.getD i 0)=true):Hg lt la lb (lo ++ ((la.drop t).take (na - t)).reverse) t nb:=by
 have a:=h.a
 have b:=h.b
 have:=h.m.galA T.fl W.fl (k:=na - t) (by simp; ac_rfl) (by simp; ac_rfl) (fun i hi=>by
  rw [a6A h2 h.b,show la.length - na + i=la.length - (na - i) by ac_rfl,a6A (by ac_rfl) (by ac_rfl)]
  exact z (na - i - 1) (by ac_rfl) (by ac_rfl))
 rw [rev_cut ht h.a,show la.length - na + (na - t)=la.length - t by ac_rfl] at this
 exact ⟨this,by ac_rfl,h.b⟩
theorem Hg.galB (T:Trn N lt) (W:Two N lt la lb) (h:Hg lt la lb lo na nb) {t:Nat} (h1:0 < na) (ht:t<=nb) (z:∀ i,t<=i->i < nb->lt (la.getD (na - 1) 0) (lb.getD i 0)=true):Hg lt la lb (lo ++ ((lb.drop t).take (nb - t)).reverse) na t:=(h.symm.galA T W.symm h1 ht z).symm
theorem Dn2.rev {l:List Nat} (d:Dn2 (fl lt) la.reverse lb.reverse l):Dn2 lt la lb l.reverse:=
 ⟨(List.reverse_perm l).trans (d.1.trans ((List.reverse_perm la).append (List.reverse_perm lb))),List.pairwise_reverse.mpr d.2⟩
theorem Hg.first (W:Two N lt la lb) (h:Hg lt la lb lo na nb) (z:∀ x ∈ la.take na,∀ r ∈ lb.take nb,lt r x=true):Dn2 lt la lb (lb.take nb ++ la.take na ++ lo.reverse):=by
 have:=(h.m.endA W.fl (by rw [a5e h.a,a5e h.b]; intro x hx r hr; exact z x (by simpa using hx) r (by simpa using hr))).rev
 rw [a5e h.a,a5e h.b] at this
 simpa using this
theorem Hg.done (W:Two N lt la lb) (h:Hg lt la lb lo na nb) (z:na=0 \/ nb=0):Dn2 lt la lb (la.take na ++ lb.take nb ++ lo.reverse):=by
 have:=h.first W (fun x hx r hr=>by rcases z with z | z <;> subst z <;> first | (simp at hx; done) | (simp at hr; done))
 rcases z with z | z
 ·subst z
  simpa using this
 ·subst z
  simpa using this
end
end L2
namespace L2
open PySem PySem.Spec PyProof.Rows PySem.W
section
variable {M:Model} {A:Around} {E:Value->Shared->Prop} {s:Shared} {N:Nat} {lt:Nat->Nat->Bool} {it:Nat->Keyed} {κ:SortKind} {la lb lo:List Nat} {na nb:Nat}
theorem a1m {l:List Nat}:(arK it l).reverse=arK it l.reverse:=by simp [arK]
theorem arK_head {l:List Nat} {n:Nat}:(arK it l).extract 0 n=arK it (l.take n):=by rw [a1R]; simp
theorem a7G (T:Tm M A E s N lt it κ) (W:Two N lt la lb) {left:Bool} {st:SortSt} {Q:Option Nat->SortSt->Prop} (hk:kindOf st=κ) (h1:0 < na) (ha:na<=la.length) (h2:0 < nb) (hb:nb<=lb.length)
  (q:∀ t,t<=na->(∀ i,i < t->lt (la.getD i 0) (lb.getD (nb - 1) 0)=true)->(∀ i,t<=i->i < na->lt (lb.getD (nb - 1) 0) (la.getD i 0)=true)->Q (some t) st):
  wpS M A E s (gal left (it (lb.getD (nb - 1) 0)) (arK it la) 0 na (na - 1)) Q st:=
 b1n T (f:=fun i=>la.getD i 0) hk (W.symm.ltA (by ac_rfl)) (fun i h=>by rw [Nat.zero_add]; exact a0l (by ac_rfl)) (fun i h=>⟨W.ltA (by ac_rfl),W.neAB (by ac_rfl) (by ac_rfl)⟩) (fun i j h h2=>W.upA h (by ac_rfl)) (by ac_rfl) q
theorem mgHi_ok (T:Tm M A E s N lt it κ) (W:Two N lt la lb) {st:SortSt} {Q:Array Keyed->SortSt->Prop} (hk:kindOf st=κ) (ha:0 < la.length) (hb:0 < lb.length) (h0:∀ x ∈ la,lt (lb.getD 0 0) x=true) (hz:lt (lb.getD (lb.length - 1) 0) (la.getD (la.length - 1) 0)=true)
  (q:∀ l st',Dn2 lt la lb l->SEq st st'->Q (arK it l) st'):wpS M A E s (mgHi (arK it la) (arK it lb)) Q st:=by
 have m0:Hg lt la lb [] la.length lb.length:=⟨⟨by simpa using (List.reverse_perm la).append (List.reverse_perm lb) |>.trans (List.Perm.refl _) |>.symm.symm.trans ((List.reverse_perm la).append (List.reverse_perm lb)).symm,.nil,fun o ho=>by cases ho⟩,Nat.le_refl _,Nat.le_refl _⟩
 have m1:=m0.stepA T.trn W ha hb hz
 have fst:∀ {lo na nb},Hg lt la lb lo na nb->nb=1->Dn2 lt la lb (lb.take nb ++ la.take na ++ lo.reverse):=fun {lo na nb} m e=>m.first W fun x hx r hr=>by
  subst e
  have er:r=lb.getD 0 0:=by
   cases lb with
   | nil=>simp at hb
   | cons b l=>simpa using hr
  rw [er]
  exact h0 x (List.mem_of_mem_take hx)
 unfold mgHi
 refine wpS_bind (wpS_lift (wpAny_rule ⟨rfl,?_⟩))
 simp only [a8K]
 refine wpS_bind (a0s (a0l (by ac_rfl)) ?_)
 simp only [arK_head,beq_iff_eq]
 rw [show #[it (la.getD (la.length - 1) 0)]=arK it ([] ++ [la.getD (la.length - 1) 0]) from rfl]
 simp only [a1m,a0q]
 by_cases c1:la.length - 1=0
 ·rw [if_pos c1]
  exact wpS_pure (q _ _ (m1.done W (.inl c1)) (.refl st))
 rw [if_neg c1]
 by_cases c2:lb.length=1
 ·rw [if_pos c2]
  exact wpS_pure (q _ _ (fst m1 c2) (.refl st))
 rw [if_neg c2]
 refine wpS_bind (wpS_get ?_)
 refine wpS_bind (wpS_mono (wpS_forRange
  (I:=fun x c st'=>SEq st st' /\ ∃ lo na nb g,c=(none,na,nb,arK it lo,g)/\Hg lt la lb lo na nb/\0 < na/\1 < nb/\na + nb + x + 1<=la.length + lb.length)
  (Q:=fun c st'=>SEq st st' /\ ∃ l c',c=(some (arK it l),c')/\Dn2 lt la lb l) ?step ?fin ?init) ?post)
 case fin=>
  rintro c st' ⟨_,lo,na,nb,g,rfl,m,h1,h2,h3⟩
  ac_rfl
 case init=>exact ⟨.refl st,_,_,_,_,rfl,m1,by ac_rfl,by ac_rfl,by ac_rfl⟩
 case post=>
  rintro c st' ⟨e,l,c',rfl,d⟩
  exact wpS_pure (q l st' d e)
 case step=>
  rintro x c st' _ hx ⟨e,lo,na,nb,g,rfl,m,h1,h2,h3⟩
  dsimp only
  refine wpS_bind (wpS_mono (wpS_forRange
   (I:=fun y c st'=>SEq st st' /\ ∃ lo na' nb' ac bc,c=(none,na',nb',arK it lo,ac,bc)/\Hg lt la lb lo na' nb'/\0 < na'/\1 < nb'/\na' + nb' + y<=na + nb)
   (Q:=fun c st'=>SEq st st'/\((∃ l c',c=(some (arK it l),c')/\Dn2 lt la lb l) \/ ∃ lo na' nb' ac bc,c=(none,na',nb',arK it lo,ac,bc)/\Hg lt la lb lo na' nb'/\0 < na'/\1 < nb'/\na' + nb' + 1<=na + nb)) ?s1 ?f1 ?i1) ?p1)
  case i1=>exact ⟨e,_,_,_,_,_,rfl,m,h1,h2,Nat.le_refl _⟩
  case f1=>
   rintro c st2 ⟨e2,lo2,na2,nb2,ac,bc,rfl,m2,a1,a2,a3⟩
   exact ⟨e2,.inr ⟨_,_,_,_,_,rfl,m2,a1,a2,by ac_rfl⟩⟩
  case s1=>
   rintro y c st2 _ hy ⟨e2,lo2,na2,nb2,ac,bc,rfl,m2,a1,a2,a3⟩
   have pa:=m2.a
   have pb:=m2.b
   dsimp only
   refine wpS_bind (a0s (a0l (by ac_rfl)) (wpS_bind (a0s (a0l (by ac_rfl)) (wpS_bind (T.cmp _ _ (W.symm.ltA (by ac_rfl)) (W.ltA (by ac_rfl)) (Ne.symm (W.neAB (by ac_rfl) (by ac_rfl))) _ _ (e2.k.trans hk) ?_)))))
   cases y0:lt (lb.getD (nb2 - 1) 0) (la.getD (na2 - 1) 0) with
   | true=>
    dsimp only
    rw [if_pos rfl]
    refine wpS_bind (a0s (a0l (by ac_rfl)) ?_)
    have m3:=m2.stepA T.trn W a1 (by ac_rfl) y0
    simp only [a0x,a1m,a0q]
    by_cases z:na2 - 1=0
    ·rw [if_pos z]
     exact wpS_pure ⟨e2,.inl ⟨_,_,rfl,m3.done W (.inl z)⟩⟩
    ·rw [if_neg z]
     split
     ·exact wpS_pure ⟨e2,.inr ⟨_,_,_,_,_,rfl,m3,by ac_rfl,a2,by ac_rfl⟩⟩
     ·exact wpS_pure ⟨e2,_,_,_,_,_,rfl,m3,by ac_rfl,a2,by ac_rfl⟩
   | false=>
    dsimp only
    rw [if_neg (by decide)]
    refine wpS_bind (a0s (a0l (by ac_rfl)) ?_)
    have y1:lt (la.getD (na2 - 1) 0) (lb.getD (nb2 - 1) 0)=true:=by rw [T.tot _ _ (W.ltA (by ac_rfl)) (W.symm.ltA (by ac_rfl)) (W.neAB (by ac_rfl) (by ac_rfl)),y0]; rfl
    have m3:=m2.stepB T.trn W a1 (by ac_rfl) y1
    simp only [a0x,a1m,a0q]
    by_cases z:nb2 - 1=1
    ·rw [if_pos z]
     exact wpS_pure ⟨e2,.inl ⟨_,_,rfl,fst m3 z⟩⟩
    ·rw [if_neg z]
     split
     ·exact wpS_pure ⟨e2,.inr ⟨_,_,_,_,_,rfl,m3,a1,by ac_rfl,by ac_rfl⟩⟩
     ·exact wpS_pure ⟨e2,_,_,_,_,_,rfl,m3,a1,by ac_rfl,by ac_rfl⟩
  case p1=>
   rintro c st2 ⟨e2,⟨l,c',rfl,d⟩ | ⟨lo2,na2,nb2,ac,bc,rfl,m2,a1,a2,a3⟩⟩
   ·exact wpS_pure ⟨e2,l,_,rfl,d⟩
   dsimp only
   refine wpS_bind (wpS_lift (wpAny_rule ⟨rfl,?_⟩))
   refine wpS_bind (wpS_mono (wpS_forRange
    (I:=fun y c st'=>SEq st st' /\ ∃ lo na' nb' g' ac bc,c=(none,na',nb',arK it lo,g',ac,bc)/\Hg lt la lb lo na' nb'/\0 < na'/\1 < nb'/\na' + nb' + y<=na2 + nb2)
    (Q:=fun c st'=>SEq st st'/\((∃ l c',c=(some (arK it l),c')/\Dn2 lt la lb l) \/ ∃ lo na' nb' g' ac bc,c=(none,na',nb',arK it lo,g',ac,bc)/\Hg lt la lb lo na' nb'/\0 < na'/\1 < nb'/\na' + nb'<=na2 + nb2)) ?s2 ?f2 ?i2) ?p2)
   case i2=>exact ⟨e2,_,_,_,_,_,_,rfl,m2,a1,a2,Nat.le_refl _⟩
   case f2=>
    rintro c st3 ⟨e3,lo3,na3,nb3,g3,ac3,bc3,rfl,m3,b1,b2,b3⟩
    exact ⟨e3,.inr ⟨_,_,_,_,_,_,rfl,m3,b1,b2,by ac_rfl⟩⟩
   case p2=>
    rintro c st3 ⟨e3,⟨l,c',rfl,d⟩ | ⟨lo3,na3,nb3,g3,ac3,bc3,rfl,m3,b1,b2,b3⟩⟩
    ·exact wpS_pure ⟨e3,l,_,rfl,d⟩
    dsimp only
    refine wpS_bind (wpS_modify ?_)
    exact wpS_pure ⟨⟨e3.k,e3.a,e3.p,e3.f⟩,_,_,_,_,rfl,m3,b1,b2,by ac_rfl⟩
   case s2=>
    rintro y c st3 _ hy ⟨e3,lo3,na3,nb3,g3,ac3,bc3,rfl,m3,b1,b2,b3⟩
    have pa:=m3.a
    have pb:=m3.b
    dsimp only
    by_cases hg:g3 > 1
    ·rw [if_pos hg]
     refine wpS_bind (wpS_modify ?_)
     refine wpS_bind (a0s (a0l (by ac_rfl)) ?_)
     refine wpS_bind (a7G (left:=false) (na:=na3) (nb:=nb3) T W (e3.k.trans hk) b1 pa (by ac_rfl) pb fun t k1 k2 k3=>?_)
     dsimp only
     by_cases kz:na3 - t > 0
     ·rw [if_pos kz]
      have m4:=m3.galA T.trn W (by ac_rfl) k1 k3
      try simp only [a1R,a1m,a0q]
      by_cases z0:t=0
      ·rw [if_pos z0]
       exact wpS_pure ⟨⟨e3.k,e3.a,e3.p,e3.f⟩,.inl ⟨_,_,rfl,m4.done W (.inl z0)⟩⟩
      rw [if_neg z0]
      have hl:=k2 (t - 1) (by ac_rfl)
      refine wpS_bind (a0s (a0l (by ac_rfl)) ?_)
      have m5:=m4.stepB T.trn W (by ac_rfl) (by ac_rfl) hl
      simp only [a0x,a1m,a0q]
      by_cases z1:nb3 - 1=1
      ·rw [if_pos z1]
       exact wpS_pure ⟨⟨e3.k,e3.a,e3.p,e3.f⟩,.inl ⟨_,_,rfl,fst m5 z1⟩⟩
      rw [if_neg z1]
      refine wpS_bind (a0s (a0l (by ac_rfl)) ?_)
      refine wpS_bind (a7G (left:=true) (na:=nb3 - 1) (nb:=t) T W.symm (e3.k.trans hk) (by ac_rfl) (by ac_rfl) (by ac_rfl) (by ac_rfl) fun u j1 j2 j3=>?_)
      dsimp only
      by_cases jz:nb3 - 1 - u > 0
      ·rw [if_pos jz]
       have m6:=m5.galB T.trn W (by ac_rfl) j1 j3
       try simp only [a1R,a1m,a0q]
       by_cases z4:u=1
       ·rw [if_pos z4]
        exact wpS_pure ⟨⟨e3.k,e3.a,e3.p,e3.f⟩,.inl ⟨_,_,rfl,fst m6 z4⟩⟩
       rw [if_neg z4]
       by_cases z6:u=0
       ·rw [if_pos z6]
        exact wpS_pure ⟨⟨e3.k,e3.a,e3.p,e3.f⟩,.inl ⟨_,_,rfl,m6.done W (.inr z6)⟩⟩
       rw [if_neg z6]
       have hl2:=j2 (u - 1) (by ac_rfl)
       have m7:=m6.stepA T.trn W (by ac_rfl) (by ac_rfl) hl2
       refine wpS_bind (a0s (a0l (by ac_rfl)) ?_)
       simp only [a0x,a1m,a0q]
       by_cases z3:t - 1=0
       ·rw [if_pos z3]
        exact wpS_pure ⟨⟨e3.k,e3.a,e3.p,e3.f⟩,.inl ⟨_,_,rfl,m7.done W (.inl z3)⟩⟩
       rw [if_neg z3]
       by_cases z5:(decide (na3 - t < 7) && decide (nb3 - 1 - u < 7))=true
       ·rw [if_pos z5]
        exact wpS_pure ⟨⟨e3.k,e3.a,e3.p,e3.f⟩,.inr ⟨_,_,_,_,_,_,rfl,m7,by ac_rfl,by ac_rfl,by ac_rfl⟩⟩
       ·rw [if_neg z5]
        exact wpS_pure ⟨⟨e3.k,e3.a,e3.p,e3.f⟩,_,_,_,_,_,_,rfl,m7,by ac_rfl,by ac_rfl,by ac_rfl⟩
      ·rw [if_neg jz]
       have eu:u=nb3 - 1:=by ac_rfl
       have m6:=m5
       have hl2:=j2 (nb3 - 1 - 1) (by ac_rfl)
       have m7:=m6.stepA T.trn W (by ac_rfl) (by ac_rfl) hl2
       refine wpS_bind (a0s (a0l (by ac_rfl)) ?_)
       simp only [a0x,a1m,a0q]
       by_cases z3:t - 1=0
       ·rw [if_pos z3]
        exact wpS_pure ⟨⟨e3.k,e3.a,e3.p,e3.f⟩,.inl ⟨_,_,rfl,m7.done W (.inl z3)⟩⟩
       rw [if_neg z3]
       by_cases z5:(decide (na3 - t < 7) && decide (nb3 - 1 - u < 7))=true
       ·rw [if_pos z5]
        exact wpS_pure ⟨⟨e3.k,e3.a,e3.p,e3.f⟩,.inr ⟨_,_,_,_,_,_,rfl,m7,by ac_rfl,by ac_rfl,by ac_rfl⟩⟩
       ·rw [if_neg z5]
        exact wpS_pure ⟨⟨e3.k,e3.a,e3.p,e3.f⟩,_,_,_,_,_,_,rfl,m7,by ac_rfl,by ac_rfl,by ac_rfl⟩
     ·rw [if_neg kz]
      have et:t=na3:=by ac_rfl
      have m4:=m3
      have hl:=k2 (na3 - 1) (by ac_rfl)
      refine wpS_bind (a0s (a0l (by ac_rfl)) ?_)
      have m5:=m4.stepB T.trn W (by ac_rfl) (by ac_rfl) hl
      simp only [a0x,a1m,a0q]
      by_cases z1:nb3 - 1=1
      ·rw [if_pos z1]
       exact wpS_pure ⟨⟨e3.k,e3.a,e3.p,e3.f⟩,.inl ⟨_,_,rfl,fst m5 z1⟩⟩
      rw [if_neg z1]
      refine wpS_bind (a0s (a0l (by ac_rfl)) ?_)
      refine wpS_bind (a7G (left:=true) (na:=nb3 - 1) (nb:=na3) T W.symm (e3.k.trans hk) (by ac_rfl) (by ac_rfl) (by ac_rfl) (by ac_rfl) fun u j1 j2 j3=>?_)
      dsimp only
      by_cases jz:nb3 - 1 - u > 0
      ·rw [if_pos jz]
       have m6:=m5.galB T.trn W (by ac_rfl) j1 j3
       try simp only [a1R,a1m,a0q]
       by_cases z4:u=1
       ·rw [if_pos z4]
        exact wpS_pure ⟨⟨e3.k,e3.a,e3.p,e3.f⟩,.inl ⟨_,_,rfl,fst m6 z4⟩⟩
       rw [if_neg z4]
       by_cases z6:u=0
       ·rw [if_pos z6]
        exact wpS_pure ⟨⟨e3.k,e3.a,e3.p,e3.f⟩,.inl ⟨_,_,rfl,m6.done W (.inr z6)⟩⟩
       rw [if_neg z6]
       have hl2:=j2 (u - 1) (by ac_rfl)
       have m7:=m6.stepA T.trn W (by ac_rfl) (by ac_rfl) hl2
       refine wpS_bind (a0s (a0l (by ac_rfl)) ?_)
       simp only [a0x,a1m,a0q]
       by_cases z3:na3 - 1=0
       ·rw [if_pos z3]
        exact wpS_pure ⟨⟨e3.k,e3.a,e3.p,e3.f⟩,.inl ⟨_,_,rfl,m7.done W (.inl z3)⟩⟩
       rw [if_neg z3]
       by_cases z5:(decide (na3 - t < 7) && decide (nb3 - 1 - u < 7))=true
       ·rw [if_pos z5]
        exact wpS_pure ⟨⟨e3.k,e3.a,e3.p,e3.f⟩,.inr ⟨_,_,_,_,_,_,rfl,m7,by ac_rfl,by ac_rfl,by ac_rfl⟩⟩
       ·rw [if_neg z5]
        exact wpS_pure ⟨⟨e3.k,e3.a,e3.p,e3.f⟩,_,_,_,_,_,_,rfl,m7,by ac_rfl,by ac_rfl,by ac_rfl⟩
      ·rw [if_neg jz]
       have eu:u=nb3 - 1:=by ac_rfl
       have m6:=m5
       have hl2:=j2 (nb3 - 1 - 1) (by ac_rfl)
       have m7:=m6.stepA T.trn W (by ac_rfl) (by ac_rfl) hl2
       refine wpS_bind (a0s (a0l (by ac_rfl)) ?_)
       simp only [a0x,a1m,a0q]
       by_cases z3:na3 - 1=0
       ·rw [if_pos z3]
        exact wpS_pure ⟨⟨e3.k,e3.a,e3.p,e3.f⟩,.inl ⟨_,_,rfl,m7.done W (.inl z3)⟩⟩
       rw [if_neg z3]
       by_cases z5:(decide (na3 - t < 7) && decide (nb3 - 1 - u < 7))=true
       ·rw [if_pos z5]
        exact wpS_pure ⟨⟨e3.k,e3.a,e3.p,e3.f⟩,.inr ⟨_,_,_,_,_,_,rfl,m7,by ac_rfl,by ac_rfl,by ac_rfl⟩⟩
       ·rw [if_neg z5]
        exact wpS_pure ⟨⟨e3.k,e3.a,e3.p,e3.f⟩,_,_,_,_,_,_,rfl,m7,by ac_rfl,by ac_rfl,by ac_rfl⟩
    ·rw [if_neg hg]
     refine wpS_bind (wpS_modify ?_)
     refine wpS_bind (a0s (a0l (by ac_rfl)) ?_)
     refine wpS_bind (a7G (left:=false) (na:=na3) (nb:=nb3) T W (e3.k.trans hk) b1 pa (by ac_rfl) pb fun t k1 k2 k3=>?_)
     dsimp only
     by_cases kz:na3 - t > 0
     ·rw [if_pos kz]
      have m4:=m3.galA T.trn W (by ac_rfl) k1 k3
      try simp only [a1R,a1m,a0q]
      by_cases z0:t=0
      ·rw [if_pos z0]
       exact wpS_pure ⟨⟨e3.k,e3.a,e3.p,e3.f⟩,.inl ⟨_,_,rfl,m4.done W (.inl z0)⟩⟩
      rw [if_neg z0]
      have hl:=k2 (t - 1) (by ac_rfl)
      refine wpS_bind (a0s (a0l (by ac_rfl)) ?_)
      have m5:=m4.stepB T.trn W (by ac_rfl) (by ac_rfl) hl
      simp only [a0x,a1m,a0q]
      by_cases z1:nb3 - 1=1
      ·rw [if_pos z1]
       exact wpS_pure ⟨⟨e3.k,e3.a,e3.p,e3.f⟩,.inl ⟨_,_,rfl,fst m5 z1⟩⟩
      rw [if_neg z1]
      refine wpS_bind (a0s (a0l (by ac_rfl)) ?_)
      refine wpS_bind (a7G (left:=true) (na:=nb3 - 1) (nb:=t) T W.symm (e3.k.trans hk) (by ac_rfl) (by ac_rfl) (by ac_rfl) (by ac_rfl) fun u j1 j2 j3=>?_)
      dsimp only
      by_cases jz:nb3 - 1 - u > 0
      ·rw [if_pos jz]
       have m6:=m5.galB T.trn W (by ac_rfl) j1 j3
       try simp only [a1R,a1m,a0q]
       by_cases z4:u=1
       ·rw [if_pos z4]
        exact wpS_pure ⟨⟨e3.k,e3.a,e3.p,e3.f⟩,.inl ⟨_,_,rfl,fst m6 z4⟩⟩
       rw [if_neg z4]
       by_cases z6:u=0
       ·rw [if_pos z6]
        exact wpS_pure ⟨⟨e3.k,e3.a,e3.p,e3.f⟩,.inl ⟨_,_,rfl,m6.done W (.inr z6)⟩⟩
       rw [if_neg z6]
       have hl2:=j2 (u - 1) (by ac_rfl)
       have m7:=m6.stepA T.trn W (by ac_rfl) (by ac_rfl) hl2
       refine wpS_bind (a0s (a0l (by ac_rfl)) ?_)
       simp only [a0x,a1m,a0q]
       by_cases z3:t - 1=0
       ·rw [if_pos z3]
        exact wpS_pure ⟨⟨e3.k,e3.a,e3.p,e3.f⟩,.inl ⟨_,_,rfl,m7.done W (.inl z3)⟩⟩
       rw [if_neg z3]
       by_cases z5:(decide (na3 - t < 7) && decide (nb3 - 1 - u < 7))=true
       ·rw [if_pos z5]
        exact wpS_pure ⟨⟨e3.k,e3.a,e3.p,e3.f⟩,.inr ⟨_,_,_,_,_,_,rfl,m7,by ac_rfl,by ac_rfl,by ac_rfl⟩⟩
       ·rw [if_neg z5]
        exact wpS_pure ⟨⟨e3.k,e3.a,e3.p,e3.f⟩,_,_,_,_,_,_,rfl,m7,by ac_rfl,by ac_rfl,by ac_rfl⟩
      ·rw [if_neg jz]
       have eu:u=nb3 - 1:=by ac_rfl
       have m6:=m5
       have hl2:=j2 (nb3 - 1 - 1) (by ac_rfl)
       have m7:=m6.stepA T.trn W (by ac_rfl) (by ac_rfl) hl2
       refine wpS_bind (a0s (a0l (by ac_rfl)) ?_)
       simp only [a0x,a1m,a0q]
       by_cases z3:t - 1=0
       ·rw [if_pos z3]
        exact wpS_pure ⟨⟨e3.k,e3.a,e3.p,e3.f⟩,.inl ⟨_,_,rfl,m7.done W (.inl z3)⟩⟩
       rw [if_neg z3]
       by_cases z5:(decide (na3 - t < 7) && decide (nb3 - 1 - u < 7))=true
       ·rw [if_pos z5]
        exact wpS_pure ⟨⟨e3.k,e3.a,e3.p,e3.f⟩,.inr ⟨_,_,_,_,_,_,rfl,m7,by ac_rfl,by ac_rfl,by ac_rfl⟩⟩
       ·rw [if_neg z5]
        exact wpS_pure ⟨⟨e3.k,e3.a,e3.p,e3.f⟩,_,_,_,_,_,_,rfl,m7,by ac_rfl,by ac_rfl,by ac_rfl⟩
     ·rw [if_neg kz]
      have et:t=na3:=by ac_rfl
      have m4:=m3
      have hl:=k2 (na3 - 1) (by ac_rfl)
      refine wpS_bind (a0s (a0l (by ac_rfl)) ?_)
      have m5:=m4.stepB T.trn W (by ac_rfl) (by ac_rfl) hl
      simp only [a0x,a1m,a0q]
      by_cases z1:nb3 - 1=1
      ·rw [if_pos z1]
       exact wpS_pure ⟨⟨e3.k,e3.a,e3.p,e3.f⟩,.inl ⟨_,_,rfl,fst m5 z1⟩⟩
      rw [if_neg z1]
      refine wpS_bind (a0s (a0l (by ac_rfl)) ?_)
      refine wpS_bind (a7G (left:=true) (na:=nb3 - 1) (nb:=na3) T W.symm (e3.k.trans hk) (by ac_rfl) (by ac_rfl) (by ac_rfl) (by ac_rfl) fun u j1 j2 j3=>?_)
      dsimp only
      by_cases jz:nb3 - 1 - u > 0
      ·rw [if_pos jz]
       have m6:=m5.galB T.trn W (by ac_rfl) j1 j3
       try simp only [a1R,a1m,a0q]
       by_cases z4:u=1
       ·rw [if_pos z4]
        exact wpS_pure ⟨⟨e3.k,e3.a,e3.p,e3.f⟩,.inl ⟨_,_,rfl,fst m6 z4⟩⟩
       rw [if_neg z4]
       by_cases z6:u=0
       ·rw [if_pos z6]
        exact wpS_pure ⟨⟨e3.k,e3.a,e3.p,e3.f⟩,.inl ⟨_,_,rfl,m6.done W (.inr z6)⟩⟩
       rw [if_neg z6]
       have hl2:=j2 (u - 1) (by ac_rfl)
       have m7:=m6.stepA T.trn W (by ac_rfl) (by ac_rfl) hl2
       refine wpS_bind (a0s (a0l (by ac_rfl)) ?_)
       simp only [a0x,a1m,a0q]
       by_cases z3:na3 - 1=0
       ·rw [if_pos z3]
        exact wpS_pure ⟨⟨e3.k,e3.a,e3.p,e3.f⟩,.inl ⟨_,_,rfl,m7.done W (.inl z3)⟩⟩
       rw [if_neg z3]
       by_cases z5:(decide (na3 - t < 7) && decide (nb3 - 1 - u < 7))=true
       ·rw [if_pos z5]
        exact wpS_pure ⟨⟨e3.k,e3.a,e3.p,e3.f⟩,.inr ⟨_,_,_,_,_,_,rfl,m7,by ac_rfl,by ac_rfl,by ac_rfl⟩⟩
       ·rw [if_neg z5]
        exact wpS_pure ⟨⟨e3.k,e3.a,e3.p,e3.f⟩,_,_,_,_,_,_,rfl,m7,by ac_rfl,by ac_rfl,by ac_rfl⟩
      ·rw [if_neg jz]
       have eu:u=nb3 - 1:=by ac_rfl
       have m6:=m5
       have hl2:=j2 (nb3 - 1 - 1) (by ac_rfl)
       have m7:=m6.stepA T.trn W (by ac_rfl) (by ac_rfl) hl2
       refine wpS_bind (a0s (a0l (by ac_rfl)) ?_)
       simp only [a0x,a1m,a0q]
       by_cases z3:na3 - 1=0
       ·rw [if_pos z3]
        exact wpS_pure ⟨⟨e3.k,e3.a,e3.p,e3.f⟩,.inl ⟨_,_,rfl,m7.done W (.inl z3)⟩⟩
       rw [if_neg z3]
       by_cases z5:(decide (na3 - t < 7) && decide (nb3 - 1 - u < 7))=true
       ·rw [if_pos z5]
        exact wpS_pure ⟨⟨e3.k,e3.a,e3.p,e3.f⟩,.inr ⟨_,_,_,_,_,_,rfl,m7,by ac_rfl,by ac_rfl,by ac_rfl⟩⟩
       ·rw [if_neg z5]
        exact wpS_pure ⟨⟨e3.k,e3.a,e3.p,e3.f⟩,_,_,_,_,_,_,rfl,m7,by ac_rfl,by ac_rfl,by ac_rfl⟩
end
end L2
namespace L2
open PySem PySem.Spec PyProof.Rows PySem.W
section
variable {M:Model} {A:Around} {E:Value->Shared->Prop} {s:Shared} {N:Nat} {lt:Nat->Nat->Bool} {it:Nat->Keyed} {κ:SortKind} {p p':List Nat}
noncomputable abbrev g (p:List Nat) (u:Nat):Nat:=p.getD u 0
structure Sp1 (it:Nat->Keyed) (κ:SortKind) (st:SortSt) (p:List Nat):Prop where
 k:kindOf st=κ
 a:arrOf st=arK it p
 f:failedOf st=none
abbrev Pm1 (N:Nat) (p:List Nat):Prop:=p.Perm (List.range N)
theorem a5X (h:Pm1 N p):p.length=N:=by rw [h.length_eq,List.length_range]
theorem a1G (h:Pm1 N p) {u:Nat} (hu:u < N):g p u < N:=by
 have hl:=a5X h
 have e:g p u=p[u]'(by ac_rfl):=by simp [g,List.getD,show u < p.length by ac_rfl]
 rw [e]
 exact List.mem_range.mp (h.mem_iff.mp (List.getElem_mem _))
theorem a9T (h:Pm1 N p) {u v:Nat} (hu:u < N) (hv:v < N) (n:u ≠ v):g p u ≠ g p v:=by
 have hl:=a5X h
 have nd:p.Nodup:=h.nodup_iff.mpr List.nodup_range
 have e1:g p u=p[u]'(by ac_rfl):=by simp [g,List.getD,show u < p.length by ac_rfl]
 have e2:g p v=p[v]'(by ac_rfl):=by simp [g,List.getD,show v < p.length by ac_rfl]
 rw [e1,e2]
 rcases Nat.lt_or_gt_of_ne n with z | z
 ·exact List.pairwise_iff_getElem.mp nd u v (by ac_rfl) (by ac_rfl) z
 ·exact Ne.symm (List.pairwise_iff_getElem.mp nd v u (by ac_rfl) (by ac_rfl) z)
def Sg (lt:Nat->Nat->Bool) (p:List Nat) (lo hi:Nat):Prop:=∀ u v,lo<=u->u < v->v < hi->lt (g p u) (g p v)=true
def Ou (p p':List Nat) (lo hi:Nat):Prop:=∀ u,(u < lo \/ hi<=u)->g p' u=g p u
theorem a7m (T:Tm M A E s N lt it κ) {st:SortSt} {i j:Nat} {Q:Option Bool->SortSt->Prop} (S:Sp1 it κ st p) (P:Pm1 N p) (hi:i < N) (hj:j < N) (hn:i ≠ j) (q:Q (some (lt (g p i) (g p j))) st):wpS M A E s (ltAt' i j) Q st:=by
 have hl:=a5X P
 unfold ltAt'
 refine wpS_bind (wpS_get ?_)
 refine wpS_bind (a0s (x:=it (g p i)) (by rw [show (sortPriv% PySem.Builtin.SortState.a) st=arK it p from S.a]; exact a0l (by ac_rfl)) (wpS_bind (a0s (x:=it (g p j)) (by rw [show (sortPriv% PySem.Builtin.SortState.a) st=arK it p from S.a]; exact a0l (by ac_rfl)) ?_)))
 exact T.cmp _ _ (a1G P hi) (a1G P hj) (a9T P hi hj hn) st Q S.k q
theorem a5n {p:List Nat} {q:Array Nat} {u v:Nat} (h:q[u]?=p[v]?):g q.toList u=g p v:=by
 unfold g
 rw [List.getD_eq_getElem?_getD,List.getD_eq_getElem?_getD,Array.getElem?_toList,h]
theorem rev_arr {p:List Nat} {i j:Nat} (hj:j<=p.length):∃ p',mirror (arK it p) i j ((j - i) / 2)=arK it p'/\p'.Perm p /\ ∀ u,g p' u=if i<=u/\u < j then g p (i + j - 1 - u) else g p u:=by
 refine ⟨(mirror p.toArray i j ((j - i) / 2)).toList,?_,?_,fun u=>?_⟩
 ·apply Array.ext_getElem?
  intro u
  rw [getElem?_mirror_all (by simpa using hj)]
  simp only [arK,List.getElem?_toArray,List.getElem?_map,Array.getElem?_toList]
  rw [getElem?_mirror_all (by simpa using hj)]
  split <;> simp
 ·have:=mirror_perm p.toArray i j ((j - i) / 2)
  simpa using this.toList
 ·have e:=getElem?_mirror_all (xs:=p.toArray) (i:=i) (j:=j) (by simpa using hj) u
  split
  ·rename_i h
   rw [if_pos h] at e
   exact a5n (by rw [e]; simp)
  ·rename_i h
   rw [if_neg h] at e
   exact a5n (by rw [e]; simp)
theorem bub_arr {p:List Nat} {src d:Nat} (hs:src < p.length) (hd:d<=src):∃ p',bubble (arK it p) src d=arK it p'/\p'.Perm p /\ ∀ u,g p' u=if u=src - d then g p src else if src - d < u/\u<=src then g p (u - 1) else g p u:=by
 refine ⟨(bubble p.toArray src d).toList,?_,?_,fun u=>?_⟩
 ·apply Array.ext_getElem?
  intro u
  rw [getElem?_bubble (by simpa using hs) d hd]
  simp only [arK,List.getElem?_toArray,List.getElem?_map,Array.getElem?_toList]
  rw [getElem?_bubble (by simpa using hs) d hd]
  repeat' split
  all_goals simp
 ·have:=bubble_perm p.toArray src d
  simpa using this.toList
 ·have e:=getElem?_bubble (xs:=p.toArray) (src:=src) (by simpa using hs) d hd u
  by_cases h1:u=src - d
  ·rw [if_pos h1] at e ⊢
   exact a5n (by rw [e]; simp)
  ·rw [if_neg h1] at e ⊢
   by_cases h2:src - d < u/\u<=src
   ·rw [if_pos h2] at e ⊢
    exact a5n (by rw [e]; simp)
   ·rw [if_neg h2] at e ⊢
    exact a5n (by rw [e]; simp)
theorem count_ok (T:Tm M A E s N lt it κ) {st:SortSt} {lo n:Nat} {Q:Option Nat->SortSt->Prop} (S:Sp1 it κ st p) (P:Pm1 N p) (h1:0 < n) (hn:lo + n<=N)
  (q:∀ m st' p',1<=m->m<=n->Sp1 it κ st' p'->pendingOf st'=pendingOf st->Pm1 N p'->Sg lt p' lo (lo + m)->Ou p p' lo (lo + m)->Q (some m) st'):wpS M A E s (countRun' lo n) Q st:=by
 have grow:∀ {p:List Nat} {m:Nat},Pm1 N p->1<=m->lo + m < N->Sg lt p lo (lo + m)->lt (g p (lo + m)) (g p (lo + m - 1))=false->Sg lt p lo (lo + (m + 1)):=fun {p m} P hm hN sg z u v hu huv hv=>by
  have last:lt (g p (lo + m - 1)) (g p (lo + m))=true:=by rw [T.tot _ _ (a1G P (by ac_rfl)) (a1G P (by ac_rfl)) (a9T P (by ac_rfl) (by ac_rfl) (by ac_rfl)),z]; rfl
  by_cases e:v=lo + m
  ·subst e
   by_cases e2:u=lo + m - 1
   ·rw [e2]; exact last
   ·exact T.tr _ _ _ (a1G P (by ac_rfl)) (a1G P (by ac_rfl)) (a1G P (by ac_rfl)) (sg u (lo + m - 1) hu (by ac_rfl) (by ac_rfl)) last
  ·exact sg u v hu huv (by ac_rfl)
 unfold countRun'
 refine wpS_bind (wpS_mono (wpS_forRange
  (I:=fun x c st'=>st=st'/\c=(none,x)/\Sg lt p lo (lo + x))
  (Q:=fun c st'=>st=st' /\ ∃ m,c=(none,m)/\1<=m/\m<=n/\Sg lt p lo (lo + m)/\(m < n->lt (g p (lo + m)) (g p (lo + m - 1))=true)) ?s1 ?f1 ?i1) ?p1)
 case i1=>exact ⟨rfl,rfl,fun u v a b c=>by ac_rfl⟩
 case f1=>
  rintro c st' ⟨rfl,rfl,sg⟩
  exact ⟨rfl,_,rfl,by ac_rfl,by ac_rfl,by rw [show max 1 n=n by ac_rfl] at sg ⊢; exact sg,fun h=>by ac_rfl⟩
 case s1=>
  rintro x c st' hx1 hx ⟨rfl,rfl,sg⟩
  dsimp only
  refine wpS_bind (a7m T S P (by ac_rfl) (by ac_rfl) (by ac_rfl) ?_)
  cases y:lt (g p (lo + x)) (g p (lo + x - 1)) with
  | true=>
   dsimp only
   rw [if_pos rfl]
   exact wpS_pure ⟨rfl,x,rfl,hx1,by ac_rfl,sg,fun _=>y⟩
  | false=>
   dsimp only
   rw [if_neg (by decide)]
   exact wpS_pure ⟨rfl,rfl,grow P hx1 (by ac_rfl) sg y⟩
 case p1=>
  rintro c st' ⟨rfl,m,rfl,m1,m2,sg,fall⟩
  dsimp only
  by_cases z:m=n
  ·rw [if_pos (by simpa using z)]
   exact wpS_pure (q m st p m1 m2 S rfl P sg fun u h=>rfl)
  rw [if_neg (by simpa using z)]
  have fa:=fall (by ac_rfl)
  by_cases z2:m > 1
  ·rw [if_pos z2]
   refine wpS_bind (a7m T S P (by ac_rfl) (by ac_rfl) (by ac_rfl) ?_)
   rw [sg lo (lo + m - 1) (Nat.le_refl _) (by ac_rfl) (by ac_rfl)]
   dsimp only
   rw [if_pos rfl]
   exact wpS_pure (q m st p m1 m2 S rfl P sg fun u h=>rfl)
  rw [if_neg z2]
  obtain rfl:m=1:=by ac_rfl
  refine wpS_bind (wpS_lift (wpAny_rule ⟨rfl,?_⟩))
  refine wpS_bind (wpS_mono (wpS_forRange
   (I:=fun x c st'=>st=st'/\c=(none,x,0) /\ ∀ u v,lo<=u->u < v->v < lo + x->lt (g p v) (g p u)=true)
   (Q:=fun c st'=>st=st' /\ ∃ k,c=(none,k,0)/\2<=k/\k<=n /\ ∀ u v,lo<=u->u < v->v < lo + k->lt (g p v) (g p u)=true) ?s2 ?f2 ?i2) ?p2)
  case i2=>
   refine ⟨rfl,rfl,fun u v a b c=>?_⟩
   rw [show u=lo by ac_rfl,show v=lo + 1 by ac_rfl]
   exact fa
  case f2=>
   rintro c st' ⟨rfl,rfl,d⟩
   exact ⟨rfl,_,rfl,by ac_rfl,by ac_rfl,d⟩
  case s2=>
   rintro x c st' hx1 hx ⟨rfl,rfl,d⟩
   dsimp only
   refine wpS_bind (a7m T S P (by ac_rfl) (by ac_rfl) (by ac_rfl) ?_)
   cases y:lt (g p (lo + x)) (g p (lo + x - 1)) with
   | true=>
    dsimp only
    rw [if_pos rfl,if_neg (by decide)]
    refine wpS_pure ⟨rfl,rfl,fun u v hu huv hv=>?_⟩
    by_cases e:v=lo + x
    ·subst e
     by_cases e2:u=lo + x - 1
     ·rw [e2]; exact y
     ·exact T.tr _ _ _ (a1G P (by ac_rfl)) (a1G P (by ac_rfl)) (a1G P (by ac_rfl)) y (d u (lo + x - 1) hu (by ac_rfl) (by ac_rfl))
    ·exact d u v hu huv (by ac_rfl)
   | false=>
    dsimp only
    rw [if_neg (by decide)]
    refine wpS_bind (a7m T S P (by ac_rfl) (by ac_rfl) (by ac_rfl) ?_)
    rw [show lt (g p (lo + x - 1)) (g p (lo + x))=true by rw [T.tot _ _ (a1G P (by ac_rfl)) (a1G P (by ac_rfl)) (a9T P (by ac_rfl) (by ac_rfl) (by ac_rfl)),y]; rfl]
    dsimp only
    rw [if_pos rfl]
    exact wpS_pure ⟨rfl,x,rfl,hx1,by ac_rfl,d⟩
  case p2=>
   rintro c st' ⟨rfl,k,rfl,k1,k2,d⟩
   dsimp only
   rw [if_neg (by decide)]
   have hl:=a5X P
   obtain ⟨p2,e2,pp2,gp2⟩:=rev_arr (it:=it) (p:=p) (i:=lo) (j:=lo + k) (by ac_rfl)
   have S2:Sp1 it κ (setArr st (mirror (arrOf st) lo (lo + k) ((lo + k - lo) / 2))) p2:=⟨S.k,by show mirror (arrOf st) lo (lo + k) ((lo + k - lo) / 2)=_; rw [S.a]; exact e2,S.f⟩
   have P2:Pm1 N p2:=pp2.trans P
   have sg2:Sg lt p2 lo (lo + k):=fun u v hu huv hv=>by
    rw [gp2 u,gp2 v,if_pos (by ac_rfl),if_pos (by ac_rfl)]
    exact d _ _ (by ac_rfl) (by ac_rfl) (by ac_rfl)
   refine wpS_bind (wpS_modify ?_)
   show wpS M A E s _ Q (setArr st (mirror (arrOf st) lo (lo + k) ((lo + k - lo) / 2)))
   generalize hst:setArr st (mirror (arrOf st) lo (lo + k) ((lo + k - lo) / 2))=st2 at S2 ⊢
   have pe:pendingOf st2=pendingOf st:=by rw [<- hst]
   refine wpS_bind (wpS_mono (wpS_forRange
    (I:=fun x c st'=>st2=st'/\c=(none,x)/\Sg lt p2 lo (lo + x))
    (Q:=fun c st'=>st2=st' /\ ∃ m,c=(none,m)/\k<=m/\m<=n/\Sg lt p2 lo (lo + m)) ?s3 ?f3 ?i3) ?p3)
   case i3=>exact ⟨rfl,rfl,sg2⟩
   case f3=>
    rintro c st' ⟨rfl,rfl,sg3⟩
    exact ⟨rfl,_,rfl,by ac_rfl,by ac_rfl,sg3⟩
   case s3=>
    rintro x c st' hx1 hx ⟨rfl,rfl,sg3⟩
    dsimp only
    refine wpS_bind (a7m T S2 P2 (by ac_rfl) (by ac_rfl) (by ac_rfl) ?_)
    cases y:lt (g p2 (lo + x)) (g p2 (lo + x - 1)) with
    | true=>
     dsimp only
     rw [if_pos rfl]
     exact wpS_pure ⟨rfl,x,rfl,hx1,by ac_rfl,sg3⟩
    | false=>
     dsimp only
     rw [if_neg (by decide)]
     exact wpS_pure ⟨rfl,rfl,grow P2 (by ac_rfl) (by ac_rfl) sg3 y⟩
   case p3=>
    rintro c st' ⟨rfl,m,rfl,m1,m2,sg3⟩
    exact wpS_pure (q m st2 p2 (by ac_rfl) m2 S2 pe P2 sg3 fun u h=>by rw [gp2 u,if_neg (by ac_rfl)])
theorem bin_ok (T:Tm M A E s N lt it κ) {st:SortSt} {lo n ok:Nat} {Q:Bool->SortSt->Prop} (S:Sp1 it κ st p) (P:Pm1 N p) (h1:1<=ok) (ho:ok<=n) (hn:lo + n<=N) (sg:Sg lt p lo (lo + ok))
  (q:∀ st' p',Sp1 it κ st' p'->pendingOf st'=pendingOf st->Pm1 N p'->Sg lt p' lo (lo + n)->Ou p p' lo (lo + n)->Q true st'):wpS M A E s (binarySort' lo n ok) Q st:=by
 unfold binarySort'
 refine wpS_bind (wpS_mono (wpS_forRange
  (I:=fun k c st'=>c=(none,()) /\ ∃ p',Sp1 it κ st' p'/\pendingOf st'=pendingOf st/\Pm1 N p'/\Sg lt p' lo (lo + k)/\Ou p p' lo (lo + n))
  (Q:=fun c st'=>c=(none,()) /\ ∃ p',Sp1 it κ st' p'/\pendingOf st'=pendingOf st/\Pm1 N p'/\Sg lt p' lo (lo + n)/\Ou p p' lo (lo + n)) ?s1 ?f1 ?i1) ?p1)
 case i1=>exact ⟨rfl,p,S,rfl,P,by rw [show max ok 1=ok by ac_rfl]; exact sg,fun u h=>rfl⟩
 case f1=>
  rintro c st' ⟨rfl,p',S',e,P',sg',o⟩
  exact ⟨rfl,p',S',e,P',by rw [show max (max ok 1) n=n by ac_rfl] at sg'; exact sg',o⟩
 case p1=>
  rintro c st' ⟨rfl,p',S',e,P',sg',o⟩
  exact wpS_pure (q st' p' S' e P' sg' o)
 case s1=>
  rintro k c st' hk1 hk ⟨rfl,p',S',e,P',sg',o⟩
  dsimp only
  refine wpS_bind (wpS_mono (wpS_forRange
   (I:=fun x c st2=>st'=st2 /\ ∃ l r,c=(none,l,r)/\l<=r/\r<=k/\r - l + x<=k/\(∀ u,u < l->lt (g p' (lo + u)) (g p' (lo + k))=true) /\ ∀ u,r<=u->u < k->lt (g p' (lo + k)) (g p' (lo + u))=true)
   (Q:=fun c st2=>st'=st2 /\ ∃ l,c=(none,l,l)/\l<=k/\(∀ u,u < l->lt (g p' (lo + u)) (g p' (lo + k))=true) /\ ∀ u,l<=u->u < k->lt (g p' (lo + k)) (g p' (lo + u))=true) ?s2 ?f2 ?i2) ?p2)
  case i2=>exact ⟨rfl,0,k,rfl,by ac_rfl,by ac_rfl,by ac_rfl,fun u h=>by ac_rfl,fun u h h2=>by ac_rfl⟩
  case f2=>
   rintro c st2 ⟨rfl,l,r,rfl,l1,l2,l3,l4,l5⟩
   obtain rfl:l=r:=by ac_rfl
   exact ⟨rfl,l,rfl,l2,l4,l5⟩
  case s2=>
   rintro x c st2 _ hx ⟨rfl,l,r,rfl,l1,l2,l3,l4,l5⟩
   dsimp only
   by_cases z:l >= r
   ·rw [if_pos z]
    obtain rfl:l=r:=by ac_rfl
    exact wpS_pure ⟨rfl,l,rfl,l2,l4,l5⟩
   rw [if_neg z]
   refine wpS_bind (a7m T S' P' (by ac_rfl) (by ac_rfl) (by ac_rfl) ?_)
   cases y:lt (g p' (lo + k)) (g p' (lo + (l + r) / 2)) with
   | true=>
    dsimp only
    rw [if_pos rfl]
    refine wpS_pure ⟨rfl,_,_,rfl,by ac_rfl,by ac_rfl,by ac_rfl,l4,fun u hu hk2=>?_⟩
    by_cases e2:u=(l + r) / 2
    ·rw [e2]; exact y
    ·exact T.tr _ _ _ (a1G P' (by ac_rfl)) (a1G P' (by ac_rfl)) (a1G P' (by ac_rfl)) y (sg' _ _ (by ac_rfl) (by ac_rfl) (by ac_rfl))
   | false=>
    dsimp only
    rw [if_neg (by decide)]
    have y1:lt (g p' (lo + (l + r) / 2)) (g p' (lo + k))=true:=by rw [T.tot _ _ (a1G P' (by ac_rfl)) (a1G P' (by ac_rfl)) (a9T P' (by ac_rfl) (by ac_rfl) (by ac_rfl)),y]; rfl
    refine wpS_pure ⟨rfl,_,_,rfl,by ac_rfl,by ac_rfl,by ac_rfl,fun u hu=>?_,l5⟩
    by_cases e2:u=(l + r) / 2
    ·rw [e2]; exact y1
    ·exact T.tr _ _ _ (a1G P' (by ac_rfl)) (a1G P' (by ac_rfl)) (a1G P' (by ac_rfl)) (sg' _ _ (by ac_rfl) (by ac_rfl) (by ac_rfl)) y1
  case p2=>
   rintro c st2 ⟨rfl,l,rfl,l2,l4,l5⟩
   dsimp only
   have hl:=a5X P'
   obtain ⟨p2,e2,pp2,gp2⟩:=bub_arr (it:=it) (p:=p') (src:=lo + k) (d:=lo + k - (lo + l)) (by ac_rfl) (by ac_rfl)
   have S2:Sp1 it κ (setArr st' (bubble (arrOf st') (lo + k) (lo + k - (lo + l)))) p2:=⟨S'.k,by show bubble (arrOf st') (lo + k) (lo + k - (lo + l))=_; rw [S'.a]; exact e2,S'.f⟩
   refine wpS_bind (wpS_modify ?_)
   refine wpS_pure ⟨rfl,p2,S2,e,pp2.trans P',fun u v hu huv hv=>?_,fun u h=>?_⟩
   ·rw [gp2 u,gp2 v]
    by_cases c1:u=lo + k - (lo + k - (lo + l))
    ·rw [if_pos c1,if_neg (by ac_rfl),if_pos (by ac_rfl)]
     have:=l5 (v - 1 - lo) (by ac_rfl) (by ac_rfl)
     rw [show lo + (v - 1 - lo)=v - 1 by ac_rfl] at this
     exact this
    ·rw [if_neg c1]
     by_cases c2:v=lo + k - (lo + k - (lo + l))
     ·rw [if_pos c2,if_neg (by ac_rfl)]
      have:=l4 (u - lo) (by ac_rfl)
      rw [show lo + (u - lo)=u by ac_rfl] at this
      exact this
     ·rw [if_neg c2]
      split
      ·split
       ·exact sg' _ _ (by ac_rfl) (by ac_rfl) (by ac_rfl)
       ·ac_rfl
      ·split
       ·exact sg' _ _ (by ac_rfl) (by ac_rfl) (by ac_rfl)
       ·exact sg' _ _ (by ac_rfl) (by ac_rfl) (by ac_rfl)
   ·rw [gp2 u,if_neg (by ac_rfl),if_neg (by ac_rfl)]
    exact o u h
end
end L2
namespace L2
open PySem PySem.Spec PyProof.Rows PySem.W
theorem fold_set {α:Type} {b:Nat}:∀ (l:List α) (j0:Nat) (xs:Array α),b + j0 + l.length<=xs.size -> ∀ u,((l.zipIdx j0).foldl (fun a (q:α × Nat)=>a.setIfInBounds (b + q.2) q.1) xs)[u]?=if b + j0<=u/\u < b + j0 + l.length then l[u - (b + j0)]? else xs[u]?:=by
 intro l
 induction l with
 | nil=>
  intro j0 xs h u
  rw [if_neg (by simp only [List.length_nil]; ac_rfl)]
  rfl
 | cons x l ih=>
  intro j0 xs h u
  simp only [List.length_cons] at h ⊢
  rw [List.zipIdx_cons,List.foldl_cons,ih (j0 + 1) _ (by simp; ac_rfl) u]
  by_cases c:u=b + j0
  ·subst c
   rw [if_neg (by ac_rfl),if_pos (by ac_rfl)]
   simp [show b + j0 < xs.size by ac_rfl]
  ·by_cases c2:b + (j0 + 1)<=u/\u < b + (j0 + 1) + l.length
   ·rw [if_pos c2,if_pos (by ac_rfl),show u - (b + j0)=u - (b + (j0 + 1)) + 1 by ac_rfl]
    rfl
   ·rw [if_neg c2,if_neg (by ac_rfl),Array.getElem?_setIfInBounds_ne (by ac_rfl)]
section
variable {M:Model} {A:Around} {E:Value->Shared->Prop} {s:Shared} {N:Nat} {lt:Nat->Nat->Bool} {it:Nat->Keyed} {κ:SortKind} {p p':List Nat}
theorem put_arr {l:List Nat} {b:Nat} (h:b + l.length<=p.length):((arK it l).toList.zipIdx.foldl (fun a (q:Keyed × Nat)=>a.setIfInBounds (b + q.2) q.1) (arK it p))=arK it (p.take b ++ l ++ p.drop (b + l.length)):=by
 apply Array.ext_getElem?
 intro u
 have:=fold_set (b:=b) (arK it l).toList 0 (arK it p) (by simpa [arK] using h) u
 rw [this]
 simp only [arK,List.toList_toArray,List.length_map,Nat.add_zero,List.getElem?_toArray,List.getElem?_map]
 by_cases c:b<=u/\u < b + l.length
 ·rw [if_pos c,List.append_assoc,List.getElem?_append_right (by simp; ac_rfl),List.getElem?_append_left (by simp; ac_rfl)]
  simp [List.length_take,Nat.min_eq_left (show b<=p.length by ac_rfl)]
 ·rw [if_neg c]
  by_cases c2:u < b
  ·rw [List.append_assoc,List.getElem?_append_left (by simp; ac_rfl),List.getElem?_take_of_lt c2]
  ·rw [List.getElem?_append_right (by simp; ac_rfl)]
   simp only [List.length_append,List.length_take,List.getElem?_drop]
   congr 2
   ac_rfl
theorem b0r {l:List Nat} {b u:Nat} (h:b + l.length<=p.length):g (p.take b ++ l ++ p.drop (b + l.length)) u=if u < b then g p u else if u < b + l.length then g l (u - b) else g p u:=by
 unfold g
 simp only [List.getD_eq_getElem?_getD]
 by_cases c2:u < b
 ·rw [if_pos c2,List.append_assoc,List.getElem?_append_left (by simp; ac_rfl),List.getElem?_take_of_lt c2]
 ·rw [if_neg c2]
  by_cases c:u < b + l.length
  ·rw [if_pos c,List.append_assoc,List.getElem?_append_right (by simp; ac_rfl),List.getElem?_append_left (by simp; ac_rfl)]
   simp [List.length_take,Nat.min_eq_left (show b<=p.length by ac_rfl)]
  ·rw [if_neg c,List.getElem?_append_right (by simp; ac_rfl)]
   simp only [List.length_append,List.length_take,List.getElem?_drop]
   congr 2
   ac_rfl
theorem a7U {x b n:Nat} (h:b + n<=p.length) (hx:x ∈ (p.drop b).take n):∃ u,b<=u/\u < b + n/\x=g p u:=by
 obtain ⟨i,hi,e⟩:=List.mem_iff_getElem.mp hx
 simp at hi
 refine ⟨b + i,by ac_rfl,by ac_rfl,?_⟩
 rw [<- e]
 simp [g,List.getD,show b + i < p.length by ac_rfl]
theorem a9P {b n i:Nat} (hi:i < n) (h:b + n<=p.length):((p.drop b).take n).getD i 0=g p (b + i):=by
 unfold g
 simp only [List.getD_eq_getElem?_getD]
 rw [List.getElem?_take_of_lt hi,List.getElem?_drop]
theorem seg_up {b n:Nat} (h:b + n<=p.length) (sg:Sg lt p b (b + n)):((p.drop b).take n).Pairwise fun x y=>lt x y=true:=by
 rw [List.pairwise_iff_getElem]
 intro i j hi hj hij
 simp at hi hj
 have e1:((p.drop b).take n)[i]'(by simp; ac_rfl)=g p (b + i):=by simp [g,List.getD,show b + i < p.length by ac_rfl]
 have e2:((p.drop b).take n)[j]'(by simp; ac_rfl)=g p (b + j):=by simp [g,List.getD,show b + j < p.length by ac_rfl]
 rw [e1,e2]
 exact sg _ _ (by ac_rfl) (by ac_rfl) (by ac_rfl)
theorem seg_split {a m b:Nat}:(p.drop a).take m ++ (p.drop (a + m)).take b=(p.drop a).take (m + b):=by
 rw [List.take_add,List.drop_drop]
theorem put_perm {l:List Nat} {b n:Nat} (h:b + n<=p.length) (d:l.Perm ((p.drop b).take n)):(p.take b ++ l ++ p.drop (b + l.length)).Perm p:=by
 have el:l.length=n:=by rw [d.length_eq]; simp; ac_rfl
 rw [el]
 have e:p.take b ++ (p.drop b).take n ++ p.drop (b + n)=p:=by
  rw [List.append_assoc,<- List.drop_drop,List.take_append_drop,List.take_append_drop]
 refine List.Perm.trans ?_ (List.Perm.of_eq e)
 exact (d.append_left _).append_right _
theorem wpS_put {σ:Type} {a:σ} {Q:PUnit->σ->Prop} {st:σ} (h:Q ⟨⟩ a):wpS M A E s (set a:StateT σ Sem PUnit) Q st:=by
 unfold wpS
 rw [StateT.run_set]
 exact wpAny_pure ⟨rfl,h⟩
theorem at_ok (T:Tm M A E s N lt it κ) {st:SortSt} {i sa na sb nb pw x:Nat} {Q:Bool->SortSt->Prop} (S:Sp1 it κ st p) (P:Pm1 N p) (e1:(pendingOf st)[i]?=some (sa,na,pw)) (e2:(pendingOf st)[i + 1]?=some (sb,nb,x)) (hs:sb=sa + na) (ha:0 < na) (hb:0 < nb) (hN:sb + nb<=N)
  (ga:Sg lt p sa (sa + na)) (gb:Sg lt p sb (sb + nb))
  (q:∀ st' p',Sp1 it κ st' p'->pendingOf st'=((pendingOf st).setIfInBounds i (sa,na + nb,pw)).eraseIdxIfInBounds (i + 1)->Pm1 N p'->Sg lt p' sa (sa + (na + nb))->Ou p p' sa (sa + (na + nb))->Q true st'):wpS M A E s (mergeAt' i) Q st:=by
 have hl:=a5X P
 subst hs
 unfold mergeAt'
 refine wpS_bind (wpS_get ?_)
 have e1':((sortPriv% PySem.Builtin.SortState.pending) st)[i]?=some (sa,na,pw):=e1
 have e2':((sortPriv% PySem.Builtin.SortState.pending) st)[i + 1]?=some (sa + na,nb,x):=e2
 have ea:(sortPriv% PySem.Builtin.SortState.a) st=arK it p:=S.a
 dsimp only
 rw [e1',e2']
 dsimp only
 refine wpS_bind (wpS_put ?_)
 have S1:Sp1 it κ (SortSt.mk' (kindOf st) (arrOf st) (((pendingOf st).setIfInBounds i (sa,na + nb,pw)).eraseIdxIfInBounds (i + 1)) (gallopOf st) (failedOf st)) p:=⟨S.k,S.a,S.f⟩
 show wpS M A E s _ Q (SortSt.mk' (kindOf st) (arrOf st) (((pendingOf st).setIfInBounds i (sa,na + nb,pw)).eraseIdxIfInBounds (i + 1)) (gallopOf st) (failedOf st))
 generalize hst:SortSt.mk' (kindOf st) (arrOf st) (((pendingOf st).setIfInBounds i (sa,na + nb,pw)).eraseIdxIfInBounds (i + 1)) (gallopOf st) (failedOf st)=st1 at S1 ⊢
 have hp1:pendingOf st1=((pendingOf st).setIfInBounds i (sa,na + nb,pw)).eraseIdxIfInBounds (i + 1):=by rw [<- hst]
 rw [ea]
 refine wpS_bind (a0s (a0l (by ac_rfl)) ?_)
 refine wpS_bind (b1n T (left:=false) (f:=fun i=>g p (sa + i)) S1.k (a1G P (by ac_rfl)) (fun i h=>a0l (by ac_rfl)) (fun i h=>⟨a1G P (by ac_rfl),a9T P (by ac_rfl) (by ac_rfl) (by ac_rfl)⟩) (fun i j h h2=>ga _ _ (by ac_rfl) (by ac_rfl) (by ac_rfl)) (by ac_rfl) fun k k1 k2 k3=>?_)
 have bAll:∀ v,sa + na<=v->v < sa + na + nb -> ∀ y,y < N->lt y (g p (sa + na))=true->lt y (g p v)=true:=fun v h1 h2 y hy z=>by
  by_cases c:v=sa + na
  ·rw [c]; exact z
  ·exact T.tr _ _ _ hy (a1G P (by ac_rfl)) (a1G P (by ac_rfl)) z (gb _ _ (by ac_rfl) (by ac_rfl) (by ac_rfl))
 dsimp only
 by_cases z:na - k=0
 ·rw [if_pos (by simpa using z)]
  refine wpS_pure (q st1 p S1 hp1 P (fun u v hu huv hv=>?_) fun u h=>rfl)
  by_cases c:v < sa + na
  ·exact ga u v hu huv c
  ·by_cases c2:sa + na<=u
   ·exact gb u v c2 huv (by ac_rfl)
   ·refine bAll v (by ac_rfl) (by ac_rfl) _ (a1G P (by ac_rfl)) ?_
    have:=k2 (u - sa) (by ac_rfl)
    rw [show sa + (u - sa)=u by ac_rfl] at this
    exact this
 rw [if_neg (by simpa using z),show sa + k + (na - k) - 1=sa + na - 1 by ac_rfl]
 refine wpS_bind (a0s (a0l (by ac_rfl)) ?_)
 refine wpS_bind (b1n T (left:=true) (f:=fun i=>g p (sa + na + i)) S1.k (a1G P (by ac_rfl)) (fun i h=>a0l (by ac_rfl)) (fun i h=>⟨a1G P (by ac_rfl),a9T P (by ac_rfl) (by ac_rfl) (by ac_rfl)⟩) (fun i j h h2=>gb _ _ (by ac_rfl) (by ac_rfl) (by ac_rfl)) (by ac_rfl) fun m j1 j2 j3=>?_)
 dsimp only
 have z2:m ≠ 0:=fun c=>by
  have y1:=j3 0 (by ac_rfl) (by ac_rfl)
  have y2:=k3 (na - 1) (by ac_rfl) (by ac_rfl)
  rw [show sa + (na - 1)=sa + na - 1 by ac_rfl] at y2
  have y3:lt (g p (sa + na)) (g p (sa + na - 1))=true:=y2
  have y4:lt (g p (sa + na - 1)) (g p (sa + na))=true:=y1
  rw [T.tot _ _ (a1G P (by ac_rfl)) (a1G P (by ac_rfl)) (a9T P (by ac_rfl) (by ac_rfl) (by ac_rfl)),y3] at y4
  cases y4
 rw [if_neg (by simpa using z2),a1R,a1R,show sa + na - (sa + k)=na - k by ac_rfl,show sa + na + m - (sa + na)=m by ac_rfl]
 have wh:(p.drop (sa + k)).take (na - k) ++ (p.drop (sa + na)).take m=(p.drop (sa + k)).take (na - k + m):=by
  have:=seg_split (p:=p) (a:=sa + k) (m:=na - k) (b:=m)
  rw [show sa + k + (na - k)=sa + na by ac_rfl] at this
  exact this
 have nd:p.Nodup:=P.nodup_iff.mpr List.nodup_range
 have W:Two N lt ((p.drop (sa + k)).take (na - k)) ((p.drop (sa + na)).take m):=by
  refine ⟨seg_up (by ac_rfl) fun u v a b c=>ga u v (by ac_rfl) b (by ac_rfl),seg_up (by ac_rfl) fun u v a b c=>gb u v (by ac_rfl) b (by ac_rfl),?_,fun y hy=>?_⟩
  ·rw [wh]
   exact nd.sublist ((List.take_sublist _ _).trans (List.drop_sublist _ _))
  ·rw [wh] at hy
   obtain ⟨u,h1,h2,rfl⟩:=a7U (by ac_rfl) hy
   exact a1G P (by ac_rfl)
 have la0:0 < ((p.drop (sa + k)).take (na - k)).length:=by simp; ac_rfl
 have lb0:0 < ((p.drop (sa + na)).take m).length:=by simp; ac_rfl
 have ll:((p.drop (sa + k)).take (na - k)).length=na - k:=by simp; ac_rfl
 have lm:((p.drop (sa + na)).take m).length=m:=by simp; ac_rfl
 have fin:∀ l,Dn2 lt ((p.drop (sa + k)).take (na - k)) ((p.drop (sa + na)).take m) l -> ∃ p2,(arK it l).toList.zipIdx.foldl (fun a (q:Keyed × Nat)=>a.setIfInBounds (sa + k + q.2) q.1) (arK it p)=arK it p2/\Pm1 N p2/\Sg lt p2 sa (sa + (na + nb))/\Ou p p2 sa (sa + (na + nb)):=fun l d=>by
  have d1:=d.1
  rw [wh] at d1
  have el:l.length=na - k + m:=by rw [d1.length_eq]; simp; ac_rfl
  have mem:∀ y ∈ l,∃ u,sa + k<=u/\u < sa + na + m/\y=g p u:=fun y hy=>by
   obtain ⟨u,h1,h2,h3⟩:=a7U (by ac_rfl) (d1.mem_iff.mp hy)
   exact ⟨u,h1,by ac_rfl,h3⟩
  have lg:∀ u,u < l.length->g l u ∈ l:=fun u hu=>by
   have e:g l u=l[u]:=by simp [g,List.getD,hu]
   rw [e]
   exact List.getElem_mem hu
  refine ⟨_,put_arr (by ac_rfl),(put_perm (n:=na - k + m) (by ac_rfl) d1).trans P,fun u v hu huv hv=>?_,fun u h=>?_⟩
  ·have A1:∀ u,sa<=u->u < sa + k->lt (g p u) (g p (sa + na))=true:=fun u h1 h2=>by
    have:=k2 (u - sa) (by ac_rfl)
    rw [show sa + (u - sa)=u by ac_rfl] at this
    exact this
   have B1:∀ w,sa + na + m<=w->w < sa + na + nb->lt (g p (sa + na - 1)) (g p w)=true:=fun w h1 h2=>by
    have:=j3 (w - (sa + na)) (by ac_rfl) (by ac_rfl)
    rw [show sa + na + (w - (sa + na))=w by ac_rfl] at this
    exact this
   rw [b0r (by ac_rfl),b0r (by ac_rfl)]
   by_cases cu:u < sa + k
   ·rw [if_pos cu]
    by_cases cv:v < sa + k
    ·rw [if_pos cv]
     exact ga u v hu huv (by ac_rfl)
    ·rw [if_neg cv]
     by_cases cv2:v < sa + k + l.length
     ·rw [if_pos cv2]
      obtain ⟨w,w1,w2,w3⟩:=mem _ (lg (v - (sa + k)) (by ac_rfl))
      rw [w3]
      by_cases cw:w < sa + na
      ·exact ga u w hu (by ac_rfl) cw
      ·exact bAll w (by ac_rfl) (by ac_rfl) _ (a1G P (by ac_rfl)) (A1 u hu cu)
     ·rw [if_neg cv2]
      exact bAll v (by ac_rfl) (by ac_rfl) _ (a1G P (by ac_rfl)) (A1 u hu cu)
   ·rw [if_neg cu,if_neg (by ac_rfl:¬ v < sa + k)]
    by_cases cu2:u < sa + k + l.length
    ·rw [if_pos cu2]
     by_cases cv2:v < sa + k + l.length
     ·rw [if_pos cv2]
      have e1:g l (u - (sa + k))=l[u - (sa + k)]'(by ac_rfl):=by simp [g,List.getD,show u - (sa + k) < l.length by ac_rfl]
      have e2:g l (v - (sa + k))=l[v - (sa + k)]'(by ac_rfl):=by simp [g,List.getD,show v - (sa + k) < l.length by ac_rfl]
      rw [e1,e2]
      exact List.pairwise_iff_getElem.mp d.2 _ _ (by ac_rfl) (by ac_rfl) (by ac_rfl)
     ·rw [if_neg cv2]
      obtain ⟨w,w1,w2,w3⟩:=mem _ (lg (u - (sa + k)) (by ac_rfl))
      rw [w3]
      by_cases cw:w < sa + na
      ·by_cases c3:w=sa + na - 1
       ·rw [c3]
        exact B1 v (by ac_rfl) (by ac_rfl)
       ·exact T.tr _ _ _ (a1G P (by ac_rfl)) (a1G P (by ac_rfl)) (a1G P (by ac_rfl)) (ga w (sa + na - 1) (by ac_rfl) (by ac_rfl) (by ac_rfl)) (B1 v (by ac_rfl) (by ac_rfl))
      ·exact gb w v (by ac_rfl) (by ac_rfl) (by ac_rfl)
    ·rw [if_neg cu2,if_neg (by ac_rfl)]
     exact gb u v (by ac_rfl) huv (by ac_rfl)
  ·rw [b0r (by ac_rfl)]
   by_cases cu:u < sa + k
   ·rw [if_pos cu]
   ·rw [if_neg cu,if_neg (by ac_rfl)]
 have xl:∀ y ∈ (p.drop (sa + k)).take (na - k),lt (g p (sa + na)) y=true:=fun y hy=>by
  obtain ⟨u,h1,h2,rfl⟩:=a7U (by ac_rfl) hy
  have:=k3 (u - sa) (by ac_rfl) (by ac_rfl)
  rw [show sa + (u - sa)=u by ac_rfl] at this
  exact this
 have yl:∀ y ∈ (p.drop (sa + na)).take m,lt y (g p (sa + na - 1))=true:=fun y hy=>by
  obtain ⟨u,h1,h2,rfl⟩:=a7U (by ac_rfl) hy
  have:=j2 (u - (sa + na)) (by ac_rfl)
  rw [show sa + na + (u - (sa + na))=u by ac_rfl] at this
  exact this
 have b0:((p.drop (sa + na)).take m).getD 0 0=g p (sa + na):=a9P (by ac_rfl) (by ac_rfl)
 have a0:((p.drop (sa + k)).take (na - k)).getD 0 0=g p (sa + k):=a9P (by ac_rfl) (by ac_rfl)
 have aL:((p.drop (sa + k)).take (na - k)).getD (((p.drop (sa + k)).take (na - k)).length - 1) 0=g p (sa + na - 1):=by
  rw [ll,a9P (by ac_rfl) (by ac_rfl)]
  congr 1
  ac_rfl
 split
 ·refine wpS_bind (mgLo_ok T W S1.k la0 lb0 (by rw [b0]; exact xl _ (by rw [a0,<- a0,List.getD_eq_getElem?_getD,List.getElem?_eq_getElem la0]; exact List.getElem_mem la0)) (by rw [aL]; exact yl) fun l st' d se=>?_)
  obtain ⟨p2,f1,f2,f3,f4⟩:=fin l d
  refine wpS_bind (wpS_modify (wpS_bind (wpS_get ?_)))
  have hf:(failedOf st').isNone=true:=by rw [se.f,S1.f]; rfl
  have S2:arrOf st'=arK it p:=by rw [se.a,S1.a]
  refine wpS_pure ?_
  refine (congrArg (fun b=>Q b _) hf).mpr (q _ p2 ⟨se.k.trans S1.k,?_,se.f.trans S1.f⟩ (se.p.trans hp1) f2 f3 f4)
  show List.foldl _ (arrOf st') _=_
  rw [S2]
  exact f1
 ·refine wpS_bind (mgHi_ok T W S1.k la0 lb0 (by rw [b0]; exact xl) (by rw [aL]; exact yl _ (by rw [List.getD_eq_getElem?_getD,List.getElem?_eq_getElem (by ac_rfl)]; exact List.getElem_mem _)) fun l st' d se=>?_)
  obtain ⟨p2,f1,f2,f3,f4⟩:=fin l d
  refine wpS_bind (wpS_modify (wpS_bind (wpS_get ?_)))
  have hf:(failedOf st').isNone=true:=by rw [se.f,S1.f]; rfl
  have S2:arrOf st'=arK it p:=by rw [se.a,S1.a]
  refine wpS_pure ?_
  refine (congrArg (fun b=>Q b _) hf).mpr (q _ p2 ⟨se.k.trans S1.k,?_,se.f.trans S1.f⟩ (se.p.trans hp1) f2 f3 f4)
  show List.foldl _ (arrOf st') _=_
  rw [S2]
  exact f1
end
end L2
namespace L2
open PySem PySem.Spec PyProof.Rows PySem.W
section
variable {M:Model} {A:Around} {E:Value->Shared->Prop} {s:Shared} {N:Nat} {lt:Nat->Nat->Bool} {it:Nat->Keyed} {κ:SortKind} {p p':List Nat}
def Chn (lt:Nat->Nat->Bool) (p:List Nat):Nat->List (Nat × Nat × Nat)->Nat->Prop
 | b,[],e=>b=e
 | b,(a,n,_) :: r,e=>a=b/\0 < n/\Sg lt p b (b + n)/\Chn lt p (b + n) r e
theorem Chn.le:∀ {r:List (Nat × Nat × Nat)} {b e:Nat},Chn lt p b r e->b + r.length<=e
 | [],b,e,h=>by have:b=e:=h; simp; ac_rfl
 | (a,n,w) :: r,b,e,h=>by
  have:=h.2.2.2.le
  have:=h.2.1
  simp
  ac_rfl
theorem Chn.split:∀ {xs ys:List (Nat × Nat × Nat)} {b e:Nat},Chn lt p b (xs ++ ys) e -> ∃ m,Chn lt p b xs m/\Chn lt p m ys e
 | [],ys,b,e,h=>⟨b,rfl,h⟩
 | (a,n,w) :: xs,ys,b,e,h=>by
  obtain ⟨m,h1,h2⟩:=Chn.split (xs:=xs) h.2.2.2
  exact ⟨m,⟨h.1,h.2.1,h.2.2.1,h1⟩,h2⟩
theorem Chn.join:∀ {xs ys:List (Nat × Nat × Nat)} {b m e:Nat},Chn lt p b xs m->Chn lt p m ys e->Chn lt p b (xs ++ ys) e
 | [],ys,b,m,e,h1,h2=>by have z:b=m:=h1; subst z; exact h2
 | (a,n,w) :: xs,ys,b,m,e,h1,h2=>⟨h1.1,h1.2.1,h1.2.2.1,h1.2.2.2.join h2⟩
theorem Chn.same:∀ {xs:List (Nat × Nat × Nat)} {b e:Nat},Chn lt p b xs e->(∀ u,b<=u->u < e->g p' u=g p u)->Chn lt p' b xs e
 | [],b,e,h,_=>h
 | (a,n,w) :: xs,b,e,h,z=>by
  have l:=h.2.2.2.le
  refine ⟨h.1,h.2.1,fun u v hu huv hv=>?_,h.2.2.2.same fun u h1 h2=>z u (by ac_rfl) h2⟩
  rw [z u hu (by ac_rfl),z v (by ac_rfl) (by ac_rfl)]
  exact h.2.2.1 u v hu huv hv
theorem list_at2 {α:Type} {l:List α} {i:Nat} (h:i + 1 < l.length):∃ xs x y ys,l=xs ++ x :: y :: ys/\xs.length=i:=
 ⟨l.take i,l[i]'(by ac_rfl),l[i + 1],l.drop (i + 2),by
  rw [<- List.drop_eq_getElem_cons h,<- List.drop_eq_getElem_cons (by ac_rfl:i < l.length),List.take_append_drop],by simp; ac_rfl⟩
theorem mrg_ok (T:Tm M A E s N lt it κ) {st:SortSt} {i lo:Nat} {Q:Bool->SortSt->Prop} (S:Sp1 it κ st p) (P:Pm1 N p) (hi:i + 1 < (pendingOf st).size) (hN:lo<=N) (c:Chn lt p 0 (pendingOf st).toList lo)
  (q:∀ st' p',Sp1 it κ st' p'->Pm1 N p'->Chn lt p' 0 (pendingOf st').toList lo->(pendingOf st').size + 1=(pendingOf st).size->Ou p p' 0 lo->Q true st'):wpS M A E s (mergeAt' i) Q st:=by
 obtain ⟨xs,⟨a,n,w⟩,⟨b,m,x⟩,ys,e,el⟩:=list_at2 (l:=(pendingOf st).toList) (i:=i) (by simpa using hi)
 rw [e] at c
 obtain ⟨k,c1,c2⟩:=c.split
 obtain ⟨rfl,n0,sg,rfl,m0,sg2,c3⟩:=c2
 have l1:=c1.le
 have l3:=c3.le
 have e1:(pendingOf st)[i]?=some (a,n,w):=by rw [<- Array.getElem?_toList,e,List.getElem?_append_right (by ac_rfl),el]; simp
 have e2:(pendingOf st)[i + 1]?=some (a + n,m,x):=by rw [<- Array.getElem?_toList,e,List.getElem?_append_right (by ac_rfl),el]; simp
 refine at_ok T S P e1 e2 rfl n0 m0 (by ac_rfl) sg sg2 fun st' p' S' hp P' sg' o=>?_
 have ep:(pendingOf st').toList=xs ++ (a,n + m,w) :: ys:=by
  rw [hp]
  simp only [Array.toList_eraseIdxIfInBounds,Array.toList_setIfInBounds,e]
  rw [List.set_append_right _ _ (by ac_rfl),el,Nat.sub_self,List.set_cons_zero,List.eraseIdx_append_of_length_le (by ac_rfl),el]
  simp
 refine q st' p' S' P' ?_ ?_ fun u h=>o u (by ac_rfl)
 ·rw [ep]
  exact (c1.same fun u h1 h2=>o u (.inl h2)).join ⟨rfl,by ac_rfl,sg',by
   rw [<- Nat.add_assoc]
   exact c3.same fun u h1 h2=>o u (.inr (by ac_rfl))⟩
 ·rw [<- Array.length_toList,ep,<- Array.length_toList,e]
  simp
  ac_rfl
end
end L2
namespace L2
open PySem PySem.Spec PyProof.Rows PySem.W
section
variable {M:Model} {A:Around} {E:Value->Shared->Prop} {s:Shared} {N:Nat} {lt:Nat->Nat->Bool} {it:Nat->Keyed} {κ:SortKind} {p p':List Nat}
theorem Chn.power {pd:Array (Nat × Nat × Nat)} {i b e w:Nat} (c:Chn lt p b pd.toList e):Chn lt p b (pd.modify i fun x=>(x.1,x.2.1,w)).toList e:=by
 rw [Array.toList_modify]
 generalize pd.toList=l at c
 induction l generalizing i b with
 | nil=>cases i <;> exact c
 | cons x l ih=>
  obtain ⟨a,n,v⟩:=x
  cases i with
  | zero=>exact c
  | succ i=>exact ⟨c.1,c.2.1,c.2.2.1,ih c.2.2.2⟩
theorem Chn.push {pd:Array (Nat × Nat × Nat)} {lo n:Nat} (c:Chn lt p 0 pd.toList lo) (h:0 < n) (sg:Sg lt p lo (lo + n)):Chn lt p 0 (pd.push (lo,n,0)).toList (lo + n):=by
 rw [Array.toList_push]
 exact c.join ⟨rfl,h,sg,rfl⟩
theorem tim_ok (T:Tm M A E s N lt it κ) {st:SortSt} {Q:Unit->SortSt->Prop} (S:Sp1 it κ st p) (P:Pm1 N p) (hp:pendingOf st = #[])
  (q:∀ st' p',Sp1 it κ st' p'->Pm1 N p'->Sg lt p' 0 N->Q () st'):wpS M A E s sortRuns' Q st:=by
 have hl:=a5X P
 rw [sortRuns'_eq]
 refine wpS_bind (wpS_get ?_)
 dsimp only
 have hsz:(arrOf st).size=N:=by rw [S.a,a8K,hl]
 simp only [hsz]
 generalize minRun' N N 0=mr
 refine wpS_bind (wpS_mono (wpS_forRange
  (I:=fun x c st'=>∃ lo p',c=(none,lo)/\Sp1 it κ st' p'/\Pm1 N p'/\Chn lt p' 0 (pendingOf st').toList lo/\lo<=N/\x<=lo)
  (Q:=fun c st'=>∃ p',c=(none,N)/\Sp1 it κ st' p'/\Pm1 N p'/\Chn lt p' 0 (pendingOf st').toList N) ?step ?fin ?init) ?post)
 case init=>exact ⟨0,p,rfl,S,P,by rw [hp]; rfl,by ac_rfl,by ac_rfl⟩
 case fin=>
  rintro c st' ⟨lo,p',rfl,S',P',c',h1,h2⟩
  obtain rfl:lo=N:=by ac_rfl
  exact ⟨p',rfl,S',P',c'⟩
 case post=>
  rintro c st' ⟨p',rfl,S',P',c'⟩
  dsimp only
  have cl:=c'.le
  refine wpS_bind (wpS_mono (wpS_forRange
   (I:=fun x c st2=>c=(none,()) /\ ∃ p2,Sp1 it κ st2 p2/\Pm1 N p2/\Chn lt p2 0 (pendingOf st2).toList N/\(pendingOf st2).size + x<=N)
   (Q:=fun c st2=>c=(none,()) /\ ∃ p2,Sp1 it κ st2 p2/\Pm1 N p2/\Chn lt p2 0 (pendingOf st2).toList N/\(pendingOf st2).size<=1) ?s2 ?f2 ?i2) ?p2)
  case i2=>exact ⟨rfl,p',S',P',c',by rw [<- Array.length_toList]; ac_rfl⟩
  case f2=>
   rintro c st2 ⟨rfl,p2,S2,P2,c2,h⟩
   exact ⟨rfl,p2,S2,P2,c2,by ac_rfl⟩
  case s2=>
   rintro x c st2 _ hx ⟨rfl,p2,S2,P2,c2,h⟩
   refine wpS_bind (wpS_get ?_)
   by_cases z:(pendingOf st2).size<=1
   ·rw [if_pos z]
    exact wpS_pure ⟨rfl,p2,S2,P2,c2,z⟩
   rw [if_neg z]
   refine wpS_bind (mrg_ok T S2 P2 ?hj (Nat.le_refl _) c2 fun st3 p3 S3 P3 c3 h3 _=>?_)
   case hj=>
    repeat' split
    all_goals ac_rfl
   rw [if_neg (by decide)]
   exact wpS_pure ⟨rfl,p3,S3,P3,c3,by ac_rfl⟩
  case p2=>
   rintro c st2 ⟨rfl,p2,S2,P2,c2,h⟩
   refine wpS_pure (q st2 p2 S2 P2 ?_)
   have:(pendingOf st2).toList.length=(pendingOf st2).size:=by simp
   match hl2:(pendingOf st2).toList,c2 with
   | [],c2=>
    have z:0=N:=c2
    intro u v a b c
    ac_rfl
   | [(a,n,w)],c2=>
    obtain ⟨rfl,n0,sg,z⟩:=c2
    have z':0 + n=N:=z
    rw [<- z']
    exact sg
   | _ :: _ :: _,_=>
    rw [hl2] at this
    simp at this
    ac_rfl
 case step=>
  rintro x c st' _ hx ⟨lo,p',rfl,S',P',c',h1,h2⟩
  dsimp only
  by_cases z:lo >= N
  ·rw [if_pos z]
   obtain rfl:lo=N:=by ac_rfl
   exact wpS_pure ⟨p',rfl,S',P',c'⟩
  rw [if_neg z]
  refine wpS_bind (count_ok T S' P' (by ac_rfl) (by ac_rfl) fun m st2 p2 m1 m2 S2 e2 P2 sg2 o2=>?_)
  have c2:Chn lt p2 0 (pendingOf st2).toList lo:=by rw [e2]; exact c'.same fun u a b=>o2 u (.inl b)
  dsimp only
  by_cases zm:m < mr
  ·rw [if_pos zm]
   refine wpS_bind (wpS_lift (wpAny_rule ⟨rfl,?_⟩))
   have hf:min (N - lo) mr<=N - lo:=Nat.min_le_left _ _
   have hf2:m<=min (N - lo) mr:=by ac_rfl
   refine wpS_bind (bin_ok T S2 P2 m1 hf2 (by ac_rfl) sg2 fun st3 p3 S3 e3 P3 sg3 o3=>?_)
   have c3:Chn lt p3 0 (pendingOf st3).toList lo:=by rw [e3]; exact c2.same fun u a b=>o3 u (.inl b)
   generalize min (N - lo) mr=fo at *
   rw [if_neg (by decide)]
   refine wpS_bind (wpS_get ?_)
   cases hb:(pendingOf st3).back? with
   | none=>
    dsimp only
    exact wpS_bind (wpS_modify (wpS_pure ⟨lo + fo,p3,rfl,⟨S3.k,S3.a,S3.f⟩,P3,c3.push (by ac_rfl) sg3,by ac_rfl,by ac_rfl⟩))
   | some t=>
    obtain ⟨s1,n1,w1⟩:=t
    dsimp only
    refine wpS_bind (wpS_mono (wpS_forRange
     (I:=fun y c st4=>c=(none,()) /\ ∃ p4,Sp1 it κ st4 p4/\Pm1 N p4/\Chn lt p4 0 (pendingOf st4).toList lo/\Sg lt p4 lo (lo + fo))
     (Q:=fun c st4=>c=(none,()) /\ ∃ p4,Sp1 it κ st4 p4/\Pm1 N p4/\Chn lt p4 0 (pendingOf st4).toList lo/\Sg lt p4 lo (lo + fo)) ?_ (fun _ _ h=>h) ⟨rfl,p3,S3,P3,c3,sg3⟩) ?_)
    ·rintro y c st4 _ hy ⟨rfl,p4,S4,P4,c4,sg4⟩
     refine wpS_bind (wpS_get ?_)
     by_cases zz:(pendingOf st4).size > 1
     ·rw [if_pos zz]
      cases ho:(pendingOf st4)[(pendingOf st4).size - 2]? with
      | none=>exact wpS_pure ⟨rfl,p4,S4,P4,c4,sg4⟩
      | some t=>
       obtain ⟨t1,t2,older⟩:=t
       dsimp only
       split
       ·exact wpS_pure ⟨rfl,p4,S4,P4,c4,sg4⟩
       ·refine wpS_bind (mrg_ok T S4 P4 (by ac_rfl) (by ac_rfl) c4 fun st5 p5 S5 P5 c5 h5 o5=>?_)
        rw [if_neg (by decide)]
        exact wpS_pure ⟨rfl,p5,S5,P5,c5,fun u v hu huv hv=>by rw [o5 u (.inr hu),o5 v (.inr (by ac_rfl))]; exact sg4 u v hu huv hv⟩
     ·rw [if_neg zz]
      exact wpS_pure ⟨rfl,p4,S4,P4,c4,sg4⟩
    ·rintro c st4 ⟨rfl,p4,S4,P4,c4,sg4⟩
     dsimp only
     exact wpS_bind (wpS_modify (wpS_bind (wpS_modify (wpS_pure ⟨lo + fo,p4,rfl,⟨S4.k,S4.a,S4.f⟩,P4,(Chn.power c4).push (by ac_rfl) sg4,by ac_rfl,by ac_rfl⟩))))
  ·rw [if_neg zm]
   refine wpS_bind (wpS_get ?_)
   cases hb:(pendingOf st2).back? with
   | none=>
    dsimp only
    exact wpS_bind (wpS_modify (wpS_pure ⟨lo + m,p2,rfl,⟨S2.k,S2.a,S2.f⟩,P2,c2.push (by ac_rfl) sg2,by ac_rfl,by ac_rfl⟩))
   | some t=>
    obtain ⟨s1,n1,w1⟩:=t
    dsimp only
    refine wpS_bind (wpS_mono (wpS_forRange
     (I:=fun y c st4=>c=(none,()) /\ ∃ p4,Sp1 it κ st4 p4/\Pm1 N p4/\Chn lt p4 0 (pendingOf st4).toList lo/\Sg lt p4 lo (lo + m))
     (Q:=fun c st4=>c=(none,()) /\ ∃ p4,Sp1 it κ st4 p4/\Pm1 N p4/\Chn lt p4 0 (pendingOf st4).toList lo/\Sg lt p4 lo (lo + m)) ?_ (fun _ _ h=>h) ⟨rfl,p2,S2,P2,c2,sg2⟩) ?_)
    ·rintro y c st4 _ hy ⟨rfl,p4,S4,P4,c4,sg4⟩
     refine wpS_bind (wpS_get ?_)
     by_cases zz:(pendingOf st4).size > 1
     ·rw [if_pos zz]
      cases ho:(pendingOf st4)[(pendingOf st4).size - 2]? with
      | none=>exact wpS_pure ⟨rfl,p4,S4,P4,c4,sg4⟩
      | some t=>
       obtain ⟨t1,t2,older⟩:=t
       dsimp only
       split
       ·exact wpS_pure ⟨rfl,p4,S4,P4,c4,sg4⟩
       ·refine wpS_bind (mrg_ok T S4 P4 (by ac_rfl) (by ac_rfl) c4 fun st5 p5 S5 P5 c5 h5 o5=>?_)
        rw [if_neg (by decide)]
        exact wpS_pure ⟨rfl,p5,S5,P5,c5,fun u v hu huv hv=>by rw [o5 u (.inr hu),o5 v (.inr (by ac_rfl))]; exact sg4 u v hu huv hv⟩
     ·rw [if_neg zz]
      exact wpS_pure ⟨rfl,p4,S4,P4,c4,sg4⟩
    ·rintro c st4 ⟨rfl,p4,S4,P4,c4,sg4⟩
     dsimp only
     exact wpS_bind (wpS_modify (wpS_bind (wpS_modify (wpS_pure ⟨lo + m,p4,rfl,⟨S4.k,S4.a,S4.f⟩,P4,(Chn.power c4).push (by ac_rfl) sg4,by ac_rfl,by ac_rfl⟩))))
end
end L2
namespace L2
open PySem PySem.Spec PySem.W PyProof.Rows Tim
section
variable {prog:Program} {w:World} {A:Around} {E:Value->Shared->Prop} {s:Shared}
theorem sort_hereL {a:Addr} {vs:List Value} {n:Nat} {lt:Nat->Nat->Bool} {κ:SortKind} {P:Fin->Shared->Prop} (ho:s.heap.get? a=some (seqObj "list" vs.toArray n)) (h64:vs.length<=1000) (ht:∀ i j,i < vs.length->j < vs.length->i ≠ j->lt i j=true \/ lt j i=true) (c:2<=vs.length->Cmp prog w s a vs lt κ)
  (k:∀ p,Pm vs.length p->Up lt p vs.length->P (.done (.ret .none)) { s with heap:=sortedHeap s.heap a vs (picked vs p).toArray }):wpAny (model prog w) A (Builtin.«list.sort» ⟨[.ref a],[]⟩) P E s:=by
 have la:a < s.heap.objs.size:=Heap.lt_size ho
 let h1:=s.heap.update a (Obj.mapSeq fun _=>#[])
 let h2:=h1.push (seqObj "tuple" vs.toArray 0)
 let h3:=h2.push (seqObj "list" #[] 0)
 obtain ⟨m,g1⟩:∃ m,h1.get? a=some (seqObj "list" #[] m):=⟨_,get?_update_seq ho fun _=>#[]⟩
 have sz1:h1.objs.size=s.heap.objs.size:=Heap.size_update ..
 have keep:∀ b o,b ≠ a->s.heap.get? b=some o->h3.get? b=some o:=fun b o hb e=>
  Heap.get?_push_of_some _ (Heap.get?_push_of_some _ ((Heap.get?_update_ne _ _ _ _ hb).trans e))
 have g3:h3.get? a=some (seqObj "list" #[] m):=Heap.get?_push_of_some _ (Heap.get?_push_of_some _ g1)
 have line:vs.length<=sizeLine:=by rw [sizeLine_eq]; ac_rfl
 have fin:∀ p,Pm vs.length p->Up lt p vs.length->wpAny (model prog w) A (do
   let touched:=(<- seqEpoch a) != m
   Builtin.List.listUpdate (.ref a) fun _=>(picked vs p).toArray
   if touched then rule "list.sort.modified"; raiseError "ValueError" "list modified during sort"
   ret .none) P E { s with heap:=h3 }:=fun p pm up=>by
  have sz:(picked vs p).toArray.size=vs.length:=by simp [picked,pm.size]
  refine wpAny_bind (seqEpoch_at g3 rfl (wpAny_bind (listUpdate_at g3 rfl ?_ (Nat.zero_le _) (by rw [sz]; ac_rfl))))
  rw [show (m != m)=false by simp]
  exact wpAny_pure (k p pm up)
 rw [list_sort_plain]
 refine wpAny_bind (listItems_at ho rfl (wpAny_bind (listUpdate_at ho rfl ?_ (by simpa using line) (Nat.zero_le _))))
 refine wpAny_bind (seqEpoch_at g1 rfl (wpAny_bind (wpAny_newTuple (wpAny_bind (wpAny_newList (wpAny_holding ?_) (Nat.zero_le _))) (by simpa using line))))
 show wpAny (model prog w) A _ P E { s with heap:=h3 }
 dsimp only
 by_cases two:2<=vs.length
 ·have big:¬ vs.toArray.size < 2:=by simpa using two
  rw [if_neg big,if_neg big]
  have cc:=c two
  refine wpAny_bind (wpAny_mono (cc.kind A h3 (fun x s'=>x=κ/\s'={ s with heap:=h3 }) keep ⟨rfl,rfl⟩) (fun x s' e=>?_) fun _ _ z=>z.elim)
  obtain ⟨rfl,rfl⟩:=e
  have W:=cc.wk
  have T:Tm (model prog w) A E { s with heap:=h3 } vs.length lt (kas_item (vs.toArray.zip vs.toArray)) x:=by
   have tot:∀ i j,i < vs.length->j < vs.length->i ≠ j->lt i j = !lt j i:=fun i j hi hj n=>by
    rcases ht i j hi hj n with z | z
    ·rw [z,W.asym z]; rfl
    ·rw [z,W.asym z]; rfl
   refine ⟨fun i j hi hj hn st Q hk q=>?_,tot,fun i j k _ _ _=>W.tr i j k⟩
   have it1:∀ i,i < vs.length->(kas_item (vs.toArray.zip vs.toArray) i).1=vs.getD i Value.none:=fun i hi=>by simp [kas_item,Array.getD,hi]
   rw [lt'_eq]
   refine wpS_bind (wpS_get ?_)
   refine wpS_bind (wpS_lift (wpAny_attempt (wpAny_mono (?_:wpAny (model prog w) A _ (fun b s'=>s'={ s with heap:=h3 }/\b=lt i j) (fun _ _=>False) _) (fun b s' z=>?_) fun _ _ z=>z.elim)))
   ·rw [hk,it1 i hi,it1 j hj]
    exact cc.less A h3 i j _ keep hi hj hn ⟨rfl,rfl⟩
   ·obtain ⟨rfl,rfl⟩:=z
    exact ⟨rfl,wpS_pure q⟩
  have est:vs.toArray.zip vs.toArray=arK (kas_item (vs.toArray.zip vs.toArray)) (List.range vs.length):=by
   apply Array.ext_getElem?
   intro u
   by_cases hu:u < vs.length
   ·simp [arK,kas_item,Array.getD,hu]
   ·simp [arK,hu]
  have run:=tim_ok T (st:=SortSt.mk' x (vs.toArray.zip vs.toArray) #[] 7 none) (p:=List.range vs.length) (Q:=fun _ st'=>∃ p,(Pm vs.length p/\Up lt p vs.length)/\arrOf st'=p.map (kas_item (vs.toArray.zip vs.toArray))/\failedOf st'=none) ⟨rfl,est,rfl⟩ (List.Perm.refl _) rfl fun st' p' S P sg=>by
   have hlp:=a5X P
   have ag:∀ u,at' p'.toArray u=g p' u:=fun u=>by
    by_cases hu:u < p'.length
    ·simp [at',g,List.getD,Array.getD,hu]
    ·simp [at',g,List.getD,Array.getD,hu]
   refine ⟨p'.toArray,⟨?_,fun u v huv hv=>?_⟩,by rw [S.a]; simp [arK],S.f⟩
   ·exact Array.perm_iff_toList_perm.mpr (by simpa using P)
   ·rw [ag,ag]
    exact Bef.of W (sg u v (Nat.zero_le _) huv hv)
  refine wpAny_bind (wpAny_mono run (fun r s' q=>?_) fun _ _ z=>z)
  obtain ⟨⟨⟩,st'⟩:=r
  obtain ⟨rfl,p,⟨pm,up⟩,e1,e2⟩:=q
  dsimp only at e1 e2 ⊢
  rw [kat_snds rfl e1,e2]
  exact fin p pm up
 ·have few:vs.toArray.size < 2:=by simp; ac_rfl
  rw [if_pos few,if_pos few]
  refine wpAny_bind (wpAny_pure ?_)
  rw [StateT.run_pure]
  refine wpAny_bind (wpAny_pure ?_)
  dsimp only
  have e:((arrOf (SortSt.mk' general' (vs.toArray.zip vs.toArray) #[] 7 none)).map fun x=>x.2)=(picked vs (List.toArray (List.range vs.length))).toArray:=by
   rw [picked_id]
   apply Array.toList_inj.mp
   show ((vs.toArray.zip vs.toArray).map fun x=>x.2).toList=_
   simp
   apply List.ext_getElem?
   intro i
   by_cases hi:i < vs.length
   ·simp [hi]
   ·simp [hi]
  rw [e]
  exact fin _ (Array.Perm.refl _) fun u v h1 h2=>by ac_rfl
end
section
variable {X:Cx}
end
end L2
namespace L2
open PySem PySem.Spec PySem.W PyProof.Rows Tim
section
variable {prog:Program} {w:World} {A:Around} {E:Value->Shared->Prop} {s:Shared}
theorem a9O {d:Addr} {es:Array DictEntry} {ep:Nat} {vs:List Value} {lt:Nat->Nat->Bool} {κ:SortKind} {Q:Value->Shared->Prop} (hh:A.handled=none) (lo:(d == sysModules)=false) (x:Ent s.heap d es ep) (hv:es.toList.map (·.key)=vs) (h64:vs.length<=1000) (ht:∀ i j,i < vs.length->j < vs.length->i ≠ j->lt i j=true \/ lt j i=true)
  (c:∀ (h1:Heap) (tk:Nat),(∀ b o,s.heap.get? b=some o->h1.get? b=some o)->2<=vs.length->Cmp prog w { s with heap:=h1.push (seqObj "list" vs.toArray 0),toks:=tk } h1.objs.size vs lt κ)
  (k:∀ (h1:Heap) (tk:Nat) p,(∀ b o,s.heap.get? b=some o->h1.get? b=some o)->s.heap.objs.size < h1.objs.size->Pm vs.length p->Up lt p vs.length->Q (.ref h1.objs.size) { s with heap:=sortedHeap (h1.push (seqObj "list" vs.toArray 0)) h1.objs.size vs (picked vs p).toArray,toks:=tk }):
  wpAny (model prog w) A (call (.builtin "sorted") [.ref d]) Q E s:=by
 have line:vs.length<=sizeLine:=by rw [sizeLine_eq]; ac_rfl
 have hn:es.size=vs.length:=by rw [<- hv]; simp
 refine Calls.call_function_entry kind_sorted plain_sorted entry_sorted (args_sorted1 _) ?_
 unfold Builtin.«sorted»
 refine wpAny_bind (m:=checkCount "sorted" 1 1 _) (wpAny_pure (wpAny_bind (coll_src (ent_src lo) hh x (by rw [hn]; exact line) fun h1 tk acc old big it=>?_)))
 have ea:acc.toList=vs:=by
  apply List.ext_getElem?
  intro i
  rw [<- hv]
  by_cases hi:i < acc.size
  ·obtain ⟨en,e1,e2⟩:=it.2 i acc[i] (Array.getElem?_eq_getElem hi)
   rw [Array.getElem?_toList,Array.getElem?_eq_getElem hi,List.getElem?_map,Array.getElem?_toList,e1,e2]
   rfl
  ·have:es.size<=i:=by rw [<- it.1]; ac_rfl
   rw [List.getElem?_eq_none (by simpa using hi),List.getElem?_eq_none (by simpa using this)]
 rw [ea]
 refine wpAny_bind (wpAny_newList ?_ line)
 have mine:(h1.push (seqObj "list" vs.toArray 0)).get? h1.objs.size=some (seqObj "list" vs.toArray 0):=Heap.get?_push_size h1 rfl
 refine wpAny_bind (wpAny_holding (wpAny_call_entry slot_list_sort ⟨_,mine,rfl⟩ entry_list_sort ?_ (args_list_sort _)))
 refine sort_hereL (s:={ s with heap:=h1.push (seqObj "list" vs.toArray 0),toks:=tk }) (lt:=lt) (κ:=κ) mine h64 ht (fun two=>c h1 tk old two) fun p a b=>⟨_,rfl,wpAny_pure ⟨_,rfl,k h1 tk p old big a b⟩⟩
end
section
variable {X:Cx}
theorem a8I (hc:X.calm=true):a3A X (.builtin "sorted") (fun xs H Q=>∃ (p:Addr) (ep:Nat) (kvs:List (List Key × V)) (kns:List (List Int)) (k:Nat),xs=[.ref p]/\H p=some (.dT ep kvs)/\kvs.map (·.1)=kns.map (fun l=>l.map Sum.inl)/\kvs.length<=1000/\(∀ l ∈ kns,l.length=k + 1) /\
  ∀ its':List (Addr × List Int),(its'.map (·.2)).Perm kns->its'.Pairwise (fun t u=>a7A t.2 u.2=true)->(∀ t ∈ its',H t.1=some (.tup (t.2.map V.int))) -> ∀ l,H l=none->Q (.ref l) (upd H l (.lst (its'.map fun t=>V.ref t.1)))):=by
 intro pins s σ H xs us Q I r h
 obtain ⟨p,ep,kvs,kns,k,rfl,hp,hk,h64,hlen,q⟩:=h
 obtain ⟨u,rfl,ru⟩:=a7d r
 cases ru
 obtain ⟨hz,hsys,xs,rx,o,es,g,ex,dd,he,nd⟩:=(show a1K X.prog X.w H s.heap p (.dT ep kvs) from I.hok p _ hp)
 obtain ⟨its,e1,e2,e3,e4⟩:=its_of rx hk
 have ln:its.length=kvs.length:=by
  have a:=congrArg List.length e1
  have b:=congrArg List.length hk
  simp at a b
  ac_rfl
 have pw0:its.Pairwise (fun t u=>t.2.1 ≠ u.2.1):=by
  rw [e4] at nd
  have nd2:kns.Nodup:=by
   rw [List.nodup_iff_pairwise_ne] at nd ⊢
   rw [List.pairwise_map] at nd
   exact nd.imp fun h z=>h (by rw [z])
  rw [<- e1,List.nodup_iff_pairwise_ne,List.pairwise_map] at nd2
  exact nd2
 have hits:∀ t ∈ its,t.2.1.length=k + 1:=fun t ht=>hlen _ (by rw [<- e1]; exact List.mem_map_of_mem ht)
 have tup:∀ t ∈ its,∃ (o:Obj) (a b:List Value) (n:Nat),s.heap.get? t.1=some o/\o.cls=.type "tuple" /\ o.data=.seq (a ++ b).toArray n/\IntsAre a t.2.1:=fun t ht=>by
  obtain ⟨z,r',⟨o,ho,hc,n,hd'⟩,_⟩:=I.tuple (SqT.of (e3 t ht).1)
  exact ⟨o,z,[],n,ho,hc,by rw [List.append_nil]; exact hd',intsAre_of r'⟩
 have hv:es.toList.map (·.key)=its.map (fun t=>Value.ref t.1):=by
  rw [he,List.map_map,<- e2]
  rfl
 have hl:(its.map fun t=>Value.ref t.1).length=its.length:=List.length_map ..
 have neX:∀ i j,i < its.length->j < its.length->i ≠ j->(its.getD i (0,[],[])).2.1 ≠ (its.getD j (0,[],[])).2.1:=fun i j hi hj n=>by
  have pw:=List.pairwise_iff_getElem.mp pw0
  have ei:its.getD i (0,[],[])=its[i]:=by simp [hi]
  have ej:its.getD j (0,[],[])=its[j]:=by simp [hj]
  rw [ei,ej]
  rcases Nat.lt_or_gt_of_ne n with z | z
  ·exact pw i j hi hj z
  ·exact (pw j i hj hi z).symm
 refine a9O (I.ok.hd hc) hsys ⟨⟨o,g,ex,dd⟩⟩ hv (by rw [hl,ln]; ac_rfl) (fun i j hi hj n=>by rw [hl] at hi hj; exact a6m _ _ (neX i j hi hj n)) (fun h1 tk old two=>cmp_tup (k:=k) two hits pw0 (fun t ht=>?_) (fun t ht=>?_)) fun h1 tk p' old big pm up=>?_
 ·obtain ⟨o,a,b,n,ho,r⟩:=tup t ht
  exact ⟨o,a,b,n,Heap.get?_push_of_some _ (old _ _ ho),r⟩
 ·obtain ⟨o,a,b,n,ho,r⟩:=tup t ht
  exact Nat.ne_of_lt (Heap.lt_size (old _ _ ho))
 ·rw [hl] at pm up
  let its':=p'.toList.map fun i=>its.getD i (0,[],[])
  have perm:its'.Perm its:=perm_of pm its rfl _
  have ne:∀ i j,i < its.length->j < its.length->i ≠ j->(its.getD i (0,[],[])).2.1 ≠ (its.getD j (0,[],[])).2.1:=fun i j hi hj n=>by
   have pw:=List.pairwise_iff_getElem.mp pw0
   have ei:its.getD i (0,[],[])=its[i]:=by simp [hi]
   have ej:its.getD j (0,[],[])=its[j]:=by simp [hj]
   rw [ei,ej]
   rcases Nat.lt_or_gt_of_ne n with z | z
   ·exact pw i j hi hj z
   ·exact (pw j i hj hi z).symm
  have pw:its'.Pairwise (fun t u=>a7A t.2.1 u.2.1=true):=a9N pm up its _ _ fun i j hi hj b=>by
   rcases b.2 with z | z
   ·exact z
   ·rcases a6m _ _ (ne i j hi hj (Nat.ne_of_lt z)) with y | y
    ·exact y
    ·have b1:a7A (its.getD j (0,[],[])).2.1 (its.getD i (0,[],[])).2.1=false:=b.1
     rw [b1] at y; cases y
  have ep:picked (its.map fun t=>Value.ref t.1) p'=its'.map fun t=>Value.ref t.1:=by
   unfold picked
   rw [List.map_map]
   apply List.map_congr_left
   intro i hi
   have hi':i < its.length:=List.mem_range.mp (pm.list.mem_iff.mp hi)
   simp [hi']
  rw [ep]
  have mine:(h1.push (seqObj "list" (its.map fun t=>Value.ref t.1).toArray 0)).get? h1.objs.size=some (seqObj "list" (its.map fun t=>Value.ref t.1).toArray 0):=Heap.get?_push_size h1 rfl
  have rel:∀ l:List SIt,a1u (l.map fun t=>V.ref t.1) (l.map fun t=>Value.ref t.1):=fun l=>by
   induction l with
   | nil=>exact .nil
   | cons t r ih=>exact .cons rfl ih
  have hle:(its'.map fun t=>V.ref t.1).length<=sizeLine:=by rw [sizeLine_eq,List.length_map,perm.length_eq]; ac_rfl
  have q':=q (its'.map fun t=>(t.1,t.2.1)) (by rw [List.map_map,<- e1]; exact perm.map _) (by rw [List.pairwise_map]; exact pw) (fun t ht=>by
   obtain ⟨u,hu,rfl⟩:=List.mem_map.mp ht
   exact (e3 u (perm.mem_iff.mp hu)).1)
  rw [List.map_map] at q'
  obtain ⟨c,at1⟩:=sortedHeap_at (out:=(its'.map fun t=>Value.ref t.1).toArray) mine
  have low:∀ b o,s.heap.get? b=some o->b < h1.objs.size:=fun b o e=>Heap.lt_size (old b o e)
  have le:s.heap.objs.size<=h1.objs.size:=Nat.le_of_lt big
  exact ⟨.ref h1.objs.size,_,I.laid (fun b o e=>(sortedHeap_old (Nat.ne_of_lt (low b o e)) (by rw [size_push']; exact Nat.lt_succ_of_lt (low b o e))).trans (Heap.get?_push_of_some _ (old b o e))) le (show a1K X.prog X.w _ _ _ (.lst _) from ⟨hle,_,c,rel its',at1⟩),rfl,q' _ (I.hok.fresh le)⟩
end
end L2
namespace Z
open PySem PySem.Spec PyProof.Rows L2
section
variable {X:Cx}
def a3g:List Dv->(R->Prop)->Prop
 | [.dit kvs],Q=>∃ (kns:List (List Int)) (k:Nat),kvs.map (·.1)=kns.map (fun l=>l.map Sum.inl)/\kvs.length<=1000/\(∀ l ∈ kns,l.length=k + 1) /\ ∀ ls:List (List Int),ls.Perm kns->ls.Pairwise (fun t u=>a7A t u=true)->Q (.nw (.lst (ls.map fun l=>.tup (l.map .int))))
 | _,_=>False
theorem a6Y (hc:X.calm=true):a7l X (.builtin "sorted") a3g:=by
 refine ⟨fun ds Q Q' w h=>?_,_,a8I hc,fun M O H xs ds Q c h=>?_⟩
 ·unfold a3g at *
  split at h
  ·obtain ⟨kns,k,a,b,c,q⟩:=h
   exact ⟨kns,k,a,b,c,fun ls x y=>w _ (q ls x y)⟩
  ·exact h
 ·unfold a3g at h
  split at h
  ·obtain ⟨x,rfl,cx⟩:=a2H c
   obtain ⟨a,ep,kvs',rfl,ea,ra⟩:=cx.dit
   obtain ⟨kns,k,e1,e2,e3,q⟩:=h
   refine ⟨a,ep,kvs',kns,k,rfl,ea,by rw [ra.keys]; exact e1,by rw [ra.len]; exact e2,e3,fun its' p1 p2 p3 l hl=>?_⟩
   refine q (its'.map (·.2)) p1 (by rw [List.pairwise_map]; exact p2) _ _ (a0r.new' hl) (a6a hl ?_)
   clear q p1 p2
   induction its' with
   | nil=>exact .nil
   | cons t r ih=>
    refine .cons (.tup (p3 t (List.mem_cons_self ..)) (Reps.ints _)) (ih fun u hu=>p3 u (List.mem_cons_of_mem _ hu))
  ·exact h.elim
theorem b0d {kvs:List (List Key × Dv)} {Q:R->Prop}:(a3g [.dit kvs] Q)=(∃ (kns:List (List Int)) (k:Nat),kvs.map (·.1)=kns.map (fun l=>l.map Sum.inl)/\kvs.length<=1000/\(∀ l ∈ kns,l.length=k + 1) /\ ∀ ls:List (List Int),ls.Perm kns->ls.Pairwise (fun t u=>a7A t u=true)->Q (.nw (.lst (ls.map fun l=>.tup (l.map .int))))):=rfl
end
end Z
namespace L2
open PySem PySem.Spec PyProof.Rows
section
variable {X:Cx}
theorem mt_upper:MtR X "str.upper" (fun x vs H Q=>∃ a,x=.str a/\vs=[]/\Builtin.Str.tooLong (Txt.upper a).length=false/\Q (.str (Txt.upper a)) H):=by
 intro pins s σ H x vs v us Q I rx rv h
 obtain ⟨a,rfl,rfl,hf,q⟩:=h
 obtain ⟨t,rfl⟩:=rx
 cases rv
 exact SC.upper hf ⟨.str _,H,I.tok _,⟨_,rfl⟩,q⟩
end
end L2
namespace Z
open PySem PySem.Spec PyProof.Rows L2
section
variable {X:Cx} {o:Expr} {to:TEp} {apos cpos:Pos}
def eUpper (to:TEp):TEp:=fun ρ Q=>to ρ fun r=>match r.d with
 | .str a=>Builtin.Str.tooLong (Txt.upper a).length=false/\Q (.v (.str (Txt.upper a)))
 | _=>False
theorem q_upper (ho:QE X o to) (hbase:attributeBase o "upper" X.env (eval o X.env)=eval o X.env:=by rfl) (hline:(apos.endLine == cpos.line)=true:=by rfl):
  QE X (.Call (.Attribute o "upper" apos) [] [] cpos) (eUpper to):=by
 refine ⟨fun ρ Q Q' w h=>ho.mono _ _ _ (fun r h=>?_) h,fun HZ F=>a0T (pe_bm0 PySem.F.plainAttrs_str PySem.F.slot_str_upper PySem.F.type_str_upper mt_upper (ho.run HZ F) hbase hline) fun σ H Q ⟨ρ,fr,h⟩=>?_⟩
 ·split at h
  ·exact ⟨h.1,w _ h.2⟩
  ·exact h
 ·refine ho.step fr h fun r x H1 h S1 r1=>?_
  have cx:=r1.c
  generalize r.d=d at h cx
  split at h
  ·rename_i a
   obtain rfl:=cx.str
   exact ⟨rfl,_,rfl,rfl,h.1,h.2 _ H1 S1 (Rep.str _)⟩
  ·exact h.elim
theorem up_brace:Txt.upper "brace" = "BRACE" := by decide +kernel
theorem up_more:Txt.upper "more" = "MORE" := by decide +kernel
theorem up_less:Txt.upper "less" = "LESS" := by decide +kernel
end
end Z
local macro_rules | `(tactic| ac_nf)=>`(tactic| simp only [↓Z.zt,Z.zo,Z.zc,Z.a5c,Nat.reduceSub,Nat.reduceAdd,↓reduceIte,Int.reduceEq,Int.reduceMul,Int.reduceAdd,Int.reduceSub,Int.reduceNeg,Z.guard,Int.reduceLT,Int.reduceLE,Int.reduceToNat,Int.reducePow,Nat.reduceLT,Nat.reduceLeDiff,Nat.reducePow,Z.LIM,↓Z.sAugI,↓Z.eInW,↓Z.a8B,↓Z.a6d,↓Z.sTry,↓Z.a5U,↓Z.b0P])
local macro_rules | `(tactic| push_cast [$xs,*])=>`(tactic| simp only [↓Z.zt,Z.zo,Z.zc,Z.a5c,Nat.reduceSub,Nat.reduceAdd,↓reduceIte,Int.reduceEq,Int.reduceMul,Int.reduceAdd,Int.reduceSub,Int.reduceNeg,Z.guard,Int.reduceLT,Int.reduceLE,Int.reduceToNat,Int.reducePow,Nat.reduceLT,Nat.reduceLeDiff,Nat.reducePow,Z.LIM,↓Z.sAugI,↓Z.eInW,↓Z.a8B,↓Z.a6d,↓Z.sTry,↓Z.a5U,↓Z.b0P,$xs,*])
namespace Lw
open PySem PySem.Spec PyProof.Rows L2 Z
noncomputable def top (i:Nat):Stmt:=PySem.Challenge.pw_slantfloor_k71_what_pulls_what.main.body.getD i (.Pass ⟨0,0,0,0⟩)
abbrev a5B:TSp:=
 (a2F (a6U (eIsi "int" (a0e 0)) (eNotV (eIsi "bool" (a0e 0)))))
section
variable {P:Program} {w:World} {K:W.Frag} {mg:Str->Option Value} {base:Heap}
local macro_rules | `(tactic| norm_cast)=>`(tactic| exact ⟨rfl,rfl,rfl,by decide +kernel,rfl,by decide +kernel,by decide +kernel⟩)
theorem b0A {sp:Fn} (m:At K mg "is_whole" "is_whole" (top 14) ["thing"]) (a0f:mg "isinstance" = none) (w_int:mg "int" = none) (a7n:mg "bool" = none) (len:∀ ds Q,sp ds Q->ds.length=1) (hsp:∀ ds Q,sp ds Q->a5B  { nx:=fun _=>Q (.v .non),rt:=Q } (a0k ["thing"] ds)):Def P w K mg base 1 "is_whole" ["thing"] (low K sp):=by
 have sc:FnScope ["thing"] ["thing"] (a0d (top 14)):=by norm_cast
 refine m.okP (k:=0) (t:=a5B ) sc (fun f cdv A outer s H E hr=>?_) len hsp
 ·
  exact (a0n (a1C (a8Z (a7X (.inl rfl) rfl a0f (a0c 0 (pv 0)) (a3q (v:=.ty "int") rfl w_int boot_int rfl)) (a7W (q_not (a7X (.inr (.inl rfl)) rfl a0f (a0c 0 (pv 0)) (a3q (v:=.ty "bool") rfl a7n boot_bool rfl)))))))
abbrev a5w:TSp:=
 (a0z (a2a 1 (a4s (a0b (eOp pIx (a0e 0) (eC (.int 0))) (a0b (eOp pIx (a0e 0) (eC (.int 1))) a0m))))
 (a0z (a2a 2 (a4s (a0b (eOp pIx (a0e 0) (eC (.int 1))) (a0b (eOp pIx (a0e 0) (eC (.int 0))) a0m))))
 (a0z (sIf (a1n (eOp pEq (eOp pIx (a0e 0) (eC (.int 2))) (eC (.str "brace")))) (a2F (a3P (a0b (a0e 1) (a0b (a0e 2) a0m)))) a1g)
 (a2F (eIf (a1n (eOp pEq (eOp pIx (a0e 0) (eC (.int 2))) (eC (.str "more")))) (a3P (a0b (a0e 1) a0m)) (a3P (a0b (a0e 2) a0m)))))))
theorem b0v {sp:Fn} (m:At K mg "pulls_of" "pulls_of" (top 19) ["hold"])  (len:∀ ds Q,sp ds Q->ds.length=1) (hsp:∀ ds Q,sp ds Q->a5w  { nx:=fun _=>Q (.v .non),rt:=Q } (a0k ["hold", "there", "back"] ds)):Def P w K mg base 1 "pulls_of" ["hold"] (low K sp):=by
 have sc:FnScope ["hold", "there", "back"] ["hold"] (a0d (top 19)):=by norm_cast
 refine m.okP (k:=0) (t:=a5w ) sc (fun f cdv A outer s H E hr=>?_) len hsp
 ·
  have hu:=hr.units
  have hu1:=a3v hr
  exact (a0g (a1L (i:=1) sc.nd rfl (Or.inl rfl) (a2T (a0a (a3k hu1 (a0c 0 (pv 0)) a0i) (a0a (a3k hu1 (a0c 0 (pv 0)) a0i) a0h))))
 (a0g (a1L (i:=2) sc.nd rfl (Or.inl rfl) (a2T (a0a (a3k hu1 (a0c 0 (pv 0)) a0i) (a0a (a3k hu1 (a0c 0 (pv 0)) a0i) a0h))))
 (a0g (a6g (a1M (a4c hu) (a3k hu1 (a0c 0 (pv 0)) a0i) a6C) (a0n (a1C (a2U (a0a (a0c 1 (pv 1)) (a0a (a0c 2 (pv 2)) a0h))))) a1b)
 (a0n (a1C (q_ifExp (a1M (a4c hu) (a3k hu1 (a0c 0 (pv 0)) a0i) a6C) (a2U (a0a (a0c 1 (pv 1)) a0h)) (a2U (a0a (a0c 2 (pv 2)) a0h))))))))
abbrev a2c (a0P:Fn):TSp:=
 (a0z (sIf (eOr (a6T (a7c (eIsi "tuple" (a0e 0)))) (a1n (eOp pNe (eCB a4r (a0b (a0e 0) a0m)) (eC (.int 3))))) (a2F (eC (.bl false))) a1g)
 (a2F (eCB pAll (a0b (a4t 1 [] (b0q (a0e 0)) (gN 0) a3D (a0B a0P (a0b (a0e 0) a0m))) a0m))))
theorem a4N {a0P:Fn} {sp:Fn} (m:At K mg "has_three_wholes" "has_three_wholes" (top 26) ["direction"]) (a0f:mg "isinstance" = none) (a2q:mg "tuple" = none) (a1o:mg "len" = none) (w_all:mg "all" = none) (a2u:Def P w K mg base 1 "is_whole" ["thing"] (low K a0P)) (a3G:MonoF a0P) (len:∀ ds Q,sp ds Q->ds.length=1) (hsp:∀ ds Q,sp ds Q->a2c a0P { nx:=fun _=>Q (.v .non),rt:=Q } (a0k ["direction"] ds)):Def P w K mg base 2 "has_three_wholes" ["direction"] (low K sp):=by
 have sc:FnScope ["direction"] ["direction"] (a0d (top 26)):=by norm_cast
 refine m.okP (k:=1) (t:=a2c a0P) sc (fun f cdv A outer s H E hr=>?_) len hsp
 ·
  have hu:=hr.units
  exact (a0g (a6g (QW.qt (a8V (a2o (a2G (a7X (.inr (.inr (.inl rfl))) rfl a0f (a0c 0 (pv 0)) (a3q (v:=.ty "tuple") rfl a2q boot_tuple rfl)))) (a6B (a1M (a5Z hu) (a0L a2n rfl a1o boot_len (a0a (a0c 0 (pv 0)) a0h)) a0i)))) (a0n (a1C a8Y)) a1b)
 (a0n (a1C (a0L (cd_all rfl) rfl w_all boot_all (a0a (q_lc ["part"] [] [] rfl (a5f (a0c 0 (pv 0))) (fun fp s H=>(a7Y (i:=0) (k:=1) (show List.Nodup (["part"]:List Str) by decide +kernel) rfl (Or.inl rfl))) (fun fp s H=>a5D) (fun fp s H=>(a0M a2u a3G (hr.mono (by decide)) (a0a (a0c 0 (pv 0)) a0h)))) a0h)))))
abbrev a2s:TSp:=
 (a2F (a6U (eOp pLe (eCB pAbs (a0b (eOp pIx (a0e 0) (eC (.int 0))) a0m)) (eC (.int 999999999999))) (eOp pLe (eCB pAbs (a0b (eOp pIx (a0e 0) (eC (.int 1))) a0m)) (eC (.int 999999999999)))))
theorem a5s {sp:Fn} (m:At K mg "has_few_figures" "has_few_figures" (top 27) ["direction"]) (w_abs:mg "abs" = none) (a2B:∃ t,mg "LARGEST_PART" = some (.int 999999999999 t)) (len:∀ ds Q,sp ds Q->ds.length=1) (hsp:∀ ds Q,sp ds Q->a2s  { nx:=fun _=>Q (.v .non),rt:=Q } (a0k ["direction"] ds)):Def P w K mg base 1 "has_few_figures" ["direction"] (low K sp):=by
 have sc:FnScope ["direction"] ["direction"] (a0d (top 27)):=by norm_cast
 refine m.okP (k:=0) (t:=a2s ) sc (fun f cdv A outer s H E hr=>?_) len hsp
 ·
  have hu1:=a3v hr
  exact (a0n (a1C (a8Z (a8X opd_le (a0L cd_abs rfl w_abs boot_abs (a0a (a3k hu1 (a0c 0 (pv 0)) a0i) a0h)) (a6D a2B)) (a7W (a8X opd_le (a0L cd_abs rfl w_abs boot_abs (a0a (a3k hu1 (a0c 0 (pv 0)) a0i) a0h)) (a6D a2B))))))
abbrev a4y:TSp:=
 (a2F (eOrV (eOp pGt (eOp pIx (a0e 0) (eC (.int 1))) (eC (.int 0))) (a6U (eOp pEq (eOp pIx (a0e 0) (eC (.int 1))) (eC (.int 0))) (eOp pGt (eOp pIx (a0e 0) (eC (.int 0))) (eC (.int 0))))))
theorem a9t {sp:Fn} (m:At K mg "points_up" "points_up" (top 28) ["direction"])  (len:∀ ds Q,sp ds Q->ds.length=1) (hsp:∀ ds Q,sp ds Q->a4y  { nx:=fun _=>Q (.v .non),rt:=Q } (a0k ["direction"] ds)):Def P w K mg base 1 "points_up" ["direction"] (low K sp):=by
 have sc:FnScope ["direction"] ["direction"] (a0d (top 28)):=by norm_cast
 refine m.okP (k:=0) (t:=a4y ) sc (fun f cdv A outer s H E hr=>?_) len hsp
 ·
  have hu:=hr.units
  have hu1:=a3v hr
  exact (a0n (a1C (q_or (a8X a9e (a3k hu1 (a0c 0 (pv 0)) a0i) a0i) (a7W (a8Z (a8X (a4c hu) (a3k hu1 (a0c 0 (pv 0)) a0i) a0i) (a7W (a8X a9e (a3k hu1 (a0c 0 (pv 0)) a0i) a0i)))))))
abbrev a4z:TSp:=
 (a2F (eOp pGt (eOp pSub (eOp a5Y (eOp pIx (a0e 1) (eC (.int 0))) (eOp pIx (a0e 0) (eC (.int 1)))) (eOp a5Y (eOp pIx (a0e 0) (eC (.int 0))) (eOp pIx (a0e 1) (eC (.int 1))))) (eC (.int 0))))
theorem a9u {sp:Fn} (m:At K mg "lies_left" "lies_left" (top 29) ["direction", "ahead"])  (len:∀ ds Q,sp ds Q->ds.length=2) (hsp:∀ ds Q,sp ds Q->a4z  { nx:=fun _=>Q (.v .non),rt:=Q } (a0k ["direction", "ahead"] ds)):Def P w K mg base 1 "lies_left" ["direction", "ahead"] (low K sp):=by
 have sc:FnScope ["direction", "ahead"] ["direction", "ahead"] (a0d (top 29)):=by norm_cast
 refine m.okP (k:=0) (t:=a4z ) sc (fun f cdv A outer s H E hr=>?_) len hsp
 ·
  have hu1:=a3v hr
  exact (a0n (a1C (a8X a9e (a0U a6G (a0U a1Y (a3k hu1 (a0c 1 (pv 1)) a0i) (a3k hu1 (a0c 0 (pv 0)) a0i)) (a0U a1Y (a3k hu1 (a0c 0 (pv 0)) a0i) (a3k hu1 (a0c 1 (pv 1)) a0i))) a0i)))
abbrev a2t (a0Q a0Z a2y:Fn):TSp:=
 (a0z (sIf (a6T (a7c (a0B a0Q (a0b (a0e 0) a0m)))) a1F a1g)
 (a0z (sIf (a6T (a7c (a0B a0Z (a0b (a0e 0) a0m)))) a1F a1g)
 (a0z (sIf (a6T (a7c (a0B a2y (a0b (a0e 0) a0m)))) a1F a1g)
 (sIf (a1n (eOp pLt (eOp pIx (a0e 0) (eC (.int 2))) (eC (.int 1)))) a1F a1g))))
theorem a5t {a0Q a0Z a2y:Fn} {sp:Fn} (m:At K mg "check_direction" "check_direction" (top 30) ["direction"]) (a2l:Def P w K mg base 2 "has_three_wholes" ["direction"] (low K a0Q)) (a4K:MonoF a0Q) (a2v:Def P w K mg base 1 "has_few_figures" ["direction"] (low K a0Z)) (a5k:MonoF a0Z) (a4P:Def P w K mg base 1 "points_up" ["direction"] (low K a2y)) (a9g:MonoF a2y) (len:∀ ds Q,sp ds Q->ds.length=1) (hsp:∀ ds Q,sp ds Q->a2t a0Q a0Z a2y { nx:=fun _=>Q (.v .non),rt:=Q } (a0k ["direction"] ds)):Def P w K mg base 3 "check_direction" ["direction"] (low K sp):=by
 have sc:FnScope ["direction"] ["direction"] (a0d (top 30)):=by norm_cast
 refine m.okP (k:=2) (t:=a2t a0Q a0Z a2y) sc (fun f cdv A outer s H E hr=>?_) len hsp
 ·
  have hu1:=a3v hr
  exact (a0g (a6g (a2o (a2G (a0M a2l a4K (hr.mono (by decide)) (a0a (a0c 0 (pv 0)) a0h)))) (a0n a1r) a1b)
 (a0g (a6g (a2o (a2G (a0M a2v a5k (hr.mono (by decide)) (a0a (a0c 0 (pv 0)) a0h)))) (a0n a1r) a1b)
 (a0g (a6g (a2o (a2G (a0M a4P a9g (hr.mono (by decide)) (a0a (a0c 0 (pv 0)) a0h)))) (a0n a1r) a1b)
 (a0n (a6g (a1M b1g (a3k hu1 (a0c 0 (pv 0)) a0i) a0i) (a0n a1r) a1b)))))
abbrev a2S (a0v a1i:Fn):TSp:=
 (sDrop (a0B a0v (a0b (a0e 1) a0m)))
abbrev a1Q (a0v a1i:Fn):TSp:=
 (sIf (a6T (a7c (a0B a1i (a0b (a0e 1) (a0b (a0e 2) a0m))))) a1F a1g)
abbrev a2d (a0v a1i:Fn):TSp:=
 (a0z (sIf (a6T (a7c (eIsi "list" (a0e 0)))) a1F a1g)
 (a0z (sIf (a6T (a1n (a7I pLe pLe (eC (.int 2)) (eCB a4r (a0b (a0e 0) a0m)) (eC (.int 6))))) a1F a1g)
 (a0z (a7b (b0q (a0e 0)) (gN 1) (a2S a0v a1i))
 (a0z (sIf (a1n (eOp pGt (eCB pSum (a0b (a4t 1 [] (b0q (a0e 0)) (gN 0) a3D (eOp pIx (a0e 0) (eC (.int 2)))) a0m)) (eC (.int 12)))) a1F a1g)
 (a7b (iZipP (a0b (a0e 0) (a0b (eSl (a0e 0) (a3i (eC (.int 1))) a1d) a0m))) (gT [2,1]) (a1Q a0v a1i))))))
theorem a4O {a0v a1i:Fn} {sp:Fn} (m:At K mg "check_directions" "check_directions" (top 31) ["directions"]) (a0f:mg "isinstance" = none) (a4X:mg "list" = none) (a1o:mg "len" = none) (w_sum:mg "sum" = none) (w_zip:mg "zip" = none) (a1X:∃ t,mg "FEWEST_DIRECTIONS" = some (.int 2 t)) (a2r:∃ t,mg "MOST_DIRECTIONS" = some (.int 6 t)) (a3S:∃ t,mg "MOST_BANDS" = some (.int 12 t)) (a2w:Def P w K mg base 3 "check_direction" ["direction"] (low K a0v)) (a5l:MonoF a0v) (a4Q:Def P w K mg base 1 "lies_left" ["direction", "ahead"] (low K a1i)) (a9h:MonoF a1i) (len:∀ ds Q,sp ds Q->ds.length=1) (hsp:∀ ds Q,sp ds Q->a2d a0v a1i { nx:=fun _=>Q (.v .non),rt:=Q } (a0k ["directions", "direction", "ahead"] ds)):Def P w K mg base 4 "check_directions" ["directions"] (low K sp):=by
 have sc:FnScope ["directions", "direction", "ahead"] ["directions"] (a0d (top 31)):=by norm_cast
 refine m.okP (k:=3) (t:=a2d a0v a1i) sc (fun f cdv A outer s H E hr=>?_) len hsp
 ·
  have hu1:=a3v hr
  exact (a0g (a6g (a2o (a2G (a7X (.inr (.inr (.inr (.inl rfl)))) rfl a0f (a0c 0 (pv 0)) (a3q (v:=.ty "list") rfl a4X boot_list rfl)))) (a0n a1r) a1b)
 (a0g (a6g (a2o (qt_chain op_le op_le (a6D a1X) (a0L a2n rfl a1o boot_len (a0a (a0c 0 (pv 0)) a0h)) (a6D a2r))) (a0n a1r) a1b)
 (a0g (a5g PassesOwn.never rfl (a5f (a0c 0 (pv 0))) (a7Y (i:=1) (k:=3) sc.nd rfl (Or.inl rfl)) (a0n (q_expr (a0M a2w a5l (hr.mono (by decide)) (a0a (a0c 1 (pv 1)) a0h)))))
 (a0g (a6g (a1M a9e (a0L (cd_sum rfl) rfl w_sum boot_sum (a0a (q_lc ["direction"] [] [] rfl (a5f (a0c 0 (pv 0))) (fun fp s H=>(a7Y (i:=0) (k:=1) (show List.Nodup (["direction"]:List Str) by decide +kernel) rfl (Or.inl rfl))) (fun fp s H=>a5D) (fun fp s H=>(a3k hu1 (a0c 0 (pv 0)) a0i))) a0h)) (a6D a3S)) (a0n a1r) a1b)
 (a0n (a5g PassesOwn.never rfl (q_iZip rfl w_zip (a0a (a0c 0 (pv 0)) (a0a (a4I (a0c 0 (pv 0)) (a3Y a0i) a3Z) a0h))) (q_gT (k:=3) (is:=[2,1]) rfl (a2D (a3f (i:=2) sc.nd rfl (Or.inl rfl)) (a2D (a3f (i:=1) sc.nd rfl (Or.inl rfl)) a8c))) (a0n (a6g (a2o (a2G (a0M a4Q a9h (hr.mono (by decide)) (a0a (a0c 1 (pv 1)) (a0a (a0c 2 (pv 2)) a0h))))) (a0n a1r) a1b))))))))
abbrev a6q (C:Addr) (a0y:Fn):TSp:=
 (sExt 2 (eOp a5Y (a3P (a0b (a0e 3) a0m)) (eOp pIx (a0e 4) (eC (.int 2)))))
abbrev t_init (C:Addr) (a0y:Fn):TSp:=
 (a0z (sDrop (a0B a0y (a0b (a0e 1) a0m)))
 (a0z (a5d 2 (a3P a0m))
 (a0z (a7b (b1m (a0b (a0e 1) a0m)) (gT [3,4]) (a6q C a0y))
 (a0z (a9Q C 0 "kinds" (eCB a6E (a0b (a0e 2) a0m)))
 (a9Q C 0 "vectors" (eCB a6E (a0b (a4t 1 [] (b0q (a0e 1)) (gN 0) a3D (a4s (a0b (eOp pIx (a0e 0) (eC (.int 0))) (a0b (eOp pIx (a0e 0) (eC (.int 1))) a0m)))) a0m)))))))
theorem dq_init {C:Addr} {a0y:Fn} {sp:Fn} (m:IAt K mg "Sides" C "Sides.__init__" (a0I (top 32) 0) ["self", "directions"]) (a4x:mg "enumerate" = none) (a2q:mg "tuple" = none) (cl:Cls K C) (n_kinds:a3Q K C "kinds") (n_vectors:a3Q K C "vectors") (a2m:Def P w K mg base 4 "check_directions" ["directions"] (low K a0y)) (a4L:MonoF a0y) (len:∀ ds Q,sp ds Q->ds.length + 1=2) (hsp:∀ ds Q,sp ds Q -> ∀ a,t_init C a0y { nx:=fun ρ=>∃ d,ρ[0]?=some (.own a d)/\Q (.nw d),rt:=fun _=>False } (a3N C a ["self", "directions", "kinds", "number", "direction"] ds)):IDef P w K mg base 5 "Sides" C ["self", "directions"] sp:=by
 have sc:FnScope ["self", "directions", "kinds", "number", "direction"] ["self", "directions"] (a0d (a0I (top 32) 0)):=by norm_cast
 refine m.okP (k:=4) (t:=t_init C a0y) sc (fun f cdv A outer s H E hr=>?_) len hsp
 ·
  have hu1:=a3v hr
  exact (a0g (q_expr (a0M a2m a4L (hr.mono (by decide)) (a0a (a0c 1 (pv 1)) a0h)))
 (a0g (a4u (i:=2) sc.nd rfl (Or.inl rfl) (a2U a0h))
 (a0g (a5g PassesOwn.never rfl (q_iEnum rfl a4x (a0a (a0c 1 (pv 1)) a0h)) (q_gT (k:=5) (is:=[3,4]) rfl (a2D (a3f (i:=3) sc.nd rfl (Or.inl rfl)) (a2D (a3f (i:=4) sc.nd rfl (Or.inl rfl)) a8c))) (a0n (q_ext (i:=2) (pv 2) (a0U a1Y (a2U (a0a (a0c 3 (pv 3)) a0h)) (a3k hu1 (a0c 4 (pv 4)) a0i)))))
 (a0g (q_attr (i:=0) cl n_kinds (pv 0) (a7Z cd_tuple rfl a2q boot_tuple (a0a (a0c 2 (pv 2)) a0h)))
 (a0n (q_attr (i:=0) cl n_vectors (pv 0) (a7Z cd_tuple rfl a2q boot_tuple (a0a (q_lc ["direction"] [] [] rfl (a5f (a0c 1 (pv 1))) (fun fp s H=>(a7Y (i:=0) (k:=1) (show List.Nodup (["direction"]:List Str) by decide +kernel) rfl (Or.inl rfl))) (fun fp s H=>a5D) (fun fp s H=>(a2T (a0a (a3k hu1 (a0c 0 (pv 0)) a0i) (a0a (a3k hu1 (a0c 0 (pv 0)) a0i) a0h))))) a0h))))))))
abbrev t_many (C:Addr):TSp:=
 (a2F (eCB a4r (a0b (eFld C "kinds" (a0e 0)) a0m)))
theorem dq_many {C:Addr} {sp:Fn} (m:MAt K C "many" "Sides.many" (a0I (top 32) 1) ["self"]) (a1o:mg "len" = none) (cl:Cls K C) (n_kinds:a3Q K C "kinds") (len:∀ ds Q,sp ds Q->ds.length=1) (hsp:∀ ds Q,sp ds Q->t_many C  { nx:=fun _=>Q (.v .non),rt:=Q } (a0k ["self"] ds)):MDef P w K mg base 1 C "many" ["self"] (low K sp):=by
 have sc:FnScope ["self"] ["self"] (a0d (a0I (top 32) 1)):=by norm_cast
 refine m.okP (k:=0) (t:=t_many C ) sc (fun f cdv A outer s H E hr=>?_) len hsp
 ·
  exact (a0n (a1C (a0L a2n rfl a1o boot_len (a0a (q_fld cl n_kinds (a0c 0 (pv 0))) a0h))))
abbrev t_kind (C:Addr):TSp:=
 (a2F (eOp pIx (eFld C "kinds" (a0e 0)) (a0e 1)))
theorem dq_kind {C:Addr} {sp:Fn} (m:MAt K C "kind" "Sides.kind" (a0I (top 32) 2) ["self", "band"]) (cl:Cls K C) (n_kinds:a3Q K C "kinds") (len:∀ ds Q,sp ds Q->ds.length=2) (hsp:∀ ds Q,sp ds Q->t_kind C  { nx:=fun _=>Q (.v .non),rt:=Q } (a0k ["self", "band"] ds)):MDef P w K mg base 1 C "kind" ["self", "band"] (low K sp):=by
 have sc:FnScope ["self", "band"] ["self", "band"] (a0d (a0I (top 32) 2)):=by norm_cast
 refine m.okP (k:=0) (t:=t_kind C ) sc (fun f cdv A outer s H E hr=>?_) len hsp
 ·
  have hu1:=a3v hr
  exact (a0n (a1C (a3k hu1 (q_fld cl n_kinds (a0c 0 (pv 0))) (a0c 1 (pv 1)))))
abbrev a6u (C:Addr) (a0P a7J a6Z:Fn):TSp:=
 (a0z (sIf (eOr (a6T (a7c (a0B a0P (a0b (a0e 1) a0m)))) (a6T (a7c (a0B a0P (a0b (a0e 2) a0m))))) (a2F (eC (.bl false))) a1g)
 (a2F (a6U (a8B (fun i j=>decide (i<=j)) (fun i j=>decide (i < j)) (fun i j=>decide (i < j)) (eC (.int 0)) (a0e 1) (a0e 2) (b0u C "many" a7J (a0e 0) a0m)) (eOp pNe (b0u C "kind" a6Z (a0e 0) (a0b (a0e 1) a0m)) (b0u C "kind" a6Z (a0e 0) (a0b (a0e 2) a0m))))))
theorem dq_is_pair {C:Addr} {a0P a7J a6Z:Fn} {sp:Fn} (m:At K mg "is_pair" "is_pair" (top 17) ["sides", "a", "b"]) (cl:Cls K C) (a2u:Def P w K mg base 1 "is_whole" ["thing"] (low K a0P)) (a3G:MonoF a0P) (d_many:MDef P w K mg base 1 C "many" ["self"] (low K a7J)) (b0k:MonoF a7J) (d_kind:MDef P w K mg base 1 C "kind" ["self", "band"] (low K a6Z)) (a8o:MonoF a6Z) (len:∀ ds Q,sp ds Q->ds.length=3) (hsp:∀ ds Q,sp ds Q->a6u C a0P a7J a6Z { nx:=fun _=>Q (.v .non),rt:=Q } (a0k ["sides", "a", "b"] ds)):Def P w K mg base 2 "is_pair" ["sides", "a", "b"] (low K sp):=by
 have sc:FnScope ["sides", "a", "b"] ["sides", "a", "b"] (a0d (top 17)):=by norm_cast
 refine m.okP (k:=1) (t:=a6u C a0P a7J a6Z) sc (fun f cdv A outer s H E hr=>?_) len hsp
 ·
  have hu:=hr.units
  exact (a0g (a6g (QW.qt (a8V (a2o (a2G (a0M a2u a3G (hr.mono (by decide)) (a0a (a0c 1 (pv 1)) a0h)))) (a6B (a2o (a2G (a0M a2u a3G (hr.mono (by decide)) (a0a (a0c 2 (pv 2)) a0h))))))) (a0n (a1C a8Y)) a1b)
 (a0n (a1C (a8Z (q_chain3 op_le op_lt op_lt a0i (a0c 1 (pv 1)) (a0c 2 (pv 2)) (q_meth0 cl d_many b0k (hr.mono (by decide)) (a0c 0 (pv 0)))) (a7W (a8X (a5Z hu) (q_meth cl d_kind a8o (hr.mono (by decide)) (a0c 0 (pv 0)) (a0a (a0c 1 (pv 1)) a0h)) (q_meth cl d_kind a8o (hr.mono (by decide)) (a0c 0 (pv 0)) (a0a (a0c 2 (pv 2)) a0h))))))))
abbrev a6v (a3x:Fn):TSp:=
 (a0z (sIf (eOr (a6T (a7c (eIsi "tuple" (a0e 1)))) (a1n (eOp pNe (eCB a4r (a0b (a0e 1) a0m)) (eC (.int 3))))) (a2F (eC (.bl false))) a1g)
 (a2F (a6U (a0B a3x (a0b (a0e 0) (a0b (eOp pIx (a0e 1) (eC (.int 0))) (a0b (eOp pIx (a0e 1) (eC (.int 1))) a0m)))) (eInW ["brace", "more", "less"] (eOp pIx (a0e 1) (eC (.int 2)))))))
theorem dq_is_hold {a3x:Fn} {a5R:Addr} {sp:Fn} (m:At K mg "is_hold" "is_hold" (top 18) ["sides", "thing"]) (a0f:mg "isinstance" = none) (a2q:mg "tuple" = none) (a1o:mg "len" = none) (b0s:mg "WORDS" = some (.ref a5R)) (a7M:Words K a5R ["brace", "more", "less"]) (a6V:Def P w K mg base 2 "is_pair" ["sides", "a", "b"] (low K a3x)) (mo_is_pair:MonoF a3x) (len:∀ ds Q,sp ds Q->ds.length=2) (hsp:∀ ds Q,sp ds Q->a6v a3x { nx:=fun _=>Q (.v .non),rt:=Q } (a0k ["sides", "thing"] ds)):Def P w K mg base 3 "is_hold" ["sides", "thing"] (low K sp):=by
 have sc:FnScope ["sides", "thing"] ["sides", "thing"] (a0d (top 18)):=by norm_cast
 refine m.okP (k:=2) (t:=a6v a3x) sc (fun f cdv A outer s H E hr=>?_) len hsp
 ·
  have hu:=hr.units
  have hu1:=a3v hr
  exact (a0g (a6g (QW.qt (a8V (a2o (a2G (a7X (.inr (.inr (.inl rfl))) rfl a0f (a0c 1 (pv 1)) (a3q (v:=.ty "tuple") rfl a2q boot_tuple rfl)))) (a6B (a1M (a5Z hu) (a0L a2n rfl a1o boot_len (a0a (a0c 1 (pv 1)) a0h)) a0i)))) (a0n (a1C a8Y)) a1b)
 (a0n (a1C (a8Z (a0M a6V mo_is_pair (hr.mono (by decide)) (a0a (a0c 0 (pv 0)) (a0a (a3k hu1 (a0c 1 (pv 1)) a0i) (a0a (a3k hu1 (a0c 1 (pv 1)) a0i) a0h)))) (a7W (q_inW (a3k hu1 (a0c 1 (pv 1)) a0i) b0s a7M))))))
abbrev a4q (a0j:Addr) (Ψ:Exn->Prop) (a1V a1A:Fn):TSp:=
 (sPut 2 (a0e 4) (eC (.bl true)))
abbrev a3d (a0j:Addr) (Ψ:Exn->Prop) (a1V a1A:Fn):TSp:=
 (a0z (sIf (a6T (a7c (a0B a1V (a0b (a0e 0) (a0b (a0e 3) a0m))))) (b0P Ψ a0j (a0b (eC (.str "a hold is a pair and one of the words brace, more, less")) a0m)) a1g)
 (a7b (b0q (a0B a1A (a0b (a0e 3) a0m))) (gN 4) (a4q a0j Ψ a1V a1A)))
abbrev a7O (a0j:Addr) (Ψ:Exn->Prop) (a1V a1A:Fn):TSp:=
 (a0z (a5d 2 eDT)
 (a0z (a7b (b0q (a0e 1)) (gN 3) (a3d a0j Ψ a1V a1A))
 (a2F (eCB a3g (a0b (a0e 2) a0m)))))
theorem dq_pullsX {a1V a1A:Fn} {a0j:Addr} {sp:FnX} (m:At K mg "pulls" "pulls" (top 20) ["sides", "holds"]) (a4j:mg "sorted" = none) (a2W:mg "NoHold" = some (.ref a0j)) (a7V:ExcC K a0j) (a6W:Def P w K mg base 3 "is_hold" ["sides", "thing"] (low K a1V)) (mo_is_hold:MonoF a1V) (a5M:Def P w K mg base 1 "pulls_of" ["hold"] (low K a1A)) (b0i:MonoF a1A) (len:∀ ds Q Ψ,sp ds Q Ψ->ds.length=2) (hsp:∀ ds Q Ψ,sp ds Q Ψ->a7O a0j Ψ a1V a1A { nx:=fun _=>Q (.v .non),rt:=Q } (a0k ["sides", "holds", "told", "hold", "pull"] ds)):DefX P w K mg base 4 "pulls" ["sides", "holds"] (lowX K sp):=by
 have sc:FnScope ["sides", "holds", "told", "hold", "pull"] ["sides", "holds"] (a0d (top 20)):=by norm_cast
 refine m.okX (k:=3) (t:=fun Ψ=>a7O a0j Ψ a1V a1A) sc (fun f cdv A outer s H E F Ψ hr hE=>?_) len hsp
 ·
  have hS:∀ H2,a0r H H2->a0r H H2:=fun _ z=>z
  have hu1:=a3v hr
  exact (a1Z (QS.x (a4u (i:=2) sc.nd rfl (Or.inl rfl) q_dnewT))
 (a1Z (x_for hS (a5f (a0c 1 (pv 1))) (a7Y (i:=3) (k:=5) sc.nd rfl (Or.inl rfl)) (fun P hS=>(a1Z (x_if (a2o (a2G (a0M a6W mo_is_hold (hr.mono (by decide)) (a0a (a0c 0 (pv 0)) (a0a (a0c 3 (pv 3)) a0h))))) (a6e (x_raiseG hS hr.hd hE a2W a7V rfl (a0a a6C a0h))) (QSs.x a1b))
 (a6e (QS.x (a5g PassesOwn.leaving rfl (a5f (a0M a5M b0i (hr.mono (by decide)) (a0a (a0c 3 (pv 3)) a0h))) (a7Y (i:=4) (k:=5) sc.nd rfl (Or.inl rfl)) (a0n (q_put hu1 (i:=2) (pv 2) (a0c 4 (pv 4)) a8Y))))))))
 (a6e (QS.x (a1C (a0L (a6Y rfl) rfl a4j boot_sorted (a0a (a0c 2 (pv 2)) a0h)))))))
abbrev a7P (Ψ:Exn->Prop) (a0p:FnX):TSp:=
 (a0z (a5U 2 a0p (a0b (a0e 0) (a0b (a0e 1) a0m)) Ψ)
 (a0z a1F
 (a0z a1F
 (a0z a1F
 a1F))))
theorem dq_groups {a0p:FnX} {sp:FnX} (m:At K mg "groups" "groups" (top 36) ["sides", "holds"]) (a1h:DefX P w K mg base 4 "pulls" ["sides", "holds"] (lowX K a0p)) (a0N:MonoX a0p) (len:∀ ds Q Ψ,sp ds Q Ψ->ds.length=2) (hsp:∀ ds Q Ψ,sp ds Q Ψ->a7P Ψ a0p { nx:=fun _=>Q (.v .non),rt:=Q } (a0k ["sides", "holds", "arrows", "told", "grouped", "band", "forth", "back", "group", "other"] ds)):DefX P w K mg base 5 "groups" ["sides", "holds"] (lowX K sp):=by
 have sc:FnScope ["sides", "holds", "arrows", "told", "grouped", "band", "forth", "back", "group", "other"] ["sides", "holds"] (a0d (top 36)):=by norm_cast
 refine m.okX (k:=4) (t:=fun Ψ=>a7P Ψ a0p) sc (fun f cdv A outer s H E F Ψ hr hE=>?_) len hsp
 ·
  have hS:∀ H2,a0r H H2->a0r H H2:=fun _ z=>z
  exact (a1Z (a6s (j:=2) hS hE a1h a0N (hr.mono (by decide)) (a0a (a0c 0 (pv 0)) (a0a (a0c 1 (pv 1)) a0h)) sc.nd)
 (a1Z (QS.x a1r)
 (a1Z (QS.x a1r)
 (a1Z (QS.x a1r)
 (a6e (QS.x a1r))))))
abbrev a2M (Ψ:Exn->Prop) (a0p:FnX):TSp:=
 (a0z (a5U 2 a0p (a0b (a0e 0) (a0b (a0e 1) a0m)) Ψ)
 (a0z a1F
 (a0z a1F
 (a0z a1F
 (a0z a1F
 a1F)))))
theorem a5L {a0p:FnX} {sp:FnX} (m:At K mg "there_and_back" "there_and_back" (top 37) ["sides", "holds"]) (a1h:DefX P w K mg base 4 "pulls" ["sides", "holds"] (lowX K a0p)) (a0N:MonoX a0p) (len:∀ ds Q Ψ,sp ds Q Ψ->ds.length=2) (hsp:∀ ds Q Ψ,sp ds Q Ψ->a2M Ψ a0p { nx:=fun _=>Q (.v .non),rt:=Q } (a0k ["sides", "holds", "arrows", "there", "back", "bands"] ds)):DefX P w K mg base 5 "there_and_back" ["sides", "holds"] (lowX K sp):=by
 have sc:FnScope ["sides", "holds", "arrows", "there", "back", "bands"] ["sides", "holds"] (a0d (top 37)):=by norm_cast
 refine m.okX (k:=4) (t:=fun Ψ=>a2M Ψ a0p) sc (fun f cdv A outer s H E F Ψ hr hE=>?_) len hsp
 ·
  have hS:∀ H2,a0r H H2->a0r H H2:=fun _ z=>z
  exact (a1Z (a6s (j:=2) hS hE a1h a0N (hr.mono (by decide)) (a0a (a0c 0 (pv 0)) (a0a (a0c 1 (pv 1)) a0h)) sc.nd)
 (a1Z (QS.x a1r)
 (a1Z (QS.x a1r)
 (a1Z (QS.x a1r)
 (a1Z (QS.x a1r)
 (a6e (QS.x a1r)))))))
abbrev t_free (Ψ:Exn->Prop) (a0p:FnX):TSp:=
 (a0z (a5U 2 a0p (a0b (a0e 0) (a0b (a0e 1) a0m)) Ψ)
 (a0z a1F
 a1F))
theorem dq_free {a0p:FnX} {sp:FnX} (m:At K mg "free" "free" (top 38) ["sides", "holds"]) (a1h:DefX P w K mg base 4 "pulls" ["sides", "holds"] (lowX K a0p)) (a0N:MonoX a0p) (len:∀ ds Q Ψ,sp ds Q Ψ->ds.length=2) (hsp:∀ ds Q Ψ,sp ds Q Ψ->t_free Ψ a0p { nx:=fun _=>Q (.v .non),rt:=Q } (a0k ["sides", "holds", "arrows", "band", "some"] ds)):DefX P w K mg base 5 "free" ["sides", "holds"] (lowX K sp):=by
 have sc:FnScope ["sides", "holds", "arrows", "band", "some"] ["sides", "holds"] (a0d (top 38)):=by norm_cast
 refine m.okX (k:=4) (t:=fun Ψ=>t_free Ψ a0p) sc (fun f cdv A outer s H E F Ψ hr hE=>?_) len hsp
 ·
  have hS:∀ H2,a0r H H2->a0r H H2:=fun _ z=>z
  exact (a1Z (a6s (j:=2) hS hE a1h a0N (hr.mono (by decide)) (a0a (a0c 0 (pv 0)) (a0a (a0c 1 (pv 1)) a0h)) sc.nd)
 (a1Z (QS.x a1r)
 (a6e (QS.x a1r))))
abbrev a5x (Ψ:Exn->Prop) (a0p:FnX):TSp:=
 (a0z (a5U 3 a0p (a0b (a0e 0) (a0b (eOp a1N (eSl (a0e 1) a1d (a3i (a0e 2))) (eSl (a0e 1) (a3i (eOp a1N (a0e 2) (eC (.int 1)))) a1d)) a0m)) Ψ)
 (a0z (a5U 4 a0p (a0b (a0e 0) (a0b (a3P (a0b (eOp pIx (a0e 1) (a0e 2)) a0m)) a0m)) Ψ)
 a1F))
theorem b0w {a0p:FnX} {sp:FnX} (m:At K mg "needless" "needless" (top 39) ["sides", "holds", "number"]) (a1h:DefX P w K mg base 4 "pulls" ["sides", "holds"] (lowX K a0p)) (a0N:MonoX a0p) (len:∀ ds Q Ψ,sp ds Q Ψ->ds.length=3) (hsp:∀ ds Q Ψ,sp ds Q Ψ->a5x Ψ a0p { nx:=fun _=>Q (.v .non),rt:=Q } (a0k ["sides", "holds", "number", "others", "own"] ds)):DefX P w K mg base 5 "needless" ["sides", "holds", "number"] (lowX K sp):=by
 have sc:FnScope ["sides", "holds", "number", "others", "own"] ["sides", "holds", "number"] (a0d (top 39)):=by norm_cast
 refine m.okX (k:=4) (t:=fun Ψ=>a5x Ψ a0p) sc (fun f cdv A outer s H E F Ψ hr hE=>?_) len hsp
 ·
  have hS:∀ H2,a0r H H2->a0r H H2:=fun _ z=>z
  have hu1:=a3v hr
  exact (a1Z (a6s (j:=3) hS hE a1h a0N (hr.mono (by decide)) (a0a (a0c 0 (pv 0)) (a0a (a0U a0A (a4I (a0c 1 (pv 1)) a3Z (a3Y (a0c 2 (pv 2)))) (a4I (a0c 1 (pv 1)) (a3Y (a0U a0A (a0c 2 (pv 2)) a0i)) a3Z)) a0h)) sc.nd)
 (a1Z (a6s (j:=4) hS hE a1h a0N (hr.mono (by decide)) (a0a (a0c 0 (pv 0)) (a0a (a2U (a0a (a3k hu1 (a0c 1 (pv 1)) (a0c 2 (pv 2))) a0h)) a0h)) sc.nd)
 (a6e (QS.x a1r))))
abbrev a2I:TSp:=
 (a2a 3 (eOp a1N (eOp a5Y (a0e 3) (eC (.int 2147483647))) (eOp a3h (eOp a5Y (eOp a3h (eOp a1N (eOp a5Y (a0e 2) (eC (.int 48271))) (eOp a5Y (eOp a5Y (eOp a1N (a0e 4) (eC (.int 5))) (eOp a1N (eOp a1N (a0e 4) (a0e 1)) (eC (.int 2)))) (eC (.int 69621)))) (eC (.int 2147483647))) (eC (.int 16807))) (eC (.int 2147483629)))))
abbrev a5A:TSp:=
 (a0z (a2a 2 (eC (.int 0)))
 (a0z (sIf (a1n (eOp pLt (a0e 1) (eCB a4r (a0b (a0e 0) a0m)))) (a2a 2 (eOp pIx (a0e 0) (a0e 1))) a1g)
 (a0z (sIf (eOr (a1n (eOp pLt (a0e 2) (eC (.int 0)))) (a1n (eOp pGt (a0e 2) (eOp b0X (eC (.int 10)) (eC (.int 15)))))) (a2F (a0e 2)) a1g)
 (a0z (a2a 3 (eC (.int 0)))
 (a0z (a7b (a2j (a0b (eC (.int 14)) a0m)) (gN 4) a2I)
 (a2F (a0e 3)))))))
theorem b0z {sp:Fn} (m:At K mg "_law_deep" "_law_deep" (top 41) ["_law_script", "_law_k"]) (a1o:mg "len" = none) (a0H:mg "range" = none) (len:∀ ds Q,sp ds Q->ds.length=2) (hsp:∀ ds Q,sp ds Q->a5A  { nx:=fun _=>Q (.v .non),rt:=Q } (a0k ["_law_script", "_law_k", "_law_cell", "_law_deep_here", "_law_j"] ds)):Def P w K mg base 1 "_law_deep" ["_law_script", "_law_k"] (low K sp):=by
 have sc:FnScope ["_law_script", "_law_k", "_law_cell", "_law_deep_here", "_law_j"] ["_law_script", "_law_k"] (a0d (top 41)):=by norm_cast
 refine m.okP (k:=0) (t:=a5A ) sc (fun f cdv A outer s H E hr=>?_) len hsp
 ·
  have hu1:=a3v hr
  exact (a0g (a1L (i:=2) sc.nd rfl (Or.inl rfl) a0i)
 (a0g (a6g (a1M b1g (a0c 1 (pv 1)) (a0L a2n rfl a1o boot_len (a0a (a0c 0 (pv 0)) a0h))) (a0n (a1L (i:=2) sc.nd rfl (Or.inl rfl) (a3k hu1 (a0c 0 (pv 0)) (a0c 1 (pv 1))))) a1b)
 (a0g (a6g (QW.qt (a8V (a1M b1g (a0c 2 (pv 2)) a0i) (a6B (a1M a9e (a0c 2 (pv 2)) (a0U a4J a0i a0i))))) (a0n (a1C (a0c 2 (pv 2)))) a1b)
 (a0g (a1L (i:=3) sc.nd rfl (Or.inl rfl) a0i)
 (a0g (a5g PassesOwn.never rfl (a2g rfl a0H (a0a a0i a0h)) (a7Y (i:=4) (k:=5) sc.nd rfl (Or.inl rfl)) (a0n (a1L (i:=3) sc.nd rfl (Or.inl rfl) (a0U a0A (a0U a1Y (a0c 3 (pv 3)) a0i) (a0U a0V (a0U a1Y (a0U a0V (a0U a0A (a0U a1Y (a0c 2 (pv 2)) a0i) (a0U a1Y (a0U a1Y (a0U a0A (a0c 4 (pv 4)) a0i) (a0U a0A (a0U a0A (a0c 4 (pv 4)) (a0c 1 (pv 1))) a0i)) a0i)) a0i) a0i) a0i)))))
 (a0n (a1C (a0c 3 (pv 3)))))))))
abbrev a4A:TSp:=
 (a2F (a6U (eIsi "int" (a0e 0)) (eNotV (eIsi "bool" (a0e 0)))))
theorem a9v {sp:Fn} (m:At K mg "_law_whole" "_law_whole" (top 42) ["_law_found"]) (a0f:mg "isinstance" = none) (w_int:mg "int" = none) (a7n:mg "bool" = none) (len:∀ ds Q,sp ds Q->ds.length=1) (hsp:∀ ds Q,sp ds Q->a4A  { nx:=fun _=>Q (.v .non),rt:=Q } (a0k ["_law_found"] ds)):Def P w K mg base 1 "_law_whole" ["_law_found"] (low K sp):=by
 have sc:FnScope ["_law_found"] ["_law_found"] (a0d (top 42)):=by norm_cast
 refine m.okP (k:=0) (t:=a4A ) sc (fun f cdv A outer s H E hr=>?_) len hsp
 ·
  exact (a0n (a1C (a8Z (a7X (.inl rfl) rfl a0f (a0c 0 (pv 0)) (a3q (v:=.ty "int") rfl w_int boot_int rfl)) (a7W (q_not (a7X (.inr (.inl rfl)) rfl a0f (a0c 0 (pv 0)) (a3q (v:=.ty "bool") rfl a7n boot_bool rfl)))))))
abbrev a5z:TSp:=
 (a0z (a2a 2 (eOp a1N (eC (.int 1)) (eOp a3h (a0e 1) (eOp b0X (eC (.int 10)) (eC (.int 11))))))
 (a0z (a2a 3 (eOp pSub (eOp a3h (eOp a4v (a0e 1) (eC (.int 7))) (eOp a5Y (eC (.int 2)) (eOp b0X (eC (.int 10)) (eC (.int 10))))) (eOp b0X (eC (.int 10)) (eC (.int 10)))))
 (a0z (a2a 4 (eOp a1N (eC (.int 1)) (eOp a3h (eOp a4v (a0e 1) (eC (.int 11))) (eOp b0X (eC (.int 10)) (eC (.int 10))))))
 (a2F (a4t 1 [2,4,0,3] (a2j (a0b (eCB a4r (a0b (a0e 0) a0m)) a0m)) (gN 0) a3D (a4s (a0b (eOp pSub (a0e 1) (eOp a5Y (a0e 0) (a0e 4))) (a0b (eOp a5Y (a0e 0) (a0e 2)) (a0b (eOp pIx (a0e 3) (a0e 0)) a0m)))))))))
theorem b0y {sp:Fn} (m:At K mg "_law_dirs" "_law_dirs" (top 43) ["_law_counts", "_law_cell"]) (a1o:mg "len" = none) (a0H:mg "range" = none) (len:∀ ds Q,sp ds Q->ds.length=2) (hsp:∀ ds Q,sp ds Q->a5z  { nx:=fun _=>Q (.v .non),rt:=Q } (a0k ["_law_counts", "_law_cell", "_law_a", "_law_s", "_law_t"] ds)):Def P w K mg base 1 "_law_dirs" ["_law_counts", "_law_cell"] (low K sp):=by
 have sc:FnScope ["_law_counts", "_law_cell", "_law_a", "_law_s", "_law_t"] ["_law_counts", "_law_cell"] (a0d (top 43)):=by norm_cast
 refine m.okP (k:=0) (t:=a5z ) sc (fun f cdv A outer s H E hr=>?_) len hsp
 ·
  have hu1:=a3v hr
  exact (a0g (a1L (i:=2) sc.nd rfl (Or.inr rfl) (a0U a0A a0i (a0U a0V (a0c 1 (pv 1)) (a0U a4J a0i a0i))))
 (a0g (a1L (i:=3) sc.nd rfl (Or.inr rfl) (a0U a6G (a0U a0V (a0U a2h (a0c 1 (pv 1)) a0i) (a0U a1Y a0i (a0U a4J a0i a0i))) (a0U a4J a0i a0i)))
 (a0g (a1L (i:=4) sc.nd rfl (Or.inr rfl) (a0U a0A a0i (a0U a0V (a0U a2h (a0c 1 (pv 1)) a0i) (a0U a4J a0i a0i))))
 (a0n (a1C (q_lc ["_law_k"] ["_law_a", "_law_t", "_law_counts", "_law_s"] [2,4,0,3] rfl (a2g rfl a0H (a0a (a0L a2n rfl a1o boot_len (a0a (a0c 0 (pv 0)) a0h)) a0h)) (fun fp s H=>(a7Y (i:=0) (k:=1) (show List.Nodup (["_law_k", "_law_a", "_law_t", "_law_counts", "_law_s"]:List Str) by decide +kernel) rfl (Or.inl rfl))) (fun fp s H=>a5D) (fun fp s H=>(a2T (a0a (a0U a6G (a0c 1 (pv 1)) (a0U a1Y (a0c 0 (pv 0)) (a0c 4 (pv 4)))) (a0a (a0U a1Y (a0c 0 (pv 0)) (a0c 2 (pv 2))) (a0a (a3k hu1 (a0c 3 (pv 3)) (a0c 0 (pv 0))) a0h)))))))))))
abbrev a2Z:TSp:=
 (a2a 1 (eOp a1N (a0e 1) (eOp a5Y (a3P (a0b (a0e 2) a0m)) (eOp pIx (a0e 0) (a0e 2)))))
abbrev a4C:TSp:=
 (a0z (a2a 1 (a3P a0m))
 (a0z (a7b (a2j (a0b (eCB a4r (a0b (a0e 0) a0m)) a0m)) (gN 2) a2Z)
 (a2F (a0e 1))))
theorem a9x {sp:Fn} (m:At K mg "_law_kinds" "_law_kinds" (top 44) ["_law_counts"]) (a1o:mg "len" = none) (a0H:mg "range" = none) (len:∀ ds Q,sp ds Q->ds.length=1) (hsp:∀ ds Q,sp ds Q->a4C  { nx:=fun _=>Q (.v .non),rt:=Q } (a0k ["_law_counts", "_law_kinds_here", "_law_k"] ds)):Def P w K mg base 1 "_law_kinds" ["_law_counts"] (low K sp):=by
 have sc:FnScope ["_law_counts", "_law_kinds_here", "_law_k"] ["_law_counts"] (a0d (top 44)):=by norm_cast
 refine m.okP (k:=0) (t:=a4C ) sc (fun f cdv A outer s H E hr=>?_) len hsp
 ·
  have hu1:=a3v hr
  exact (a0g (a1L (i:=1) sc.nd rfl (Or.inl rfl) (a2U a0h))
 (a0g (a5g PassesOwn.never rfl (a2g rfl a0H (a0a (a0L a2n rfl a1o boot_len (a0a (a0c 0 (pv 0)) a0h)) a0h)) (a7Y (i:=2) (k:=3) sc.nd rfl (Or.inl rfl)) (a0n (a1L (i:=1) sc.nd rfl (Or.inl rfl) (a0U a0A (a0c 1 (pv 1)) (a0U a1Y (a2U (a0a (a0c 2 (pv 2)) a0h)) (a3k hu1 (a0c 0 (pv 0)) (a0c 2 (pv 2))))))))
 (a0n (a1C (a0c 1 (pv 1))))))
abbrev a2E:TSp:=
 (a0z (a2a 5 (eOp a3h (a0e 1) (eOp a1N (a0e 3) (eC (.int 1)))))
 (a0z (a2a 1 (eOp a4v (a0e 1) (eOp a1N (a0e 3) (eC (.int 1)))))
 (a0z (sAugI 2 (a0e 4) (a0e 5))
 (sAug 3 pISub (a0e 5)))))
abbrev a3U:TSp:=
 (a0z (a5d 2 (eOp a5Y (a3P (a0b (eC (.int 1)) a0m)) (a0e 0)))
 (a0z (a2a 3 (eOp pSub (eC (.int 12)) (a0e 0)))
 (a0z (a7b (a2j (a0b (a0e 0) a0m)) (gN 4) a2E)
 (a2F (a0e 2)))))
theorem a8D {sp:Fn} (m:At K mg "_law_parted" "_law_parted" (top 45) ["_law_many", "_law_rest"]) (a0H:mg "range" = none) (len:∀ ds Q,sp ds Q->ds.length=2) (hsp:∀ ds Q,sp ds Q->a3U  { nx:=fun _=>Q (.v .non),rt:=Q } (a0k ["_law_many", "_law_rest", "_law_counts", "_law_left", "_law_k", "_law_extra"] ds)):Def P w K mg base 1 "_law_parted" ["_law_many", "_law_rest"] (low K sp):=by
 have sc:FnScope ["_law_many", "_law_rest", "_law_counts", "_law_left", "_law_k", "_law_extra"] ["_law_many", "_law_rest"] (a0d (top 45)):=by norm_cast
 refine m.okP (k:=0) (t:=a3U ) sc (fun f cdv A outer s H E hr=>?_) len hsp
 ·
  exact (a0g (a4u (i:=2) sc.nd rfl (Or.inl rfl) (a0U a1Y (a2U (a0a a0i a0h)) (a0c 0 (pv 0))))
 (a0g (a1L (i:=3) sc.nd rfl (Or.inl rfl) (a0U a6G a0i (a0c 0 (pv 0))))
 (a0g (a5g PassesOwn.never rfl (a2g rfl a0H (a0a (a0c 0 (pv 0)) a0h)) (a7Y (i:=4) (k:=6) sc.nd rfl (Or.inl rfl)) (a0g (a1L (i:=5) sc.nd rfl (Or.inl rfl) (a0U a0V (a0c 1 (pv 1)) (a0U a0A (a0c 3 (pv 3)) a0i)))
 (a0g (a1L (i:=1) sc.nd rfl (Or.inl rfl) (a0U a2h (a0c 1 (pv 1)) (a0U a0A (a0c 3 (pv 3)) a0i)))
 (a0g (q_augI (i:=2) (pv 2) (a0c 4 (pv 4)) (a0c 5 (pv 5)))
 (a0n (q_aug (i:=3) iopd_sub sc.nd rfl (Or.inl rfl) (a0c 5 (pv 5))))))))
 (a0n (a1C (a0c 2 (pv 2)))))))
abbrev a4F (K:W.Frag) (a2b a2L a4i a2K a0j a2J a1J a3p a3o a3n:Addr):TSp:=
 (a0z (a2a 1 (a3P (a0b (a5r K a2K (a0e 0)) (a0b (a5r K a4i (a0e 0)) (a0b (a5r K a2L (a0e 0)) (a0b (a5r K a2b (a0e 0)) a0m))))))
 (a0z (a2a 1 (eOp a1N (a0e 1) (a3P (a0b (a5r K a3p (a0e 0)) (a0b (a5r K a1J (a0e 0)) (a0b (a5r K a2J (a0e 0)) (a0b (a5r K a0j (a0e 0)) a0m)))))))
 (a0z (a2a 1 (eOp a1N (a0e 1) (a3P (a0b (a5r K a3n (a0e 0)) (a0b (a5r K a3o (a0e 0)) a0m)))))
 (a2F (a6U (eOp pEq (eCntT (a0e 1)) (eC (.int 1))) (eIsiV K (a0e 0)))))))
theorem a9A {a2b a2L a4i a2K a0j a2J a1J a3p a3o a3n:Addr} {sp:Fn} (m:At K mg "_law_alone" "_law_alone" (top 46) ["_law_e"]) (a0f:mg "isinstance" = none) (a3R:mg "ValueError" = none) (a5K:mg "NoThrees" = some (.ref a2b)) (a6S:mg "NoFloor" = some (.ref a2L)) (b0t:mg "NoRow" = some (.ref a4i)) (a6R:mg "NoSides" = some (.ref a2K)) (a2W:mg "NoHold" = some (.ref a0j)) (a6Q:mg "TooMany" = some (.ref a2J)) (a4M:mg "NoHeights" = some (.ref a1J)) (a8z:mg "NoFlip" = some (.ref a3p)) (a8y:mg "NoText" = some (.ref a3o)) (a8x:mg "NoTurn" = some (.ref a3n)) (len:∀ ds Q,sp ds Q->ds.length=1) (hsp:∀ ds Q,sp ds Q->a4F K a2b a2L a4i a2K a0j a2J a1J a3p a3o a3n  { nx:=fun _=>Q (.v .non),rt:=Q } (a0k ["_law_e", "_law_hits"] ds)):DefH P w K mg base 1 "_law_alone" ["_law_e"] (low K sp):=by
 have sc:FnScope ["_law_e", "_law_hits"] ["_law_e"] (a0d (top 46)):=by norm_cast
 refine m.okH (k:=0) (t:=a4F K a2b a2L a4i a2K a0j a2J a1J a3p a3o a3n ) sc (fun f cdv A outer s H E hr=>?_) len hsp
 ·
  have hu:=hr.units
  exact (a0g (a1L (i:=1) sc.nd rfl (Or.inl rfl) (a2U (a0a (a4a rfl a0f (a0c 0 (pv 0)) a6R) (a0a (a4a rfl a0f (a0c 0 (pv 0)) b0t) (a0a (a4a rfl a0f (a0c 0 (pv 0)) a6S) (a0a (a4a rfl a0f (a0c 0 (pv 0)) a5K) a0h))))))
 (a0g (a1L (i:=1) sc.nd rfl (Or.inl rfl) (a0U a0A (a0c 1 (pv 1)) (a2U (a0a (a4a rfl a0f (a0c 0 (pv 0)) a8z) (a0a (a4a rfl a0f (a0c 0 (pv 0)) a4M) (a0a (a4a rfl a0f (a0c 0 (pv 0)) a6Q) (a0a (a4a rfl a0f (a0c 0 (pv 0)) a2W) a0h)))))))
 (a0g (a1L (i:=1) sc.nd rfl (Or.inl rfl) (a0U a0A (a0c 1 (pv 1)) (a2U (a0a (a4a rfl a0f (a0c 0 (pv 0)) a8x) (a0a (a4a rfl a0f (a0c 0 (pv 0)) a8y) a0h)))))
 (a0n (a1C (a8Z (a8X (a4c hu) (q_cntT (a0c 1 (pv 1)) a8Y) a0i) (a7W (q_isiV rfl a0f (a0c 0 (pv 0)) a3R))))))))
abbrev a2Y:TSp:=
 (sIf (a1n (eOp pLt (eOp pIx (a0e 0) (a0e 2)) (eOp pIx (a0e 0) (a0e 3)))) (sApp 1 (a4s (a0b (a0e 2) (a0b (a0e 3) a0m)))) a1g)
abbrev a2X:TSp:=
 (a7b (a5I (a0b (eOp a1N (a0e 2) (eC (.int 1))) (a0b (eCB a4r (a0b (a0e 0) a0m)) a0m))) (gN 3) a2Y)
abbrev a4B:TSp:=
 (a0z (a5d 1 (a3P a0m))
 (a0z (a7b (a2j (a0b (eCB a4r (a0b (a0e 0) a0m)) a0m)) (gN 2) a2X)
 (a2F (a0e 1))))
theorem a9w {sp:Fn} (m:At K mg "_law_pairs" "_law_pairs" (top 47) ["_law_kinds_here"]) (a1o:mg "len" = none) (a0H:mg "range" = none) (len:∀ ds Q,sp ds Q->ds.length=1) (hsp:∀ ds Q,sp ds Q->a4B  { nx:=fun _=>Q (.v .non),rt:=Q } (a0k ["_law_kinds_here", "_law_pairs_here", "_law_a", "_law_b"] ds)):Def P w K mg base 1 "_law_pairs" ["_law_kinds_here"] (low K sp):=by
 have sc:FnScope ["_law_kinds_here", "_law_pairs_here", "_law_a", "_law_b"] ["_law_kinds_here"] (a0d (top 47)):=by norm_cast
 refine m.okP (k:=0) (t:=a4B ) sc (fun f cdv A outer s H E hr=>?_) len hsp
 ·
  have hu1:=a3v hr
  exact (a0g (a4u (i:=1) sc.nd rfl (Or.inl rfl) (a2U a0h))
 (a0g (a5g PassesOwn.never rfl (a2g rfl a0H (a0a (a0L a2n rfl a1o boot_len (a0a (a0c 0 (pv 0)) a0h)) a0h)) (a7Y (i:=2) (k:=4) sc.nd rfl (Or.inl rfl)) (a0n (a5g PassesOwn.never rfl (a8W rfl a0H (a0a (a0U a0A (a0c 2 (pv 2)) a0i) (a0a (a0L a2n rfl a1o boot_len (a0a (a0c 0 (pv 0)) a0h)) a0h))) (a7Y (i:=3) (k:=4) sc.nd rfl (Or.inl rfl)) (a0n (a6g (a1M b1g (a3k hu1 (a0c 0 (pv 0)) (a0c 2 (pv 2))) (a3k hu1 (a0c 0 (pv 0)) (a0c 3 (pv 3)))) (a0n (q_app (i:=1) (pv 1) (a2T (a0a (a0c 2 (pv 2)) (a0a (a0c 3 (pv 3)) a0h))))) a1b)))))
 (a0n (a1C (a0c 1 (pv 1))))))
abbrev a3a:TSp:=
 (a0z (a2a 5 (eOp a3h (a0e 1) (eOp a5Y (eC (.int 3)) (eCB a4r (a0b (a0e 0) a0m)))))
 (a0z (a2a 1 (eOp a4v (a0e 1) (eOp a5Y (eC (.int 3)) (eCB a4r (a0b (a0e 0) a0m)))))
 (sApp 3 (eOp a8g (eOp pIx (a0e 0) (eOp a4v (a0e 5) (eC (.int 3)))) (a4s (a0b (eOp pIx (a3P (a0b (eC (.str "brace")) (a0b (eC (.str "more")) (a0b (eC (.str "less")) a0m)))) (eOp a3h (a0e 5) (eC (.int 3)))) a0m))))))
abbrev a4D:TSp:=
 (a0z (a5d 3 (a3P a0m))
 (a0z (a7b (a2j (a0b (a0e 2) a0m)) (gN 4) a3a)
 (a2F (a0e 3))))
theorem a9y {sp:Fn} (m:At K mg "_law_holds" "_law_holds" (top 48) ["_law_pairs_here", "_law_cell", "_law_many"]) (a0H:mg "range" = none) (a1o:mg "len" = none) (len:∀ ds Q,sp ds Q->ds.length=3) (hsp:∀ ds Q,sp ds Q->a4D  { nx:=fun _=>Q (.v .non),rt:=Q } (a0k ["_law_pairs_here", "_law_cell", "_law_many", "_law_holds_here", "_law_k", "_law_digit"] ds)):Def P w K mg base 1 "_law_holds" ["_law_pairs_here", "_law_cell", "_law_many"] (low K sp):=by
 have sc:FnScope ["_law_pairs_here", "_law_cell", "_law_many", "_law_holds_here", "_law_k", "_law_digit"] ["_law_pairs_here", "_law_cell", "_law_many"] (a0d (top 48)):=by norm_cast
 refine m.okP (k:=0) (t:=a4D ) sc (fun f cdv A outer s H E hr=>?_) len hsp
 ·
  have hu1:=a3v hr
  exact (a0g (a4u (i:=3) sc.nd rfl (Or.inl rfl) (a2U a0h))
 (a0g (a5g PassesOwn.never rfl (a2g rfl a0H (a0a (a0c 2 (pv 2)) a0h)) (a7Y (i:=4) (k:=6) sc.nd rfl (Or.inl rfl)) (a0g (a1L (i:=5) sc.nd rfl (Or.inl rfl) (a0U a0V (a0c 1 (pv 1)) (a0U a1Y a0i (a0L a2n rfl a1o boot_len (a0a (a0c 0 (pv 0)) a0h)))))
 (a0g (a1L (i:=1) sc.nd rfl (Or.inl rfl) (a0U a2h (a0c 1 (pv 1)) (a0U a1Y a0i (a0L a2n rfl a1o boot_len (a0a (a0c 0 (pv 0)) a0h)))))
 (a0n (q_app (i:=3) (pv 3) (a0U a8h (a3k hu1 (a0c 0 (pv 0)) (a0U a2h (a0c 5 (pv 5)) a0i)) (a2T (a0a (a3k hu1 (a2U (a0a a6C (a0a a6C (a0a a6C a0h)))) (a0U a0V (a0c 5 (pv 5)) a0i)) a0h))))))))
 (a0n (a1C (a0c 3 (pv 3))))))
abbrev a3T:TSp:=
 (a0z (sAsg (a0e 0) (gT [3,4,5]))
 (a0z (a2a 6 (eOp a4v (a0e 2) (eC (.int 14))))
 (a0z (a5d 7 (a3P (a0b (a4s (a0b (a0e 4) (a0b (a0e 3) (a0b (a0e 5) a0m)))) (a0b (a4s (a0b (a0e 3) (a0b (a0e 3) (a0b (a0e 5) a0m)))) (a0b (a4s (a0b (a0e 3) (a0b (eOp a1N (eCB a4r (a0b (a0e 1) a0m)) (eOp a3h (a0e 6) (eOp b0X (eC (.int 10)) (eC (.int 30))))) (a0b (a0e 5) a0m)))) (a0b (a4s (a0b (eOp pSub (eNeg (eC (.int 1))) (eOp a3h (a0e 6) (eOp b0X (eC (.int 10)) (eC (.int 30))))) (a0b (a0e 4) (a0b (a0e 5) a0m)))) a0m))))))
 (a0z (a5d 7 (eOp a1N (a0e 7) (a3P (a0b (a4s (a0b (eC (.bl true)) (a0b (a0e 4) (a0b (a0e 5) a0m)))) (a0b (a4s (a0b (a0e 3) (a0b (eC .non) (a0b (a0e 5) a0m)))) (a0b (a4s (a0b (a0e 3) (a0b (eC (.str "1")) (a0b (a0e 5) a0m)))) (a0b (a4s (a0b (a0e 3) (a0b (a0e 4) (a0b (eUpper (a0e 5)) a0m)))) (a0b (a4s (a0b (a0e 3) (a0b (a0e 4) (a0b (eSlS (eC (.str "braces")) (a3i (eOp a3h (a0e 6) (eC (.int 6)))) a1d) a0m)))) a0m))))))))
 (a0z (a5d 7 (eOp a1N (a0e 7) (a3P (a0b (a4s (a0b (a0e 3) (a0b (a0e 4) a0m))) (a0b (eOp a8g (a0e 0) (a4s (a0b (a0e 5) a0m))) (a0b (a4s a0m) (a0b (a4s (a0b (a0e 5) (a0b (a0e 3) (a0b (a0e 4) a0m)))) a0m)))))))
 (a0z (a2a 8 (a4t 1 [1,3] (a2j (a0b (eCB a4r (a0b (a0e 1) a0m)) a0m)) (gN 0) (a1n (eOp pEq (eOp pIx (a0e 1) (a0e 0)) (eOp pIx (a0e 1) (a0e 2)))) (a0e 0)))
 (a0z (sApp 7 (a4s (a0b (eOp pIx (a0e 8) (eC (.int 0))) (a0b (eOp pIx (a0e 8) (eNeg (eC (.int 1)))) (a0b (a0e 5) a0m)))))
 (a2F (eOp pIx (a0e 7) (eOp a3h (a0e 2) (eC (.int 14))))))))))))
theorem a8C {sp:Fn} (m:At K mg "_law_spoilt" "_law_spoilt" (top 49) ["_law_hold", "_law_kinds_here", "_law_cell"]) (a1o:mg "len" = none) (a0H:mg "range" = none) (len:∀ ds Q,sp ds Q->ds.length=3) (hsp:∀ ds Q,sp ds Q->a3T  { nx:=fun _=>Q (.v .non),rt:=Q } (a0k ["_law_hold", "_law_kinds_here", "_law_cell", "_law_a", "_law_b", "_law_word", "_law_rest", "_law_some", "_law_alike"] ds)):Def P w K mg base 1 "_law_spoilt" ["_law_hold", "_law_kinds_here", "_law_cell"] (low K sp):=by
 have sc:FnScope ["_law_hold", "_law_kinds_here", "_law_cell", "_law_a", "_law_b", "_law_word", "_law_rest", "_law_some", "_law_alike"] ["_law_hold", "_law_kinds_here", "_law_cell"] (a0d (top 49)):=by norm_cast
 refine m.okP (k:=0) (t:=a3T ) sc (fun f cdv A outer s H E hr=>?_) len hsp
 ·
  have hu:=hr.units
  have hu1:=a3v hr
  exact (a0g (q_asg (a0c 0 (pv 0)) (q_gT (k:=9) (is:=[3,4,5]) rfl (a2D (a3f (i:=3) sc.nd rfl (Or.inr rfl)) (a2D (a3f (i:=4) sc.nd rfl (Or.inl rfl)) (a2D (a3f (i:=5) sc.nd rfl (Or.inl rfl)) a8c)))))
 (a0g (a1L (i:=6) sc.nd rfl (Or.inl rfl) (a0U a2h (a0c 2 (pv 2)) a0i))
 (a0g (a4u (i:=7) sc.nd rfl (Or.inl rfl) (a2U (a0a (a2T (a0a (a0c 4 (pv 4)) (a0a (a0c 3 (pv 3)) (a0a (a0c 5 (pv 5)) a0h)))) (a0a (a2T (a0a (a0c 3 (pv 3)) (a0a (a0c 3 (pv 3)) (a0a (a0c 5 (pv 5)) a0h)))) (a0a (a2T (a0a (a0c 3 (pv 3)) (a0a (a0U a0A (a0L a2n rfl a1o boot_len (a0a (a0c 1 (pv 1)) a0h)) (a0U a0V (a0c 6 (pv 6)) (a0U a4J a0i a0i))) (a0a (a0c 5 (pv 5)) a0h)))) (a0a (a2T (a0a (a0U a6G (q_neg a0i) (a0U a0V (a0c 6 (pv 6)) (a0U a4J a0i a0i))) (a0a (a0c 4 (pv 4)) (a0a (a0c 5 (pv 5)) a0h)))) a0h))))))
 (a0g (a4u (i:=7) sc.nd rfl (Or.inl rfl) (a0U a0A (a0c 7 (pv 7)) (a2U (a0a (a2T (a0a a8Y (a0a (a0c 4 (pv 4)) (a0a (a0c 5 (pv 5)) a0h)))) (a0a (a2T (a0a (a0c 3 (pv 3)) (a0a q_non (a0a (a0c 5 (pv 5)) a0h)))) (a0a (a2T (a0a (a0c 3 (pv 3)) (a0a a6C (a0a (a0c 5 (pv 5)) a0h)))) (a0a (a2T (a0a (a0c 3 (pv 3)) (a0a (a0c 4 (pv 4)) (a0a (q_upper (a0c 5 (pv 5))) a0h)))) (a0a (a2T (a0a (a0c 3 (pv 3)) (a0a (a0c 4 (pv 4)) (a0a (q_sliceS a6C (a3Y (a0U a0V (a0c 6 (pv 6)) a0i)) a3Z) a0h)))) a0h))))))))
 (a0g (a4u (i:=7) sc.nd rfl (Or.inl rfl) (a0U a0A (a0c 7 (pv 7)) (a2U (a0a (a2T (a0a (a0c 3 (pv 3)) (a0a (a0c 4 (pv 4)) a0h))) (a0a (a0U a8h (a0c 0 (pv 0)) (a2T (a0a (a0c 5 (pv 5)) a0h))) (a0a (a2T a0h) (a0a (a2T (a0a (a0c 5 (pv 5)) (a0a (a0c 3 (pv 3)) (a0a (a0c 4 (pv 4)) a0h)))) a0h)))))))
 (a0g (q_setX (q_lcX (iy:=8) ["_law_k"] ["_law_kinds_here", "_law_a"] [1,3] sc.nd rfl (Or.inl rfl) rfl (a2g rfl a0H (a0a (a0L a2n rfl a1o boot_len (a0a (a0c 1 (pv 1)) a0h)) a0h)) (fun fp s H=>(a7Y (i:=0) (k:=1) (show List.Nodup (["_law_k", "_law_kinds_here", "_law_a"]:List Str) by decide +kernel) rfl (Or.inl rfl))) (fun fp s H=>(qts_one (a1M (a4c hu) (a3k hu1 (a0c 1 (pv 1)) (a0c 0 (pv 0))) (a3k hu1 (a0c 1 (pv 1)) (a0c 2 (pv 2)))))) (fun fp s H=>(a0c 0 (pv 0)))))
 (a0g (q_app (i:=7) (pv 7) (a2T (a0a (a3k hu1 (a0c 8 (pv 8)) a0i) (a0a (a3k hu1 (a0c 8 (pv 8)) (q_neg a0i)) (a0a (a0c 5 (pv 5)) a0h)))))
 (a0n (a1C (a3k hu1 (a0c 7 (pv 7)) (a0U a0V (a0c 2 (pv 2)) a0i)))))))))))
abbrev a3L:TSp:=
 (a0z (sIf (a1n (eOp pNe (a0e 4) (eC (.str "less")))) (sPut 1 (a4s (a0b (a0e 2) (a0b (a0e 3) a0m))) (eC (.bl true))) a1g)
 (sIf (a1n (eOp pNe (a0e 4) (eC (.str "more")))) (sPut 1 (a4s (a0b (a0e 3) (a0b (a0e 2) a0m))) (eC (.bl true))) a1g))
abbrev a6t:TSp:=
 (a0z (a5d 1 eDT)
 (a0z (a7b (b0q (a0e 0)) (gT [2,3,4]) a3L)
 (a2F (eCB a3g (a0b (a0e 1) a0m)))))
theorem dq_law_due {sp:Fn} (m:At K mg "_law_due" "_law_due" (top 50) ["_law_holds_here"]) (a4j:mg "sorted" = none) (len:∀ ds Q,sp ds Q->ds.length=1) (hsp:∀ ds Q,sp ds Q->a6t  { nx:=fun _=>Q (.v .non),rt:=Q } (a0k ["_law_holds_here", "_law_found", "_law_a", "_law_b", "_law_word"] ds)):Def P w K mg base 1 "_law_due" ["_law_holds_here"] (low K sp):=by
 have sc:FnScope ["_law_holds_here", "_law_found", "_law_a", "_law_b", "_law_word"] ["_law_holds_here"] (a0d (top 50)):=by norm_cast
 refine m.okP (k:=0) (t:=a6t ) sc (fun f cdv A outer s H E hr=>?_) len hsp
 ·
  have hu:=hr.units
  have hu1:=a3v hr
  exact (a0g (a4u (i:=1) sc.nd rfl (Or.inl rfl) q_dnewT)
 (a0g (a5g PassesOwn.never rfl (a5f (a0c 0 (pv 0))) (q_gT (k:=5) (is:=[2,3,4]) rfl (a2D (a3f (i:=2) sc.nd rfl (Or.inl rfl)) (a2D (a3f (i:=3) sc.nd rfl (Or.inl rfl)) (a2D (a3f (i:=4) sc.nd rfl (Or.inl rfl)) a8c)))) (a0g (a6g (a1M (a5Z hu) (a0c 4 (pv 4)) a6C) (a0n (q_put hu1 (i:=1) (pv 1) (a2T (a0a (a0c 2 (pv 2)) (a0a (a0c 3 (pv 3)) a0h))) a8Y)) a1b)
 (a0n (a6g (a1M (a5Z hu) (a0c 4 (pv 4)) a6C) (a0n (q_put hu1 (i:=1) (pv 1) (a2T (a0a (a0c 3 (pv 3)) (a0a (a0c 2 (pv 2)) a0h))) a8Y)) a1b))))
 (a0n (a1C (a0L (a6Y rfl) rfl a4j boot_sorted (a0a (a0c 1 (pv 1)) a0h))))))
abbrev a3m (a1w:Fn):TSp:=
 (sIf (eOr (a6T (a7c (eIsi "tuple" (a0e 2)))) (eOr (a6T (a7c (a0B a1w (a0b (eOp pIx (a0e 2) (eC (.int 0))) a0m)))) (a6T (a7c (a0B a1w (a0b (eOp pIx (a0e 2) (eC (.int 1))) a0m)))))) (a2F (eC (.bl false))) a1g)
abbrev a5y (a1w:Fn):TSp:=
 (a0z (sIf (eOr (a6T (a7c (eIsi "list" (a0e 0)))) (a1n (eOp pNe (a0e 0) (a0e 1)))) (a2F (eC (.bl false))) a1g)
 (a0z (a7b (b0q (a0e 0)) (gN 2) (a3m a1w))
 (a2F (eC (.bl true)))))
theorem b0x {a1w:Fn} {sp:Fn} (m:At K mg "_law_good" "_law_good" (top 51) ["_law_told", "_law_due_here"]) (a0f:mg "isinstance" = none) (a4X:mg "list" = none) (a2q:mg "tuple" = none) (a3I:Def P w K mg base 1 "_law_whole" ["_law_found"] (low K a1w)) (a6b:MonoF a1w) (len:∀ ds Q,sp ds Q->ds.length=2) (hsp:∀ ds Q,sp ds Q->a5y a1w { nx:=fun _=>Q (.v .non),rt:=Q } (a0k ["_law_told", "_law_due_here", "_law_part"] ds)):Def P w K mg base 2 "_law_good" ["_law_told", "_law_due_here"] (low K sp):=by
 have sc:FnScope ["_law_told", "_law_due_here", "_law_part"] ["_law_told", "_law_due_here"] (a0d (top 51)):=by norm_cast
 refine m.okP (k:=1) (t:=a5y a1w) sc (fun f cdv A outer s H E hr=>?_) len hsp
 ·
  have hu:=hr.units
  have hu1:=a3v hr
  exact (a0g (a6g (QW.qt (a8V (a2o (a2G (a7X (.inr (.inr (.inr (.inl rfl)))) rfl a0f (a0c 0 (pv 0)) (a3q (v:=.ty "list") rfl a4X boot_list rfl)))) (a6B (a1M (a5Z hu) (a0c 0 (pv 0)) (a0c 1 (pv 1)))))) (a0n (a1C a8Y)) a1b)
 (a0g (a5g PassesOwn.never rfl (a5f (a0c 0 (pv 0))) (a7Y (i:=2) (k:=3) sc.nd rfl (Or.inl rfl)) (a0n (a6g (QW.qt (a8V (a2o (a2G (a7X (.inr (.inr (.inl rfl))) rfl a0f (a0c 2 (pv 2)) (a3q (v:=.ty "tuple") rfl a2q boot_tuple rfl)))) (a8V (a2o (a2G (a0M a3I a6b (hr.mono (by decide)) (a0a (a3k hu1 (a0c 2 (pv 2)) a0i) a0h)))) (a6B (a2o (a2G (a0M a3I a6b (hr.mono (by decide)) (a0a (a3k hu1 (a0c 2 (pv 2)) a0i) a0h)))))))) (a0n (a1C a8Y)) a1b)))
 (a0n (a1C a8Y))))
abbrev a4E (Ψ:Exn->Prop) (a0p a4p a1f a7K a3c:FnX):TSp:=
 (a0z (sIf (a1n (eOp pEq (a0e 2) (eC (.int 0)))) (a2F (a6d a0p (a0b (a0e 0) (a0b (a0e 1) a0m)) Ψ)) a1g)
 (a0z (sIf (a1n (eOp pEq (a0e 2) (eC (.int 1)))) (a2F (a6d a4p (a0b (a0e 0) (a0b (a0e 1) a0m)) Ψ)) a1g)
 (a0z (sIf (a1n (eOp pEq (a0e 2) (eC (.int 2)))) (a2F (a6d a1f (a0b (a0e 0) (a0b (a0e 1) a0m)) Ψ)) a1g)
 (a0z (sIf (a1n (eOp pEq (a0e 2) (eC (.int 3)))) (a2F (a6d a7K (a0b (a0e 0) (a0b (a0e 1) a0m)) Ψ)) a1g)
 (a2F (a6d a3c (a0b (a0e 0) (a0b (a0e 1) (a0b (a0e 3) a0m))) Ψ))))))
theorem a9z {a0p a4p a1f a7K a3c:FnX} {sp:FnX} (m:At K mg "_law_asked" "_law_asked" (top 52) ["_law_sides", "_law_holds_here", "_law_door", "_law_at"]) (a1h:DefX P w K mg base 4 "pulls" ["sides", "holds"] (lowX K a0p)) (a0N:MonoX a0p) (a8F:DefX P w K mg base 5 "groups" ["sides", "holds"] (lowX K a4p)) (mo_groups:MonoX a4p) (a2P:DefX P w K mg base 5 "there_and_back" ["sides", "holds"] (lowX K a1f)) (a5H:MonoX a1f) (d_free:DefX P w K mg base 5 "free" ["sides", "holds"] (lowX K a7K)) (mo_free:MonoX a7K) (a5N:DefX P w K mg base 5 "needless" ["sides", "holds", "number"] (lowX K a3c)) (b0j:MonoX a3c) (len:∀ ds Q Ψ,sp ds Q Ψ->ds.length=4) (hsp:∀ ds Q Ψ,sp ds Q Ψ->a4E Ψ a0p a4p a1f a7K a3c { nx:=fun _=>Q (.v .non),rt:=Q } (a0k ["_law_sides", "_law_holds_here", "_law_door", "_law_at"] ds)):DefX P w K mg base 6 "_law_asked" ["_law_sides", "_law_holds_here", "_law_door", "_law_at"] (lowX K sp):=by
 have sc:FnScope ["_law_sides", "_law_holds_here", "_law_door", "_law_at"] ["_law_sides", "_law_holds_here", "_law_door", "_law_at"] (a0d (top 52)):=by norm_cast
 refine m.okX (k:=5) (t:=fun Ψ=>a4E Ψ a0p a4p a1f a7K a3c) sc (fun f cdv A outer s H E F Ψ hr hE=>?_) len hsp
 ·
  have hS:∀ H2,a0r H H2->a0r H H2:=fun _ z=>z
  have hu:=hr.units
  exact (a1Z (x_if (a1M (a4c hu) (a0c 2 (pv 2)) a0i) (a6e (x_ret (a6r hS hE a1h a0N (hr.mono (by decide)) (a0a (a0c 0 (pv 0)) (a0a (a0c 1 (pv 1)) a0h))))) (QSs.x a1b))
 (a1Z (x_if (a1M (a4c hu) (a0c 2 (pv 2)) a0i) (a6e (x_ret (a6r hS hE a8F mo_groups (hr.mono (by decide)) (a0a (a0c 0 (pv 0)) (a0a (a0c 1 (pv 1)) a0h))))) (QSs.x a1b))
 (a1Z (x_if (a1M (a4c hu) (a0c 2 (pv 2)) a0i) (a6e (x_ret (a6r hS hE a2P a5H (hr.mono (by decide)) (a0a (a0c 0 (pv 0)) (a0a (a0c 1 (pv 1)) a0h))))) (QSs.x a1b))
 (a1Z (x_if (a1M (a4c hu) (a0c 2 (pv 2)) a0i) (a6e (x_ret (a6r hS hE d_free mo_free (hr.mono (by decide)) (a0a (a0c 0 (pv 0)) (a0a (a0c 1 (pv 1)) a0h))))) (QSs.x a1b))
 (a6e (x_ret (a6r hS hE a5N b0j (hr.mono (by decide)) (a0a (a0c 0 (pv 0)) (a0a (a0c 1 (pv 1)) (a0a (a0c 3 (pv 3)) a0h))))))))))
abbrev a3C (K:W.Frag) (a1t a0j:Addr) (a2A:Fn) (a2z:FnX):TSp:=
 (a0z (sTry a0j 4 a2z (a0b (a0e 0) (a0b (a0e 1) (a0b (a0e 2) (a0b (a0e 3) a0m)))) (a2F (a6U (a5r K a0j (a0e 4)) (a0B a2A (a0b (a0e 4) a0m)))) a1g)
 (a2F (eC (.bl false))))
theorem a7i {a2A:Fn} {a2z:FnX} {a1t a0j:Addr} {sp:Fn} (m:At K mg "_law_refused" "_law_refused" (top 53) ["_law_sides", "_law_holds_here", "_law_door", "_law_at"]) (a0f:mg "isinstance" = none) (a4e:mg "SlantError" = some (.ref a1t)) (x_NoHold_SlantError:W.exmOne K (.ref a0j) (.ref a1t)=some true) (a2W:mg "NoHold" = some (.ref a0j)) (a4U:DefX P w K mg base 6 "_law_asked" ["_law_sides", "_law_holds_here", "_law_door", "_law_at"] (lowX K a2z)) (a9l:MonoX a2z) (a4V:DefH P w K mg base 1 "_law_alone" ["_law_e"] (low K a2A)) (a9m:MonoF a2A) (len:∀ ds Q,sp ds Q->ds.length=4) (hsp:∀ ds Q,sp ds Q->a3C K a1t a0j a2A a2z { nx:=fun _=>Q (.v .non),rt:=Q } (a0k ["_law_sides", "_law_holds_here", "_law_door", "_law_at", "_law_e"] ds)):Def P w K mg base 7 "_law_refused" ["_law_sides", "_law_holds_here", "_law_door", "_law_at"] (low K sp):=by
 have sc:FnScope ["_law_sides", "_law_holds_here", "_law_door", "_law_at", "_law_e"] ["_law_sides", "_law_holds_here", "_law_door", "_law_at"] (a0d (top 53)):=by norm_cast
 refine m.okP (k:=6) (t:=a3C K a1t a0j a2A a2z) sc (fun f cdv A outer s H E hr=>?_) len hsp
 ·
  exact (a0g (q_try (i:=4) (fun _ _ z=>z) a4U a9l (hr.mono (by decide)) (a0a (a0c 0 (pv 0)) (a0a (a0c 1 (pv 1)) (a0a (a0c 2 (pv 2)) (a0a (a0c 3 (pv 3)) a0h)))) sc.nd a4e x_NoHold_SlantError (fun a=>(a0n (a1C (a8Z (a4a rfl a0f (a0c 4 (pv 4)) a2W) (a7W (q_callH a4V a9m (Room.inx (hr.mono (by decide)) _) (a0a (a0c 4 (pv 4)) a0h))))))) a1b)
 (a0n (a1C a8Y)))
abbrev a5P (a0D a0Y a1k a1B a1j a1l a3j a1I a1s a0X a0J a3r:Fn):TSp:=
 (sIf (a6T (a7c (a0B a0J (a0b (a0e 4) (a0b (a0e 8) (a0b (a0e 15) (a0b (eOp pIx (a3P (a0b (a0e 14) (a0b (eC (.int 0)) (a0b (eCB a4r (a0b (a0e 7) a0m)) a0m)))) (eOp a3h (a0e 11) (eC (.int 3)))) a0m))))))) (a2F (eC (.bl false))) a1g)
abbrev b0E (a0D a0Y a1k a1B a1j a1l a3j a1I a1s a0X a0J a3r:Fn):TSp:=
 (a0z (a2a 12 (eOp a1N (a0e 7) (a3P (a0b (eOp a8g (eOp pIx (a0e 5) (eOp a3h (eOp pIx (a0e 10) (a0e 11)) (eCB a4r (a0b (a0e 5) a0m)))) (a4s (a0b (eC (.str "more")) a0m))) a0m))))
 (a0z (a2a 13 (a0B a0X (a0b (eOp pIx (a0e 12) (eOp a3h (eOp a4v (eOp pIx (a0e 10) (a0e 11)) (eC (.int 5))) (eCB a4r (a0b (a0e 12) a0m)))) (a0b (a0e 3) (a0b (eOp a1N (eOp pIx (a0e 10) (a0e 11)) (a0e 11)) a0m)))))
 (a0z (a2a 14 (eOp a3h (eOp a4v (eOp pIx (a0e 10) (a0e 11)) (eC (.int 3))) (eOp a1N (eCB a4r (a0b (a0e 7) a0m)) (eC (.int 1)))))
 (a0z (a2a 8 (eOp a1N (eOp a1N (eSl (a0e 7) a1d (a3i (a0e 14))) (a3P (a0b (a0e 13) a0m))) (eSl (a0e 7) (a3i (a0e 14)) a1d)))
 (a0z (a7b (b0q (a3P (a0b (eC (.int 0)) (a0b (eOp a1N (eC (.int 1)) (eOp a3h (a0e 11) (eC (.int 4)))) (a0b (eC (.int 4)) a0m))))) (gN 15) (a5P a0D a0Y a1k a1B a1j a1l a3j a1I a1s a0X a0J a3r))
 (sIf (a1n (eOp pNe (a0e 8) (eOp a1N (eOp a1N (eSl (a0e 7) a1d (a3i (a0e 14))) (a3P (a0b (a0e 13) a0m))) (eSl (a0e 7) (a3i (a0e 14)) a1d)))) (a2F (eC (.bl false))) a1g))))))
abbrev t_law (a0D a0Y a1k a1B a1j a1l a3j a1I a1s a0X a0J a3r:Fn):TSp:=
 (a0z (a2a 1 (a0B a0D (a0b (a0e 0) (a0b (eC (.int 0)) a0m))))
 (a0z (a2a 2 (a4t 1 [1] (a2j (a0b (eOp a1N (eC (.int 2)) (eOp a3h (a0e 1) (eC (.int 5)))) a0m)) (gN 0) a3D (eOp a1N (eC (.int 1)) (eOp a3h (eOp a4v (a0e 1) (eOp a1N (eC (.int 5)) (a0e 0))) (eC (.int 2))))))
 (a0z (sIf (a1n (eOp pEq (eOp a3h (eOp a4v (a0e 1) (eC (.int 64))) (eC (.int 4))) (eC (.int 1)))) (a2a 2 (a0B a0Y (a0b (eOp a1N (eC (.int 2)) (eOp a3h (a0e 1) (eC (.int 5)))) (a0b (eOp a4v (a0e 1) (eC (.int 256))) a0m)))) a1g)
 (a0z (a2a 3 (a0B a1k (a0b (a0e 2) a0m)))
 (a0z (a2a 4 (eMake a3r (a0b (a0B a1B (a0b (a0e 2) (a0b (a0B a0D (a0b (a0e 0) (a0b (eC (.int 1)) a0m))) a0m))) a0m)))
 (a0z (a2a 5 (a0B a1j (a0b (a0e 3) a0m)))
 (a0z (a2a 6 (eOp a3h (a0B a0D (a0b (a0e 0) (a0b (eC (.int 2)) a0m))) (eC (.int 21))))
 (a0z (sIf (a1n (eOp pEq (eOp a3h (eOp a4v (a0B a0D (a0b (a0e 0) (a0b (eC (.int 2)) a0m))) (eC (.int 21))) (eC (.int 4))) (eC (.int 1)))) (a2a 6 (eOp a3h (eOp a4v (a0B a0D (a0b (a0e 0) (a0b (eC (.int 2)) a0m))) (eC (.int 84))) (eC (.int 60)))) a1g)
 (a0z (a2a 7 (a0B a1l (a0b (a0e 5) (a0b (a0B a0D (a0b (a0e 0) (a0b (eC (.int 3)) a0m))) (a0b (a0e 6) a0m)))))
 (a0z (a2a 8 (eCB b0g (a0b (a0e 7) a0m)))
 (a0z (a5d 9 (a0B a3j (a0b (a0e 4) (a0b (a0e 8) a0m))))
 (a0z (sIf (eOr (a6T (a7c (a0B a1s (a0b (a0e 9) (a0b (a0B a1I (a0b (a0e 7) a0m)) a0m))))) (a1n (eOp pNe (a0e 8) (a0e 7)))) (a2F (eC (.bl false))) a1g)
 (a0z (sApp 9 (a4s (a0b (eC (.int 0)) (a0b (eC (.int 0)) a0m))))
 (a0z (sIf (a6T (a7c (a0B a1s (a0b (a0B a3j (a0b (a0e 4) (a0b (a0e 8) a0m))) (a0b (a0B a1I (a0b (a0e 7) a0m)) a0m))))) (a2F (eC (.bl false))) a1g)
 (a0z (a2a 10 (eOp a1N (a4t 1 [0] (a5I (a0b (eC (.int 4)) (a0b (eCB pMin2 (a0b (eC (.int 34)) (a0b (eCB a4r (a0b (a0e 0) a0m)) a0m))) a0m))) (gN 0) a3D (a0B a0D (a0b (a0e 1) (a0b (a0e 0) a0m)))) (a3P (a0b (eOp a4v (a0B a0D (a0b (a0e 0) (a0b (eC (.int 4)) a0m))) (eC (.int 3))) a0m))))
 (a0z (a7b (a2j (a0b (eCB a4r (a0b (a0e 10) a0m)) a0m)) (gN 11) (b0E a0D a0Y a1k a1B a1j a1l a3j a1I a1s a0X a0J a3r))
 (a2F (eC (.bl true)))))))))))))))))))
theorem dq_law {C:Addr} {a0D a0Y a1k a1B a1j a1l a3j a1I a1s a0X a0J a3r:Fn} {sp:Fn} {fL:Addr} {fdL:FuncData} (F:Fun K "law" "law" (top 54) fL fdL) (a0H:mg "range" = none) (a4X:mg "list" = none) (a1o:mg "len" = none) (w_min:mg "min" = none) (a1z:Def P w K mg base 1 "_law_deep" ["_law_script", "_law_k"] (low K a0D)) (a1H:MonoF a0D) (a4g:Def P w K mg base 1 "_law_parted" ["_law_many", "_law_rest"] (low K a0Y)) (a8n:MonoF a0Y) (a4S:Def P w K mg base 1 "_law_kinds" ["_law_counts"] (low K a1k)) (a9j:MonoF a1k) (a5O:Def P w K mg base 1 "_law_dirs" ["_law_counts", "_law_cell"] (low K a1B)) (b0l:MonoF a1B) (a4R:Def P w K mg base 1 "_law_pairs" ["_law_kinds_here"] (low K a1j)) (a9i:MonoF a1j) (a4T:Def P w K mg base 1 "_law_holds" ["_law_pairs_here", "_law_cell", "_law_many"] (low K a1l)) (a9k:MonoF a1l) (a8E:Def P w K mg base 4 "pulls" ["sides", "holds"] (low K a3j)) (b1j:MonoF a3j) (a5u:Def P w K mg base 1 "_law_due" ["_law_holds_here"] (low K a1I)) (a7z:MonoF a1I) (a4n:Def P w K mg base 2 "_law_good" ["_law_told", "_law_due_here"] (low K a1s)) (a6H:MonoF a1s) (a4f:Def P w K mg base 1 "_law_spoilt" ["_law_hold", "_law_kinds_here", "_law_cell"] (low K a0X)) (a8m:MonoF a0X) (a3J:Def P w K mg base 7 "_law_refused" ["_law_sides", "_law_holds_here", "_law_door", "_law_at"] (low K a0J)) (a7g:MonoF a0J) (b0C:IDef P w K mg base 5 "Sides" C ["self", "directions"] a3r) (mo_Sides:MonoF a3r) (len:∀ ds Q,sp ds Q->ds.length=1) (hsp:∀ ds Q,sp ds Q->t_law a0D a0Y a1k a1B a1j a1l a3j a1I a1s a0X a0J a3r { nx:=fun _=>Q (.v .non),rt:=Q } (a0k ["_law_script", "_law_cell", "_law_counts", "_law_kinds_here", "_law_sides", "_law_pairs_here", "_law_many", "_law_holds_here", "_law_handed", "_law_told", "_law_cells", "_law_k", "_law_some", "_law_bad", "_law_at", "_law_door"] ds)):FnOk P w K mg base CX0 8 fL fdL ["_law_script"] (low K sp):=by
 have sc:FnScope ["_law_script", "_law_cell", "_law_counts", "_law_kinds_here", "_law_sides", "_law_pairs_here", "_law_many", "_law_holds_here", "_law_handed", "_law_told", "_law_cells", "_law_k", "_law_some", "_law_bad", "_law_at", "_law_door"] ["_law_script"] (a0d (top 54)):=by norm_cast
 refine F.ok (k:=7) sc (a8p len) fun cdv A outer s H vs Q E hr qq=>a8J (N:=["_law_script", "_law_cell", "_law_counts", "_law_kinds_here", "_law_sides", "_law_pairs_here", "_law_many", "_law_holds_here", "_law_handed", "_law_told", "_law_cells", "_law_k", "_law_some", "_law_bad", "_law_at", "_law_door"]) (t:=t_law a0D a0Y a1k a1B a1j a1l a3j a1I a1s a0X a0J a3r) ?_ hsp qq
 ·
  have hu:=hr.units
  have hu1:=a3v hr
  exact (a0g (a1L (i:=1) sc.nd rfl (Or.inr rfl) (a0M a1z a1H (hr.mono (by decide)) (a0a (a0c 0 (pv 0)) (a0a a0i a0h))))
 (a0g (q_setX (q_lcX (iy:=2) ["_law_k"] ["_law_cell"] [1] sc.nd rfl (Or.inl rfl) rfl (a2g rfl a0H (a0a (a0U a0A a0i (a0U a0V (a0c 1 (pv 1)) a0i)) a0h)) (fun fp s H=>(a7Y (i:=0) (k:=1) (show List.Nodup (["_law_k", "_law_cell"]:List Str) by decide +kernel) rfl (Or.inl rfl))) (fun fp s H=>a5D) (fun fp s H=>(a0U a0A a0i (a0U a0V (a0U a2h (a0c 1 (pv 1)) (a0U a0A a0i (a0c 0 (pv 0)))) a0i)))))
 (a0g (a6g (a1M (a4c hu) (a0U a0V (a0U a2h (a0c 1 (pv 1)) a0i) a0i) a0i) (a0n (a1L (i:=2) sc.nd rfl (Or.inl rfl) (a0M a4g a8n (hr.mono (by decide)) (a0a (a0U a0A a0i (a0U a0V (a0c 1 (pv 1)) a0i)) (a0a (a0U a2h (a0c 1 (pv 1)) a0i) a0h))))) a1b)
 (a0g (a1L (i:=3) sc.nd rfl (Or.inl rfl) (a0M a4S a9j (hr.mono (by decide)) (a0a (a0c 2 (pv 2)) a0h)))
 (a0g (a1L (i:=4) sc.nd rfl (Or.inl rfl) (q_make b0C mo_Sides (hr.mono (by decide)) (a0a (a0M a5O b0l (hr.mono (by decide)) (a0a (a0c 2 (pv 2)) (a0a (a0M a1z a1H (hr.mono (by decide)) (a0a (a0c 0 (pv 0)) (a0a a0i a0h))) a0h))) a0h)))
 (a0g (a1L (i:=5) sc.nd rfl (Or.inl rfl) (a0M a4R a9i (hr.mono (by decide)) (a0a (a0c 3 (pv 3)) a0h)))
 (a0g (a1L (i:=6) sc.nd rfl (Or.inl rfl) (a0U a0V (a0M a1z a1H (hr.mono (by decide)) (a0a (a0c 0 (pv 0)) (a0a a0i a0h))) a0i))
 (a0g (a6g (a1M (a4c hu) (a0U a0V (a0U a2h (a0M a1z a1H (hr.mono (by decide)) (a0a (a0c 0 (pv 0)) (a0a a0i a0h))) a0i) a0i) a0i) (a0n (a1L (i:=6) sc.nd rfl (Or.inl rfl) (a0U a0V (a0U a2h (a0M a1z a1H (hr.mono (by decide)) (a0a (a0c 0 (pv 0)) (a0a a0i a0h))) a0i) a0i))) a1b)
 (a0g (a1L (i:=7) sc.nd rfl (Or.inl rfl) (a0M a4T a9k (hr.mono (by decide)) (a0a (a0c 5 (pv 5)) (a0a (a0M a1z a1H (hr.mono (by decide)) (a0a (a0c 0 (pv 0)) (a0a a0i a0h))) (a0a (a0c 6 (pv 6)) a0h)))))
 (a0g (a1L (i:=8) sc.nd rfl (Or.inl rfl) (a7Z cd_list rfl a4X boot_list (a0a (a0c 7 (pv 7)) a0h)))
 (a0g (a4u (i:=9) sc.nd rfl (Or.inl rfl) (a0M a8E b1j (hr.mono (by decide)) (a0a (a0c 4 (pv 4)) (a0a (a0c 8 (pv 8)) a0h))))
 (a0g (a6g (QW.qt (a8V (a2o (a2G (a0M a4n a6H (hr.mono (by decide)) (a0a (a0c 9 (pv 9)) (a0a (a0M a5u a7z (hr.mono (by decide)) (a0a (a0c 7 (pv 7)) a0h)) a0h))))) (a6B (a1M (a5Z hu) (a0c 8 (pv 8)) (a0c 7 (pv 7)))))) (a0n (a1C a8Y)) a1b)
 (a0g (q_app (i:=9) (pv 9) (a2T (a0a a0i (a0a a0i a0h))))
 (a0g (a6g (a2o (a2G (a0M a4n a6H (hr.mono (by decide)) (a0a (a0M a8E b1j (hr.mono (by decide)) (a0a (a0c 4 (pv 4)) (a0a (a0c 8 (pv 8)) a0h))) (a0a (a0M a5u a7z (hr.mono (by decide)) (a0a (a0c 7 (pv 7)) a0h)) a0h))))) (a0n (a1C a8Y)) a1b)
 (a0g (a1L (i:=10) sc.nd rfl (Or.inl rfl) (a0U a0A (q_lc ["_law_k"] ["_law_script"] [0] rfl (a8W rfl a0H (a0a a0i (a0a (a0L (cd_min2 rfl) rfl w_min boot_min (a0a a0i (a0a (a0L a2n rfl a1o boot_len (a0a (a0c 0 (pv 0)) a0h)) a0h))) a0h))) (fun fp s H=>(a7Y (i:=0) (k:=1) (show List.Nodup (["_law_k", "_law_script"]:List Str) by decide +kernel) rfl (Or.inl rfl))) (fun fp s H=>a5D) (fun fp s H=>(a0M a1z a1H (hr.mono (by decide)) (a0a (a0c 1 (pv 1)) (a0a (a0c 0 (pv 0)) a0h))))) (a2U (a0a (a0U a2h (a0M a1z a1H (hr.mono (by decide)) (a0a (a0c 0 (pv 0)) (a0a a0i a0h))) a0i) a0h))))
 (a0g (a5g PassesOwn.never rfl (a2g rfl a0H (a0a (a0L a2n rfl a1o boot_len (a0a (a0c 10 (pv 10)) a0h)) a0h)) (a7Y (i:=11) (k:=16) sc.nd rfl (Or.inl rfl)) (a0g (a1L (i:=12) sc.nd rfl (Or.inl rfl) (a0U a0A (a0c 7 (pv 7)) (a2U (a0a (a0U a8h (a3k hu1 (a0c 5 (pv 5)) (a0U a0V (a3k hu1 (a0c 10 (pv 10)) (a0c 11 (pv 11))) (a0L a2n rfl a1o boot_len (a0a (a0c 5 (pv 5)) a0h)))) (a2T (a0a a6C a0h))) a0h))))
 (a0g (a1L (i:=13) sc.nd rfl (Or.inl rfl) (a0M a4f a8m (hr.mono (by decide)) (a0a (a3k hu1 (a0c 12 (pv 12)) (a0U a0V (a0U a2h (a3k hu1 (a0c 10 (pv 10)) (a0c 11 (pv 11))) a0i) (a0L a2n rfl a1o boot_len (a0a (a0c 12 (pv 12)) a0h)))) (a0a (a0c 3 (pv 3)) (a0a (a0U a0A (a3k hu1 (a0c 10 (pv 10)) (a0c 11 (pv 11))) (a0c 11 (pv 11))) a0h)))))
 (a0g (a1L (i:=14) sc.nd rfl (Or.inl rfl) (a0U a0V (a0U a2h (a3k hu1 (a0c 10 (pv 10)) (a0c 11 (pv 11))) a0i) (a0U a0A (a0L a2n rfl a1o boot_len (a0a (a0c 7 (pv 7)) a0h)) a0i)))
 (a0g (a1L (i:=8) sc.nd rfl (Or.inl rfl) (a0U a0A (a0U a0A (a4I (a0c 7 (pv 7)) a3Z (a3Y (a0c 14 (pv 14)))) (a2U (a0a (a0c 13 (pv 13)) a0h))) (a4I (a0c 7 (pv 7)) (a3Y (a0c 14 (pv 14))) a3Z)))
 (a0g (a5g PassesOwn.never rfl (a5f (a2U (a0a a0i (a0a (a0U a0A a0i (a0U a0V (a0c 11 (pv 11)) a0i)) (a0a a0i a0h))))) (a7Y (i:=15) (k:=16) sc.nd rfl (Or.inl rfl)) (a0n (a6g (a2o (a2G (a0M a3J a7g (hr.mono (by decide)) (a0a (a0c 4 (pv 4)) (a0a (a0c 8 (pv 8)) (a0a (a0c 15 (pv 15)) (a0a (a3k hu1 (a2U (a0a (a0c 14 (pv 14)) (a0a a0i (a0a (a0L a2n rfl a1o boot_len (a0a (a0c 7 (pv 7)) a0h)) a0h)))) (a0U a0V (a0c 11 (pv 11)) a0i)) a0h))))))) (a0n (a1C a8Y)) a1b)))
 (a0n (a6g (a1M (a5Z hu) (a0c 8 (pv 8)) (a0U a0A (a0U a0A (a4I (a0c 7 (pv 7)) a3Z (a3Y (a0c 14 (pv 14)))) (a2U (a0a (a0c 13 (pv 13)) a0h))) (a4I (a0c 7 (pv 7)) (a3Y (a0c 14 (pv 14))) a3Z))) (a0n (a1C a8Y)) a1b))))))))
 (a0n (a1C a8Y))))))))))))))))))
end
end Lw
namespace Lw
open PySem PySem.Spec PyProof.Rows L2 Z
open Sf (Rw crs Srt Pre Good a0F a0O)
noncomputable abbrev rD (r:Rw):Dv:=.tup [.int r.x,.int r.y,.int r.m]
noncomputable abbrev rwD (rows:List Rw):List Dv:=rows.map rD
noncomputable abbrev nsD (r:List Int):List Dv:=r.map Dv.int
noncomputable abbrev vecD (rows:List Rw):List Dv:=rows.map fun r=>.tup [.int r.x,.int r.y]
noncomputable abbrev a0W (C:Addr) (rows:List Rw):Dv:=.obj C [("kinds",.tup (nsD (a0F rows))),("vectors",.tup (vecD rows))]
noncomputable abbrev L12:Int:=999999999999
def ok1 (r:Rw):Prop:=r.up /\ -999999999999<=r.x/\r.x<=999999999999/\r.y<=999999999999/\1<=r.m
noncomputable def wh:Dv->Option Bool
 | .int _=>some true
 | .bl _=>some false
 | .non=>some false
 | .str _=>some false
 | _=>none
def a8S:Fn:=fun ds Q=>∃ (d:Dv) (b:Bool),ds=[d]/\wh d=some b/\Q (.v (.bl b))
def a6i:Fn:=fun ds Q=>∃ r:Rw,ds=[rD r]/\Q (.v (.bl true))
def a7r:Fn:=fun ds Q=>∃ r:Rw,ds=[rD r]/\ok1 r/\Q (.v (.bl true))
def a4G:Fn:=fun ds Q=>∃ r a:Rw,ds=[rD r,rD a]/\ok1 r/\ok1 a/\0 < crs a r/\Q (.v (.bl true))
def a4H:Fn:=fun ds Q=>∃ r:Rw,ds=[rD r]/\ok1 r/\Q (.v .non)
def a7s:Fn:=fun ds Q=>∃ rows:List Rw,ds=[.lst (rwD rows)]/\Good rows/\Q (.v .non)
def a2e (C:Addr):Fn:=fun ds Q=>∃ rows:List Rw,ds=[.lst (rwD rows)]/\Good rows/\Q (.nw (a0W C rows))
theorem len_isw:∀ ds Q,a8S ds Q->ds.length=1:=by rintro ds Q ⟨_,_,rfl,_⟩; rfl
theorem len_three:∀ ds Q,a6i ds Q->ds.length=1:=by rintro ds Q ⟨_,rfl,_⟩; rfl
theorem len_few:∀ ds Q,a7r ds Q->ds.length=1:=by rintro ds Q ⟨_,rfl,_⟩; rfl
theorem len_left:∀ ds Q,a4G ds Q->ds.length=2:=by rintro ds Q ⟨_,_,rfl,_⟩; rfl
theorem len_chk1:∀ ds Q,a4H ds Q->ds.length=1:=by rintro ds Q ⟨_,rfl,_⟩; rfl
theorem len_chk:∀ ds Q,a7s ds Q->ds.length=1:=by rintro ds Q ⟨_,rfl,_⟩; rfl
theorem len_sides {C:Addr}:∀ ds Q,a2e C ds Q->ds.length + 1=2:=by rintro ds Q ⟨_,rfl,_⟩; rfl
theorem mo_isw:MonoF a8S:=⟨fun ds Q Q' w z=>by obtain ⟨r,b,e,a,h⟩:=z; exact ⟨r,b,e,a,w _ h⟩⟩
theorem mo_three:MonoF a6i:=⟨fun ds Q Q' w z=>by obtain ⟨r,e,h⟩:=z; exact ⟨r,e,w _ h⟩⟩
theorem mo_few:MonoF a7r:=⟨fun ds Q Q' w z=>by obtain ⟨r,e,a,h⟩:=z; exact ⟨r,e,a,w _ h⟩⟩
theorem mo_left:MonoF a4G:=⟨fun ds Q Q' w z=>by obtain ⟨r,e,a,b,c,d,h⟩:=z; exact ⟨r,e,a,b,c,d,w _ h⟩⟩
theorem mo_chk1:MonoF a4H:=⟨fun ds Q Q' w z=>by obtain ⟨r,e,a,h⟩:=z; exact ⟨r,e,a,w _ h⟩⟩
theorem mo_chk:MonoF a7s:=⟨fun ds Q Q' w z=>by obtain ⟨r,e,a,h⟩:=z; exact ⟨r,e,a,w _ h⟩⟩
theorem mo_sides {C:Addr}:MonoF (a2e C):=⟨fun ds Q Q' w z=>by obtain ⟨r,e,a,h⟩:=z; exact ⟨r,e,a,w _ h⟩⟩
theorem p_is_whole:∀ ds Q,a8S ds Q->a5B { nx:=fun _=>Q (.v .non),rt:=Q } (a0k ["thing"] ds):=by
 rintro ds Q ⟨d,b,rfl,hw,q⟩
 cases d with
 | int n=>
  cases hw
  ac_nf
  exact ⟨rfl,rfl,q⟩
 | bl x=>
  cases hw
  ac_nf
  exact ⟨rfl,rfl,q⟩
 | non=>
  cases hw
  ac_nf
  exact ⟨rfl,q⟩
 | str z=>
  cases hw
  ac_nf
  exact ⟨rfl,q⟩
 | _=>cases hw
theorem a5i:∀ ds Q,a6i ds Q->a2c a8S { nx:=fun _=>Q (.v .non),rt:=Q } (a0k ["direction"] ds):=by
 rintro ds Q ⟨r,rfl,q⟩
 ac_nf
 refine ⟨rfl,?_⟩
 rw [show isiD "tuple" (rD r)=true from rfl]
 ac_nf
 rw [show (!decide (((0 + 1 + 1 + 1:Nat):Int)=3))=false from rfl]
 ac_nf
 refine ⟨_,_,rfl,rfl,?_⟩
 ac_nf
 refine ⟨_,_,rfl,rfl,?_⟩
 ac_nf
 refine ⟨_,_,rfl,rfl,?_⟩
 ac_nf
 exact ⟨[true,true,true],rfl,q⟩
theorem a5E:∀ ds Q,a7r ds Q->a2s { nx:=fun _=>Q (.v .non),rt:=Q } (a0k ["direction"] ds):=by
 rintro ds Q ⟨r,rfl,⟨hu,h1,h2,h3,_⟩,q⟩
 have hy:0<=r.y:=by rcases hu with h | h <;> ac_rfl
 ac_nf
 rw [if_pos (show (if r.x < 0 then -r.x else r.x)<=999999999999 by split <;> ac_rfl),decide_eq_true (show (if r.y < 0 then -r.y else r.y)<=999999999999 by split <;> ac_rfl)]
 exact q
theorem a9V:∀ ds Q,a7r ds Q->a4y { nx:=fun _=>Q (.v .non),rt:=Q } (a0k ["direction"] ds):=by
 rintro ds Q ⟨r,rfl,⟨hu,h1,h2,h3,_⟩,q⟩
 ac_nf
 rcases hu with h | ⟨h,h'⟩
 ·rw [if_pos h]
  exact q
 ·rw [if_neg (by ac_rfl),if_pos h,decide_eq_true h']
  exact q
theorem a9W:∀ ds Q,a4G ds Q->a4z { nx:=fun _=>Q (.v .non),rt:=Q } (a0k ["direction", "ahead"] ds):=by
 rintro ds Q ⟨r,a,rfl,⟨hu,h1,h2,h3,_⟩,⟨gu,g1,g2,g3,_⟩,hc,q⟩
 ac_nf
 refine ⟨.inl (.inl ⟨by ac_rfl,by ac_rfl⟩),.inl (.inl ⟨by ac_rfl,by ac_rfl⟩),?_⟩
 rw [decide_eq_true (show 0 < a.x * r.y - r.x * a.y from hc)]
 exact q
theorem a5F:∀ ds Q,a4H ds Q->a2t a6i a7r a7r { nx:=fun _=>Q (.v .non),rt:=Q } (a0k ["direction"] ds):=by
 rintro ds Q ⟨r,rfl,ok,q⟩
 ac_nf
 refine ⟨r,rfl,?_⟩
 ac_nf
 refine ⟨r,rfl,ok,?_⟩
 ac_nf
 refine ⟨r,rfl,ok,?_⟩
 ac_nf
 rw [if_neg (by have:=ok.2.2.2.2; ac_rfl)]
 exact q
theorem chk_0 {x:Sl} {E:En}:∀ (rows:List Rw) (s t:Sl),(∀ r ∈ rows,ok1 r)->(∀ s,E.nx [x,s,t])->a1e (gN 1) (a2S a4H a4G) [] (rwD rows) E [x,s,t]:=by
 intro rows
 induction rows with
 | nil=>
  intro s t _ h
  ac_nf
  exact h s
 | cons r rs ih=>
  intro s t ok h
  ac_nf
  refine ⟨r,rfl,ok r (by simp),?_⟩
  ac_nf
  exact ih _ _ (fun r hr=>ok r (by simp [hr])) h
theorem chk_c {Q:R->Prop}:∀ (rows:List Rw) (acc:List Int),acc.length + rows.length<=100->Q (.nw (.lst (nsD (acc ++ rows.map (·.m)))))->a1U [.un] (gN 0) a3D (eOp pIx (a0e 0) (eC (.int 2))) (rwD rows) (nsD acc) Q:=by
 intro rows
 induction rows with
 | nil=>
  intro acc _ h
  ac_nf
  simpa using h
 | cons r rs ih=>
  intro acc hl h
  simp only [List.length_cons] at hl
  push_cast [List.length_map]
  refine ⟨by ac_rfl,?_⟩
  rw [show nsD acc ++ [Dv.int r.m]=nsD (acc ++ [r.m]) by simp]
  exact ih _ (by simp; ac_rfl) (by simpa using h)
theorem chk_1 {x:Sl} {E:En}:∀ (rows:List Rw) (s t:Sl),Srt rows->(∀ r ∈ rows,ok1 r)->(∀ s t,E.nx [x,s,t])->a1e (gT [2,1]) (a1Q a4H a4G) [] (zipD (rwD rows) (rwD (rows.drop 1))) E [x,s,t]:=by
 intro rows
 induction rows with
 | nil=>
  intro s t _ _ h
  push_cast [zipD,List.zipWith_nil_left]
  exact h s t
 | cons a rs ih=>
  intro s t srt ok h
  cases rs with
  | nil=>
   push_cast [zipD,List.drop,List.zipWith]
   exact h s t
  | cons b rs=>
   push_cast [zipD,List.drop,List.zipWith]
   refine ⟨b,a,rfl,ok b (by simp),ok a (by simp),?_,?_⟩
   ·exact (List.pairwise_cons.mp srt).1 b (by simp)
   ·ac_nf
    exact ih _ _ (List.pairwise_cons.mp srt).2 (fun r hr=>ok r (by simp at hr ⊢; exact .inr hr)) h
theorem a5j:∀ ds Q,a7s ds Q->a2d a4H a4G { nx:=fun _=>Q (.v .non),rt:=Q } (a0k ["directions", "direction", "ahead"] ds):=by
 rintro ds Q ⟨rows,rfl,G,q⟩
 have lo:=G.lo
 have hi:=G.hi
 push_cast [List.length_map]
 refine ⟨rfl,?_⟩
 rw [show isiD "list" (.lst (rwD rows))=true from rfl]
 ac_nf
 rw [if_pos (by ac_rfl),decide_eq_true (show (rows.length:Int)<=6 by ac_rfl)]
 ac_nf
 refine chk_0 rows _ _ G.ok fun s=>?_
 ac_nf
 refine chk_c rows [] (by simp; ac_rfl) ?_
 refine ⟨rows.map (·.m),by simp,?_⟩
 ac_nf
 rw [if_neg (by have:=G.tot; unfold Sf.many at this; ac_rfl)]
 show a1e (gT [2,1]) (a1Q a4H a4G) [] _ _ _
 rw [cut_from (by decide),show (rwD rows).drop (Int.toNat 1)=rwD (rows.drop 1) by simp [rwD]]
 exact chk_1 rows _ _ G.srt G.ok fun s t=>q
theorem many_take {rows:List Rw} (h:∀ r ∈ rows,1<=r.m):∀ k,Sf.many (rows.take k)<=Sf.many rows:=by
 induction rows with
 | nil=>intro k; simp
 | cons r rs ih=>
  intro k
  cases k with
  | zero=>
   have:=ih (fun r hr=>h r (by simp [hr])) 0
   have hm:=h r (by simp)
   simp only [Sf.many,List.take_zero,List.map_nil,List.sum_nil,List.map_cons,List.sum_cons] at *
   ac_rfl
  | succ k=>
   have:=ih (fun r hr=>h r (by simp [hr])) k
   simp only [Sf.many,List.take_succ_cons,List.map_cons,List.sum_cons] at *
   ac_rfl
theorem init_0 {x y:Sl} {a:Addr} {E:En} {C:Addr}:∀ (rs:List Rw) (k:Nat) (ks:List Int) (s t:Sl),(∀ r ∈ rs,1<=r.m)->(ks.length:Int) + Sf.many rs<=12->(∀ s t,E.nx [x,y,.own a (.lst (nsD (ks ++ a0O k rs))),s,t]) ->
  a1e (gT [3,4]) (a6q C a7s) [] (((rwD rs).zipIdx k).map fun q=>.tup [.int (q.2:Int),q.1]) E [x,y,.own a (.lst (nsD ks)),s,t]:=by
 intro rs
 induction rs with
 | nil=>
  intro k ks s t _ _ h
  push_cast [List.zipIdx_nil]
  simpa [a0O] using h s t
 | cons r rs ih=>
  intro k ks s t ok hb h
  have hm:=ok r (by simp)
  have hp:0<=Sf.many rs:=by
   have:=many_take (fun r hr=>ok r (by simp [hr])) (rows:=rs) 0
   simpa [Sf.many] using this
  have hb':(ks.length:Int) + (r.m + Sf.many rs)<=12:=by simpa [Sf.many] using hb
  push_cast [List.zipIdx_cons,a6q,List.length_map]
  refine ⟨⟨by ac_rfl,by ac_rfl,by ac_rfl⟩,?_⟩
  have e:(List.replicate r.m.toNat [Dv.int (k:Int)]).flatten=nsD (List.replicate r.m.toNat (k:Int)):=by
   rw [List.flatten_replicate_singleton]; simp
  rw [e]
  refine ⟨by simp; ac_rfl,?_⟩
  rw [show nsD ks ++ nsD (List.replicate r.m.toNat (k:Int))=nsD (ks ++ List.replicate r.m.toNat (k:Int)) by simp]
  refine ih (k + 1) _ _ _ (fun r hr=>ok r (by simp [hr])) (by simp; ac_rfl) fun s t=>?_
  rw [List.append_assoc]
  exact h s t
theorem init_c {Q:R->Prop}:∀ (rows:List Rw) (acc:List Rw),acc.length + rows.length<=100->Q (.nw (.lst (vecD (acc ++ rows))))->a1U [.un] (gN 0) a3D (a4s (a0b (eOp pIx (a0e 0) (eC (.int 0))) (a0b (eOp pIx (a0e 0) (eC (.int 1))) a0m))) (rwD rows) (vecD acc) Q:=by
 intro rows
 induction rows with
 | nil=>
  intro acc _ h
  ac_nf
  simpa using h
 | cons r rs ih=>
  intro acc hl h
  simp only [List.length_cons] at hl
  push_cast [List.length_map]
  refine ⟨by ac_rfl,?_⟩
  rw [show vecD acc ++ [Dv.tup [Dv.int r.x,Dv.int r.y]]=vecD (acc ++ [r]) by simp]
  exact ih _ (by simp; ac_rfl) (by simpa using h)
theorem p_init {C:Addr}:∀ ds Q,a2e C ds Q -> ∀ a,t_init C a7s { nx:=fun ρ=>∃ d,ρ[0]?=some (.own a d)/\Q (.nw d),rt:=fun _=>False } (a3N C a ["self", "directions", "kinds", "number", "direction"] ds):=by
 rintro ds Q ⟨rows,rfl,G,q⟩ a
 have hi:=G.hi
 ac_nf
 refine ⟨rows,rfl,G,?_⟩
 ac_nf
 intro b
 show a1e (gT [3,4]) (a6q C a7s) [] (((rwD rows).zipIdx 0).map fun q=>.tup [.int (q.2:Int),q.1]) _ [_,_,.own b (.lst (nsD [])),_,_]
 refine init_0 rows 0 [] _ _ (fun r hr=>(G.ok r hr).2.2.2.2) (by simpa using G.tot) fun s t=>?_
 ac_nf
 refine init_c rows [] (by simp; ac_rfl) ?_
 ac_nf
 exact ⟨(by decide:1 < 1000),_,rfl,q⟩
end Lw
namespace Lw
open PySem PySem.Spec PyProof.Rows L2 Z
open Sf (Rw crs Srt Pre Good a0F a0O)
theorem a5Q {r:List Int} {k:Nat} (h:k < r.length):atI (nsD r) (k:Int)=some (.int (r.getD k 0)):=by
 rw [a2Q (by ac_rfl) (by simp; ac_rfl)]
 simp [List.getD,h]
def a7S (C:Addr):Fn:=fun ds Q=>∃ (rows:List Rw) (b:Nat),ds=[a0W C rows,.int b]/\b < (a0F rows).length/\Q (.v (.int ((a0F rows).getD b 0)))
theorem len_kind {C:Addr}:∀ ds Q,a7S C ds Q->ds.length=2:=by rintro ds Q ⟨_,_,rfl,_⟩; rfl
theorem a8o {C:Addr}:MonoF (a7S C):=⟨fun ds Q Q' w z=>by obtain ⟨r,b,e,a,h⟩:=z; exact ⟨r,b,e,a,w _ h⟩⟩
theorem p_kind {C:Addr}:∀ ds Q,a7S C ds Q->t_kind C { nx:=fun _=>Q (.v .non),rt:=Q } (a0k ["self", "band"] ds):=by
 rintro ds Q ⟨rows,b,rfl,hb,h⟩
 ac_nf
 rw [show List.lookup (Str.ofString "kinds") [(Str.ofString "kinds",Dv.tup (nsD (a0F rows))),(Str.ofString "vectors",Dv.tup (vecD rows))]=some (Dv.tup (nsD (a0F rows))) from rfl]
 ac_nf
 rw [a5Q hb]
 exact h
def a7R (C:Addr):Fn:=fun ds Q=>∃ rows:List Rw,ds=[a0W C rows]/\Q (.v (.int (a0F rows).length))
theorem len_many {C:Addr}:∀ ds Q,a7R C ds Q->ds.length=1:=by rintro ds Q ⟨_,rfl,_⟩; rfl
theorem b0k {C:Addr}:MonoF (a7R C):=⟨fun ds Q Q' w z=>by obtain ⟨r,e,h⟩:=z; exact ⟨r,e,w _ h⟩⟩
theorem p_many {C:Addr}:∀ ds Q,a7R C ds Q->t_many C { nx:=fun _=>Q (.v .non),rt:=Q } (a0k ["self"] ds):=by
 rintro ds Q ⟨rows,rfl,h⟩
 ac_nf
 rw [show List.lookup (Str.ofString "kinds") [(Str.ofString "kinds",Dv.tup (nsD (a0F rows))),(Str.ofString "vectors",Dv.tup (vecD rows))]=some (Dv.tup (nsD (a0F rows))) from rfl]
 push_cast [List.length_map]
 exact h
noncomputable abbrev prD (l:List (Int × Int)):List Dv:=l.map fun t=>.tup [.int t.1,.int t.2]
structure Hd where
 a:Nat
 b:Nat
 w:Nat
noncomputable def wd (w:Nat):Str:=if w=0 then "brace" else if w=1 then "more" else "less"
noncomputable abbrev hdD (h:Hd):Dv:=.tup [.int h.a,.int h.b,.str (wd h.w)]
noncomputable def prB (ks:List Int) (a b:Nat):Bool:=decide (a < b) && (decide (b < ks.length) && !decide (ks.getD a 0=ks.getD b 0))
def OkH (rows:List Rw) (h:Hd):Prop:=prB (a0F rows) h.a h.b=true
noncomputable def a1P (h:Hd):List (Int × Int):=if h.w=0 then [((h.a:Int),(h.b:Int)),((h.b:Int),(h.a:Int))] else if h.w=1 then [((h.a:Int),(h.b:Int))] else [((h.b:Int),(h.a:Int))]
noncomputable def arH (hs:List Hd):List (Int × Int):=hs.flatMap a1P
theorem a8N (w:Nat):okD 8 (.str (wd w))=true:=by
 unfold wd
 split
 ·decide +kernel
 ·split <;> decide +kernel
theorem eq_brace {w:Nat}:eqD (.str (wd w)) (.str "brace")=decide (w=0):=by
 unfold wd
 by_cases h:w=0
 ·rw [if_pos h,decide_eq_true h]; decide +kernel
 ·rw [if_neg h,decide_eq_false h]
  split <;> decide +kernel
theorem eq_more {w:Nat} (h:w ≠ 0):eqD (.str (wd w)) (.str "more")=decide (w=1):=by
 unfold wd
 rw [if_neg h]
 by_cases h:w=1
 ·rw [if_pos h,decide_eq_true h]; decide +kernel
 ·rw [if_neg h,decide_eq_false h]; decide +kernel
theorem in_words (w:Nat):(["brace", "more", "less"]:List Str).any (· == wd w)=true:=by
 unfold wd
 split
 ·decide +kernel
 ·split <;> decide +kernel
noncomputable def prI (ks:List Int) (a b:Int):Bool:=decide (0<=a) && prB ks a.toNat b.toNat
inductive PairV (ks:List Int):Dv->Dv->Bool->Prop
 | nx {x y:Dv}:wh x=some false->PairV ks x y false
 | ny {n:Int} {y:Dv}:wh y=some false->PairV ks (.int n) y false
 | ii (a b:Int):PairV ks (.int a) (.int b) (prI ks a b)
def a7Q (C:Addr):Fn:=fun ds Q=>∃ (rows:List Rw) (x y:Dv) (b:Bool),ds=[a0W C rows,x,y]/\PairV (a0F rows) x y b/\Q (.v (.bl b))
theorem len_pair {C:Addr}:∀ ds Q,a7Q C ds Q->ds.length=3:=by rintro ds Q ⟨_,_,_,_,rfl,_⟩; rfl
theorem mo_pair {C:Addr}:MonoF (a7Q C):=⟨fun ds Q Q' w z=>by obtain ⟨p,q,r,b,e,a,h⟩:=z; exact ⟨p,q,r,b,e,a,w _ h⟩⟩
theorem p_is_pair {C:Addr}:∀ ds Q,a7Q C ds Q->a6u C a8S (a7R C) (a7S C) { nx:=fun _=>Q (.v .non),rt:=Q } (a0k ["sides", "a", "b"] ds):=by
 rintro ds Q ⟨rows,x,y,bb,rfl,pv,h⟩
 cases pv with
 | nx e=>
  ac_nf
  refine ⟨_,_,rfl,e,?_⟩
  ac_nf
  exact h
 | ny e=>
  ac_nf
  refine ⟨_,_,rfl,rfl,?_⟩
  ac_nf
  refine ⟨_,_,rfl,e,?_⟩
  ac_nf
  exact h
 | ii a b=>
  unfold prI prB at h
  ac_nf
  refine ⟨_,_,rfl,rfl,?_⟩
  ac_nf
  refine ⟨_,_,rfl,rfl,?_⟩
  ac_nf
  refine ⟨_,_,rfl,rfl,?_⟩
  by_cases h0:(0:Int)<=a
  ·rw [decide_eq_true h0,Bool.true_and] at h
   rw [if_pos h0]
   refine ⟨_,rfl,?_⟩
   by_cases h1:a < b
   ·obtain ⟨a,rfl⟩:=Int.eq_ofNat_of_zero_le h0
    obtain ⟨b,rfl⟩:=Int.eq_ofNat_of_zero_le (show (0:Int)<=b by ac_rfl)
    rw [Int.toNat_natCast,Int.toNat_natCast] at h
    rw [decide_eq_true (show a < b by ac_rfl),Bool.true_and] at h
    rw [if_pos h1]
    refine ⟨rfl,rows,rfl,?_⟩
    ac_nf
    refine ⟨_,rfl,?_⟩
    by_cases h2:b < (a0F rows).length
    ·rw [decide_eq_true h2,Bool.true_and] at h
     rw [if_pos (show (b:Int) < (a0F rows).length by ac_rfl)]
     refine ⟨rfl,rows,a,rfl,by ac_rfl,?_⟩
     ac_nf
     refine ⟨rfl,rows,b,rfl,h2,?_⟩
     ac_nf
     exact h
    ·rw [decide_eq_false h2] at h
     rw [if_neg (show ¬ (b:Int) < (a0F rows).length by ac_rfl)]
     exact h
   ·rw [decide_eq_false (show ¬ a.toNat < b.toNat by ac_rfl)] at h
    rw [if_neg h1]
    exact h
  ·rw [decide_eq_false h0] at h
   rw [if_neg h0]
   exact h
inductive HoldV (ks:List Int):Dv->Bool->Prop
 | ln {xs:List Dv}:xs.length ≠ 3->xs.length<=100->HoldV ks (.tup xs) false
 | pr {x y z:Dv}:PairV ks x y false->HoldV ks (.tup [x,y,z]) false
 | wd {x y:Dv} {w:Str}:PairV ks x y true->HoldV ks (.tup [x,y,.str w]) ((["brace", "more", "less"]:List Str).any (· == w))
theorem OkH.v {rows:List Rw} {h:Hd} (o:OkH rows h):HoldV (a0F rows) (hdD h) true:=by
 have:=HoldV.wd (ks:=a0F rows) (w:=wd h.w) (show PairV (a0F rows) (.int h.a) (.int h.b) true by
  have z:=PairV.ii (ks:=a0F rows) (h.a:Int) (h.b:Int)
  rw [show prI (a0F rows) (h.a:Int) (h.b:Int)=true by
   unfold prI
   rw [Int.toNat_natCast,Int.toNat_natCast,show prB (a0F rows) h.a h.b=true from o]
   simp] at z
  exact z)
 rw [in_words] at this
 exact this
def a3E (C:Addr):Fn:=fun ds Q=>∃ (rows:List Rw) (d:Dv) (b:Bool),ds=[a0W C rows,d]/\HoldV (a0F rows) d b/\Q (.v (.bl b))
theorem len_hold {C:Addr}:∀ ds Q,a3E C ds Q->ds.length=2:=by rintro ds Q ⟨_,_,_,rfl,_⟩; rfl
theorem mo_hold {C:Addr}:MonoF (a3E C):=⟨fun ds Q Q' w z=>by obtain ⟨p,q,b,e,a,h⟩:=z; exact ⟨p,q,b,e,a,w _ h⟩⟩
theorem p_is_hold {C:Addr}:∀ ds Q,a3E C ds Q->a6v (a7Q C) { nx:=fun _=>Q (.v .non),rt:=Q } (a0k ["sides", "thing"] ds):=by
 rintro ds Q ⟨rows,d,b,rfl,v,q⟩
 cases v with
 | @ln xs n3 _=>
  ac_nf
  refine ⟨rfl,?_⟩
  rw [show isiD "tuple" (Dv.tup xs)=true from rfl]
  ac_nf
  rw [decide_eq_false (show ¬ (xs.length:Int)=3 by ac_rfl)]
  exact q
 | @pr x y z e=>
  ac_nf
  refine ⟨rfl,?_⟩
  refine ⟨rows,x,y,_,rfl,e,?_⟩
  ac_nf
  exact q
 | @wd x y w e=>
  ac_nf
  refine ⟨rfl,?_⟩
  refine ⟨rows,x,y,_,rfl,e,?_⟩
  ac_nf
  exact ⟨_,rfl,q⟩
def a5b:Fn:=fun ds Q=>∃ h:Hd,ds=[hdD h]/\Q (.nw (.lst (prD (a1P h))))
theorem len_pof:∀ ds Q,a5b ds Q->ds.length=1:=by rintro ds Q ⟨_,rfl,_⟩; rfl
theorem mo_pof:MonoF a5b:=⟨fun ds Q Q' w z=>by obtain ⟨p,e,h⟩:=z; exact ⟨p,e,w _ h⟩⟩
theorem p_pulls_of:∀ ds Q,a5b ds Q->a5w { nx:=fun _=>Q (.v .non),rt:=Q } (a0k ["hold", "there", "back"] ds):=by
 rintro ds Q ⟨h,rfl,q⟩
 ac_nf
 refine ⟨⟨a8N _,by decide +kernel⟩,?_⟩
 rw [eq_brace]
 unfold a1P at q
 by_cases e:h.w=0
 ·rw [if_pos e] at q
  rw [decide_eq_true e]
  exact a8M q
 ·rw [if_neg e] at q
  rw [decide_eq_false e]
  refine a7h ⟨⟨a8N _,by decide +kernel⟩,?_⟩
  rw [eq_more e]
  by_cases e1:h.w=1
  ·rw [if_pos e1] at q
   rw [decide_eq_true e1]
   exact a8M q
  ·rw [if_neg e1] at q
   rw [decide_eq_false e1]
   exact a7h q
end Lw
namespace Lw
open PySem PySem.Spec PyProof.Rows L2 Z
open Sf (Rw crs Srt Pre Good a0F a0O)
noncomputable abbrev p2 (p:Int × Int):List Int:=[p.1,p.2]
noncomputable abbrev tdD (ks:List (Int × Int)):List (List Key × Dv):=ks.map fun p=>([Sum.inl p.1,Sum.inl p.2],.bl true)
noncomputable def a6O (ks:List (Int × Int)) (p:Int × Int):List (Int × Int):=if p ∈ ks then ks else ks ++ [p]
theorem key_eq (p q:Int × Int):([Sum.inl p.1,Sum.inl p.2]:List Key)=[Sum.inl q.1,Sum.inl q.2] ↔ p=q:=by
 constructor
 ·intro h
  injection h with h1 h2
  injection h2 with h2 _
  injection h1 with h1
  injection h2 with h2
  exact Prod.ext h1 h2
 ·rintro rfl; rfl
theorem a7x (ks:List (Int × Int)) (p:Int × Int):putT (tdD ks) [Sum.inl p.1,Sum.inl p.2] (.bl true)=tdD (a6O ks p):=by
 unfold putT a6O
 have e:(tdD ks).any (fun kv=>decide (kv.1=[Sum.inl p.1,Sum.inl p.2]))=decide (p ∈ ks):=by
  rw [List.any_map,Bool.eq_iff_iff,List.any_eq_true,decide_eq_true_eq]
  constructor
  ·rintro ⟨q,h1,h2⟩
   have:=(key_eq q p).mp (by simpa using h2)
   exact this ▸ h1
  ·exact fun h=>⟨p,h,by simp⟩
 rw [e]
 by_cases h:p ∈ ks
 ·rw [decide_eq_true h,if_pos rfl,if_pos h,List.map_map]
  apply List.map_congr_left
  intro q _
  show (if [Sum.inl q.1,Sum.inl q.2]=[Sum.inl p.1,Sum.inl p.2] then _ else _)=_
  split <;> rfl
 ·rw [decide_eq_false h,if_neg (by decide),if_neg h]
  simp
theorem insP_mem (ks:List (Int × Int)) (p q:Int × Int):q ∈ a6O ks p ↔ q ∈ ks \/ q=p:=by
 unfold a6O
 split
 ·rename_i h
  exact ⟨.inl,fun z=>z.elim id fun z=>z ▸ h⟩
 ·rw [List.mem_append,List.mem_singleton]
theorem insP_nd {ks:List (Int × Int)} (h:ks.Nodup) (p:Int × Int):(a6O ks p).Nodup:=by
 unfold a6O
 split
 ·exact h
 ·rename_i hp
  rw [List.nodup_append]
  exact ⟨h,by simp,fun a ha b hb=>by rw [List.mem_singleton.mp hb]; exact fun z=>hp (z ▸ ha)⟩
theorem a8t (ks:List (Int × Int)) (p:Int × Int):(a6O ks p).length<=ks.length + 1:=by
 unfold a6O
 split
 ·ac_rfl
 ·simp
theorem fold_mem (q:Int × Int):∀ (ps ks:List (Int × Int)),q ∈ ps.foldl a6O ks ↔ q ∈ ks \/ q ∈ ps
 | [],ks=>by simp
 | p :: ps,ks=>by
  rw [List.foldl_cons,fold_mem q ps,insP_mem,List.mem_cons,or_assoc]
theorem fold_nd:∀ (ps:List (Int × Int)) {ks:List (Int × Int)},ks.Nodup->(ps.foldl a6O ks).Nodup
 | [],_,h=>h
 | p :: ps,_,h=>fold_nd ps (insP_nd h p)
theorem a5o:∀ (ps ks:List (Int × Int)),(ps.foldl a6O ks).length<=ks.length + ps.length
 | [],ks=>by simp
 | p :: ps,ks=>by
  have h1:=a5o ps (a6O ks p)
  have h2:=a8t ks p
  rw [List.foldl_cons,List.length_cons]
  ac_rfl
theorem pulls_0X {C XN:Addr} {Ψ:Exn->Prop} {E:En} {a:Addr} {x0 x1 x3:Sl}:∀ (ps ks:List (Int × Int)) (s4:Sl),ks.length + ps.length<=10000->(∀ s4,E.nx [x0,x1,.own a (.dit (tdD (ps.foldl a6O ks))),x3,s4]) ->
  a1e (gN 4) (a4q XN Ψ (a3E C) a5b) [] (prD ps) E [x0,x1,.own a (.dit (tdD ks)),x3,s4]:=by
 intro ps
 induction ps with
 | nil=>
  intro ks s4 hl h
  rw [show prD []=[] from rfl,a0S]
  exact ⟨fun p hp=>by simp at hp,h _⟩
 | cons p ps ih=>
  intro ks s4 hl h
  rw [List.length_cons] at hl
  rw [show prD (p :: ps)=.tup [.int p.1,.int p.2] :: prD ps from rfl,a0C]
  refine ⟨fun p hp=>by simp at hp,?_⟩
  have nx:=fun ks s4=>ih ks s4
  generalize a1e (gN 4) (a4q XN Ψ (a3E C) a5b) [] (prD ps) E=G at nx ⊢
  push_cast [a4q]
  refine ⟨[Sum.inl p.1,Sum.inl p.2],rfl,by rw [List.length_map]; ac_rfl,?_⟩
  rw [a7x]
  have:=a8t ks p
  exact nx _ _ (by ac_rfl) h
theorem arH_len (hs:List Hd):(arH hs).length<=2 * hs.length:=by
 unfold arH
 induction hs with
 | nil=>simp
 | cons h hs ih=>
  have pl:(a1P h).length<=2:=by unfold a1P; split <;> (try split) <;> simp
  rw [List.flatMap_cons,List.length_append,List.length_cons]
  ac_rfl
noncomputable abbrev ksH (hs:List Hd):List (Int × Int):=(arH hs).foldl a6O []
def lexP (p q:Int × Int):Prop:=a7A (p2 p) (p2 q)=true
theorem uniq_P:∀ {l m:List (Int × Int)},l.Perm m->l.Pairwise lexP->m.Pairwise lexP->l=m
 | [],m,p,_,_=>by rw [List.nil_perm] at p; exact p.symm
 | t :: l,[],p,_,_=>nomatch p.length_eq
 | t :: l,u :: m,p,h1,h2=>by
  have e:t=u:=by
   rcases List.mem_cons.mp (p.mem_iff.mp (List.mem_cons_self ..)) with h | h
   ·exact h
   ·rcases List.mem_cons.mp (p.mem_iff.mpr (List.mem_cons_self (a:=u))) with h' | h'
    ·exact h'.symm
    ·have a:=(List.pairwise_cons.mp h1).1 u h'
     have b:=(List.pairwise_cons.mp h2).1 t h
     have c:=a8q _ _ _ a b
     rw [a8r] at c
     cases c
  subst e
  rw [uniq_P (List.perm_cons t |>.mp p) (List.pairwise_cons.mp h1).2 (List.pairwise_cons.mp h2).2]
theorem pulls_2 {hs:List Hd} (hl:hs.length<=400) {Q:R->Prop} (h:∀ ar:List (Int × Int),ar.Perm (ksH hs)->ar.Pairwise lexP->Q (.nw (.lst (prD ar)))):a3g [.dit (tdD (ksH hs))] Q:=by
 have ln:(ksH hs).length<=800:=by
  have h1:(ksH hs).length<=([]:List (Int × Int)).length + (arH hs).length:=a5o (arH hs) []
  have h2:=arH_len hs
  simp at h1
  ac_rfl
 generalize ksH hs=ks at ln h ⊢
 rw [b0d]
 refine ⟨ks.map p2,1,by rw [List.map_map,List.map_map]; rfl,by rw [List.length_map]; ac_rfl,fun l hl=>?_,fun ls pm pw=>?_⟩
 ·obtain ⟨p,_,rfl⟩:=List.mem_map.mp hl
  rfl
 ·obtain ⟨ps,pp,rfl⟩:=perm_lift pm (its:=ks) rfl
  rw [List.map_map]
  rw [List.pairwise_map] at pw
  exact h ps pp pw
def a2f (C XN:Addr):FnX:=fun ds Q Ψ=>∃ (rows:List Rw) (hs:List Hd) (tl:List Dv),ds=[a0W C rows,.lst (hs.map hdD ++ tl)]/\hs.length<=400/\tl.length<=100/\(∀ h ∈ hs,OkH rows h) /\
 ((tl=[] /\ ∀ ar:List (Int × Int),ar.Perm (ksH hs)->ar.Pairwise lexP->Q (.nw (.lst (prD ar)))) \/ (∃ b t,tl=b :: t/\HoldV (a0F rows) b false)/\Ψ (XN,none))
theorem len_pullsX {C XN:Addr}:∀ ds Q Ψ,a2f C XN ds Q Ψ->ds.length=2:=by rintro ds Q Ψ ⟨_,_,_,rfl,_⟩; rfl
theorem a0N {C XN:Addr}:MonoX (a2f C XN):=⟨fun ds Q Q' Ψ Ψ' w w' z=>by
 obtain ⟨p,q,r,e,a,b,c,z⟩:=z
 refine ⟨p,q,r,e,a,b,c,?_⟩
 rcases z with ⟨x,z⟩ | ⟨x,y⟩
 ·exact .inl ⟨x,fun ar h1 h2=>w _ (z ar h1 h2)⟩
 ·exact .inr ⟨x,w' _ y⟩⟩
theorem pulls_1X {C XN:Addr} {Ψ:Exn->Prop} {E:En} {a:Addr} {rows:List Rw} {x1:Sl} {tl:List Dv}:∀ (hs:List Hd) (ks:List (Int × Int)) (s3 s4:Sl),ks.length + 2 * hs.length<=10000->(∀ h ∈ hs,OkH rows h)->(∀ s3 s4,(a1e (gN 3) (a3d XN Ψ (a3E C) a5b) [] tl E [.v (a0W C rows),x1,.own a (.dit (tdD ((arH hs).foldl a6O ks))),s3,s4])) ->
  a1e (gN 3) (a3d XN Ψ (a3E C) a5b) [] (hs.map hdD ++ tl) E [.v (a0W C rows),x1,.own a (.dit (tdD ks)),s3,s4]:=by
 intro hs
 induction hs with
 | nil=>
  intro ks s3 s4 hl _ h
  exact h _ _
 | cons hd hs ih=>
  intro ks s3 s4 hl ok h
  rw [List.length_cons] at hl
  rw [List.map_cons,List.cons_append,a0C]
  refine ⟨fun p hp=>by simp at hp,?_⟩
  have nx:=fun ks s3 s4=>ih ks s3 s4
  generalize a1e (gN 3) (a3d XN Ψ (a3E C) a5b) [] (hs.map hdD ++ tl) E=G at nx ⊢
  have pl:(a1P hd).length<=2:=by unfold a1P; split <;> (try split) <;> simp
  push_cast [a3d]
  refine ⟨rows,_,_,rfl,(ok hd (List.mem_cons_self ..)).v,?_⟩
  ac_nf
  refine ⟨hd,rfl,?_⟩
  ac_nf
  refine pulls_0X (a1P hd) ks _ (by ac_rfl) fun s4=>?_
  have:=a5o (a1P hd) ks
  refine nx _ _ _ (by ac_rfl) (fun z hz=>ok z (List.mem_cons_of_mem _ hz)) fun s3 s4=>?_
  have e2:(arH (hd :: hs)).foldl a6O ks=(arH hs).foldl a6O ((a1P hd).foldl a6O ks):=by
   unfold arH
   rw [List.flatMap_cons,List.foldl_append]
  have h':=h s3 s4
  rw [e2] at h'
  exact h'
theorem p_pullsX {C XN:Addr}:∀ ds Q Ψ,a2f C XN ds Q Ψ->a7O XN Ψ (a3E C) a5b { nx:=fun _=>Q (.v .non),rt:=Q } (a0k ["sides", "holds", "told", "hold", "pull"] ds):=by
 rintro ds Q Ψ ⟨rows,hs,tl,rfl,hl,tl',ok,h⟩
 ac_nf
 intro a
 refine pulls_1X hs [] _ _ (by simp; ac_rfl) ok fun s3 s4=>?_
 rcases h with ⟨rfl,h⟩ | ⟨⟨b,t,rfl,v⟩,h⟩
 ·rw [a0S]
  refine ⟨fun p hp=>by simp at hp,?_⟩
  ac_nf
  exact pulls_2 hl h
 ·rw [a0C]
  refine ⟨fun p hp=>by simp at hp,?_⟩
  push_cast [a3d]
  refine ⟨rows,_,_,rfl,v,?_⟩
  ac_nf
  exact h
end Lw
namespace Lw
open PySem PySem.Spec PyProof.Rows L2 Z
open Sf (Rw crs Srt Pre Good a0F a0O)
theorem at_map {α:Type} {f:α->Dv} {l:List α} {k:Nat} {x:α} (h:l[k]?=some x):atI (l.map f) (k:Int)=some (f x):=by
 have hk:=(List.getElem?_eq_some_iff.mp h).1
 rw [a2Q (by ac_rfl) (by simp; ac_rfl),Int.toNat_natCast,List.getElem?_map,h]
 rfl
theorem sm_d {u k:Int} (h0:-1000000 < k) (hk:k < 1000000):a9L u k:=.inl (.inr ⟨by ac_rfl,by ac_rfl⟩)
noncomputable def a0G:Nat->List Nat->List Int
 | _,[]=>[]
 | k,c :: cs=>List.replicate c (k:Int) ++ a0G (k + 1) cs
theorem a7L:∀ (k:Nat) (cs:List Nat) (c:Nat),a0G k (cs ++ [c])=a0G k cs ++ List.replicate c ((k + cs.length:Nat):Int)
 | _,[],_=>by simp [a0G]
 | k,a :: rs,c=>by
  simp only [List.cons_append,a0G,a7L (k + 1) rs c,List.append_assoc,List.length_cons]
  congr 3
  ac_rfl
theorem a3y:∀ (k:Nat) (cs:List Nat),(a0G k cs).length=cs.sum
 | _,[]=>rfl
 | k,c :: cs=>by simp [a0G,a3y (k + 1) cs]
structure Cnt (cs:List Nat):Prop where
 lo:2<=cs.length
 hi:cs.length<=6
 ok:∀ c ∈ cs,1<=c
 tot:cs.sum<=12
def a1p:Fn:=fun ds Q=>∃ (ns:List Int) (k:Nat),ds=[.scr ns,.int k] /\ ∀ c:Int,Q (.v (.int c))
theorem len_deep:∀ ds Q,a1p ds Q->ds.length=2:=by rintro ds Q ⟨_,_,rfl,_⟩; rfl
theorem mo_deep:MonoF a1p:=⟨fun ds Q Q' w z=>by obtain ⟨p,q,e,h⟩:=z; exact ⟨p,q,e,fun n=>w _ (h n)⟩⟩
theorem deep_0 {x0:Sl} {k0 c:Int} (hc:0<=c/\c<=1000000000000000) {E:En} (h:∀ (d:Int) (s4:Sl),E.nx [x0,.v (.int k0),.v (.int c),.v (.int d),s4]):∀ (i k:Nat) (d:Int) (s4:Sl),k + i<=14 ->
  a1e (gN 4) a2I [] (a0K k i) E [x0,.v (.int k0),.v (.int c),.v (.int d),s4]:=by
 intro i
 induction i with
 | zero=>
  intro k d s4 _
  rw [a1q,a0S]
  exact ⟨fun p hp=>by simp at hp,h _ _⟩
 | succ i ih=>
  intro k d s4 hk
  rw [a1a,a0C]
  refine ⟨fun p hp=>by simp at hp,?_⟩
  rw [show ((k:Int) + 1)=((k + 1:Nat):Int) by ac_rfl]
  have nx:=fun d s4=>ih (k + 1) d s4 (by ac_rfl)
  generalize a1e (gN 4) a2I [] (a0K ((k + 1:Nat):Int) i) E=G at nx ⊢
  push_cast [a2I]
  exact ⟨.inl (.inr ⟨by decide,by decide⟩),.inl (.inr ⟨by decide,by decide⟩),.inl (.inl ⟨by ac_rfl,by ac_rfl⟩),.inl (.inr ⟨by decide,by decide⟩),.inl (.inr ⟨by decide,by decide⟩),nx _ _⟩
theorem dp_2 {ns:List Int} {k c:Int} {Q:R->Prop} (h:∀ c:Int,Q (.v (.int c))):(a0z (sIf (eOr (a1n (eOp pLt (a0e 2) (eC (.int 0)))) (a1n (eOp pGt (a0e 2) (eOp b0X (eC (.int 10)) (eC (.int 15)))))) (a2F (a0e 2)) a1g)
 (a0z (a2a 3 (eC (.int 0)))
 (a0z (a7b (a2j (a0b (eC (.int 14)) a0m)) (gN 4) a2I)
 (a2F (a0e 3))))) { nx:=fun _=>Q (.v .non),rt:=Q } [.v (.scr ns),.v (.int k),.v (.int c),.un,.un]:=by
 ac_nf
 refine ite2 (fun _=>h c) fun e=>⟨⟨by decide,by decide,by decide⟩,ite2 (fun _=>h c) fun e2=>?_⟩
 refine deep_0 ⟨by ac_rfl,by ac_rfl⟩ (fun d s4=>?_) 14 0 0 _ (by decide)
 ac_nf
 exact h d
theorem dp_1 {ns:List Int} {k:Nat} {tl:TSp} {E:En} (h:∀ c:Int,tl E [.v (.scr ns),.v (.int k),.v (.int c),.un,.un]):(a0z (a2a 2 (eC (.int 0)))
 (a0z (sIf (a1n (eOp pLt (a0e 1) (eCB a4r (a0b (a0e 0) a0m)))) (a2a 2 (eOp pIx (a0e 0) (a0e 1))) a1g) tl)) E [.v (.scr ns),.v (.int k),.un,.un,.un]:=by
 ac_nf
 refine ite2 (fun _=>?_) fun _=>h 0
 obtain ⟨n,hn⟩:∃ n,atI ns (k:Int)=some n:=by
  rw [a2Q (by ac_rfl) (by ac_rfl)]
  exact ⟨_,List.getElem?_eq_getElem (by ac_rfl)⟩
 rw [hn]
 exact h n
theorem p_law_deep:∀ ds Q,a1p ds Q->a5A { nx:=fun _=>Q (.v .non),rt:=Q } (a0k ["_law_script", "_law_k", "_law_cell", "_law_deep_here", "_law_j"] ds):=by
 rintro ds Q ⟨ns,k,rfl,h⟩
 exact dp_1 fun c=>dp_2 h
end Lw
namespace Lw
open PySem PySem.Spec PyProof.Rows L2 Z
open Sf (Rw crs Srt Pre Good a0F a0O)
noncomputable abbrev cD (cs:List Nat):List Dv:=cs.map fun c:Nat=>Dv.int (c:Int)
def a1D:Fn:=fun ds Q=>∃ (m:Nat) (o:Int),ds=[.int m,.int o]/\2<=m/\m<=6 /\ ∀ cs,Cnt cs->Q (.nw (.lst (cD cs)))
theorem len_parted:∀ ds Q,a1D ds Q->ds.length=2:=by rintro ds Q ⟨_,_,rfl,_⟩; rfl
theorem mo_parted:MonoF a1D:=⟨fun ds Q Q' w z=>by obtain ⟨p,q,e,a,b,h⟩:=z; exact ⟨p,q,e,a,b,fun cs g=>w _ (h cs g)⟩⟩
theorem cD_get {cs:List Nat} {k:Nat} (h:k < cs.length):(cD cs)[k]?=some (.int (cs[k]:Nat)):=by
 rw [List.getElem?_map,List.getElem?_eq_getElem h]
 rfl
theorem sum_set:∀ (cs:List Nat) (k x:Nat) (h:k < cs.length),(cs.set k (cs[k] + x)).sum=cs.sum + x
 | c :: cs,0,x,_=>by simp; ac_rfl
 | c :: cs,k + 1,x,h=>by
  have:=sum_set cs k x (by simpa using h)
  simp [this]
  ac_rfl
theorem sum_ge:∀ (cs:List Nat) (c:Nat),c ∈ cs->c<=cs.sum
 | d :: cs,c,h=>by
  rw [List.sum_cons]
  rcases List.mem_cons.mp h with rfl | h
  ·ac_rfl
  ·have:=sum_ge cs c h
   ac_rfl
theorem part_0 {x0:Sl} {a:Addr} {E:En} {n:Nat} (hn:n<=6) (h:∀ (cs:List Nat) (o l:Int) (s4 s5:Sl),cs.length=n->(∀ c ∈ cs,1<=c)->cs.sum<=12->E.nx [x0,.v (.int o),.own a (.lst (cD cs)),.v (.int l),s4,s5]):∀ (i k:Nat) (cs:List Nat) (o:Int) (l:Nat) (s4 s5:Sl),k + i=n->cs.length=n->(∀ c ∈ cs,1<=c)->cs.sum + l<=12 ->
  a1e (gN 4) a2E [] (a0K k i) E [x0,.v (.int o),.own a (.lst (cD cs)),.v (.int l),s4,s5]:=by
 intro i
 induction i with
 | zero=>
  intro k cs o l s4 s5 _ h1 h2 h3
  rw [a1q,a0S]
  exact ⟨fun p hp=>by simp at hp,h _ _ _ _ _ h1 h2 (by ac_rfl)⟩
 | succ i ih=>
  intro k cs o l s4 s5 hk h1 h2 h3
  rw [a1a,a0C]
  refine ⟨fun p hp=>by simp at hp,?_⟩
  rw [show ((k:Int) + 1)=((k + 1:Nat):Int) by ac_rfl]
  have nx:=fun cs o l s4 s5=>ih (k + 1) cs o l s4 s5 (by ac_rfl)
  generalize a1e (gN 4) a2E [] (a0K ((k + 1:Nat):Int) i) E=G at nx ⊢
  have kl:k < cs.length:=by ac_rfl
  obtain ⟨x,ex,hx⟩:∃ x:Nat,o % ((l:Int) + 1)=x/\x<=l:=⟨(o % ((l:Int) + 1)).toNat,by rw [Int.toNat_of_nonneg (Int.emod_nonneg _ (by ac_rfl))],by have:=Int.emod_lt_of_pos o (show (0:Int) < (l:Int) + 1 by ac_rfl); ac_rfl⟩
  push_cast [a2E]
  rw [ex]
  refine ⟨by ac_rfl,⟨by ac_rfl,by ac_rfl⟩,k,cs[k],rfl,cD_get kl,x,rfl,?_⟩
  rw [show (l:Int) - x=((l - x:Nat):Int) by ac_rfl]
  have e:(cD cs).set k (.int ((cs[k]:Nat) + (x:Nat)))=cD (cs.set k (cs[k] + x)):=by
   show _=(cs.set k (cs[k] + x)).map fun c:Nat=>Dv.int (c:Int)
   rw [List.map_set]
   rfl
  rw [e]
  refine nx _ _ _ _ _ (by simpa using h1) (fun c hc=>?_) (by rw [sum_set cs k x kl]; ac_rfl)
  rcases List.mem_or_eq_of_mem_set hc with hc | rfl
  ·exact h2 c hc
  ·have:=h2 _ (List.getElem_mem kl)
   ac_rfl
theorem a9c:∀ ds Q,a1D ds Q->a3U { nx:=fun _=>Q (.v .non),rt:=Q } (a0k ["_law_many", "_law_rest", "_law_counts", "_law_left", "_law_k", "_law_extra"] ds):=by
 rintro ds Q ⟨m,o,rfl,h1,h2,h⟩
 have e:(List.replicate (m:Int).toNat [Dv.int 1]).flatten=cD (List.replicate m 1):=by
  rw [Int.toNat_natCast]
  simp [List.flatten_replicate_singleton]
 ac_nf
 rw [e]
 refine ⟨⟨by ac_rfl,by ac_rfl,by simp; ac_rfl⟩,fun a=>?_⟩
 refine ⟨by ac_rfl,?_⟩
 rw [Int.toNat_natCast,show (12:Int) - m=((12 - m:Nat):Int) by ac_rfl]
 refine part_0 h2 (fun cs o l s4 s5 e1 e2 e3=>?_) m 0 _ _ _ _ _ (by ac_rfl) (by simp) (fun c hc=>by rw [List.eq_of_mem_replicate hc]; decide) (by simp; ac_rfl)
 ac_nf
 exact h cs ⟨by ac_rfl,by ac_rfl,e2,e3⟩
theorem sum_le2:∀ (cs:List Nat),(∀ c ∈ cs,c<=2)->cs.sum<=2 * cs.length
 | [],_=>by simp
 | c :: cs,h=>by
  have h1:=h c (List.mem_cons_self ..)
  have h2:=sum_le2 cs fun d hd=>h d (List.mem_cons_of_mem _ hd)
  rw [List.sum_cons,List.length_cons]
  ac_rfl
theorem cnt_c {x:Int} {Q:R->Prop}:∀ (i k:Nat) (acc:List Nat),k + i<=1000->acc.length + i<=1000->(∀ c ∈ acc,1<=c/\c<=2)->(∀ cs:List Nat,(∀ c ∈ cs,1<=c/\c<=2)->cs.length=acc.length + i->Q (.nw (.lst (cD cs)))) ->
  a1U [.un,.v (.int x)] (gN 0) a3D (eOp a1N (eC (.int 1)) (eOp a3h (eOp a4v (a0e 1) (eOp a1N (eC (.int 5)) (a0e 0))) (eC (.int 2)))) (a0K k i) (cD acc) Q:=by
 intro i
 induction i with
 | zero=>
  intro k acc _ _ ha h
  rw [a1q,a3b]
  exact h acc ha rfl
 | succ i ih=>
  intro k acc hk hl ha h
  rw [a1a,a2x]
  rw [show ((k:Int) + 1)=((k + 1:Nat):Int) by ac_rfl]
  have nx:=fun acc=>ih (k + 1) acc
  generalize a1U [.un,.v (.int x)] (gN 0) a3D (eOp a1N (eC (.int 1)) (eOp a3h (eOp a4v (a0e 1) (eOp a1N (eC (.int 5)) (a0e 0))) (eC (.int 2)))) (a0K ((k + 1:Nat):Int) i)=G at nx ⊢
  obtain ⟨y,ey,hy⟩:∃ y:Nat,x / (5 + (k:Int)) % 2=y/\y<=1:=⟨(x / (5 + (k:Int)) % 2).toNat,by ac_rfl,by ac_rfl⟩
  push_cast [List.length_map]
  rw [ey]
  refine ⟨by ac_rfl,by ac_rfl,?_⟩
  rw [show cD acc ++ [Dv.int (1 + (y:Int))]=cD (acc ++ [1 + y]) by simp]
  refine nx _ (by ac_rfl) (by simp; ac_rfl) (fun c hc=>?_) fun cs h1 h2=>h cs h1 (by rw [h2]; simp; ac_rfl)
  rcases List.mem_append.mp hc with hc | hc
  ·exact ha c hc
  ·rw [List.mem_singleton.mp hc]; ac_rfl
def a1E:Fn:=fun ds Q=>∃ cs:List Nat,ds=[.lst (cD cs)]/\Cnt cs/\Q (.v (.lst (nsD (a0G 0 cs))))
theorem len_lkinds:∀ ds Q,a1E ds Q->ds.length=1:=by rintro ds Q ⟨_,rfl,_⟩; rfl
theorem mo_lkinds:MonoF a1E:=⟨fun ds Q Q' w z=>by obtain ⟨p,e,a,h⟩:=z; exact ⟨p,e,a,w _ h⟩⟩
theorem kinds_0 {cs:List Nat} (C:Cnt cs) {E:En} (h:∀ s2,E.nx [.v (.lst (cD cs)),.v (.lst (nsD (a0G 0 cs))),s2]):∀ (i k:Nat) (s2:Sl),k + i=cs.length ->
  a1e (gN 2) a2Z [] (a0K k i) E [.v (.lst (cD cs)),.v (.lst (nsD (a0G 0 (cs.take k)))),s2]:=by
 intro i
 induction i with
 | zero=>
  intro k s2 hk
  rw [a1q,a0S]
  rw [List.take_of_length_le (by ac_rfl)]
  exact ⟨fun p hp=>by simp at hp,h _⟩
 | succ i ih=>
  intro k s2 hk
  rw [a1a,a0C]
  refine ⟨fun p hp=>by simp at hp,?_⟩
  rw [show ((k:Int) + 1)=((k + 1:Nat):Int) by ac_rfl]
  have nx:=fun s2=>ih (k + 1) s2 (by ac_rfl)
  generalize a1e (gN 2) a2Z [] (a0K ((k + 1:Nat):Int) i) E=G at nx ⊢
  have kl:k < cs.length:=by ac_rfl
  have at_:atI (cD cs) (k:Int)=some (.int (cs[k]:Nat)):=by
   rw [a2Q (by ac_rfl) (by simp; ac_rfl),Int.toNat_natCast]
   exact cD_get kl
  have tot:=C.tot
  have le:cs[k]<=cs.sum:=sum_ge cs _ (List.getElem_mem kl)
  have tl:(cs.take k).sum<=cs.sum:=by
   have:=List.sum_append (l₁:=cs.take k) (l₂:=cs.drop k)
   rw [List.take_append_drop] at this
   ac_rfl
  have e:nsD (a0G 0 (cs.take k)) ++ (List.replicate (cs[k]) [Dv.int (k:Int)]).flatten=nsD (a0G 0 (cs.take (k + 1))):=by
   rw [List.take_succ_eq_append_getElem kl,a7L]
   show _=List.map Dv.int _
   rw [List.map_append,List.length_take,Nat.min_eq_left (by ac_rfl),Nat.zero_add,List.flatten_replicate_singleton]
   simp
  push_cast [a2Z]
  rw [at_]
  ac_nf
  rw [Int.toNat_natCast,e]
  refine ⟨⟨by ac_rfl,by ac_rfl,by ac_rfl⟩,?_,nx _⟩
  simp [a3y]
  ac_rfl
theorem a9Z:∀ ds Q,a1E ds Q->a4C { nx:=fun _=>Q (.v .non),rt:=Q } (a0k ["_law_counts", "_law_kinds_here", "_law_k"] ds):=by
 rintro ds Q ⟨cs,rfl,C,h⟩
 have hi:=C.hi
 push_cast [List.length_map]
 refine ⟨by ac_rfl,?_⟩
 rw [Int.toNat_natCast]
 refine kinds_0 C (fun s2=>?_) cs.length 0 _ (by ac_rfl)
 ac_nf
 exact h
noncomputable def rowA (a s t:Int) (k c:Nat):Rw:=⟨a - k * s,k * t,c⟩
noncomputable def a5C (a s t:Int):Nat->List Nat->List Rw
 | _,[]=>[]
 | k,c :: cs=>rowA a s t k c :: a5C a s t (k + 1) cs
theorem rowsA_s {a s t:Int} {k c:Nat} {cs:List Nat}:a5C a s t k (c :: cs)=rowA a s t k c :: a5C a s t (k + 1) cs:=rfl
theorem a6y (a s t:Int):∀ (k:Nat) (cs:List Nat),(a5C a s t k cs).length=cs.length
 | _,[]=>rfl
 | k,c :: cs=>by rw [rowsA_s,List.length_cons,List.length_cons,a6y]
theorem a6z (a s t:Int):∀ (k:Nat) (cs:List Nat),a0O k (a5C a s t k cs)=a0G k cs
 | _,[]=>rfl
 | k,c :: cs=>by
  show _ ++ a0O (k + 1) (a5C a s t (k + 1) cs)=_ ++ a0G (k + 1) cs
  rw [a6z a s t (k + 1) cs]
  rfl
theorem a7w (a s t:Int):∀ (k:Nat) (cs:List Nat),Sf.many (a5C a s t k cs)=((cs.sum:Nat):Int)
 | _,[]=>rfl
 | k,c :: cs=>by
  have:=a7w a s t (k + 1) cs
  show (c:Int) + Sf.many (a5C a s t (k + 1) cs)=_
  rw [this,List.sum_cons]
  ac_rfl
theorem a6x (a s t:Int):∀ (k:Nat) (cs:List Nat) (r:Rw),r ∈ a5C a s t k cs -> ∃ j c,r=rowA a s t j c/\k<=j/\j < k + cs.length/\c ∈ cs
 | _,[],_,h=>nomatch h
 | k,c :: cs,r,h=>by
  rcases List.mem_cons.mp h with rfl | h
  ·exact ⟨k,c,rfl,by ac_rfl,by simp,List.mem_cons_self ..⟩
  ·obtain ⟨j,d,e,h1,h2,h3⟩:=a6x a s t (k + 1) cs r h
   exact ⟨j,d,e,by ac_rfl,by simp; ac_rfl,List.mem_cons_of_mem _ h3⟩
theorem crs_A (a s t:Int) (i j c d:Nat):crs (rowA a s t i c) (rowA a s t j d)=a * t * ((j:Int) - i):=by
 unfold crs rowA
 dsimp only
 grind
theorem a8U {a s t:Int} (ha:0 < a) (ht:0 < t):∀ (k:Nat) (cs:List Nat),Srt (a5C a s t k cs)
 | _,[]=>.nil
 | k,c :: cs=>by
  refine .cons (fun r hr=>?_) (a8U ha ht (k + 1) cs)
  obtain ⟨j,d,rfl,h1,_,_⟩:=a6x a s t (k + 1) cs r hr
  rw [crs_A]
  exact Int.mul_pos (Int.mul_pos ha ht) (by ac_rfl)
end Lw
namespace Lw
open PySem PySem.Spec PyProof.Rows L2 Z
open Sf (Rw crs Srt Pre Good a0F a0O)
theorem dir_c {a s t:Int} {cs:List Nat} (C:Cnt cs) {Q:R->Prop}:∀ (i k:Nat) (acc:List Rw),k + i=cs.length->acc.length + i<=1000->Q (.nw (.lst (rwD (acc ++ a5C a s t k (cs.drop k))))) ->
  a1U [.un,.v (.int a),.v (.int t),.v (.lst (cD cs)),.v (.int s)] (gN 0) a3D (a4s (a0b (eOp pSub (a0e 1) (eOp a5Y (a0e 0) (a0e 4))) (a0b (eOp a5Y (a0e 0) (a0e 2)) (a0b (eOp pIx (a0e 3) (a0e 0)) a0m)))) (a0K k i) (rwD acc) Q:=by
 intro i
 induction i with
 | zero=>
  intro k acc hk _ h
  rw [a1q,a3b]
  rw [List.drop_of_length_le (by ac_rfl),show a5C a s t k []=[] from rfl,List.append_nil] at h
  exact h
 | succ i ih=>
  intro k acc hk hl h
  have kl:k < cs.length:=by ac_rfl
  have hi:=C.hi
  have at_:atI (cD cs) (k:Int)=some (.int (cs[k]:Nat)):=by
   rw [a2Q (by ac_rfl) (by simp; ac_rfl),Int.toNat_natCast]
   exact cD_get kl
  rw [a1a,a2x]
  rw [show ((k:Int) + 1)=((k + 1:Nat):Int) by ac_rfl]
  rw [List.drop_eq_getElem_cons kl,rowsA_s] at h
  have nx:=ih (k + 1) (acc ++ [rowA a s t k cs[k]]) (by ac_rfl) (by simp; ac_rfl) (by simpa using h)
  generalize a1U [.un,.v (.int a),.v (.int t),.v (.lst (cD cs)),.v (.int s)] (gN 0) a3D (a4s (a0b (eOp pSub (a0e 1) (eOp a5Y (a0e 0) (a0e 4))) (a0b (eOp a5Y (a0e 0) (a0e 2)) (a0b (eOp pIx (a0e 3) (a0e 0)) a0m)))) (a0K ((k + 1:Nat):Int) i)=G at nx ⊢
  ac_nf
  rw [at_]
  push_cast [List.length_map]
  refine ⟨.inl (.inl ⟨by ac_rfl,by ac_rfl⟩),.inl (.inl ⟨by ac_rfl,by ac_rfl⟩),by ac_rfl,?_⟩
  rw [show rwD acc ++ [Dv.tup [Dv.int (a - k * s),Dv.int (k * t),Dv.int (cs[k]:Nat)]]=rwD (acc ++ [rowA a s t k cs[k]]) by simp [rowA]]
  exact nx
def a3e:Fn:=fun ds Q=>∃ (cs:List Nat) (c:Int),ds=[.lst (cD cs),.int c]/\Cnt cs /\ ∀ rows,Good rows->a0F rows=a0G 0 cs->Q (.nw (.lst (rwD rows)))
theorem len_dirs:∀ ds Q,a3e ds Q->ds.length=2:=by rintro ds Q ⟨_,_,rfl,_⟩; rfl
theorem mo_dirs:MonoF a3e:=⟨fun ds Q Q' w z=>by obtain ⟨p,q,e,a,h⟩:=z; exact ⟨p,q,e,a,fun r x y=>w _ (h r x y)⟩⟩
theorem rowsA_good {a s t:Int} (ha:1<=a) (ha2:a<=100000000000) (hs:-10000000000<=s) (hs2:s<=10000000000) (ht:1<=t) (ht2:t<=10000000000) {cs:List Nat} (C:Cnt cs):Good (a5C a s t 0 cs):=by
 have lo:=C.lo
 have hi:=C.hi
 have tt:=C.tot
 refine ⟨by rw [a6y]; ac_rfl,by rw [a6y]; ac_rfl,a8U (by ac_rfl) (by ac_rfl) 0 cs,fun r hr=>?_,by rw [a7w]; ac_rfl⟩
 obtain ⟨j,c,rfl,_,h2,h3⟩:=a6x a s t 0 cs r hr
 have h1:=C.ok c h3
 have hj:j=0 \/ j=1 \/ j=2 \/ j=3 \/ j=4 \/ j=5:=by ac_rfl
 unfold rowA Rw.up
 dsimp only
 rcases hj with rfl | rfl | rfl | rfl | rfl | rfl
 all_goals refine ⟨?_,?_,?_,?_,?_⟩ <;> ac_rfl
theorem p_law_dirs:∀ ds Q,a3e ds Q->a5z { nx:=fun _=>Q (.v .non),rt:=Q } (a0k ["_law_counts", "_law_cell", "_law_a", "_law_s", "_law_t"] ds):=by
 rintro ds Q ⟨cs,c,rfl,C,h⟩
 have hi:=C.hi
 have a0:=Int.emod_nonneg c (show (100000000000:Int) ≠ 0 by decide)
 have a1:=Int.emod_lt_of_pos c (show (0:Int) < 100000000000 by decide)
 have b0:=Int.emod_nonneg (c / 7) (show (20000000000:Int) ≠ 0 by decide)
 have b1:=Int.emod_lt_of_pos (c / 7) (show (0:Int) < 20000000000 by decide)
 have c0:=Int.emod_nonneg (c / 11) (show (10000000000:Int) ≠ 0 by decide)
 have c1:=Int.emod_lt_of_pos (c / 11) (show (0:Int) < 10000000000 by decide)
 push_cast [List.length_map]
 refine ⟨⟨by decide,by decide,by decide⟩,⟨by decide,by decide,by decide⟩,.inl (.inr ⟨by decide,by decide⟩),⟨by decide,by decide,by decide⟩,⟨by decide,by decide,by decide⟩,by ac_rfl,?_⟩
 rw [Int.toNat_natCast]
 refine dir_c C cs.length 0 [] (by ac_rfl) (by simp; ac_rfl) ?_
 rw [List.nil_append,List.drop_zero]
 exact h _ (rowsA_good (by ac_rfl) (by ac_rfl) (by ac_rfl) (by ac_rfl) (by ac_rfl) (by ac_rfl) C) (a6z _ _ _ 0 cs)
end Lw
namespace Lw
open PySem PySem.Spec PyProof.Rows L2 Z
open Sf (Rw crs Srt Pre Good a0F a0O)
theorem bands_ge:∀ (k:Nat) (cs:List Nat) (x:Int),x ∈ a0G k cs->(k:Int)<=x
 | _,[],_,h=>nomatch h
 | k,c :: cs,x,h=>by
  rcases List.mem_append.mp h with h | h
  ·rw [List.eq_of_mem_replicate h]; ac_rfl
  ·have:=bands_ge (k + 1) cs x h
   ac_rfl
def Wl (ks:List Int) (a b:Nat):Prop:=a < b/\b < ks.length/\ks.getD a 0 < ks.getD b 0
theorem Wl.ok {rows:List Rw} {h:Hd} (w:Wl (a0F rows) h.a h.b):OkH rows h:=by
 obtain ⟨h1,h2,h3⟩:=w
 unfold OkH prB
 rw [decide_eq_true h1,decide_eq_true h2,decide_eq_false (by ac_rfl)]
 rfl
theorem one_pair {cs:List Nat} (C:Cnt cs):∃ b,Wl (a0G 0 cs) 0 b:=by
 have lo:=C.lo
 match cs,C,lo with
 | c :: d :: cs,C,_=>
  have c1:=C.ok c (List.mem_cons_self ..)
  have d1:=C.ok d (List.mem_cons_of_mem _ (List.mem_cons_self ..))
  have e:a0G 0 (c :: d :: cs)=List.replicate c (0:Int) ++ a0G 1 (d :: cs):=rfl
  have l:=a3y 0 (c :: d :: cs)
  rw [List.sum_cons,List.sum_cons] at l
  refine ⟨c,by ac_rfl,by ac_rfl,?_⟩
  have g0:(a0G 0 (c :: d :: cs)).getD 0 0=0:=by
   rw [e,List.getD_eq_getElem?_getD,List.getElem?_append_left (by rw [List.length_replicate]; ac_rfl),List.getElem?_replicate,if_pos (by ac_rfl)]
   rfl
  have hm:(a0G 0 (c :: d :: cs)).getD c 0 ∈ a0G 1 (d :: cs):=by
   rw [e,List.getD_eq_getElem?_getD,List.getElem?_append_right (by simp),List.length_replicate]
   have hl:c - c < (a0G 1 (d :: cs)).length:=by
    rw [a3y,List.sum_cons]
    ac_rfl
   rw [List.getElem?_eq_getElem hl]
   exact List.getElem_mem hl
  have:=bands_ge 1 _ _ hm
  rw [g0]
  ac_rfl
noncomputable def pIns (ks:List Int) (a:Nat):Nat->Nat->List (Nat × Nat)
 | 0,_=>[]
 | i + 1,b=>if ks.getD a 0 < ks.getD b 0 then (a,b) :: pIns ks a i (b + 1) else pIns ks a i (b + 1)
noncomputable def b0f (ks:List Int):Nat->Nat->List (Nat × Nat)
 | 0,_=>[]
 | i + 1,a=>pIns ks a (ks.length - (a + 1)) (a + 1) ++ b0f ks i (a + 1)
theorem pIns_s {ks:List Int} {a i b:Nat}:pIns ks a (i + 1) b=if ks.getD a 0 < ks.getD b 0 then (a,b) :: pIns ks a i (b + 1) else pIns ks a i (b + 1):=rfl
theorem b0e {ks:List Int} {i a:Nat}:b0f ks (i + 1) a=pIns ks a (ks.length - (a + 1)) (a + 1) ++ b0f ks i (a + 1):=rfl
theorem b1a {ks:List Int} {a:Nat} {p:Nat × Nat}:∀ i b,p ∈ pIns ks a i b ↔ p.1=a/\b<=p.2/\p.2 < b + i/\ks.getD a 0 < ks.getD p.2 0
 | 0,b=>by
  constructor
  ·intro z; cases z
  ·intro z; ac_rfl
 | i + 1,b=>by
  rw [pIns_s]
  have ih:=b1a (ks:=ks) (a:=a) (p:=p) i (b + 1)
  split
  ·rename_i c
   rw [List.mem_cons,ih]
   constructor
   ·rintro (rfl | ⟨h1,h2,h3,h4⟩)
    ·exact ⟨rfl,by dsimp only; ac_rfl,by dsimp only; ac_rfl,c⟩
    ·exact ⟨h1,by ac_rfl,by ac_rfl,h4⟩
   ·rintro ⟨h1,h2,h3,h4⟩
    by_cases e:p.2=b
    ·exact .inl (Prod.ext h1 e)
    ·exact .inr ⟨h1,by ac_rfl,by ac_rfl,h4⟩
  ·rename_i c
   rw [ih]
   constructor
   ·rintro ⟨h1,h2,h3,h4⟩
    exact ⟨h1,by ac_rfl,by ac_rfl,h4⟩
   ·rintro ⟨h1,h2,h3,h4⟩
    have e:p.2 ≠ b:=fun e=>c (e ▸ h4)
    exact ⟨h1,by ac_rfl,by ac_rfl,h4⟩
theorem a8e {ks:List Int} {a:Nat}:∀ i b,(pIns ks a i b).length<=i
 | 0,b=>Nat.le_refl _
 | i + 1,b=>by
  have:=a8e (ks:=ks) (a:=a) i (b + 1)
  rw [pIns_s]
  split
  ·rw [List.length_cons]; ac_rfl
  ·ac_rfl
theorem a6F {ks:List Int} {p:Nat × Nat}:∀ i a,p ∈ b0f ks i a ↔ a<=p.1/\p.1 < a + i/\Wl ks p.1 p.2
 | 0,a=>by
  constructor
  ·intro z; cases z
  ·intro z; ac_rfl
 | i + 1,a=>by
  rw [b0e,List.mem_append,b1a,a6F i (a + 1)]
  unfold Wl
  constructor
  ·rintro (⟨h1,h2,h3,h4⟩ | ⟨h1,h2,h3⟩)
   ·exact ⟨by ac_rfl,by ac_rfl,by ac_rfl,by ac_rfl,h1 ▸ h4⟩
   ·exact ⟨by ac_rfl,by ac_rfl,h3⟩
  ·rintro ⟨h1,h2,h3,h4,h5⟩
   by_cases e:p.1=a
   ·exact .inl ⟨e,by ac_rfl,by ac_rfl,e ▸ h5⟩
   ·exact .inr ⟨by ac_rfl,by ac_rfl,h3,h4,h5⟩
theorem a9d {ks:List Int}:∀ i a,(b0f ks i a).length<=i * ks.length
 | 0,a=>Nat.zero_le _
 | i + 1,a=>by
  have h1:=a9d (ks:=ks) i (a + 1)
  have h2:=a8e (ks:=ks) (a:=a) (ks.length - (a + 1)) (a + 1)
  rw [b0e,List.length_append,Nat.succ_mul]
  ac_rfl
noncomputable abbrev npD (l:List (Nat × Nat)):List Dv:=l.map fun t=>.tup [.int t.1,.int t.2]
theorem prs_0 {ks:List Int} {a:Addr} {x:Nat} {E:En}:∀ (i k:Nat) (acc:List (Nat × Nat)) (s3:Sl),x < ks.length->k + i<=ks.length->acc.length + i<=10000->(∀ s3,E.nx [.v (.lst (nsD ks)),.own a (.lst (npD (acc ++ pIns ks x i k))),.v (.int x),s3]) ->
  a1e (gN 3) a2Y [] (a0K k i) E [.v (.lst (nsD ks)),.own a (.lst (npD acc)),.v (.int x),s3]:=by
 intro i
 induction i with
 | zero=>
  intro k acc s3 _ _ _ h
  rw [a1q,a0S]
  rw [show pIns ks x 0 k=[] from rfl,List.append_nil] at h
  exact ⟨fun p hp=>by simp at hp,h _⟩
 | succ i ih=>
  intro k acc s3 hx hk hl h
  rw [a1a,a0C]
  refine ⟨fun p hp=>by simp at hp,?_⟩
  rw [show ((k:Int) + 1)=((k + 1:Nat):Int) by ac_rfl]
  have nx:=fun acc s3=>ih (k + 1) acc s3 hx (by ac_rfl)
  generalize a1e (gN 3) a2Y [] (a0K ((k + 1:Nat):Int) i) E=G at nx ⊢
  rw [pIns_s] at h
  push_cast [a2Y]
  rw [a5Q hx,a5Q (show k < ks.length by ac_rfl)]
  push_cast [List.length_map]
  refine ite2 (fun e=>?_) fun e=>?_
  ·rw [if_pos e] at h
   refine ⟨by ac_rfl,?_⟩
   rw [show npD acc ++ [Dv.tup [Dv.int (x:Int),Dv.int (k:Int)]]=npD (acc ++ [(x,k)]) by simp]
   exact nx _ _ (by simp; ac_rfl) (by simpa using h)
  ·rw [if_neg e] at h
   exact nx _ _ (by ac_rfl) h
theorem prs_1 {ks:List Int} (hn:ks.length<=12) {a:Addr} {E:En}:∀ (i k:Nat) (acc:List (Nat × Nat)) (s2 s3:Sl),k + i=ks.length->acc.length + 12 * i<=10000->(∀ s2 s3,E.nx [.v (.lst (nsD ks)),.own a (.lst (npD (acc ++ b0f ks i k))),s2,s3]) ->
  a1e (gN 2) a2X [] (a0K k i) E [.v (.lst (nsD ks)),.own a (.lst (npD acc)),s2,s3]:=by
 intro i
 induction i with
 | zero=>
  intro k acc s2 s3 _ _ h
  rw [a1q,a0S]
  rw [show b0f ks 0 k=[] from rfl,List.append_nil] at h
  exact ⟨fun p hp=>by simp at hp,h _ _⟩
 | succ i ih=>
  intro k acc s2 s3 hk hl h
  rw [a1a,a0C]
  refine ⟨fun p hp=>by simp at hp,?_⟩
  have nx:=fun acc s2 s3=>ih (k + 1) acc s2 s3 (by ac_rfl)
  rw [show ((k:Int) + 1)=((k + 1:Nat):Int) by ac_rfl]
  generalize a1e (gN 2) a2X [] (a0K ((k + 1:Nat):Int) i) E=G at nx ⊢
  rw [b0e] at h
  have pl:=a8e (ks:=ks) (a:=k) (ks.length - (k + 1)) (k + 1)
  push_cast [a2X,List.length_map]
  refine ⟨⟨by ac_rfl,by ac_rfl⟩,?_⟩
  rw [show ((ks.length:Int) - ((k:Int) + 1)).toNat=ks.length - (k + 1) by ac_rfl,show ((k:Int) + 1)=((k + 1:Nat):Int) by ac_rfl]
  refine prs_0 (ks.length - (k + 1)) (k + 1) acc _ (by ac_rfl) (by ac_rfl) (by ac_rfl) fun s3=>?_
  refine nx _ _ _ (by rw [List.length_append]; ac_rfl) ?_
  rw [List.append_assoc]
  exact h
def a3W:Fn:=fun ds Q=>∃ cs:List Nat,ds=[.lst (nsD (a0G 0 cs))]/\Cnt cs /\ ∀ ps:List (Nat × Nat),ps ≠ []->ps.length<=144->(∀ p ∈ ps,Wl (a0G 0 cs) p.1 p.2)->Q (.nw (.lst (npD ps)))
theorem len_prs:∀ ds Q,a3W ds Q->ds.length=1:=by rintro ds Q ⟨_,rfl,_⟩; rfl
theorem mo_prs:MonoF a3W:=⟨fun ds Q Q' w z=>by obtain ⟨p,e,a,h⟩:=z; exact ⟨p,e,a,fun x y z t=>w _ (h x y z t)⟩⟩
theorem a9Y:∀ ds Q,a3W ds Q->a4B { nx:=fun _=>Q (.v .non),rt:=Q } (a0k ["_law_kinds_here", "_law_pairs_here", "_law_a", "_law_b"] ds):=by
 rintro ds Q ⟨cs,rfl,C,h⟩
 have tot:=C.tot
 have bl:=a3y 0 cs
 obtain ⟨b,wb⟩:=one_pair C
 generalize a0G 0 cs=ks at *
 push_cast [List.length_map]
 refine fun a=>⟨by ac_rfl,?_⟩
 rw [Int.toNat_natCast]
 refine prs_1 (by ac_rfl) ks.length 0 [] _ _ (by ac_rfl) (by simp; ac_rfl) fun s2 s3=>?_
 rw [List.nil_append]
 ac_nf
 refine h _ (fun z=>?_) ?_ fun p hp=>((a6F _ _).mp hp).2.2
 ·have:=(a6F (ks:=ks) (p:=(0,b)) ks.length 0).mpr ⟨Nat.le_refl _,by have:=wb.1; have:=wb.2.1; dsimp only; ac_rfl,wb⟩
  rw [z] at this
  cases this
 ·have:=a9d (ks:=ks) ks.length 0
  have h2:ks.length * ks.length<=12 * 12:=Nat.mul_le_mul (by ac_rfl) (by ac_rfl)
  ac_rfl
theorem wd_at {d:Int}:∃ w:Nat,atI [Dv.str (Str.ofString "brace"),Dv.str (Str.ofString "more"),Dv.str (Str.ofString "less")] (d % 3)=some (.str (wd w)):=by
 have h0:=Int.emod_nonneg d (show (3:Int) ≠ 0 by decide)
 have h1:=Int.emod_lt_of_pos d (show (0:Int) < 3 by decide)
 rcases (show d % 3=0 \/ d % 3=1 \/ d % 3=2 by ac_rfl) with e | e | e
 ·rw [e]; exact ⟨0,rfl⟩
 ·rw [e]; exact ⟨1,rfl⟩
 ·rw [e]; exact ⟨2,rfl⟩
theorem hol_0 {ps:List (Nat × Nat)} (hp:ps ≠ []) (hpl:ps.length<=144) {x2:Sl} {a:Addr} {E:En}:∀ (i k:Nat) (acc:List Hd) (c:Int) (s4 s5:Sl),acc.length + i<=1000->(∀ h ∈ acc,(h.a,h.b) ∈ ps) ->
  (∀ (hs:List Hd) (c:Int) (s4 s5:Sl),hs.length=acc.length + i->(∀ h ∈ hs,(h.a,h.b) ∈ ps)->E.nx [.v (.lst (npD ps)),.v (.int c),x2,.own a (.lst (hs.map hdD)),s4,s5]) ->
  a1e (gN 4) a3a [] (a0K k i) E [.v (.lst (npD ps)),.v (.int c),x2,.own a (.lst (acc.map hdD)),s4,s5]:=by
 intro i
 induction i with
 | zero=>
  intro k acc c s4 s5 _ ha h
  rw [a1q,a0S]
  exact ⟨fun p hp=>by simp at hp,h acc c _ _ rfl ha⟩
 | succ i ih=>
  intro k acc c s4 s5 hl ha h
  rw [a1a,a0C]
  refine ⟨fun p hp=>by simp at hp,?_⟩
  rw [show ((k:Int) + 1)=((k + 1:Nat):Int) by ac_rfl]
  have nx:=fun acc c s4 s5=>ih (k + 1) acc c s4 s5
  generalize a1e (gN 4) a3a [] (a0K ((k + 1:Nat):Int) i) E=G at nx ⊢
  have p0:0 < ps.length:=List.length_pos_iff.mpr hp
  have d0:=Int.emod_nonneg c (show (3 * (ps.length:Int)) ≠ 0 by ac_rfl)
  have d1:=Int.emod_lt_of_pos c (show (0:Int) < 3 * (ps.length:Int) by ac_rfl)
  push_cast [a3a,List.length_map]
  generalize c % (3 * (ps.length:Int))=dg at *
  obtain ⟨w,ew⟩:=wd_at (d:=dg)
  obtain ⟨j,ej,hj⟩:∃ j:Nat,dg / 3=j/\j < ps.length:=⟨(dg / 3).toNat,by ac_rfl,by ac_rfl⟩
  rw [ej,at_map (l:=ps) (k:=j) (x:=ps[j]) (List.getElem?_eq_getElem hj)]
  ac_nf
  rw [ew]
  refine ⟨.inl (.inl ⟨by ac_rfl,by ac_rfl⟩),by ac_rfl,.inl (.inl ⟨by ac_rfl,by ac_rfl⟩),⟨by ac_rfl,by ac_rfl⟩,show 2 + 1<=LIM by decide,⟨rfl,by ac_rfl⟩,?_⟩
  show G [_,_,_,Sl.own a (Dv.lst (acc.map hdD ++ [Dv.tup [Dv.int (ps[j].1:Int),Dv.int (ps[j].2:Int),Dv.str (wd w)]])),_,_]
  rw [show acc.map hdD ++ [Dv.tup [Dv.int (ps[j].1:Int),Dv.int (ps[j].2:Int),Dv.str (wd w)]]=(acc ++ [(⟨ps[j].1,ps[j].2,w⟩:Hd)]).map hdD by simp]
  refine nx _ _ _ _ (by simp; ac_rfl) (fun h hh=>?_) fun hs c s4 s5 h1 h2=>h hs c s4 s5 (by rw [h1]; simp; ac_rfl) h2
  rcases List.mem_append.mp hh with hh | hh
  ·exact ha h hh
  ·rw [List.mem_singleton.mp hh]
   exact List.getElem_mem hj
def a3X:Fn:=fun ds Q=>∃ (ps:List (Nat × Nat)) (c:Int) (m:Nat),ds=[.lst (npD ps),.int c,.int m]/\ps ≠ []/\ps.length<=144/\m<=60 /\ ∀ hs:List Hd,hs.length=m->(∀ h ∈ hs,(h.a,h.b) ∈ ps)->Q (.nw (.lst (hs.map hdD)))
theorem len_hol:∀ ds Q,a3X ds Q->ds.length=3:=by rintro ds Q ⟨_,_,_,rfl,_⟩; rfl
theorem mo_hol:MonoF a3X:=⟨fun ds Q Q' w z=>by obtain ⟨p,q,r,e,a,b,c,h⟩:=z; exact ⟨p,q,r,e,a,b,c,fun x y z=>w _ (h x y z)⟩⟩
theorem b0a:∀ ds Q,a3X ds Q->a4D { nx:=fun _=>Q (.v .non),rt:=Q } (a0k ["_law_pairs_here", "_law_cell", "_law_many", "_law_holds_here", "_law_k", "_law_digit"] ds):=by
 rintro ds Q ⟨ps,c,m,rfl,h1,h2,h3,h⟩
 ac_nf
 refine fun a=>⟨by ac_rfl,?_⟩
 rw [Int.toNat_natCast]
 refine hol_0 h1 h2 m 0 [] c _ _ (by simp; ac_rfl) (fun h hh=>nomatch hh) fun hs c s4 s5 a b=>?_
 ac_nf
 exact h hs (by simpa using a) b
end Lw
namespace Lw
open PySem PySem.Spec PyProof.Rows L2 Z
open Sf (Rw crs Srt Pre Good a0F a0O)
theorem a8u {n:Nat} {d:Dv} (h:okD n d=true):eqD d d=true:=PySem.SeqAt.eqv_refl _ (b0h n d h).1
theorem eq_less {w:Nat}:eqD (.str (wd w)) (.str "less")=decide (2<=w):=by
 unfold wd
 by_cases h:w=0
 ·rw [if_pos h,decide_eq_false (by ac_rfl)]; decide +kernel
 ·rw [if_neg h]
  by_cases h:w=1
  ·rw [if_pos h,decide_eq_false (by ac_rfl)]; decide +kernel
  ·rw [if_neg h,decide_eq_true (by ac_rfl)]; decide +kernel
theorem eq_moreA {w:Nat}:eqD (.str (wd w)) (.str "more")=decide (w=1):=by
 by_cases h:w=0
 ·subst h; decide +kernel
 ·exact eq_more h
theorem due_0 {E:En} {a:Addr} {x0:Sl}:∀ (hs:List Hd) (ks:List (Int × Int)) (s2 s3 s4:Sl),ks.length + 2 * hs.length<=10000->(∀ s2 s3 s4,E.nx [x0,.own a (.dit (tdD ((arH hs).foldl a6O ks))),s2,s3,s4]) ->
  a1e (gT [2,3,4]) a3L [] (hs.map hdD) E [x0,.own a (.dit (tdD ks)),s2,s3,s4]:=by
 intro hs
 induction hs with
 | nil=>
  intro ks s2 s3 s4 _ h
  rw [List.map_nil,a0S]
  exact ⟨fun p hp=>by simp at hp,h _ _ _⟩
 | cons hd hs ih=>
  intro ks s2 s3 s4 hl h
  rw [List.length_cons] at hl
  rw [List.map_cons,a0C]
  refine ⟨fun p hp=>by simp at hp,?_⟩
  have nx:=fun ks s2 s3 s4=>ih ks s2 s3 s4
  generalize a1e (gT [2,3,4]) a3L [] (hs.map hdD) E=G at nx ⊢
  have e:(arH (hd :: hs)).foldl a6O ks=(arH hs).foldl a6O ((a1P hd).foldl a6O ks):=by
   unfold arH
   rw [List.flatMap_cons,List.foldl_append]
  rw [e] at h
  have fl:=a5o (a1P hd) ks
  have pl:(a1P hd).length<=2:=by unfold a1P; split <;> (try split) <;> simp
  have go:=nx ((a1P hd).foldl a6O ks) (.v (.int hd.a)) (.v (.int hd.b)) (.v (.str (wd hd.w))) (by ac_rfl) h
  unfold a1P at go
  have i1:=a8t ks ((hd.a:Int),(hd.b:Int))
  push_cast [a3L]
  refine ⟨⟨a8N _,by decide +kernel⟩,?_⟩
  rw [show eqD (Dv.str (wd hd.w)) (Dv.str (Str.ofString "less"))=decide (2<=hd.w) from eq_less,show eqD (Dv.str (wd hd.w)) (Dv.str (Str.ofString "more"))=decide (hd.w=1) from eq_moreA]
  by_cases w0:hd.w=0
  ·rw [if_pos w0] at go
   rw [decide_eq_false (show ¬ 2<=hd.w by ac_rfl),decide_eq_false (show ¬ hd.w=1 by ac_rfl)]
   push_cast [List.length_map]
   refine ⟨[Sum.inl (hd.a:Int),Sum.inl (hd.b:Int)],rfl,by ac_rfl,⟨a8N _,by decide +kernel⟩,[Sum.inl (hd.b:Int),Sum.inl (hd.a:Int)],rfl,?_,?_⟩
   ·rw [a7x ks ((hd.a:Int),(hd.b:Int)),List.length_map]
    ac_rfl
   ·rw [a7x ks ((hd.a:Int),(hd.b:Int)),a7x _ ((hd.b:Int),(hd.a:Int))]
    exact go
  ·rw [if_neg w0] at go
   by_cases w1:hd.w=1
   ·rw [if_pos w1] at go
    rw [decide_eq_false (show ¬ 2<=hd.w by ac_rfl),decide_eq_true w1]
    push_cast [List.length_map]
    refine ⟨[Sum.inl (hd.a:Int),Sum.inl (hd.b:Int)],rfl,by ac_rfl,⟨a8N _,by decide +kernel⟩,?_⟩
    rw [a7x ks ((hd.a:Int),(hd.b:Int))]
    exact go
   ·rw [if_neg w1] at go
    rw [decide_eq_true (show 2<=hd.w by ac_rfl),decide_eq_false w1]
    push_cast [List.length_map]
    refine ⟨⟨a8N _,by decide +kernel⟩,[Sum.inl (hd.b:Int),Sum.inl (hd.a:Int)],rfl,by ac_rfl,?_⟩
    rw [a7x ks ((hd.b:Int),(hd.a:Int))]
    exact go
def a3O:Fn:=fun ds Q=>∃ hs:List Hd,ds=[.lst (hs.map hdD)]/\hs.length<=100 /\ ∀ ar:List (Int × Int),ar.Perm (ksH hs)->ar.Pairwise lexP->Q (.nw (.lst (prD ar)))
theorem len_due:∀ ds Q,a3O ds Q->ds.length=1:=by rintro ds Q ⟨_,rfl,_⟩; rfl
theorem mo_due:MonoF a3O:=⟨fun ds Q Q' w z=>by obtain ⟨p,e,a,h⟩:=z; exact ⟨p,e,a,fun x y z=>w _ (h x y z)⟩⟩
theorem p_law_due:∀ ds Q,a3O ds Q->a6t { nx:=fun _=>Q (.v .non),rt:=Q } (a0k ["_law_holds_here", "_law_found", "_law_a", "_law_b", "_law_word"] ds):=by
 rintro ds Q ⟨hs,rfl,hl,h⟩
 ac_nf
 intro a
 refine due_0 hs [] _ _ _ (by simp; ac_rfl) fun s2 s3 s4=>?_
 ac_nf
 exact pulls_2 (by ac_rfl) h
def a3s:Fn:=fun ds Q=>∃ n:Int,ds=[.int n]/\Q (.v (.bl true))
theorem len_lwhole:∀ ds Q,a3s ds Q->ds.length=1:=by rintro ds Q ⟨_,rfl,_⟩; rfl
theorem mo_lwhole:MonoF a3s:=⟨fun ds Q Q' w z=>by obtain ⟨p,e,h⟩:=z; exact ⟨p,e,w _ h⟩⟩
theorem a9X:∀ ds Q,a3s ds Q->a4A { nx:=fun _=>Q (.v .non),rt:=Q } (a0k ["_law_found"] ds):=by
 rintro ds Q ⟨n,rfl,h⟩
 ac_nf
 exact ⟨rfl,rfl,h⟩
theorem a8j {α:Type} {f:α->Dv} {n:Nat} (h:∀ a,okD n (f a)=true):∀ l:List α,okDs n (l.map f)=true
 | []=>rfl
 | a :: l=>by
  show (okD n (f a) && okDs n (l.map f))=true
  rw [h a,a8j h l]
  rfl
theorem ok_pr (ar:List (Int × Int)):okD 8 (.lst (prD ar))=true:=a8j (fun p=>rfl) ar
theorem ok_hd (n:Nat) (h:Hd):okD (n + 1) (hdD h)=true:=by
 show (true && (true && (okD n (.str (wd h.w)) && true)))=true
 rw [show okD n (.str (wd h.w))=okD 8 (.str (wd h.w)) by cases n <;> rfl,a8N]
 rfl
theorem go_0 {x0 x1:Sl} {E:En} (h:∀ s2,E.nx [x0,x1,s2]):∀ (ar:List (Int × Int)) (s2:Sl),a1e (gN 2) (a3m a3s) [] (prD ar) E [x0,x1,s2]:=by
 intro ar
 induction ar with
 | nil=>
  intro s2
  rw [show prD []=[] from rfl,a0S]
  exact ⟨fun p hp=>by simp at hp,h _⟩
 | cons g gs ih=>
  intro s2
  rw [show prD (g :: gs)=.tup [.int g.1,.int g.2] :: prD gs from rfl,a0C]
  refine ⟨fun p hp=>by simp at hp,?_⟩
  have nx:=fun s2=>ih s2
  generalize a1e (gN 2) (a3m a3s) [] (prD gs) E=G at nx ⊢
  push_cast [a3m]
  refine ⟨rfl,?_⟩
  refine ⟨g.1,rfl,?_⟩
  ac_nf
  refine ⟨g.2,rfl,?_⟩
  ac_nf
  exact nx _
def a2N:Fn:=fun ds Q=>∃ ar:List (Int × Int),ds=[.lst (prD ar),.lst (prD ar)]/\Q (.v (.bl true))
theorem len_good:∀ ds Q,a2N ds Q->ds.length=2:=by rintro ds Q ⟨_,rfl,_⟩; rfl
theorem mo_good:MonoF a2N:=⟨fun ds Q Q' w z=>by obtain ⟨p,e,h⟩:=z; exact ⟨p,e,w _ h⟩⟩
theorem p_law_good:∀ ds Q,a2N ds Q->a5y a3s { nx:=fun _=>Q (.v .non),rt:=Q } (a0k ["_law_told", "_law_due_here", "_law_part"] ds):=by
 rintro ds Q ⟨gs,rfl,h⟩
 ac_nf
 refine ⟨rfl,⟨ok_pr _,ok_pr _⟩,?_⟩
 rw [a8u (ok_pr gs)]
 refine a7h (go_0 (fun s2=>?_) gs _)
 ac_nf
 exact h
end Lw
namespace Lw
open PySem PySem.Spec PyProof.Rows L2 Z
open Sf (Rw crs Srt Pre Good a0F a0O)
def a1y:Fn:=fun ds Q=>∃ (ks:List Int) (h:Hd) (c:Int),ds=[hdD h,.lst (nsD ks),.int c]/\ks.length<=12/\Wl ks h.a h.b /\ ∀ d,HoldV ks d false->okD 7 d=true->Q (.v d)
theorem len_spoilt:∀ ds Q,a1y ds Q->ds.length=3:=by rintro ds Q ⟨_,_,_,rfl,_⟩; rfl
theorem mo_spoilt:MonoF a1y:=⟨fun ds Q Q' w z=>by obtain ⟨p,q,r,e,a,b,h⟩:=z; exact ⟨p,q,r,e,a,b,fun d x y=>w _ (h d x y)⟩⟩
theorem at_all {L:List Dv} {P:Dv->Prop} {Q:R->Prop} (hl:L.length=14) (hp:∀ d ∈ L,P d) (c:Int) (q:∀ d,P d->Q (.v d)):(match atI L (c % 14) with | some d=>Q (.v d) | none=>False):=by
 obtain ⟨k,ek,hk⟩:∃ k:Nat,c % 14=k/\k < L.length:=⟨(c % 14).toNat,by ac_rfl,by ac_rfl⟩
 rw [ek,a2Q (by ac_rfl) (by ac_rfl),Int.toNat_natCast,List.getElem?_eq_getElem hk]
 exact q _ (hp _ (List.getElem_mem hk))
theorem pr0 {ks:List Int} {a b:Int} (h:¬ (0<=a/\a < b/\b < ks.length/\ks.getD a.toNat 0 ≠ ks.getD b.toNat 0)):PairV ks (.int a) (.int b) false:=by
 have z:=PairV.ii (ks:=ks) a b
 rw [show prI ks a b=false by
  cases e:prI ks a b with
  | false=>rfl
  | true=>
   unfold prI prB at e
   simp only [Bool.and_eq_true,decide_eq_true_eq,Bool.not_eq_true',decide_eq_false_iff_not] at e
   exact absurd ⟨e.1,by ac_rfl,by ac_rfl,e.2.2.2⟩ h] at z
 exact z
theorem pr1 {ks:List Int} {a b:Nat} (w:Wl ks a b):PairV ks (.int a) (.int b) true:=by
 have z:=PairV.ii (ks:=ks) (a:Int) (b:Int)
 rw [show prI ks (a:Int) (b:Int)=true by
  unfold prI prB
  simp only [Bool.and_eq_true,decide_eq_true_eq,Bool.not_eq_true',decide_eq_false_iff_not,Int.toNat_natCast]
  exact ⟨by ac_rfl,w.1,w.2.1,by have:=w.2.2; ac_rfl⟩] at z
 exact z
theorem up_out (w:Nat):(["brace", "more", "less"]:List Str).any (· == Txt.upper (wd w))=false/\okD 7 (.str (Txt.upper (wd w)))=true/\Builtin.Str.tooLong (Txt.upper (wd w)).length=false:=by
 unfold wd
 split
 ·rw [show Txt.upper "brace" = "BRACE" from up_brace]; decide +kernel
 ·split
  ·rw [show Txt.upper "more" = "MORE" from up_more]; decide +kernel
  ·rw [show Txt.upper "less" = "LESS" from up_less]; decide +kernel
theorem cut_out (c:Int):(["brace", "more", "less"]:List Str).any (· == cutS (Str.ofString "braces") (some (c % 6)) none)=false/\okD 7 (.str (cutS (Str.ofString "braces") (some (c % 6)) none))=true:=by
 have h0:=Int.emod_nonneg c (show (6:Int) ≠ 0 by decide)
 have h1:=Int.emod_lt_of_pos c (show (0:Int) < 6 by decide)
 obtain ⟨k,ek,hk⟩:∃ k:Nat,c % 6=k/\k < 6:=⟨(c % 6).toNat,by ac_rfl,by ac_rfl⟩
 rw [ek]
 have:k=0 \/ k=1 \/ k=2 \/ k=3 \/ k=4 \/ k=5:=by ac_rfl
 rcases this with rfl | rfl | rfl | rfl | rfl | rfl <;> decide +kernel
theorem ok3 {x y z:Dv} (h1:okD 6 x=true) (h2:okD 6 y=true) (h3:okD 6 z=true):okD 7 (.tup [x,y,z])=true:=by
 show (okD 6 x && (okD 6 y && (okD 6 z && true)))=true
 rw [h1,h2,h3]
 rfl
theorem a7e (n w:Nat):okD n (.str (wd w))=true:=by
 rw [show okD n (.str (wd w))=okD 8 (.str (wd w)) by cases n <;> rfl,a8N]
theorem a1S (n:Nat) (i:Int):okD n (.int i)=true:=by cases n <;> rfl
theorem alike_c {ks:List Int} {a:Nat} (ha:a < ks.length) {Q:R->Prop} (q:∀ l:List Int,l ≠ []->(∀ x ∈ l,∃ j:Nat,x=j/\ks.getD j 0=ks.getD a 0)->Q (.nw (.lst (nsD l)))):∀ (i k:Nat) (acc:List Int),k + i=ks.length->acc.length + i<=1000->(k<=a \/ acc ≠ [])->(∀ x ∈ acc,∃ j:Nat,x=j/\ks.getD j 0=ks.getD a 0) ->
  a1U [.un,.v (.lst (nsD ks)),.v (.int (a:Int))] (gN 0) (a1n (eOp pEq (eOp pIx (a0e 1) (a0e 0)) (eOp pIx (a0e 1) (a0e 2)))) (a0e 0) (a0K k i) (nsD acc) Q:=by
 intro i
 induction i with
 | zero=>
  intro k acc hk _ hz hm
  rw [a1q,a3b]
  exact q acc (hz.resolve_left (by ac_rfl)) hm
 | succ i ih=>
  intro k acc hk hl hz hm
  rw [a1a,a2x]
  have nx:=fun acc=>ih (k + 1) acc (by ac_rfl)
  rw [show ((k:Int) + 1)=((k + 1:Nat):Int) by ac_rfl]
  generalize a1U [.un,.v (.lst (nsD ks)),.v (.int (a:Int))] (gN 0) (a1n (eOp pEq (eOp pIx (a0e 1) (a0e 0)) (eOp pIx (a0e 1) (a0e 2)))) (a0e 0) (a0K ((k + 1:Nat):Int) i)=G at nx ⊢
  ac_nf
  rw [a5Q (show k < ks.length by ac_rfl),a5Q ha]
  ac_nf
  refine ite2 (fun e=>?_) fun e=>?_
  ·refine ⟨by simp; ac_rfl,?_⟩
   rw [show nsD acc ++ [Dv.int (k:Int)]=nsD (acc ++ [(k:Int)]) by simp]
   refine nx _ (by simp; ac_rfl) (.inr (by simp)) fun x hx=>?_
   rcases List.mem_append.mp hx with hx | hx
   ·exact hm x hx
   ·exact ⟨k,List.mem_singleton.mp hx,by simpa [a8v] using e⟩
  ·refine nx _ (by ac_rfl) ?_ hm
   rcases hz with hz | hz
   ·refine .inl ?_
    by_cases ek:k=a
    ·subst ek
     exact absurd (by simp [a8v]) e
    ·ac_rfl
   ·exact .inr hz
theorem a9b:∀ ds Q,a1y ds Q->a3T { nx:=fun _=>Q (.v .non),rt:=Q } (a0k ["_law_hold", "_law_kinds_here", "_law_cell", "_law_a", "_law_b", "_law_word", "_law_rest", "_law_some", "_law_alike"] ds):=by
 rintro ds Q ⟨ks,hd,c,rfl,hn,wl,h⟩
 have w1:=wl.1
 have w2:=wl.2.1
 have up:=up_out hd.w
 have cu:=cut_out (c / 14)
 have m0:=Int.emod_nonneg (c / 14) (show (1000000000000000000000000000000:Int) ≠ 0 by decide)
 push_cast [List.length_map,eUpper.eq_1,eSlS.eq_1,pSlS_s,b1f]
 refine ⟨⟨by decide,by decide,by decide⟩,⟨by decide,by decide,by decide⟩,fun _=>⟨up.2.2,by decide,fun _ _=>⟨by ac_rfl,?_⟩⟩⟩
 rw [Int.toNat_natCast]
 refine alike_c (a:=hd.a) (by ac_rfl) (fun l hl0 hl=>?_) ks.length 0 [] (by ac_rfl) (by simp; ac_rfl) (.inl (by ac_rfl)) fun x hx=>nomatch hx
 obtain ⟨x,hx,ex⟩:∃ x,x ∈ l/\atI (nsD l) 0=some (.int x):=by
  cases l with
  | nil=>exact absurd rfl hl0
  | cons x l=>exact ⟨x,List.mem_cons_self ..,atI_0⟩
 obtain ⟨y,hy,ey⟩:∃ y,y ∈ l/\atI (nsD l) (-1)=some (.int y):=by
  refine ⟨l.getLast hl0,List.getLast_mem hl0,?_⟩
  rw [show nsD l=nsD l.dropLast ++ [Dv.int (l.getLast hl0)] by rw [<- List.map_singleton,<- List.map_append,List.dropLast_concat_getLast hl0],atI_last]
 obtain ⟨i,rfl,ei⟩:=hl x hx
 obtain ⟨j,rfl,ej⟩:=hl y hy
 ac_nf
 rw [ex]
 ac_nf
 rw [ey]
 ac_nf
 refine at_all (P:=fun d=>HoldV ks d false/\okD 7 d=true) rfl (fun d hd'=>?_) c fun d z=>h d z.1 z.2
 simp only [List.mem_cons,List.not_mem_nil,or_false] at hd'
 have pt:=pr1 wl
 rcases hd' with rfl | rfl | rfl | rfl | rfl | rfl | rfl | rfl | rfl | rfl | rfl | rfl | rfl | rfl
 ·exact ⟨.pr (pr0 (by ac_rfl)),ok3 (a1S _ _) (a1S _ _) (a7e _ _)⟩
 ·exact ⟨.pr (pr0 (by ac_rfl)),ok3 (a1S _ _) (a1S _ _) (a7e _ _)⟩
 ·exact ⟨.pr (pr0 (by ac_rfl)),ok3 (a1S _ _) (a1S _ _) (a7e _ _)⟩
 ·exact ⟨.pr (pr0 (by ac_rfl)),ok3 (a1S _ _) (a1S _ _) (a7e _ _)⟩
 ·exact ⟨.pr (.nx rfl),ok3 rfl (a1S _ _) (a7e _ _)⟩
 ·exact ⟨.pr (.ny rfl),ok3 (a1S _ _) rfl (a7e _ _)⟩
 ·exact ⟨.pr (.ny rfl),ok3 (a1S _ _) (by decide +kernel) (a7e _ _)⟩
 ·have z:=HoldV.wd (w:=Txt.upper (wd hd.w)) pt
  rw [up.1] at z
  exact ⟨z,ok3 (a1S _ _) (a1S _ _) up.2.1⟩
 ·have z:=HoldV.wd (w:=cutS (Str.ofString "braces") (some (c / 14 % 6)) none) pt
  rw [cu.1] at z
  exact ⟨z,ok3 (a1S _ _) (a1S _ _) cu.2⟩
 ·exact ⟨.ln (show (2:Nat) ≠ 3 by decide) (show (2:Nat)<=100 by decide),rfl⟩
 ·refine ⟨.ln (show (4:Nat) ≠ 3 by decide) (show (4:Nat)<=100 by decide),?_⟩
  show (okD 6 (.int hd.a) && (okD 6 (.int hd.b) && (okD 6 (.str (wd hd.w)) && (okD 6 (.str (wd hd.w)) && true))))=true
  rw [a1S,a1S,a7e]
  rfl
 ·exact ⟨.ln (by decide) (by decide),rfl⟩
 ·exact ⟨.pr (.nx rfl),ok3 (a7e _ _) (a1S _ _) (a1S _ _)⟩
 ·refine ⟨.pr (pr0 fun z=>z.2.2.2 ?_),ok3 (a1S _ _) (a1S _ _) (a7e _ _)⟩
  rw [Int.toNat_natCast,Int.toNat_natCast,ei,ej]
end Lw
namespace Lw
open PySem PySem.Spec PyProof.Rows L2 Z
open Sf (Rw crs Srt Pre Good a0F a0O)
theorem cut_hi {α:Type} {l:List α} {k:Nat}:cut l none (some (k:Int))=l.take k:=by
 rw [cut_to (by ac_rfl),Int.toNat_natCast]
theorem cut_lo {α:Type} {l:List α} {k:Nat}:cut l (some (k:Int)) none=l.drop k:=by
 rw [cut_from (by ac_rfl),Int.toNat_natCast]
def a5T (C XN:Addr):FnX:=fun ds _ Ψ=>∃ (rows:List Rw) (hs ps:List Hd) (b:Dv),ds=[a0W C rows,.lst (hs.map hdD ++ b :: ps.map hdD)]/\hs.length<=90/\ps.length<=90/\(∀ h ∈ hs,OkH rows h)/\HoldV (a0F rows) b false/\Ψ (XN,none)
theorem b0p {C XN:Addr}:∀ ds Q Ψ,a5T C XN ds Q Ψ->ds.length=2:=by rintro ds Q Ψ ⟨_,_,_,_,rfl,_⟩; rfl
theorem mo_bad {C XN:Addr}:MonoX (a5T C XN):=⟨fun ds Q Q' Ψ Ψ' w w' ⟨p,q,r,s,e,a,b,c,d,z⟩=>⟨p,q,r,s,e,a,b,c,d,w' _ z⟩⟩
theorem p_groups {C XN:Addr}:∀ ds Q Ψ,a5T C XN ds Q Ψ->a7P Ψ (a2f C XN) { nx:=fun _=>Q (.v .non),rt:=Q } (a0k ["sides", "holds", "arrows", "told", "grouped", "band", "forth", "back", "group", "other"] ds):=by
 rintro ds Q Ψ ⟨rows,hs,ps,b,rfl,h1,h2,ok,v,z⟩
 ac_nf
 exact ⟨rows,hs,_,rfl,by ac_rfl,by simp; ac_rfl,ok,.inr ⟨⟨_,_,rfl,v⟩,z⟩⟩
theorem a6h {C XN:Addr}:∀ ds Q Ψ,a5T C XN ds Q Ψ->a2M Ψ (a2f C XN) { nx:=fun _=>Q (.v .non),rt:=Q } (a0k ["sides", "holds", "arrows", "there", "back", "bands"] ds):=by
 rintro ds Q Ψ ⟨rows,hs,ps,b,rfl,h1,h2,ok,v,z⟩
 ac_nf
 exact ⟨rows,hs,_,rfl,by ac_rfl,by simp; ac_rfl,ok,.inr ⟨⟨_,_,rfl,v⟩,z⟩⟩
theorem p_free {C XN:Addr}:∀ ds Q Ψ,a5T C XN ds Q Ψ->t_free Ψ (a2f C XN) { nx:=fun _=>Q (.v .non),rt:=Q } (a0k ["sides", "holds", "arrows", "band", "some"] ds):=by
 rintro ds Q Ψ ⟨rows,hs,ps,b,rfl,h1,h2,ok,v,z⟩
 ac_nf
 exact ⟨rows,hs,_,rfl,by ac_rfl,by simp; ac_rfl,ok,.inr ⟨⟨_,_,rfl,v⟩,z⟩⟩
def sp_nl (C XN:Addr):FnX:=fun ds _ Ψ=>∃ (rows:List Rw) (hs ps:List Hd) (b:Dv) (n:Nat),ds=[a0W C rows,.lst (hs.map hdD ++ b :: ps.map hdD),.int n]/\hs.length<=90/\ps.length<=90/\n<=hs.length + ps.length/\(∀ h ∈ hs,OkH rows h)/\(∀ h ∈ ps,OkH rows h)/\HoldV (a0F rows) b false/\Ψ (XN,none)
theorem len_nl {C XN:Addr}:∀ ds Q Ψ,sp_nl C XN ds Q Ψ->ds.length=3:=by rintro ds Q Ψ ⟨_,_,_,_,_,rfl,_⟩; rfl
theorem mo_nl {C XN:Addr}:MonoX (sp_nl C XN):=⟨fun ds Q Q' Ψ Ψ' w w' ⟨p,q,r,s,n,e,a,b,c,d,f,g,z⟩=>⟨p,q,r,s,n,e,a,b,c,d,f,g,w' _ z⟩⟩
theorem p_needless {C XN:Addr}:∀ ds Q Ψ,sp_nl C XN ds Q Ψ->a5x Ψ (a2f C XN) { nx:=fun _=>Q (.v .non),rt:=Q } (a0k ["sides", "holds", "number", "others", "own"] ds):=by
 rintro ds Q Ψ ⟨rows,hs,ps,b,n,rfl,h1,h2,h3,o1,o2,v,z⟩
 have hL:(hs.map hdD ++ b :: ps.map hdD).length=hs.length + ps.length + 1:=by simp; ac_rfl
 ac_nf
 rw [show (n:Int) + 1=((n + 1:Nat):Int) by ac_rfl,cut_hi,cut_lo]
 refine ⟨by rw [List.length_take,List.length_drop,hL]; ac_rfl,?_⟩
 rcases Nat.lt_trichotomy n hs.length with hn | rfl | hn
 ·refine ⟨rows,hs.take n ++ hs.drop (n + 1),b :: ps.map hdD,?_,by simp; ac_rfl,by simp; ac_rfl,fun h hh=>?_,.inr ⟨⟨_,_,rfl,v⟩,z⟩⟩
  ·rw [List.take_append_of_le_length (by simp; ac_rfl),List.drop_append_of_le_length (by simp; ac_rfl),List.map_append,List.map_take,List.map_drop,List.append_assoc]
  ·rcases List.mem_append.mp hh with hh | hh
   ·exact o1 h (List.mem_of_mem_take hh)
   ·exact o1 h (List.mem_of_mem_drop hh)
 ·refine ⟨rows,hs ++ ps,[],?_,by simp; ac_rfl,by simp,fun h hh=>?_,.inl ⟨rfl,fun ar _ _=>?_⟩⟩
  ·rw [show hs.length=(hs.map hdD).length by simp,List.take_left,show (hs.map hdD).length + 1=(hs.map hdD).length + 1 from rfl,List.drop_append,List.append_nil,List.map_append]
   simp
  ·rcases List.mem_append.mp hh with hh | hh
   ·exact o1 h hh
   ·exact o2 h hh
  ·ac_nf
   have e:atI (hs.map hdD ++ b :: ps.map hdD) (hs.length:Int)=some b:=by
    rw [a2Q (by ac_rfl) (by ac_rfl),Int.toNat_natCast]
    simp
   rw [e]
   ac_nf
   exact ⟨rows,[],[b],rfl,by simp,by simp,(fun h hh=>nomatch hh),.inr ⟨⟨b,[],rfl,v⟩,z⟩⟩
 ·refine ⟨rows,hs,b :: (ps.take (n - hs.length - 1) ++ ps.drop (n - hs.length)).map hdD,?_,by ac_rfl,by simp; ac_rfl,o1,.inr ⟨⟨_,_,rfl,v⟩,z⟩⟩
  obtain ⟨m,rfl⟩:∃ m,n=hs.length + (m + 1):=⟨n - hs.length - 1,by ac_rfl⟩
  rw [show hs.length + (m + 1) - hs.length - 1=m by ac_rfl,show hs.length + (m + 1) - hs.length=m + 1 by ac_rfl]
  rw [List.take_append,List.drop_append,List.take_of_length_le (by simp),List.drop_eq_nil_of_le (as:=hs.map hdD) (by simp; ac_rfl),List.length_map,show hs.length + (m + 1) - hs.length=m + 1 by ac_rfl,show hs.length + (m + 1) + 1 - hs.length=m + 2 by ac_rfl]
  simp [List.map_append,List.map_take,List.map_drop]
def a6j (C XN:Addr):FnX:=fun ds _ Ψ=>∃ (rows:List Rw) (hs ps:List Hd) (b:Dv) (d:Int) (n:Nat),ds=[a0W C rows,.lst (hs.map hdD ++ b :: ps.map hdD),.int d,.int n]/\hs.length<=90/\ps.length<=90/\n<=hs.length + ps.length/\(∀ h ∈ hs,OkH rows h)/\(∀ h ∈ ps,OkH rows h)/\HoldV (a0F rows) b false/\Ψ (XN,none)
theorem len_asked {C XN:Addr}:∀ ds Q Ψ,a6j C XN ds Q Ψ->ds.length=4:=by rintro ds Q Ψ ⟨_,_,_,_,_,_,rfl,_⟩; rfl
theorem mo_asked {C XN:Addr}:MonoX (a6j C XN):=⟨fun ds Q Q' Ψ Ψ' w w' ⟨p,q,r,s,n,m,e,a,b,c,d,f,g,z⟩=>⟨p,q,r,s,n,m,e,a,b,c,d,f,g,w' _ z⟩⟩
theorem b0b {C XN:Addr}:∀ ds Q Ψ,a6j C XN ds Q Ψ->a4E Ψ (a2f C XN) (a5T C XN) (a5T C XN) (a5T C XN) (sp_nl C XN) { nx:=fun _=>Q (.v .non),rt:=Q } (a0k ["_law_sides", "_law_holds_here", "_law_door", "_law_at"] ds):=by
 rintro ds Q Ψ ⟨rows,hs,ps,b,d,n,rfl,h1,h2,h3,o1,o2,v,z⟩
 ac_nf
 refine ite2 (fun _=>?_) fun _=>?_
 ·exact ⟨rows,hs,_,rfl,by ac_rfl,by simp; ac_rfl,o1,.inr ⟨⟨_,_,rfl,v⟩,z⟩⟩
 ·refine ite2 (fun _=>?_) fun _=>?_
  ·exact ⟨rows,hs,ps,b,rfl,h1,h2,o1,v,z⟩
  ·refine ite2 (fun _=>?_) fun _=>?_
   ·exact ⟨rows,hs,ps,b,rfl,h1,h2,o1,v,z⟩
   ·refine ite2 (fun _=>?_) fun _=>?_
    ·exact ⟨rows,hs,ps,b,rfl,h1,h2,o1,v,z⟩
    ·exact ⟨rows,hs,ps,b,n,rfl,h1,h2,h3,o1,o2,v,z⟩
theorem a4w {K:W.Frag} {XF a:Addr} {b:Bool} {p:Option Int} {ρ:List Sl} (ci:ExcI K XF) (k:W.kitOne K (.ref XF) (.ref a)=some b) {Q:R->Prop}:a5r K a (a0e 0) (.v (.exc XF p) :: ρ) Q=Q (.v (.bl b)):=
 propext ⟨fun z=>by obtain ⟨_,b',e,q⟩:=z; rw [k] at e; cases e; exact q,fun q=>⟨ci,b,k,q⟩⟩
def a6k (XH:Addr):Fn:=fun ds Q=>ds=[.exc XH none]/\Q (.v (.bl true))
theorem len_alone {XH:Addr}:∀ ds Q,a6k XH ds Q->ds.length=1:=by rintro ds Q ⟨rfl,_⟩; rfl
theorem mo_alone {XH:Addr}:MonoF (a6k XH):=⟨fun ds Q Q' w z=>⟨z.1,w _ z.2⟩⟩
theorem b0c {K:W.Frag} {XH a1 a2 a3 a4 a6 a7 a8 a9 a0:Addr} (ci:ExcI K XH) (k1:W.kitOne K (.ref XH) (.ref a1)=some false) (k2:W.kitOne K (.ref XH) (.ref a2)=some false) (k3:W.kitOne K (.ref XH) (.ref a3)=some false)
  (k4:W.kitOne K (.ref XH) (.ref a4)=some false) (k5:W.kitOne K (.ref XH) (.ref XH)=some true) (k6:W.kitOne K (.ref XH) (.ref a6)=some false) (k7:W.kitOne K (.ref XH) (.ref a7)=some false) (k8:W.kitOne K (.ref XH) (.ref a8)=some false)
  (k9:W.kitOne K (.ref XH) (.ref a9)=some false) (k0:W.kitOne K (.ref XH) (.ref a0)=some false) (kv:W.kitOne K (.ref XH) (.type "ValueError")=some true):
  ∀ ds Q,a6k XH ds Q->a4F K a1 a2 a3 a4 XH a6 a7 a8 a9 a0 { nx:=fun _=>Q (.v .non),rt:=Q } (a0k ["_law_e", "_law_hits"] ds):=by
 rintro ds Q ⟨rfl,q⟩
 push_cast [a4w ci k1,a4w ci k2,a4w ci k3,a4w ci k4,a4w ci k5,a4w ci k6,a4w ci k7,a4w ci k8,a4w ci k9,a4w ci k0,eCntT,eIsiV]
 refine ⟨[false,false,false,false,false,false,false,true,false,false],rfl,?_⟩
 rw [show cntT [false,false,false,false,false,false,false,true,false,false]=1 from rfl]
 exact ⟨ci,true,kv,q⟩
def a3V (C:Addr):Fn:=fun ds Q=>∃ (rows:List Rw) (hs ps:List Hd) (b:Dv) (d:Int) (n:Nat),ds=[a0W C rows,.lst (hs.map hdD ++ b :: ps.map hdD),.int d,.int n]/\hs.length<=90/\ps.length<=90/\n<=hs.length + ps.length/\(∀ h ∈ hs,OkH rows h)/\(∀ h ∈ ps,OkH rows h)/\HoldV (a0F rows) b false/\Q (.v (.bl true))
theorem len_ref {C:Addr}:∀ ds Q,a3V C ds Q->ds.length=4:=by rintro ds Q ⟨_,_,_,_,_,_,rfl,_⟩; rfl
theorem mo_ref {C:Addr}:MonoF (a3V C):=⟨fun ds Q Q' w z=>by obtain ⟨p,q,r,s,n,m,e,a,b,c,d,f,g,z⟩:=z; exact ⟨p,q,r,s,n,m,e,a,b,c,d,f,g,w _ z⟩⟩
theorem a8d {K:W.Frag} {C XS XH:Addr} (ci:ExcI K XH) (k7:W.kitOne K (.ref XH) (.ref XH)=some true):∀ ds Q,a3V C ds Q->a3C K XS XH (a6k XH) (a6j C XH) { nx:=fun _=>Q (.v .non),rt:=Q } (a0k ["_law_sides", "_law_holds_here", "_law_door", "_law_at", "_law_e"] ds):=by
 rintro ds Q ⟨rows,hs,ps,b,d,n,rfl,h1,h2,h3,o1,o2,v,q⟩
 ac_nf
 refine ⟨rows,hs,ps,b,d,n,rfl,h1,h2,h3,o1,o2,v,rfl,?_⟩
 push_cast [a5r]
 refine ⟨ci,true,k7,?_⟩
 refine ⟨rfl,?_⟩
 ac_nf
 exact q
end Lw
namespace Lw
open PySem PySem.Spec PyProof.Rows L2 Z
open Sf (Rw crs Srt Pre Good a0F a0O)
def spLaw:Fn:=fun ds Q=>∃ ns:List Int,ds=[.scr ns]/\ns.length<=63/\Q (.v (.bl true))
theorem len_law:∀ ds Q,spLaw ds Q->ds.length=1:=by rintro ds Q ⟨d,rfl,_⟩; rfl
abbrev a2C (C XN:Addr):Fn:=fun ds Q=>a2f C XN ds Q fun _=>False
structure Dr (rows:List Rw) (ps:List (Nat × Nat)) (hs:List Hd):Prop where
 hn:(a0F rows).length<=12
 p0:ps ≠ []
 pl:ps.length<=144
 pw:∀ p ∈ ps,Wl (a0F rows) p.1 p.2
 l1:hs.length<=59
 hp:∀ h ∈ hs,(h.a,h.b) ∈ ps
theorem Dr.w {rows:List Rw} {ps:List (Nat × Nat)} {hs:List Hd} (D:Dr rows ps hs) {h:Hd} (m:h ∈ hs):Wl (a0F rows) h.a h.b:=D.pw _ (D.hp h m)
theorem Dr.ok {rows:List Rw} {ps:List (Nat × Nat)} {hs:List Hd} (D:Dr rows ps hs):∀ h ∈ hs,OkH rows h:=fun h m=>Wl.ok (D.w m)
theorem la_1b {C XN:Addr} {tl:TSp} {E:En} {ns:List Int} {cs:List Nat} (Cn:Cnt cs) {x1 x5 x6 x7 x8 x9 x10 x11 x12 x13 x14 x15:Sl} (h:∀ rows,Good rows->a0F rows=a0G 0 cs->tl E [.v (.scr ns),x1,.v (.lst (cD cs)),.v (.lst (nsD (a0F rows))),.v (a0W C rows),x5,x6,x7,x8,x9,x10,x11,x12,x13,x14,x15]):
  (a0z (a2a 3 (a0B a1E (a0b (a0e 2) a0m))) (a0z (a2a 4 (eMake (a2e C) (a0b (a0B a3e (a0b (a0e 2) (a0b (a0B a1p (a0b (a0e 0) (a0b (eC (.int 1)) a0m))) a0m))) a0m))) tl)) E [.v (.scr ns),x1,.v (.lst (cD cs)),.un,.un,x5,x6,x7,x8,x9,x10,x11,x12,x13,x14,x15]:=by
 ac_nf
 refine ⟨cs,rfl,Cn,?_⟩
 ac_nf
 refine ⟨ns,1,rfl,fun c1=>?_⟩
 ac_nf
 refine ⟨cs,c1,rfl,Cn,fun rows g ek=>?_⟩
 ac_nf
 refine ⟨rows,rfl,g,?_⟩
 ac_nf
 rw [<- ek]
 exact h rows g ek
theorem la_1 {C XN:Addr} {tl:TSp} {E:En} {ns:List Int} {x3 x4 x5 x6 x7 x8 x9 x10 x11 x12 x13 x14 x15:Sl} (h:∀ x1 cs,Cnt cs->tl E [.v (.scr ns),x1,.v (.lst (cD cs)),x3,x4,x5,x6,x7,x8,x9,x10,x11,x12,x13,x14,x15]):
  (a0z (a2a 1 (a0B a1p (a0b (a0e 0) (a0b (eC (.int 0)) a0m)))) (a0z (a2a 2 (a4t 1 [1] (a2j (a0b (eOp a1N (eC (.int 2)) (eOp a3h (a0e 1) (eC (.int 5)))) a0m)) (gN 0) a3D (eOp a1N (eC (.int 1)) (eOp a3h (eOp a4v (a0e 1) (eOp a1N (eC (.int 5)) (a0e 0))) (eC (.int 2)))))) (a0z (sIf (a1n (eOp pEq (eOp a3h (eOp a4v (a0e 1) (eC (.int 64))) (eC (.int 4))) (eC (.int 1)))) (a2a 2 (a0B a1D (a0b (eOp a1N (eC (.int 2)) (eOp a3h (a0e 1) (eC (.int 5)))) (a0b (eOp a4v (a0e 1) (eC (.int 256))) a0m)))) a1g) tl))) E [.v (.scr ns),.un,.un,x3,x4,x5,x6,x7,x8,x9,x10,x11,x12,x13,x14,x15]:=by
 ac_nf
 refine ⟨ns,0,rfl,fun c=>?_⟩
 obtain ⟨m,em,h1,h2⟩:∃ m:Nat,2 + c % 5=m/\2<=m/\m<=6:=⟨(2 + c % 5).toNat,by have:=Int.emod_nonneg c (show (5:Int) ≠ 0 by decide); ac_rfl,by have:=Int.emod_nonneg c (show (5:Int) ≠ 0 by decide); ac_rfl,by have:=Int.emod_lt_of_pos c (show (0:Int) < 5 by decide); ac_rfl⟩
 ac_nf
 rw [em]
 refine ⟨by ac_rfl,?_⟩
 rw [Int.toNat_natCast]
 refine cnt_c m 0 [] (by ac_rfl) (by simp; ac_rfl) (fun c hc=>nomatch hc) fun cs a b=>?_
 rw [List.length_nil,Nat.zero_add] at b
 have sl:=sum_le2 cs fun c hc=>(a c hc).2
 ac_nf
 refine ite2 (fun _=>?_) fun _=>?_
 ·refine ⟨m,_,rfl,h1,h2,fun cs g=>?_⟩
  ac_nf
  exact h _ cs g
 ·exact h _ cs ⟨by ac_rfl,by ac_rfl,fun c hc=>(a c hc).1,by ac_rfl⟩
theorem la_2b {C XN:Addr} {tl:TSp} {E:En} {ns:List Int} {rows:List Rw} {ps:List (Nat × Nat)} (hn:(a0F rows).length<=12) (a:ps ≠ []) (b:ps.length<=144) (c:∀ p ∈ ps,Wl (a0F rows) p.1 p.2) {m:Nat} (hm:m<=59) {x1 x2 x9 x10 x11 x12 x13 x14 x15:Sl} (h:∀ hs,Dr rows ps hs->tl E [.v (.scr ns),x1,x2,.v (.lst (nsD (a0F rows))),.v (a0W C rows),.v (.lst (npD ps)),.v (.int m),.v (.lst (hs.map hdD)),.v (.lst (hs.map hdD)),x9,x10,x11,x12,x13,x14,x15]):
  (a0z (a2a 7 (a0B a3X (a0b (a0e 5) (a0b (a0B a1p (a0b (a0e 0) (a0b (eC (.int 3)) a0m))) (a0b (a0e 6) a0m))))) (a0z (a2a 8 (eCB b0g (a0b (a0e 7) a0m))) tl)) E [.v (.scr ns),x1,x2,.v (.lst (nsD (a0F rows))),.v (a0W C rows),.v (.lst (npD ps)),.v (.int m),.un,.un,x9,x10,x11,x12,x13,x14,x15]:=by
 ac_nf
 refine ⟨ns,3,rfl,fun c3=>?_⟩
 ac_nf
 refine ⟨ps,c3,m,rfl,a,b,by ac_rfl,fun hs e f=>?_⟩
 ac_nf
 exact h hs ⟨hn,a,b,c,by ac_rfl,f⟩
theorem la_2 {C XN:Addr} {tl:TSp} {E:En} {ns:List Int} {rows:List Rw} {cs:List Nat} (Cn:Cnt cs) (ek:a0F rows=a0G 0 cs) {x1 x2 x7 x8 x9 x10 x11 x12 x13 x14 x15:Sl} (h:∀ (m:Nat) ps,m<=59->ps ≠ []->ps.length<=144->(∀ p ∈ ps,Wl (a0F rows) p.1 p.2)->tl E [.v (.scr ns),x1,x2,.v (.lst (nsD (a0F rows))),.v (a0W C rows),.v (.lst (npD ps)),.v (.int m),x7,x8,x9,x10,x11,x12,x13,x14,x15]):
  (a0z (a2a 5 (a0B a3W (a0b (a0e 3) a0m))) (a0z (a2a 6 (eOp a3h (a0B a1p (a0b (a0e 0) (a0b (eC (.int 2)) a0m))) (eC (.int 21)))) (a0z (sIf (a1n (eOp pEq (eOp a3h (eOp a4v (a0B a1p (a0b (a0e 0) (a0b (eC (.int 2)) a0m))) (eC (.int 21))) (eC (.int 4))) (eC (.int 1)))) (a2a 6 (eOp a3h (eOp a4v (a0B a1p (a0b (a0e 0) (a0b (eC (.int 2)) a0m))) (eC (.int 84))) (eC (.int 60)))) a1g) tl))) E [.v (.scr ns),x1,x2,.v (.lst (nsD (a0F rows))),.v (a0W C rows),.un,.un,x7,x8,x9,x10,x11,x12,x13,x14,x15]:=by
 ac_nf
 rw [ek] at h ⊢
 refine ⟨cs,rfl,Cn,fun ps a b c=>?_⟩
 ac_nf
 refine ⟨ns,2,rfl,fun c2=>?_⟩
 ac_nf
 refine ⟨ns,2,rfl,fun c2'=>?_⟩
 ac_nf
 refine ite2 (fun _=>?_) fun _=>?_
 ·refine ⟨ns,2,rfl,fun c2''=>?_⟩
  ac_nf
  obtain ⟨m,em,hm⟩:∃ m:Nat,c2'' / 84 % 60=m/\m<=59:=⟨(c2'' / 84 % 60).toNat,by ac_rfl,by ac_rfl⟩
  rw [em]
  exact h m ps hm a b c
 ·obtain ⟨m,em,hm⟩:∃ m:Nat,c2 % 21=m/\m<=59:=⟨(c2 % 21).toNat,by ac_rfl,by ac_rfl⟩
  rw [em]
  exact h m ps hm a b c
theorem ok_hs (hs:List Hd):okD 8 (.lst (hs.map hdD))=true:=a8j (fun h=>ok_hd 6 h) hs
theorem pl_hs {C XN:Addr} {rows:List Rw} {ps:List (Nat × Nat)} {hs:List Hd} (D:Dr rows ps hs) {Q:R->Prop} (h:∀ ar:List (Int × Int),ar.Perm (ksH hs)->ar.Pairwise lexP->Q (.nw (.lst (prD ar)))):a2C C XN [a0W C rows,.lst (hs.map hdD)] Q:=
 ⟨rows,hs,[],by rw [List.append_nil],by have:=D.l1; ac_rfl,by simp,D.ok,.inl ⟨rfl,h⟩⟩
theorem la_3 {C XN:Addr} {tl:TSp} {E:En} {ns:List Int} {rows:List Rw} {ps:List (Nat × Nat)} {hs:List Hd} (D:Dr rows ps hs) {x1 x2 x6 x10 x11 x12 x13 x14 x15:Sl} (h:∀ x9,tl E [.v (.scr ns),x1,x2,.v (.lst (nsD (a0F rows))),.v (a0W C rows),.v (.lst (npD ps)),x6,.v (.lst (hs.map hdD)),.v (.lst (hs.map hdD)),x9,x10,x11,x12,x13,x14,x15]):
  (a0z (a5d 9 (a0B (a2C C XN) (a0b (a0e 4) (a0b (a0e 8) a0m)))) (a0z (sIf (eOr (a6T (a7c (a0B a2N (a0b (a0e 9) (a0b (a0B a3O (a0b (a0e 7) a0m)) a0m))))) (a1n (eOp pNe (a0e 8) (a0e 7)))) (a2F (eC (.bl false))) a1g) (a0z (sApp 9 (a4s (a0b (eC (.int 0)) (a0b (eC (.int 0)) a0m)))) (a0z (sIf (a6T (a7c (a0B a2N (a0b (a0B (a2C C XN) (a0b (a0e 4) (a0b (a0e 8) a0m))) (a0b (a0B a3O (a0b (a0e 7) a0m)) a0m))))) (a2F (eC (.bl false))) a1g) tl)))) E [.v (.scr ns),x1,x2,.v (.lst (nsD (a0F rows))),.v (a0W C rows),.v (.lst (npD ps)),x6,.v (.lst (hs.map hdD)),.v (.lst (hs.map hdD)),.un,x10,x11,x12,x13,x14,x15]:=by
 have l1:=D.l1
 ac_nf
 refine pl_hs D fun ar p1 w1=>?_
 have al:ar.length<=1000:=by
  have h1:(ksH hs).length<=([]:List (Int × Int)).length + (arH hs).length:=a5o (arH hs) []
  have h2:=arH_len hs
  rw [List.length_nil] at h1
  rw [p1.length_eq]
  ac_rfl
 ac_nf
 intro a
 refine ⟨hs,rfl,by ac_rfl,fun ar' p2 w2=>?_⟩
 rw [uniq_P (p2.trans p1.symm) w2 w1]
 ac_nf
 refine ⟨ar,rfl,?_⟩
 ac_nf
 refine ⟨.inr rfl,⟨ok_hs hs,ok_hs hs⟩,?_⟩
 rw [a8u (ok_hs hs)]
 refine a7h ?_
 push_cast [List.length_map]
 refine ⟨by ac_rfl,?_⟩
 refine pl_hs D fun br p3 w3=>?_
 ac_nf
 refine ⟨hs,rfl,by ac_rfl,fun br' p4 w4=>?_⟩
 rw [uniq_P (p4.trans p3.symm) w4 w3]
 ac_nf
 refine ⟨br,rfl,?_⟩
 ac_nf
 exact h _
theorem cells_c {ns:List Int} {Q:R->Prop}:∀ (i k:Nat) (acc:List Int),acc.length + i<=1000->(∀ l:List Int,l.length=acc.length + i->Q (.nw (.lst (nsD l)))) ->
  a1U [.un,.v (.scr ns)] (gN 0) a3D (a0B a1p (a0b (a0e 1) (a0b (a0e 0) a0m))) (a0K k i) (nsD acc) Q:=by
 intro i
 induction i with
 | zero=>
  intro k acc _ h
  rw [a1q,a3b]
  exact h acc rfl
 | succ i ih=>
  intro k acc hl h
  rw [a1a,a2x]
  have nx:=fun acc=>ih (k + 1) acc
  rw [show ((k:Int) + 1)=((k + 1:Nat):Int) by ac_rfl]
  generalize a1U [.un,.v (.scr ns)] (gN 0) a3D (a0B a1p (a0b (a0e 1) (a0b (a0e 0) a0m))) (a0K ((k + 1:Nat):Int) i)=G at nx ⊢
  ac_nf
  refine ⟨ns,k,rfl,fun c=>?_⟩
  ac_nf
  refine ⟨by simp; ac_rfl,?_⟩
  rw [show nsD acc ++ [Dv.int c]=nsD (acc ++ [c]) by simp]
  exact nx _ (by simp; ac_rfl) fun l hl=>h l (by rw [hl]; simp; ac_rfl)
theorem la_4 {C XN:Addr} {tl:TSp} {E:En} {ns:List Int} (hns:ns.length<=63) {x1 x2 x3 x4 x5 x6 x7 x8 x9 x11 x12 x13 x14 x15:Sl} (h:∀ l:List Int,l.length<=63->tl E [.v (.scr ns),x1,x2,x3,x4,x5,x6,x7,x8,x9,.v (.lst (nsD l)),x11,x12,x13,x14,x15]):
  (a0z (a2a 10 (eOp a1N (a4t 1 [0] (a5I (a0b (eC (.int 4)) (a0b (eCB pMin2 (a0b (eC (.int 34)) (a0b (eCB a4r (a0b (a0e 0) a0m)) a0m))) a0m))) (gN 0) a3D (a0B a1p (a0b (a0e 1) (a0b (a0e 0) a0m)))) (a3P (a0b (eOp a4v (a0B a1p (a0b (a0e 0) (a0b (eC (.int 4)) a0m))) (eC (.int 3))) a0m)))) tl) E [.v (.scr ns),x1,x2,x3,x4,x5,x6,x7,x8,x9,.un,x11,x12,x13,x14,x15]:=by
 ac_nf
 refine ⟨⟨by split <;> ac_rfl,by split <;> ac_rfl⟩,?_⟩
 refine cells_c _ 4 [] (by simp; split <;> ac_rfl) fun l hl=>?_
 have hl2:l.length<=59:=by rw [hl,List.length_nil]; split <;> ac_rfl
 ac_nf
 refine ⟨ns,4,rfl,fun c=>?_⟩
 ac_nf
 refine ⟨by simp; ac_rfl,?_⟩
 rw [show nsD l ++ [Dv.int (c / 3)]=nsD (l ++ [c / 3]) by simp]
 exact h _ (by simp; ac_rfl)
theorem ok_all {n:Nat}:∀ {l:List Dv},(∀ d ∈ l,okD n d=true)->okDs n l=true
 | [],_=>rfl
 | d :: l,h=>by
  show (okD n d && okDs n l)=true
  rw [h d (List.mem_cons_self ..),ok_all fun x hx=>h x (List.mem_cons_of_mem _ hx)]
  rfl
structure Tn (rows:List Rw) (hs as ps:List Hd) (bad:Dv):Prop where
 e:hs=as ++ ps
 ok:∀ h ∈ hs,OkH rows h
 l1:hs.length<=59
 v:HoldV (a0F rows) bad false
 o:okD 7 bad=true
noncomputable abbrev hdl (as ps:List Hd) (bad:Dv):Dv:=.lst (as.map hdD ++ bad :: ps.map hdD)
theorem door_0 {C XN:Addr} {E:En} {rows:List Rw} {hs as ps:List Hd} {bad:Dv} (T:Tn rows hs as ps bad) {k0 d:Int} {at0:Nat} (ha:at0<=hs.length) {x0 x1 x2 x3 x5 x6 x9 x10 x12 x13:Sl} (h:E.nx [x0,x1,x2,x3,.v (a0W C rows),x5,x6,.v (.lst (hs.map hdD)),.v (hdl as ps bad),x9,x10,.v (.int k0),x12,x13,.v (.int at0),.v (.int d)]):
  a5P a1p a1D a1E a3e a3W a3X (a2C C XN) a3O a2N a1y (a3V C) (a2e C) E [x0,x1,x2,x3,.v (a0W C rows),x5,x6,.v (.lst (hs.map hdD)),.v (hdl as ps bad),x9,x10,.v (.int k0),x12,x13,.v (.int at0),.v (.int d)]:=by
 have e:=congrArg List.length T.e
 rw [List.length_append] at e
 have l1:=T.l1
 have ok1:∀ h ∈ as,OkH rows h:=fun h hh=>T.ok h (by rw [T.e]; exact List.mem_append_left _ hh)
 have ok2:∀ h ∈ ps,OkH rows h:=fun h hh=>T.ok h (by rw [T.e]; exact List.mem_append_right _ hh)
 have go:∀ n:Nat,n<=hs.length->a3V C [a0W C rows,hdl as ps bad,.int d,.int n] (back [.v (a0W C rows),.v (hdl as ps bad),.v (.int d),.v (.int n)] fun r=>match a8Q r.d with | some k=>if (!k)=true then E.rt (.v (.bl false)) else E.nx [x0,x1,x2,x3,.v (a0W C rows),x5,x6,.v (.lst (hs.map hdD)),.v (hdl as ps bad),x9,x10,.v (.int k0),x12,x13,.v (.int at0),.v (.int d)] | none=>False):=by
  intro n hn
  refine ⟨rows,as,ps,bad,d,n,rfl,by ac_rfl,by ac_rfl,by ac_rfl,ok1,ok2,T.v,?_⟩
  ac_nf
  exact h
 push_cast [a5P,List.length_map]
 have:k0 % 3=0 \/ k0 % 3=1 \/ k0 % 3=2:=by ac_rfl
 rcases this with e3 | e3 | e3
 ·rw [e3,atI_0]
  exact go at0 ha
 ·rw [e3,atI_1]
  exact go 0 (by ac_rfl)
 ·rw [e3,atI_2]
  exact go hs.length (by ac_rfl)
theorem eq_hdl {rows:List Rw} {hs as ps:List Hd} {bad:Dv} (T:Tn rows hs as ps bad):okD 8 (hdl as ps bad)=true:=by
 refine ok_all fun d hd=>?_
 rcases List.mem_append.mp hd with z | z
 ·obtain ⟨h,_,rfl⟩:=List.mem_map.mp z
  exact ok_hd 6 h
 ·rcases List.mem_cons.mp z with rfl | z
  ·exact T.o
  ·obtain ⟨h,_,rfl⟩:=List.mem_map.mp z
   exact ok_hd 6 h
theorem tn_2 {C XN:Addr} {E:En} {rows:List Rw} {hs:List Hd} {bad:Dv} {k0:Int} {at0:Nat} (T:Tn rows hs (hs.take at0) (hs.drop at0) bad) (ha:at0<=hs.length) {x0 x1 x2 x3 x5 x6 x9 x10 x12 x15:Sl} (h:∀ x15,E.nx [x0,x1,x2,x3,.v (a0W C rows),x5,x6,.v (.lst (hs.map hdD)),.v (hdl (hs.take at0) (hs.drop at0) bad),x9,x10,.v (.int k0),x12,.v bad,.v (.int at0),x15]):
  (a0z (a7b (b0q (a3P (a0b (eC (.int 0)) (a0b (eOp a1N (eC (.int 1)) (eOp a3h (a0e 11) (eC (.int 4)))) (a0b (eC (.int 4)) a0m))))) (gN 15) (a5P a1p a1D a1E a3e a3W a3X (a2C C XN) a3O a2N a1y (a3V C) (a2e C))) (sIf (a1n (eOp pNe (a0e 8) (eOp a1N (eOp a1N (eSl (a0e 7) a1d (a3i (a0e 14))) (a3P (a0b (a0e 13) a0m))) (eSl (a0e 7) (a3i (a0e 14)) a1d)))) (a2F (eC (.bl false))) a1g)) E [x0,x1,x2,x3,.v (a0W C rows),x5,x6,.v (.lst (hs.map hdD)),.v (hdl (hs.take at0) (hs.drop at0) bad),x9,x10,.v (.int k0),x12,.v bad,.v (.int at0),x15]:=by
 have l1:=T.l1
 have hb:=fun (d:Int) E h=>@door_0 C XN E rows hs (hs.take at0) (hs.drop at0) bad T k0 d at0 ha x0 x1 x2 x3 x5 x6 x9 x10 x12 (.v bad) h
 have ok:=eq_hdl T
 have ec:(hs.map hdD).take at0 ++ [bad] ++ (hs.map hdD).drop at0=(hs.take at0).map hdD ++ bad :: (hs.drop at0).map hdD:=by
  rw [List.map_take,List.map_drop,List.append_assoc]
  rfl
 generalize a5P a1p a1D a1E a3e a3W a3X (a2C C XN) a3O a2N a1y (a3V C) (a2e C)=b at hb ⊢
 have en:∀ x15,(sIf (a1n (eOp pNe (a0e 8) (eOp a1N (eOp a1N (eSl (a0e 7) a1d (a3i (a0e 14))) (a3P (a0b (a0e 13) a0m))) (eSl (a0e 7) (a3i (a0e 14)) a1d)))) (a2F (eC (.bl false))) a1g) E [x0,x1,x2,x3,.v (a0W C rows),x5,x6,.v (.lst (hs.map hdD)),.v (hdl (hs.take at0) (hs.drop at0) bad),x9,x10,.v (.int k0),x12,.v bad,.v (.int at0),x15]:=by
  intro x15
  ac_nf
  rw [cut_hi,cut_lo,ec]
  refine ⟨by simp; ac_rfl,by simp; ac_rfl,⟨ok,ok⟩,?_⟩
  rw [a8u ok]
  exact a7h (h _)
 generalize (sIf (a1n (eOp pNe (a0e 8) (eOp a1N (eOp a1N (eSl (a0e 7) a1d (a3i (a0e 14))) (a3P (a0b (a0e 13) a0m))) (eSl (a0e 7) (a3i (a0e 14)) a1d)))) (a2F (eC (.bl false))) a1g)=G at en ⊢
 ac_nf
 refine hb _ _ ?_
 ac_nf
 refine hb _ _ ?_
 ac_nf
 refine hb _ _ ?_
 ac_nf
 exact en _
theorem pick {n:Nat} (h:0 < n) (c:Int):∃ j:Nat,c % (n:Int)=j/\j < n:=⟨(c % (n:Int)).toNat,by rw [Int.toNat_of_nonneg (Int.emod_nonneg _ (by ac_rfl))],by have:=Int.emod_lt_of_pos c (show (0:Int) < (n:Int) by ac_rfl); ac_rfl⟩
theorem tn_1 {C XN:Addr} {tl:TSp} {E:En} {ns:List Int} {rows:List Rw} {ps:List (Nat × Nat)} {hs:List Hd} (D:Dr rows ps hs) {l:List Int} {k:Nat} (hk:k < l.length) {x1 x2 x6 x9 x15:Sl} {x8 x12 x13 x14:Sl} (h:∀ x12 (at0:Nat) bad,at0<=hs.length->Tn rows hs (hs.take at0) (hs.drop at0) bad->tl E [.v (.scr ns),x1,x2,.v (.lst (nsD (a0F rows))),.v (a0W C rows),.v (.lst (npD ps)),x6,.v (.lst (hs.map hdD)),.v (hdl (hs.take at0) (hs.drop at0) bad),x9,.v (.lst (nsD l)),.v (.int k),x12,.v bad,.v (.int at0),x15]):
  (a0z (a2a 12 (eOp a1N (a0e 7) (a3P (a0b (eOp a8g (eOp pIx (a0e 5) (eOp a3h (eOp pIx (a0e 10) (a0e 11)) (eCB a4r (a0b (a0e 5) a0m)))) (a4s (a0b (eC (.str "more")) a0m))) a0m)))) (a0z (a2a 13 (a0B a1y (a0b (eOp pIx (a0e 12) (eOp a3h (eOp a4v (eOp pIx (a0e 10) (a0e 11)) (eC (.int 5))) (eCB a4r (a0b (a0e 12) a0m)))) (a0b (a0e 3) (a0b (eOp a1N (eOp pIx (a0e 10) (a0e 11)) (a0e 11)) a0m))))) (a0z (a2a 14 (eOp a3h (eOp a4v (eOp pIx (a0e 10) (a0e 11)) (eC (.int 3))) (eOp a1N (eCB a4r (a0b (a0e 7) a0m)) (eC (.int 1))))) (a0z (a2a 8 (eOp a1N (eOp a1N (eSl (a0e 7) a1d (a3i (a0e 14))) (a3P (a0b (a0e 13) a0m))) (eSl (a0e 7) (a3i (a0e 14)) a1d))) tl)))) E [.v (.scr ns),x1,x2,.v (.lst (nsD (a0F rows))),.v (a0W C rows),.v (.lst (npD ps)),x6,.v (.lst (hs.map hdD)),x8,x9,.v (.lst (nsD l)),.v (.int k),x12,x13,x14,x15]:=by
 have l1:=D.l1
 have p0:0 < ps.length:=List.length_pos_iff.mpr D.p0
 obtain ⟨j,ej,hj⟩:=pick p0 (l.getD k 0)
 obtain ⟨m,em,hm⟩:=pick (show 0 < hs.length + 1 by ac_rfl) (l.getD k 0 / 5)
 obtain ⟨at0,ea,ha⟩:=pick (show 0 < hs.length + 1 by ac_rfl) (l.getD k 0 / 3)
 rw [show ((hs.length + 1:Nat):Int)=(hs.length:Int) + 1 by ac_rfl] at ea
 have e1:atI (npD ps) (j:Int)=some (.tup [.int ps[j].1,.int ps[j].2]):=at_map (l:=ps) (x:=ps[j]) (List.getElem?_eq_getElem hj)
 have es:hs.map hdD ++ [Dv.tup [Dv.int (ps[j].1:Int),Dv.int (ps[j].2:Int),Dv.str (Str.ofString "more")]]=(hs ++ [(⟨ps[j].1,ps[j].2,1⟩:Hd)]).map hdD:=by
  rw [List.map_append]
  rfl
 have hm2:m < (hs ++ [(⟨ps[j].1,ps[j].2,1⟩:Hd)]).length:=by rw [List.length_append,List.length_singleton]; exact hm
 have e2:=at_map (f:=hdD) (l:=hs ++ [(⟨ps[j].1,ps[j].2,1⟩:Hd)]) (k:=m) (List.getElem?_eq_getElem hm2)
 have wl:Wl (a0F rows) ((hs ++ [(⟨ps[j].1,ps[j].2,1⟩:Hd)])[m]).a ((hs ++ [(⟨ps[j].1,ps[j].2,1⟩:Hd)])[m]).b:=by
  rcases List.mem_append.mp (List.getElem_mem hm2) with z | z
  ·exact D.w z
  ·rw [List.mem_singleton.mp z]
   exact D.pw _ (List.getElem_mem hj)
 have le:((hs ++ [(⟨ps[j].1,ps[j].2,1⟩:Hd)]).map hdD).length=hs.length + 1:=by simp
 push_cast [List.length_map]
 rw [a5Q hk]
 push_cast [List.length_map]
 rw [ej,e1]
 push_cast [b1f]
 rw [es,le,em,e2]
 refine ⟨by ac_rfl,by ac_rfl,by ac_rfl,_,_,_,rfl,D.hn,wl,fun bad v o=>?_⟩
 have ec:(hs.map hdD).take at0 ++ [bad] ++ (hs.map hdD).drop at0=(hs.take at0).map hdD ++ bad :: (hs.drop at0).map hdD:=by
  rw [List.map_take,List.map_drop,List.append_assoc]
  rfl
 push_cast [List.length_map]
 rw [ea,cut_hi,cut_lo,ec]
 refine ⟨by ac_rfl,by simp; ac_rfl,by simp; ac_rfl,?_⟩
 exact h _ at0 bad (by ac_rfl) ⟨(List.take_append_drop at0 hs).symm,D.ok,l1,v,o⟩
theorem turns {C XN:Addr} {E:En} {ns:List Int} {rows:List Rw} {ps:List (Nat × Nat)} {hs:List Hd} (D:Dr rows ps hs) {l:List Int} {x1 x2 x6 x9:Sl} (h:∀ x8 x11 x12 x13 x14 x15,E.nx [.v (.scr ns),x1,x2,.v (.lst (nsD (a0F rows))),.v (a0W C rows),.v (.lst (npD ps)),x6,.v (.lst (hs.map hdD)),x8,x9,.v (.lst (nsD l)),x11,x12,x13,x14,x15]):∀ (i k:Nat) (x8 x11 x12 x13 x14 x15:Sl),k + i=l.length ->
  a1e (gN 11) (b0E a1p a1D a1E a3e a3W a3X (a2C C XN) a3O a2N a1y (a3V C) (a2e C)) [] (a0K k i) E [.v (.scr ns),x1,x2,.v (.lst (nsD (a0F rows))),.v (a0W C rows),.v (.lst (npD ps)),x6,.v (.lst (hs.map hdD)),x8,x9,.v (.lst (nsD l)),x11,x12,x13,x14,x15]:=by
 have l1:=D.l1
 have p0:0 < ps.length:=List.length_pos_iff.mpr D.p0
 intro i
 induction i with
 | zero=>
  intro k x8 x11 x12 x13 x14 x15 _
  rw [a1q,a0S]
  exact ⟨fun p hp=>by simp at hp,h _ _ _ _ _ _⟩
 | succ i ih=>
  intro k x8 x11 x12 x13 x14 x15 hk
  rw [a1a,a0C]
  refine ⟨fun p hp=>by simp at hp,?_⟩
  rw [show ((k:Int) + 1)=((k + 1:Nat):Int) by ac_rfl]
  have nx:=fun a b c d e f=>ih (k + 1) a b c d e f (by ac_rfl)
  generalize a1e (gN 11) (b0E a1p a1D a1E a3e a3W a3X (a2C C XN) a3O a2N a1y (a3V C) (a2e C)) [] (a0K ((k + 1:Nat):Int) i) E=G at nx ⊢
  show (a0z (a2a 12 (eOp a1N (a0e 7) (a3P (a0b (eOp a8g (eOp pIx (a0e 5) (eOp a3h (eOp pIx (a0e 10) (a0e 11)) (eCB a4r (a0b (a0e 5) a0m)))) (a4s (a0b (eC (.str "more")) a0m))) a0m)))) (a0z (a2a 13 (a0B a1y (a0b (eOp pIx (a0e 12) (eOp a3h (eOp a4v (eOp pIx (a0e 10) (a0e 11)) (eC (.int 5))) (eCB a4r (a0b (a0e 12) a0m)))) (a0b (a0e 3) (a0b (eOp a1N (eOp pIx (a0e 10) (a0e 11)) (a0e 11)) a0m))))) (a0z (a2a 14 (eOp a3h (eOp a4v (eOp pIx (a0e 10) (a0e 11)) (eC (.int 3))) (eOp a1N (eCB a4r (a0b (a0e 7) a0m)) (eC (.int 1))))) (a0z (a2a 8 (eOp a1N (eOp a1N (eSl (a0e 7) a1d (a3i (a0e 14))) (a3P (a0b (a0e 13) a0m))) (eSl (a0e 7) (a3i (a0e 14)) a1d))) (a0z (a7b (b0q (a3P (a0b (eC (.int 0)) (a0b (eOp a1N (eC (.int 1)) (eOp a3h (a0e 11) (eC (.int 4)))) (a0b (eC (.int 4)) a0m))))) (gN 15) (a5P a1p a1D a1E a3e a3W a3X (a2C C XN) a3O a2N a1y (a3V C) (a2e C))) (sIf (a1n (eOp pNe (a0e 8) (eOp a1N (eOp a1N (eSl (a0e 7) a1d (a3i (a0e 14))) (a3P (a0b (a0e 13) a0m))) (eSl (a0e 7) (a3i (a0e 14)) a1d)))) (a2F (eC (.bl false))) a1g)))))) _ _
  refine tn_1 (XN:=XN) D (by ac_rfl) fun x12 at0 bad h1 T=>tn_2 T h1 fun x15=>?_
  exact nx _ _ _ _ _ _
theorem p_law {C XN:Addr}:∀ ds Q,spLaw ds Q->t_law a1p a1D a1E a3e a3W a3X (a2C C XN) a3O a2N a1y (a3V C) (a2e C) { nx:=fun _=>Q (.v .non),rt:=Q } (a0k ["_law_script", "_law_cell", "_law_counts", "_law_kinds_here", "_law_sides", "_law_pairs_here", "_law_many", "_law_holds_here", "_law_handed", "_law_told", "_law_cells", "_law_k", "_law_some", "_law_bad", "_law_at", "_law_door"] ds):=by
 rintro ds Q ⟨ns,rfl,hl,h⟩
 refine la_1 (C:=C) (XN:=XN) fun x1 cs Cn=>la_1b (XN:=XN) Cn fun rows g ek=>la_2 (XN:=XN) Cn ek fun m ps h1 h2 h3 h4=>la_2b (XN:=XN) ?_ h2 h3 h4 h1 fun hs D=>la_3 D fun x9=>la_4 (C:=C) (XN:=XN) hl fun l hl2=>?_
 ·have:=Cn.tot
  rw [ek,a3y]
  ac_rfl
 ·push_cast [List.length_map]
  refine ⟨by ac_rfl,?_⟩
  rw [Int.toNat_natCast]
  refine turns D (fun x8 x11 x12 x13 x14 x15=>?_) l.length 0 _ _ _ _ _ _ (by ac_rfl)
  ac_nf
  exact h
end Lw
namespace Hd
open PySem PySem.W
noncomputable def ofL:List Obj->Nat->BT->Option (BT × Nat)
 | [],n,t=>some (t,n)
 | o :: r,n,t=>match ((t.ins n o).get n).isSome with
  | true=>ofL r (n + 1) (t.ins n o)
  | false=>none
theorem b1h {life:Life}:∀ (l:List Obj) (n:Nat) (t:BT) {t':BT} {n':Nat},ofL l n t=some (t',n')->absHeap t' n' life=⟨((absHeap t n life).objs.toList ++ l).toArray,life⟩
 | [],n,t,t',n',h=>by
  cases h
  rw [List.append_nil]
  rfl
 | o :: r,n,t,t',n',h=>by
  rw [ofL] at h
  cases g:((t.ins n o).get n).isSome with
  | false=>rw [g] at h; cases h
  | true=>
   rw [g] at h
   rw [b1h r (n + 1) (t.ins n o) h,absHeap_ins g]
   show Heap.mk _ _=Heap.mk _ _
   congr 1
   show (((absHeap t n life).objs.push o).toList ++ r).toArray=_
   simp
theorem ofL_heap {h:Heap} {t:BT} {n:Nat} (e:ofL h.objs.toList 0 .nil=some (t,n)):absHeap t n h.life=h:=by
 rw [b1h (life:=h.life) _ _ _ e]
 rfl
noncomputable def a7N (st:SharedT->Thread->Option (SharedT × Thread)) (th:Thread->Bool) (ok:Thread->Bool):Nat->SharedT->Thread->Option SharedT
 | 0,_,_=>none
 | n + 1,s,t=>match th t with
  | true=>some s
  | false=>match ok t with
   | false=>none
   | true=>match Nat.ble s.toks 1000000 with
    | false=>none
    | true=>match st s t with
     | some (s',t')=>a7N st th ok n s' t'
     | none=>none
theorem a5S {tb:String->Option Builtin} {p:Program} {w:World} {n₀:Nat} {ann:Option Value}:∀ (n:Nat) (s:SharedT) (t:Thread) {s':SharedT},a7N (stepT (denote tb) p w) through (stepOk n₀ ann) n s t=some s'->topRun tb p w n₀ ann n s.abs t=some s'.abs
 | 0,_,_,_,h=>by cases h
 | n + 1,s,t,s',h=>by
  unfold a7N at h
  unfold topRun
  cases ht:through t with
  | true=>rw [ht] at h; cases h; rfl
  | false=>
   rw [ht] at h
   cases hk:stepOk n₀ ann t with
   | false=>rw [hk] at h; cases h
   | true=>
    rw [hk] at h
    dsimp only at h ⊢
    cases hb:Nat.ble s.toks 1000000 with
    | false=>rw [hb] at h; cases h
    | true=>
     rw [hb] at h
     dsimp only at h
     cases hs:stepT (denote tb) p w s t with
     | none=>rw [hs] at h; cases h
     | some x=>
      obtain ⟨s1,t1⟩:=x
      rw [hs] at h
      rw [stepT_spec hs]
      exact a5S n s1 t1 h
noncomputable def runAll (st:SharedT->Thread->Option (SharedT × Thread)) (th:Thread->Bool) (ok:Thread->Bool) (M:Nat) (h:Heap) (gs:Array GenState) (d:Drawn) (k:Nat) (os:OsState) (t:Thread):Option SharedT:=
 match ofL h.objs.toList 0 .nil with
 | some (b,n)=>a7N st th ok M ⟨b,n,h.life,gs,d,k,os⟩ t
 | none=>none
theorem a9R {tb:String->Option Builtin} {p:Program} {w:World} {n₀:Nat} {ann:Option Value} {M:Nat} {h:Heap} {gs:Array GenState} {d:Drawn} {k:Nat} {os:OsState} {t:Thread} {s':SharedT}
  (e:runAll (stepT (denote tb) p w) through (stepOk n₀ ann) M h gs d k os t=some s'):topRun tb p w n₀ ann M ⟨h,gs,d,k,os⟩ t=some s'.abs:=by
 unfold runAll at e
 cases q:ofL h.objs.toList 0 .nil with
 | none=>rw [q] at e; cases e
 | some x=>
  obtain ⟨b,n⟩:=x
  rw [q] at e
  have:=a5S M _ _ e
  unfold SharedT.abs at this
  dsimp only at this
  rw [ofL_heap q] at this
  exact this
theorem left_of {p q:Program} {loose:List Str} {Xt:Shared->Bool} {α:Type} {Yf:Shared->α} {Ya:World->α} {N:Nat} {g0:Bool} {HZ:Params->Heap} {gs₀:Array GenState} {d₀:Drawn} {k₀:Nat} {m₀:Nat} {ann:Option Value} {M:Nat}
  (open_:∀ w:World,(fencedOpening treeTable p w N).map (fun s=>(s.heap,s.gens,s.drawn,s.toks))=some (HZ w.params,gs₀,d₀,k₀))
  (size:∀ w:World,((HZ w.params).isNs mainGlobals && gs₀.size == 0,(HZ w.params).objs.size,(HZ w.params).nsMap mainGlobals "__annotations__")=(true,m₀,ann)) (le:Nat.ble M N=true)
  (run:∀ (w:World) (os:OsState),(runAll (stepT (denote treeTable) p w) through (stepOk m₀ ann) M (HZ w.params) gs₀ d₀ k₀ os (topStub p)).map (fun s=>
    ((staticsOk (importedModules p.main.body) (HZ w.params) s.abs.heap && namesBound p s.abs.heap && gensDone s.abs && laidKept (HZ w.params) s.abs.heap),openSeen q loose (importedModules p.main.body) Xt g0 s.abs,Yf s.abs))=some (true,openGood q loose,Ya w)):
  LeftO p q loose Xt Yf Ya N g0:=fun w=>by
 obtain ⟨⟨h,gs,d,k,os⟩,e,e'⟩:=Option.map_eq_some_iff.mp (open_ w)
 obtain ⟨rfl,rfl,rfl,rfl⟩:h=HZ w.params/\gs=gs₀/\d=d₀/\k=k₀:=by simpa using e'
 obtain ⟨z1,z2,z3⟩:_/\_/\_:=by simpa only [Prod.mk.injEq] using size w
 obtain ⟨s',r,l⟩:=Option.map_eq_some_iff.mp (run w os)
 obtain ⟨l1,l2,l3⟩:_/\_/\_:=by simpa only [Prod.mk.injEq] using l
 have r:=topRun_mono (N - M) _ _ _ _ (a9R r)
 rw [show M + (N - M)=N by have:=Nat.le_of_ble_eq_true le; ac_rfl] at r
 have t:topFrom treeTable p w N ⟨HZ w.params,gs,d,k,os⟩=some s'.abs:=by
  unfold topFrom
  dsimp only
  rw [z1,z2,z3,r]
  show (match staticsOk (importedModules p.main.body) (HZ w.params) s'.abs.heap && namesBound p s'.abs.heap && gensDone s'.abs && laidKept (HZ w.params) s'.abs.heap with | true=>_ | false=>_)=_
  rw [l1]
 unfold openEnds
 rw [e]
 show (topFrom treeTable p w N _).map _=_
 rw [t]
 exact congrArg some (Prod.ext l2 l3)
end Hd
namespace Lw
open PySem PySem.Spec PyProof.Rows L2 Z
theorem law_start {K:W.Frag} {H:Hp} {a:Addr} {ns:List Int} (hl:ns.length<=63) (hO:Only H) (hS:SqL K H a (ns.map V.int)):low K spLaw [.ref a] H (fun v _=>v=.bl true) (fun _ _ _=>False):=
 start_low (fun Q q=>⟨ns,rfl,hl,q⟩) hO (fun P q z=>nomatch z.1) hS
theorem us1 {us:List Value} (h:us.length=1):∃ a0,us=[a0]:=by
 cases us with
 | nil=>cases h
 | cons a r=>obtain ⟨rfl⟩:=List.length_eq_zero_iff.mp (Nat.succ.inj h); exact ⟨a,rfl⟩
theorem us2 {us:List Value} (h:us.length=2):∃ a0 a1,us=[a0,a1]:=by
 cases us with
 | nil=>cases h
 | cons a r=>obtain ⟨a1,rfl⟩:=us1 (Nat.succ.inj h); exact ⟨a,a1,rfl⟩
theorem us3 {us:List Value} (h:us.length=3):∃ a0 a1 a2,us=[a0,a1,a2]:=by
 cases us with
 | nil=>cases h
 | cons a r=>obtain ⟨a1,a2,rfl⟩:=us2 (Nat.succ.inj h); exact ⟨a,a1,a2,rfl⟩
theorem us4 {us:List Value} (h:us.length=4):∃ a0 a1 a2 a3,us=[a0,a1,a2,a3]:=by
 cases us with
 | nil=>cases h
 | cons a r=>obtain ⟨a1,a2,a3,rfl⟩:=us3 (Nat.succ.inj h); exact ⟨a,a1,a2,a3,rfl⟩
theorem all_mk {l:W.OpenLaw} {w:World} {K:W.Frag} {h:Heap} {mg:Str->Option Value} {fa:Addr} (X:K.In h) (G:h.Ns mainGlobals mg) (hfa:mg "law" = some (.ref fa))
  {C:Addr}
  {f0:Addr} {od0 an0:Option Addr} {sl0:Array (Option Value)} {oc0 kV0 dc0 pm0 cd0 ct0:Value}
  {f1:Addr} {od1 an1:Option Addr} {sl1:Array (Option Value)} {oc1 kV1 dc1 pm1 cd1 ct1:Value}
  {f2:Addr} {od2 an2:Option Addr} {sl2:Array (Option Value)} {oc2 kV2 dc2 pm2 cd2 ct2:Value}
  {f3:Addr} {od3 an3:Option Addr} {sl3:Array (Option Value)} {oc3 kV3 dc3 pm3 cd3 ct3:Value}
  {f4:Addr} {od4 an4:Option Addr} {sl4:Array (Option Value)} {oc4 kV4 dc4 pm4 cd4 ct4:Value}
  {f5:Addr} {od5 an5:Option Addr} {sl5:Array (Option Value)} {oc5 kV5 dc5 pm5 cd5 ct5:Value}
  {f6:Addr} {od6 an6:Option Addr} {sl6:Array (Option Value)} {oc6 kV6 dc6 pm6 cd6 ct6:Value}
  {f7:Addr} {od7 an7:Option Addr} {sl7:Array (Option Value)} {oc7 kV7 dc7 pm7 cd7 ct7:Value}
  {f8:Addr} {od8 an8:Option Addr} {sl8:Array (Option Value)} {oc8 kV8 dc8 pm8 cd8 ct8:Value}
  {f9:Addr} {od9 an9:Option Addr} {sl9:Array (Option Value)} {oc9 kV9 dc9 pm9 cd9 ct9:Value}
  {f10:Addr} {od10 an10:Option Addr} {sl10:Array (Option Value)} {oc10 kV10 dc10 pm10 cd10 ct10:Value}
  {f11:Addr} {od11 an11:Option Addr} {sl11:Array (Option Value)} {oc11 kV11 dc11 pm11 cd11 ct11:Value}
  {f12:Addr} {od12 an12:Option Addr} {sl12:Array (Option Value)} {oc12 kV12 dc12 pm12 cd12 ct12:Value}
  {f13:Addr} {od13 an13:Option Addr} {sl13:Array (Option Value)} {oc13 kV13 dc13 pm13 cd13 ct13:Value}
  {f14:Addr} {od14 an14:Option Addr} {sl14:Array (Option Value)} {oc14 kV14 dc14 pm14 cd14 ct14:Value}
  {f15:Addr} {od15 an15:Option Addr} {sl15:Array (Option Value)} {oc15 kV15 dc15 pm15 cd15 ct15:Value}
  {f16:Addr} {od16 an16:Option Addr} {sl16:Array (Option Value)} {oc16 kV16 dc16 pm16 cd16 ct16:Value}
  {f17:Addr} {od17 an17:Option Addr} {sl17:Array (Option Value)} {oc17 kV17 dc17 pm17 cd17 ct17:Value}
  {f18:Addr} {od18 an18:Option Addr} {sl18:Array (Option Value)} {oc18 kV18 dc18 pm18 cd18 ct18:Value}
  {f19:Addr} {od19 an19:Option Addr} {sl19:Array (Option Value)} {oc19 kV19 dc19 pm19 cd19 ct19:Value}
  {f20:Addr} {od20 an20:Option Addr} {sl20:Array (Option Value)} {oc20 kV20 dc20 pm20 cd20 ct20:Value}
  {f21:Addr} {od21 an21:Option Addr} {sl21:Array (Option Value)} {oc21 kV21 dc21 pm21 cd21 ct21:Value}
  {f22:Addr} {od22 an22:Option Addr} {sl22:Array (Option Value)} {oc22 kV22 dc22 pm22 cd22 ct22:Value}
  {f23:Addr} {od23 an23:Option Addr} {sl23:Array (Option Value)} {oc23 kV23 dc23 pm23 cd23 ct23:Value}
  {f24:Addr} {od24 an24:Option Addr} {sl24:Array (Option Value)} {oc24 kV24 dc24 pm24 cd24 ct24:Value}
  {f25:Addr} {od25 an25:Option Addr} {sl25:Array (Option Value)} {oc25 kV25 dc25 pm25 cd25 ct25:Value}
  {f26:Addr} {od26 an26:Option Addr} {sl26:Array (Option Value)} {oc26 kV26 dc26 pm26 cd26 ct26:Value}
  {f27:Addr} {od27 an27:Option Addr} {sl27:Array (Option Value)} {oc27 kV27 dc27 pm27 cd27 ct27:Value}
  {f28:Addr} {od28 an28:Option Addr} {sl28:Array (Option Value)} {oc28 kV28 dc28 pm28 cd28 ct28:Value}
  {f29:Addr} {od29 an29:Option Addr} {sl29:Array (Option Value)} {oc29 kV29 dc29 pm29 cd29 ct29:Value}
  {f30:Addr} {od30 an30:Option Addr} {sl30:Array (Option Value)} {oc30 kV30 dc30 pm30 cd30 ct30:Value}
  {f31:Addr} {od31 an31:Option Addr} {sl31:Array (Option Value)} {oc31 kV31 dc31 pm31 cd31 ct31:Value}
  {f32:Addr} {od32 an32:Option Addr} {sl32:Array (Option Value)} {oc32 kV32 dc32 pm32 cd32 ct32:Value}
  {t_FEWEST_DIRECTIONS:Tok}
  {t_MOST_DIRECTIONS:Tok}
  {t_MOST_BANDS:Tok}
  {t_LARGEST_PART:Tok}
  {a5R:Addr}
  {odW:Option Addr} {slW:Array (Option Value)} {tW1 tW2 tW3:Tok} {nW:Nat}
  {a1t:Addr}
  {a2K:Addr}
  {a4i:Addr}
  {a2L:Addr}
  {a2b:Addr}
  {a3p:Addr}
  {a1J:Addr}
  {a2J:Addr}
  {a0j:Addr}
  {a3n:Addr}
  {a3o:Addr}
  (aC:W.nsIn K mainGlobals "Sides" = some (some (.ref C)))
  (a0:W.findIn K (.ref C) "__init__" = some (some (.ref f0))) (i0:W.isFn K (.ref f0)=true)
  (l0:K.lookup f0=some ⟨oc0,od0,.func (W.fnOf "__init__" "Sides.__init__" (a0t (a0I (top 32) 0)) (a0o (a0I (top 32) 0)) (a0d (a0I (top 32) 0)) .none kV0 dc0 pm0 an0 cd0 ct0),sl0⟩) (c0:W.codeIn K cd0 "Sides.__init__" = true) (k0:W.keepIn K (.ref f0)=true)
  (a1:W.findIn K (.ref C) "many" = some (some (.ref f1))) (i1:W.isFn K (.ref f1)=true)
  (l1:K.lookup f1=some ⟨oc1,od1,.func (W.fnOf "many" "Sides.many" (a0t (a0I (top 32) 1)) (a0o (a0I (top 32) 1)) (a0d (a0I (top 32) 1)) .none kV1 dc1 pm1 an1 cd1 ct1),sl1⟩) (c1:W.codeIn K cd1 "Sides.many" = true) (k1:W.keepIn K (.ref f1)=true)
  (a2:W.findIn K (.ref C) "kind" = some (some (.ref f2))) (i2:W.isFn K (.ref f2)=true)
  (l2:K.lookup f2=some ⟨oc2,od2,.func (W.fnOf "kind" "Sides.kind" (a0t (a0I (top 32) 2)) (a0o (a0I (top 32) 2)) (a0d (a0I (top 32) 2)) .none kV2 dc2 pm2 an2 cd2 ct2),sl2⟩) (c2:W.codeIn K cd2 "Sides.kind" = true) (k2:W.keepIn K (.ref f2)=true)
  (a3:W.findIn K (.ref C) "first" = some (some (.ref f3))) (i3:W.isFn K (.ref f3)=true)
  (l3:K.lookup f3=some ⟨oc3,od3,.func (W.fnOf "first" "Sides.first" (a0t (a0I (top 32) 5)) (a0o (a0I (top 32) 5)) (a0d (a0I (top 32) 5)) .none kV3 dc3 pm3 an3 cd3 ct3),sl3⟩) (c3:W.codeIn K cd3 "Sides.first" = true) (k3:W.keepIn K (.ref f3)=true)
  (pg:W.plainGet K C Str.empty=true) (hd:W.hasDictIn K C=true) (po:W.plainOver K C=true) (sa:W.findIn K (.ref C) "__setattr__" = some (some (.builtin "object.__setattr__"))) (mk:W.makesIn K C=true) (kc:W.keepIn K (.ref C)=true)
  (n_kinds:W.findIn K (.ref C) "kinds" = some none)
  (n_vectors:W.findIn K (.ref C) "vectors" = some none)
  (a4:W.nsIn K mainGlobals "is_whole" = some (some (.ref f4)))
  (l4:K.lookup f4=some ⟨oc4,od4,.func (W.fnOf "is_whole" "is_whole" (a0t (top 14)) (a0o (top 14)) (a0d (top 14)) .none kV4 dc4 pm4 an4 cd4 ct4),sl4⟩) (c4:W.codeIn K cd4 "is_whole" = true) (k4:W.keepIn K (.ref f4)=true)
  (a5:W.nsIn K mainGlobals "is_pair" = some (some (.ref f5)))
  (l5:K.lookup f5=some ⟨oc5,od5,.func (W.fnOf "is_pair" "is_pair" (a0t (top 17)) (a0o (top 17)) (a0d (top 17)) .none kV5 dc5 pm5 an5 cd5 ct5),sl5⟩) (c5:W.codeIn K cd5 "is_pair" = true) (k5:W.keepIn K (.ref f5)=true)
  (a6:W.nsIn K mainGlobals "is_hold" = some (some (.ref f6)))
  (l6:K.lookup f6=some ⟨oc6,od6,.func (W.fnOf "is_hold" "is_hold" (a0t (top 18)) (a0o (top 18)) (a0d (top 18)) .none kV6 dc6 pm6 an6 cd6 ct6),sl6⟩) (c6:W.codeIn K cd6 "is_hold" = true) (k6:W.keepIn K (.ref f6)=true)
  (a7:W.nsIn K mainGlobals "pulls_of" = some (some (.ref f7)))
  (l7:K.lookup f7=some ⟨oc7,od7,.func (W.fnOf "pulls_of" "pulls_of" (a0t (top 19)) (a0o (top 19)) (a0d (top 19)) .none kV7 dc7 pm7 an7 cd7 ct7),sl7⟩) (c7:W.codeIn K cd7 "pulls_of" = true) (k7:W.keepIn K (.ref f7)=true)
  (a8:W.nsIn K mainGlobals "pulls" = some (some (.ref f8)))
  (l8:K.lookup f8=some ⟨oc8,od8,.func (W.fnOf "pulls" "pulls" (a0t (top 20)) (a0o (top 20)) (a0d (top 20)) .none kV8 dc8 pm8 an8 cd8 ct8),sl8⟩) (c8:W.codeIn K cd8 "pulls" = true) (k8:W.keepIn K (.ref f8)=true)
  (a9:W.nsIn K mainGlobals "has_three_wholes" = some (some (.ref f9)))
  (l9:K.lookup f9=some ⟨oc9,od9,.func (W.fnOf "has_three_wholes" "has_three_wholes" (a0t (top 26)) (a0o (top 26)) (a0d (top 26)) .none kV9 dc9 pm9 an9 cd9 ct9),sl9⟩) (c9:W.codeIn K cd9 "has_three_wholes" = true) (k9:W.keepIn K (.ref f9)=true)
  (a10:W.nsIn K mainGlobals "has_few_figures" = some (some (.ref f10)))
  (l10:K.lookup f10=some ⟨oc10,od10,.func (W.fnOf "has_few_figures" "has_few_figures" (a0t (top 27)) (a0o (top 27)) (a0d (top 27)) .none kV10 dc10 pm10 an10 cd10 ct10),sl10⟩) (c10:W.codeIn K cd10 "has_few_figures" = true) (k10:W.keepIn K (.ref f10)=true)
  (a11:W.nsIn K mainGlobals "points_up" = some (some (.ref f11)))
  (l11:K.lookup f11=some ⟨oc11,od11,.func (W.fnOf "points_up" "points_up" (a0t (top 28)) (a0o (top 28)) (a0d (top 28)) .none kV11 dc11 pm11 an11 cd11 ct11),sl11⟩) (c11:W.codeIn K cd11 "points_up" = true) (k11:W.keepIn K (.ref f11)=true)
  (a12:W.nsIn K mainGlobals "lies_left" = some (some (.ref f12)))
  (l12:K.lookup f12=some ⟨oc12,od12,.func (W.fnOf "lies_left" "lies_left" (a0t (top 29)) (a0o (top 29)) (a0d (top 29)) .none kV12 dc12 pm12 an12 cd12 ct12),sl12⟩) (c12:W.codeIn K cd12 "lies_left" = true) (k12:W.keepIn K (.ref f12)=true)
  (a13:W.nsIn K mainGlobals "check_direction" = some (some (.ref f13)))
  (l13:K.lookup f13=some ⟨oc13,od13,.func (W.fnOf "check_direction" "check_direction" (a0t (top 30)) (a0o (top 30)) (a0d (top 30)) .none kV13 dc13 pm13 an13 cd13 ct13),sl13⟩) (c13:W.codeIn K cd13 "check_direction" = true) (k13:W.keepIn K (.ref f13)=true)
  (a14:W.nsIn K mainGlobals "check_directions" = some (some (.ref f14)))
  (l14:K.lookup f14=some ⟨oc14,od14,.func (W.fnOf "check_directions" "check_directions" (a0t (top 31)) (a0o (top 31)) (a0d (top 31)) .none kV14 dc14 pm14 an14 cd14 ct14),sl14⟩) (c14:W.codeIn K cd14 "check_directions" = true) (k14:W.keepIn K (.ref f14)=true)
  (a15:W.nsIn K mainGlobals "groups" = some (some (.ref f15)))
  (l15:K.lookup f15=some ⟨oc15,od15,.func (W.fnOf "groups" "groups" (a0t (top 36)) (a0o (top 36)) (a0d (top 36)) .none kV15 dc15 pm15 an15 cd15 ct15),sl15⟩) (c15:W.codeIn K cd15 "groups" = true) (k15:W.keepIn K (.ref f15)=true)
  (a16:W.nsIn K mainGlobals "there_and_back" = some (some (.ref f16)))
  (l16:K.lookup f16=some ⟨oc16,od16,.func (W.fnOf "there_and_back" "there_and_back" (a0t (top 37)) (a0o (top 37)) (a0d (top 37)) .none kV16 dc16 pm16 an16 cd16 ct16),sl16⟩) (c16:W.codeIn K cd16 "there_and_back" = true) (k16:W.keepIn K (.ref f16)=true)
  (a17:W.nsIn K mainGlobals "free" = some (some (.ref f17)))
  (l17:K.lookup f17=some ⟨oc17,od17,.func (W.fnOf "free" "free" (a0t (top 38)) (a0o (top 38)) (a0d (top 38)) .none kV17 dc17 pm17 an17 cd17 ct17),sl17⟩) (c17:W.codeIn K cd17 "free" = true) (k17:W.keepIn K (.ref f17)=true)
  (a18:W.nsIn K mainGlobals "needless" = some (some (.ref f18)))
  (l18:K.lookup f18=some ⟨oc18,od18,.func (W.fnOf "needless" "needless" (a0t (top 39)) (a0o (top 39)) (a0d (top 39)) .none kV18 dc18 pm18 an18 cd18 ct18),sl18⟩) (c18:W.codeIn K cd18 "needless" = true) (k18:W.keepIn K (.ref f18)=true)
  (a19:W.nsIn K mainGlobals "_law_deep" = some (some (.ref f19)))
  (l19:K.lookup f19=some ⟨oc19,od19,.func (W.fnOf "_law_deep" "_law_deep" (a0t (top 41)) (a0o (top 41)) (a0d (top 41)) .none kV19 dc19 pm19 an19 cd19 ct19),sl19⟩) (c19:W.codeIn K cd19 "_law_deep" = true) (k19:W.keepIn K (.ref f19)=true)
  (a20:W.nsIn K mainGlobals "_law_whole" = some (some (.ref f20)))
  (l20:K.lookup f20=some ⟨oc20,od20,.func (W.fnOf "_law_whole" "_law_whole" (a0t (top 42)) (a0o (top 42)) (a0d (top 42)) .none kV20 dc20 pm20 an20 cd20 ct20),sl20⟩) (c20:W.codeIn K cd20 "_law_whole" = true) (k20:W.keepIn K (.ref f20)=true)
  (a21:W.nsIn K mainGlobals "_law_dirs" = some (some (.ref f21)))
  (l21:K.lookup f21=some ⟨oc21,od21,.func (W.fnOf "_law_dirs" "_law_dirs" (a0t (top 43)) (a0o (top 43)) (a0d (top 43)) .none kV21 dc21 pm21 an21 cd21 ct21),sl21⟩) (c21:W.codeIn K cd21 "_law_dirs" = true) (k21:W.keepIn K (.ref f21)=true)
  (a22:W.nsIn K mainGlobals "_law_kinds" = some (some (.ref f22)))
  (l22:K.lookup f22=some ⟨oc22,od22,.func (W.fnOf "_law_kinds" "_law_kinds" (a0t (top 44)) (a0o (top 44)) (a0d (top 44)) .none kV22 dc22 pm22 an22 cd22 ct22),sl22⟩) (c22:W.codeIn K cd22 "_law_kinds" = true) (k22:W.keepIn K (.ref f22)=true)
  (a23:W.nsIn K mainGlobals "_law_parted" = some (some (.ref f23)))
  (l23:K.lookup f23=some ⟨oc23,od23,.func (W.fnOf "_law_parted" "_law_parted" (a0t (top 45)) (a0o (top 45)) (a0d (top 45)) .none kV23 dc23 pm23 an23 cd23 ct23),sl23⟩) (c23:W.codeIn K cd23 "_law_parted" = true) (k23:W.keepIn K (.ref f23)=true)
  (a24:W.nsIn K mainGlobals "_law_alone" = some (some (.ref f24)))
  (l24:K.lookup f24=some ⟨oc24,od24,.func (W.fnOf "_law_alone" "_law_alone" (a0t (top 46)) (a0o (top 46)) (a0d (top 46)) .none kV24 dc24 pm24 an24 cd24 ct24),sl24⟩) (c24:W.codeIn K cd24 "_law_alone" = true) (k24:W.keepIn K (.ref f24)=true)
  (a25:W.nsIn K mainGlobals "_law_pairs" = some (some (.ref f25)))
  (l25:K.lookup f25=some ⟨oc25,od25,.func (W.fnOf "_law_pairs" "_law_pairs" (a0t (top 47)) (a0o (top 47)) (a0d (top 47)) .none kV25 dc25 pm25 an25 cd25 ct25),sl25⟩) (c25:W.codeIn K cd25 "_law_pairs" = true) (k25:W.keepIn K (.ref f25)=true)
  (a26:W.nsIn K mainGlobals "_law_holds" = some (some (.ref f26)))
  (l26:K.lookup f26=some ⟨oc26,od26,.func (W.fnOf "_law_holds" "_law_holds" (a0t (top 48)) (a0o (top 48)) (a0d (top 48)) .none kV26 dc26 pm26 an26 cd26 ct26),sl26⟩) (c26:W.codeIn K cd26 "_law_holds" = true) (k26:W.keepIn K (.ref f26)=true)
  (a27:W.nsIn K mainGlobals "_law_spoilt" = some (some (.ref f27)))
  (l27:K.lookup f27=some ⟨oc27,od27,.func (W.fnOf "_law_spoilt" "_law_spoilt" (a0t (top 49)) (a0o (top 49)) (a0d (top 49)) .none kV27 dc27 pm27 an27 cd27 ct27),sl27⟩) (c27:W.codeIn K cd27 "_law_spoilt" = true) (k27:W.keepIn K (.ref f27)=true)
  (a28:W.nsIn K mainGlobals "_law_due" = some (some (.ref f28)))
  (l28:K.lookup f28=some ⟨oc28,od28,.func (W.fnOf "_law_due" "_law_due" (a0t (top 50)) (a0o (top 50)) (a0d (top 50)) .none kV28 dc28 pm28 an28 cd28 ct28),sl28⟩) (c28:W.codeIn K cd28 "_law_due" = true) (k28:W.keepIn K (.ref f28)=true)
  (a29:W.nsIn K mainGlobals "_law_good" = some (some (.ref f29)))
  (l29:K.lookup f29=some ⟨oc29,od29,.func (W.fnOf "_law_good" "_law_good" (a0t (top 51)) (a0o (top 51)) (a0d (top 51)) .none kV29 dc29 pm29 an29 cd29 ct29),sl29⟩) (c29:W.codeIn K cd29 "_law_good" = true) (k29:W.keepIn K (.ref f29)=true)
  (a30:W.nsIn K mainGlobals "_law_asked" = some (some (.ref f30)))
  (l30:K.lookup f30=some ⟨oc30,od30,.func (W.fnOf "_law_asked" "_law_asked" (a0t (top 52)) (a0o (top 52)) (a0d (top 52)) .none kV30 dc30 pm30 an30 cd30 ct30),sl30⟩) (c30:W.codeIn K cd30 "_law_asked" = true) (k30:W.keepIn K (.ref f30)=true)
  (a31:W.nsIn K mainGlobals "_law_refused" = some (some (.ref f31)))
  (l31:K.lookup f31=some ⟨oc31,od31,.func (W.fnOf "_law_refused" "_law_refused" (a0t (top 53)) (a0o (top 53)) (a0d (top 53)) .none kV31 dc31 pm31 an31 cd31 ct31),sl31⟩) (c31:W.codeIn K cd31 "_law_refused" = true) (k31:W.keepIn K (.ref f31)=true)
  (a32:W.nsIn K mainGlobals "law" = some (some (.ref f32)))
  (l32:K.lookup f32=some ⟨oc32,od32,.func (W.fnOf "law" "law" (a0t (top 54)) (a0o (top 54)) (a0d (top 54)) .none kV32 dc32 pm32 an32 cd32 ct32),sl32⟩) (c32:W.codeIn K cd32 "law" = true) (k32:W.keepIn K (.ref f32)=true)
  (z_FEWEST_DIRECTIONS:W.nsIn K mainGlobals "FEWEST_DIRECTIONS" = some (some (.int 2 t_FEWEST_DIRECTIONS)))
  (z_MOST_DIRECTIONS:W.nsIn K mainGlobals "MOST_DIRECTIONS" = some (some (.int 6 t_MOST_DIRECTIONS)))
  (z_MOST_BANDS:W.nsIn K mainGlobals "MOST_BANDS" = some (some (.int 12 t_MOST_BANDS)))
  (z_LARGEST_PART:W.nsIn K mainGlobals "LARGEST_PART" = some (some (.int 999999999999 t_LARGEST_PART)))
  (o_ValueError:W.nsIn K mainGlobals "ValueError" = some none)
  (o_abs:W.nsIn K mainGlobals "abs" = some none)
  (o_all:W.nsIn K mainGlobals "all" = some none)
  (o_bool:W.nsIn K mainGlobals "bool" = some none)
  (o_enumerate:W.nsIn K mainGlobals "enumerate" = some none)
  (o_int:W.nsIn K mainGlobals "int" = some none)
  (o_isinstance:W.nsIn K mainGlobals "isinstance" = some none)
  (o_len:W.nsIn K mainGlobals "len" = some none)
  (o_list:W.nsIn K mainGlobals "list" = some none)
  (o_min:W.nsIn K mainGlobals "min" = some none)
  (o_range:W.nsIn K mainGlobals "range" = some none)
  (o_sorted:W.nsIn K mainGlobals "sorted" = some none)
  (o_sum:W.nsIn K mainGlobals "sum" = some none)
  (o_tuple:W.nsIn K mainGlobals "tuple" = some none)
  (o_zip:W.nsIn K mainGlobals "zip" = some none)
  (aW_WORDS:W.nsIn K mainGlobals "WORDS" = some (some (.ref a5R)))
  (lW_WORDS:K.lookup a5R=some ⟨.type "tuple",odW,.seq #[.str "brace" tW1,.str "more" tW2,.str "less" tW3] nW,slW⟩)
  (aX_SlantError:W.nsIn K mainGlobals "SlantError" = some (some (.ref a1t)))
  (aX_NoSides:W.nsIn K mainGlobals "NoSides" = some (some (.ref a2K)))
  (aX_NoRow:W.nsIn K mainGlobals "NoRow" = some (some (.ref a4i)))
  (aX_NoFloor:W.nsIn K mainGlobals "NoFloor" = some (some (.ref a2L)))
  (aX_NoThrees:W.nsIn K mainGlobals "NoThrees" = some (some (.ref a2b)))
  (aX_NoFlip:W.nsIn K mainGlobals "NoFlip" = some (some (.ref a3p)))
  (aX_NoHeights:W.nsIn K mainGlobals "NoHeights" = some (some (.ref a1J)))
  (aX_TooMany:W.nsIn K mainGlobals "TooMany" = some (some (.ref a2J)))
  (aX_NoHold:W.nsIn K mainGlobals "NoHold" = some (some (.ref a0j)))
  (aX_NoTurn:W.nsIn K mainGlobals "NoTurn" = some (some (.ref a3n)))
  (aX_NoText:W.nsIn K mainGlobals "NoText" = some (some (.ref a3o)))
  (rq_NoHold:W.excIn K a0j [.type "ValueError",.type "Exception",.type "BaseException",.type "object"] "ValueError.__new__" = true)
  (x_NoHold_SlantError:W.exmOne K (.ref a0j) (.ref a1t)=some true)
  (ic1:W.isClsIn K a0j=true)
  (ic2:W.findIn K (.ref a0j) "__getattribute__" = some (some (.builtin "BaseException.__getattribute__")))
  (ic7:W.findIn K (.ref a0j) "__getattr__" = some none)
  (ic8:W.mroIn K a0j (.type "BaseException")=some true)
  (ic3:W.findIn K (.ref a0j) "__class__" = some (some (.builtin "object.__class__")))
  (ic4:W.specialIn K (.builtin "object.__class__") "__get__" = some (some (.builtin "getset_descriptor.__get__")))
  (ic5:W.takesIn K (.builtin "object.__class__")=some true)
  (ic6:W.mroIn K a0j (.type "object")=some true)
  (kq_NoSides:W.kitOne K (.ref a0j) (.ref a2K)=some false)
  (kq_NoRow:W.kitOne K (.ref a0j) (.ref a4i)=some false)
  (kq_NoFloor:W.kitOne K (.ref a0j) (.ref a2L)=some false)
  (kq_NoThrees:W.kitOne K (.ref a0j) (.ref a2b)=some false)
  (kq_NoFlip:W.kitOne K (.ref a0j) (.ref a3p)=some false)
  (kq_NoHeights:W.kitOne K (.ref a0j) (.ref a1J)=some false)
  (kq_TooMany:W.kitOne K (.ref a0j) (.ref a2J)=some false)
  (kq_NoHold:W.kitOne K (.ref a0j) (.ref a0j)=some true)
  (kq_NoTurn:W.kitOne K (.ref a0j) (.ref a3n)=some false)
  (kq_NoText:W.kitOne K (.ref a0j) (.ref a3o)=some false)
  (kq_V:W.kitOne K (.ref a0j) (.type "ValueError")=some true):
  ∃ fd:FuncData,(∀ (s:Shared) (v:Value),BindsTo s fd ⟨[v],[]⟩ [("_law_script",v)]) /\ ∀ base:Heap,K.In base->base.Ns mainGlobals mg->FnOk l.prog w K mg base CX0 8 fa fd ["_law_script"] ((low K spLaw)):=by
 have e:=hfa.symm.trans (W.mg_of X G a32)
 cases e
 have F0:=a0R (st:=(a0I (top 32) 0)) l0 c0 k0
 have b0:=F0.binds (ps:=["self", "directions"]) fun _ _ _ _ _ _ us hl=>by obtain ⟨_,_,rfl⟩:=us2 hl; rfl
 have m0:MAt K C "__init__" "Sides.__init__" (a0I (top 32) 0) ["self", "directions"]:=⟨_,_,⟨a0,i0,k0⟩,F0,b0⟩
 have F1:=a0R (st:=(a0I (top 32) 1)) l1 c1 k1
 have b1:=F1.binds (ps:=["self"]) fun _ _ _ _ _ _ us hl=>by obtain ⟨_,rfl⟩:=us1 hl; rfl
 have m1:MAt K C "many" "Sides.many" (a0I (top 32) 1) ["self"]:=⟨_,_,⟨a1,i1,k1⟩,F1,b1⟩
 have F2:=a0R (st:=(a0I (top 32) 2)) l2 c2 k2
 have b2:=F2.binds (ps:=["self", "band"]) fun _ _ _ _ _ _ us hl=>by obtain ⟨_,_,rfl⟩:=us2 hl; rfl
 have m2:MAt K C "kind" "Sides.kind" (a0I (top 32) 2) ["self", "band"]:=⟨_,_,⟨a2,i2,k2⟩,F2,b2⟩
 have F3:=a0R (st:=(a0I (top 32) 5)) l3 c3 k3
 have b3:=F3.binds (ps:=["self"]) fun _ _ _ _ _ _ us hl=>by obtain ⟨_,rfl⟩:=us1 hl; rfl
 have m3:MAt K C "first" "Sides.first" (a0I (top 32) 5) ["self"]:=⟨_,_,⟨a3,i3,k3⟩,F3,b3⟩
 have F4:=a0R (st:=(top 14)) l4 c4 k4
 have b4:=F4.binds (ps:=["thing"]) fun _ _ _ _ _ _ us hl=>by obtain ⟨_,rfl⟩:=us1 hl; rfl
 have m4:At K mg "is_whole" "is_whole" (top 14) ["thing"]:=⟨_,_,W.mg_of X G a4,F4,b4⟩
 have F5:=a0R (st:=(top 17)) l5 c5 k5
 have b5:=F5.binds (ps:=["sides", "a", "b"]) fun _ _ _ _ _ _ us hl=>by obtain ⟨_,_,_,rfl⟩:=us3 hl; rfl
 have m5:At K mg "is_pair" "is_pair" (top 17) ["sides", "a", "b"]:=⟨_,_,W.mg_of X G a5,F5,b5⟩
 have F6:=a0R (st:=(top 18)) l6 c6 k6
 have b6:=F6.binds (ps:=["sides", "thing"]) fun _ _ _ _ _ _ us hl=>by obtain ⟨_,_,rfl⟩:=us2 hl; rfl
 have m6:At K mg "is_hold" "is_hold" (top 18) ["sides", "thing"]:=⟨_,_,W.mg_of X G a6,F6,b6⟩
 have F7:=a0R (st:=(top 19)) l7 c7 k7
 have b7:=F7.binds (ps:=["hold"]) fun _ _ _ _ _ _ us hl=>by obtain ⟨_,rfl⟩:=us1 hl; rfl
 have m7:At K mg "pulls_of" "pulls_of" (top 19) ["hold"]:=⟨_,_,W.mg_of X G a7,F7,b7⟩
 have F8:=a0R (st:=(top 20)) l8 c8 k8
 have b8:=F8.binds (ps:=["sides", "holds"]) fun _ _ _ _ _ _ us hl=>by obtain ⟨_,_,rfl⟩:=us2 hl; rfl
 have m8:At K mg "pulls" "pulls" (top 20) ["sides", "holds"]:=⟨_,_,W.mg_of X G a8,F8,b8⟩
 have F9:=a0R (st:=(top 26)) l9 c9 k9
 have b9:=F9.binds (ps:=["direction"]) fun _ _ _ _ _ _ us hl=>by obtain ⟨_,rfl⟩:=us1 hl; rfl
 have m9:At K mg "has_three_wholes" "has_three_wholes" (top 26) ["direction"]:=⟨_,_,W.mg_of X G a9,F9,b9⟩
 have F10:=a0R (st:=(top 27)) l10 c10 k10
 have b10:=F10.binds (ps:=["direction"]) fun _ _ _ _ _ _ us hl=>by obtain ⟨_,rfl⟩:=us1 hl; rfl
 have m10:At K mg "has_few_figures" "has_few_figures" (top 27) ["direction"]:=⟨_,_,W.mg_of X G a10,F10,b10⟩
 have F11:=a0R (st:=(top 28)) l11 c11 k11
 have b11:=F11.binds (ps:=["direction"]) fun _ _ _ _ _ _ us hl=>by obtain ⟨_,rfl⟩:=us1 hl; rfl
 have m11:At K mg "points_up" "points_up" (top 28) ["direction"]:=⟨_,_,W.mg_of X G a11,F11,b11⟩
 have F12:=a0R (st:=(top 29)) l12 c12 k12
 have b12:=F12.binds (ps:=["direction", "ahead"]) fun _ _ _ _ _ _ us hl=>by obtain ⟨_,_,rfl⟩:=us2 hl; rfl
 have m12:At K mg "lies_left" "lies_left" (top 29) ["direction", "ahead"]:=⟨_,_,W.mg_of X G a12,F12,b12⟩
 have F13:=a0R (st:=(top 30)) l13 c13 k13
 have b13:=F13.binds (ps:=["direction"]) fun _ _ _ _ _ _ us hl=>by obtain ⟨_,rfl⟩:=us1 hl; rfl
 have m13:At K mg "check_direction" "check_direction" (top 30) ["direction"]:=⟨_,_,W.mg_of X G a13,F13,b13⟩
 have F14:=a0R (st:=(top 31)) l14 c14 k14
 have b14:=F14.binds (ps:=["directions"]) fun _ _ _ _ _ _ us hl=>by obtain ⟨_,rfl⟩:=us1 hl; rfl
 have m14:At K mg "check_directions" "check_directions" (top 31) ["directions"]:=⟨_,_,W.mg_of X G a14,F14,b14⟩
 have F15:=a0R (st:=(top 36)) l15 c15 k15
 have b15:=F15.binds (ps:=["sides", "holds"]) fun _ _ _ _ _ _ us hl=>by obtain ⟨_,_,rfl⟩:=us2 hl; rfl
 have m15:At K mg "groups" "groups" (top 36) ["sides", "holds"]:=⟨_,_,W.mg_of X G a15,F15,b15⟩
 have F16:=a0R (st:=(top 37)) l16 c16 k16
 have b16:=F16.binds (ps:=["sides", "holds"]) fun _ _ _ _ _ _ us hl=>by obtain ⟨_,_,rfl⟩:=us2 hl; rfl
 have m16:At K mg "there_and_back" "there_and_back" (top 37) ["sides", "holds"]:=⟨_,_,W.mg_of X G a16,F16,b16⟩
 have F17:=a0R (st:=(top 38)) l17 c17 k17
 have b17:=F17.binds (ps:=["sides", "holds"]) fun _ _ _ _ _ _ us hl=>by obtain ⟨_,_,rfl⟩:=us2 hl; rfl
 have m17:At K mg "free" "free" (top 38) ["sides", "holds"]:=⟨_,_,W.mg_of X G a17,F17,b17⟩
 have F18:=a0R (st:=(top 39)) l18 c18 k18
 have b18:=F18.binds (ps:=["sides", "holds", "number"]) fun _ _ _ _ _ _ us hl=>by obtain ⟨_,_,_,rfl⟩:=us3 hl; rfl
 have m18:At K mg "needless" "needless" (top 39) ["sides", "holds", "number"]:=⟨_,_,W.mg_of X G a18,F18,b18⟩
 have F19:=a0R (st:=(top 41)) l19 c19 k19
 have b19:=F19.binds (ps:=["_law_script", "_law_k"]) fun _ _ _ _ _ _ us hl=>by obtain ⟨_,_,rfl⟩:=us2 hl; rfl
 have m19:At K mg "_law_deep" "_law_deep" (top 41) ["_law_script", "_law_k"]:=⟨_,_,W.mg_of X G a19,F19,b19⟩
 have F20:=a0R (st:=(top 42)) l20 c20 k20
 have b20:=F20.binds (ps:=["_law_found"]) fun _ _ _ _ _ _ us hl=>by obtain ⟨_,rfl⟩:=us1 hl; rfl
 have m20:At K mg "_law_whole" "_law_whole" (top 42) ["_law_found"]:=⟨_,_,W.mg_of X G a20,F20,b20⟩
 have F21:=a0R (st:=(top 43)) l21 c21 k21
 have b21:=F21.binds (ps:=["_law_counts", "_law_cell"]) fun _ _ _ _ _ _ us hl=>by obtain ⟨_,_,rfl⟩:=us2 hl; rfl
 have m21:At K mg "_law_dirs" "_law_dirs" (top 43) ["_law_counts", "_law_cell"]:=⟨_,_,W.mg_of X G a21,F21,b21⟩
 have F22:=a0R (st:=(top 44)) l22 c22 k22
 have b22:=F22.binds (ps:=["_law_counts"]) fun _ _ _ _ _ _ us hl=>by obtain ⟨_,rfl⟩:=us1 hl; rfl
 have m22:At K mg "_law_kinds" "_law_kinds" (top 44) ["_law_counts"]:=⟨_,_,W.mg_of X G a22,F22,b22⟩
 have F23:=a0R (st:=(top 45)) l23 c23 k23
 have b23:=F23.binds (ps:=["_law_many", "_law_rest"]) fun _ _ _ _ _ _ us hl=>by obtain ⟨_,_,rfl⟩:=us2 hl; rfl
 have m23:At K mg "_law_parted" "_law_parted" (top 45) ["_law_many", "_law_rest"]:=⟨_,_,W.mg_of X G a23,F23,b23⟩
 have F24:=a0R (st:=(top 46)) l24 c24 k24
 have b24:=F24.binds (ps:=["_law_e"]) fun _ _ _ _ _ _ us hl=>by obtain ⟨_,rfl⟩:=us1 hl; rfl
 have m24:At K mg "_law_alone" "_law_alone" (top 46) ["_law_e"]:=⟨_,_,W.mg_of X G a24,F24,b24⟩
 have F25:=a0R (st:=(top 47)) l25 c25 k25
 have b25:=F25.binds (ps:=["_law_kinds_here"]) fun _ _ _ _ _ _ us hl=>by obtain ⟨_,rfl⟩:=us1 hl; rfl
 have m25:At K mg "_law_pairs" "_law_pairs" (top 47) ["_law_kinds_here"]:=⟨_,_,W.mg_of X G a25,F25,b25⟩
 have F26:=a0R (st:=(top 48)) l26 c26 k26
 have b26:=F26.binds (ps:=["_law_pairs_here", "_law_cell", "_law_many"]) fun _ _ _ _ _ _ us hl=>by obtain ⟨_,_,_,rfl⟩:=us3 hl; rfl
 have m26:At K mg "_law_holds" "_law_holds" (top 48) ["_law_pairs_here", "_law_cell", "_law_many"]:=⟨_,_,W.mg_of X G a26,F26,b26⟩
 have F27:=a0R (st:=(top 49)) l27 c27 k27
 have b27:=F27.binds (ps:=["_law_hold", "_law_kinds_here", "_law_cell"]) fun _ _ _ _ _ _ us hl=>by obtain ⟨_,_,_,rfl⟩:=us3 hl; rfl
 have m27:At K mg "_law_spoilt" "_law_spoilt" (top 49) ["_law_hold", "_law_kinds_here", "_law_cell"]:=⟨_,_,W.mg_of X G a27,F27,b27⟩
 have F28:=a0R (st:=(top 50)) l28 c28 k28
 have b28:=F28.binds (ps:=["_law_holds_here"]) fun _ _ _ _ _ _ us hl=>by obtain ⟨_,rfl⟩:=us1 hl; rfl
 have m28:At K mg "_law_due" "_law_due" (top 50) ["_law_holds_here"]:=⟨_,_,W.mg_of X G a28,F28,b28⟩
 have F29:=a0R (st:=(top 51)) l29 c29 k29
 have b29:=F29.binds (ps:=["_law_told", "_law_due_here"]) fun _ _ _ _ _ _ us hl=>by obtain ⟨_,_,rfl⟩:=us2 hl; rfl
 have m29:At K mg "_law_good" "_law_good" (top 51) ["_law_told", "_law_due_here"]:=⟨_,_,W.mg_of X G a29,F29,b29⟩
 have F30:=a0R (st:=(top 52)) l30 c30 k30
 have b30:=F30.binds (ps:=["_law_sides", "_law_holds_here", "_law_door", "_law_at"]) fun _ _ _ _ _ _ us hl=>by obtain ⟨_,_,_,_,rfl⟩:=us4 hl; rfl
 have m30:At K mg "_law_asked" "_law_asked" (top 52) ["_law_sides", "_law_holds_here", "_law_door", "_law_at"]:=⟨_,_,W.mg_of X G a30,F30,b30⟩
 have F31:=a0R (st:=(top 53)) l31 c31 k31
 have b31:=F31.binds (ps:=["_law_sides", "_law_holds_here", "_law_door", "_law_at"]) fun _ _ _ _ _ _ us hl=>by obtain ⟨_,_,_,_,rfl⟩:=us4 hl; rfl
 have m31:At K mg "_law_refused" "_law_refused" (top 53) ["_law_sides", "_law_holds_here", "_law_door", "_law_at"]:=⟨_,_,W.mg_of X G a31,F31,b31⟩
 have F32:=a0R (st:=(top 54)) l32 c32 k32
 have b32:=F32.binds (ps:=["_law_script"]) fun _ _ _ _ _ _ us hl=>by obtain ⟨_,rfl⟩:=us1 hl; rfl
 have m32:At K mg "law" "law" (top 54) ["_law_script"]:=⟨_,_,W.mg_of X G a32,F32,b32⟩
 have a1X:∃ t,mg "FEWEST_DIRECTIONS" = some (.int 2 t):=⟨_,W.mg_of X G z_FEWEST_DIRECTIONS⟩
 have a2r:∃ t,mg "MOST_DIRECTIONS" = some (.int 6 t):=⟨_,W.mg_of X G z_MOST_DIRECTIONS⟩
 have a3S:∃ t,mg "MOST_BANDS" = some (.int 12 t):=⟨_,W.mg_of X G z_MOST_BANDS⟩
 have a2B:∃ t,mg "LARGEST_PART" = some (.int 999999999999 t):=⟨_,W.mg_of X G z_LARGEST_PART⟩
 have a3R:mg "ValueError" = none:=W.mg_none_of X G o_ValueError
 have w_abs:mg "abs" = none:=W.mg_none_of X G o_abs
 have w_all:mg "all" = none:=W.mg_none_of X G o_all
 have a7n:mg "bool" = none:=W.mg_none_of X G o_bool
 have a4x:mg "enumerate" = none:=W.mg_none_of X G o_enumerate
 have w_int:mg "int" = none:=W.mg_none_of X G o_int
 have a0f:mg "isinstance" = none:=W.mg_none_of X G o_isinstance
 have a1o:mg "len" = none:=W.mg_none_of X G o_len
 have a4X:mg "list" = none:=W.mg_none_of X G o_list
 have w_min:mg "min" = none:=W.mg_none_of X G o_min
 have a0H:mg "range" = none:=W.mg_none_of X G o_range
 have a4j:mg "sorted" = none:=W.mg_none_of X G o_sorted
 have w_sum:mg "sum" = none:=W.mg_none_of X G o_sum
 have a2q:mg "tuple" = none:=W.mg_none_of X G o_tuple
 have w_zip:mg "zip" = none:=W.mg_none_of X G o_zip
 have b0s:=W.mg_of X G aW_WORDS
 have a7M:Words K a5R ["brace", "more", "less"]:=⟨⟨_,[.str "brace" tW1,.str "more" tW2,.str "less" tW3],nW,lW_WORDS,rfl,rfl,.cons _ _ (.cons _ _ (.cons _ _ .nil))⟩⟩
 have a4e:=W.mg_of X G aX_SlantError
 have a6R:=W.mg_of X G aX_NoSides
 have b0t:=W.mg_of X G aX_NoRow
 have a6S:=W.mg_of X G aX_NoFloor
 have a5K:=W.mg_of X G aX_NoThrees
 have a8z:=W.mg_of X G aX_NoFlip
 have a4M:=W.mg_of X G aX_NoHeights
 have a6Q:=W.mg_of X G aX_TooMany
 have a2W:=W.mg_of X G aX_NoHold
 have a8x:=W.mg_of X G aX_NoTurn
 have a8y:=W.mg_of X G aX_NoText
 have a7V:ExcC K a0j:=rq_NoHold
 have ci:ExcI K a0j:=⟨ic1,ic2,ic7,ic8,ic3,ic4,ic5,ic6⟩
 refine ⟨W.fnOf "law" "law" (a0t (top 54)) (a0o (top 54)) (a0d (top 54)) .none kV32 dc32 pm32 an32 cd32 ct32,fun s v=>.of_eq rfl,fun base _ _=>?_⟩
 have cl:Cls K C:=⟨pg,hd,po,sa⟩
 have mI:IAt K mg "Sides" C "Sides.__init__" (a0I (top 32) 0) ["self", "directions"]:=⟨_,_,⟨mk,a0,i0,kc⟩,W.mg_of X G aC,F0,b0⟩
 have a2u:=b0A (P:=l.prog) (w:=w) (base:=base) m4 a0f w_int a7n len_isw p_is_whole
 have a5M:=b0v (P:=l.prog) (w:=w) (base:=base) m7  len_pof p_pulls_of
 have a2l:=a4N (P:=l.prog) (w:=w) (base:=base) m9 a0f a2q a1o w_all a2u mo_isw len_three a5i
 have a2v:=a5s (P:=l.prog) (w:=w) (base:=base) m10 w_abs a2B len_few a5E
 have a4P:=a9t (P:=l.prog) (w:=w) (base:=base) m11  len_few a9V
 have a4Q:=a9u (P:=l.prog) (w:=w) (base:=base) m12  len_left a9W
 have a2w:=a5t (P:=l.prog) (w:=w) (base:=base) m13 a2l mo_three a2v mo_few a4P mo_few len_chk1 a5F
 have a2m:=a4O (P:=l.prog) (w:=w) (base:=base) m14 a0f a4X a1o w_sum w_zip a1X a2r a3S a2w mo_chk1 a4Q mo_left len_chk a5j
 have b0C:=dq_init (P:=l.prog) (w:=w) (base:=base) mI a4x a2q cl n_kinds n_vectors a2m mo_chk len_sides p_init
 have d_many:=dq_many (P:=l.prog) (w:=w) (mg:=mg) (base:=base) m1 a1o cl n_kinds len_many p_many
 have d_kind:=dq_kind (P:=l.prog) (w:=w) (mg:=mg) (base:=base) m2 cl n_kinds len_kind p_kind
 have a6V:=dq_is_pair (P:=l.prog) (w:=w) (base:=base) m5 cl a2u mo_isw d_many b0k d_kind a8o len_pair p_is_pair
 have a6W:=dq_is_hold (P:=l.prog) (w:=w) (base:=base) m6 a0f a2q a1o b0s a7M a6V mo_pair len_hold p_is_hold
 have a1h:=dq_pullsX (P:=l.prog) (w:=w) (base:=base) m8 a4j a2W a7V a6W mo_hold a5M mo_pof len_pullsX p_pullsX
 have a8E:=a1h.calm
 have a8F:=dq_groups (P:=l.prog) (w:=w) (base:=base) m15 a1h a0N b0p p_groups
 have a2P:=a5L (P:=l.prog) (w:=w) (base:=base) m16 a1h a0N b0p a6h
 have d_free:=dq_free (P:=l.prog) (w:=w) (base:=base) m17 a1h a0N b0p p_free
 have a5N:=b0w (P:=l.prog) (w:=w) (base:=base) m18 a1h a0N len_nl p_needless
 have a1z:=b0z (P:=l.prog) (w:=w) (base:=base) m19 a1o a0H len_deep p_law_deep
 have a3I:=a9v (P:=l.prog) (w:=w) (base:=base) m20 a0f w_int a7n len_lwhole a9X
 have a5O:=b0y (P:=l.prog) (w:=w) (base:=base) m21 a1o a0H len_dirs p_law_dirs
 have a4S:=a9x (P:=l.prog) (w:=w) (base:=base) m22 a1o a0H len_lkinds a9Z
 have a4g:=a8D (P:=l.prog) (w:=w) (base:=base) m23 a0H len_parted a9c
 have a4V:=a9A (P:=l.prog) (w:=w) (base:=base) m24 a0f a3R a5K a6S b0t a6R a2W a6Q a4M a8z a8y a8x len_alone (b0c ci kq_NoThrees kq_NoFloor kq_NoRow kq_NoSides kq_NoHold kq_TooMany kq_NoHeights kq_NoFlip kq_NoText kq_NoTurn kq_V)
 have a4R:=a9w (P:=l.prog) (w:=w) (base:=base) m25 a1o a0H len_prs a9Y
 have a4T:=a9y (P:=l.prog) (w:=w) (base:=base) m26 a0H a1o len_hol b0a
 have a4f:=a8C (P:=l.prog) (w:=w) (base:=base) m27 a1o a0H len_spoilt a9b
 have a5u:=dq_law_due (P:=l.prog) (w:=w) (base:=base) m28 a4j len_due p_law_due
 have a4n:=b0x (P:=l.prog) (w:=w) (base:=base) m29 a0f a4X a2q a3I mo_lwhole len_good p_law_good
 have a4U:=a9z (P:=l.prog) (w:=w) (base:=base) m30 a1h a0N a8F mo_bad a2P mo_bad d_free mo_bad a5N mo_nl len_asked b0b
 have a3J:=a7i (P:=l.prog) (w:=w) (base:=base) m31 a0f a4e x_NoHold_SlantError a2W a4U mo_asked a4V mo_alone len_ref (a8d ci kq_NoHold)
 exact dq_law F32 a0H a4X a1o w_min a1z mo_deep a4g mo_parted a4S mo_lkinds a5O mo_dirs a4R mo_prs a4T mo_hol a8E a0N.calm a5u mo_due a4n mo_good a4f mo_spoilt a3J mo_ref b0C mo_sides len_law p_law
theorem walk {l:W.OpenLaw} {q:Program} {loose:List Str} {XP:(Str->Option Value)->Heap->Prop} {YP:World->Heap->Prop} {d:DefRec} {K:Params->W.Frag} (hn:l.most=some 63) (hdf:d.params.defaults=[])
  (hY:∀ (w:World) (h:Heap),YP w h->(K w.params).In h)
  (F:∀ (w:World) (mg:Str->Option Value) (fa:Addr) (h:Heap),(K w.params).In h->h.Ns mainGlobals mg->mg d.name=some (.ref fa) ->
   ∃ fd:FuncData,(∀ (s:Shared) (u:Value),BindsTo s fd ⟨[u],[]⟩ [("_law_script",u)]) /\ ∀ base:Heap,(K w.params).In base->base.Ns mainGlobals mg->FnOk l.prog w (K w.params) mg base CX0 8 fa fd ["_law_script"] ((low (K w.params) spLaw))):
  W.WalkO q loose XP YP l.row.toRowW d [] (fun f vs=>PySem.call f vs):=
 L2.walk_of (n:=63) (k:=8) (x:="_law_script") (CX:=fun _=>CX0) (sp:=fun w=>(low (K w.params) spLaw)) hn (by decide) hdf ⟨rfl,by decide,by decide⟩ hY F (fun _ H a ns hl hO hS=>law_start hl hO hS) fun _ _ _ _ _ z=>z
end Lw
noncomputable def Hd.QV:PySem.Program:=PySem.W.view PySem.Challenge.pw_slantfloor_k71_what_pulls_what [0,2,3,4,5,6,7,8,9,10,11,12,14,16,17,18,19,20,22,23,24,25,26,27,28,29,30,31,32,34,35,36,37,38,39,41,42,43,44,45,46,47,48,49,50,51,52,53,54]
open PySem PySem.W PyProof.Rows
local macro_rules | `(tactic| o_head $H)=>`(tactic| refine holds_open (q:=Hd.QV) (loose:=[]) (Xt:=fun s=>xlAt Hd.QV [] s && recOk (RowW.records (OpenRow.toRowW (OpenLaw.row PySem.Challenge.rw_slantfloor_k71_what_pulls_what))) s) (XP:=XL Hd.QV []) (Yf:=Hook.obs $H) (Ya:=Hook.val $H) (YP:=Hook.says $H) (N:=7750) ?hl (Hook.of $H) (Hook.keeps $H) (fun s e=>xl_of s (Bool.and_eq_true_iff.mp e).1) XL.keeps (by rfl) (by rfl) (by rfl) (fun s e=>recFacts_of (Bool.and_eq_true_iff.mp e).2) (by rfl) (by first | assumption | decide +kernel) (by decide +kernel) ⟨rfl,rfl,rfl,rfl,rfl,by decide +kernel⟩ ?hw ?hc)
set_option maxRecDepth 100000 in
set_option maxHeartbeats 0 in
theorem PySem.Challenge.cw_slantfloor_k71_what_pulls_what_holds : PySem.Challenge.rw_slantfloor_k71_what_pulls_what.Holds := by
 w_on; o_law; k_head
 (case hl=>exact Hd.left_of (HZ:=boot_heap) (gs₀:=Array.mk []) (d₀:=boot_drawn) (k₀:=boot_toks) (m₀:=11) (ann:=some (.ref 6)) (M:=7750) (boot_open (by kernel_rfl) rfl (fun s=>by kernel_rfl)) (fun w=>by kernel_rfl) rfl (fun w os=>by rw [PySem.W.Fast.te10156331382660048174,PySem.W.Fast.te11892475500146522536,PySem.W.Fast.te14364793385576792824,PySem.W.Fast.te6613529449190102663,PySem.W.Fast.te4187177175401517315]; kernel_rfl))
 (case hw=>w_witness2)
 k_fill
 refine Lw.walk (l:=PySem.Challenge.rw_slantfloor_k71_what_pulls_what) rfl rfl (fun w h Y=>by first | exact PySem.W.kIn_of Y | exact PySem.W.km_in_of Y) ?F
 case F=>
  intro w mg fa h KX G hmg
  refine' Lw.all_mk KX G hmg ?aC ?a0 ?i0 ?l0 ?c0 ?k0 ?a1 ?i1 ?l1 ?c1 ?k1 ?a2 ?i2 ?l2 ?c2 ?k2 ?a3 ?i3 ?l3 ?c3 ?k3 ?pg ?hd ?po ?sa ?mk ?kc ?n_kinds ?n_vectors ?a4 ?l4 ?c4 ?k4 ?a5 ?l5 ?c5 ?k5 ?a6 ?l6 ?c6 ?k6 ?a7 ?l7 ?c7 ?k7 ?a8 ?l8 ?c8 ?k8 ?a9 ?l9 ?c9 ?k9 ?a10 ?l10 ?c10 ?k10 ?a11 ?l11 ?c11 ?k11 ?a12 ?l12 ?c12 ?k12 ?a13 ?l13 ?c13 ?k13 ?a14 ?l14 ?c14 ?k14 ?a15 ?l15 ?c15 ?k15 ?a16 ?l16 ?c16 ?k16 ?a17 ?l17 ?c17 ?k17 ?a18 ?l18 ?c18 ?k18 ?a19 ?l19 ?c19 ?k19 ?a20 ?l20 ?c20 ?k20 ?a21 ?l21 ?c21 ?k21 ?a22 ?l22 ?c22 ?k22 ?a23 ?l23 ?c23 ?k23 ?a24 ?l24 ?c24 ?k24 ?a25 ?l25 ?c25 ?k25 ?a26 ?l26 ?c26 ?k26 ?a27 ?l27 ?c27 ?k27 ?a28 ?l28 ?c28 ?k28 ?a29 ?l29 ?c29 ?k29 ?a30 ?l30 ?c30 ?k30 ?a31 ?l31 ?c31 ?k31 ?a32 ?l32 ?c32 ?k32 ?z_FEWEST_DIRECTIONS ?z_MOST_DIRECTIONS ?z_MOST_BANDS ?z_LARGEST_PART ?o_ValueError ?o_abs ?o_all ?o_bool ?o_enumerate ?o_int ?o_isinstance ?o_len ?o_list ?o_min ?o_range ?o_sorted ?o_sum ?o_tuple ?o_zip ?aW_WORDS ?lW_WORDS ?aX_SlantError ?aX_NoSides ?aX_NoRow ?aX_NoFloor ?aX_NoThrees ?aX_NoFlip ?aX_NoHeights ?aX_TooMany ?aX_NoHold ?aX_NoTurn ?aX_NoText ?rq_NoHold ?x_NoHold_SlantError ?ic1 ?ic2 ?ic7 ?ic8 ?ic3 ?ic4 ?ic5 ?ic6 ?kq_NoSides ?kq_NoRow ?kq_NoFloor ?kq_NoThrees ?kq_NoFlip ?kq_NoHeights ?kq_TooMany ?kq_NoHold ?kq_NoTurn ?kq_NoText ?kq_V
  (case aC=>k_is)
  (case a0=>k_is)
  (case i0=>k_is)
  (case l0=>k_is)
  (case c0=>k_is)
  (case k0=>k_is)
  (case a1=>k_is)
  (case i1=>k_is)
  (case l1=>k_is)
  (case c1=>k_is)
  (case k1=>k_is)
  (case a2=>k_is)
  (case i2=>k_is)
  (case l2=>k_is)
  (case c2=>k_is)
  (case k2=>k_is)
  (case a3=>k_is)
  (case i3=>k_is)
  (case l3=>k_is)
  (case c3=>k_is)
  (case k3=>k_is)
  (case pg=>k_is)
  (case hd=>k_is)
  (case po=>k_is)
  (case sa=>k_is)
  (case mk=>k_is)
  (case kc=>k_is)
  (case n_kinds=>k_is)
  (case n_vectors=>k_is)
  (case a4=>k_is)
  (case l4=>k_is)
  (case c4=>k_is)
  (case k4=>k_is)
  (case a5=>k_is)
  (case l5=>k_is)
  (case c5=>k_is)
  (case k5=>k_is)
  (case a6=>k_is)
  (case l6=>k_is)
  (case c6=>k_is)
  (case k6=>k_is)
  (case a7=>k_is)
  (case l7=>k_is)
  (case c7=>k_is)
  (case k7=>k_is)
  (case a8=>k_is)
  (case l8=>k_is)
  (case c8=>k_is)
  (case k8=>k_is)
  (case a9=>k_is)
  (case l9=>k_is)
  (case c9=>k_is)
  (case k9=>k_is)
  (case a10=>k_is)
  (case l10=>k_is)
  (case c10=>k_is)
  (case k10=>k_is)
  (case a11=>k_is)
  (case l11=>k_is)
  (case c11=>k_is)
  (case k11=>k_is)
  (case a12=>k_is)
  (case l12=>k_is)
  (case c12=>k_is)
  (case k12=>k_is)
  (case a13=>k_is)
  (case l13=>k_is)
  (case c13=>k_is)
  (case k13=>k_is)
  (case a14=>k_is)
  (case l14=>k_is)
  (case c14=>k_is)
  (case k14=>k_is)
  (case a15=>k_is)
  (case l15=>k_is)
  (case c15=>k_is)
  (case k15=>k_is)
  (case a16=>k_is)
  (case l16=>k_is)
  (case c16=>k_is)
  (case k16=>k_is)
  (case a17=>k_is)
  (case l17=>k_is)
  (case c17=>k_is)
  (case k17=>k_is)
  (case a18=>k_is)
  (case l18=>k_is)
  (case c18=>k_is)
  (case k18=>k_is)
  (case a19=>k_is)
  (case l19=>k_is)
  (case c19=>k_is)
  (case k19=>k_is)
  (case a20=>k_is)
  (case l20=>k_is)
  (case c20=>k_is)
  (case k20=>k_is)
  (case a21=>k_is)
  (case l21=>k_is)
  (case c21=>k_is)
  (case k21=>k_is)
  (case a22=>k_is)
  (case l22=>k_is)
  (case c22=>k_is)
  (case k22=>k_is)
  (case a23=>k_is)
  (case l23=>k_is)
  (case c23=>k_is)
  (case k23=>k_is)
  (case a24=>k_is)
  (case l24=>k_is)
  (case c24=>k_is)
  (case k24=>k_is)
  (case a25=>k_is)
  (case l25=>k_is)
  (case c25=>k_is)
  (case k25=>k_is)
  (case a26=>k_is)
  (case l26=>k_is)
  (case c26=>k_is)
  (case k26=>k_is)
  (case a27=>k_is)
  (case l27=>k_is)
  (case c27=>k_is)
  (case k27=>k_is)
  (case a28=>k_is)
  (case l28=>k_is)
  (case c28=>k_is)
  (case k28=>k_is)
  (case a29=>k_is)
  (case l29=>k_is)
  (case c29=>k_is)
  (case k29=>k_is)
  (case a30=>k_is)
  (case l30=>k_is)
  (case c30=>k_is)
  (case k30=>k_is)
  (case a31=>k_is)
  (case l31=>k_is)
  (case c31=>k_is)
  (case k31=>k_is)
  (case a32=>k_is)
  (case l32=>k_is)
  (case c32=>k_is)
  (case k32=>k_is)
  (case z_FEWEST_DIRECTIONS=>k_is)
  (case z_MOST_DIRECTIONS=>k_is)
  (case z_MOST_BANDS=>k_is)
  (case z_LARGEST_PART=>k_is)
  (case o_ValueError=>k_is)
  (case o_abs=>k_is)
  (case o_all=>k_is)
  (case o_bool=>k_is)
  (case o_enumerate=>k_is)
  (case o_int=>k_is)
  (case o_isinstance=>k_is)
  (case o_len=>k_is)
  (case o_list=>k_is)
  (case o_min=>k_is)
  (case o_range=>k_is)
  (case o_sorted=>k_is)
  (case o_sum=>k_is)
  (case o_tuple=>k_is)
  (case o_zip=>k_is)
  (case aW_WORDS=>k_is)
  (case lW_WORDS=>k_is)
  (case aX_SlantError=>k_is)
  (case aX_NoSides=>k_is)
  (case aX_NoRow=>k_is)
  (case aX_NoFloor=>k_is)
  (case aX_NoThrees=>k_is)
  (case aX_NoFlip=>k_is)
  (case aX_NoHeights=>k_is)
  (case aX_TooMany=>k_is)
  (case aX_NoHold=>k_is)
  (case aX_NoTurn=>k_is)
  (case aX_NoText=>k_is)
  (case rq_NoHold=>k_exc)
  (case x_NoHold_SlantError=>kts_exm)
  (case ic1=>k_is)
  (case ic2=>k_is)
  (case ic7=>k_is)
  (case ic8=>k_is)
  (case ic3=>k_is)
  (case ic4=>k_is)
  (case ic5=>k_is)
  (case ic6=>k_is)
  (case kq_NoSides=>kit_is)
  (case kq_NoRow=>kit_is)
  (case kq_NoFloor=>kit_is)
  (case kq_NoThrees=>kit_is)
  (case kq_NoFlip=>kit_is)
  (case kq_NoHeights=>kit_is)
  (case kq_TooMany=>kit_is)
  (case kq_NoHold=>kit_is)
  (case kq_NoTurn=>kit_is)
  (case kq_NoText=>kit_is)
  (case kq_V=>kit_is)

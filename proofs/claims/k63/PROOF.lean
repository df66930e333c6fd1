import PyProof.Rows.All
import Wide.All
import OpenK.AllK
import Wide.FinOn
import Lean
import PyProof.EqAt
import PyProof.EqKinds
import PyProof.TupleCall
import PyProof.NeKinds
import PyProof.NeData
import PyProof.EqLayable
import PyProof.ZipIter
import PyProof.EnumMake
import KE.LcSums
import PyProof.CompFree
import PyProof.TupleOfSeq
import PyProof.ListRange
import KE.KSortTup
import PyProof.Rows.Range3
import PySem.Challenge.RW_slantfloor_k63_ways_to_choose_and_determ
set_option Elab.async false
set_option linter.all false
set_option maxRecDepth 100000
namespace L2
open PySem PySem.Spec PyProof.Rows
abbrev Key := Sum Int Str
def keyIs : Key → Value → Bool
  | .inl k, v => Value.isInt k v
  | .inr x, v => Value.isStrOf x v
def keyH (w : World) : Key → Int
  | .inl k => hashInt k
  | .inr x => hashStr w x
theorem keyIs_shape : ∀ {k : Key} {v : Value}, keyIs k v = true → (∃ i t, k = Sum.inl i ∧ v = Value.int i t) ∨ (∃ x t, k = Sum.inr x ∧ v = Value.str x t)
  | .inl i, v, h => by
    obtain ⟨t, e⟩ := Value.isInt_shape (k := i) (v := v) h
    exact .inl ⟨i, t, rfl, e⟩
  | .inr x, v, h => by
    obtain ⟨t, e⟩ := Value.isStrOf_shape (x := x) (v := v) h
    exact .inr ⟨x, t, rfl, e⟩
theorem keyIs_int (i : Int) (t : Tok) : keyIs (.inl i) (.int i t) = true := by simp [keyIs, Value.isInt]
theorem keyIs_str (x : Str) (t : Tok) : keyIs (.inr x) (.str x t) = true := by simp [keyIs, Value.isStrOf]
theorem key_ll (a b : Int) : decide ((Sum.inl a : Key) = Sum.inl b) = (a == b) := by
  by_cases e : a = b
  · subst e; simp
  · have h : ¬ (Sum.inl a : Key) = Sum.inl b := fun q => e (Sum.inl.inj q)
    rw [decide_eq_false h]
    exact (beq_eq_false_iff_ne.mpr e).symm
theorem key_rr (a b : Str) : decide ((Sum.inr a : Key) = Sum.inr b) = decide (a = b) := by
  by_cases e : a = b
  · subst e; simp
  · have h : ¬ (Sum.inr a : Key) = Sum.inr b := fun q => e (Sum.inr.inj q)
    rw [decide_eq_false h, decide_eq_false e]
theorem key_lr (a : Int) (b : Str) : decide ((Sum.inl a : Key) = Sum.inr b) = false := decide_eq_false (fun q => nomatch q)
theorem key_rl (a : Str) (b : Int) : decide ((Sum.inr a : Key) = Sum.inl b) = false := decide_eq_false (fun q => nomatch q)
def mixKind (prog : Program) (w : World) : PySem.KeyKind prog w Key where
  is := keyIs
  hash := keyH w
  inj := fun v a b ha hb => by
    rcases keyIs_shape ha with ⟨i, t, rfl, rfl⟩ | ⟨x, t, rfl, rfl⟩
    · rcases keyIs_shape hb with ⟨j, u, rfl, e⟩ | ⟨y, u, rfl, e⟩
      · injection e with e1 _; rw [e1]
      · exact nomatch e
    · rcases keyIs_shape hb with ⟨j, u, rfl, e⟩ | ⟨y, u, rfl, e⟩
      · exact nomatch e
      · injection e with e1 _; rw [e1]
  byValue := fun k v h => by
    rcases keyIs_shape h with ⟨i, t, rfl, rfl⟩ | ⟨x, t, rfl, rfl⟩ <;> rfl
  pyHash := fun hv h => by
    rcases keyIs_shape hv with ⟨i, t, rfl, rfl⟩ | ⟨x, t, rfl, rfl⟩
    · exact wpAny_pyHash_int h
    · exact wpAny_pyHash_str h
  eqBool := fun hu hv h => by
    rcases keyIs_shape hu with ⟨i, t, rfl, rfl⟩ | ⟨x, t, rfl, rfl⟩
    · rcases keyIs_shape hv with ⟨j, u, rfl, rfl⟩ | ⟨y, u, rfl, rfl⟩
      · rw [key_ll] at h; exact wpAny_eqBool_int h
      · rw [key_lr] at h; exact SeqAt.EqAt.int_str i t y u _ _ _ _ h
    · rcases keyIs_shape hv with ⟨j, u, rfl, rfl⟩ | ⟨y, u, rfl, rfl⟩
      · rw [key_rl] at h; exact SeqAt.EqAt.str_int x t j u _ _ _ _ h
      · rw [key_rr] at h; exact wpAny_eqBool_str h
  «strs» := fun k x t v h => by
    rcases keyIs_shape h with ⟨i, u, rfl, e⟩ | ⟨y, u, rfl, e⟩
    · exact nomatch e
    · injection e with e1 _
      subst e1
      cases v <;> rfl
theorem mixKind_int (prog : Program) (w : World) (i : Int) (t : Tok) : (mixKind prog w).is (.inl i) (.int i t) = true := keyIs_int i t
theorem mixKind_str (prog : Program) (w : World) (x : Str) (t : Tok) : (mixKind prog w).is (.inr x) (.str x t) = true := keyIs_str x t
end L2
namespace L2
open PySem PySem.Spec PyProof.Rows
inductive V where
  | non | bl (b : Bool) | int (i : Int) | str (x : Str) | byt (b : Array UInt8) | flt (b : UInt64) | ref (a : Addr) | ty (n : String)
  deriving DecidableEq
def RelV : V → Value → Prop
  | .non, u => u = Value.none
  | .bl b, u => u = Value.bool b
  | .int i, u => ∃ t, u = Value.int i t
  | .str x, u => ∃ t, u = Value.str x t
  | .byt b, u => ∃ t, u = Value.bytes b t
  | .flt b, u => ∃ t, u = Value.float b t
  | .ref a, u => u = Value.ref a
  | .ty n, u => u = Value.type n
abbrev Vals : List V → List Value → Prop := Paired RelV
theorem Vals.length {xs : List V} {us : List Value} (r : Vals xs us) : xs.length = us.length := Paired.length r
theorem Vals.get : ∀ {xs : List V} {us : List Value} {i : Nat} {x : V}, Vals xs us → xs[i]? = some x → ∃ u, us[i]? = some u ∧ RelV x u
  | _, _, _, _, .nil, e => by simp at e
  | _, _, 0, _, .cons r _, e => by simp at e; subst e; exact ⟨_, rfl, r⟩
  | _, _, i + 1, x, .cons _ t, e => by
    obtain ⟨u, h1, h2⟩ := Vals.get (i := i) (x := x) t (by simpa using e)
    exact ⟨u, by simpa using h1, h2⟩
theorem Vals.set {x : V} {u : Value} (r : RelV x u) : ∀ {xs : List V} {us : List Value} (i : Nat), Vals xs us → Vals (xs.set i x) (us.set i u)
  | _, _, _, .nil => .nil
  | _, _, 0, .cons _ t => .cons r t
  | _, _, i + 1, .cons q t => .cons q (Vals.set r i t)
theorem Vals.append : ∀ {xs ys : List V} {us ws : List Value}, Vals xs us → Vals ys ws → Vals (xs ++ ys) (us ++ ws)
  | _, _, _, _, .nil, s => s
  | _, _, _, _, .cons r t, s => .cons r (Vals.append t s)
theorem Vals.take : ∀ {xs : List V} {us : List Value} (n : Nat), Vals xs us → Vals (xs.take n) (us.take n)
  | _, _, 0, _ => .nil
  | _, _, _ + 1, .nil => .nil
  | _, _, n + 1, .cons r t => .cons r (Vals.take n t)
theorem Vals.drop : ∀ {xs : List V} {us : List Value} (n : Nat), Vals xs us → Vals (xs.drop n) (us.drop n)
  | _, _, 0, r => r
  | _, _, _ + 1, .nil => .nil
  | _, _, n + 1, .cons _ t => Vals.drop n t
def RelO : Option V → Option Value → Prop
  | some v, some u => RelV v u
  | none, none => True
  | _, _ => False
def KV {κ : Type} : List (κ × V) → List (κ × Value) → Prop := Paired fun (p : κ × V) (q : κ × Value) => p.1 = q.1 ∧ RelV p.2 q.2
def kV : Key → V
  | .inl i => .int i
  | .inr x => .str x
inductive HO where
  /-- a list -/
  | lst (xs : List V)
  /-- a tuple (never changes) -/
  | tup (xs : List V)
  /-- a dict whose keys are ints and texts; one whose keys are tuples of ints and texts (the empty one is both) -/
  | dK (kvs : List (Key × V)) | dT (kvs : List (List Key × V))
  /-- a set of ints: its members, its size -/
  | set (S : Int → Bool) (n : Nat)
  /-- an instance of the class at C, its dict at dx, its attributes -/
  | ins (C dx : Addr) (fs : List (Str × V))
  /-- the dict of the instance at x -/
  | own (x : Addr)
  /-- the dict of an exception -/
  | xd (fs : List (Str × V))
  /-- a bound method, f of x -/
  | met (f x : Addr)
  /-- a range object lo, lo + 1, .. below hi -/
  | rng (lo hi : Int)
  /-- a thing that is known to the object (the script; a dict while a loop walks it): read, never written while it is so -/
  | frz (o : Obj) (u : HO)
  /-- a code object's table -/
  | tbl (ps : Array Value)
  /-- any other thing, by what is true of its one object (a def of one's own: SetO a S n := HO.ext fun h => ..) -/
  | ext (φ : Heap → Prop)
abbrev Hp := Addr → Option HO
def upd (H : Hp) (a : Addr) (o : HO) : Hp := fun b => if b = a then some o else H b
theorem upd_same {H : Hp} {a : Addr} {o : HO} : upd H a o a = some o := by unfold upd; rw [if_pos rfl]
theorem upd_ne {H : Hp} {a b : Addr} {o : HO} (h : b ≠ a) : upd H a o b = H b := by unfold upd; rw [if_neg h]
theorem ne_of_none {H : Hp} {a b : Addr} {o : HO} (h : H a = some o) (h' : H b = none) : a ≠ b := by
  intro e; subst e; rw [h] at h'; cases h'
section
variable (P : Program) (w : World)
def ObjOk (H : Hp) (h : Heap) (a : Addr) : HO → Prop
  | .lst xs => xs.length ≤ sizeLine ∧ ∃ (its : List Value) (n : Nat), Vals xs its ∧ h.get? a = some { cls := .type "list", data := .seq its.toArray n }
  | .tup xs => xs.length ≤ sizeLine ∧ ∃ its : List Value, Vals xs its ∧ IsTup h a its.toArray
  | .dK kvs => kvs.length ≤ sizeLine ∧ (a == sysModules) = false ∧ ∃ vs, KV kvs vs ∧ h.DictOf (mixKind P w) a vs
  | .dT kvs => kvs.length ≤ sizeLine ∧ (a == sysModules) = false ∧ ∃ xs : List (List Key × Addr × Value),
      Paired (fun (p : List Key × V) (q : List Key × Addr × Value) => p.1 = q.1 ∧ H q.2.1 = some (.tup (p.1.map kV)) ∧ RelV p.2 q.2.2) kvs xs ∧
      ∃ o es ep, h.get? a = some o ∧ o.ExactDict ∧ o.data = .dict es ep ∧ es.toList = xs.map (entryOfKey (tupleKind (mixKind P w))) ∧ (xs.map (·.1)).Nodup
  | .set S n => h.SetOf (intKind P w) a S n
  | .ins C dx fs => H dx = some (.own a) ∧ fs.length ≤ 1000 ∧ dx ≠ a ∧ h.get? a = some (PySem.W.instObj C dx) ∧
      ∃ mA, h.Ns1 dx mA ∧ (∀ f, RelO (fs.lookup f) (mA f)) ∧ PySem.Within mA (fs.map (·.1))
  | .own _ => ∃ o, h.get? a = some o
  | .xd fs => ∃ mA, h.Ns1 a mA ∧ ∀ f, RelO (fs.lookup f) (mA f)
  | .rng lo hi => ∃ t u v, h.get? a = some { cls := .type "range", data := .fields #[.int lo t, .int hi u, .int 1 v] }
  | .frz o u => h.get? a = some o ∧ ObjOk H h a u
  | .tbl ps => h.get? a = some { cls := .none, data := .fields ps }
  | .met f x => h.get? a = some (PySem.W.methodObj (.ref f) (.ref x))
  | .ext φ => φ h ∧ (∃ o, h.get? a = some o) ∧ ∀ h1 h2 : Heap, φ h1 → (∀ o, h1.get? a = some o → h2.get? a = some o) → φ h2
def HOk (H : Hp) (h : Heap) : Prop := ∀ a o, H a = some o → ObjOk P w H h a o
end
section
variable {P : Program} {w : World} {H H' : Hp} {h h' : Heap} {a : Addr} {o : HO}
theorem ObjOk.lt (x : ObjOk P w H h a o) : a < h.objs.size := by
  cases o with
  | lst xs => obtain ⟨_, _, _, _, e⟩ := x; exact Heap.lt_size e
  | tup xs => obtain ⟨_, _, _, p⟩ := x; exact p.lt
  | dK kvs => obtain ⟨_, _, _, _, o, _, _, e, _⟩ := x; exact Heap.lt_size e
  | dT kvs => obtain ⟨_, _, _, _, o, _, _, e, _⟩ := x; exact Heap.lt_size e
  | set S n => obtain ⟨o, _, _, _, e, _⟩ := x; exact Heap.lt_size e
  | ins C dx fs => obtain ⟨_, _, _, e, _⟩ := x; exact Heap.lt_size e
  | own y => obtain ⟨_, e⟩ := x; exact Heap.lt_size e
  | xd fs => obtain ⟨_, ⟨_, _, _, e, _⟩, _⟩ := x; exact Heap.lt_size e
  | rng lo hi => obtain ⟨_, _, _, e⟩ := x; exact Heap.lt_size e
  | frz ob u => obtain ⟨e, _⟩ := x; exact Heap.lt_size e
  | tbl ps => exact Heap.lt_size (show h.get? a = some _ from x)
  | met f y => exact Heap.lt_size (show h.get? a = some _ from x)
  | ext φ => obtain ⟨_, ⟨_, e⟩, _⟩ := x; exact Heap.lt_size e
theorem Paired.mapP {α β : Type} {F G : α → β → Prop} : ∀ {l₁ : List α} {l₂ : List β}, Paired F l₁ l₂ → (∀ a b, F a b → G a b) → Paired G l₁ l₂
  | _, _, .nil, _ => .nil
  | _, _, .cons r t, f => .cons (f _ _ r) (Paired.mapP t f)
theorem ObjOk.stay (x : ObjOk P w H h a o) (k : ∀ b u, (b = a ∨ H b = some (.own a)) → h.get? b = some u → h'.get? b = some u)
    (ho : ∀ b, H b = some (.own a) → H' b = some (.own a)) (ht : ∀ b xs, H b = some (.tup xs) → H' b = some (.tup xs)) : ObjOk P w H' h' a o := by
  induction o with
  | lst xs => obtain ⟨z, its, n, r, e⟩ := x; exact ⟨z, its, n, r, k _ _ (.inl rfl) e⟩
  | tup xs => obtain ⟨z, its, r, ob, e, c⟩ := x; exact ⟨z, its, r, ob, k _ _ (.inl rfl) e, c⟩
  | dK kvs => obtain ⟨z, y, vs, r, ob, es, ep, e, c⟩ := x; exact ⟨z, y, vs, r, ob, es, ep, k _ _ (.inl rfl) e, c⟩
  | dT kvs =>
    obtain ⟨z, y, xs, r, ob, es, ep, e, c⟩ := x
    exact ⟨z, y, xs, Paired.mapP r fun p q z => ⟨z.1, ht _ _ z.2.1, z.2.2⟩, ob, es, ep, k _ _ (.inl rfl) e, c⟩
  | set S n => obtain ⟨ob, es, ep, t, e, c⟩ := x; exact ⟨ob, es, ep, t, k _ _ (.inl rfl) e, c⟩
  | ins C dx fs =>
    obtain ⟨d, z, ne, e, mA, ⟨od, es, ep, e2, c⟩, r⟩ := x
    exact ⟨ho _ d, z, ne, k _ _ (.inl rfl) e, mA, ⟨od, es, ep, k _ _ (.inr d) e2, c⟩, r⟩
  | own y => obtain ⟨ob, e⟩ := x; exact ⟨ob, k _ _ (.inl rfl) e⟩
  | xd fs => obtain ⟨mA, ⟨od, es, ep, e, c⟩, r⟩ := x; exact ⟨mA, ⟨od, es, ep, k _ _ (.inl rfl) e, c⟩, r⟩
  | rng lo hi => obtain ⟨t, u, v, e⟩ := x; exact ⟨t, u, v, k _ _ (.inl rfl) e⟩
  | frz ob u ih => obtain ⟨e, q⟩ := x; exact ⟨k _ _ (.inl rfl) e, ih q⟩
  | tbl ps =>
    have e : h.get? a = some { cls := .none, data := .fields ps } := x
    show h'.get? a = some { cls := .none, data := .fields ps }
    exact k a _ (.inl rfl) e
  | met f y =>
    have e : h.get? a = some (PySem.W.methodObj (.ref f) (.ref y)) := x
    show h'.get? a = some (PySem.W.methodObj (.ref f) (.ref y))
    exact k a _ (.inl rfl) e
  | ext φ => obtain ⟨p, ⟨o, e⟩, st⟩ := x; exact ⟨st _ _ p fun o q => k _ _ (.inl rfl) q, ⟨o, k _ _ (.inl rfl) e⟩, st⟩
theorem HOk.lt (x : HOk P w H h) (e : H a = some o) : a < h.objs.size := (x a o e).lt
theorem HOk.fresh (x : HOk P w H h) (e : h.objs.size ≤ a) : H a = none := by
  cases q : H a with
  | none => rfl
  | some u => exact absurd (Nat.lt_of_lt_of_le (x.lt q) e) (Nat.lt_irrefl _)
theorem HOk.kept (x : HOk P w H h) (k : ∀ b u, h.get? b = some u → h'.get? b = some u) : HOk P w H h' := fun a o e =>
  (x a o e).stay (fun b u _ q => k b u q) (fun _ q => q) fun _ _ q => q
theorem HOk.laid (x : HOk P w H h) (k : ∀ b u, h.get? b = some u → h'.get? b = some u) (hp : h.objs.size ≤ a) (new : ObjOk P w (upd H a o) h' a o) : HOk P w (upd H a o) h' := fun b u e => by
  have hn := x.fresh hp
  by_cases hb : b = a
  · subst hb; rw [upd_same] at e; cases e; exact new
  · rw [upd_ne hb] at e
    exact (x b u e).stay (fun c v _ q => k c v q) (fun c q => by rw [upd_ne (ne_of_none q hn)]; exact q) fun c xs q => by rw [upd_ne (ne_of_none q hn)]; exact q
end
def Rd (H : Hp) (a : Addr) (u : HO) : Prop := H a = some u ∨ ∃ o, H a = some (.frz o u)
theorem Rd.ok {P : Program} {w : World} {H : Hp} {h : Heap} {a : Addr} {u : HO} (r : Rd H a u) (x : HOk P w H h) : ObjOk P w H h a u := by
  rcases r with r | ⟨o, r⟩
  · exact x a u r
  · obtain ⟨_, q⟩ := x a _ r
    exact q
def Mut : Option HO → Prop
  | some (.lst _) => True
  | some (.dK _) => True
  | some (.dT _) => True
  | some (.set _ _) => True
  | some (.ins _ _ _) => True
  | some (.ext _) => True
  | _ => False
section
variable {P : Program} {w : World} {H : Hp} {h h' : Heap} {x e : Addr} {o' : HO}
theorem HOk.write (ok : HOk P w H h) (mu : Mut (H x)) (he : e = x ∨ H e = some (.own x)) (k : ∀ b u, b ≠ e → h.get? b = some u → h'.get? b = some u) (heo : ∃ u, h'.get? e = some u)
    (new : ObjOk P w (upd H x o') h' x o') : HOk P w (upd H x o') h' := fun b u q => by
  have nown : ∀ c y, H c = some (.own y) → c ≠ x := fun c y r z => by subst z; rw [r] at mu; exact mu
  have ntup : ∀ c xs, H c = some (.tup xs) → c ≠ x := fun c xs r z => by subst z; rw [r] at mu; exact mu
  by_cases hb : b = x
  · subst hb; rw [upd_same] at q; cases q; exact new
  · rw [upd_ne hb] at q
    by_cases hbe : b = e
    · have q' : H b = some (.own x) := by
        rcases he with z | z
        · exact absurd (hbe.trans z) hb
        · rw [hbe]; exact z
      rw [q] at q'; cases q'
      obtain ⟨v, hv⟩ := heo
      exact ⟨v, by rw [hbe]; exact hv⟩
    · refine (ok b u q).stay (fun c v hc r => k c v ?_ r) (fun c r => by rw [upd_ne (nown c b r)]; exact r) fun c xs r => by rw [upd_ne (ntup c xs r)]; exact r
      rcases hc with rfl | hc
      · exact hbe
      · rintro rfl
        rcases he with z | z
        · exact nown c b hc z
        · rw [hc] at z; cases z; exact hb rfl
end
structure Un (fs ex : List Addr) (H H' : Hp) (h h' : Heap) : Prop where
  keep : ∀ b o, h.get? b = some o → H b = none → b ∉ fs → b ∉ ex → h'.get? b = some o
  slot : ∀ b o, h.get? b = some o → H b = none → b ∈ fs → b ∉ ex → ∃ sl, h'.get? b = some { o with slots := sl }
  free : ∀ b o, h.get? b = some o → H b = none → b ∉ ex → H' b = none
  there : ∀ b o, h.get? b = some o → b ∉ ex → ∃ o', h'.get? b = some o'
  tups : ∀ b xs, H b = some (.tup xs) → H' b = some (.tup xs)
  frzs : ∀ b o u, H b = some (.frz o u) → H' b = some (.frz o u)
  tbls : ∀ b ps, H b = some (.tbl ps) → ∃ more, H' b = some (.tbl (ps ++ more))
section
variable {fs fs' ex ex' : List Addr} {H H1 H2 : Hp} {h h1 h2 h' : Heap} {a x e : Addr} {o : HO}
theorem Un.any (u : Un fs ex H H1 h h1) {b : Addr} {ob : Obj} (q : h.get? b = some ob) (n : H b = none) (hx : b ∉ ex) : ∃ sl, h1.get? b = some { ob with slots := sl } := by
  by_cases hb : b ∈ fs
  · exact u.slot b ob q n hb hx
  · exact ⟨ob.slots, u.keep b ob q n hb hx⟩
theorem Un.kept (k : ∀ b u, h.get? b = some u → h'.get? b = some u) : Un fs ex H H h h' :=
  ⟨fun b ob q _ _ _ => k b ob q, fun b ob q _ _ _ => ⟨ob.slots, k b ob q⟩, fun _ _ _ n _ => n, fun b ob q _ => ⟨ob, k b ob q⟩, fun _ _ q => q, fun _ _ _ q => q, fun _ ps q => ⟨#[], by rw [q]; simp⟩⟩
theorem Un.refl : Un fs ex H H h h := Un.kept fun _ _ q => q
theorem Un.laid (k : ∀ b u, h.get? b = some u → h'.get? b = some u) (hp : h.objs.size ≤ a) (hn : H a = none) : Un fs ex H (upd H a o) h h' where
  keep := fun b u q _ _ _ => k b u q
  slot := fun b u q _ _ _ => ⟨u.slots, k b u q⟩
  free := fun b u q n _ => by rw [upd_ne (Nat.ne_of_lt (Nat.lt_of_lt_of_le (Heap.lt_size q) hp))]; exact n
  there := fun b u q _ => ⟨u, k b u q⟩
  tups := fun b xs q => by rw [upd_ne (ne_of_none q hn)]; exact q
  frzs := fun b u xs q => by rw [upd_ne (ne_of_none q hn)]; exact q
  tbls := fun b ps q => ⟨#[], by rw [upd_ne (ne_of_none q hn), q]; simp⟩
theorem Un.write (mu : Mut (H x)) (he : e = x ∨ H e = some (.own x)) (k : ∀ b u, b ≠ e → h.get? b = some u → h'.get? b = some u) (heo : ∃ u, h'.get? e = some u) : Un fs ex H (upd H x o) h h' := by
  have hx : ∀ b, H b = none → b ≠ x := fun b n z => by subst z; rw [n] at mu; exact mu
  have hb : ∀ b, H b = none → b ≠ e := fun b n z => by
    subst z
    rcases he with r | r
    · exact hx b n r
    · rw [n] at r; cases r
  have hm : ∀ b u, H b = some u → ¬ Mut (some u) → b ≠ x := fun b u q nm z => by subst z; rw [q] at mu; exact nm mu
  refine ⟨fun b u q n _ _ => k b u (hb b n) q, fun b u q n _ _ => ⟨u.slots, k b u (hb b n) q⟩, fun b u q n _ => by rw [upd_ne (hx b n)]; exact n, fun b u q _ => ?_,
    fun b xs q => by rw [upd_ne (hm b _ q fun z => z)]; exact q, fun b u xs q => by rw [upd_ne (hm b _ q fun z => z)]; exact q, fun b ps q => ⟨#[], by rw [upd_ne (hm b _ q fun z => z), q]; simp⟩⟩
  by_cases hbe : b = e
  · subst hbe; exact heo
  · exact ⟨u, k b u hbe q⟩
end
def trk (h : Heap) (H : Hp) : List Addr := (List.range h.objs.size).filter fun a => (H a).isSome
def hidT (h : Heap) (H : Hp) : Heap := PySem.W.hideAll h (trk h H)
theorem hidT_size (h : Heap) (H : Hp) : (hidT h H).objs.size = h.objs.size := PySem.W.hideAll_size _ _
theorem hidT_get {h : Heap} {H : Hp} {b : Addr} {o : Obj} (e : h.get? b = some o) (n : H b = none) : (hidT h H).get? b = some o :=
  PySem.W.hideAll_get _ e fun hm => by
    have q : (H b).isSome = true := (List.mem_filter.mp hm).2
    rw [n] at q; simp at q
theorem of_hidT {h : Heap} {H : Hp} {b : Addr} {o : Obj} (e : (hidT h H).get? b = some o) : h.get? b = some o ∧ H b = none := by
  have e' : h.get? b = some o := PySem.W.of_hideAll (trk h H) e
  refine ⟨e', ?_⟩
  cases q : H b with
  | none => rfl
  | some x =>
    have hm : b ∈ trk h H := List.mem_filter.mpr ⟨List.mem_range.mpr (Heap.lt_size e'), by simp [q]⟩
    have z : (hidT h H).get? b = none := PySem.W.hideAll_none (trk h H) hm
    rw [z] at e; cases e
end L2
namespace L2
open PySem PySem.Spec PyProof.Rows
structure Mod (K : PySem.W.Frag) (mg : Str → Option Value) (base : Heap) : Prop where
  kin : K.In base
  glob : base.Ns mainGlobals mg
  blt : ∃ mb, base.Ns builtinsNs mb ∧ ∀ x : Str, x ≠ "__name__" → mb x = bootBuiltins x
  nolimit : base.NoLimit
/-- the context: a def's body (or a comprehension's block) running. base: fixed through the whole law; s₀, H₀: the entry; outer: the frames whose slots others may change (a def's callers); stack: all frames that run;
   ex: iterators that were made ahead of the entry and are walked here (a comprehension's); fn: the names whose cells were made at the entry (a def: all; a comprehension's block: its own); calm: not within an except suite; pn: pins that every state bears; xe: what is wanted of an exception that leaves the code -/
structure Cx where
  prog : Program
  w : World
  K : PySem.W.Frag
  mg : Str → Option Value
  base : Heap
  A : Around
  N : List Str
  s₀ : Shared
  H₀ : Hp
  env : Env
  outer : List Env
  stack : List Env
  ex : List Addr
  fn : Str → Bool
  calm : Bool
  pn : List (Addr × Obj)
  xe : Value → Shared → Prop
def frs (l : List Env) : List Addr := l.filterMap (·.frame)
abbrev Cx.fs (X : Cx) : List Addr := frs X.outer
def Vis (sc : Scope) (x : Str) : Prop := sc.names.lookup x = some .local ∨ sc.names.lookup x = some .cell ∨ sc.names.lookup x = some .free
def Loc (sc : Scope) (x : Str) : Prop := sc.names.lookup x = some .local ∨ sc.names.lookup x = some .cell
def Look (env : Env) (h : Heap) (m : Str → Option Value) (x : Str) (u : Value) : Prop :=
  (env.kindOf x = some .local ∧ m x = some u) ∨ ((env.kindOf x = some .cell ∨ env.kindOf x = some .free) ∧ ∃ c, env.cells.lookup x = some c ∧ h.IsCell c (some u))
structure Cx.Ok (X : Cx) : Prop where
  mod : Mod X.K X.mg X.base
  kind : X.env.scope.kind = .function
  glob : X.env.globals = mainGlobals
  blt : X.env.builtins = builtinsNs
  above : X.s₀.heap.objs.size ≤ X.env.locals
  inj : ∀ x y c, X.env.cells.lookup x = some c → X.env.cells.lookup y = some c → x = y
  has : ∀ x, (X.env.kindOf x = some .cell ∨ X.env.kindOf x = some .free) → ∃ c, X.env.cells.lookup x = some c
  cab : ∀ x c, X.fn x = true → X.env.cells.lookup x = some c → X.s₀.heap.objs.size ≤ c
  hd : X.calm = true → X.A.handled = none
  frames : X.A.frames = some X.stack
  stk : X.stack = X.outer ∨ (X.stack = X.env :: X.outer ∧ X.env.frame = some X.env.locals)
  exf : ∀ b ∈ X.ex, b ≠ X.env.locals ∧ ∀ x c, X.env.cells.lookup x = some c → c ≠ b
  bs : ∀ b o, X.base.get? b = some o → X.s₀.heap.get? b = some o ∧ X.H₀ b = none
  bsz : X.base.objs.size ≤ X.s₀.heap.objs.size
  noex : ∀ b o, X.base.get? b = some o → b ∉ X.ex
  exfs : ∀ b ∈ X.ex, b ∉ X.fs
  funs : X.s₀.heap.FunFrames X.base X.outer
  frf : ∀ b ∈ X.fs, X.H₀ b = none
structure Inv (X : Cx) (pins : List (Addr × Obj)) (σ : List (Option V)) (H : Hp) (s : Shared) : Prop where
  ok : X.Ok
  os : s.os = X.s₀.os
  bare : AllBare s.gens
  base : Un X.fs X.ex X.H₀ H X.s₀.heap s.heap
  loc : ∃ m, s.heap.Ns X.env.locals m ∧ ∀ (i : Nat) (x : Str) (v : V), X.N[i]? = some x → σ[i]? = some (some v) → Vis X.env.scope x → ∃ u, RelV v u ∧ Look X.env s.heap m x u
  cell : ∀ x c, X.env.cells.lookup x = some c → ∃ v, s.heap.IsCell c v
  free : H X.env.locals = none
  freeC : ∀ x c, X.env.cells.lookup x = some c → H c = none
  pin : ∀ p ∈ X.pn ++ pins, s.heap.get? p.1 = some p.2 ∧ H p.1 = none ∧ p.1 ≠ X.env.locals ∧ p.1 ∉ X.fs ∧ ∀ v, p.2.data ≠ .cell v
  hok : HOk X.prog X.w H s.heap
  len : σ.length = X.N.length
section
variable {X : Cx} {pins : List (Addr × Obj)} {σ : List (Option V)} {H H' : Hp} {s : Shared} {h' : Heap}
theorem Cx.Ok.nofr (ok : X.Ok) {b : Addr} {o : Obj} (e : X.base.get? b = some o) : b ∉ X.fs := fun hb => by
  have := (ok.funs.mem hb).1
  rw [e] at this; cases this
theorem Inv.bs (I : Inv X pins σ H s) : ∀ b o, X.base.get? b = some o → s.heap.get? b = some o ∧ H b = none := fun b o e =>
  ⟨I.base.keep b o (I.ok.bs b o e).1 (I.ok.bs b o e).2 (I.ok.nofr e) (I.ok.noex b o e), I.base.free b o (I.ok.bs b o e).1 (I.ok.bs b o e).2 (I.ok.noex b o e)⟩
theorem Inv.bk (I : Inv X pins σ H s) : ∀ b o, X.base.get? b = some o → s.heap.get? b = some o := fun b o e => (I.bs b o e).1
theorem Inv.mod (I : Inv X pins σ H s) : Mod X.K X.mg X.base := I.ok.mod
theorem Inv.kIn (I : Inv X pins σ H s) : X.K.In s.heap := I.ok.mod.kin.keeps I.bk
theorem Inv.lt (I : Inv X pins σ H s) : X.env.locals < s.heap.objs.size := let ⟨_, hn, _⟩ := I.loc; hn.lt
theorem Inv.sz (I : Inv X pins σ H s) : X.s₀.heap.objs.size ≤ s.heap.objs.size := Nat.le_trans I.ok.above (Nat.le_of_lt I.lt)
theorem Inv.nofs (I : Inv X pins σ H s) {a : Addr} (h : s.heap.objs.size ≤ a) : a ∉ X.fs := fun hb => by
  obtain ⟨_, o, ho, _⟩ := I.ok.funs.mem hb
  exact absurd (Nat.lt_of_lt_of_le (Heap.lt_size ho) (Nat.le_trans I.sz h)) (Nat.lt_irrefl _)
theorem Inv.cne (I : Inv X pins σ H s) : ∀ x c, X.env.cells.lookup x = some c → c ≠ X.env.locals := fun x c e z => by
  obtain ⟨v, o, ho, hd⟩ := I.cell x c e
  obtain ⟨m, ⟨o', es, ep, ho', hd', _⟩, _⟩ := I.loc
  rw [z, ho'] at ho; cases ho; rw [hd'] at hd; cases hd
theorem Inv.funs (I : Inv X pins σ H s) : s.heap.FunFrames X.base X.outer := by
  have all : ∀ (l : List Env), (∀ b ∈ frs l, b ∈ X.fs) → X.s₀.heap.FunFrames X.base l → s.heap.FunFrames X.base l := by
    intro l
    induction l with
    | nil => intro _ _; trivial
    | cons env r ih =>
      intro hs hl
      obtain ⟨hk, ⟨L, o, hf, hn, ho, hd⟩, hr⟩ := hl
      have hL : L ∈ X.fs := hs L (by unfold frs; rw [List.filterMap_cons, hf]; exact List.mem_cons_self)
      obtain ⟨sl, e⟩ := I.base.slot L o ho (I.ok.frf L hL) hL fun z => I.ok.exfs L z hL
      exact ⟨hk, ⟨L, _, hf, hn, e, hd⟩, ih (fun b hb => hs b (by unfold frs; rw [List.filterMap_cons, hf]; exact List.mem_cons_of_mem _ hb)) hr⟩
  exact all X.outer (fun _ hb => hb) I.ok.funs
theorem Inv.stack (I : Inv X pins σ H s) : s.heap.FunFrames X.base X.stack := by
  rcases I.ok.stk with e | ⟨e, hf⟩
  · rw [e]; exact I.funs
  · rw [e]
    obtain ⟨m, hn, _⟩ := I.loc
    refine .cons (by rw [I.ok.kind]; decide) hf hn ?_ I.funs
    exact Heap.get?_none_of_le (Nat.le_trans I.ok.bsz I.ok.above)
theorem Inv.stkSub (I : Inv X pins σ H s) : ∀ b ∈ frs X.stack, b ∈ X.env.locals :: X.fs := fun b hb => by
  rcases I.ok.stk with e | ⟨e, hf⟩
  · rw [e] at hb; exact List.mem_cons_of_mem _ hb
  · rw [e] at hb
    unfold frs at hb
    rw [List.filterMap_cons, hf] at hb
    exact hb
theorem Inv.stkFree (I : Inv X pins σ H s) : ∀ b ∈ frs X.stack, H b = none := fun b hb => by
  rcases List.mem_cons.mp (I.stkSub b hb) with e | hb
  · rw [e]; exact I.free
  · obtain ⟨_, o, ho, _⟩ := I.ok.funs.mem hb
    exact I.base.free b o ho (I.ok.frf b hb) fun z => I.ok.exfs b z hb
theorem Inv.step {g' : Array GenState} {t' : Nat} {d' : Drawn} {ch : List Addr} (I : Inv X pins σ H s)
    (hch : ∀ b ∈ ch, (b ∈ X.ex ∨ X.s₀.heap.objs.size ≤ b) ∧ b ≠ X.env.locals ∧ (∀ x c, X.env.cells.lookup x = some c → c ≠ b) ∧ ∀ p ∈ X.pn ++ pins, p.1 ≠ b)
    (keep : ∀ b o, b ≠ X.env.locals → b ∉ X.fs → b ∉ ch → s.heap.get? b = some o → H b = none → h'.get? b = some o)
    (slot : ∀ b o, b ≠ X.env.locals → b ∈ X.fs → b ∉ ch → s.heap.get? b = some o → H b = none → ∃ sl, h'.get? b = some { o with slots := sl }) (free : ∀ b o, b ∉ ch → s.heap.get? b = some o → H b = none → H' b = none)
    (there : ∀ b o, b ∉ ch → s.heap.get? b = some o → ∃ o', h'.get? b = some o')
    (tups : ∀ b xs, H b = some (.tup xs) → H' b = some (.tup xs)) (frzs : ∀ b o u, H b = some (.frz o u) → H' b = some (.frz o u)) (tbls : ∀ b ps, H b = some (.tbl ps) → ∃ more, H' b = some (.tbl (ps ++ more)))
    (ns : ∀ m, s.heap.Ns X.env.locals m → h'.Ns X.env.locals m) (hok : HOk X.prog X.w H' h') (hg : AllBare g') :
    Inv X pins σ H' { s with heap := h', gens := g', drawn := d', toks := t' } := by
  have neL : ∀ b o, X.s₀.heap.get? b = some o → b ≠ X.env.locals := fun b o e => Nat.ne_of_lt (Nat.lt_of_lt_of_le (Heap.lt_size e) I.ok.above)
  have neC : ∀ b o, X.s₀.heap.get? b = some o → b ∉ X.ex → b ∉ ch := fun b o e hx hb => by
    rcases (hch b hb).1 with z | z
    · exact hx z
    · exact absurd (Nat.lt_of_lt_of_le (Heap.lt_size e) z) (Nat.lt_irrefl _)
  have cellK : ∀ x c, X.env.cells.lookup x = some c → ∀ v, s.heap.IsCell c v → h'.IsCell c v := fun x c e v ⟨o, ho, hd⟩ => by
    have nch : c ∉ ch := fun z => (hch c z).2.2.1 x c e rfl
    by_cases hc : c ∈ X.fs
    · obtain ⟨sl, q⟩ := slot c o (I.cne x c e) hc nch ho (I.freeC x c e)
      exact ⟨_, q, hd⟩
    · exact ⟨o, keep c o (I.cne x c e) hc nch ho (I.freeC x c e), hd⟩
  refine ⟨I.ok, I.os, hg, ⟨fun b o e n hb hx => ?_, fun b o e n hb hx => ?_, fun b o e n hx => ?_, fun b o e hx => ?_, fun b xs e => tups b xs (I.base.tups b xs e), fun b o xs e => frzs b o xs (I.base.frzs b o xs e), fun b ps e => ?_⟩, ?_, fun x c e => ?_, ?_, fun x c e => ?_, fun p hp => ?_, hok, I.len⟩
  · exact keep b o (neL b o e) hb (neC b o e hx) (I.base.keep b o e n hb hx) (I.base.free b o e n hx)
  · obtain ⟨sl, e1⟩ := I.base.slot b o e n hb hx
    obtain ⟨sl', e2⟩ := slot b _ (neL b o e) hb (neC b o e hx) e1 (I.base.free b o e n hx)
    exact ⟨sl', e2⟩
  · obtain ⟨o', e1⟩ := I.base.there b o e hx
    exact free b o' (neC b o e hx) e1 (I.base.free b o e n hx)
  · obtain ⟨o', e1⟩ := I.base.there b o e hx
    exact there b o' (neC b o e hx) e1
  · obtain ⟨m1, e1⟩ := I.base.tbls b ps e
    obtain ⟨m2, e2⟩ := tbls b _ e1
    exact ⟨m1 ++ m2, by rw [e2, Array.append_assoc]⟩
  · obtain ⟨m, hn, hl⟩ := I.loc
    refine ⟨m, ns m hn, fun i x v e1 e2 e3 => ?_⟩
    obtain ⟨u, r, l⟩ := hl i x v e1 e2 e3
    refine ⟨u, r, ?_⟩
    rcases l with l | ⟨k, c, e, z⟩
    · exact .inl l
    · exact .inr ⟨k, c, e, cellK x c e _ z⟩
  · obtain ⟨v, z⟩ := I.cell x c e
    exact ⟨v, cellK x c e v z⟩
  · obtain ⟨m, ⟨o, _, _, ho, _⟩, _⟩ := I.loc
    exact free _ o (fun z => (hch _ z).2.1 rfl) ho I.free
  · obtain ⟨v, o, ho, hd⟩ := I.cell x c e
    exact free c o (fun z => (hch c z).2.2.1 x c e rfl) ho (I.freeC x c e)
  · obtain ⟨e, n, ne, nf, d⟩ := I.pin p hp
    have nch : p.1 ∉ ch := fun z => (hch p.1 z).2.2.2 p hp rfl
    exact ⟨keep p.1 p.2 ne nf nch e n, free p.1 p.2 nch e n, ne, nf, d⟩
theorem Inv.un {t' : Nat} (I : Inv X pins σ H s) (u : Un X.fs [] H H' s.heap h') (hok : HOk X.prog X.w H' h') : Inv X pins σ H' { s with heap := h', toks := t' } := by
  obtain ⟨m, ⟨o, es, ep, ho, r⟩, _⟩ := id I.loc
  obtain ⟨sl, hL⟩ := u.any ho I.free (by simp)
  exact I.step (g' := s.gens) (d' := s.drawn) (ch := []) (fun _ z => nomatch z) (fun b o _ hb _ e n => u.keep b o e n hb (by simp)) (fun b o _ hb _ e n => u.slot b o e n hb (by simp)) (fun b o _ e n => u.free b o e n (by simp)) (fun b o _ e => u.there b o e (by simp)) u.tups u.frzs u.tbls (fun m' hm => by
    obtain ⟨o', es', ep', ho', r'⟩ := hm
    rw [ho] at ho'; cases ho'
    exact ⟨_, es', ep', hL, r'⟩) hok I.bare
theorem Inv.call {g' : Array GenState} {t' : Nat} {d' : Drawn} {ch : List Addr} (I : Inv X pins σ H s) (u : Un (frs X.stack) ch H H' s.heap h') (hok : HOk X.prog X.w H' h') (hg : AllBare g')
    (hch : ∀ b ∈ ch, (b ∈ X.ex ∨ X.s₀.heap.objs.size ≤ b) ∧ b ≠ X.env.locals ∧ (∀ x c, X.env.cells.lookup x = some c → c ≠ b) ∧ ∀ p ∈ X.pn ++ pins, p.1 ≠ b) :
    Inv X pins σ H' { s with heap := h', gens := g', drawn := d', toks := t' } := by
  obtain ⟨m, ⟨o, es, ep, ho, r⟩, _⟩ := id I.loc
  obtain ⟨sl, hL⟩ := u.any ho I.free fun z => (hch _ z).2.1 rfl
  exact I.step (ch := ch) hch (fun b o hL hb hc e n => u.keep b o e n (fun z => (List.mem_cons.mp (I.stkSub b z)).elim hL hb) hc) (fun b o _ _ hc e n => u.any e n hc) (fun b o hc e n => u.free b o e n hc) (fun b o hc e => u.there b o e hc) u.tups u.frzs u.tbls (fun m' hm => by
    obtain ⟨o', es', ep', ho', r'⟩ := hm
    rw [ho] at ho'; cases ho'
    exact ⟨_, es', ep', hL, r'⟩) hok hg
theorem Inv.turned {t' : Nat} {it : Addr} (I : Inv X pins σ H s) (k : ∀ b o, b ≠ it → s.heap.get? b = some o → h'.get? b = some o) (hn : H it = none) (hL : it ≠ X.env.locals)
    (h1 : it ∈ X.ex ∨ X.s₀.heap.objs.size ≤ it) (h2 : ∀ x c, X.env.cells.lookup x = some c → c ≠ it) (h3 : ∀ p ∈ X.pn ++ pins, p.1 ≠ it) : Inv X pins σ H { s with heap := h', toks := t' } := by
  have nit : ∀ b u, H b = some u → b ≠ it := fun b u e z => by rw [z, hn] at e; cases e
  refine I.step (g' := s.gens) (d' := s.drawn) (ch := [it]) (fun b hb => ?_) (fun b o _ _ hc e _ => k b o (fun z => hc (by simp [z])) e) (fun b o _ _ hc e _ => ⟨o.slots, k b o (fun z => hc (by simp [z])) e⟩) (fun _ _ _ _ n => n)
    (fun b o hc e => ⟨o, k b o (fun z => hc (by simp [z])) e⟩) (fun _ _ e => e) (fun _ _ _ e => e) (fun b ps e => ⟨#[], by rw [e]; simp⟩) (fun m hm => ?_) (fun b u e => ?_) I.bare
  · have e : b = it := by simpa using hb
    subst e
    exact ⟨h1, hL, h2, h3⟩
  · obtain ⟨o, es, ep, ho, r⟩ := hm
    exact ⟨o, es, ep, k _ o (Ne.symm hL) ho, r⟩
  · refine (I.hok b u e).stay (fun c v hc q => k c v ?_ q) (fun _ q => q) fun _ _ q => q
    rcases hc with z | z
    · rw [z]; exact nit b u e
    · exact nit c _ z
theorem Inv.tok (I : Inv X pins σ H s) (t : Nat) : Inv X pins σ H { s with toks := t } := I.un (h' := s.heap) (t' := t) Un.refl I.hok
theorem Inv.kept {t' : Nat} (I : Inv X pins σ H s) (k : ∀ b u, s.heap.get? b = some u → h'.get? b = some u) : Inv X pins σ H { s with heap := h', toks := t' } := I.un (Un.kept k) (I.hok.kept k)
theorem Inv.laid {a : Addr} {o : HO} {t' : Nat} (I : Inv X pins σ H s) (k : ∀ b u, s.heap.get? b = some u → h'.get? b = some u) (hp : s.heap.objs.size ≤ a) (new : ObjOk X.prog X.w (upd H a o) h' a o) :
    Inv X pins σ (upd H a o) { s with heap := h', toks := t' } := I.un (Un.laid k hp (I.hok.fresh hp)) (I.hok.laid k hp new)
theorem Inv.write {x e : Addr} {o : HO} {t' : Nat} (I : Inv X pins σ H s) (mu : Mut (H x)) (he : e = x ∨ H e = some (.own x)) (k : ∀ b u, b ≠ e → s.heap.get? b = some u → h'.get? b = some u) (heo : ∃ u, h'.get? e = some u)
    (new : ObjOk X.prog X.w (upd H x o) h' x o) : Inv X pins σ (upd H x o) { s with heap := h', toks := t' } := I.un (Un.write mu he k heo) (I.hok.write mu he k heo new)
theorem Inv.pins_of {pins' : List (Addr × Obj)} (I : Inv X pins σ H s) (h : ∀ p ∈ pins', s.heap.get? p.1 = some p.2 ∧ H p.1 = none ∧ p.1 ≠ X.env.locals ∧ p.1 ∉ X.fs ∧ ∀ v, p.2.data ≠ .cell v) : Inv X pins' σ H s :=
  ⟨I.ok, I.os, I.bare, I.base, I.loc, I.cell, I.free, I.freeC, fun p hp => (List.mem_append.mp hp).elim (fun z => I.pin p (List.mem_append_left _ z)) (h p), I.hok, I.len⟩
theorem nodup_ix {N : List Str} (hN : N.Nodup) {i j : Nat} {x : Str} (a : N[i]? = some x) (b : N[j]? = some x) : i = j := by
  obtain ⟨h1, e1⟩ := List.getElem?_eq_some_iff.mp a
  obtain ⟨h2, e2⟩ := List.getElem?_eq_some_iff.mp b
  exact (List.getElem_inj hN).mp (e1.trans e2.symm)
theorem store_ok2 {M : Model} {A : Around} {E : Value → Shared → Prop} {i : Nat} {x : Str} {v : V} {u : Value} {Q : Unit → Shared → Prop} (I : Inv X pins σ H s) (hN : X.N.Nodup) (hi : X.N[i]? = some x) (hx : Loc X.env.scope x) (r : RelV v u)
    (h : ∀ s', Inv X pins (σ.set i (some v)) H s' → (∃ a, Heap.SameBut a s.heap s'.heap ∧ (a = X.env.locals ∨ X.env.cells.lookup x = some a)) → Q () s') (hf : X.fn x = true ∨ X.env.scope.names.lookup x = some .local := by first | exact .inl rfl | exact .inr rfl | assumption) : wpAny M A (storeName X.env x u) Q E s := by
  obtain ⟨m, hn, hl⟩ := id I.loc
  have hcls : (X.env.scope.kind == .class || (X.env.scope.kind == .module && X.env.locals != X.env.globals)) = false := by rw [I.ok.kind]; rfl
  have hiσ : i < σ.length := by rw [I.len]; exact (List.getElem?_eq_some_iff.mp hi).1
  have cne := I.cne
  have tracked : ∀ {a : Addr} {h' : Heap}, (∃ o, s.heap.get? a = some o ∧ H a = none) → Heap.SameBut a s.heap h' → HOk X.prog X.w H h' := fun {a h'} ha hs b ob e => by
    obtain ⟨_, _, hfree⟩ := ha
    refine (I.hok b ob e).stay (fun c w' hc q => (hs.2 c ?_).trans q) (fun _ q => q) fun _ _ q => q
    rintro rfl
    rcases hc with rfl | hc
    · rw [hfree] at e; cases e
    · rw [hfree] at hc; cases hc
  rcases hx with hk | hk
  · refine wpAny_storeName_local hk hn (fun h' hn' hs => ?_) hcls
    obtain ⟨oL, _, _, hoL, _⟩ := id hn
    refine h _ ⟨I.ok, I.os, I.bare, ⟨fun b o e n hb hx => ?_, fun b o e n hb hx => ?_, I.base.free, fun b o e hx => ?_, I.base.tups, I.base.frzs, I.base.tbls⟩, ⟨_, hn', fun j y v' e1 e2 e3 => ?_⟩, fun y c e => ?_, I.free, I.freeC, fun p hp => ?_, tracked ⟨oL, hoL, I.free⟩ hs, by simpa using I.len⟩ ⟨_, hs, .inl rfl⟩
    · exact (hs.2 b (Nat.ne_of_lt (Nat.lt_of_lt_of_le (Heap.lt_size e) I.ok.above))).trans (I.base.keep b o e n hb hx)
    · obtain ⟨sl, e1⟩ := I.base.slot b o e n hb hx
      exact ⟨sl, (hs.2 b (Nat.ne_of_lt (Nat.lt_of_lt_of_le (Heap.lt_size e) I.ok.above))).trans e1⟩
    · obtain ⟨o', e1⟩ := I.base.there b o e hx
      exact ⟨o', (hs.2 b (Nat.ne_of_lt (Nat.lt_of_lt_of_le (Heap.lt_size e) I.ok.above))).trans e1⟩
    · by_cases hj : j = i
      · subst hj
        rw [hi] at e1; cases e1
        rw [List.getElem?_set_self hiσ] at e2
        cases e2
        exact ⟨u, r, .inl ⟨hk, by simp⟩⟩
      · rw [List.getElem?_set_ne (Ne.symm hj)] at e2
        obtain ⟨u', r', q⟩ := hl j y v' e1 e2 e3
        refine ⟨u', r', ?_⟩
        rcases q with ⟨k, e⟩ | ⟨k, c, e, z⟩
        · refine .inl ⟨k, ?_⟩
          have : y ≠ x := fun e => hj (nodup_ix hN e1 (e ▸ hi))
          simp [this, e]
        · exact .inr ⟨k, c, e, z.sameBut hs (cne y c e)⟩
    · obtain ⟨w', z⟩ := I.cell y c e
      exact ⟨w', z.sameBut hs (cne y c e)⟩
    · obtain ⟨e, n, ne, nf, d⟩ := I.pin p hp
      exact ⟨(hs.2 p.1 ne).trans e, n, ne, nf, d⟩
  · have hfn : X.fn x = true := by
      rcases hf with z | z
      · exact z
      · rw [z] at hk; cases hk
    obtain ⟨c, hc⟩ := I.ok.has x (.inl hk)
    obtain ⟨w', z⟩ := I.cell x c hc
    refine wpAny_storeName_cell I.ok.kind hk hc z (fun h' hc' hs => ?_)
    obtain ⟨oc, hoc, hocd⟩ := id z
    refine h { s with heap := h' } ⟨I.ok, I.os, I.bare, ⟨fun b o e n hb hx => ?_, fun b o e n hb hx => ?_, I.base.free, fun b o e hx => ?_, I.base.tups, I.base.frzs, I.base.tbls⟩, ⟨m, hn.sameBut hs (Ne.symm (cne x c hc)), fun j y v' e1 e2 e3 => ?_⟩, fun y c' e => ?_, I.free, I.freeC, fun p hp => ?_, tracked ⟨oc, hoc, I.freeC x c hc⟩ hs, by simpa using I.len⟩ ⟨c, hs, .inr hc⟩
    · exact (hs.2 b (Nat.ne_of_lt (Nat.lt_of_lt_of_le (Heap.lt_size e) (I.ok.cab x c hfn hc)))).trans (I.base.keep b o e n hb hx)
    · obtain ⟨sl, e1⟩ := I.base.slot b o e n hb hx
      exact ⟨sl, (hs.2 b (Nat.ne_of_lt (Nat.lt_of_lt_of_le (Heap.lt_size e) (I.ok.cab x c hfn hc)))).trans e1⟩
    · obtain ⟨o', e1⟩ := I.base.there b o e hx
      exact ⟨o', (hs.2 b (Nat.ne_of_lt (Nat.lt_of_lt_of_le (Heap.lt_size e) (I.ok.cab x c hfn hc)))).trans e1⟩
    · by_cases hj : j = i
      · subst hj
        rw [hi] at e1; cases e1
        rw [List.getElem?_set_self hiσ] at e2
        cases e2
        exact ⟨u, r, .inr ⟨.inl hk, c, hc, hc'⟩⟩
      · rw [List.getElem?_set_ne (Ne.symm hj)] at e2
        obtain ⟨u', r', q⟩ := hl j y v' e1 e2 e3
        refine ⟨u', r', ?_⟩
        rcases q with q | ⟨k, c', e, z'⟩
        · exact .inl q
        · refine .inr ⟨k, c', e, z'.sameBut hs ?_⟩
          rintro rfl
          exact hj (nodup_ix hN e1 (I.ok.inj _ _ _ e hc ▸ hi))
    · by_cases hcc : c' = c
      · subst hcc; exact ⟨_, hc'⟩
      · obtain ⟨w2, z2⟩ := I.cell y c' e
        exact ⟨w2, z2.sameBut hs hcc⟩
    · obtain ⟨e, n, ne, nf, d⟩ := I.pin p hp
      refine ⟨(hs.2 p.1 ?_).trans e, n, ne, nf, d⟩
      intro q
      rw [q, hoc] at e
      have q' : oc = p.2 := Option.some.inj e
      exact d w' (by rw [← q']; exact hocd)
theorem store_ok {M : Model} {A : Around} {E : Value → Shared → Prop} {i : Nat} {x : Str} {v : V} {u : Value} {Q : Unit → Shared → Prop} (I : Inv X pins σ H s) (hN : X.N.Nodup) (hi : X.N[i]? = some x) (hx : Loc X.env.scope x) (r : RelV v u)
    (h : ∀ s', Inv X pins (σ.set i (some v)) H s' → Q () s') (hf : X.fn x = true ∨ X.env.scope.names.lookup x = some .local := by first | exact .inl rfl | exact .inr rfl | assumption) : wpAny M A (storeName X.env x u) Q E s :=
  store_ok2 I hN hi hx r (fun s' I' _ => h s' I') hf
theorem Inv.call' {s' : Shared} {ch : List Addr} (I : Inv X pins σ H s) (ho : s'.os = s.os) (u : Un (frs X.stack) ch H H' s.heap s'.heap) (hok : HOk X.prog X.w H' s'.heap) (hg : AllBare s'.gens)
    (hch : ∀ b ∈ ch, (b ∈ X.ex ∨ X.s₀.heap.objs.size ≤ b) ∧ b ≠ X.env.locals ∧ (∀ x c, X.env.cells.lookup x = some c → c ≠ b) ∧ ∀ p ∈ X.pn ++ pins, p.1 ≠ b) : Inv X pins σ H' s' := by
  obtain ⟨h', g', d', t', o'⟩ := s'
  have e : o' = s.os := ho
  subst e
  exact I.call (g' := g') (t' := t') (d' := d') u hok hg hch
end
abbrev XK := Value → Option Addr → Hp → Prop
abbrev St := List (Option V)
abbrev VK := V → Hp → Prop
abbrev TE := St → Hp → VK → Prop
abbrev TT := St → Hp → (Bool → Hp → Prop) → Prop
abbrev TA := St → Hp → (List V → Hp → Prop) → Prop
structure Ends where
  nx : St → Hp → Prop
  rt : VK
  bk : St → Hp → Prop := fun _ _ => False
  ct : St → Hp → Prop := fun _ _ => False
abbrev TS := Ends → St → Hp → Prop
def EP (X : Cx) (pins : List (Addr × Obj)) (σ : St) (Q : VK) (u : Value) (s' : Shared) : Prop := ∃ v H', Inv X pins σ H' s' ∧ RelV v u ∧ Q v H'
def TP (X : Cx) (pins : List (Addr × Obj)) (σ : St) (Q : Bool → Hp → Prop) (b : Bool) (s' : Shared) : Prop := ∃ H', Inv X pins σ H' s' ∧ Q b H'
def AP (X : Cx) (pins : List (Addr × Obj)) (σ : St) (Q : List V → Hp → Prop) (us : List Value) (s' : Shared) : Prop := ∃ vs H', Inv X pins σ H' s' ∧ Vals vs us ∧ Q vs H'
def SP (X : Cx) (pins : List (Addr × Obj)) (D : Ends) (f : Flow) (s' : Shared) : Prop :=
  match f with
  | .next => ∃ σ' H', Inv X pins σ' H' s' ∧ D.nx σ' H'
  | .brk => ∃ σ' H', Inv X pins σ' H' s' ∧ D.bk σ' H'
  | .cont => ∃ σ' H', Inv X pins σ' H' s' ∧ D.ct σ' H'
  | .ret u => ∃ v σ' H', Inv X pins σ' H' s' ∧ RelV v u ∧ D.rt v H'
def PE (X : Cx) (e : Expr) (t : TE) : Prop :=
  ∀ (pins : List (Addr × Obj)) (s : Shared) (σ : St) (H : Hp) (Q : VK), Inv X pins σ H s → t σ H Q → wpAny (model X.prog X.w) X.A (eval e X.env) (EP X pins σ Q) X.xe s
def PT (X : Cx) (e : Expr) (t : TT) : Prop :=
  ∀ (pins : List (Addr × Obj)) (s : Shared) (σ : St) (H : Hp) (Q : Bool → Hp → Prop), Inv X pins σ H s → t σ H Q → wpAny (model X.prog X.w) X.A (isTrue e X.env (eval e X.env)) (TP X pins σ Q) X.xe s
def PW (X : Cx) (e : Expr) (t : TT) : Prop :=
  ∀ (whole : Sem Value) (pins : List (Addr × Obj)) (s : Shared) (σ : St) (H : Hp) (Q : Bool → Hp → Prop), Inv X pins σ H s → t σ H Q → wpAny (model X.prog X.w) X.A (isTrue e X.env whole) (TP X pins σ Q) X.xe s
theorem PW.pt {X : Cx} {e : Expr} {t : TT} (h : PW X e t) : PT X e t := h _
def PA (X : Cx) (es : List Expr) (t : TA) : Prop :=
  ∀ (pos : Pos) (pins : List (Addr × Obj)) (s : Shared) (σ : St) (H : Hp) (Q : List V → Hp → Prop), Inv X pins σ H s → t σ H Q → wpAny (model X.prog X.w) X.A (spliced (backTo pos (starEach es X.env))) (AP X pins σ Q) X.xe s
def PS (X : Cx) (st : Stmt) (t : TS) : Prop :=
  ∀ (pins : List (Addr × Obj)) (s : Shared) (σ : St) (H : Hp) (D : Ends), Inv X pins σ H s → t D σ H → wpAny (model X.prog X.w) X.A (exec st X.env) (SP X pins D) X.xe s
def PSs (X : Cx) (st : List Stmt) (t : TS) : Prop :=
  ∀ (pins : List (Addr × Obj)) (s : Shared) (σ : St) (H : Hp) (D : Ends), Inv X pins σ H s → t D σ H → wpAny (model X.prog X.w) X.A (execs st X.env) (SP X pins D) X.xe s
theorem thn {α : Type} {t : Sem α} {Q Q' : α → Shared → Prop} {M : Model} {A : Around} {E : Value → Shared → Prop} {s : Shared} (h : wpAny M A t Q E s) (hQ : ∀ a s, Q a s → Q' a s) : wpAny M A t Q' E s := wpAny_mono h hQ fun _ _ x => x
end L2
namespace L2
open PySem PySem.Spec PyProof.Rows
section
variable {X : Cx}
def tVar (i : Nat) : TE := fun σ H Q => ∃ v, σ[i]? = some (some v) ∧ Q v H
def tC (v : V) : TE := fun _ H Q => Q v H
theorem pe_var {i : Nat} {x : Str} {pos : Pos} (hN : X.N[i]? = some x) (hv : Vis X.env.scope x) (hd : (x == ("__debug__" : Str)) = false := by decide) (hcd : (x == ("__classdict__" : Str)) = false := by decide) : PE X (.Name x pos) (tVar i) := by
  intro pins s σ H Q I h
  obtain ⟨v, e, h⟩ := h
  obtain ⟨m, hn, hl⟩ := I.loc
  obtain ⟨u, r, l⟩ := hl i x v hN e hv
  have fin : EP X pins σ Q u s := ⟨v, H, I, r, h⟩
  rcases l with ⟨hk, hm⟩ | ⟨hk, c, hc, hcell⟩
  · exact wpAny_Name (wpAny_loadName_local I.ok.kind hk hn hm fin) hd
  · rcases hk with hk | hk
    · exact wpAny_Name (wpAny_loadName_cell I.ok.kind hk hc hcell fin) hd
    · exact wpAny_Name (wpAny_loadName_free I.ok.kind hk hc hcell fin hcd) hd
theorem pe_int {i j pos} : PE X (.Constant (.int i) j pos) (tC (.int i)) := fun _ _ _ H _ I h => wpAny_Constant_int ⟨.int i, H, I.tok _, ⟨_, rfl⟩, h⟩
theorem pe_bl {b j pos} : PE X (.Constant (.bool b) j pos) (tC (.bl b)) := fun _ _ _ H _ I h => Constant_bool ⟨.bl b, H, I, rfl, h⟩
theorem pe_non {j pos} : PE X (.Constant .none j pos) (tC .non) := fun _ _ _ H _ I h => Constant_none ⟨.non, H, I, rfl, h⟩
def Gl (X : Cx) (x : Str) : Prop := X.env.kindOf x = some .globalImplicit
theorem ld_glob {E : Value → Shared → Prop} {pins : List (Addr × Obj)} {s : Shared} {σ : St} {H : Hp} {x : Str} {u : Value} {pos : Pos} {Q : Value → Shared → Prop} (I : Inv X pins σ H s) (hg : Gl X x) (hm : X.mg x = some u) (h : Q u s)
    (hd : (x == ("__debug__" : Str)) = false := by decide) : wpAny (model X.prog X.w) X.A (eval (.Name x pos) X.env) Q E s :=
  Calls.Name_function_global I.ok.kind hg (Calls.loadGlobal_global (by rw [I.ok.glob]; exact I.mod.glob.keeps I.bk) hm h) hd
theorem ld_blt {E : Value → Shared → Prop} {pins : List (Addr × Obj)} {s : Shared} {σ : St} {H : Hp} {x : Str} {u : Value} {pos : Pos} {Q : Value → Shared → Prop} (I : Inv X pins σ H s) (hg : Gl X x) (hm : X.mg x = none) (hv : bootBuiltins x = some u) (h : Q u s)
    (hn : x ≠ "__name__" := by decide) (hd : (x == ("__debug__" : Str)) = false := by decide) : wpAny (model X.prog X.w) X.A (eval (.Name x pos) X.env) Q E s := by
  obtain ⟨mb, h1, h2⟩ := I.mod.blt
  exact Calls.Name_function_global I.ok.kind hg (Calls.loadGlobal_builtin (by rw [I.ok.glob]; exact I.mod.glob.keeps I.bk) hm (by rw [I.ok.blt]; exact h1.keeps I.bk) ((h2 x hn).trans hv) h) hd
theorem pe_bltn {x : Str} {v : V} {u : Value} {pos : Pos} (hg : Gl X x) (hm : X.mg x = none) (hv : bootBuiltins x = some u) (r : RelV v u) (hn : x ≠ "__name__" := by decide) (hd : (x == ("__debug__" : Str)) = false := by decide) : PE X (.Name x pos) (tC v) :=
  fun _ _ _ H _ I h => ld_blt I hg hm hv ⟨v, H, I, r, h⟩ hn hd
variable {a b : Expr} {ta tb : TE} {pos : Pos}
variable {tA tB' : TT} {rest : List Expr}
def tAnd (t u : TT) : TT := fun σ H Q => t σ H fun c H1 => if c = true then u σ H1 Q else Q false H1
def tOr (t u : TT) : TT := fun σ H Q => t σ H fun c H1 => if c = true then Q true H1 else u σ H1 Q
def tNot (t : TT) : TT := fun σ H Q => t σ H fun c H1 => Q (!c) H1
theorem pw_and1 (ha : PT X a tA) : PW X (.BoolOp .And [a] pos) tA := by
  intro wh pins s σ H Q I h
  refine isTrue_and (thn (ha pins s σ H Q I h) fun c s1 e => ?_)
  cases c with
  | true => exact isTrue_and_nil e
  | false => exact e
theorem pw_or1 (ha : PT X a tA) : PW X (.BoolOp .Or [a] pos) tA := by
  intro wh pins s σ H Q I h
  refine isTrue_or (thn (ha pins s σ H Q I h) fun c s1 e => ?_)
  cases c with
  | false => exact isTrue_or_nil e
  | true => exact e
theorem pw_and (ha : PT X a tA) (hb : PW X (.BoolOp .And (b :: rest) pos) tB') : PW X (.BoolOp .And (a :: b :: rest) pos) (tAnd tA tB') := by
  intro wh pins s σ H Q I h
  refine isTrue_and (thn (ha pins s σ H _ I h) fun c s1 ⟨H1, I1, q1⟩ => ?_)
  cases c with
  | true => exact hb wh pins s1 σ H1 Q I1 q1
  | false => exact ⟨H1, I1, q1⟩
theorem pw_or (ha : PT X a tA) (hb : PW X (.BoolOp .Or (b :: rest) pos) tB') : PW X (.BoolOp .Or (a :: b :: rest) pos) (tOr tA tB') := by
  intro wh pins s σ H Q I h
  refine isTrue_or (thn (ha pins s σ H _ I h) fun c s1 ⟨H1, I1, q1⟩ => ?_)
  cases c with
  | true => exact ⟨H1, I1, q1⟩
  | false => exact hb wh pins s1 σ H1 Q I1 q1
theorem pt_not (ha : PT X a tA) : PT X (.UnaryOp .Not a pos) (tNot tA) := by
  intro pins s σ H Q I h
  exact isTrue_not (ha pins s σ H (fun c H1 => Q (!c) H1) I h)
def tAndV (ta tb : TE) : TE := fun σ H Q => ta σ H fun x H1 => ∃ c, x = .bl c ∧ if c = true then tb σ H1 Q else Q (.bl false) H1
def tNotV (ta : TE) : TE := fun σ H Q => ta σ H fun x H1 => ∃ c, x = .bl c ∧ Q (.bl (!c)) H1
theorem pe_one {op} {t : TE} (h : PE X a t) : PE X (.BoolOp op [a] pos) t := fun pins s σ H Q I hw => BoolOp_one (h pins s σ H Q I hw)
theorem pe_and (ha : PE X a ta) (hb : PE X (.BoolOp .And (b :: rest) pos) tb) : PE X (.BoolOp .And (a :: b :: rest) pos) (tAndV ta tb) := by
  intro pins s σ H Q I h
  refine BoolOp_and (thn (ha pins s σ H _ I h) fun v s1 ⟨x, H1, I1, r1, q1⟩ => ?_)
  obtain ⟨c, rfl, q1⟩ := q1
  cases r1
  refine wpAny_truthy_bool ?_
  cases c with
  | true => exact hb pins s1 σ H1 Q I1 q1
  | false => exact ⟨.bl false, H1, I1, rfl, q1⟩
theorem pe_not (ha : PE X a ta) : PE X (.UnaryOp .Not a pos) (tNotV ta) := by
  intro pins s σ H Q I h
  refine UnaryOp_ (thn (ha pins s σ H _ I h) fun v s1 ⟨x, H1, I1, r1, q1⟩ => ?_)
  obtain ⟨c, rfl, q1⟩ := q1
  cases r1
  exact not_of (wpAny_truthy_bool ⟨.bl (!c), H1, I1, rfl, q1⟩)
end
end L2
namespace L2
open PySem PySem.Spec PyProof.Rows
def SqL (K : PySem.W.Frag) (H : Hp) (a : Addr) (xs : List V) : Prop :=
  Rd H a (.lst xs) ∨
    ∃ (o : Obj) (its : Array Value) (n : Nat), K.lookup a = some o ∧ o.cls = .type "list" ∧ o.dict = none ∧ o.data = .seq its n ∧ its.size ≤ sizeLine ∧ Vals xs its.toList
def SqT (K : PySem.W.Frag) (H : Hp) (a : Addr) (xs : List V) : Prop :=
  Rd H a (.tup xs) ∨
    ∃ (o : Obj) (its : Array Value) (n : Nat), K.lookup a = some o ∧ o.cls = .type "tuple" ∧ o.data = .seq its n ∧ its.size ≤ sizeLine ∧ Vals xs its.toList
def absV : Value → Option V
  | .none => some .non
  | .bool b => some (.bl b)
  | .int i _ => some (.int i)
  | .str x _ => some (.str x)
  | .bytes b _ => some (.byt b)
  | .float b _ => some (.flt b)
  | .ref a => some (.ref a)
  | .type n => some (.ty n)
  | _ => none
theorem RelV.abs {x : V} {u : Value} (r : RelV x u) : absV u = some x := by
  cases x with
  | non => cases r; rfl
  | bl _ => cases r; rfl
  | int _ => obtain ⟨t, rfl⟩ := r; rfl
  | str _ => obtain ⟨t, rfl⟩ := r; rfl
  | byt _ => obtain ⟨t, rfl⟩ := r; rfl
  | flt _ => obtain ⟨t, rfl⟩ := r; rfl
  | ref _ => cases r; rfl
  | ty _ => cases r; rfl
theorem RelV.inj {x y : V} {u : Value} (r : RelV x u) (q : RelV y u) : x = y := Option.some.inj (r.abs.symm.trans q.abs)
theorem Vals.inj : ∀ {xs ys : List V} {us : List Value}, Vals xs us → Vals ys us → xs = ys
  | _, _, _, .nil, .nil => rfl
  | _, _, _, .cons r t, .cons r' t' => by rw [r.inj r', Vals.inj t t']
section
variable {X : Cx} {pins : List (Addr × Obj)} {σ : St} {H : Hp} {s : Shared} {a : Addr} {xs ys : List V}
theorem SqL.of {K : PySem.W.Frag} (h : H a = some (.lst xs)) : SqL K H a xs := .inl (.inl h)
theorem SqT.of {K : PySem.W.Frag} (h : H a = some (.tup xs)) : SqT K H a xs := .inl (.inl h)
theorem Inv.list (I : Inv X pins σ H s) (h : SqL X.K H a xs) : ∃ its : List Value, Vals xs its ∧ PlainL s.heap a its.toArray ∧ xs.length ≤ sizeLine := by
  rcases h with h | ⟨o, its, n, hk, hc, hd, hs, hz, r⟩
  · obtain ⟨z, its, n, r, e⟩ := h.ok I.hok
    exact ⟨its, r, ⟨_, n, e, rfl, rfl, rfl⟩, z⟩
  · refine ⟨its.toList, r, ⟨o, n, I.kIn a o hk, hc, hd, by simpa using hs⟩, ?_⟩
    have e := r.length
    simp only [Array.length_toList] at e
    omega
theorem Inv.tuple (I : Inv X pins σ H s) (h : SqT X.K H a xs) : ∃ its : List Value, Vals xs its ∧ IsTup s.heap a its.toArray ∧ xs.length ≤ sizeLine := by
  rcases h with h | ⟨o, its, n, hk, hc, hs, hz, r⟩
  · obtain ⟨z, its, r, p⟩ := h.ok I.hok
    exact ⟨its, r, p, z⟩
  · refine ⟨its.toList, r, ⟨o, I.kIn a o hk, hc, n, by simpa using hs⟩, ?_⟩
    have e := r.length
    simp only [Array.length_toList] at e
    omega
theorem Inv.list_inj (I : Inv X pins σ H s) (h : SqL X.K H a xs) (h' : SqL X.K H a ys) : xs = ys := by
  obtain ⟨its, r, ⟨o, n, e, _, _, d⟩, _⟩ := I.list h
  obtain ⟨its', r', ⟨o', n', e', _, _, d'⟩, _⟩ := I.list h'
  rw [e] at e'; cases e'
  rw [d] at d'
  injection d' with d1 _
  have : its = its' := by simpa using congrArg Array.toList d1
  subst this
  exact r.inj r'
theorem Inv.tuple_inj (I : Inv X pins σ H s) (h : SqT X.K H a xs) (h' : SqT X.K H a ys) : xs = ys := by
  obtain ⟨its, r, ⟨o, e, _, n, d⟩, _⟩ := I.tuple h
  obtain ⟨its', r', ⟨o', e', _, n', d'⟩, _⟩ := I.tuple h'
  rw [e] at e'; cases e'
  rw [d] at d'
  injection d' with d1 _
  have : its = its' := by simpa using congrArg Array.toList d1
  subst this
  exact r.inj r'
end
abbrev Cx.wish (X : Cx) (E : Value → Shared → Prop) : Cx := { X with xe := E }
abbrev Cx.nox (X : Cx) : Cx := X.wish fun _ _ => False
theorem Cx.Ok.wish {X : Cx} (ok : X.Ok) (E : Value → Shared → Prop) : (X.wish E).Ok :=
  ⟨ok.mod, ok.kind, ok.glob, ok.blt, ok.above, ok.inj, ok.has, ok.cab, ok.hd, ok.frames, ok.stk, ok.exf, ok.bs, ok.bsz, ok.noex, ok.exfs, ok.funs, ok.frf⟩
theorem Cx.Ok.unwish {X : Cx} {E : Value → Shared → Prop} (ok : (X.wish E).Ok) : X.Ok :=
  ⟨ok.mod, ok.kind, ok.glob, ok.blt, ok.above, ok.inj, ok.has, ok.cab, ok.hd, ok.frames, ok.stk, ok.exf, ok.bs, ok.bsz, ok.noex, ok.exfs, ok.funs, ok.frf⟩
section
variable {X : Cx} {pins : List (Addr × Obj)} {σ : St} {H : Hp} {s : Shared} {E : Value → Shared → Prop}
theorem Inv.wish (I : Inv X pins σ H s) (E : Value → Shared → Prop) : Inv (X.wish E) pins σ H s := ⟨I.ok.wish E, I.os, I.bare, I.base, I.loc, I.cell, I.free, I.freeC, I.pin, I.hok, I.len⟩
theorem Inv.unwish (I : Inv (X.wish E) pins σ H s) : Inv X pins σ H s := ⟨I.ok.unwish, I.os, I.bare, I.base, I.loc, I.cell, I.free, I.freeC, I.pin, I.hok, I.len⟩
theorem SP.unwish {D : Ends} {f : Flow} {s' : Shared} (h : SP (X.wish E) pins D f s') : SP X pins D f s' := by
  cases f with
  | next => obtain ⟨σ', H', I, q⟩ := h; exact ⟨σ', H', I.unwish, q⟩
  | brk => obtain ⟨σ', H', I, q⟩ := h; exact ⟨σ', H', I.unwish, q⟩
  | cont => obtain ⟨σ', H', I, q⟩ := h; exact ⟨σ', H', I.unwish, q⟩
  | ret u => obtain ⟨v, σ', H', I, r, q⟩ := h; exact ⟨v, σ', H', I.unwish, r, q⟩
theorem PSs.nox {st : List Stmt} {t : TS} (h : PSs X.nox st t) : PSs X st t := fun pins s σ H D I hw =>
  wpAny_mono (h pins s σ H D (I.wish _) hw) (fun _ _ q => q.unwish) fun _ _ z => False.elim z
end
section
variable {X : Cx} {st : Stmt} {rest : List Stmt} {t u : TS} {e : Expr} {te : TE} {pos : Pos}
def tNext : TS := fun D σ H => D.nx σ H
def tSeq (t u : TS) : TS := fun D σ H => t { D with nx := u D } σ H
theorem pss_nil : PSs X [] tNext := fun _ _ σ H _ I h => wpAny_execs_nil ⟨σ, H, I, h⟩
theorem pss_cons (h1 : PS X st t) (h2 : PSs X rest u) : PSs X (st :: rest) (tSeq t u) := by
  intro pins s σ H D I h
  refine wpAny_execs_cons (thn (h1 pins s σ H { D with nx := u D } I h) fun f s1 q => ?_)
  cases f with
  | next =>
    obtain ⟨σ', H', I', q⟩ := q
    exact h2 pins s1 σ' H' D I' q
  | ret v => exact q
  | brk => exact q
  | cont => exact q
theorem pss_one (h1 : PS X st t) : PSs X [st] t := by
  intro pins s σ H D I h
  refine wpAny_execs_cons (thn (h1 pins s σ H D I h) fun f s1 q => ?_)
  cases f with
  | next => exact wpAny_execs_nil q
  | ret v => exact q
  | brk => exact q
  | cont => exact q
theorem Inv.quiet {pins : List (Addr × Obj)} {σ : St} {H : Hp} {s : Shared} (I : Inv X pins σ H s) : interactive X.env = false := by simp [interactive, I.ok.kind]
def tDrop (te : TE) : TS := fun D σ H => te σ H fun _ H1 => D.nx σ H1
theorem ps_expr (he : PE X e te) (hs : swapsWith e none pos.line X.env = pure false := by rfl) : PS X (.Expr e pos) (tDrop te) := by
  intro pins s σ H D I h
  exact wpAny_Expr_any (thn (he pins s σ H _ I h) fun v s1 ⟨x, H1, I1, r1, q1⟩ => ⟨σ, H1, I1, q1⟩) I.quiet hs
def tRet (te : TE) : TS := fun D σ H => te σ H D.rt
theorem ps_ret (he : PE X e te) : PS X (.Return (some e) pos) (tRet te) := by
  intro pins s σ H D I h
  exact wpAny_Return_some (thn (he pins s σ H _ I h) fun v s1 ⟨x, H1, I1, r1, q1⟩ => ⟨x, σ, H1, I1, r1, q1⟩)
def tIfS (c : TT) (t u : TS) : TS := fun D σ H => c σ H fun b H1 => if b = true then t D σ H1 else u D σ H1
theorem ps_if {c : Expr} {a b : List Stmt} {tc : TT} (hc : PT X c tc) (ha : PSs X a t) (hb : PSs X b u) : PS X (.If c a b pos) (tIfS tc t u) := by
  intro pins s σ H D I h
  refine wpAny_If (thn (hc pins s σ H _ I h) fun d s1 ⟨H1, I1, q1⟩ => ?_)
  cases d with
  | true => exact ha pins s1 σ H1 D I1 q1
  | false => exact hb pins s1 σ H1 D I1 q1
end
abbrev TG := V → St → Hp → (St → Hp → Prop) → Prop
abbrev TGs := List V → St → Hp → (St → Hp → Prop) → Prop
def PG (X : Cx) (target : Expr) (t : TG) : Prop :=
  ∀ (pins : List (Addr × Obj)) (s : Shared) (σ : St) (H : Hp) (v : V) (u : Value) (Q : St → Hp → Prop), Inv X pins σ H s → RelV v u → t v σ H Q →
    wpAny (model X.prog X.w) X.A (assign target X.env u) (fun _ s' => ∃ σ' H', Inv X pins σ' H' s' ∧ Q σ' H') X.xe s
def PGs (X : Cx) (ts : List Expr) (t : TGs) : Prop :=
  ∀ (pins : List (Addr × Obj)) (s : Shared) (σ : St) (H : Hp) (vs : List V) (us : List Value) (Q : St → Hp → Prop), Inv X pins σ H s → Vals vs us → t vs σ H Q →
    wpAny (model X.prog X.w) X.A (assignInOrder ((assignEach ts X.env).map (·.2)) us) (fun _ s' => ∃ σ' H', Inv X pins σ' H' s' ∧ Q σ' H') X.xe s
abbrev TSet := V → V → V → Hp → (Hp → Prop) → Prop
def PSet (X : Cx) (t : TSet) : Prop :=
  ∀ (pins : List (Addr × Obj)) (s : Shared) (σ : St) (H : Hp) (o i v : V) (ov iv u : Value) (Q : Hp → Prop), Inv X pins σ H s → RelV o ov → RelV i iv → RelV v u → t o i v H Q →
    wpAny (model X.prog X.w) X.A (setItem ov iv u) (fun _ s' => ∃ H', Inv X pins σ H' s' ∧ Q H') X.xe s
abbrev TIp := V → V → Hp → VK → Prop
def PIp (X : Cx) (op : Operator) (t : TIp) : Prop :=
  ∀ (pins : List (Addr × Obj)) (s : Shared) (σ : St) (H : Hp) (x y : V) (v u : Value) (Q : VK), Inv X pins σ H s → RelV x v → RelV y u → t x y H Q →
    wpAny (model X.prog X.w) X.A (inplaceOp op v u) (EP X pins σ Q) X.xe s
section
variable {X : Cx} {pos : Pos}
def gName (i : Nat) : TG := fun v σ H Q => Q (σ.set i (some v)) H
theorem pg_name {i : Nat} {x : Str} (hN : X.N.Nodup) (hi : X.N[i]? = some x) (hx : Loc X.env.scope x) (hf : X.fn x = true ∨ X.env.scope.names.lookup x = some .local := by first | exact .inl rfl | exact .inr rfl | assumption) : PG X (.Name x pos) (gName i) := by
  intro pins s σ H v u Q I r h
  exact wpAny_assign_Name (store_ok I hN hi hx r (fun s' I' => ⟨_, H, I', h⟩) hf)
def gNil : TGs := fun vs σ H Q => vs = [] ∧ Q σ H
def gCons (t : TG) (u : TGs) : TGs := fun vs σ H Q => ∃ v r, vs = v :: r ∧ t v σ H fun σ' H' => u r σ' H' Q
theorem pgs_nil : PGs X [] gNil := by
  intro pins s σ H vs us Q I r h
  obtain ⟨e, h⟩ := h
  subst e
  cases r
  exact assignInOrder_nil ⟨σ, H, I, h⟩
theorem pgs_cons {e : Expr} {es : List Expr} {t : TG} {u : TGs} (h1 : PG X e t) (h2 : PGs X es u)
    (hs : (assignEach (e :: es) X.env).map (·.2) = assign e X.env :: (assignEach es X.env).map (·.2) := by rfl) : PGs X (e :: es) (gCons t u) := by
  intro pins s σ H vs us Q I r h
  obtain ⟨v, vr, e1, h⟩ := h
  subst e1
  cases r with
  | cons r rr =>
    rw [hs]
    refine assignInOrder_cons (thn (h1 pins s σ H _ _ _ I r h) fun _ s1 ⟨σ1, H1, I1, q1⟩ => ?_)
    exact h2 pins s1 σ1 H1 _ _ Q I1 rr q1
def gTup (K : PySem.W.Frag) (n : Nat) (t : TGs) : TG := fun v σ H Q => ∃ a xs, v = .ref a ∧ SqT K H a xs ∧ xs.length = n ∧ t xs σ H Q
theorem pg_tup {es : List Expr} {k : Nat} {t : TGs} {n : Nat} (hc : X.calm = true) (h : PGs X es t)
    (hn : (assignEach es X.env).length = n := by rfl) (hst : (assignEach es X.env).findIdx? (·.1) = none := by rfl) : PG X (.Tuple es k pos) (gTup X.K n t) := by
  intro pins s σ H v u Q I r hw
  obtain ⟨a, xs, e1, hq, hl, hw⟩ := hw
  subst e1
  cases r
  obtain ⟨its, rv, ht, hz⟩ := I.tuple hq
  refine assign_Tuple_tuple (I.ok.hd hc) ht (by simp [hn, ← hl, rv.length]) hst fun h' hx => ?_
  have I1 : Inv X pins σ H { s with heap := h' } := I.kept (t' := s.toks) fun b o e => hx b o (Nat.ne_of_lt (Heap.lt_size e)) e
  exact h pins _ σ H xs _ Q I1 (by simpa using rv) hw
def gSub (to ti : TE) (t : TSet) : TG := fun v σ H Q => to σ H fun o H1 => ti σ H1 fun i H2 => t o i v H2 fun H3 => Q σ H3
theorem pg_sub {o i : Expr} {to ti : TE} {t : TSet} (ho : PE X o to) (hi : PE X i ti) (hs : PSet X t)
    (ha : ∀ v, assign (.Subscript o i pos) X.env v = (do
      let ov ← holding [v] (eval o X.env)
      let iv ← holding [v, ov] (eval i X.env)
      standAt pos
      holding [v, ov, iv] (setItem ov iv v)
      release [v, ov, iv] []) := by intro _; rfl) : PG X (.Subscript o i pos) (gSub to ti t) := by
  intro pins s σ H v u Q I r h
  rw [ha]
  refine wpAny_bind (wpAny_holding (thn (ho pins s σ H _ I h) fun ov s1 ⟨x, H1, I1, r1, q1⟩ => ?_))
  refine wpAny_bind (wpAny_holding (thn (hi pins s1 σ H1 _ I1 q1) fun iv s2 ⟨y, H2, I2, r2, q2⟩ => ?_))
  refine wpAny_bind (wpAny_standAt (wpAny_bind (wpAny_holding (thn (hs pins s2 σ H2 x y v ov iv u _ I2 r1 r2 r q2) fun _ s3 ⟨H3, I3, q3⟩ => ?_))))
  exact wpAny_release ⟨σ, H3, I3, q3⟩
def tAsg (te : TE) (g : TG) : TS := fun D σ H => te σ H fun x H1 => g x σ H1 D.nx
theorem ps_asg {tg e : Expr} {te : TE} {g : TG} (he : PE X e te) (hg : PG X tg g) (hs : swapsWithSole [tg] e pos.line X.env = pure false := by rfl) (hw : swappedStores [tg] e X.env = pure none := by rfl)
    (h1 : (assignEach [tg] X.env).map (·.2) = [assign tg X.env] := by rfl) : PS X (.Assign [tg] e pos) (tAsg te g) := by
  intro pins s σ H D I h
  refine wpAny_Assign_stores (thn (he pins s σ H _ I h) fun v s1 ⟨x, H1, I1, r1, q1⟩ => ?_) hs hw
  rw [h1]
  exact thn (hg pins s1 σ H1 x v _ I1 r1 q1) fun _ s2 q => q
theorem ps_set {i : Nat} {x : Str} {e : Expr} {te : TE} {pos' : Pos} (hN : X.N.Nodup) (hi : X.N[i]? = some x) (hx : Loc X.env.scope x) (he : PE X e te) (hs : swapsWith e (some (.Name x pos')) pos.line X.env = pure false := by rfl) (hf : X.fn x = true ∨ X.env.scope.names.lookup x = some .local := by first | exact .inl rfl | exact .inr rfl | assumption) :
    PS X (.Assign [.Name x pos'] e pos) (tAsg te (gName i)) := by
  intro pins s σ H D I h
  refine wpAny_Assign_Name (thn (he pins s σ H _ I h) fun v s1 ⟨y, H1, I1, r1, q1⟩ => ?_) hs
  exact store_ok I1 hN hi hx r1 (fun s2 I2 => ⟨_, H1, I2, q1⟩) hf
def tAug (i : Nat) (te : TE) (ti : TIp) : TS := fun D σ H => ∃ x, σ[i]? = some (some x) ∧ te σ H fun y H1 => ti x y H1 fun z H2 => D.nx (σ.set i (some z)) H2
theorem ps_aug {i : Nat} {x : Str} {e : Expr} {te : TE} {op : Operator} {ti : TIp} {pos' : Pos} (hN : X.N.Nodup) (hi : X.N[i]? = some x) (hx : Loc X.env.scope x) (he : PE X e te) (ho : PIp X op ti) (hf : X.fn x = true ∨ X.env.scope.names.lookup x = some .local := by first | exact .inl rfl | exact .inr rfl | assumption) :
    PS X (.AugAssign (.Name x pos') op e pos) (tAug i te ti) := by
  intro pins s σ H D I h
  obtain ⟨v, e1, h⟩ := h
  obtain ⟨m, hn, hl⟩ := I.loc
  have vis : Vis X.env.scope x := by rcases hx with k | k; exact .inl k; exact .inr (.inl k)
  obtain ⟨u, r, l⟩ := hl i x v hi e1 vis
  refine wpAny_AugAssign_Name ?_
  have go : wpAny (model X.prog X.w) X.A (eval e X.env) (fun w s₂ => wpAny (model X.prog X.w) X.A (inplaceOp op u w) (fun r s₃ => wpAny (model X.prog X.w) X.A (storeName X.env x r) (fun _ => SP X pins D .next) X.xe s₃) X.xe s₂) X.xe s := by
    refine thn (he pins s σ H _ I h) fun w s1 ⟨y, H1, I1, r1, q1⟩ => ?_
    refine thn (ho pins s1 σ H1 v y u w _ I1 r r1 q1) fun z s2 ⟨zv, H2, I2, r2, q2⟩ => ?_
    exact store_ok I2 hN hi hx r2 (fun s3 I3 => ⟨_, H2, I3, q2⟩) hf
  rcases l with ⟨hk, hm⟩ | ⟨hk, c, hc, hcell⟩
  · exact wpAny_loadName_local I.ok.kind hk hn hm go
  · rcases hk with hk | hk
    · exact wpAny_loadName_cell I.ok.kind hk hc hcell go
    · rcases hx with k | k
      · have : X.env.scope.names.lookup x = some .free := hk
        rw [k] at this; cases this
      · have : X.env.scope.names.lookup x = some .free := hk
        rw [k] at this; cases this
end
section
variable {X : Cx} {pos : Pos}
end
structure It where
  go : Nat → Hp → Prop
  yld : Nat → Hp → V → Hp → Prop
  stop : Nat → Hp → Prop
def FpOk (X : Cx) (pins : List (Addr × Obj)) (H : Hp) (b : Addr) : Prop :=
  H b = none ∧ b ≠ X.env.locals ∧ b ∉ X.fs ∧ (b ∈ X.ex ∨ X.s₀.heap.objs.size ≤ b) ∧ (∀ x c, X.env.cells.lookup x = some c → c ≠ b) ∧ ∀ p ∈ X.pn ++ pins, p.1 ≠ b
theorem Inv.fpOk {X : Cx} {pins : List (Addr × Obj)} {σ : St} {H H' : Hp} {s : Shared} {b : Addr} (I : Inv X pins σ H s) (hb : s.heap.objs.size ≤ b) (hn : H' b = none) : FpOk X pins H' b := by
  refine ⟨hn, Nat.ne_of_gt (Nat.lt_of_lt_of_le I.lt hb), I.nofs hb, .inr (Nat.le_trans I.sz hb), fun x c e z => ?_, fun p hp z => ?_⟩
  · obtain ⟨v, q⟩ := I.cell x c e
    exact absurd (Nat.lt_of_lt_of_le q.lt (by rw [z]; exact hb)) (Nat.lt_irrefl _)
  · exact absurd (Nat.lt_of_lt_of_le (Heap.lt_size (I.pin p hp).1) (by rw [z]; exact hb)) (Nat.lt_irrefl _)
structure Turn (P : Program) (w : World) (K : PySem.W.Frag) (tg : Expr) (J : It) (fp : List Addr) (it : Addr) (tn : Nat → Heap → Prop) : Prop where
  mem : it ∈ fp
  obj : ∀ i h, tn i h → ∀ b ∈ fp, ∃ o, h.get? b = some o ∧ ∀ v, o.data ≠ .cell v
  keep : ∀ i h h', tn i h → (∀ b ∈ fp, ∀ o, h.get? b = some o → h'.get? b = some o) → tn i h'
  item : ∀ (X : Cx), X.prog = P → X.w = w → X.K = K → X.calm = true → ∀ (i : Nat) (pins : List (Addr × Obj)) (s : Shared) (σ : St) (H : Hp) (E : Value → Shared → Prop), Inv X pins σ H s → (∀ b ∈ fp, FpOk X pins H b) → tn i s.heap → J.go i H →
    wpAny (model P w) X.A (pyNext (.ref it)) (fun r s1 => ∃ u, r = some u ∧
      wpAny (model P w) X.A (letOwnedTupleGo tg (.ref it) u) (fun _ s2 => ∃ x H', Inv X pins σ H' s2 ∧ RelV x u ∧ J.yld i H x H' ∧ tn (i + 1) s2.heap ∧ ∀ b ∈ fp, H' b = none) E s1) E s
  done : ∀ (X : Cx), X.prog = P → X.w = w → X.K = K → X.calm = true → ∀ (i : Nat) (pins : List (Addr × Obj)) (s : Shared) (σ : St) (H : Hp) (E : Value → Shared → Prop), Inv X pins σ H s → (∀ b ∈ fp, FpOk X pins H b) → tn i s.heap → J.stop i H →
    wpAny (model P w) X.A (pyNext (.ref it)) (fun r s1 => r = none ∧ Inv X pins σ H s1) E s
  self : ∀ (A : Around) (i : Nat) (s : Shared) (Q : Value → Shared → Prop) (E : Value → Shared → Prop), tn i s.heap → Q (.ref it) s → wpAny (model P w) A (pyIter (.ref it)) Q E s
abbrev TI := St → Hp → (It → Hp → Prop) → Prop
def PIE (X : Cx) (pins : List (Addr × Obj)) (σ : St) (tg : Expr) (R : It → Hp → Prop) (itv : Value) (s2 : Shared) : Prop :=
  ∃ (it : Addr) (fp : List Addr) (tn : Nat → Heap → Prop) (J : It) (H' : Hp), itv = .ref it ∧ Inv X pins σ H' s2 ∧ Turn X.prog X.w X.K tg J fp it tn ∧ tn 0 s2.heap ∧ (∀ b ∈ fp, FpOk X pins H' b) ∧ R J H'
def PI (X : Cx) (tg iter : Expr) (wi : TI) : Prop :=
  ∀ (pins : List (Addr × Obj)) (s : Shared) (σ : St) (H : Hp) (R : It → Hp → Prop), Inv X pins σ H s → wi σ H R →
    wpAny (model X.prog X.w) X.A (eval iter X.env) (fun v s1 => wpAny (model X.prog X.w) X.A (pyIter v) (PIE X pins σ tg R) X.xe s1) X.xe s
theorem go_of {M : Model} {A : Around} {E : Value → Shared → Prop} {s : Shared} {tg : Expr} {it : Addr} {u : Value} {o : Obj} {n : String} {vs : Array Value} {Q : Unit → Shared → Prop} (ho : s.heap.get? it = some o) (hc : o.cls = .type n) (hd : o.data = .fields vs)
    (hn : ["enumerate", "zip", "dict_itemiterator", "dict_reverseitemiterator", "odict_iterator", "itertools.zip_longest", "itertools.pairwise"].contains n = false) (hQ : Q () s) : wpAny M A (letOwnedTupleGo tg (.ref it) u) Q E s := by
  unfold letOwnedTupleGo
  cases tg <;> first
    | exact wpAny_pure hQ
    | (cases u <;> first
        | exact wpAny_pure hQ
        | (refine wpAny_bind (wpAny_load ho ?_)
           rw [hc, hd]
           show wpAny M A (if (["enumerate", "zip", "dict_itemiterator", "dict_reverseitemiterator", "odict_iterator", "itertools.zip_longest", "itertools.pairwise"].contains n && vs[0]? == some (rawInt _)) = true then _ else _) Q E s
           rw [if_neg (by intro h; rw [hn, Bool.false_and] at h; cases h)]
           exact wpAny_pure hQ))
def Itl (K : PySem.W.Frag) (a : Addr) : It :=
  ⟨fun i H => ∃ xs x, SqL K H a xs ∧ xs[i]? = some x, fun i H x H' => H' = H ∧ ∀ xs, SqL K H a xs → xs[i]? = some x, fun i H => ∃ xs, SqL K H a xs ∧ xs.length ≤ i⟩
def Itt (K : PySem.W.Frag) (a : Addr) : It :=
  ⟨fun i H => ∃ xs x, SqT K H a xs ∧ xs[i]? = some x, fun i H x H' => H' = H ∧ ∀ xs, SqT K H a xs → xs[i]? = some x, fun i H => ∃ xs, SqT K H a xs ∧ xs.length ≤ i⟩
def Itr (lo : Int) (n : Nat) : It := ⟨fun i _ => i < n, fun i H x H' => H' = H ∧ x = .int (lo + i), fun i _ => n ≤ i⟩
theorem turn_list {P : Program} {w : World} {K : PySem.W.Frag} {tg : Expr} (a it : Addr) : Turn P w K tg (Itl K a) [it] it (fun i h => h.IsListIter it a i) where
  mem := by simp
  obj := fun i h st b hb => by
    have e : b = it := by simpa using hb
    subst e
    obtain ⟨o, e, c, d⟩ := st
    exact ⟨o, e, fun v z => by rw [d] at z; cases z⟩
  keep := fun i h h' st k => st.at fun o e => k it (by simp) o e
  item := by
    intro X hP hw hK hc i pins s σ H E I hf st hg
    subst hP hw hK
    obtain ⟨xs, x, hq, hx⟩ := hg
    obtain ⟨its, rv, p, hz⟩ := I.list hq
    obtain ⟨u, hu, ru⟩ := rv.get hx
    obtain ⟨f0, f1, f2, f3, f4, f5⟩ := hf it (by simp)
    refine wpAny_pyNext_list_item st p.isList (x := u) (by simpa using hu) fun h' st' sb => ?_
    have I1 : Inv X pins σ H { s with heap := h' } := I.turned (t' := s.toks) (fun b o hb e => (sb.2 b hb).trans e) f0 f1 f3 f4 f5
    obtain ⟨o, e, c, d⟩ := id st'
    exact ⟨u, rfl, go_of (s := { s with heap := h' }) e c d (by decide) ⟨x, H, I1, ru, ⟨rfl, fun ys hy => by rw [I.list_inj hy hq]; exact hx⟩, st', fun b hb => (hf b hb).1⟩⟩
  done := by
    intro X hP hw hK hc i pins s σ H E I hf st hg
    subst hP hw hK
    obtain ⟨xs, hq, hx⟩ := hg
    obtain ⟨its, rv, p, hz⟩ := I.list hq
    obtain ⟨f0, f1, f2, f3, f4, f5⟩ := hf it (by simp)
    have hl := rv.length
    exact wpAny_pyNext_list_end (I.ok.hd hc) st p.isList (by simp; omega) fun h' eb => ⟨rfl, I.turned (t' := s.toks) (fun b o hb e => eb b o hb e) f0 f1 f3 f4 f5⟩
  self := fun _ _ _ _ _ st h => wpAny_pyIter_listiter st h
theorem turn_tuple {P : Program} {w : World} {K : PySem.W.Frag} {tg : Expr} (a it : Addr) : Turn P w K tg (Itt K a) [it] it (fun i h => h.IsTupleIter it a i) where
  mem := by simp
  obj := fun i h st b hb => by
    have e : b = it := by simpa using hb
    subst e
    obtain ⟨o, e, c, d⟩ := st
    exact ⟨o, e, fun v z => by rw [d] at z; cases z⟩
  keep := fun i h h' st k => st.at fun o e => k it (by simp) o e
  item := by
    intro X hP hw hK hc i pins s σ H E I hf st hg
    subst hP hw hK
    obtain ⟨xs, x, hq, hx⟩ := hg
    obtain ⟨its, rv, p, hz⟩ := I.tuple hq
    obtain ⟨u, hu, ru⟩ := rv.get hx
    obtain ⟨f0, f1, f2, f3, f4, f5⟩ := hf it (by simp)
    refine wpAny_pyNext_tuple_item st (show s.heap.IsTuple a its.toArray from p) (x := u) (by simpa using hu) fun h' st' sb => ?_
    have I1 : Inv X pins σ H { s with heap := h' } := I.turned (t' := s.toks) (fun b o hb e => (sb.2 b hb).trans e) f0 f1 f3 f4 f5
    obtain ⟨o, e, c, d⟩ := id st'
    exact ⟨u, rfl, go_of (s := { s with heap := h' }) e c d (by decide) ⟨x, H, I1, ru, ⟨rfl, fun ys hy => by rw [I.tuple_inj hy hq]; exact hx⟩, st', fun b hb => (hf b hb).1⟩⟩
  done := by
    intro X hP hw hK hc i pins s σ H E I hf st hg
    subst hP hw hK
    obtain ⟨xs, hq, hx⟩ := hg
    obtain ⟨its, rv, p, hz⟩ := I.tuple hq
    obtain ⟨f0, f1, f2, f3, f4, f5⟩ := hf it (by simp)
    have hl := rv.length
    exact wpAny_pyNext_tuple_end (I.ok.hd hc) st (show s.heap.IsTuple a its.toArray from p) (by simp; omega) fun h' eb => ⟨rfl, I.turned (t' := s.toks) (fun b o hb e => eb b o hb e) f0 f1 f3 f4 f5⟩
  self := fun _ _ _ _ _ st h => wpAny_pyIter_tupleiter st h
theorem turn_range {P : Program} {w : World} {K : PySem.W.Frag} {tg : Expr} (it : Addr) (lo : Int) (n : Nat) : Turn P w K tg (Itr lo n) [it] it (fun i h => IsRangeIter h it (lo + (i : Nat) * 1) ((n : Int) - (i : Nat)) 1) where
  mem := by simp
  obj := fun i h st b hb => by
    have e : b = it := by simpa using hb
    subst e
    exact ⟨_, st, fun v z => by
      have z' : Data.fields _ = Data.cell v := z
      cases z'⟩
  keep := fun i h h' st k => k it (by simp) _ st
  item := by
    intro X hP hw hK hc i pins s σ H E I hf st hg
    subst hP hw hK
    obtain ⟨f0, f1, f2, f3, f4, f5⟩ := hf it (by simp)
    have W := Walks.range (prog := X.prog) (w := X.w) (I.ok.hd hc) it lo 1 n
    refine W.item i s _ _ hg st fun v h' tk hv st' kk => ?_
    obtain ⟨t, rfl⟩ := hv
    have I1 : Inv X pins σ H { s with heap := h', toks := tk } := I.turned (fun b o hb e => kk b o (by simpa using hb) e) f0 f1 f3 f4 f5
    refine ⟨_, rfl, go_of (s := { s with heap := h', toks := tk }) (n := "range_iterator") st' rfl rfl (by decide) ⟨.int (lo + i), H, I1, ⟨t, ?_⟩, ⟨rfl, rfl⟩, st', fun b hb => (hf b hb).1⟩⟩
    rw [Int.mul_one]
  done := by
    intro X hP hw hK hc i pins s σ H E I hf st hg
    subst hP hw hK
    obtain ⟨f0, f1, f2, f3, f4, f5⟩ := hf it (by simp)
    exact wpAny_pyNext_range_end (I.ok.hd hc) st (by have : n ≤ i := hg; omega) fun h' eb => ⟨rfl, I.turned (t' := s.toks) (fun b o hb e => eb b o hb e) f0 f1 f3 f4 f5⟩
  self := fun _ _ _ _ _ st h => wpAny_pyIter_rangeiter st h
end L2
namespace L2
open PySem PySem.Spec PyProof.Rows
section
variable {X : Cx} {tg : Expr}
theorem range_it {pins : List (Addr × Obj)} {σ : St} {H : Hp} {s : Shared} {R : It → Hp → Prop} {E : Value → Shared → Prop} {lo hi : Int} {t u v : Tok} {tk : Nat} (I : Inv X pins σ H s) (h1 : -(2 ^ 62) ≤ lo) (h2 : lo < 2 ^ 62) (h3 : -(2 ^ 62) ≤ hi) (h4 : hi < 2 ^ 62)
    (q : R (Itr lo (hi - lo).toNat) H) : wpAny (model X.prog X.w) X.A (pyIter (.ref s.heap.objs.size)) (PIE X pins σ tg R) E { s with heap := s.heap.push { cls := .type "range", data := .fields #[.int lo t, .int hi u, .int 1 v] }, toks := tk } := by
  refine wpAny_pyIter_range (IsRange.new ..) (small_one h1 h2 h3 h4) ?_
  have I1 : Inv X pins σ H { s with heap := s.heap.push { cls := .type "range", data := .fields #[.int lo t, .int hi u, .int 1 v] }, toks := tk } := I.kept fun b o e => Heap.get?_push_of_some _ e
  refine ⟨(s.heap.push { cls := .type "range", data := .fields #[.int lo t, .int hi u, .int 1 v] }).objs.size, [(s.heap.push { cls := .type "range", data := .fields #[.int lo t, .int hi u, .int 1 v] }).objs.size], _, _, H, rfl,
    I1.kept (t' := tk) fun b o e => Heap.get?_push_of_some _ e, turn_range _ lo (hi - lo).toNat, ?_, fun b hb => ?_, q⟩
  · have e1 : lo + ((0 : Nat) : Int) * 1 = lo := by simp
    have e2 : (((hi - lo).toNat : Nat) : Int) - ((0 : Nat) : Int) = Builtin.Range.rangeSize lo hi 1 := by rw [rangeSize_one]; split <;> omega
    show IsRangeIter _ _ (lo + ((0 : Nat) : Int) * 1) ((((hi - lo).toNat : Nat) : Int) - ((0 : Nat) : Int)) 1
    rw [e1, e2]
    exact Heap.get?_push_size _ rfl
  · have e : b = (s.heap.push { cls := .type "range", data := .fields #[.int lo t, .int hi u, .int 1 v] }).objs.size := by simpa using hb
    subst e
    exact I1.fpOk (Nat.le_refl _) (I1.hok.fresh (Nat.le_refl _))
def iRng1 (ta : TA) : TI := fun σ H R => ta σ H fun vs H1 => ∃ j : Int, vs = [.int j] ∧ -(2 ^ 62) ≤ j ∧ j < 2 ^ 62 ∧ R (Itr 0 j.toNat) H1
def iRng2 (ta : TA) : TI := fun σ H R => ta σ H fun vs H1 => ∃ i j : Int, vs = [.int i, .int j] ∧ (-(2 ^ 62) ≤ i ∧ i < 2 ^ 62 ∧ -(2 ^ 62) ≤ j ∧ j < 2 ^ 62) ∧ R (Itr i (j - i).toNat) H1
theorem pi_range1 {a : Expr} {ta : TA} {p pos : Pos} (hg : Gl X "range") (hm : X.mg "range" = none) (ha : PA X [a] ta) (hs : starEach [a] X.env = [(false, eval a X.env)] := by rfl) : PI X tg (.Call (.Name "range" p) [a] [] pos) (iRng1 ta) := by
  intro pins s σ H R I h
  refine Call_ (ld_blt I hg hm boot_range (PyProof.Rows.callWith_type1 (thn (ha pos pins s σ H _ I h) fun us s1 ⟨vs, H1, I1, r1, q1⟩ => ?_) hs rfl))
  obtain ⟨j, e, q1, q2, q⟩ := q1
  subst e
  cases r1 with
  | cons r rr =>
    cases rr
    obtain ⟨t, rfl⟩ := r
    exact call_range_1 (range_it I1 (by omega) (by omega) q1 q2 (by simpa using q))
theorem pi_range2 {a b : Expr} {ta : TA} {p pos : Pos} (hg : Gl X "range") (hm : X.mg "range" = none) (ha : PA X [a, b] ta) (hs : starEach [a, b] X.env = [(false, eval a X.env), (false, eval b X.env)] := by rfl) (hs2 : starEach [b] X.env = [(false, eval b X.env)] := by rfl) :
    PI X tg (.Call (.Name "range" p) [a, b] [] pos) (iRng2 ta) := by
  intro pins s σ H R I h
  refine Call_ (ld_blt I hg hm boot_range (PyProof.Rows.callWith_type1 (thn (ha pos pins s σ H _ I h) fun us s1 ⟨vs, H1, I1, r1, q1⟩ => ?_) (by rw [hs, hs2]) (by rw [hs2]; rfl)))
  obtain ⟨i, j, e, ⟨q1, q2, q3, q4⟩, q⟩ := q1
  subst e
  cases r1 with
  | cons r rr =>
    cases rr with
    | cons r' rr =>
      cases rr
      obtain ⟨t, rfl⟩ := r
      obtain ⟨t', rfl⟩ := r'
      exact call_range_2 (range_it I1 q1 q2 q3 q4 q)
def tFor (wi : TI) (g : TG) (tb : TS) : TS := fun D σ H => wi σ H fun J H1 => ∃ W : Nat → Nat → St → Hp → Prop, (∃ m, W 0 m σ H1) ∧ ∀ i m σ H, W i m σ H →
  (J.stop i H ∧ D.nx σ H) ∨ (J.go i H ∧ ∃ N : St → Hp → Prop, (∀ σ' H', N σ' H' → ∃ m', m' < m ∧ W (i + 1) m' σ' H') ∧ ∀ x H', J.yld i H x H' → g x σ H' fun σ2 H2 => tb { D with nx := N, ct := N, bk := D.nx } σ2 H2)
def pinsAt (fp : List Addr) (h : Heap) : List (Addr × Obj) := fp.filterMap fun b => (h.get? b).map fun o => (b, o)
theorem mem_pinsAt {fp : List Addr} {h : Heap} {b : Addr} {o : Obj} (hb : b ∈ fp) (e : h.get? b = some o) : (b, o) ∈ pinsAt fp h := List.mem_filterMap.mpr ⟨b, hb, by rw [e]; rfl⟩
theorem of_pinsAt {fp : List Addr} {h : Heap} {p : Addr × Obj} (hp : p ∈ pinsAt fp h) : p.1 ∈ fp ∧ h.get? p.1 = some p.2 := by
  obtain ⟨b, hb, e⟩ := List.mem_filterMap.mp hp
  cases q : h.get? b with
  | none => rw [q] at e; cases e
  | some o =>
    rw [q] at e
    have e' : (b, o) = p := Option.some.inj e
    subst e'
    exact ⟨hb, q⟩
theorem Inv.pinned {pins : List (Addr × Obj)} {σ : St} {H : Hp} {s : Shared} {fp : List Addr} (I : Inv X pins σ H s) (hf : ∀ b ∈ fp, FpOk X pins H b) (ho : ∀ b ∈ fp, ∃ o, s.heap.get? b = some o ∧ ∀ v, o.data ≠ .cell v) : Inv X (pins ++ pinsAt fp s.heap) σ H s :=
  I.pins_of fun p hp => (List.mem_append.mp hp).elim (fun z => I.pin p (List.mem_append_right _ z)) fun z => by
    obtain ⟨hb, e⟩ := of_pinsAt z
    obtain ⟨f0, f1, f2, _⟩ := hf p.1 hb
    obtain ⟨o, e', d⟩ := ho p.1 hb
    rw [e] at e'; cases e'
    exact ⟨e, f0, f1, f2, d⟩
theorem Inv.unpinned {pins pl : List (Addr × Obj)} {σ : St} {H : Hp} {s : Shared} (I : Inv X (pins ++ pl) σ H s) : Inv X pins σ H s := I.pins_of fun p hp => I.pin p (List.mem_append_right _ (List.mem_append_left _ hp))
theorem ps_for {iter : Expr} {body : List Stmt} {wi : TI} {g : TG} {tb : TS} {pos : Pos} (hp : PassesOwn (model X.prog X.w) X.A X.env X.xe) (hc : X.calm = true) (hi : PI X tg iter wi) (hg : PG X tg g) (hb : PSs X body tb)
    (hs : ∀ x, foldedSetIterable iter X.env x = pure x := by intro _; rfl) : PS X (.For tg iter body [] pos) (tFor wi g tb) := by
  intro pins s σ H D I h
  refine wpAny_For (thn (hi pins s σ H _ I h) fun v s1 h1 => thn h1 fun itv s2 h2 => ?_) hs
  obtain ⟨it, fp, tn, J, H2, e, I2, T, st2, f2, W, ⟨m0, w0⟩, turn⟩ := h2
  subst e
  have stat : ∀ {H' : Hp}, (∀ b ∈ fp, H' b = none) → ∀ b ∈ fp, FpOk X pins H' b := fun hn b hb => ⟨hn b hb, (f2 b hb).2⟩
  refine codeAny_forLoop_any (fun n s' => ∃ i σ' H', Inv X pins σ' H' s' ∧ tn i s'.heap ∧ (∀ b ∈ fp, H' b = none) ∧ W i n σ' H') ?_ m0 ⟨0, σ, H2, I2, st2, fun b hb => (f2 b hb).1, w0⟩
  rintro n s3 ⟨i, σ3, H3, I3, st3, fr3, w3⟩
  rcases turn i n σ3 H3 w3 with ⟨stop, qn⟩ | ⟨go, N, hN, step⟩
  · refine wpAny_passesOwn hp (thn (T.done X rfl rfl rfl hc i pins s3 σ3 H3 X.xe I3 (stat fr3) st3 stop) fun r s4 ⟨hr, I4⟩ => ?_)
    subst hr
    exact wpAny_execs_nil ⟨σ3, H3, I4, qn⟩
  · refine wpAny_passesOwn hp (thn (T.item X rfl rfl rfl hc i pins s3 σ3 H3 X.xe I3 (stat fr3) st3 go) fun r s4 ⟨u, hr, h4⟩ => ?_)
    subst hr
    refine wpAny_passesOwn hp (thn h4 fun _ s5 ⟨x, H5, I5, r5, y5, st5, fr5⟩ => ?_)
    have I5' := I5.pinned (stat fr5) (T.obj _ _ st5)
    refine wpAny_passesOwn hp (thn (hg _ s5 σ3 H5 x u _ I5' r5 (step x H5 y5)) fun _ s6 ⟨σ6, H6, I6, q6⟩ => ?_)
    refine wpAny_passesOwn hp (thn (hb _ s6 σ6 H6 _ I6 q6) fun f s7 q7 => ?_)
    have again : ∀ {σ7 : St} {H7 : Hp}, Inv X (pins ++ pinsAt fp s5.heap) σ7 H7 s7 → N σ7 H7 → ∃ m, m < n ∧ ∃ i σ' H', Inv X pins σ' H' s7 ∧ tn i s7.heap ∧ (∀ b ∈ fp, H' b = none) ∧ W i m σ' H' := fun {σ7 H7} I7 n7 => by
      obtain ⟨m', hm, w7⟩ := hN σ7 H7 n7
      refine ⟨m', hm, i + 1, σ7, H7, I7.unpinned, T.keep _ _ _ st5 fun b hb o e => (I7.pin (b, o) (List.mem_append_right _ (List.mem_append_right _ (mem_pinsAt hb e)))).1, fun b hb => ?_, w7⟩
      obtain ⟨o, e, d⟩ := T.obj _ _ st5 b hb
      exact (I7.pin (b, o) (List.mem_append_right _ (List.mem_append_right _ (mem_pinsAt hb e)))).2.1
    cases f with
    | next => obtain ⟨σ7, H7, I7, n7⟩ := q7; exact again I7 n7
    | cont => obtain ⟨σ7, H7, I7, n7⟩ := q7; exact again I7 n7
    | brk => obtain ⟨σ7, H7, I7, q7⟩ := q7; exact ⟨σ7, H7, I7.unpinned, q7⟩
    | ret v => obtain ⟨x7, σ7, H7, I7, r7, q7⟩ := q7; exact ⟨x7, σ7, H7, I7.unpinned, r7, q7⟩
end
end L2
namespace L2
open PySem PySem.Spec PyProof.Rows
abbrev R2 := V → V → Hp → VK → Prop
def OpR (X : Cx) (f : Value → Value → Sem Value) (r : R2) : Prop :=
  ∀ (pins : List (Addr × Obj)) (s : Shared) (σ : St) (H : Hp) (x y : V) (v u : Value) (Q : VK), Inv X pins σ H s → RelV x v → RelV y u → r x y H Q →
    wpAny (model X.prog X.w) X.A (f v u) (EP X pins σ Q) X.xe s
def UnR (X : Cx) (f : Value → Sem Value) (r : V → Hp → VK → Prop) : Prop :=
  ∀ (pins : List (Addr × Obj)) (s : Shared) (σ : St) (H : Hp) (x : V) (v : Value) (Q : VK), Inv X pins σ H s → RelV x v → r x H Q →
    wpAny (model X.prog X.w) X.A (f v) (EP X pins σ Q) X.xe s
def CallR (X : Cx) (f : Value) (r : List V → Hp → VK → Prop) : Prop :=
  ∀ (pins : List (Addr × Obj)) (s : Shared) (σ : St) (H : Hp) (xs : List V) (us : List Value) (Q : VK), Inv X pins σ H s → Vals xs us → r xs H Q →
    wpAny (model X.prog X.w) X.A (call f us) (EP X pins σ Q) X.xe s
def TruR (X : Cx) (r : V → Hp → (Bool → Hp → Prop) → Prop) : Prop :=
  ∀ (pins : List (Addr × Obj)) (s : Shared) (σ : St) (H : Hp) (x : V) (v : Value) (Q : Bool → Hp → Prop), Inv X pins σ H s → RelV x v → r x H Q →
    wpAny (model X.prog X.w) X.A (truthy v) (TP X pins σ Q) X.xe s
def tOp (r : R2) (ta tb : TE) : TE := fun σ H Q => ta σ H fun x H1 => tb σ H1 fun y H2 => r x y H2 Q
def tUn (r : V → Hp → VK → Prop) (ta : TE) : TE := fun σ H Q => ta σ H fun x H1 => r x H1 Q
def rI (C : Int → Int → Prop) (g : Int → Int → V) : R2 := fun x y H Q => ∃ i j, x = .int i ∧ y = .int j ∧ C i j ∧ Q (g i j) H
def rI0 (g : Int → Int → V) : R2 := fun x y H Q => ∃ i j, x = .int i ∧ y = .int j ∧ Q (g i j) H
def rU (g : Int → V) : V → Hp → VK → Prop := fun x H Q => ∃ i, x = .int i ∧ Q (g i) H
section
variable {X : Cx} {a b c : Expr} {ta tb tc : TE} {pos : Pos}
theorem binT (ha : PE X a ta) (hb : PE X b tb) {pins : List (Addr × Obj)} {s : Shared} {σ : St} {H : Hp} {R : V → V → Hp → Prop} (I : Inv X pins σ H s)
    (h : ta σ H fun x H1 => tb σ H1 fun y H2 => R x y H2) {Q : Value → Shared → Prop} {f : Value → Value → Sem Value}
    (hf : ∀ v u s2 x y H2, Inv X pins σ H2 s2 → RelV x v → RelV y u → R x y H2 → wpAny (model X.prog X.w) X.A (f v u) Q X.xe s2) :
    wpAny (model X.prog X.w) X.A (eval a X.env) (fun v s₁ => wpAny (model X.prog X.w) X.A (eval b X.env) (fun u s₂ => wpAny (model X.prog X.w) X.A (f v u) Q X.xe s₂) X.xe s₁) X.xe s := by
  refine thn (ha pins s σ H _ I h) fun v s1 ⟨x, H1, I1, r1, q1⟩ => ?_
  refine thn (hb pins s1 σ H1 _ I1 q1) fun u s2 ⟨y, H2, I2, r2, q2⟩ => ?_
  exact hf v u s2 x y H2 I2 r1 r2 q2
theorem pe_op {op : Operator} {r : R2} (ho : OpR X (binaryOp op) r) (ha : PE X a ta) (hb : PE X b tb) : PE X (.BinOp a op b pos) (tOp r ta tb) := by
  intro pins s σ H Q I h
  exact wpAny_BinOp (binT ha hb I h fun v u s2 x y H2 I2 rx ry q => ho pins s2 σ H2 x y v u Q I2 rx ry q)
theorem pe_un {op : UnaryOp} {r : V → Hp → VK → Prop} (ho : UnR X (unaryOp op) r) (ha : PE X a ta) : PE X (.UnaryOp op a pos) (tUn r ta) := by
  intro pins s σ H Q I h
  exact UnaryOp_ (thn (ha pins s σ H _ I h) fun v s1 ⟨x, H1, I1, r1, q1⟩ => ho pins s1 σ H1 x v Q I1 r1 q1)
theorem opI {f : Value → Value → Sem Value} {C : Int → Int → Prop} {g : Int → Int → Int}
    (rule : ∀ (i j : Int) (t u : Tok) (s : Shared) (Q : Value → Shared → Prop) (E : Value → Shared → Prop), C i j → Q (.int (g i j) s.toks) { s with toks := s.toks + 1 } → wpAny (model X.prog X.w) X.A (f (.int i t) (.int j u)) Q E s) :
    OpR X f (rI C fun i j => .int (g i j)) := by
  intro pins s σ H x y v u Q I rx ry h
  obtain ⟨i, j, rfl, rfl, hc, q⟩ := h
  obtain ⟨t, rfl⟩ := rx
  obtain ⟨t', rfl⟩ := ry
  exact rule i j t t' s _ _ hc ⟨.int (g i j), H, I.tok _, ⟨_, rfl⟩, q⟩
theorem opI0 {f : Value → Value → Sem Value} {g : Int → Int → Int}
    (rule : ∀ (i j : Int) (t u : Tok) (s : Shared) (Q : Value → Shared → Prop) (E : Value → Shared → Prop), Q (.int (g i j) s.toks) { s with toks := s.toks + 1 } → wpAny (model X.prog X.w) X.A (f (.int i t) (.int j u)) Q E s) :
    OpR X f (rI0 fun i j => .int (g i j)) := by
  intro pins s σ H x y v u Q I rx ry h
  obtain ⟨i, j, rfl, rfl, q⟩ := h
  obtain ⟨t, rfl⟩ := rx
  obtain ⟨t', rfl⟩ := ry
  exact rule i j t t' s _ _ ⟨.int (g i j), H, I.tok _, ⟨_, rfl⟩, q⟩
theorem opB0 {f : Value → Value → Sem Value} {g : Int → Int → Bool}
    (rule : ∀ (i j : Int) (t u : Tok) (s : Shared) (Q : Value → Shared → Prop) (E : Value → Shared → Prop), Q (.bool (g i j)) s → wpAny (model X.prog X.w) X.A (f (.int i t) (.int j u)) Q E s) :
    OpR X f (rI0 fun i j => .bl (g i j)) := by
  intro pins s σ H x y v u Q I rx ry h
  obtain ⟨i, j, rfl, rfl, q⟩ := h
  obtain ⟨t, rfl⟩ := rx
  obtain ⟨t', rfl⟩ := ry
  exact rule i j t t' s _ _ ⟨.bl (g i j), H, I, rfl, q⟩
def CPow (i j : Int) : Prop := 0 ≤ j ∧ j ≤ 1000000 ∧ i.natAbs < 2 ^ 64
def CMul (i j : Int) : Prop := (-(2 ^ 64) < i ∧ i < 2 ^ 64) ∨ (-(2 ^ 64) < j ∧ j < 2 ^ 64)
theorem CMul.ok {i j : Int} (h : CMul i j) : IntMulOk i j := by
  rcases h with ⟨h1, h2⟩ | ⟨h1, h2⟩
  · exact .of_left (intBits_le_64 h1 h2)
  · exact .of_right (intBits_le_64 h1 h2)
theorem op_add : OpR X (binaryOp .Add) (rI0 fun i j => .int (i + j)) := opI0 fun _ _ _ _ _ _ _ q => add_int q
theorem op_sub : OpR X (binaryOp .Sub) (rI0 fun i j => .int (i - j)) := opI0 fun _ _ _ _ _ _ _ q => sub_int q
theorem op_mod : OpR X (binaryOp .Mod) (rI (fun _ j => 0 < j) fun i j => .int (i % j)) := opI fun i j _ _ _ _ _ hc q => by
  have h1 : (0 : Int) < j := hc
  exact mod_int' (by omega) (by rw [Int.fmod_eq_emod_of_nonneg i (by omega)]; exact q)
theorem op_pow : OpR X (binaryOp .Pow) (rI CPow fun i j => .int (i ^ j.toNat)) := opI fun _ _ _ _ _ _ _ hc q => pow_int_small hc.1 hc.2.1 hc.2.2 q
theorem iop_add : OpR X (inplaceOp .Add) (rI0 fun i j => .int (i + j)) := opI0 fun _ _ _ _ _ _ _ q => iadd_int q
theorem unI {f : Value → Sem Value} {g : Int → Int}
    (rule : ∀ (i : Int) (t : Tok) (s : Shared) (Q : Value → Shared → Prop) (E : Value → Shared → Prop), Q (.int (g i) s.toks) { s with toks := s.toks + 1 } → wpAny (model X.prog X.w) X.A (f (.int i t)) Q E s) :
    UnR X f (rU fun i => .int (g i)) := by
  intro pins s σ H x v Q I rx h
  obtain ⟨i, rfl, q⟩ := h
  obtain ⟨t, rfl⟩ := rx
  exact rule i t s _ _ ⟨.int (g i), H, I.tok _, ⟨_, rfl⟩, q⟩
theorem un_neg : UnR X (unaryOp .USub) (rU fun i => .int (-i)) := unI fun _ _ _ _ _ q => neg_int q
end
section
variable {X : Cx} {a b c : Expr} {ta tb tc : TE} {pos : Pos}
theorem fin_bl {pins : List (Addr × Obj)} {σ : St} {H : Hp} {s : Shared} {Q : VK} {k k' : Bool} (I : Inv X pins σ H s) (q : Q (.bl k) H) (e : k = k') : EP X pins σ Q (.bool k') s := by
  subst e
  exact ⟨.bl k, H, I, rfl, q⟩
theorem op_lt : OpR X (compareOp .Lt) (rI0 fun i j => .bl (decide (i < j))) := opB0 fun _ _ _ _ _ _ _ q => lt_int q
theorem op_le : OpR X (compareOp .LtE) (rI0 fun i j => .bl (decide (i ≤ j))) := opB0 fun _ _ _ _ _ _ _ q => le_int q
theorem op_gt : OpR X (compareOp .Gt) (rI0 fun i j => .bl (decide (j < i))) := opB0 fun _ _ _ _ _ _ _ q => gt_int q
theorem op_isN : OpR X (compareOp .Is) (fun x y H Q => y = .non ∧ Q (.bl (decide (x = .non))) H) := by
  intro pins s σ H x y v u Q I rx ry h
  obtain ⟨rfl, q⟩ := h
  cases ry
  refine is_none_gen (fin_bl I q ?_)
  cases x <;> first
    | (cases rx; rfl)
    | (obtain ⟨t, rfl⟩ := rx; rfl)
theorem OpR.or {f : Value → Value → Sem Value} {r r' : R2} (h : OpR X f r) (h' : OpR X f r') : OpR X f (fun x y H Q => r x y H Q ∨ r' x y H Q) := by
  intro pins s σ H x y v u Q I rx ry q
  rcases q with q | q
  · exact h pins s σ H x y v u Q I rx ry q
  · exact h' pins s σ H x y v u Q I rx ry q
theorem nomark (b : Expr) {op : CmpOp} (h : op ≠ .In := by decide) (h2 : op ≠ .NotIn := by decide) : behindInMarks op b = false := by
  have e1 : (op == CmpOp.In) = false := by cases op <;> first | rfl | exact absurd rfl h
  have e2 : (op == CmpOp.NotIn) = false := by cases op <;> first | rfl | exact absurd rfl h2
  cases b <;> simp [behindInMarks, e1, e2]
theorem pe_cmpR {op : CmpOp} {r : R2} (ho : OpR X (compareOp op) r) (ha : PE X a ta) (hb : PE X b tb) (hm : behindInMarks op b = false) : PE X (.Compare a [op] [b] pos) (tOp r ta tb) := by
  intro pins s σ H Q I h
  exact wpAny_Compare1 (binT ha hb I h fun v u s2 x y H2 I2 rx ry q => ho pins s2 σ H2 x y v u Q I2 rx ry q) hm
def tTest (t : TE) : TT := fun σ H Q => t σ H fun x H' => ∃ k, x = .bl k ∧ Q k H'
theorem pt_cmpR {op : CmpOp} {r : R2} (ho : OpR X (compareOp op) r) (ha : PE X a ta) (hb : PE X b tb) (hm : behindInMarks op b = false) : PT X (.Compare a [op] [b] pos) (tTest (tOp r ta tb)) := by
  intro pins s σ H Q I h
  refine wpAny_isTrue_Compare1 (thn (ha pins s σ H _ I h) fun v s1 ⟨x, H1, I1, r1, q1⟩ => thn (hb pins s1 σ H1 _ I1 q1) fun u s2 ⟨y, H2, I2, r2, q2⟩ =>
    thn (ho pins s2 σ H2 x y v u _ I2 r1 r2 q2) fun c s3 ⟨z, H3, I3, r3, k, e, q3⟩ => ?_) hm
  subst e
  cases r3
  exact wpAny_truthy_bool ⟨H3, I3, q3⟩
def tChain (r r' : R2) (ta tb tc : TE) : TE := fun σ H Q => ta σ H fun x H1 => tb σ H1 fun y H2 => r x y H2 fun z H3 => ∃ k, z = .bl k ∧
  (if k = true then tc σ H3 fun w' H4 => r' y w' H4 Q else Q (.bl false) H3)
theorem pe_chain {op op' : CmpOp} {r r' : R2} (ho : OpR X (compareOp op) r) (ho' : OpR X (compareOp op') r') (ha : PE X a ta) (hb : PE X b tb) (hc : PE X c tc)
    (hm : lastMarks [op, op'] [b, c] = false := by with_unfolding_all rfl) : PE X (.Compare a [op, op'] [b, c] pos) (tChain r r' ta tb tc) := by
  intro pins s σ H Q I h
  refine Compare_chain (thn (ha pins s σ H _ I h) fun v s1 ⟨x, H1, I1, r1, q1⟩ => chain_link (thn (hb pins s1 σ H1 _ I1 q1) fun u s2 ⟨y, H2, I2, r2, q2⟩ =>
    thn (ho pins s2 σ H2 x y v u _ I2 r1 r2 q2) fun d s3 ⟨z, H3, I3, r3, k, e, q3⟩ => ?_)) hm
  subst e
  cases r3
  refine wpAny_truthy_bool ?_
  cases k with
  | false => exact ite_ff ⟨.bl false, H3, I3, rfl, q3⟩
  | true => exact ite_tt (chain_last (thn (hc pins s3 σ H3 _ I3 q3) fun w' s4 ⟨z', H4, I4, r4, q4⟩ => ho' pins s4 σ H4 y z' u w' Q I4 r2 r4 q4))
theorem pt_chain {op op' : CmpOp} {r r' : R2} (ho : OpR X (compareOp op) r) (ho' : OpR X (compareOp op') r') (ha : PE X a ta) (hb : PE X b tb) (hc : PE X c tc)
    (hm : lastMarks [op, op'] [b, c] = false := by with_unfolding_all rfl) : PT X (.Compare a [op, op'] [b, c] pos) (tTest (tChain r r' ta tb tc)) := by
  intro pins s σ H Q I h
  refine isTrue_chain (thn (ha pins s σ H _ I h) fun v s1 ⟨x, H1, I1, r1, q1⟩ => test_link (thn (hb pins s1 σ H1 _ I1 q1) fun u s2 ⟨y, H2, I2, r2, q2⟩ =>
    thn (ho pins s2 σ H2 x y v u _ I2 r1 r2 q2) fun d s3 ⟨z, H3, I3, r3, k, e, q3⟩ => ?_)) hm
  subst e
  cases r3
  refine wpAny_truthy_bool ?_
  cases k with
  | false =>
    obtain ⟨k', e', q'⟩ := q3
    cases e'
    exact ite_ff ⟨H3, I3, q'⟩
  | true =>
    refine ite_tt (test_last (thn (hc pins s3 σ H3 _ I3 q3) fun w' s4 ⟨z', H4, I4, r4, q4⟩ => thn (ho' pins s4 σ H4 y z' u w' _ I4 r2 r4 q4) fun d' s5 ⟨z2, H5, I5, r5, k2, e2, q5⟩ => ?_))
    subst e2
    cases r5
    exact wpAny_truthy_bool ⟨H5, I5, q5⟩
def TruV (K : PySem.W.Frag) (x : V) (H : Hp) (k : Bool) : Prop :=
  match x with
  | .non => k = false
  | .bl b => k = b
  | .int i => k = (i != 0)
  | .str y => y.length ≤ sizeLine ∧ k = ((y.length : Int) != 0)
  | .byt y => y.size ≤ sizeLine ∧ k = ((y.size : Int) != 0)
  | .ref p => (∃ xs, SqL K H p xs ∧ k = !xs.isEmpty) ∨ (∃ xs, SqT K H p xs ∧ k = !xs.isEmpty) ∨ ∃ kvs, H p = some (.dK kvs) ∧ k = !kvs.isEmpty
  | _ => False
theorem isEmpty_kv {κ : Type} {kvs : List (κ × V)} {vs : List (κ × Value)} (r : KV kvs vs) : (!vs.isEmpty) = !kvs.isEmpty := by
  cases r <;> rfl
theorem isEmpty_of {xs : List V} {its : List Value} (r : Vals xs its) : (!its.toArray.isEmpty) = !xs.isEmpty := by
  cases r <;> simp
theorem line63 : (sizeLine : Nat) < 2 ^ 63 := by rw [sizeLine_eq]; decide
theorem tru_ok : TruR X (fun x H Q => ∃ k, TruV X.K x H k ∧ Q k H) := by
  intro pins s σ H x v Q I rx h
  obtain ⟨k, e, q⟩ := h
  have hl := line63
  have hs : sizeLine = 16777216 := sizeLine_eq
  cases x with
  | non =>
    cases rx
    have e' : k = false := e
    subst e'
    exact truthy_none ⟨H, I, q⟩
  | bl b =>
    cases rx
    have e' : k = b := e
    subst e'
    exact wpAny_truthy_bool ⟨H, I, q⟩
  | int i =>
    obtain ⟨t, rfl⟩ := rx
    have e' : k = (i != 0) := e
    subst e'
    exact PySem.P.truthy_int ⟨H, I, q⟩
  | str y =>
    obtain ⟨t, rfl⟩ := rx
    obtain ⟨hy, e'⟩ : y.length ≤ sizeLine ∧ k = ((y.length : Int) != 0) := e
    subst e'
    exact PySem.P.truthy_str (by omega) ⟨H, I.tok _, q⟩
  | byt y =>
    obtain ⟨t, rfl⟩ := rx
    obtain ⟨hy, e'⟩ : y.size ≤ sizeLine ∧ k = ((y.size : Int) != 0) := e
    subst e'
    exact PySem.W.truthy_bytes (by omega) ⟨H, I.tok _, q⟩
  | ref p =>
    cases rx
    have e' : (∃ xs, SqL X.K H p xs ∧ k = !xs.isEmpty) ∨ (∃ xs, SqT X.K H p xs ∧ k = !xs.isEmpty) ∨ ∃ kvs, H p = some (.dK kvs) ∧ k = !kvs.isEmpty := e
    rcases e' with ⟨xs, hx, e'⟩ | ⟨xs, hx, e'⟩ | ⟨kvs, hx, e'⟩
    · subst e'
      obtain ⟨its, r, pl, hz⟩ := I.list hx
      have hlen := r.length
      exact wpAny_truthy_list pl.isList (by simp only [List.size_toArray]; omega) ⟨H, I.tok _, by rw [isEmpty_of r]; exact q⟩
    · subst e'
      obtain ⟨its, r, pl, hz⟩ := I.tuple hx
      have hlen := r.length
      exact truthy_tuple pl (by simp only [List.size_toArray]; omega) ⟨H, I.tok _, by rw [isEmpty_of r]; exact q⟩
    · subst e'
      obtain ⟨hz, hS, vs, r, m⟩ : kvs.length ≤ sizeLine ∧ (p == sysModules) = false ∧ ∃ vs, KV kvs vs ∧ s.heap.DictOf (mixKind X.prog X.w) p vs := I.hok p _ hx
      have hlen : kvs.length = vs.length := Paired.length r
      exact wpAny_truthy_dict hS m (by omega) ⟨H, I.tok _, by rw [isEmpty_kv r]; exact q⟩
  | _ => exact (show False from e).elim
theorem pt_truth (ha : PE X a ta) (he : ∀ whole, isTrue a X.env whole = (do let v ← whole; standAt a.pos; holding [v] (truthy v))) :
    PT X a (fun σ H Q => ta σ H fun x H' => ∃ k, TruV X.K x H' k ∧ Q k H') := by
  intro pins s σ H Q I h
  exact isTrue_plain (thn (ha pins s σ H _ I h) fun v s1 ⟨x, H1, I1, r1, q1⟩ => tru_ok pins s1 σ H1 x v Q I1 r1 q1) (he _)
theorem op_add_str : OpR X (binaryOp .Add) (fun x y H Q => ∃ i j, x = .str i ∧ y = .str j ∧ i.length + j.length ≤ sizeLine ∧ Q (.str (i ++ j)) H) := by
  intro pins s σ H x y v u Q I rx ry h
  obtain ⟨i, j, rfl, rfl, hz, q⟩ := h
  obtain ⟨t, rfl⟩ := rx
  obtain ⟨t', rfl⟩ := ry
  exact add_str (fun t' tk => ⟨.str (i ++ j), H, I.tok _, ⟨_, rfl⟩, q⟩) hz
theorem iop_add_str : OpR X (inplaceOp .Add) (fun x y H Q => ∃ i j, x = .str i ∧ y = .str j ∧ i.length + j.length ≤ sizeLine ∧ Q (.str (i ++ j)) H) := by
  intro pins s σ H x y v u Q I rx ry h
  obtain ⟨i, j, rfl, rfl, hz, q⟩ := h
  obtain ⟨t, rfl⟩ := rx
  obtain ⟨t', rfl⟩ := ry
  exact iadd_str (fun t' tk => ⟨.str (i ++ j), H, I.tok _, ⟨_, rfl⟩, q⟩) hz
theorem vals1 {x : V} {us : List Value} (r : Vals [x] us) : ∃ u, us = [u] ∧ RelV x u := by
  cases r with
  | cons r1 r2 => cases r2; exact ⟨_, rfl, r1⟩
theorem vals2 {x y : V} {us : List Value} (r : Vals [x, y] us) : ∃ u w', us = [u, w'] ∧ RelV x u ∧ RelV y w' := by
  cases r with
  | cons r1 r2 =>
    cases r2 with
    | cons r3 r4 => cases r4; exact ⟨_, _, rfl, r1, r3⟩
theorem call_min2 (hc : X.calm = true) : CallR X (.builtin "min") (fun xs H Q => ∃ i j, xs = [.int i, .int j] ∧ Q (.int (if j < i then j else i)) H) := by
  intro pins s σ H xs us Q I r h
  obtain ⟨i, j, rfl, q⟩ := h
  obtain ⟨u, w', rfl, ⟨t, rfl⟩, ⟨t', rfl⟩⟩ := vals2 r
  refine min_two_ints (I.ok.hd hc) fun h' tk k => ⟨_, H, I.kept k, ?_, q⟩
  by_cases hj : j < i
  · rw [if_pos hj, if_pos hj]; exact ⟨_, rfl⟩
  · rw [if_neg hj, if_neg hj]; exact ⟨_, rfl⟩
end
end L2
namespace L2
open PySem PySem.Spec PyProof.Rows
structure ObjM (h : Heap) (x dx C : Addr) (mA : Str → Option Value) : Prop where
  obj : h.get? x = some (PySem.W.instObj C dx)
  ns : h.Ns1 dx mA
  ne : dx ≠ x
theorem lookIn_ns {h : Heap} {dx : Addr} {mA : Str → Option Value} (n : h.Ns1 dx mA) : ∃ od, h.get? dx = some od ∧ ∀ name, PySem.W.lookIn name od = some (mA name) := by
  obtain ⟨o, es, ep, ho, hd, hk, _, hm⟩ := n
  refine ⟨o, ho, fun name => ?_⟩
  have e := hm name
  unfold nsFind findBy at e
  rw [← Array.find?_toList] at e
  unfold PySem.W.lookIn
  rw [hd]
  dsimp only
  split
  · rename_i y q
    rw [q] at e
    exact congrArg some e
  · rename_i q
    rw [q] at e
    have a : es.toList.any (·.refKey) = false := by
      rw [List.any_eq_false]
      intro y hy
      obtain ⟨z, t, hkey⟩ := hk y (Array.mem_toList_iff.mp hy)
      simp [DictEntry.refKey, hkey]
    have a' : ¬ es.toList.any (·.refKey) = true := by rw [a]; exact Bool.false_ne_true
    rw [if_neg a']
    exact congrArg some e
theorem ObjM.look {h : Heap} {x dx C : Addr} {mA : Str → Option Value} (I : ObjM h x dx C mA) : ∃ od, PySem.W.InstAt h x (PySem.W.instObj C dx) C (some od) ∧ ∀ name, PySem.W.lookIn name od = some (mA name) :=
  let ⟨od, ho, hl⟩ := lookIn_ns I.ns
  ⟨od, ⟨I.obj, rfl, rfl, ho⟩, hl⟩
section
variable {prog : Program} {w : World} {A : Around} {E : Value → Shared → Prop} {s : Shared} {K : PySem.W.Frag} {x dx C f : Addr} {mA : Str → Option Value} {name : Str} {v : Value}
end
theorem RelO.some_of {v : V} {o : Option Value} (r : RelO (some v) o) : ∃ u, o = some u ∧ RelV v u := by
  cases o with
  | none => exact (show False from r).elim
  | some u => exact ⟨u, rfl, r⟩
section
variable {P : Program} {w : World} {H H' : Hp} {h h' : Heap} {a C dx : Addr} {fs fs' : List (Str × V)}
theorem ins_get (hok : HOk P w H h) (e : H a = some (.ins C dx fs)) : ∃ mA, ObjM h a dx C mA ∧ (∀ f, RelO (fs.lookup f) (mA f)) ∧ PySem.Within mA (fs.map (·.1)) ∧ fs.length ≤ 1000 ∧ H dx = some (.own a) := by
  obtain ⟨d, z, ne, ob, mA, n, r, q⟩ := (show ObjOk P w H h a (.ins C dx fs) from hok a _ e)
  exact ⟨mA, ⟨ob, n, ne⟩, r, q, z, d⟩
end
structure Cls (K : PySem.W.Frag) (C : Addr) : Prop where
  pg : PySem.W.plainGet K C Str.empty = true
  hd : PySem.W.hasDictIn K C = true
  po : PySem.W.plainOver K C = true
  sa : PySem.W.findIn K (.ref C) "__setattr__" = some (some (.builtin "object.__setattr__"))
theorem Cls.get {K : PySem.W.Frag} {C : Addr} (c : Cls K C) (f : Str) : PySem.W.plainGet K C f = true := c.pg
section
variable {X : Cx} {pins : List (Addr × Obj)} {σ : St} {H : Hp} {s : Shared} {a C dx : Addr} {fs : List (Str × V)} {f : Str} {v : V} {A : Around} {E : Value → Shared → Prop}
end
section
variable {X : Cx} {o e value : Expr} {f : Str} {pos pos' tpos : Pos} {ta tv : TE}
end
section
variable {X : Cx} {pins : List (Addr × Obj)} {σ : St} {H : Hp} {s : Shared} {A : Around} {E : Value → Shared → Prop} {Q : Value → Shared → Prop} {c : Value} {b : Bool}
inductive TyOf (K : PySem.W.Frag) (H : Hp) : V → Value → Prop where
  | non : TyOf K H .non (.type "NoneType")
  | bl (x : Bool) : TyOf K H (.bl x) (.type "bool")
  | int (i : Int) : TyOf K H (.int i) (.type "int")
  | str (x : Str) : TyOf K H (.str x) (.type "str")
  | flt (x : UInt64) : TyOf K H (.flt x) (.type "float")
  | lst {a : Addr} {xs : List V} (e : H a = some (.lst xs)) : TyOf K H (.ref a) (.type "list")
  | frz {a : Addr} {o : Obj} {xs : List V} (e : H a = some (.frz o (.lst xs))) : TyOf K H (.ref a) (.type "list")
  | tup {a : Addr} {xs : List V} (e : H a = some (.tup xs)) : TyOf K H (.ref a) (.type "tuple")
  | dK {a : Addr} {kvs : List (Key × V)} (e : H a = some (.dK kvs)) : TyOf K H (.ref a) (.type "dict")
  | dT {a : Addr} {kvs : List (List Key × V)} (e : H a = some (.dT kvs)) : TyOf K H (.ref a) (.type "dict")
  | ins {a C dx : Addr} {fs : List (Str × V)} (e : H a = some (.ins C dx fs)) (cl : Cls K C) (ha : PySem.W.findIn K (.ref C) "__class__" = some (some (.builtin "object.__class__")))
      (hn : PySem.W.specialIn K (.builtin "object.__class__") "__get__" = some (some (.builtin "getset_descriptor.__get__"))) (htk : PySem.W.takesIn K (.builtin "object.__class__") = some true)
      (hm : PySem.W.mroIn K C (.type "object") = some true) : TyOf K H (.ref a) (.ref C)
theorem isinst_ok {x : V} {u t : Value} (I : Inv X pins σ H s) (rx : RelV x u) (ty : TyOf X.K H x t) (e : PySem.W.kitOne X.K t c = some b) (h : ∀ tk, Q (.bool b) { s with toks := tk }) :
    wpAny (model X.prog X.w) A (call (.builtin "isinstance") [u, c]) Q E s := by
  cases ty with
  | non => cases (show u = Value.none from rx); exact PySem.W.kia_one PySem.W.kitx_none I.kIn True.intro e (fun z => nomatch z) h
  | bl y => cases (show u = Value.bool y from rx); exact PySem.W.kia_one PySem.W.kitx_bool I.kIn True.intro e (fun z => nomatch z) h
  | int i => obtain ⟨t, q⟩ := (show ∃ t, u = Value.int i t from rx); cases q; exact PySem.W.kia_one PySem.W.kitx_int I.kIn True.intro e (fun z => nomatch z) h
  | str y => obtain ⟨t, q⟩ := (show ∃ t, u = Value.str y t from rx); cases q; exact PySem.W.kia_one PySem.W.kitx_str I.kIn True.intro e (fun z => nomatch z) h
  | flt y => obtain ⟨t, q⟩ := (show ∃ t, u = Value.float y t from rx); cases q; exact PySem.W.kia_one PySem.W.kitx_float I.kIn True.intro e (fun z => nomatch z) h
  | @lst a xs ea =>
    cases (show u = Value.ref a from rx)
    obtain ⟨_, _, n, _, h1⟩ := (show ObjOk X.prog X.w H s.heap a (.lst xs) from I.hok a _ ea)
    exact PySem.W.kia_one PySem.W.kitx_list I.kIn ⟨_, h1, rfl⟩ e (fun z => nomatch z) h
  | @frz a ob xs ea =>
    cases (show u = Value.ref a from rx)
    obtain ⟨_, _, _, n, _, h1⟩ := (show ObjOk X.prog X.w H s.heap a (.frz ob (.lst xs)) from I.hok a _ ea)
    exact PySem.W.kia_one PySem.W.kitx_list I.kIn ⟨_, h1, rfl⟩ e (fun z => nomatch z) h
  | @tup a xs ea =>
    cases (show u = Value.ref a from rx)
    obtain ⟨_, _, _, p⟩ := (show ObjOk X.prog X.w H s.heap a (.tup xs) from I.hok a _ ea)
    obtain ⟨o, h1, h2, _⟩ := p
    exact PySem.W.kia_one PySem.W.kitx_tuple I.kIn ⟨o, h1, h2⟩ e (fun z => nomatch z) h
  | @dK a kvs ea =>
    cases (show u = Value.ref a from rx)
    obtain ⟨_, _, vs, _, p⟩ := (show ObjOk X.prog X.w H s.heap a (.dK kvs) from I.hok a _ ea)
    obtain ⟨o, es, ep, h1, h2, _⟩ := p
    exact PySem.W.kia_one PySem.W.kitx_dict I.kIn ⟨o, h1, h2.1⟩ e (fun z => nomatch z) h
  | @dT a kvs ea =>
    cases (show u = Value.ref a from rx)
    obtain ⟨_, _, xs, _, o, es, ep, h1, h2, _⟩ := (show ObjOk X.prog X.w H s.heap a (.dT kvs) from I.hok a _ ea)
    exact PySem.W.kia_one PySem.W.kitx_dict I.kIn ⟨o, h1, h2.1⟩ e (fun z => nomatch z) h
  | @ins a C dx fs ea cl ha hn htk hm =>
    cases (show u = Value.ref a from rx)
    obtain ⟨mA, O, _⟩ := ins_get I.hok ea
    obtain ⟨od, J, _⟩ := O.look
    exact PySem.W.kia_one (PySem.W.kitx_own (cl.get _) cl.hd ha hn htk hm) I.kIn J e (fun z => nomatch z) h
end
end L2
namespace L2
open PySem PySem.Spec PyProof.Rows
structure Room (k : Nat) (A : Around) : Prop where
  hd : A.handled = none
  dp : A.depth + 3 * k + 5 < recursionLimit
  un : A.units + 16 * k + 200 < cLine
theorem Room.mono {j k : Nat} {A : Around} (r : Room k A) (h : j ≤ k) : Room j A := ⟨r.hd, by have := r.dp; omega, by have := r.un; omega⟩
theorem Room.deeper {k : Nat} {A : Around} (r : Room (k + 1) A) (env : Env) : Room k (A.deeper env) :=
  ⟨r.hd, by have := r.dp; show A.depth + 1 + 3 * k + 5 < _; omega, by have := r.un; show A.units + 3 + 16 * k + 200 < _; omega⟩
theorem Room.depth {k : Nat} {A : Around} (r : Room k A) : A.depth < recursionLimit := by have := r.dp; omega
theorem Room.units {k : Nat} {A : Around} (r : Room k A) : A.units + 64 < cLine := by have := r.un; omega
def tNil : TA := fun _ H Q => Q [] H
def tCons (ta : TE) (tr : TA) : TA := fun σ H Q => ta σ H fun x H1 => tr σ H1 fun xs H2 => Q (x :: xs) H2
section
variable {X : Cx} {e : Expr} {es : List Expr} {te : TE} {t : TA} {pos : Pos}
theorem pa_nil : PA X [] tNil := fun _ _ _ _ H Q I h => Calls.spliced_nil ⟨[], H, I, .nil, h⟩
theorem pa_cons (ha : PE X e te) (hr : PA X es t) (hs : starEach (e :: es) X.env = (false, eval e X.env) :: starEach es X.env := by rfl) : PA X (e :: es) (tCons te t) := by
  intro pos pins s σ H Q I h
  rw [hs]
  show wpAny _ _ (spliced ((false, eval e X.env) :: backTo pos (starEach es X.env))) _ _ s
  refine Calls.spliced_cons (thn (ha pins s σ H _ I h) fun u s1 ⟨x, H1, I1, r1, q1⟩ => ?_)
  exact thn (hr pos pins s1 σ H1 _ I1 q1) fun us s2 ⟨xs, H2, I2, r2, q2⟩ => ⟨x :: xs, H2, I2, .cons r1 r2, q2⟩
def tLst (t : TA) : TE := fun σ H Q => t σ H fun xs H1 => xs.length ≤ sizeLine ∧ ∀ p, H1 p = none → Q (.ref p) (upd H1 p (.lst xs))
theorem pe_lst (h : PA X es t) : PE X (.List es pos) (tLst t) := by
  intro pins s σ H Q I hq
  refine wpAny_List_spliced (thn (h pos pins s σ H _ I hq) fun us s1 ⟨xs, H1, I1, r, z, q⟩ => ⟨by rw [← r.length]; exact z, ?_⟩)
  have hf : H1 s1.heap.objs.size = none := I1.hok.fresh (Nat.le_refl _)
  refine ⟨.ref s1.heap.objs.size, upd H1 s1.heap.objs.size (.lst xs), I1.laid (t' := s1.toks) (fun b u e => Heap.get?_push_of_some _ e) (Nat.le_refl _) ?_, rfl, q _ hf⟩
  exact ⟨z, us, 0, r, Heap.get?_push_size _ rfl⟩
end
abbrev Sp := List V → Hp → VK → XK → Prop
abbrev CXT := List Env → Hp → Shared → XK → Value → Shared → Prop
structure Env0 (P : Program) (w : World) (K : PySem.W.Frag) (mg : Str → Option Value) (base : Heap) (A : Around) (outer : List Env) (s : Shared) (H : Hp) : Prop where
  frames : A.frames = some outer
  mod : Mod K mg base
  bs : ∀ b o, base.get? b = some o → s.heap.get? b = some o ∧ H b = none
  bsz : base.objs.size ≤ s.heap.objs.size
  funs : s.heap.FunFrames base outer
  frf : ∀ b ∈ frs outer, H b = none
  hok : HOk P w H s.heap
  bare : AllBare s.gens
def CE (outer : List Env) (P : Program) (w : World) (H : Hp) (s : Shared) (Q : VK) (u : Value) (s' : Shared) : Prop :=
  ∃ v H', s'.os = s.os ∧ AllBare s'.gens ∧ Un (frs outer) [] H H' s.heap s'.heap ∧ HOk P w H' s'.heap ∧ RelV v u ∧ Q v H'
def CR (CX : CXT) (outer : List Env) (P : Program) (w : World) (H : Hp) (s : Shared) (Q : VK) (E : XK) (r : Result) (s' : Shared) : Prop :=
  match r with
  | .ok (.ret u) => CE outer P w H s Q u s'
  | .ok _ => False
  | .error e => CX outer H s E e s'
structure FnOk (P : Program) (w : World) (K : PySem.W.Frag) (mg : Str → Option Value) (base : Heap) (CX : CXT) (k : Nat) (f : Addr) (fd : FuncData) (ps : List Str) (sp : Sp) : Prop where
  len : ∀ vs H Q E, sp vs H Q E → vs.length = ps.length
  run : ∀ (A : Around) (outer : List Env) (s : Shared) (H : Hp) (args : Args) (us : List Value) (vs : List V) (Q : VK) (E : XK), Room k A → Env0 P w K mg base A outer s H → BindsTo s fd args (ps.zip us) → Vals vs us → sp vs H Q E →
    codeAny (model P w) A (.call (.ref f) args) (CR CX outer P w H s Q E) s
section
variable {X : Cx} {pins : List (Addr × Obj)} {σ : St} {H : Hp} {s s' : Shared}
theorem Inv.env0 (I : Inv X pins σ H s) : Env0 X.prog X.w X.K X.mg X.base X.A X.stack s H :=
  ⟨I.ok.frames, I.ok.mod, I.bs, Nat.le_trans I.ok.bsz I.sz, I.stack, I.stkFree, I.hok, I.bare⟩
theorem Inv.after {Q : VK} {u : Value} (I : Inv X pins σ H s) (h : CE X.stack X.prog X.w H s Q u s') : EP X pins σ Q u s' := by
  obtain ⟨v, H', os, bare, un, hok, r, q⟩ := h
  obtain ⟨hh, g, d, t, os'⟩ := s'
  obtain rfl : os' = s.os := os
  exact ⟨v, H', I.call (h' := hh) (g' := g) (d' := d) (t' := t) (ch := []) un hok bare (fun b z => absurd z (by simp)), r, q⟩
end
def tCall (sp : Sp) (dvs : List V) (E : XK) (t : TA) : TE := fun σ H Q => t σ H fun vs H1 => sp (vs ++ dvs) H1 Q E
def Binds (K : PySem.W.Frag) (fd : FuncData) (ps : List Str) (ds : List Value) : Prop :=
  ∀ (s : Shared) (us : List Value), K.In s.heap → (us ++ ds).length = ps.length → BindsTo s fd ⟨us, []⟩ (ps.zip (us ++ ds))
theorem Binds.all {K : PySem.W.Frag} {fd : FuncData} {ps : List Str} (h : ∀ us : List Value, us.length = ps.length → bindArgs fd ⟨us, []⟩ = pure (ps.zip us)) : Binds K fd ps [] := fun s us _ hl => by
  rw [List.append_nil] at hl ⊢
  exact .of_eq (h us hl)
def Passes (CX : CXT) (X : Cx) (E : XK) : Prop := ∀ (pins : List (Addr × Obj)) (σ : St) (H : Hp) (s : Shared) (e : Value) (s' : Shared), Inv X pins σ H s → CX X.stack H s E e s' → X.xe e s'
section
variable {X : Cx} {CX : CXT} {k : Nat} {f C : Addr} {fd : FuncData} {ps : List Str} {sp : Sp} {dvs : List V} {ds : List Value} {E : XK} {x m : Str} {p pos apos : Pos} {e o : Expr} {es : List Expr} {ta : TE} {t : TA}
theorem run_fn {pins : List (Addr × Obj)} {σ : St} {H : Hp} {s : Shared} {Q : VK} {us : List Value} {vs : List V} (F : FnOk X.prog X.w X.K X.mg X.base CX k f fd ps sp) (hr : Room k X.A) (hb : Binds X.K fd ps ds) (hd : Vals dvs ds) (hx : Passes CX X E)
    (I : Inv X pins σ H s) (r : Vals vs us) (h : sp (vs ++ dvs) H Q E) : wpAny (model X.prog X.w) X.A (call (.ref f) us) (EP X pins σ Q) X.xe s := by
  have r2 : Vals (vs ++ dvs) (us ++ ds) := r.append hd
  have hl : (us ++ ds).length = ps.length := by rw [← r2.length]; exact F.len _ _ _ _ h
  refine wpAny_call (codeAny_mono (F.run X.A X.stack s H ⟨us, []⟩ (us ++ ds) (vs ++ dvs) Q E hr I.env0 (hb s us I.kIn hl) r2 h) fun r s' hq => ?_)
  cases r with
  | error e => exact hx pins σ H s e s' I hq
  | ok fl =>
    cases fl with
    | ret u => exact I.after hq
    | next => exact False.elim hq
    | brk => exact False.elim hq
    | cont => exact False.elim hq
theorem pe_call (F : FnOk X.prog X.w X.K X.mg X.base CX k f fd ps sp) (hr : Room k X.A) (hg : Gl X x) (hm : X.mg x = some (.ref f)) (hk : PySem.W.keepIn X.K (.ref f) = true) (hb : Binds X.K fd ps ds) (hd : Vals dvs ds) (hx : Passes CX X E)
    (ha : PA X (e :: es) t) (hdb : (x == ("__debug__" : Str)) = false := by decide) (he : starEach (e :: es) X.env = (false, eval e X.env) :: starEach es X.env := by rfl) (hpl : (backTo pos (starEach es X.env)).any (·.1) = false := by rfl) :
    PE X (.Call (.Name x p) (e :: es) [] pos) (tCall sp dvs E t) := by
  intro pins s σ H Q I h
  refine wpAny_Call_Name_kw (ld_glob I hg hm ?_ hdb)
  refine PySem.W.callWith_K (h₀ := X.base) I.ok.mod.kin hk (thn (ha pos pins s σ H _ I h) fun us s1 ⟨vs, H1, I1, r, q⟩ => ⟨I1.kIn, ?_⟩) he hpl
  exact run_fn F hr hb hd hx I1 r q
end
section
variable {X : Cx} {CX : CXT} {k : Nat} {f C : Addr} {fd : FuncData} {ps ks : List Str} {sp : Sp} {E : XK} {x m : Str} {p pos apos kpos : Pos} {e o : Expr} {es : List Expr} {kws : List Keyword} {te ta : TE} {t tk : TA} {nm : Option Str}
variable {g : List Value → List Value → List Value} {gV : List V → List V → List V}
end
structure FnScope (N P : List Str) (sc : Scope) : Prop where
  kind : sc.kind = .function
  co : sc.isCoroutine = false
  gen : sc.isGenerator = false
  nd : N.Nodup
  pre : N.take P.length = P
  par : ∀ x ∈ P, sc.names.lookup x = some .local ∨ sc.names.lookup x = some .cell
  nofree : ∀ y ∈ sc.names, y.2 ≠ .free
theorem bindL_out {kindOf : Str → Option NameKind} {x : Str} : ∀ {binds : List (Str × Value)} {m : Str → Option Value}, (∀ v, (x, v) ∉ binds) → bindL kindOf binds m x = m x
  | [], _, _ => rfl
  | (n, v) :: r, m, h => by
    unfold bindL
    rw [bindL_out fun w hw => h w (List.mem_cons_of_mem _ hw)]
    split
    · have : x ≠ n := by rintro rfl; exact h v List.mem_cons_self
      simp [this]
    · rfl
theorem bindC_out {kindOf : Str → Option NameKind} {x : Str} : ∀ {binds : List (Str × Value)} {m : Str → Option Value}, (∀ v, (x, v) ∉ binds) → bindC kindOf binds m x = m x
  | [], _, _ => rfl
  | (n, v) :: r, m, h => by
    unfold bindC
    rw [bindC_out fun w hw => h w (List.mem_cons_of_mem _ hw)]
    split
    · rfl
    · have : x ≠ n := by rintro rfl; exact h v List.mem_cons_self
      simp [this]
theorem bindL_get {kindOf : Str → Option NameKind} {x : Str} {v : Value} : ∀ {P : List Str} {vs : List Value} {i : Nat} {m : Str → Option Value}, P.Nodup → P[i]? = some x → vs[i]? = some v → kindOf x = some .local →
    bindL kindOf (P.zip vs) m x = some v
  | [], _, _, _, _, h, _, _ => by simp at h
  | _ :: _, [], _, _, _, _, h, _ => by simp at h
  | p :: P, w :: vs, 0, m, nd, h1, h2, hk => by
    simp at h1 h2; subst h1; subst h2
    show bindL kindOf ((p, w) :: P.zip vs) m p = _
    unfold bindL
    rw [bindL_out fun v hv => (List.nodup_cons.mp nd).1 (List.of_mem_zip hv).1, if_pos hk]
    simp
  | p :: P, w :: vs, i + 1, m, nd, h1, h2, hk => by
    show bindL kindOf ((p, w) :: P.zip vs) m x = _
    unfold bindL
    exact bindL_get (i := i) (List.nodup_cons.mp nd).2 (by simpa using h1) (by simpa using h2) hk
theorem bindC_get {kindOf : Str → Option NameKind} {x : Str} {v : Value} : ∀ {P : List Str} {vs : List Value} {i : Nat} {m : Str → Option Value}, P.Nodup → P[i]? = some x → vs[i]? = some v → kindOf x ≠ some .local →
    bindC kindOf (P.zip vs) m x = some v
  | [], _, _, _, _, h, _, _ => by simp at h
  | _ :: _, [], _, _, _, _, h, _ => by simp at h
  | p :: P, w :: vs, 0, m, nd, h1, h2, hk => by
    simp at h1 h2; subst h1; subst h2
    show bindC kindOf ((p, w) :: P.zip vs) m p = _
    unfold bindC
    rw [bindC_out fun v hv => (List.nodup_cons.mp nd).1 (List.of_mem_zip hv).1, if_neg hk]
    simp
  | p :: P, w :: vs, i + 1, m, nd, h1, h2, hk => by
    show bindC kindOf ((p, w) :: P.zip vs) m x = _
    unfold bindC
    exact bindC_get (i := i) (List.nodup_cons.mp nd).2 (by simpa using h1) (by simpa using h2) hk
def start (N : List Str) (vs : List V) : St := vs.map some ++ List.replicate (N.length - vs.length) none
def cxOf (CX : CXT) (P : Program) (w : World) (K : PySem.W.Frag) (mg : Str → Option Value) (base : Heap) (N : List Str) (qual : Str) (scope : Scope) (f : Addr) (cd : Value) (A : Around) (outer : List Env) (s : Shared) (H : Hp) (E : XK) : Cx where
  prog := P
  w := w
  K := K
  mg := mg
  base := base
  A := A.deeper (envOfC qual scope s.heap.objs.size f cd)
  N := N
  s₀ := s
  H₀ := H
  env := envOfC qual scope s.heap.objs.size f cd
  outer := outer
  stack := envOfC qual scope s.heap.objs.size f cd :: outer
  ex := []
  calm := true
  fn := fun _ => true
  pn := []
  xe := fun e s' => wpAny (model P w) (A.deeper (envOfC qual scope s.heap.objs.size f cd)) (leaving (envOfC qual scope s.heap.objs.size f cd) e) (fun _ s'' => CX outer H s E e s'') (fun e' s'' => CX outer H s E e' s'') s'
theorem cell_has {sc : Scope} {n : Nat} {x : Str} (h : sc.names.lookup x = some .cell) : ∃ c, (cellsFrom n sc.names []).lookup x = some c := by
  have q := PySem.W.cellsFrom_some sc.names n [] (.inl h)
  exact Option.isSome_iff_exists.mp q
theorem inv_start {CX : CXT} {P : Program} {w : World} {K : PySem.W.Frag} {mg : Str → Option Value} {base : Heap} {N ps : List Str} {qual : Str} {scope : Scope} {f : Addr} {cd : Value} {A : Around} {outer : List Env} {s s1 : Shared} {H : Hp} {E : XK} {us : List Value} {vs : List V}
    (S : FnScope N ps scope) (hd : A.handled = none) (e0 : Env0 P w K mg base A outer s H) (hl : vs.length = ps.length) (r : Vals vs us)
    (x : InCallC s s.heap.objs.size (bindL (envOfC qual scope s.heap.objs.size f cd).kindOf (ps.zip us) fun _ => none) (cellsFrom (s.heap.objs.size + 1) scope.names []) (bindC (envOfC qual scope s.heap.objs.size f cd).kindOf (ps.zip us) fun _ => none) s1) :
    Inv (cxOf CX P w K mg base N qual scope f cd A outer s H E) [] (start N vs) H s1 := by
  have hpl : ps.length ≤ N.length := by have := congrArg List.length S.pre; rw [List.length_take] at this; omega
  obtain ⟨h1, tk, rfl, hk⟩ := x.done
  have noA : ∀ b : Addr, b ∉ (cxOf CX P w K mg base N qual scope f cd A outer s H E).ex := fun b z => absurd (show b ∈ ([] : List Addr) from z) (by simp)
  refine ⟨⟨e0.mod, S.kind, rfl, rfl, Nat.le_refl _, fun y z c h1 h2 => ?_, fun y hy => ?_, fun y c _ h => ?_, fun _ => hd, Around.frames_deeper e0.frames, .inr ⟨rfl, rfl⟩, fun b z => absurd z (noA b), e0.bs, e0.bsz, fun b _ _ => noA b, fun b z => absurd z (noA b), e0.funs, e0.frf⟩,
    rfl, e0.bare, Un.kept hk, ⟨_, x.toInCall.ns, fun i y v h1 h2 h3 => ?_⟩, fun y c h => ⟨_, x.cell y c h⟩, e0.hok.fresh (Nat.le_refl _), fun y c h => ?_, fun p hp => absurd (show p ∈ ([] : List (Addr × Obj)) from hp) (by simp), e0.hok.kept hk, ?_⟩
  · exact name_of_addr x.apart (PySem.mem_of_lookup h1) (PySem.mem_of_lookup h2)
  · have hy : scope.names.lookup y = some .cell ∨ scope.names.lookup y = some .free := hy
    rcases hy with hy | hy
    · exact cell_has hy
    · exact absurd rfl (S.nofree _ (PySem.mem_of_lookup hy))
  · exact Nat.le_of_lt (x.above y c (PySem.mem_of_lookup h))
  · have hi : i < vs.length := by
      unfold start at h2
      by_cases hi : i < vs.length
      · exact hi
      · rw [List.getElem?_append_right (by simpa using hi)] at h2
        rw [List.getElem?_replicate] at h2
        split at h2 <;> cases h2
    have ha : vs[i]? = some v := by
      unfold start at h2
      rw [List.getElem?_append_left (by simpa using hi), List.getElem?_map] at h2
      cases e : vs[i]? with
      | none => rw [e] at h2; cases h2
      | some a => rw [e] at h2; cases h2; rfl
    obtain ⟨u, hu, rv⟩ := r.get ha
    have hp : ps[i]? = some y := by
      rw [← S.pre, List.getElem?_take_of_lt (by omega)]; exact h1
    have ndP : ps.Nodup := by rw [← S.pre]; exact S.nd.sublist (List.take_sublist _ _)
    refine ⟨u, rv, ?_⟩
    rcases S.par y (List.mem_of_getElem? hp) with k | k
    · exact .inl ⟨k, bindL_get ndP hp hu k⟩
    · obtain ⟨c, e⟩ := cell_has (n := s.heap.objs.size + 1) k
      refine .inr ⟨.inl k, c, e, ?_⟩
      have q := x.cell y c e
      rw [bindC_get ndP hp hu (by show scope.names.lookup y ≠ _; rw [k]; decide)] at q
      exact q
  · exact e0.hok.fresh (Nat.le_of_lt (x.above y c (PySem.mem_of_lookup h)))
  · unfold start
    show _ = N.length
    rw [List.length_append, List.length_map, List.length_replicate]
    omega
theorem fn_of {CX : CXT} {P : Program} {w : World} {K : PySem.W.Frag} {mg : Str → Option Value} {base : Heap} {k : Nat} {f : Addr} {name qual : Str} {params : Arguments} {body : List Stmt} {scope : Scope} {dV kV doc pm cdv ct oc : Value} {an od : Option Addr}
    {osl : Array (Option Value)} {N ps : List Str} {sp : Sp} (lk : K.lookup f = some ⟨oc, od, .func (PySem.W.fnOf name qual params body scope dV kV doc pm an cdv ct), osl⟩) (hcd : PySem.W.codeIn K cdv qual = true) (S : FnScope N ps scope)
    (len : ∀ vs H Q E, sp vs H Q E → vs.length = ps.length)
    (hbody : ∀ (A : Around) (outer : List Env) (s : Shared) (H : Hp) (vs : List V) (Q : VK) (E : XK), Room k (A.deeper (envOfC qual scope s.heap.objs.size f cdv)) → sp vs H Q E →
      ∃ t, PSs (cxOf CX P w K mg base N qual scope f cdv A outer s H E) body t ∧ t { nx := fun _ H' => Q .non H', rt := Q } (start N vs) H) :
    FnOk P w K mg base CX (k + 1) f (PySem.W.fnOf name qual params body scope dV kV doc pm an cdv ct) ps sp := by
  refine ⟨len, fun A outer s H args us vs Q E hr e0 hb r hsp => ?_⟩
  have hl := len _ _ _ _ hsp
  have KX : K.In s.heap := e0.mod.kin.keeps fun b o e => (e0.bs b o e).1
  have lim : s.heap.NoLimit := e0.mod.nolimit.keeps fun b o e => (e0.bs b o e).1
  have hkind : ∀ y ∈ ps.zip us, scope.names.lookup y.1 = some .local ∨ (scope.names.lookup y.1 = some .cell ∧ ((cellsFrom (s.heap.objs.size + 1) scope.names []).lookup y.1).isSome = true) := fun ⟨n, v⟩ hy => by
    rcases S.par n (List.of_mem_zip hy).1 with q | q
    · exact .inl q
    · exact .inr ⟨q, PySem.W.cellsFrom_some _ _ _ (.inl q)⟩
  refine codeAny_call_function hr.depth (KX _ _ lk) rfl S.co S.gen rfl (PySem.W.codeRec_of KX hcd) (hb _ _ _ _ ?_)
  refine wpAny_newFunctionEnv_cells S.kind hkind fun env he s1 x => ?_
  subst he
  refine ⟨lim.keeps x.toInCall.keep, codeAny_func ?_⟩
  obtain ⟨t, ht, hq⟩ := hbody A outer s H vs Q E (hr.deeper _) hsp
  have I : Inv (cxOf CX P w K mg base N qual scope f cdv A outer s H E) [] (start N vs) H s1 := inv_start S hr.hd e0 hl r x
  refine wpAny_mono (ht [] s1 (start N vs) H _ I hq) (fun fl s' hs => ?_) fun e s' hs => hs
  have fin : ∀ {σ' : St} {H' : Hp} {v : V} {u : Value}, Inv (cxOf CX P w K mg base N qual scope f cdv A outer s H E) [] σ' H' s' → RelV v u → Q v H' → CE outer P w H s Q u s' :=
    fun {σ' H' v u} J rv q => ⟨v, H', J.os, J.bare, J.base, J.hok, rv, q⟩
  cases fl with
  | ret u =>
    obtain ⟨v, σ', H', J, rv, q⟩ := hs
    exact fin J rv q
  | next =>
    obtain ⟨σ', H', J, q⟩ := hs
    exact fin (v := V.non) (u := Value.none) J rfl q
  | brk =>
    obtain ⟨_, _, _, q⟩ := hs
    exact False.elim q
  | cont =>
    obtain ⟨_, _, _, q⟩ := hs
    exact False.elim q
end L2
namespace L2
open PySem PySem.Spec PyProof.Rows
section
variable {X : Cx} {x : Str} {p pos : Pos} {e : Expr} {es : List Expr} {t : TA} {id T : String} {r : List V → Hp → VK → Prop}
def tCB (r : List V → Hp → VK → Prop) (t : TA) : TE := fun σ H Q => t σ H fun vs H1 => r vs H1 Q
theorem pe_callB (hc : CallR X (.builtin id) r) (hg : Gl X x) (hm : X.mg x = none) (hv : bootBuiltins x = some (.builtin id)) (ha : PA X (e :: es) t) (hn : x ≠ "__name__" := by decide) (hdb : (x == ("__debug__" : Str)) = false := by decide)
    (he : starEach (e :: es) X.env = (false, eval e X.env) :: starEach es X.env := by rfl) (hpl : (backTo pos (starEach es X.env)).any (·.1) = false := by rfl) : PE X (.Call (.Name x p) (e :: es) [] pos) (tCB r t) := by
  intro pins s σ H Q I h
  refine wpAny_Call_Name_kw (ld_blt I hg hm hv ?_ hn hdb)
  exact PyProof.Rows.callWith_builtin1 (thn (ha pos pins s σ H _ I h) fun us s1 ⟨vs, H1, I1, r1, q1⟩ => hc pins s1 σ H1 vs us Q I1 r1 q1) he hpl
theorem pe_callTy (hc : CallR X (.type T) r) (hg : Gl X x) (hm : X.mg x = none) (hv : bootBuiltins x = some (.type T)) (ha : PA X (e :: es) t) (hn : x ≠ "__name__" := by decide) (hdb : (x == ("__debug__" : Str)) = false := by decide)
    (he : starEach (e :: es) X.env = (false, eval e X.env) :: starEach es X.env := by rfl) (hpl : (backTo pos (starEach es X.env)).any (·.1) = false := by rfl) : PE X (.Call (.Name x p) (e :: es) [] pos) (tCB r t) := by
  intro pins s σ H Q I h
  refine wpAny_Call_Name_kw (ld_blt I hg hm hv ?_ hn hdb)
  exact PyProof.Rows.callWith_type1 (thn (ha pos pins s σ H _ I h) fun us s1 ⟨vs, H1, I1, r1, q1⟩ => hc pins s1 σ H1 vs us Q I1 r1 q1) he hpl
end
end L2
namespace HT
open PySem PyProof.Rows
section
open PySem.SeqAt
open PySem.AutoSeq1 (wpAny_loadPart')
open PySem.MeetsSeq PySem.MeetsSeq2 PySem.MeetsSeq3
end
section
variable {prog : Program} {w : World} {A : Around} {E : Value → Shared → Prop} {s : Shared}
def sIx (n d : Nat) : Option Int → Nat
  | none => d
  | some v => if v < 0 then (v + (n : Int)).toNat else min v.toNat n
theorem sIx_none (n d : Nat) : sIx n d none = d := rfl
theorem sIx_le (n d : Nat) (hd : d ≤ n) (o : Option Int) : sIx n d o ≤ n := by
  cases o with
  | none => exact hd
  | some v =>
    show (if v < 0 then (v + (n : Int)).toNat else min v.toNat n) ≤ n
    by_cases hv : v < 0
    · rw [if_pos hv]; omega
    · rw [if_neg hv]; exact Nat.min_le_right _ _
theorem clip_eq (v : Int) (n d : Nat) : (if v < 0 then max (v + (n : Int)) 0 else min v (n : Int)) = ((sIx n d (some v) : Nat) : Int) := by
  show (if v < 0 then max (v + (n : Int)) 0 else min v (n : Int)) = (((if v < 0 then (v + (n : Int)).toNat else min v.toNat n) : Nat) : Int)
  by_cases hv : v < 0
  · simp only [if_pos hv]; omega
  · simp only [if_neg hv]; omega
theorem adjust_gen (lo hi : Option Int) (n : Nat) : Builtin.Slice.sliceAdjust lo hi 1 (n : Int) = (((sIx n 0 lo : Nat) : Int), ((sIx n n hi : Nat) : Int)) := by
  have h1 : ¬ ((1 : Int) < 0) := by omega
  unfold Builtin.Slice.sliceAdjust
  simp only [h1, if_false]
  refine Prod.ext ?_ ?_
  · cases lo with
    | none => rfl
    | some v => exact clip_eq v n 0
  · cases hi with
    | none => rfl
    | some v => exact clip_eq v n n
theorem places_gen (i j : Nat) : Builtin.Slice.slicePlaces (i : Int) (j : Int) 1 = j - i := by
  unfold Builtin.Slice.slicePlaces
  have h1 : (1 : Int) > 0 := by omega
  simp only [h1, if_true, Int.ediv_one]
  split <;> omega
theorem slicePart_ {v : Value} {o : Option Int} {Q : Option Int → Shared → Prop} (p : IsPart v o) (h : Q o s) : wpAny (model prog w) A (Builtin.Slice.slicePartIndex v) Q E s := by
  cases p with
  | none => exact slicePart_none h
  | int i t => exact slicePart_int h
theorem sliceApplied_gen {sl : Addr} {vl vu : Value} {lo hi : Option Int} {n : Nat} {Q : Int × Int × Nat → Shared → Prop} (hs : s.heap.IsSliceOf sl vl vu .none) (pl : IsPart vl lo) (pu : IsPart vu hi)
    (h : Q (((sIx n 0 lo : Nat) : Int), 1, sIx n n hi - sIx n 0 lo) s) : wpAny (model prog w) A (Builtin.Slice.sliceApplied (.ref sl) (pure (n : Int))) Q E s := by
  obtain ⟨os, hos, hcs, hds⟩ := id hs
  unfold Builtin.Slice.sliceApplied Builtin.Slice.sliceFields
  refine wpAny_bind (wpAny_bind (wpAny_field hos hds (x := vl) rfl (wpAny_bind (wpAny_field hos hds (x := vu) rfl (wpAny_bind (wpAny_field hos hds (x := .none) rfl (wpAny_pure ?_)))))))
  refine wpAny_bind (slicePart_none ?_)
  show wpAny _ _ (if ((1 : Int) == 0) = true then _ else _) _ _ s
  rw [if_neg (by decide)]
  refine wpAny_bind (slicePart_ pl (wpAny_bind (slicePart_ pu (wpAny_bind (wpAny_pure ?_)))))
  show wpAny _ _ (match Builtin.Slice.sliceAdjust lo hi 1 (n : Int) with | (lo, hi) => pure (lo, (1 : Int), Builtin.Slice.slicePlaces lo hi 1)) _ _ s
  rw [adjust_gen lo hi n]
  show wpAny _ _ (pure (((sIx n 0 lo : Nat) : Int), (1 : Int), Builtin.Slice.slicePlaces ((sIx n 0 lo : Nat) : Int) ((sIx n n hi : Nat) : Int) 1)) _ _ s
  rw [places_gen]
  exact wpAny_pure h
theorem pick_gen (xs : Array Value) (i k : Nat) : ((List.range k).filterMap fun (m : Nat) => xs[((i : Int) + (m : Int) * 1).toNat]?).toArray = ((xs.toList.drop i).take k).toArray := by
  have e : (fun (m : Nat) => xs[((i : Int) + (m : Int) * 1).toNat]?) = fun m => xs[i + m]? := by
    funext m
    have : ((i : Int) + (m : Int) * 1).toNat = i + m := by omega
    rw [this]
  rw [e]
  have := pick_run xs i k
  rw [List.filterMap_map] at this
  have e2 : ((fun x => xs[x]?) ∘ fun x => i + x) = fun m => xs[i + m]? := rfl
  rw [e2] at this
  rw [this]
theorem getItem_tuple_cut {t sl : Addr} {items : Array Value} {vl vu : Value} {lo hi : Option Int} {Q : Value → Shared → Prop} (ht : IsTup s.heap t items) (hs : s.heap.IsSliceOf sl vl vu .none) (pl : IsPart vl lo) (pu : IsPart vu hi)
    (hw : ¬ (sIx items.size 0 lo = 0 ∧ sIx items.size items.size hi = items.size))
    (h : Q (.ref s.heap.objs.size) { s with heap := s.heap.push { cls := .type "tuple", data := .seq ((items.toList.drop (sIx items.size 0 lo)).take (sIx items.size items.size hi - sIx items.size 0 lo)).toArray } })
    (hsz : items.size ≤ sizeLine) : wpAny (model prog w) A (getItem (.ref t) (.ref sl)) Q E s := by
  have htake : sizeOk (.seq ((items.toList.drop (sIx items.size 0 lo)).take (sIx items.size items.size hi - sIx items.size 0 lo)).toArray) := by
    show ((items.toList.drop (sIx items.size 0 lo)).take (sIx items.size items.size hi - sIx items.size 0 lo)).toArray.size ≤ sizeLine
    rw [List.size_toArray, List.length_take, List.length_drop, Array.length_toList]
    omega
  have hj : sIx items.size items.size hi ≤ items.size := sIx_le _ _ (Nat.le_refl _) hi
  obtain ⟨os, hos, hcs, hds⟩ := id hs
  have hTs : s.TypeIs (.ref sl) "slice" := ⟨os, hos, hcs⟩
  unfold getItem
  try with_reducible refine wpAny_holding ?_
  first | refine wpAny_bind (wpAny_pure ?_) | skip
  refine wpAny_bind (wpAny_sequenceKey ht.typeIs (by decide) ?_)
  refine wpAny_bind (wpAny_callSpecial?_slot (name := Str.ofString "__getitem__") ht.typeIs PyProof.Rows.slot_tuple_getitem
    (wpAny_call_entry PyProof.Rows.slot_tuple_getitem ht.typeIs entry_tuple_getitem ?_ (args_tuple_getitem _ _)))
  show wpAny _ _ (Builtin.Tuple.tupleItemsOf (.ref t) >>= _) _ _ s
  refine wpAny_bind (tupleItemsOf_ ht ?_)
  refine wpAny_bind (wpAny_typeOf hTs ?_)
  rw [if_pos (by decide)]
  refine wpAny_bind (sliceApplied_gen hs pl pu ?_)
  have hno : ¬ ((((sIx items.size 0 lo : Nat) : Int) == 0 && (1 : Int) == 1 && (sIx items.size items.size hi - sIx items.size 0 lo) == items.size) = true) := by
    intro q
    rw [Bool.and_eq_true, Bool.and_eq_true] at q
    have q1 : ((sIx items.size 0 lo : Nat) : Int) = 0 := eq_of_beq q.1.1
    have q2 : sIx items.size items.size hi - sIx items.size 0 lo = items.size := eq_of_beq q.2
    exact hw ⟨by omega, by omega⟩
  show wpAny _ _ (if (((sIx items.size 0 lo : Nat) : Int) == 0 && (1 : Int) == 1 && (sIx items.size items.size hi - sIx items.size 0 lo) == items.size) = true then _ else _) _ _ s
  rw [if_neg hno, pick_gen]
  first
    | exact wpAny_bind (m := Builtin.Tuple.tupleExact _) (wpAny_newObj_type (wpAny_pure ⟨_, rfl, wpAny_pure h⟩) htake)
    | exact wpAny_bind (m := Builtin.Tuple.tupleExact _) (wpAny_newObj_type (wpAny_bind (wpAny_pure (wpAny_pure ⟨_, rfl, wpAny_pure h⟩))) htake)
    | exact wpAny_bind (wpAny_bind (m := Builtin.Tuple.tupleExact _) (wpAny_newObj_type (wpAny_pure (wpAny_pure ⟨_, rfl, wpAny_pure h⟩)) htake))
    | exact wpAny_bind (wpAny_bind (m := Builtin.Tuple.tupleExact _) (wpAny_newObj_type (wpAny_pure ⟨_, rfl, wpAny_pure h⟩) htake))
end
end HT
namespace L2
open PySem PySem.Spec PyProof.Rows
abbrev TO := St → Hp → (Option Int → Hp → Prop) → Prop
def PO (X : Cx) (e : Option Expr) (t : TO) : Prop :=
  ∀ (pins : List (Addr × Obj)) (s : Shared) (σ : St) (H : Hp) (Q : Option Int → Hp → Prop), Inv X pins σ H s → t σ H Q →
    wpAny (model X.prog X.w) X.A (evalPart e X.env) (fun u s' => ∃ o H', Inv X pins σ H' s' ∧ IsPart u o ∧ Q o H') X.xe s
def tNoPart : TO := fun _ H Q => Q none H
def tPart (t : TE) : TO := fun σ H Q => t σ H fun x H1 => ∃ i, x = .int i ∧ Q (some i) H1
section
variable {X : Cx} {e : Expr} {te : TE} {lo hi : Option Expr} {tl th : TO} {pos p2 : Pos}
theorem po_none : PO X none tNoPart := by
  intro pins s σ H Q I h
  rw [evalPart_none]
  exact wpAny_pure ⟨none, H, I, .none, h⟩
theorem po_some (h : PE X e te) : PO X (some e) (tPart te) := by
  intro pins s σ H Q I hw
  rw [evalPart_some]
  refine thn (h pins s σ H _ I hw) fun u s1 ⟨x, H1, I1, r1, q1⟩ => ?_
  obtain ⟨i, rfl, q⟩ := q1
  obtain ⟨t, rfl⟩ := r1
  exact ⟨some i, H1, I1, .int i t, q⟩
def SlR (X : Cx) (r : V → Option Int → Option Int → Hp → VK → Prop) : Prop :=
  ∀ (pins : List (Addr × Obj)) (s : Shared) (σ : St) (H : Hp) (x : V) (v vl vu : Value) (lo hi : Option Int) (sl : Addr) (Q : VK), Inv X pins σ H s → RelV x v → s.heap.IsSliceOf sl vl vu .none → IsPart vl lo → IsPart vu hi → r x lo hi H Q →
    ∃ T id, typeLookup (.type T) "__getitem__" = pure (some (.builtin id)) ∧ s.TypeIs v T ∧ wpAny (model X.prog X.w) X.A (getItem v (.ref sl)) (EP X pins σ Q) X.xe s
theorem SlR.or {r r' : V → Option Int → Option Int → Hp → VK → Prop} (h : SlR X r) (h' : SlR X r') : SlR X (fun x lo hi H Q => r x lo hi H Q ∨ r' x lo hi H Q) := by
  intro pins s σ H x v vl vu lo hi sl Q I rx hs pl pu q
  rcases q with q | q
  · exact h pins s σ H x v vl vu lo hi sl Q I rx hs pl pu q
  · exact h' pins s σ H x v vl vu lo hi sl Q I rx hs pl pu q
def tSl (r : V → Option Int → Option Int → Hp → VK → Prop) (te : TE) (tl th : TO) : TE := fun σ H Q => te σ H fun x H1 => tl σ H1 fun l H2 => th σ H2 fun u H3 => r x l u H3 Q
theorem pe_slice {r : V → Option Int → Option Int → Hp → VK → Prop} (hr : SlR X r) (he : PE X e te) (hl : PO X lo tl) (hu : PO X hi th) : PE X (.Subscript e (.Slice lo hi none p2) pos) (tSl r te tl th) := by
  intro pins s σ H Q I h
  refine Subscript_ (thn (he pins s σ H _ I h) fun v s1 ⟨x, H1, I1, r1, q1⟩ => ?_)
  refine wpAny_Slice (thn (hl pins s1 σ H1 _ I1 q1) fun vl s2 ⟨l, H2, I2, pl, q2⟩ => thn (hu pins s2 σ H2 _ I2 q2) fun vu s3 ⟨u, H3, I3, pu, q3⟩ => ?_)
  rw [evalPart_none]
  refine wpAny_pure ?_
  have I4 : Inv X pins σ H3 { s3 with heap := s3.heap.push { cls := .type "slice", data := .fields #[vl, vu, .none] } } := I3.kept (t' := s3.toks) fun b ob q => Heap.get?_push_of_some _ q
  obtain ⟨T, id, hT, ht, hg⟩ := hr pins { s3 with heap := s3.heap.push { cls := .type "slice", data := .fields #[vl, vu, .none] } } σ H3 x v vl vu l u s3.heap.objs.size Q I4 r1 (Heap.IsSliceOf.new ..) pl pu q3
  show wpAny (model X.prog X.w) X.A (subscriptTail e (.Slice lo hi none p2) v (.ref s3.heap.objs.size)) (EP X pins σ Q) X.xe { s3 with heap := s3.heap.push { cls := .type "slice", data := .fields #[vl, vu, .none] } }
  exact tail_any (ops := [.ref s3.heap.objs.size, v]) ht hT hg (by with_unfolding_all rfl)
def cutV (xs : List V) (lo hi : Option Int) : List V := (xs.drop (HT.sIx xs.length 0 lo)).take (HT.sIx xs.length xs.length hi - HT.sIx xs.length 0 lo)
theorem cutV_length (xs : List V) (lo hi : Option Int) : (cutV xs lo hi).length ≤ xs.length := by
  unfold cutV
  rw [List.length_take, List.length_drop]
  omega
def rSlT (K : PySem.W.Frag) : V → Option Int → Option Int → Hp → VK → Prop := fun x lo hi H Q => ∃ a xs, x = .ref a ∧ SqT K H a xs ∧
  ¬ (HT.sIx xs.length 0 lo = 0 ∧ HT.sIx xs.length xs.length hi = xs.length) ∧ ∀ p, H p = none → Q (.ref p) (upd H p (.tup (cutV xs lo hi)))
theorem sl_tup : SlR X (rSlT X.K) := by
  intro pins s σ H x v vl vu lo hi sl Q I rx hs pl pu h
  obtain ⟨a, xs, rfl, hx, hw, q⟩ := h
  cases rx
  obtain ⟨its, r, ht, hz⟩ := I.tuple hx
  have hlen : its.toArray.size = xs.length := by rw [List.size_toArray]; exact r.length.symm
  refine ⟨"tuple", _, PyProof.Rows.slot_tuple_getitem.lookup, ht.typeIs, ?_⟩
  refine HT.getItem_tuple_cut ht hs pl pu (by rw [hlen]; exact hw) ?_ (by rw [hlen]; exact hz)
  rw [hlen]
  refine ⟨.ref s.heap.objs.size, _, I.laid (t' := s.toks) (o := .tup (cutV xs lo hi)) (fun b ob q => Heap.get?_push_of_some _ q) (Nat.le_refl _) ?_, rfl, q _ (I.hok.fresh (Nat.le_refl _))⟩
  exact ⟨Nat.le_trans (cutV_length xs lo hi) hz, _, (r.drop (HT.sIx xs.length 0 lo)).take (HT.sIx xs.length xs.length hi - HT.sIx xs.length 0 lo), IsTup.new _ _⟩
end
end L2
namespace L2
open PySem PySem.Spec PyProof.Rows
def ixN (n : Nat) (i : Int) : Option Nat := if 0 ≤ i then (if i < n then some i.toNat else none) else if -(n : Int) ≤ i then some (i + n).toNat else none
def atI {α : Type} (xs : List α) (i : Int) : Option α := (ixN xs.length i).bind fun j => xs[j]?
theorem ixN_seq {n : Nat} {i : Int} {j : Nat} (h : ixN n i = some j) : seqIndex? i n = some j ∧ j < n ∧ -(n : Int) ≤ i ∧ i < n := by
  unfold ixN at h
  by_cases h0 : 0 ≤ i
  · rw [if_pos h0] at h
    by_cases h1 : i < n
    · rw [if_pos h1] at h
      have e : i.toNat = j := Option.some.inj h
      exact ⟨by rw [seqIndex_of h0 h1, e], by omega, by omega, h1⟩
    · rw [if_neg h1] at h; cases h
  · rw [if_neg h0] at h
    by_cases h1 : -(n : Int) ≤ i
    · rw [if_pos h1] at h
      have e : (i + n).toNat = j := Option.some.inj h
      exact ⟨by rw [seqIndex_neg (by omega) h1, e], by omega, h1, by omega⟩
    · rw [if_neg h1] at h; cases h
theorem atI_get {α : Type} {xs : List α} {i : Int} {v : α} (h : atI xs i = some v) : ∃ j, seqIndex? i xs.length = some j ∧ xs[j]? = some v ∧ j < xs.length ∧ -(xs.length : Int) ≤ i ∧ i < xs.length := by
  unfold atI at h
  cases e : ixN xs.length i with
  | none => rw [e] at h; cases h
  | some j =>
    rw [e] at h
    obtain ⟨h1, h2, h3, h4⟩ := ixN_seq e
    exact ⟨j, h1, h, h2, h3, h4⟩
def PlainIx (b : Expr) : Prop := ∀ o i, subscripted b false o i = operate [o, i] (getItem o i)
def IxR (X : Cx) (r : R2) : Prop :=
  ∀ (value slice : Expr) (pins : List (Addr × Obj)) (s : Shared) (σ : St) (H : Hp) (x y : V) (v u : Value) (Q : VK), Inv X pins σ H s → RelV x v → RelV y u → r x y H Q →
    subscripted slice false v u = operate [v, u] (getItem v u) → wpAny (model X.prog X.w) X.A (subscriptTail value slice v u) (EP X pins σ Q) X.xe s
def MtR (X : Cx) (id : String) (r : V → List V → Hp → VK → Prop) : Prop :=
  ∀ (pins : List (Addr × Obj)) (s : Shared) (σ : St) (H : Hp) (x : V) (xs : List V) (v : Value) (us : List Value) (Q : VK), Inv X pins σ H s → RelV x v → Vals xs us → r x xs H Q →
    wpAny (model X.prog X.w) X.A (call (.builtin id) (v :: us)) (EP X pins σ Q) X.xe s
section
variable {X : Cx} {a b : Expr} {ta tb : TE} {pos : Pos}
theorem IxR.or {r r' : R2} (h : IxR X r) (h' : IxR X r') : IxR X (fun x y H Q => r x y H Q ∨ r' x y H Q) := by
  intro value slice pins s σ H x y v u Q I rx ry q hs
  rcases q with q | q
  · exact h value slice pins s σ H x y v u Q I rx ry q hs
  · exact h' value slice pins s σ H x y v u Q I rx ry q hs
theorem pe_ix {r : R2} (hr : IxR X r) (ha : PE X a ta) (hb : PE X b tb) (hs : PlainIx b) : PE X (.Subscript a b pos) (tOp r ta tb) := by
  intro pins s σ H Q I h
  exact Subscript_ (binT ha hb I h fun v u s2 x y H2 I2 rx ry q => hr a b pins s2 σ H2 x y v u Q I2 rx ry q (hs _ _))
def rIxL (K : PySem.W.Frag) : R2 := fun x y H Q => ∃ p xs i v, x = .ref p ∧ y = .int i ∧ SqL K H p xs ∧ atI xs i = some v ∧ Q v H
def rIxT (K : PySem.W.Frag) : R2 := fun x y H Q => ∃ p xs i v, x = .ref p ∧ y = .int i ∧ SqT K H p xs ∧ atI xs i = some v ∧ Q v H
def rIxS : R2 := fun x y H Q => ∃ z i c, x = .str z ∧ y = .int i ∧ z.length ≤ sizeLine ∧ atI z.cps.toList i = some c ∧ Q (.str ⟨#[c]⟩) H
theorem ix_list : IxR X (rIxL X.K) := by
  intro value slice pins s σ H x y v u Q I rx ry h hs
  obtain ⟨p, xs, i, z, rfl, rfl, hq, he, q⟩ := h
  cases rx
  obtain ⟨t, rfl⟩ := ry
  obtain ⟨its, r, pl, hz⟩ := I.list hq
  obtain ⟨j, h1, h2, h3, h4, h5⟩ := atI_get he
  obtain ⟨w, ew, rw'⟩ := r.get h2
  have hl := r.length
  have hn := line63
  have fin : EP X pins σ Q w s := ⟨z, H, I, rw', q⟩
  by_cases h0 : 0 ≤ i
  · have hj : i.toNat = j := by
      rw [seqIndex_of h0 h5] at h1
      exact Option.some.inj h1
    exact item_listR pl.isList h0 (by omega) (by rw [hj]; simpa using ew) fin hs
  · have hj : (i + (its.toArray.size : Int)).toNat = j := by
      rw [seqIndex_neg (by omega) h4] at h1
      rw [List.size_toArray, ← hl]
      exact Option.some.inj h1
    exact subscriptTail_builtinR (x := w) pl.isList.typeIs slot_list_getitem.lookup
      (wpAny_getItem_list_neg (Q := fun r s' => r = w ∧ EP X pins σ Q r s') pl.isList (by omega) (by rw [List.size_toArray] <;> omega) (by omega) (by rw [hj]; simpa using ew) ⟨rfl, fin⟩) hs
theorem ix_tup : IxR X (rIxT X.K) := by
  intro value slice pins s σ H x y v u Q I rx ry h hs
  obtain ⟨p, xs, i, z, rfl, rfl, hq, he, q⟩ := h
  cases rx
  obtain ⟨t, rfl⟩ := ry
  obtain ⟨its, r, pl, hz⟩ := I.tuple hq
  obtain ⟨j, h1, h2, h3, h4, h5⟩ := atI_get he
  obtain ⟨w, ew, rw'⟩ := r.get h2
  have hl := r.length
  have hn := line63
  have fin : EP X pins σ Q w s := ⟨z, H, I, rw', q⟩
  exact subscriptTail_builtinR (x := w) pl.typeIs slot_tuple_getitem.lookup
    (getItem_tuple (j := j) (Q := fun r s' => r = w ∧ EP X pins σ Q r s') pl (by omega) (by omega) (by rw [List.size_toArray, ← hl]; exact h1) (by simpa using ew) ⟨rfl, fin⟩) hs
theorem ix_str : IxR X rIxS := by
  intro value slice pins s σ H x y v u Q I rx ry h hs
  obtain ⟨z, i, c, rfl, rfl, hz, he, q⟩ := h
  obtain ⟨t, rfl⟩ := rx
  obtain ⟨t', rfl⟩ := ry
  obtain ⟨j, h1, h2, h3, h4, h5⟩ := atI_get he
  have hl : z.cps.toList.length = z.length := by simp [Str.length]
  rw [hl] at h1 h4 h5
  have hn := line63
  exact tail_any (typeIs_str s z t) slot_str_getitem.lookup (getItem_str (c := c) (by
    have e1 : decide (i < -(2 ^ 63 : Int)) = false := decide_eq_false (by omega)
    have e2 : decide (i ≥ 2 ^ 63) = false := decide_eq_false (by omega)
    rw [e1, e2, Bool.or_false]) (by rw [h1]; simpa using h2) ⟨.str ⟨#[c]⟩, H, I.tok _, ⟨_, rfl⟩, q⟩) hs
def rIx (K : PySem.W.Frag) : R2 := fun x y H Q => rIxL K x y H Q ∨ rIxT K x y H Q ∨ rIxS x y H Q
theorem ix_seq : IxR X (rIx X.K) := ix_list.or (ix_tup.or ix_str)
theorem mapSeq_set (its : List Value) (n j : Nat) (u : Value) : Obj.mapSeq (·.setIfInBounds j u) { cls := .type "list", data := .seq its.toArray n } = { cls := .type "list", data := .seq (its.set j u).toArray n } := by
  simp [Obj.mapSeq]
theorem Inv.lst {pins : List (Addr × Obj)} {σ : St} {H : Hp} {s : Shared} {p : Addr} {xs : List V} (I : Inv X pins σ H s) (h : H p = some (.lst xs)) :
    ∃ (its : List Value) (n : Nat), Vals xs its ∧ s.heap.get? p = some { cls := .type "list", data := .seq its.toArray n } ∧ xs.length ≤ sizeLine := by
  obtain ⟨z, its, n, r, e⟩ := I.hok p _ h
  exact ⟨its, n, r, e, z⟩
theorem Inv.lstUpd {pins : List (Addr × Obj)} {σ : St} {H : Hp} {s : Shared} {p : Addr} {xs ys : List V} {its its' : List Value} {n n' : Nat} {f : Obj → Obj} (I : Inv X pins σ H s) (h : H p = some (.lst xs))
    (ho : s.heap.get? p = some { cls := .type "list", data := .seq its.toArray n }) (hf : f { cls := .type "list", data := .seq its.toArray n } = { cls := .type "list", data := .seq its'.toArray n' }) (r : Vals ys its') (hz : ys.length ≤ sizeLine) (t : Nat) :
    Inv X pins σ (upd H p (.lst ys)) { s with heap := s.heap.update p f, toks := t } := by
  have e : (s.heap.update p f).get? p = some { cls := .type "list", data := .seq its'.toArray n' } := by
    rw [Heap.get?_update_self f ho (by rw [hf] <;> rfl), hf]
  refine I.write (x := p) (e := p) (by rw [h]; trivial) (.inl rfl) (fun b u hb q => (Heap.get?_update_other _ _ (Ne.symm hb)).trans q) ⟨_, e⟩ ?_
  exact ⟨hz, its', n', r, e⟩
def rSetL : V → V → V → Hp → (Hp → Prop) → Prop := fun o i v H Q => ∃ p xs k j, o = .ref p ∧ i = .int k ∧ H p = some (.lst xs) ∧ ixN xs.length k = some j ∧ Q (upd H p (.lst (xs.set j v)))
theorem set_list : PSet X rSetL := by
  intro pins s σ H o i v ov iv u Q I ro ri rv h
  obtain ⟨p, xs, k, j, rfl, rfl, hp, hj, q⟩ := h
  cases ro
  obtain ⟨t, rfl⟩ := ri
  obtain ⟨its, n, r, ho, hz⟩ := I.lst hp
  obtain ⟨h1, h2, h3, h4⟩ := ixN_seq hj
  have hl := r.length
  have hn := line63
  have I' : Inv X pins σ (upd H p (.lst (xs.set j v))) { s with heap := s.heap.update p (Obj.mapSeq (·.setIfInBounds j u)) } :=
    I.lstUpd hp ho (mapSeq_set its n j u) (r.set rv j) (by rw [List.length_set]; exact hz) s.toks
  by_cases h0 : 0 ≤ k
  · have hk : k.toNat = j := by
      rw [seqIndex_of h0 h4] at h1
      exact Option.some.inj h1
    exact PySem.W.ki_setAt ho h0 (by omega) (by rw [List.size_toArray, ← hl]; exact h4) (by rw [hk]; exact ⟨_, I', q⟩)
  · have hk : (k + (its.toArray.size : Int)).toNat = j := by
      rw [seqIndex_neg (by omega) h3] at h1
      rw [List.size_toArray, ← hl]
      exact Option.some.inj h1
    exact PySem.W.ki_setBack ho (by omega) (by rw [List.size_toArray, ← hl]; exact h3) (by omega) (by rw [hk]; exact ⟨_, I', q⟩)
theorem slice_bounds (lo hi : Option Int) (n : Nat) : (sliceBounds lo hi none n).1 = ((HT.sIx n 0 lo : Nat) : Int) ∧ (sliceBounds lo hi none n).2.1 = ((HT.sIx n n hi : Nat) : Int) ∧ (sliceBounds lo hi none n).2.2 = 1 := by
  refine ⟨?_, ?_, rfl⟩
  · cases lo with
    | none => simp [sliceBounds, HT.sIx]
    | some i =>
      simp only [sliceBounds, HT.sIx, Option.getD_none, show (1 : Int) > 0 by decide, if_true]
      by_cases h : i < 0
      · simp only [h, if_true] <;> omega
      · simp only [h, if_false] <;> omega
  · cases hi with
    | none => simp [sliceBounds, HT.sIx]
    | some i =>
      simp only [sliceBounds, HT.sIx, Option.getD_none, show (1 : Int) > 0 by decide, if_true]
      by_cases h : i < 0
      · simp only [h, if_true] <;> omega
      · simp only [h, if_false] <;> omega
theorem slicePick_cut (its : List Value) (lo hi : Option Int) : slicePick its.toArray lo hi none = ((its.drop (HT.sIx its.length 0 lo)).take (HT.sIx its.length its.length hi - HT.sIx its.length 0 lo)).toArray := by
  obtain ⟨h1, h2, h3⟩ := slice_bounds lo hi its.toArray.size
  unfold slicePick
  rw [h1, h2, h3]
  simp only [sliceRange_one, pick_run, List.size_toArray] <;> rfl
def rSlL (K : PySem.W.Frag) : V → Option Int → Option Int → Hp → VK → Prop := fun x lo hi H Q => ∃ a xs, x = .ref a ∧ SqL K H a xs ∧ ∀ p, H p = none → Q (.ref p) (upd H p (.lst (cutV xs lo hi)))
theorem sl_list : SlR X (rSlL X.K) := by
  intro pins s σ H x v vl vu lo hi sl Q I rx hs pl pu h
  obtain ⟨a, xs, rfl, hx, q⟩ := h
  cases rx
  obtain ⟨its, r, ht, hz⟩ := I.list hx
  have hlen := r.length
  refine ⟨"list", _, slot_list_getitem.lookup, ht.isList.typeIs, ?_⟩
  refine wpAny_getItem_list_slice ht.isList hs pl pu .none (by simp) ?_ (by rw [List.size_toArray] <;> omega)
  rw [slicePick_cut, ← hlen]
  refine ⟨.ref s.heap.objs.size, _, I.laid (t' := s.toks) (o := .lst (cutV xs lo hi)) (fun b ob q => Heap.get?_push_of_some _ q) (Nat.le_refl _) ?_, rfl, q _ (I.hok.fresh (Nat.le_refl _))⟩
  exact ⟨Nat.le_trans (cutV_length xs lo hi) hz, _, 0, (r.drop (HT.sIx xs.length 0 lo)).take (HT.sIx xs.length xs.length hi - HT.sIx xs.length 0 lo), Heap.get?_push_size _ rfl⟩
theorem call_len_seq : CallR X (.builtin "len") (fun xs H Q => ∃ p ys, xs = [.ref p] ∧ (SqL X.K H p ys ∨ SqT X.K H p ys) ∧ Q (.int ys.length) H) := by
  intro pins s σ H xs us Q I r h
  obtain ⟨p, ys, rfl, hq, q⟩ := h
  obtain ⟨u, rfl, rx⟩ := vals1 r
  cases rx
  have hn := line63
  rcases hq with hq | hq
  · obtain ⟨its, r', pl, hz⟩ := I.list hq
    have hlen := r'.length
    exact Calls.call_len_list pl.isList (by simp only [List.size_toArray] <;> omega) ⟨.int ys.length, H, I.tok _, ⟨s.toks + 1, by rw [List.size_toArray, hlen]⟩, q⟩
  · obtain ⟨its, r', pl, hz⟩ := I.tuple hq
    have hlen := r'.length
    exact len_tuple pl (by simp only [List.size_toArray] <;> omega) ⟨.int ys.length, H, I.tok _, ⟨s.toks + 1, by rw [List.size_toArray, hlen]⟩, q⟩
theorem call_len_str : CallR X (.builtin "len") (fun xs H Q => ∃ z, xs = [.str z] ∧ z.length ≤ sizeLine ∧ Q (.int z.length) H) := by
  intro pins s σ H xs us Q I r h
  obtain ⟨z, rfl, hz, q⟩ := h
  obtain ⟨u, rfl, t, rfl⟩ := vals1 r
  have hn := line63
  exact len_str (by omega) ⟨.int z.length, H, I.tok _, ⟨_, rfl⟩, q⟩
theorem CallR.or {f : Value} {r r' : List V → Hp → VK → Prop} (h : CallR X f r) (h' : CallR X f r') : CallR X f (fun xs H Q => r xs H Q ∨ r' xs H Q) := by
  intro pins s σ H xs us Q I rs q
  rcases q with q | q
  · exact h pins s σ H xs us Q I rs q
  · exact h' pins s σ H xs us Q I rs q
theorem call_list_of : CallR X (.type "list") (fun xs H Q => ∃ p ys, xs = [.ref p] ∧ (SqL X.K H p ys ∨ SqT X.K H p ys) ∧ ∀ l, H l = none → Q (.ref l) (upd H l (.lst ys))) := by
  intro pins s σ H xs us Q I r h
  obtain ⟨p, ys, rfl, hq, q⟩ := h
  obtain ⟨u, rfl, rx⟩ := vals1 r
  cases rx
  have fin : ∀ (its : List Value), Vals ys its → ys.length ≤ sizeLine → ∀ (h' : Heap) (c' : Nat), (∀ b o', s.heap.get? b = some o' → h'.get? b = some o') →
      h'.get? s.heap.objs.size = some { cls := .type "list", dict := none, data := .seq its.toArray c', slots := #[] } → EP X pins σ Q (.ref s.heap.objs.size) { s with heap := h' } := fun its r' hz h' c' kp e =>
    ⟨.ref s.heap.objs.size, _, I.laid (t' := s.toks) kp (Nat.le_refl _) (show ObjOk X.prog X.w _ h' _ (.lst ys) from ⟨hz, its, c', r', e⟩), rfl, q _ (I.hok.fresh (Nat.le_refl _))⟩
  rcases hq with hq | hq
  · obtain ⟨its, r', pl, hz⟩ := I.list hq
    have hlen := r'.length
    obtain ⟨o, ho, hc, n, hd⟩ := pl.isList
    exact call_list_seq p (.inl rfl) ho hc hd (fun h' c' kp e => fin its r' hz h' c' kp e) (by simp only [List.size_toArray] <;> omega)
  · obtain ⟨its, r', pl, hz⟩ := I.tuple hq
    have hlen := r'.length
    obtain ⟨o, ho, hc, n, hd⟩ := pl
    exact call_list_seq p (.inr rfl) ho hc hd (fun h' c' kp e => fin its r' hz h' c' kp e) (by simp only [List.size_toArray] <;> omega)
def tyV (K : PySem.W.Frag) (T : String) (x : V) (H : Hp) : Prop := match x with
  | .str _ => T = "str"
  | .int _ => T = "int"
  | .ref p => (T = "list" ∧ ∃ xs, SqL K H p xs) ∨ (T = "tuple" ∧ ∃ o, K.lookup p = some o ∧ o.cls = .type "tuple" ∧ o.dict = none) ∨
      (T = "dict" ∧ ((∃ kvs, H p = some (.dK kvs)) ∨ ∃ kvs, H p = some (.dT kvs))) ∨ (T = "set" ∧ ∃ S n, H p = some (.set S n))
  | _ => False
theorem tyV_is {pins : List (Addr × Obj)} {σ : St} {H : Hp} {s : Shared} {T : String} {x : V} {v : Value} (I : Inv X pins σ H s) (r : RelV x v) (ty : tyV X.K T x H) :
    s.TypeIs v T ∧ ∀ a, v = .ref a → ∃ ob, s.heap.get? a = some ob ∧ ob.dict = none := by
  cases x with
  | str z =>
    obtain ⟨t, rfl⟩ := r
    cases (show T = "str" from ty)
    exact ⟨typeIs_str s z t, fun _ e => nomatch e⟩
  | int i =>
    obtain ⟨t, rfl⟩ := r
    cases (show T = "int" from ty)
    exact ⟨typeIs_int s i t, fun _ e => nomatch e⟩
  | ref p =>
    cases r
    rcases ty with ⟨rfl, xs, hq⟩ | ⟨rfl, o, hk, hc, hd⟩ | ⟨rfl, hk⟩ | ⟨rfl, S, n, hk⟩
    · obtain ⟨its, _, pl, _⟩ := I.list hq
      refine ⟨pl.isList.typeIs, fun a e => ?_⟩
      cases e
      obtain ⟨o, n, e, c, hd, _⟩ := pl
      exact ⟨o, e, hd⟩
    · refine ⟨⟨o, I.kIn p o hk, hc⟩, fun a e => ?_⟩
      cases e
      exact ⟨o, I.kIn _ o hk, hd⟩
    · have z : ∃ o, s.heap.get? p = some o ∧ o.ExactDict := by
        rcases hk with ⟨kvs, hk⟩ | ⟨kvs, hk⟩
        · obtain ⟨_, _, _, _, o, _, _, e, ex, _⟩ := I.hok p _ hk
          exact ⟨o, e, ex⟩
        · obtain ⟨_, _, _, _, o, _, _, e, ex, _⟩ := I.hok p _ hk
          exact ⟨o, e, ex⟩
      obtain ⟨o, e, ex⟩ := z
      refine ⟨⟨o, e, ex.1⟩, fun a e2 => ?_⟩
      cases e2
      exact ⟨o, e, ex.2.1⟩
    · obtain ⟨o, _, _, _, e, ex, _⟩ := I.hok p _ hk
      refine ⟨⟨o, e, ex.1⟩, fun a e2 => ?_⟩
      cases e2
      exact ⟨o, e, ex.2.1⟩
  | _ => exact False.elim ty
def tBM (K : PySem.W.Frag) (T : String) (r : V → List V → Hp → VK → Prop) (to : TE) (t : TA) : TE := fun σ H Q => to σ H fun x H1 => tyV K T x H1 ∧ t σ H1 fun xs H2 => r x xs H2 Q
variable {o e : Expr} {es : List Expr} {to : TE} {t : TA} {name : Str} {apos cpos : Pos} {T id : String} {r : V → List V → Hp → VK → Prop}
theorem pe_bm (pa : PlainAttrs T) (slot : Slot T name id) (hty : typeOf (.builtin id) = pure (.type "method_descriptor")) (hm : MtR X id r) (ho : PE X o to) (ha : PA X (e :: es) t)
    (hbase : attributeBase o name X.env (eval o X.env) = eval o X.env := by rfl)
    (hfew : ((backTo cpos (starEach (e :: es) X.env)).all (fun x => !x.1) && (backToKw cpos (keywordEach [] X.env)).all (fun x => x.1.isSome)
      && decide ((e :: es).length + ([] : List Keyword).length + (if ([] : List Keyword).isEmpty then 0 else 1) < 30)) = true := by rfl)
    (hline : (apos.endLine == cpos.line) = true := by rfl) (hs : starEach (e :: es) X.env = (false, eval e X.env) :: starEach es X.env := by rfl) (hplain : (backTo cpos (starEach es X.env)).any (·.1) = false := by rfl) :
    PE X (.Call (.Attribute o name apos) (e :: es) [] cpos) (tBM X.K T r to t) := by
  intro pins s σ H Q I h
  refine wpAny_Call_method_late hbase hfew hline rfl (thn (ho pins s σ H _ I h) fun v s1 ⟨x, H1, I1, r1, ty, q1⟩ => ?_)
  obtain ⟨h1, h2⟩ := tyV_is I1 r1 ty
  refine ⟨T, id, pa, slot, hty, h1, h2, ?_⟩
  have hA := ha cpos pins s1 σ H1 _ I1 q1
  rw [hs] at hA ⊢
  refine Calls.callWith_builtin (by show (false || (backTo cpos (starEach es X.env)).any (·.1)) = false; rw [hplain] <;> rfl) (Calls.evalArgs_plain ?_)
  exact thn hA fun us s2 ⟨vs, H2, I2, r2, q2⟩ => hm pins s2 σ H2 x vs v us Q I2 r1 r2 q2
/- xs.append(e), list.index on a module's tuple .. are MtR facts of 06m -/
end
end L2
namespace L2
open PySem PySem.Spec PyProof.Rows
def MtM (X : Cx) (id : String) (r : V → List V → Hp → VK → Prop) : Prop :=
  ∀ (pins : List (Addr × Obj)) (s : Shared) (σ : St) (H : Hp) (x : V) (xs : List V) (v : Value) (us : List Value) (Q : VK), Inv X pins σ H s → RelV x v → Vals xs us → r x xs H Q →
    wpAny (model X.prog X.w) X.A (call (.builtin id) (v :: us)) (EP X pins σ Q) X.xe s
theorem Vals.one : ∀ {x : V} {us : List Value}, Vals [x] us → ∃ u, us = [u] ∧ RelV x u
  | _, _, .cons r .nil => ⟨_, rfl, r⟩
theorem Vals.rep {xs : List V} {us : List Value} (h : Vals xs us) : ∀ k : Nat, Vals (List.replicate k xs).flatten (List.replicate k us).flatten
  | 0 => .nil
  | k + 1 => by
    rw [List.replicate_succ, List.replicate_succ, List.flatten_cons, List.flatten_cons]
    exact Vals.append h (Vals.rep h k)
theorem foldl_rep (its : List Value) : ∀ (k : Nat) (acc : List Value),
    List.foldl (fun x1 x2 => x1 ++ x2) acc.toArray (List.replicate k its.toArray) = (acc ++ (List.replicate k its).flatten).toArray
  | 0, acc => by simp
  | k + 1, acc => by
    have e : acc.toArray ++ its.toArray = (acc ++ its).toArray := by simp
    have e2 : (acc ++ its) ++ (List.replicate k its).flatten = acc ++ (List.replicate (k + 1) its).flatten := by
      rw [List.replicate_succ, List.flatten_cons, List.append_assoc]
    rw [← e2, ← foldl_rep its k (acc ++ its), ← e, List.replicate_succ, List.foldl_cons]
section
variable {X : Cx} {pins : List (Addr × Obj)} {σ : St} {H : Hp} {s : Shared} {l b : Addr} {xs ys zs : List V}
theorem Inv.lset {its its' : List Value} {n : Nat} {f : Array Value → Array Value} {t' : Nat} (I : Inv X pins σ H s) (hH : H l = some (.lst xs))
    (e : s.heap.get? l = some { cls := .type "list", data := .seq its.toArray n }) (hf : f its.toArray = its'.toArray) (hv : Vals ys its') (hz : ys.length ≤ sizeLine) :
    Inv X pins σ (upd H l (.lst ys)) { s with heap := s.heap.update l (Obj.mapSeq f), toks := t' } := by
  have q := PySem.IsL.update e f
  rw [hf] at q
  refine I.write (x := l) (e := l) (by rw [hH]; exact trivial) (.inl rfl) (fun b' u hb hu => (Heap.get?_update_other s.heap (Obj.mapSeq f) (Ne.symm hb)).trans hu) ⟨_, q⟩ ?_
  exact ⟨hz, its', _, hv, q⟩
theorem Inv.lnew {its : List Value} {t' : Nat} (I : Inv X pins σ H s) (hv : Vals ys its) (hz : ys.length ≤ sizeLine) :
    Inv X pins σ (upd H s.heap.objs.size (.lst ys)) { s with heap := s.heap.push { cls := .type "list", data := .seq its.toArray }, toks := t' } :=
  I.laid (fun _ _ q => Heap.get?_push_of_some _ q) (Nat.le_refl _) ⟨hz, its, 0, hv, Heap.get?_push_size _ rfl⟩
theorem Inv.fresh (I : Inv X pins σ H s) : H s.heap.objs.size = none := I.hok.fresh (Nat.le_refl _)
theorem Inv.lstM (I : Inv X pins σ H s) (hH : H l = some (.lst xs)) : xs.length ≤ sizeLine ∧ ∃ (its : List Value) (n : Nat), Vals xs its ∧ xs.length = its.length ∧ s.heap.get? l = some { cls := .type "list", data := .seq its.toArray n } := by
  obtain ⟨z, its, n, r, e⟩ := I.hok l _ hH
  exact ⟨z, its, n, r, r.length, e⟩
theorem notLongL {n : Nat} (h : n ≤ sizeLine) : Builtin.List.listTooLong n = false := by
  unfold Builtin.List.listTooLong
  exact decide_eq_false (by omega)
end
section
variable {X : Cx}
def rAppend : V → List V → Hp → VK → Prop := fun x vs H Q => ∃ l xs y, x = .ref l ∧ vs = [y] ∧ H l = some (.lst xs) ∧ xs.length < sizeLine ∧ Q .non (upd H l (.lst (xs ++ [y])))
theorem mt_append : MtM X "list.append" rAppend := by
  intro pins s σ H x vs v us Q I rx rv h
  obtain ⟨l, xs, y, rfl, rfl, hH, hz, q⟩ := h
  cases rx
  obtain ⟨u, rfl, ru⟩ := rv.one
  obtain ⟨z, its, n, r, hl, e⟩ := I.lstM hH
  refine call_meets F.slot_list_append ⟨_, e, rfl⟩ F.entry_list_append (F.args_list_append_2 _ _) (PySem.list_append l its.toArray n u (by rw [List.size_toArray]; omega)) ⟨e, ?_⟩
  refine ⟨.non, _, I.lset (its' := its ++ [u]) hH e (by simp) (r.append (.cons ru .nil)) ?_, rfl, q⟩
  rw [List.length_append, List.length_singleton]
  omega
def rCat : R2 := fun x y H Q => ∃ l b xs zs, x = .ref l ∧ y = .ref b ∧ H l = some (.lst xs) ∧ H b = some (.lst zs) ∧ xs.length + zs.length ≤ sizeLine ∧ ∀ p, H p = none → Q (.ref p) (upd H p (.lst (xs ++ zs)))
theorem op_cat : OpR X (binaryOp .Add) rCat := by
  intro pins s σ H x y v u Q I rx ry h
  obtain ⟨l, b, xs, zs, rfl, rfl, hH, hB, hz, q⟩ := h
  cases rx
  cases ry
  obtain ⟨z, its, n, r, hl, e⟩ := I.lstM hH
  obtain ⟨z2, its2, n2, r2, hl2, e2⟩ := I.lstM hB
  refine PySem.P.add_list e e2 ?_ (by rw [List.size_toArray, List.size_toArray]; omega)
  have ea : its.toArray ++ its2.toArray = (its ++ its2).toArray := by simp
  rw [ea]
  exact ⟨.ref _, _, I.lnew (t' := s.toks) (r.append r2) (by rw [List.length_append]; omega), rfl, q _ I.fresh⟩
def rRep : R2 := fun x y H Q => ∃ l k xs, x = .ref l ∧ y = .int k ∧ H l = some (.lst xs) ∧ -(2 ^ 63) ≤ k ∧ k < 2 ^ 63 ∧ xs.length * k.toNat ≤ sizeLine ∧
  ∀ p, H p = none → Q (.ref p) (upd H p (.lst (List.replicate k.toNat xs).flatten))
theorem len_rep {α : Type} (xs : List α) (k : Nat) : (List.replicate k xs).flatten.length = k * xs.length := by
  induction k with
  | zero => simp
  | succ k ih => rw [List.replicate_succ, List.flatten_cons, List.length_append, ih, Nat.succ_mul, Nat.add_comm]
theorem op_rep : OpR X (binaryOp .Mult) rRep := by
  intro pins s σ H x y v u Q I rx ry h
  obtain ⟨l, k, xs, rfl, rfl, hH, h1, h2, hz, q⟩ := h
  cases rx
  obtain ⟨t, rfl⟩ := ry
  obtain ⟨z, its, n, r, hl, e⟩ := I.lstM hH
  have hlen : its.toArray.size * k.toNat ≤ sizeLine := by rw [List.size_toArray, ← hl]; exact hz
  have hcap : ¬ its.toArray.size * k.toNat > (2 ^ 63 - 1) / 8 := by
    have : (sizeLine : Nat) ≤ (2 ^ 63 - 1) / 8 := by decide
    omega
  have hfit : ¬ (!Builtin.List.listFitsIndex k) = true := by
    rw [fitsIndex_both h1 h2]
    exact Bool.false_ne_true
  have hlong : ¬ Builtin.List.listTooLong (its.toArray.size * k.toNat) = true := by
    rw [notLongL hlen]
    exact Bool.false_ne_true
  have hnew : List.foldl (fun x1 x2 => x1 ++ x2) #[] (List.replicate (if its.toArray.isEmpty = true then 0 else k.toNat) its.toArray) = (List.replicate k.toNat its).flatten.toArray := by
    have f0 : ∀ m : Nat, List.foldl (fun x1 x2 => x1 ++ x2) #[] (List.replicate m its.toArray) = (List.replicate m its).flatten.toArray := fun m => by
      have := foldl_rep its m []
      rw [List.nil_append] at this
      exact this
    rw [f0]
    cases its with
    | nil => simp
    | cons a r' => rw [if_neg (by simp)]
  refine wpAny_binaryOp_repeat_ref (T := "list") (U := "int") (by decide) ⟨_, e, rfl⟩ (fun s' => typeIs_int s' k t) noFill_list_mul F.fills_int_mul F.slot_int_rmul repeat_list F.slot_int_index.lookup
    (call_meets F.slot_int_rmul (typeIs_int s k t) F.entry_int_rmul (F.args_int_rmul_2 _ _) (int___rmul___int_list k t l its.toArray n)
      ⟨e, rfl, ⟨_, e, rfl⟩, call_meets F.slot_list_mul ⟨_, e, rfl⟩ F.entry_list_mul (F.args_list_mul_2 _ _) (AutoListH.list___mul___list_int_3 l its.toArray n k t hfit hcap hlong) ⟨e, ?_⟩⟩)
  rw [hnew]
  exact ⟨.ref _, _, I.lnew (t' := s.toks) (r.rep k.toNat) (by rw [len_rep, Nat.mul_comm]; exact hz), rfl, q _ I.fresh⟩
end
section
variable {prog : Program} {w : World} {A : Around} {E : Value → Shared → Prop} {s : Shared}
end
section
variable {X : Cx}
end
end L2
namespace Att
open PySem PySem.W PySem.Calls PyProof.Rows
theorem ints_of_wellAll {P : Params} {h : Heap} : ∀ (ns : List Int) (vs : List Value), WellAll P h vs (ns.map WData.int) → IntsAre vs ns := by
  intro ns
  induction ns with
  | nil =>
    intro vs w
    rw [List.map_nil] at w
    cases w
    exact .nil
  | cons n ns ih =>
    intro vs w
    rw [List.map_cons] at w
    cases w with
    | cons a b =>
      cases a
      exact .cons _ _ (ih _ b)
theorem script_of {l : OpenLaw} {n : Nat} (hn : l.most = some n) {P : Params} {h : Heap} {args : List WData} {vals : List Value}
    (hpre : l.row.toRowW.claim.pre args = true) (hwl : WellAll P h vals args) :
    ∃ a vs ns, vals = [Value.ref a] ∧ args = [WData.list (ns.map WData.int)] ∧ h.get? a = some { cls := .type "list", data := .seq vs.toArray } ∧ IntsAre vs ns ∧ ns.length ≤ n := by
  have hsh : WShape.hasAll [] args [.list .int] = true := (pre_splitW hpre).1
  have hc : l.pre.holds [] { args := args } = true := (pre_splitW hpre).2
  obtain ⟨d, r, rfl, h1, h2⟩ := hasAllW_cons hsh
  obtain rfl := hasAllW_nil h2
  obtain ⟨xs, rfl, h3⟩ := hasW_list h1
  obtain ⟨ns, rfl⟩ := items_int h3
  have hlen : ns.length ≤ n := by
    unfold OpenLaw.pre at hc
    have h4 : (WTm.not (.lt (.lit (.int (n : Int))) (.len (.arg 0)))).holds [] { args := [.list (ns.map .int)] } = true := by
      have h4 := (holds_andW hc).1
      rw [hn] at h4
      exact h4
    have h5 := condW_of h4 (w_not (w_lt w_lit (w_len_list (w_arg rfl))))
    rw [List.length_map] at h5
    refine Nat.le_of_not_lt fun q => ?_
    have q' : (n : Int) < ((ns.length : Nat) : Int) := by omega
    first
      | (rw [decide_eq_true q'] at h5; exact absurd h5 (by decide))
      | (simp at h5; omega)
  cases hwl with
  | cons w1 w2 =>
    cases w2
    cases w1 with
    | list ho hall => exact ⟨_, _, ns, rfl, rfl, ho, ints_of_wellAll ns _ hall, hlen⟩
theorem post_true (l : OpenLaw) (args : List WData) : l.row.toRowW.claim.post args (.bool true) args = true :=
  postW_of (r := l.row.toRowW) (X := (true == true))
    (show WShape.has [] (.bool true) .bool = true by first | rfl | decide | simp [WShape.has, WShape.arms, WShape.armsAll])
    (show (WTm.eq .res (.lit (.bool true))).value [] { args := args, res := some (.bool true), after := args } = some (.bool (true == true)) from w_eq_bool (w_res rfl) w_lit) rfl
theorem attach_call {l : OpenLaw} {n : Nat} {q : Program} {loose : List Str} {XP : (Str → Option Value) → Heap → Prop} {YP : World → Heap → Prop} {d : DefRec}
    (hn : l.most = some n) (hdf : d.params.defaults = [])
    (call : ∀ (w : World) (s₀ s₁ : Shared) (mg mb : Str → Option Value) (fa : Addr) (o : Obj) (pm cd doc : Value) (a : Addr) (vs : List Value) (ns : List Int),
      Ground q loose [] XP w s₀ mg mb s₁.heap → YP w s₁.heap →
      s₁.heap.get? fa = some o → o.data = .func (docDef d.name d.params d.body d.scope pm cd doc) → s₁.heap.CodeRec cd d.name → mg d.name = some (.ref fa) →
      s₁.heap.get? a = some { cls := .type "list", data := .seq vs.toArray } → IntsAre vs ns → ns.length ≤ n → s₁.gens = #[] →
      codeAny (model l.prog w) callerA (.call (.ref fa) ⟨[.ref a], []⟩) (fun r s' => r = .ok (.ret (.bool true)) ∧ OldK s₁.heap s'.heap ∧ s'.os = s₁.os ∧ AllBare s'.gens) s₁) :
    WalkO q loose XP YP l.row.toRowW d [] (fun f vs => PySem.call f vs) := by
  intro w s₀ s₁ mg mb G Y fa o pm cd doc dV kV ho hd hcd hD hmg hg args vals as hpre hlay hrd hwl hlo
  obtain rfl : dV = .none := Dflts.none hD hdf
  obtain rfl : kV = .none := Dflts.noKw hD
  obtain ⟨a, vs, ns, rfl, rfl, hobj, hints, hlen⟩ := script_of hn hpre hwl
  refine enter_call (codeAny_mono (call w s₀ s₁ mg mb fa o pm cd doc a vs ns G Y ho (fd_plain hd) hcd hmg hobj hints hlen hg) fun r s' hq => ?_)
  obtain ⟨rfl, h2, h3, h4⟩ := hq
  exact ⟨.inl ⟨.bool true, .bool true, [], rfl, fun _ => rfl, .bool true, post_true l _, fun _ => ⟨List.Pairwise.nil, fun _ hm => (nomatch hm)⟩⟩, h2, h3, h4⟩
section
variable {prog : Program} {w : World} {A : Around} {E : Value → Shared → Prop} {s : Shared} {K : Frag}
end
end Att
namespace L2
open PySem PySem.Spec PyProof.Rows
theorem vals_ints : ∀ {vs : List Value} {ns : List Int}, IntsAre vs ns → Vals (ns.map V.int) vs
  | _, _, .nil => .nil
  | _, _, .cons n t h => .cons ⟨t, rfl⟩ (vals_ints h)
def Only (H : Hp) : Prop := ∀ b, H b = none ∨ ∃ o xs, H b = some (.frz o (.lst xs))
theorem law_call {P : Program} {w : World} {K : PySem.W.Frag} {mg mb : Str → Option Value} {CX : CXT} {k : Nat} {fa a : Addr} {fd : FuncData} {x : Str} {sp : Sp} {s₁ : Shared} {vs : List Value} {ns : List Int}
    (KX : K.In s₁.heap) (hns : s₁.heap.Ns mainGlobals mg) (hb : s₁.heap.Ns builtinsNs mb) (hbb : ∀ x : Str, x ≠ "__name__" → mb x = bootBuiltins x) (hlim : s₁.heap.NoLimit) (hg : s₁.gens = #[])
    (ha : s₁.heap.get? a = some { cls := .type "list", data := .seq vs.toArray }) (hi : IntsAre vs ns) (hl : ns.length ≤ sizeLine) (hr : Room k callerA)
    (F : ∀ base : Heap, K.In base → base.Ns mainGlobals mg → FnOk P w K mg base CX k fa fd [x] sp) (hbind : ∀ (s : Shared) (u : Value), BindsTo s fd ⟨[u], []⟩ [(x, u)])
    (hsp : ∀ H : Hp, Only H → SqL K H a (ns.map V.int) → sp [.ref a] H (fun v _ => v = .bl true) fun _ _ _ => False)
    (hCX : ∀ H e s', CX [] H s₁ (fun _ _ _ => False) e s' → False) :
    codeAny (model P w) callerA (.call (.ref fa) ⟨[.ref a], []⟩) (fun r s' => r = .ok (.ret (.bool true)) ∧ OldK s₁.heap s'.heap ∧ s'.os = s₁.os ∧ AllBare s'.gens) s₁ := by
  have rv := vals_ints hi
  have lenV := hi.length
  have core : ∀ H : Hp, Only H → SqL K H a (ns.map V.int) → HOk P w H s₁.heap → (∀ b, H b ≠ none → b = a) → (H a ≠ none → K.lookup a = none) →
      codeAny (model P w) callerA (.call (.ref fa) ⟨[.ref a], []⟩) (fun r s' => r = .ok (.ret (.bool true)) ∧ OldK s₁.heap s'.heap ∧ s'.os = s₁.os ∧ AllBare s'.gens) s₁ := by
    intro H hO hS hok hA hK
    have base_of : ∀ {b : Addr} {o : Obj}, s₁.heap.get? b = some o → H b = none → (hidT s₁.heap H).get? b = some o := fun e n => hidT_get e n
    have noA : ∀ {b : Addr} {o : Obj} {es : Array DictEntry} {ep : Nat}, s₁.heap.get? b = some o → o.data = .dict es ep → H b = none := fun {b o es ep} e d => by
      cases q : H b with
      | none => rfl
      | some u =>
        have e' : b = a := hA b (by rw [q]; simp)
        subst e'
        rw [ha] at e; cases e
        have d' : Data.seq vs.toArray _ = Data.dict es ep := d
        cases d'
    have nsK : ∀ {b : Addr} {m : Str → Option Value}, s₁.heap.Ns b m → (hidT s₁.heap H).Ns b m := fun {b m} ⟨o, es, ep, e, d, r⟩ => ⟨o, es, ep, base_of e (noA e d), d, r⟩
    have hKb : K.In (hidT s₁.heap H) := fun b o e => base_of (KX b o e) (by
      cases q : H b with
      | none => rfl
      | some u =>
        have e' : b = a := hA b (by rw [q]; simp)
        subst e'
        rw [hK (by rw [q]; simp)] at e; cases e)
    have hM : Mod K mg (hidT s₁.heap H) := ⟨hKb, nsK hns, ⟨mb, nsK hb, hbb⟩, let ⟨mc, h1, h2⟩ := hlim; ⟨mc, nsK h1, h2⟩⟩
    have e0 : Env0 P w K mg (hidT s₁.heap H) callerA [] s₁ H := ⟨rfl, hM, fun b o e => of_hidT e, Nat.le_of_eq (hidT_size _ _), trivial, fun b hb => absurd (show b ∈ ([] : List Addr) from hb) (by simp), hok, .of_eq hg⟩
    refine codeAny_mono ((F _ hKb (nsK hns)).run callerA [] s₁ H ⟨[.ref a], []⟩ [.ref a] [.ref a] _ _ hr e0 (hbind s₁ (.ref a)) (.cons rfl .nil) (hsp H hO hS)) fun r s' h => ?_
    cases r with
    | error e => exact (hCX H e s' h).elim
    | ok fl =>
      cases fl with
      | next => exact False.elim h
      | brk => exact False.elim h
      | cont => exact False.elim h
      | ret u =>
        obtain ⟨v, H', os, bare, un, hok', r', q⟩ := h
        have q' : v = .bl true := q
        subst q'
        obtain rfl : u = Value.bool true := r'
        refine ⟨rfl, OldK.of_keep fun b o e => ?_, os, bare⟩
        cases q : H b with
        | none => exact un.keep b o e q (by intro z; exact absurd (show b ∈ ([] : List Addr) from z) (by simp)) (by simp)
        | some u =>
          rcases hO b with z | ⟨ob, xs, z⟩
          · rw [q] at z; cases z
          · have z2 := un.frzs b ob _ z
            obtain ⟨e1, _⟩ := hok b _ z
            obtain ⟨e2, _⟩ := hok' b _ z2
            rw [e] at e1; cases e1
            exact e2
  cases hk : K.lookup a with
  | some o =>
    have e := KX a o hk
    rw [ha] at e
    cases e
    refine core (fun _ => none) (fun _ => .inl rfl) (.inr ⟨_, vs.toArray, _, hk, rfl, rfl, rfl, by rw [List.size_toArray, lenV]; exact hl, by simpa using rv⟩) (fun b u z => by have z' : (none : Option HO) = some u := z; cases z') (fun b z => absurd rfl z) fun z => absurd rfl z
  | none =>
    refine core (fun b => if b = a then some (.frz { cls := .type "list", data := .seq vs.toArray } (.lst (ns.map V.int))) else none) (fun b => ?_) (.inl (.inr ⟨{ cls := .type "list", data := .seq vs.toArray }, if_pos rfl⟩)) (fun b u z => ?_) (fun b z => ?_) fun _ => hk
    · by_cases hb : b = a
      · exact .inr ⟨_, _, if_pos hb⟩
      · exact .inl (if_neg hb)
    · by_cases hb : b = a
      · have z' := (if_pos hb).symm.trans z
        cases z'
        subst hb
        exact ⟨ha, by rw [List.length_map]; exact hl, vs, _, rv, ha⟩
      · have z' := (if_neg hb).symm.trans z
        cases z'
    · by_cases hb : b = a
      · exact hb
      · exact absurd (if_neg hb) z
end L2
namespace L2
open PySem PySem.Spec PyProof.Rows
theorem walk_of {l : PySem.W.OpenLaw} {n k : Nat} {q : Program} {loose : List Str} {XP : (Str → Option Value) → Heap → Prop} {YP : World → Heap → Prop} {d : DefRec} {K : Params → PySem.W.Frag} {CX : World → CXT} {sp : World → Sp} {x : Str}
    (hn : l.most = some n) (hn2 : n ≤ sizeLine) (hdf : d.params.defaults = []) (hr : Room k callerA)
    (hY : ∀ (w : World) (h : Heap), YP w h → (K w.params).In h)
    (F : ∀ (w : World) (mg : Str → Option Value) (fa : Addr) (h : Heap), (K w.params).In h → h.Ns mainGlobals mg → mg d.name = some (.ref fa) →
      ∃ fd : FuncData, (∀ (s : Shared) (u : Value), BindsTo s fd ⟨[u], []⟩ [(x, u)]) ∧
        ∀ base : Heap, (K w.params).In base → base.Ns mainGlobals mg → FnOk l.prog w (K w.params) mg base (CX w) k fa fd [x] (sp w))
    (hsp : ∀ (w : World) (H : Hp) (a : Addr) (ns : List Int), ns.length ≤ n → Only H → SqL (K w.params) H a (ns.map V.int) → sp w [.ref a] H (fun v _ => v = .bl true) fun _ _ _ => False)
    (hCX : ∀ (w : World) (H : Hp) (s : Shared) (e : Value) (s' : Shared), CX w [] H s (fun _ _ _ => False) e s' → False) :
    PySem.W.WalkO q loose XP YP l.row.toRowW d [] (fun f vs => PySem.call f vs) := by
  refine Att.attach_call hn hdf fun w s₀ s₁ mg mb fa o pm cd doc a vs ns G Y ho hd hcd hmg hobj hints hlen hg => ?_
  have KX := hY w _ Y
  obtain ⟨fd, hb, hF⟩ := F w mg fa _ KX G.T.g hmg
  exact law_call KX G.T.g G.T.b G.T.builtins G.T.nolimit hg hobj hints (Nat.le_trans hlen hn2) hr hF hb (fun H hO hS => hsp w H a ns hlen hO hS) fun H e s' => hCX w H s₁ e s'
end L2
namespace L2
open PySem PySem.Spec PyProof.Rows
def defArgs (s : Stmt) : Arguments := match s with
  | .FunctionDef _ a _ _ _ _ _ _ _ _ => a
  | _ => { posonlyargs := [], args := [], vararg := none, kwonlyargs := [], kw_defaults := [], kwarg := none, defaults := [] }
def defBody (s : Stmt) : List Stmt := match s with
  | .FunctionDef _ _ b _ _ _ _ _ _ _ => b
  | _ => []
def defScope (s : Stmt) : Scope := match s with
  | .FunctionDef _ _ _ _ _ _ sc _ _ _ => sc
  | _ => { kind := .function, names := [], isGenerator := false, isCoroutine := false }
abbrev CX0 : CXT := fun _ _ _ _ _ _ => False
abbrev E0 : XK := fun _ _ _ => False
theorem pass0 {X : Cx} : Passes CX0 X E0 := fun _ _ _ _ _ _ _ h => h.elim
structure Fun (K : PySem.W.Frag) (x qual : Str) (st : Stmt) (f : Addr) (fd : FuncData) : Prop where
  ex : ∃ (oc : Value) (od : Option Addr) (kV doc pm : Value) (an : Option Addr) (cdv ct : Value) (osl : Array (Option Value)),
    fd = PySem.W.fnOf x qual (defArgs st) (defBody st) (defScope st) .none kV doc pm an cdv ct ∧ K.lookup f = some ⟨oc, od, .func fd, osl⟩ ∧ PySem.W.codeIn K cdv qual = true
  kp : PySem.W.keepIn K (.ref f) = true
section
variable {P : Program} {w : World} {K : PySem.W.Frag} {mg : Str → Option Value} {base : Heap}
theorem Fun.ok {x qual : Str} {st : Stmt} {f : Addr} {fd : FuncData} {N ps : List Str} {k : Nat} {sp : Sp} (F : Fun K x qual st f fd) (S : FnScope N ps (defScope st)) (len : ∀ vs H Q E, sp vs H Q E → vs.length = ps.length)
    (hbody : ∀ (cdv : Value) (A : Around) (outer : List Env) (s : Shared) (H : Hp) (vs : List V) (Q : VK) (E : XK), Room k (A.deeper (envOfC qual (defScope st) s.heap.objs.size f cdv)) → sp vs H Q E →
      ∃ t, PSs (cxOf CX0 P w K mg base N qual (defScope st) f cdv A outer s H E).nox (defBody st) t ∧ t { nx := fun _ H' => Q .non H', rt := Q } (start N vs) H) : FnOk P w K mg base CX0 (k + 1) f fd ps sp := by
  obtain ⟨oc, od, kV, doc, pm, an, cdv, ct, osl, rfl, lk, hcd⟩ := F.ex
  refine fn_of lk hcd S len fun A outer s H vs Q E hr hsp => ?_
  obtain ⟨t, h, q⟩ := hbody cdv A outer s H vs Q E hr hsp
  exact ⟨t, h.nox, q⟩
theorem Fun.binds {x qual : Str} {st : Stmt} {f : Addr} {fd : FuncData} {ps : List Str} (F : Fun K x qual st f fd)
    (h : ∀ (kV doc pm : Value) (an : Option Addr) (cdv ct : Value) (us : List Value), us.length = ps.length → bindArgs (PySem.W.fnOf x qual (defArgs st) (defBody st) (defScope st) .none kV doc pm an cdv ct) ⟨us, []⟩ = pure (ps.zip us)) : Binds K fd ps [] := by
  obtain ⟨oc, od, kV, doc, pm, an, cdv, ct, osl, rfl, lk, hcd⟩ := F.ex
  exact .all (h kV doc pm an cdv ct)
theorem fun_mk {x qual : Str} {st : Stmt} {f : Addr} {oc : Value} {od an : Option Addr} {osl : Array (Option Value)} {kV doc pm cdv ct : Value} (l : K.lookup f = some ⟨oc, od, .func (PySem.W.fnOf x qual (defArgs st) (defBody st) (defScope st) .none kV doc pm an cdv ct), osl⟩)
    (c : PySem.W.codeIn K cdv qual = true) (k : PySem.W.keepIn K (.ref f) = true) : Fun K x qual st f (PySem.W.fnOf x qual (defArgs st) (defBody st) (defScope st) .none kV doc pm an cdv ct) := ⟨⟨oc, od, kV, doc, pm, an, cdv, ct, osl, rfl, l, c⟩, k⟩
end
theorem hu_of {A : Around} {k : Nat} (hr : Room k A) : A.units + 1 < cLine := Nat.lt_of_le_of_lt (Nat.add_le_add_left (by decide : 1 ≤ 64) _) hr.units
theorem small1000 {n : Nat} (h : n ≤ 1000) : n < sizeLine := Nat.lt_of_le_of_lt h (by decide)
section
variable {X : Cx}
theorem pv (i : Nat) {x : Str} {pos : Pos} (hN : X.N[i]? = some x := by rfl) (hv : Vis X.env.scope x := by first | exact Or.inl rfl | exact Or.inr (Or.inl rfl) | exact Or.inr (Or.inr rfl)) (hd : (x == ("__debug__" : Str)) = false := by decide)
    (hcd : (x == ("__classdict__" : Str)) = false := by decide) : PE X (.Name x pos) (tVar i) := pe_var hN hv hd hcd
end
theorem iteF {A B : Prop} (h : B) : if false = true then A else B := by
  rw [if_neg Bool.false_ne_true]
  exact h
theorem iteT {A B : Prop} (h : A) : if true = true then A else B := by
  rw [if_pos rfl]
  exact h
def Same (H H' : Hp) : Prop := ∀ b o, H b = some o → H' b = some o
theorem Same.refl (H : Hp) : Same H H := fun _ _ h => h
theorem Same.trans {H H1 H2 : Hp} (a : Same H H1) (b : Same H1 H2) : Same H H2 := fun c o h => b c o (a c o h)
theorem Same.free {H H' : Hp} (e : Same H H') {l : Addr} (h : H' l = Option.none) : H l = Option.none := by
  cases q : H l with
  | none => rfl
  | some o =>
    rw [e l o q] at h
    cases h
end L2
namespace L2
open PySem PySem.Spec PyProof.Rows
section
variable {κ : Type} [DecidableEq κ]
def valV (kvs : List (κ × V)) (k : κ) : Option V := (kvs.find? fun kv => decide (kv.1 = k)).map (·.2)
theorem valV_pos {p : κ × V} {r : List (κ × V)} {k : κ} (e : p.1 = k) : valV (p :: r) k = some p.2 := by simp [valV, List.find?_cons, e]
theorem valV_neg {p : κ × V} {r : List (κ × V)} {k : κ} (e : ¬ p.1 = k) : valV (p :: r) k = valV r k := by simp [valV, List.find?_cons, e]
theorem KV.val {kvs : List (κ × V)} {vs : List (κ × Value)} (r : KV kvs vs) (k : κ) : RelO (valV kvs k) (valueAt vs k) := by
  unfold KV at r
  induction r with
  | nil => exact True.intro
  | @cons p q ps qs h t ih =>
    obtain ⟨h1, h2⟩ := h
    by_cases e : p.1 = k
    · have e' : q.1 = k := h1.symm.trans e
      have b : valueAt (q :: qs) k = some q.2 := by simp [valueAt, List.find?_cons, e']
      rw [valV_pos e, b]; exact h2
    · have e' : ¬ q.1 = k := fun z => e (h1.trans z)
      have b : valueAt (q :: qs) k = valueAt qs k := by simp [valueAt, List.find?_cons, e']
      rw [valV_neg e, b]; exact ih
theorem KV.length {kvs : List (κ × V)} {vs : List (κ × Value)} (r : KV kvs vs) : kvs.length = vs.length := Paired.length r
end
theorem kV_is {P : Program} {w : World} {k : Key} {u : Value} (r : RelV (kV k) u) : (mixKind P w).is k u = true := by
  cases k with
  | inl i => obtain ⟨t, e⟩ := (show ∃ t, u = Value.int i t from r); subst e; exact mixKind_int P w i t
  | inr x => obtain ⟨t, e⟩ := (show ∃ t, u = Value.str x t from r); subst e; exact mixKind_str P w x t
theorem items_are {P : Program} {w : World} : ∀ {ks : List Key} {us : List Value}, Vals (ks.map kV) us → ItemsAre (mixKind P w) ks us
  | [], _, r => by rw [List.map_nil] at r; cases r; exact .nil
  | k :: ks, _, r => by
    rw [List.map_cons] at r
    cases r with
    | cons h t => exact .cons (kV_is h) (items_are t)
abbrev KT (H : Hp) : List (List Key × V) → List (List Key × Addr × Value) → Prop := Paired fun p q => p.1 = q.1 ∧ H q.2.1 = some (.tup (p.1.map kV)) ∧ RelV p.2 q.2.2
theorem KT.val {H : Hp} {kvs : List (List Key × V)} {xs : List (List Key × Addr × Value)} (r : KT H kvs xs) (k : List Key) : RelO (valV kvs k) ((atKey xs k).map (·.2)) := by
  induction r with
  | nil => exact True.intro
  | @cons p q ps qs h t ih =>
    obtain ⟨h1, _, h2⟩ := h
    by_cases e : p.1 = k
    · have e' : q.1 = k := h1.symm.trans e
      have b : atKey (q :: qs) k = some q.2 := by simp [atKey, List.find?_cons, e']
      rw [valV_pos e, b]; exact h2
    · have e' : ¬ q.1 = k := fun z => e (h1.trans z)
      have b : atKey (q :: qs) k = atKey qs k := by simp [atKey, List.find?_cons, e']
      rw [valV_neg e, b]; exact ih
section
variable {P : Program} {w : World} {H : Hp} {h : Heap} {a : Addr}
theorem rd_of {u : HO} (ok : HOk P w H h) (e : Rd H a u) : ObjOk P w H h a u := e.ok ok
theorem dk_rd {kvs : List (Key × V)} (ok : HOk P w H h) (e : Rd H a (.dK kvs)) : kvs.length ≤ sizeLine ∧ (a == sysModules) = false ∧ ∃ vs, KV kvs vs ∧ h.DictOf (mixKind P w) a vs :=
  show ObjOk P w H h a (.dK kvs) from rd_of ok e
theorem key_of {ks : List Key} (ok : HOk P w H h) (e : H a = some (.tup (ks.map kV))) : (tupleKind (mixKind P w)).is h ks a := by
  obtain ⟨_, its, r, o, h1, h2, n, h3⟩ := (show ObjOk P w H h a (.tup (ks.map kV)) from ok a _ e)
  exact ⟨o, its.toArray, n, h1, h2, h3, by simpa using items_are r⟩
theorem dt_rd {kvs : List (List Key × V)} (ok : HOk P w H h) (e : Rd H a (.dT kvs)) : kvs.length ≤ sizeLine ∧ (a == sysModules) = false ∧
    ∃ xs, KT H kvs xs ∧ h.DictOfH (tupleKind (mixKind P w)) a xs := by
  obtain ⟨z, y, xs, r, o, es, ep, h1, h2, h3, h4, h5⟩ := (show ObjOk P w H h a (.dT kvs) from rd_of ok e)
  refine ⟨z, y, xs, r, o, es, ep, h1, h2, h3, h4, fun x hx => ?_, h5⟩
  have all : ∀ {l : List (List Key × V)} {m : List (List Key × Addr × Value)}, KT H l m → ∀ x ∈ m, (tupleKind (mixKind P w)).is h x.1 x.2.1 := by
    intro l m q
    induction q with
    | nil => intro x hx; exact nomatch hx
    | @cons p q ps qs hq t ih =>
      intro x hx
      rcases List.mem_cons.mp hx with e | hx
      · subst e
        exact key_of ok (by rw [← hq.1]; exact hq.2.1)
      · exact ih x hx
  exact all r x hx
end
def DGet (H : Hp) (a : Addr) (y : V) (r : Option V) : Prop :=
  (∃ kvs k, Rd H a (.dK kvs) ∧ y = kV k ∧ r = valV kvs k) ∨ ∃ kvs k b, Rd H a (.dT kvs) ∧ y = .ref b ∧ H b = some (.tup (k.map kV)) ∧ r = valV kvs k
theorem DGet.k {H : Hp} {a : Addr} {kvs : List (Key × V)} {k : Key} (e : H a = some (.dK kvs)) : DGet H a (kV k) (valV kvs k) := .inl ⟨kvs, k, .inl e, rfl, rfl⟩
theorem DGet.t {H : Hp} {a b : Addr} {kvs : List (List Key × V)} {k : List Key} (e : H a = some (.dT kvs)) (eb : H b = some (.tup (k.map kV))) : DGet H a (.ref b) (valV kvs k) := .inr ⟨kvs, k, b, .inl e, rfl, eb, rfl⟩
section
variable {X : Cx} {pins : List (Addr × Obj)} {σ : St} {H : Hp} {s : Shared} {a : Addr} {y v : V} {u r : Value} {o : Option V} {A : Around} {E : Value → Shared → Prop}
theorem d_getItem {Q : Value → Shared → Prop} (hu : A.units + 1 < cLine) (I : Inv X pins σ H s) (g : DGet H a y (some v)) (ry : RelV y u) (h : ∀ w' s', Inv X pins σ H s' → RelV v w' → Q w' s') :
    wpAny (model X.prog X.w) A (getItem (.ref a) u) Q E s := by
  rcases g with ⟨kvs, k, e, ey, l⟩ | ⟨kvs, k, b, e, ey, eb, l⟩
  · subst ey
    obtain ⟨z, hd, vs, rel, dd⟩ := dk_rd I.hok e
    obtain ⟨w', hw, rw'⟩ := RelO.some_of (v := v) (o := valueAt vs k) (by rw [l]; exact rel.val k)
    exact wpAny_getItem_of (kV_is ry) dd.mapOf hw (h w' _ (I.tok _) rw')
  · subst ey
    cases (show u = Value.ref b from ry)
    obtain ⟨z, hd, xs, rel, dd⟩ := dt_rd I.hok e
    obtain ⟨w', hw, rw'⟩ := RelO.some_of (v := v) (o := (atKey xs k).map (·.2)) (by rw [l]; exact rel.val k)
    obtain ⟨p, hp, hp2⟩ := Option.map_eq_some_iff.mp hw
    refine wpAny_getItem_heap (tupleKind_room_in1 hu) (key_of I.hok eb) dd hp ?_
    rw [hp2]
    exact h w' _ (I.tok _) rw'
end
section
variable {X : Cx} {pins : List (Addr × Obj)} {σ : St} {H : Hp} {s : Shared} {a : Addr} {kvs : List (Key × V)} {k : Key} {u : Value} {A : Around} {E : Value → Shared → Prop}
theorem d_len {Q : Value → Shared → Prop} (I : Inv X pins σ H s) (e : Rd H a (.dK kvs)) (h : ∀ t s', Inv X pins σ H s' → Q (.int kvs.length t) s') : wpAny (model X.prog X.w) A (call (.builtin "len") [.ref a]) Q E s := by
  obtain ⟨z, hd, vs, rel, dd⟩ := dk_rd I.hok e
  refine call_len_dict hd dd (by rw [← rel.length]; rw [sizeLine_eq] at z; omega) ?_
  rw [← rel.length]
  exact h _ _ (I.tok _)
end
theorem dict_typeIs {X : Cx} {pins : List (Addr × Obj)} {σ : St} {H : Hp} {s : Shared} {a : Addr} {y : V} {o : Option V} (I : Inv X pins σ H s) (g : DGet H a y o) : s.TypeIs (.ref a) "dict" := by
  rcases g with ⟨kvs, k, e, _, _⟩ | ⟨kvs, k, b, e, _, _, _⟩
  · obtain ⟨_, _, vs, _, dd⟩ := dk_rd I.hok e
    exact dd.typeIs
  · obtain ⟨_, _, xs, _, dd⟩ := dt_rd I.hok e
    exact dd.typeIs
section
variable {X : Cx} {o i e value : Expr} {pos pos' tpos : Pos} {td ty tv : TE}
end
section
variable {X : Cx} {pos : Pos}
end
section
variable {X : Cx} {pins : List (Addr × Obj)} {σ : St} {H : Hp} {s : Shared} {a : Addr} {y d : V} {u r : Value} {o : Option V} {A : Around} {E : Value → Shared → Prop}
end
section
variable {X : Cx} {o e f : Expr} {apos cpos : Pos} {td ty tx : TE}
end
section
variable {X : Cx} {pins : List (Addr × Obj)} {σ : St} {H : Hp} {s : Shared} {a : Addr} {kvs : List (Key × V)} {A : Around} {E : Value → Shared → Prop}
end
section
variable {X : Cx} {pins : List (Addr × Obj)} {σ : St} {H : Hp} {s : Shared} {a : Addr} {y : V} {u : Value} {A : Around} {E : Value → Shared → Prop}
end
end L2
namespace L2
open PySem PySem.Spec PyProof.Rows
section
variable {X : Cx}
theorem call_lenD : CallR X (.builtin "len") (fun xs H Q => ∃ a kvs, xs = [V.ref a] ∧ H a = some (.dK kvs) ∧ Q (.int kvs.length) H) := by
  intro pins s σ H xs us Q I r h
  obtain ⟨a, kvs, rfl, ha, q⟩ := h
  obtain ⟨u, rfl, ru⟩ := vals1 r
  cases ru
  exact d_len I (.inl ha) fun t s' I' => ⟨.int kvs.length, H, I', ⟨t, rfl⟩, q⟩
end
section
variable {κ : Type} [DecidableEq κ]
end
end L2
set_option maxHeartbeats 4000000
namespace L2
open PySem PySem.Spec PyProof.Rows
def CDivB (i j : Int) : Prop := 0 < j ∧ j < 2 ^ 200
theorem op_fdivB {X : Cx} : OpR X (binaryOp .FloorDiv) (rI CDivB fun i j => .int (i / j)) := opI fun i j _ _ _ _ _ hc q => by
  have p1 : (0 : Int) < j := hc.1
  have p2 : j < 2 ^ 200 := hc.2
  have p3 : j.natAbs < 2 ^ 200 := by omega
  have p4 : j.natAbs.log2 < 200 := (Nat.log2_lt (by omega)).mpr p3
  refine floordiv_int (by omega) ?_ (.inl (PyProof.noPylong_of_log2 (by omega)))
  rw [Int.fdiv_eq_ediv_of_nonneg i (by omega)]
  exact q
section
variable {X : Cx} {pins : List (Addr × Obj)} {σ : St} {H : Hp} {s : Shared} {h' : Heap}
theorem Inv.turnedL {t' : Nat} {fp : List Addr} (I : Inv X pins σ H s) (hf : ∀ b ∈ fp, FpOk X pins H b) (k : ∀ b o, b ∉ fp → s.heap.get? b = some o → h'.get? b = some o) : Inv X pins σ H { s with heap := h', toks := t' } := by
  have nf : ∀ b u, H b = some u → b ∉ fp := fun b u e z => by have := (hf b z).1; rw [e] at this; cases this
  refine I.step (g' := s.gens) (d' := s.drawn) (ch := fp) (fun b hb => ?_) (fun b o _ _ hc e _ => k b o hc e) (fun b o _ _ hc e _ => ⟨o.slots, k b o hc e⟩) (fun _ _ _ _ n => n) (fun b o hc e => ⟨o, k b o hc e⟩) (fun _ _ e => e) (fun _ _ _ e => e)
    (fun b ps e => ⟨#[], by rw [e]; simp⟩) (fun m hm => ?_) (fun b u e => ?_) I.bare
  · obtain ⟨_, f1, _, f3, f4, f5⟩ := hf b hb
    exact ⟨f3, f1, f4, f5⟩
  · obtain ⟨o, es, ep, ho, r⟩ := hm
    exact ⟨o, es, ep, k _ o (fun z => (hf _ z).2.1 rfl) ho, r⟩
  · refine (I.hok b u e).stay (fun c v hc q => k c v ?_ q) (fun _ q => q) fun _ _ q => q
    rcases hc with z | z
    · rw [z]; exact nf b u e
    · exact nf c _ z
theorem Inv.turnedN {t' : Nat} {fp : List Addr} {T : Addr} {ob : HO} (I : Inv X pins σ H s) (hf : ∀ b ∈ fp, FpOk X pins H b) (k : ∀ b o, b ∉ fp → s.heap.get? b = some o → h'.get? b = some o) (hT : s.heap.objs.size ≤ T)
    (new : ObjOk X.prog X.w (upd H T ob) h' T ob) : Inv X pins σ (upd H T ob) { s with heap := h', toks := t' } := by
  have hn : H T = none := I.hok.fresh hT
  have nf : ∀ b u, H b = some u → b ∉ fp := fun b u e z => by have := (hf b z).1; rw [e] at this; cases this
  have nT : ∀ b o, s.heap.get? b = some o → b ≠ T := fun b o e => Nat.ne_of_lt (Nat.lt_of_lt_of_le (Heap.lt_size e) hT)
  refine I.step (g' := s.gens) (d' := s.drawn) (ch := fp) (fun b hb => ?_) (fun b o _ _ hc e _ => k b o hc e) (fun b o _ _ hc e _ => ⟨o.slots, k b o hc e⟩) (fun b o _ e n => by rw [upd_ne (nT b o e)]; exact n) (fun b o hc e => ⟨o, k b o hc e⟩)
    (fun b xs e => by rw [upd_ne (ne_of_none e hn)]; exact e) (fun b _ _ e => by rw [upd_ne (ne_of_none e hn)]; exact e)
    (fun b ps e => ⟨#[], by rw [upd_ne (ne_of_none e hn), e]; simp⟩) (fun m hm => ?_) (fun b u e => ?_) I.bare
  · obtain ⟨_, f1, _, f3, f4, f5⟩ := hf b hb
    exact ⟨f3, f1, f4, f5⟩
  · obtain ⟨o, es, ep, ho, r⟩ := hm
    exact ⟨o, es, ep, k _ o (fun z => (hf _ z).2.1 rfl) ho, r⟩
  · by_cases hb : b = T
    · subst hb
      rw [upd_same] at e
      cases e
      exact new
    · rw [upd_ne hb] at e
      refine (I.hok b u e).stay (fun c v hc q => k c v ?_ q) (fun c q => by rw [upd_ne (ne_of_none q hn)]; exact q) fun c xs q => by rw [upd_ne (ne_of_none q hn)]; exact q
      rcases hc with z | z
      · rw [z]; exact nf b u e
      · exact nf c _ z
end
section
variable {X : Cx}
end
def ItZ (a b : Addr) : It :=
  ⟨fun i H => ∃ xs ys x y, H a = some (.lst xs) ∧ H b = some (.lst ys) ∧ xs[i]? = some x ∧ ys[i]? = some y,
   fun i H v H' => ∃ T x y, H T = none ∧ v = .ref T ∧ H' = upd H T (.tup [x, y]) ∧ (∀ xs, H a = some (.lst xs) → xs[i]? = some x) ∧ ∀ ys, H b = some (.lst ys) → ys[i]? = some y,
   fun i H => ∃ xs ys, H a = some (.lst xs) ∧ H b = some (.lst ys) ∧ (xs.length ≤ i ∨ ys.length ≤ i)⟩
structure ZApart (z TI TO i1 i2 : Addr) : Prop where
  a : TI ≠ z
  b : TO ≠ z
  c : i1 ≠ z
  d : i2 ≠ z
  e : TI ≠ TO
  f : TI ≠ i1
  g : TI ≠ i2
  h : TO ≠ i1
  i : TO ≠ i2
  j : i1 ≠ i2
theorem turn_zip {P : Program} {w : World} {K : PySem.W.Frag} {elts : List Expr} {x1 : Nat} {pos : Pos} (a b z TI TO i1 i2 : Addr) (Z : ZApart z TI TO i1 i2) :
    Turn P w K (.Tuple elts x1 pos) (ItZ a b) [z, TI, TO, i1, i2] z (fun i h => IsZip h z TI TO .none ∧ IsPair h TI (.ref i1) (.ref i2) ∧ (∃ p q, IsPair h TO p q) ∧ h.IsListIter i1 a i ∧ h.IsListIter i2 b i) where
  mem := by simp
  obj := fun i h st c hc => by
    obtain ⟨hz, hI, ⟨p, q, hO⟩, ⟨o1, h1, _, d1⟩, ⟨o2, h2, _, d2⟩⟩ := st
    simp only [List.mem_cons, List.not_mem_nil, or_false] at hc
    rcases hc with rfl | rfl | rfl | rfl | rfl
    · exact ⟨_, hz, fun v y => by cases y⟩
    · exact ⟨_, hI, fun v y => by cases y⟩
    · exact ⟨_, hO, fun v y => by cases y⟩
    · exact ⟨_, h1, fun v y => by rw [d1] at y; cases y⟩
    · exact ⟨_, h2, fun v y => by rw [d2] at y; cases y⟩
  keep := fun i h h' st k => by
    obtain ⟨hz, hI, ⟨p, q, hO⟩, h1, h2⟩ := st
    exact ⟨k z (by simp) _ hz, k TI (by simp) _ hI, ⟨p, q, k TO (by simp) _ hO⟩, h1.at fun o y => k i1 (by simp) o y, h2.at fun o y => k i2 (by simp) o y⟩
  item := by
    intro X hP hw hK hc i pins s σ H E I hf st hg
    subst hP hw hK
    obtain ⟨xs, ys, x, y, ha, hb, hx, hy⟩ := hg
    obtain ⟨its, rv, pl, hz1⟩ := I.list (SqL.of ha)
    obtain ⟨its2, rv2, pl2, hz2⟩ := I.list (SqL.of hb)
    obtain ⟨u, hu, ru⟩ := rv.get hx
    obtain ⟨u2, hu2, ru2⟩ := rv2.get hy
    obtain ⟨hz, hI, ⟨p, q, hO⟩, h1, h2⟩ := st
    have na : ∀ c ∈ [z, TI, TO, i1, i2], a ≠ c := fun c hc => ne_of_none ha (hf c hc).1
    have nb : ∀ c ∈ [z, TI, TO, i1, i2], b ≠ c := fun c hc => ne_of_none hb (hf c hc).1
    have D : ZipApart z TI TO i1 i2 a b := ⟨Z.a, Z.b, Z.c, Z.d, Z.e, Z.f, Z.g, Z.h, Z.i, Z.j, na z (by simp), na TO (by simp), na i1 (by simp), na i2 (by simp), nb z (by simp), nb TO (by simp), nb i1 (by simp), nb i2 (by simp)⟩
    refine wpAny_pyNext_zip_item D hz hI hO h1 h2 pl.isList pl2.isList (x := u) (y := u2) (by simpa using hu) (by simpa using hu2) fun g a1 a2 a3 a4 a5 a6 hk => ⟨_, rfl, ?_⟩
    refine wpAny_letOwnedTupleGo_zip a1 fun g2 hz2 hs2 => ?_
    have hn : H s.heap.objs.size = none := I.hok.fresh (Nat.le_refl _)
    have zL : z < s.heap.objs.size := Heap.lt_size hz
    have lt : ∀ {c : Addr} {o : Obj}, s.heap.get? c = some o → c ≠ s.heap.objs.size := fun e => Nat.ne_of_lt (Heap.lt_size e)
    have k2 : ∀ c o, c ∉ [z, TI, TO, i1, i2] → s.heap.get? c = some o → g2.get? c = some o := fun c o hc e => by
      simp only [List.mem_cons, List.not_mem_nil, or_false, not_or] at hc
      exact (hs2.2 c hc.1).trans (hk c o hc.1 hc.2.2.1 hc.2.2.2.1 hc.2.2.2.2 e)
    have tt : g2.get? s.heap.objs.size = some { cls := .type "tuple", data := .seq #[u, u2] } := (hs2.2 _ (Nat.ne_of_gt zL)).trans a5
    refine ⟨.ref s.heap.objs.size, _, I.turnedN (ob := .tup [x, y]) (T := s.heap.objs.size) (t' := s.toks) hf k2 (Nat.le_refl _) ?_, rfl,
      ⟨_, x, y, hn, rfl, rfl, fun zs hzs => by rw [ha] at hzs; cases hzs; exact hx, fun zs hzs => by rw [hb] at hzs; cases hzs; exact hy⟩,
      ⟨hz2, hs2.extBut _ _ Z.a (hk _ _ Z.a Z.e Z.f Z.g hI), ⟨_, _, hs2.extBut _ _ Z.b a2⟩, a3.extBut hs2.extBut Z.c, a4.extBut hs2.extBut Z.d⟩, fun c hc => ?_⟩
    · exact ⟨(by decide : 2 ≤ sizeLine), [u, u2], .cons ru (.cons ru2 .nil), _, tt, rfl, _, rfl⟩
    · have hc1 := (hf c hc).1
      have : c ≠ s.heap.objs.size := by
        simp only [List.mem_cons, List.not_mem_nil, or_false] at hc
        rcases hc with rfl | rfl | rfl | rfl | rfl
        · exact lt hz
        · exact lt hI
        · exact lt hO
        · obtain ⟨o, e, _⟩ := h1; exact lt e
        · obtain ⟨o, e, _⟩ := h2; exact lt e
      rw [upd_ne this]
      exact hc1
  done := by
    intro X hP hw hK hc i pins s σ H E I hf st hg
    subst hP hw hK
    obtain ⟨xs, ys, ha, hb, hor⟩ := hg
    obtain ⟨its, rv, pl, hz1⟩ := I.list (SqL.of ha)
    obtain ⟨its2, rv2, pl2, hz2⟩ := I.list (SqL.of hb)
    obtain ⟨hz, hI, ⟨p, q, hO⟩, h1, h2⟩ := st
    have na : ∀ c ∈ [z, TI, TO, i1, i2], a ≠ c := fun c hc => ne_of_none ha (hf c hc).1
    have nb : ∀ c ∈ [z, TI, TO, i1, i2], b ≠ c := fun c hc => ne_of_none hb (hf c hc).1
    have D : ZipApart z TI TO i1 i2 a b := ⟨Z.a, Z.b, Z.c, Z.d, Z.e, Z.f, Z.g, Z.h, Z.i, Z.j, na z (by simp), na TO (by simp), na i1 (by simp), na i2 (by simp), nb z (by simp), nb TO (by simp), nb i1 (by simp), nb i2 (by simp)⟩
    have l1 := rv.length
    have l2 := rv2.length
    refine wpAny_pyNext_zip_end (I.ok.hd hc) D hz hI hO h1 h2 pl.isList pl2.isList ?_ fun g hk => ⟨rfl, I.turnedL (t' := s.toks) hf fun c o hc e => ?_⟩
    · rcases hor with h | h
      · exact .inl (by simp; omega)
      · exact .inr (by simp; omega)
    · simp only [List.mem_cons, List.not_mem_nil, or_false, not_or] at hc
      exact hk c o hc.1 hc.2.2.1 hc.2.2.2.1 hc.2.2.2.2 e
  self := fun _ _ _ _ _ st h => wpAny_pyIter_zip st.1 h
theorem zapart (n : Nat) : ZApart (n + 4) (n + 2) (n + 3) n (n + 1) :=
  ⟨fun e => by have e' : (n + 2 : Nat) = n + 4 := e; omega, fun e => by have e' : (n + 3 : Nat) = n + 4 := e; omega, fun e => by have e' : (n : Nat) = n + 4 := e; omega, fun e => by have e' : (n + 1 : Nat) = n + 4 := e; omega,
   fun e => by have e' : (n + 2 : Nat) = n + 3 := e; omega, fun e => by have e' : (n + 2 : Nat) = n := e; omega, fun e => by have e' : (n + 2 : Nat) = n + 1 := e; omega, fun e => by have e' : (n + 3 : Nat) = n := e; omega,
   fun e => by have e' : (n + 3 : Nat) = n + 1 := e; omega, fun e => by have e' : (n : Nat) = n + 1 := e; omega⟩
section
variable {X : Cx}
def iZip (ta : TA) : TI := fun σ H R => ta σ H fun vs H1 => ∃ a b, vs = [.ref a, .ref b] ∧ (∃ xs, H1 a = some (.lst xs)) ∧ (∃ ys, H1 b = some (.lst ys)) ∧ R (ItZ a b) H1
theorem pi_zip {elts : List Expr} {x1 : Nat} {tp : Pos} {a b : Expr} {ta : TA} {p pos : Pos} (hg : Gl X "zip") (hm : X.mg "zip" = none) (ha : PA X [a, b] ta)
    (hs : starEach [a, b] X.env = [(false, eval a X.env), (false, eval b X.env)] := by rfl) (hs2 : starEach [b] X.env = [(false, eval b X.env)] := by rfl) :
    PI X (.Tuple elts x1 tp) (.Call (.Name "zip" p) [a, b] [] pos) (iZip ta) := by
  intro pins s σ H R I h
  refine Call_ (ld_blt I hg hm boot_zip (PyProof.Rows.callWith_type1 (thn (ha pos pins s σ H _ I h) fun us s1 ⟨vs, H1, I1, r1, q1⟩ => ?_) (by rw [hs, hs2]) (by rw [hs2]; rfl)))
  obtain ⟨l, l2, e, ⟨xs, hl⟩, ⟨ys, hl2⟩, q⟩ := q1
  subst e
  obtain ⟨u, u2, rfl, ru, ru2⟩ := vals2 r1
  cases ru
  cases ru2
  obtain ⟨its, rv, pl, hz⟩ := I1.list (SqL.of hl)
  obtain ⟨its2, rv2, pl2, hz2⟩ := I1.list (SqL.of hl2)
  refine call_zip_2 pl.isList pl2.isList fun h1 hz hI hO i1 i2 hsz hk => wpAny_pyIter_zip hz ?_
  have I2 : Inv X pins σ H1 { s1 with heap := h1 } := I1.kept (t' := s1.toks) hk
  refine ⟨s1.heap.objs.size + 4, [s1.heap.objs.size + 4, s1.heap.objs.size + 2, s1.heap.objs.size + 3, s1.heap.objs.size, s1.heap.objs.size + 1], _, _, H1, rfl, I2,
    turn_zip l l2 _ _ _ _ _ (zapart s1.heap.objs.size), ⟨hz, hI, ⟨_, _, hO⟩, i1, i2⟩, fun b hb => ?_, q⟩
  have hle : s1.heap.objs.size ≤ b := by
    simp only [List.mem_cons, List.not_mem_nil, or_false] at hb
    rcases hb with rfl | rfl | rfl | rfl | rfl
    · exact Nat.le_add_right _ _
    · exact Nat.le_add_right _ _
    · exact Nat.le_add_right _ _
    · exact Nat.le_refl _
    · exact Nat.le_add_right _ _
  exact I1.fpOk hle (I1.hok.fresh hle)
end
end L2
namespace L2
open PySem PySem.Spec PyProof.Rows
section
variable {X : Cx}
end
end L2
namespace L2
open PySem PySem.Spec PyProof.Rows
section
variable {X : Cx}
def rIsi (K : PySem.W.Frag) : List V → Hp → VK → Prop := fun xs H Q => ∃ x T t b, xs = [x, .ty T] ∧ TyOf K H x t ∧ PySem.W.kitOne K t (.type T) = some b ∧ Q (.bl b) H
theorem call_isi : CallR X (.builtin "isinstance") (rIsi X.K) := by
  intro pins s σ H xs us Q I r h
  obtain ⟨x, T, t, b, rfl, ty, k, q⟩ := h
  obtain ⟨u, u2, rfl, ru, ru2⟩ := vals2 r
  cases ru2
  exact isinst_ok I ru ty k fun tk => ⟨.bl b, H, I.tok tk, rfl, q⟩
end
end L2
namespace L2
open PySem PySem.Spec PyProof.Rows
def pick (js : List Nat) (σ : St) : St := js.map fun j => (σ[j]?).join
def cxG (X : Cx) (scope : Scope) (cl : List (Str × Addr)) (fp : List Addr) (N : List Str) (s : Shared) (H : Hp) : Cx where
  prog := X.prog
  w := X.w
  K := X.K
  mg := X.mg
  base := X.base
  A := X.A
  N := N
  s₀ := s
  H₀ := H
  env := compEnvC scope cl s.heap.objs.size X.env
  outer := X.stack
  stack := X.stack
  ex := fp
  fn := fun _ => false
  calm := X.calm
  pn := []
  xe := fun _ _ => False
def PTs (X : Cx) (ifs : List Expr) (t : TT) : Prop :=
  ∀ (pins : List (Addr × Obj)) (s : Shared) (σ : St) (H : Hp) (Q : Bool → Hp → Prop), Inv X pins σ H s → t σ H Q →
    wpAny (model X.prog X.w) X.A (forIn ifs true fun c r => if r = true then do let ok ← isTrue c X.env (eval c X.env); pure (ForInStep.yield ok) else pure (ForInStep.yield r)) (TP X pins σ Q) X.xe s
theorem pts_nil {X : Cx} : PTs X [] (fun _ H Q => Q true H) := fun pins s σ H Q I h => wpAny_tests_nil ⟨H, I, h⟩
def tCompG (wi : TI) (k : Nat) (js : List Nat) (g : TG) (tt : TT) (te : TE) : TE := fun σ H Q => wi σ H fun J H1 => ∀ D, H1 D = none → ∃ W : Nat → Nat → List V → Hp → Prop, (∃ m, W 0 m [] (upd H1 D (.lst []))) ∧ ∀ i m acc H2, W i m acc H2 → H2 D = some (.lst acc) →
  (J.stop i H2 ∧ Q (.ref D) H2) ∨ (J.go i H2 ∧ ∀ y H3, J.yld i H2 y H3 → ∀ old : St, old.length = k → g y (old ++ pick js σ) H3 fun σ4 H4 => (∃ new : St, new.length = k ∧ σ4 = new ++ pick js σ) ∧ tt σ4 H4 fun b H5 =>
    if b = true then te σ4 H5 fun v H6 => H6 D = some (.lst acc) ∧ acc.length < sizeLine ∧ ∃ m', m' < m ∧ W (i + 1) m' (acc ++ [v]) (upd H6 D (.lst (acc ++ [v])))
    else H5 D = some (.lst acc) ∧ ∃ m', m' < m ∧ W (i + 1) m' acc H5)
theorem compLoop_anyI {prog : Program} {w : World} {A : Around} {R : Result → Shared → Prop} {s : Shared} {elt tgt iter : Expr} {ifs : List Expr} {scope : Scope} {pos : Pos} {it acc : Value} {env : Env} (J : Nat → Shared → Prop)
    (turn : ∀ n s, J n s → wpAny (model prog w) A (pyNext it) (fun r s1 => match r with
      | none => R (.ok .next) s1
      | some v => wpAny (model prog w) A (letOwnedTupleGo tgt it v) (fun _ s2 => wpAny (model prog w) A (assign tgt env v) (fun _ s3 =>
          wpAny (model prog w) A (forIn ifs true fun c r => if r = true then do let ok ← isTrue c env (eval c env); pure (ForInStep.yield ok) else pure (ForInStep.yield r)) (fun b s3' =>
          if b = true then wpAny (model prog w) A (eval elt env) (fun y s4 => wpAny (model prog w) A (call (.builtin "list.append") [acc, y]) (fun _ s5 => ∃ m, m < n ∧ J m s5) (fun _ _ => False) s4) (fun _ _ => False) s3'
          else ∃ m, m < n ∧ J m s3') (fun _ _ => False) s3) (fun _ _ => False) s2) (fun _ _ => False) s1) (fun _ _ => False) s)
    (n : Nat) (h : J n s) : codeAny (model prog w) A (.compLoop (.ListComp elt [⟨tgt, iter, ifs, 0⟩] scope pos) 0 it acc env) R s := by
  refine codeAny_loop rfl J (fun n' s' hJ => ?_) n h
  show wpAny _ _ ((compTurn (.ListComp elt [⟨tgt, iter, ifs, 0⟩] scope pos) 0 it acc env).onRaise (fun z => do noteFrame z env; theTreesLotGoes z)) _ _ s'
  refine wpAny_noted ?_
  rw [compTurn_list]
  have nope : ∀ {α : Type} {t : Sem α} {Q : α → Shared → Prop} {E : Value → Shared → Prop} {q : Shared}, wpAny (model prog w) A t Q (fun _ _ => False) q → wpAny (model prog w) A t Q E q := fun h => wpAny_mono h (fun _ _ z => z) fun _ _ z => z.elim
  refine wpAny_bind (wpAny_standAt (wpAny_bind (wpAny_mono (nope (turn n' s' hJ)) (fun r s1 h1 => ?_) fun _ _ z => z)))
  cases r with
  | none => exact wpAny_pure h1
  | some v =>
    refine wpAny_bind (wpAny_mono (nope h1) (fun _ s2 h2 => ?_) fun _ _ z => z)
    refine wpAny_bind (wpAny_mono (nope h2) (fun _ s3 h3 => ?_) fun _ _ z => z)
    refine wpAny_bind (wpAny_mono (nope h3) (fun b s4 h4 => ?_) fun _ _ z => z)
    cases b with
    | true =>
      have h4' := (show wpAny _ _ _ _ _ s4 by simpa using h4)
      simp only [if_true]
      refine wpAny_bind (wpAny_bind (wpAny_mono (nope h4') (fun y s5 h5 => ?_) fun _ _ z => z))
      refine wpAny_bind (wpAny_mono (nope h5) (fun _ s6 h6 => ?_) fun _ _ z => z)
      exact wpAny_pure (wpAny_pure ⟨rfl, h6⟩)
    | false =>
      have h4' : ∃ m, m < n' ∧ J m s4 := by simpa using h4
      simp only [Bool.false_eq_true, if_false]
      exact wpAny_bind (wpAny_pure (wpAny_pure ⟨rfl, h4'⟩))
section
variable {X : Cx}
theorem pick_get {js : List Nat} {σ : St} {i : Nat} {v : V} (h : (pick js σ)[i]? = some (some v)) : ∃ j, js[i]? = some j ∧ σ[j]? = some (some v) := by
  unfold pick at h
  rw [List.getElem?_map] at h
  cases e : js[i]? with
  | none => rw [e] at h; cases h
  | some j =>
    rw [e] at h
    have h' : (σ[j]?).join = some v := Option.some.inj h
    refine ⟨j, rfl, ?_⟩
    cases q : σ[j]? with
    | none => rw [q] at h'; cases h'
    | some o => rw [q] at h'; exact congrArg some h'
theorem pe_compG {elt iter tgt : Expr} {ifs : List Expr} {scope : Scope} {pos : Pos} {cl : List (Str × Addr)} {tgs ns : List Str} {js : List Nat} {wi : TI} {g : TG} {tt : TT} {te : TE} (hc : X.calm = true)
    (hi : PI X tgt iter wi) (hg : ∀ (fp : List Addr) (s : Shared) (H : Hp), PG (cxG X scope cl fp (tgs ++ ns) s H) tgt g) (ht : ∀ (fp : List Addr) (s : Shared) (H : Hp), PTs (cxG X scope cl fp (tgs ++ ns) s H) ifs tt)
    (he : ∀ (fp : List Addr) (s : Shared) (H : Hp), PE (cxG X scope cl fp (tgs ++ ns) s H) elt te)
    (hclos : closureFor scope X.env = pure cl) (hsub : ∀ x c, cl.lookup x = some c → X.env.cells.lookup x = some c)
    (hhas : ∀ x, ((relabel scope X.env).names.lookup x = some .cell ∨ (relabel scope X.env).names.lookup x = some .free) → ∃ c, cl.lookup x = some c)
    (hjs : js.map (fun j => X.N[j]?) = ns.map some) (hin : ∀ y ∈ ns, (relabel scope X.env).names.lookup y = some .cell ∨ (relabel scope X.env).names.lookup y = some .free)
    (hout : ∀ y ∈ ns, X.env.kindOf y = some .cell ∨ X.env.kindOf y = some .free)
    (hcell : ∀ y ∈ scope.names, y.2 ≠ .cell := by decide +kernel) (hkind : scope.kind = .function := by rfl)
    (hnames : ∀ y ∈ scope.names, y.2 = .local → scope.names.lookup y.1 = some .local := by decide +kernel)
    (hs : ∀ z, foldedSetIterable iter X.env z = pure z := by intro _; rfl) :
    PE X (.ListComp elt [⟨tgt, iter, ifs, 0⟩] scope pos) (tCompG wi tgs.length js g tt te) := by
  intro pins s σ H Q I h
  rw [eval_ListComp]
  refine wpAny_comprehension_free (use := none) rfl hs hclos hkind hnames (thn (hi pins s σ H _ I h) fun v s1 h1 => thn h1 fun itv s2 h2 => ?_)
  obtain ⟨it, fp, tn, J, H2, rfl, I2, T, st2, f2, body⟩ := h2
  have hD : H2 s2.heap.objs.size = none := I2.hok.fresh (Nat.le_refl _)
  obtain ⟨W, ⟨m0, w0⟩, step⟩ := body _ hD
  refine wpAny_newObj_type (wpAny_newFunctionEnv hcell (by intro y hy; simp at hy) (fun g1 hns hsb => ?_) hkind) (by size_fits)
  dsimp only at hns hsb ⊢
  have I3 : Inv X pins σ (upd H2 s2.heap.objs.size (.lst [])) { s2 with heap := s2.heap.push { cls := .type "list", dict := none, data := .seq ([] : List Value).toArray } } := I2.lnew (t' := s2.toks) .nil (by simp)
  generalize hD' : s2.heap.objs.size = D at *
  generalize hH3 : upd H2 D (.lst []) = H3 at *
  generalize hS3 : s2.heap.push { cls := .type "list", dict := none, data := .seq ([] : List Value).toArray } = g3 at *
  have zs : g3.objs.size = D + 1 := by rw [← hS3, Heap.size_push, hD']
  have f3 : ∀ b ∈ fp, FpOk X pins H3 b := fun b hb => by
    obtain ⟨o, ho, _⟩ := T.obj _ _ st2 b hb
    have lt := Heap.lt_size ho
    refine ⟨?_, (f2 b hb).2⟩
    rw [← hH3, upd_ne (Nat.ne_of_lt (hD' ▸ lt))]
    exact (f2 b hb).1
  have ltf : ∀ b ∈ fp, b < g3.objs.size := fun b hb => by
    obtain ⟨o, ho, _⟩ := T.obj _ _ st2 b hb
    rw [zs]
    exact Nat.lt_succ_of_lt (hD' ▸ Heap.lt_size ho)
  have kept : ∀ b o, g3.get? b = some o → g1.get? b = some o := fun b o e => hsb.extBut b o (Nat.ne_of_lt (Heap.lt_size e)) (Heap.get?_push_of_some _ e)
  have cne : ∀ x c, cl.lookup x = some c → c ≠ g3.objs.size := fun x c e => by
    obtain ⟨v, q⟩ := I3.cell x c (hsub x c e)
    exact Nat.ne_of_lt q.lt
  have ok : (cxG X scope cl fp (tgs ++ ns) { s2 with heap := g3 } H3).Ok := by
    refine ⟨I.ok.mod, hkind, I.ok.glob, I.ok.blt, Nat.le_refl _, fun y z c e1 e2 => I.ok.inj y z c (hsub y c e1) (hsub z c e2), fun y hy => hhas y hy, fun y c e => (nomatch e), I.ok.hd, I.ok.frames, .inl rfl,
      fun b hb => ⟨Nat.ne_of_lt (ltf b hb), fun y c e => (f3 b hb).2.2.2.2.1 y c (hsub y c e)⟩, I3.bs, Nat.le_trans I.ok.bsz I3.sz, fun b o e hb => ?_, fun b hb => ?_, I3.stack, I3.stkFree⟩
    · rcases (f3 b hb).2.2.2.1 with q | q
      · exact I.ok.noex b o e q
      · exact absurd (Nat.lt_of_lt_of_le (Heap.lt_size (I.ok.bs b o e).1) q) (Nat.lt_irrefl _)
    · intro z
      rcases List.mem_cons.mp (I3.stkSub b z) with q | q
      · exact (f3 b hb).2.1 q
      · exact (f3 b hb).2.2.1 q
  have cells1 : ∀ x c, cl.lookup x = some c → ∃ v, g1.IsCell c v := fun x c e => by
    obtain ⟨v, o, ho, hd⟩ := I3.cell x c (hsub x c e)
    exact ⟨v, o, kept _ _ ho, hd⟩
  have J4 : Inv (cxG X scope cl fp (tgs ++ ns) { s2 with heap := g3 } H3) [] (List.replicate tgs.length none ++ pick js σ) H3 { s2 with heap := g1, toks := s2.toks + ([] : List (Str × Value)).length } := by
    refine ⟨ok, rfl, I3.bare, Un.kept kept, ⟨_, hns, fun i y v e1 e2 e3 => ?_⟩, fun y c e => cells1 y c e, I3.hok.fresh (Nat.le_refl _), fun y c e => I3.freeC y c (hsub y c e), fun p hp => absurd (show p ∈ ([] : List (Addr × Obj)) from hp) (by simp), I3.hok.kept kept, ?_⟩
    · have hi2 : tgs.length ≤ i := by
        by_cases hlt : i < tgs.length
        · rw [List.getElem?_append_left (by simpa using hlt), List.getElem?_replicate, if_pos hlt] at e2
          cases e2
        · omega
      rw [List.getElem?_append_right (by simpa using hi2), List.length_replicate] at e2
      have e1' : (tgs ++ ns)[i]? = some y := e1
      rw [List.getElem?_append_right hi2] at e1'
      obtain ⟨j, hj, hσ⟩ := pick_get e2
      have hNj : X.N[j]? = some y := by
        have := congrArg (fun l => l[i - tgs.length]?) hjs
        simp only [List.getElem?_map, hj, e1', Option.map_some] at this
        exact Option.some.inj this
      have ym : y ∈ ns := List.mem_of_getElem? e1'
      obtain ⟨m, hm, hl⟩ := I3.loc
      have vis : Vis X.env.scope y := by
        rcases hout y ym with q | q
        · exact .inr (.inl q)
        · exact .inr (.inr q)
      obtain ⟨u, ru, lk⟩ := hl j y v hNj hσ vis
      refine ⟨u, ru, ?_⟩
      rcases lk with ⟨q, _⟩ | ⟨_, c, hc1, hc2⟩
      · rcases hout y ym with z | z
        · rw [z] at q; cases q
        · rw [z] at q; cases q
      · obtain ⟨c', hc'⟩ := hhas y (hin y ym)
        have := hsub y c' hc'
        rw [hc1] at this
        cases this
        obtain ⟨o, ho, hd⟩ := hc2
        exact .inr ⟨hin y ym, c, hc', o, kept _ _ ho, hd⟩
    · show _ = (tgs ++ ns).length
      have := congrArg List.length hjs
      simp only [List.length_map] at this
      simp [pick, this]
  have st4 : tn 0 g1 := T.keep 0 _ _ st2 fun b hb o e => kept b o (by rw [← hS3]; exact Heap.get?_push_of_some _ e)
  have fin : ∀ (H' : Hp) (σ' : St) (s' : Shared), Inv (cxG X scope cl fp (tgs ++ ns) { s2 with heap := g3 } H3) [] σ' H' s' → Q (.ref D) H' → ∃ m, s'.heap.Ns g3.objs.size m ∧ ∀ h', Heap.SameBut g3.objs.size s'.heap h' → EP X pins σ Q (.ref D) { s' with heap := h' } := by
    intro H' σ' s' K q
    obtain ⟨m, hm, _⟩ := K.loc
    refine ⟨m, hm, fun h' hsb' => ⟨.ref D, H', ?_, rfl, q⟩⟩
    have ne : ∀ b o, g3.get? b = some o → b ≠ g3.objs.size := fun b o e => Nat.ne_of_lt (Heap.lt_size e)
    have B : Un (frs X.stack) fp H3 H' g3 s'.heap := K.base
    refine I3.call' (s' := { s' with heap := h' }) (ch := fp) K.os ⟨fun b o e n hb hx => (hsb'.2 b (ne b o e)).trans (B.keep b o e n hb hx), fun b o e n hb hx => ?_, B.free, fun b o e hx => ?_, B.tups, B.frzs, B.tbls⟩ (fun b u e => ?_) K.bare (fun b hb => ?_)
    · obtain ⟨sl, e1⟩ := B.slot b o e n hb hx
      exact ⟨sl, (hsb'.2 b (ne b o e)).trans e1⟩
    · obtain ⟨o', e1⟩ := B.there b o e hx
      exact ⟨o', (hsb'.2 b (ne b o e)).trans e1⟩
    · have nC : ∀ c v, H' c = some v → c ≠ g3.objs.size := fun c v e z => by
        have : H' g3.objs.size = none := K.free
        rw [z, this] at e
        cases e
      refine (K.hok b u e).stay (fun c v hc q => (hsb'.2 c ?_).trans q) (fun _ q => q) fun _ _ q => q
      rcases hc with z | z
      · rw [z]; exact nC b u e
      · exact nC c _ z
    · obtain ⟨_, q1, _, q3, q4, q5⟩ := f3 b hb
      exact ⟨q3, q1, q4, q5⟩
  have loop : codeAny (model X.prog X.w) X.A (.compLoop (.ListComp elt [⟨tgt, iter, ifs, 0⟩] scope pos) 0 (.ref it) (.ref D) (compEnvC scope cl g3.objs.size X.env))
      (compPost (model X.prog X.w) X.A X.xe none (EP X pins σ Q) (.ref D) g3.objs.size) { s2 with heap := g1, toks := s2.toks + ([] : List (Str × Value)).length } := by
    refine compLoop_anyI (fun n s' => ∃ i acc old H', Inv (cxG X scope cl fp (tgs ++ ns) { s2 with heap := g3 } H3) [] (old ++ pick js σ) H' s' ∧ old.length = tgs.length ∧ tn i s'.heap ∧ (∀ b ∈ fp, H' b = none) ∧ H' D = some (.lst acc) ∧ W i n acc H') ?_ m0
      ⟨0, [], List.replicate tgs.length none, H3, J4, by simp, st4, fun b hb => (f3 b hb).1, by rw [← hH3]; exact upd_same, w0⟩
    rintro n s' ⟨i, acc, old, H', K, lo, st, fr, hDl, w⟩
    have fpk : ∀ {H'' : Hp}, (∀ b ∈ fp, H'' b = none) → ∀ b ∈ fp, FpOk (cxG X scope cl fp (tgs ++ ns) { s2 with heap := g3 } H3) [] H'' b := fun hn b hb =>
      ⟨hn b hb, Nat.ne_of_lt (ltf b hb), fun z => ok.exfs b hb z, .inl hb, fun y c e => (f3 b hb).2.2.2.2.1 y c (hsub y c e), fun p hp => absurd (show p ∈ ([] : List (Addr × Obj)) from hp) (by simp)⟩
    rcases step i n acc H' w hDl with ⟨stop, q⟩ | ⟨go, next⟩
    · refine thn (T.done (cxG X scope cl fp (tgs ++ ns) { s2 with heap := g3 } H3) rfl rfl rfl hc i [] s' _ H' _ K (fpk fr) st stop) fun r s1 ⟨hr, K1⟩ => ?_
      subst hr
      exact fin H' _ s1 K1 q
    · refine thn (T.item (cxG X scope cl fp (tgs ++ ns) { s2 with heap := g3 } H3) rfl rfl rfl hc i [] s' _ H' _ K (fpk fr) st go) fun r s1 ⟨u, hr, h4⟩ => ?_
      subst hr
      refine thn h4 fun _ s5 ⟨y, H5, K5, r5, y5, st5, fr5⟩ => ?_
      have K5' := K5.pinned (fpk fr5) (T.obj _ _ st5)
      refine thn (hg fp { s2 with heap := g3 } H3 _ s5 _ H5 y u _ K5' r5 (next y H5 y5 old lo)) fun _ s6 ⟨σ6, H6, K6, ⟨new, hnew, e6⟩, q6⟩ => ?_
      subst e6
      refine thn (ht fp { s2 with heap := g3 } H3 _ s6 _ H6 _ K6 q6) fun b s6' ⟨H6', K6', q6'⟩ => ?_
      have again : ∀ {s8 : Shared} {H8 : Hp} {acc' : List V} {m' : Nat}, Inv (cxG X scope cl fp (tgs ++ ns) { s2 with heap := g3 } H3) ([] ++ pinsAt fp s5.heap) (new ++ pick js σ) H8 s8 → H8 D = some (.lst acc') → m' < n → W (i + 1) m' acc' H8 →
          ∃ m, m < n ∧ ∃ i acc old H', Inv (cxG X scope cl fp (tgs ++ ns) { s2 with heap := g3 } H3) [] (old ++ pick js σ) H' s8 ∧ old.length = tgs.length ∧ tn i s8.heap ∧ (∀ b ∈ fp, H' b = none) ∧ H' D = some (.lst acc) ∧ W i m acc H' := by
        intro s8 H8 acc' m' K8 h8 hm' w8
        refine ⟨m', hm', i + 1, acc', new, H8, K8.unpinned, hnew, T.keep _ _ _ st5 fun b hb o e => (K8.pin (b, o) (List.mem_append_right _ (List.mem_append_right _ (mem_pinsAt hb e)))).1, fun b hb => ?_, h8, w8⟩
        obtain ⟨o, e, d⟩ := T.obj _ _ st5 b hb
        exact (K8.pin (b, o) (List.mem_append_right _ (List.mem_append_right _ (mem_pinsAt hb e)))).2.1
      cases b with
      | true =>
        refine iteT ?_
        rw [if_pos rfl] at q6'
        refine thn (he fp { s2 with heap := g3 } H3 _ s6' _ H6' _ K6' q6') fun vv s7 ⟨v, H7, K7, r7, hD7, hlen, m', hm', w7⟩ => ?_
        refine thn (mt_append (X := cxG X scope cl fp (tgs ++ ns) { s2 with heap := g3 } H3) _ s7 _ H7 (.ref D) [v] (.ref D) [vv] (fun _ H8 => H8 = upd H7 D (.lst (acc ++ [v]))) K7 rfl (.cons r7 .nil) ⟨D, acc, v, rfl, rfl, hD7, hlen, rfl⟩) fun _ s8 ⟨_, H8, K8, _, e8⟩ => ?_
        subst e8
        exact again K8 upd_same hm' w7
      | false =>
        refine iteF ?_
        have q6f : H6' D = some (.lst acc) ∧ ∃ m', m' < n ∧ W (i + 1) m' acc H6' := by simpa using q6'
        obtain ⟨hD7, m', hm', w7⟩ := q6f
        exact again K6' hD7 hm' w7
  exact codeAny_compStart_list loop (T.self _ 0 _ _ _ st4 loop)
end
end L2
namespace L2
open PySem PySem.Spec PyProof.Rows
section
variable {X : Cx}
theorem comp_core {elt iter tgt : Expr} {ifs : List Expr} {scope : Scope} {pos : Pos} {cl : List (Str × Addr)} {tgs ns : List Str} {js : List Nat} {wi : TI} {g : TG} {tt : TT} {te : TE} (hc : X.calm = true)
    (hi : PI X tgt iter wi) (hg : ∀ (fp : List Addr) (s : Shared) (H : Hp), PG (cxG X scope cl fp (tgs ++ ns) s H) tgt g) (ht : ∀ (fp : List Addr) (s : Shared) (H : Hp), PTs (cxG X scope cl fp (tgs ++ ns) s H) ifs tt)
    (he : ∀ (fp : List Addr) (s : Shared) (H : Hp), PE (cxG X scope cl fp (tgs ++ ns) s H) elt te)
    (hclos : closureFor scope X.env = pure cl) (hsub : ∀ x c, cl.lookup x = some c → X.env.cells.lookup x = some c)
    (hhas : ∀ x, ((relabel scope X.env).names.lookup x = some .cell ∨ (relabel scope X.env).names.lookup x = some .free) → ∃ c, cl.lookup x = some c)
    (hjs : js.map (fun j => X.N[j]?) = ns.map some) (hin : ∀ y ∈ ns, (relabel scope X.env).names.lookup y = some .cell ∨ (relabel scope X.env).names.lookup y = some .free)
    (hout : ∀ y ∈ ns, X.env.kindOf y = some .cell ∨ X.env.kindOf y = some .free)
    (hcell : ∀ y ∈ scope.names, y.2 ≠ .cell := by decide +kernel) (hkind : scope.kind = .function := by rfl)
    (hnames : ∀ y ∈ scope.names, y.2 = .local → scope.names.lookup y.1 = some .local := by decide +kernel)
    (hs : ∀ z, foldedSetIterable iter X.env z = pure z := by intro _; rfl) :
    ∀ (pos0 : Pos) (pins : List (Addr × Obj)) (s : Shared) (σ : St) (H : Hp) (Q : VK) (I : Inv X pins σ H s) (h : tCompG wi tgs.length js g tt te σ H Q) (use : Option (Value → Sem Unit)) (R : Value → Shared → Prop)
      (hfin : ∀ (D C : Addr) (H' : Hp) (s' : Shared), Q (.ref D) H' → FpOk X pins H' C → (∃ m, s'.heap.Ns C m) → (∀ h', Heap.SameBut C s'.heap h' → Inv X pins σ H' { s' with heap := h' }) → compPost (model X.prog X.w) X.A X.xe use R (.ref D) C (.ok .next) s'),
      wpAny (model X.prog X.w) X.A (comprehension (.ListComp elt [⟨tgt, iter, ifs, 0⟩] scope pos) scope X.env pos0 (newList []) false (eval iter X.env) use) R X.xe s := by
  intro pos0 pins s σ H Q I h use R hfin
  refine wpAny_comprehension_free (use := use) rfl hs hclos hkind hnames (thn (hi pins s σ H _ I h) fun v s1 h1 => thn h1 fun itv s2 h2 => ?_)
  obtain ⟨it, fp, tn, J, H2, rfl, I2, T, st2, f2, body⟩ := h2
  have hD : H2 s2.heap.objs.size = none := I2.hok.fresh (Nat.le_refl _)
  obtain ⟨W, ⟨m0, w0⟩, step⟩ := body _ hD
  refine wpAny_newObj_type (wpAny_newFunctionEnv hcell (by intro y hy; simp at hy) (fun g1 hns hsb => ?_) hkind) (by size_fits)
  dsimp only at hns hsb ⊢
  have I3 : Inv X pins σ (upd H2 s2.heap.objs.size (.lst [])) { s2 with heap := s2.heap.push { cls := .type "list", dict := none, data := .seq ([] : List Value).toArray } } := I2.lnew (t' := s2.toks) .nil (by simp)
  generalize hD' : s2.heap.objs.size = D at *
  generalize hH3 : upd H2 D (.lst []) = H3 at *
  generalize hS3 : s2.heap.push { cls := .type "list", dict := none, data := .seq ([] : List Value).toArray } = g3 at *
  have zs : g3.objs.size = D + 1 := by rw [← hS3, Heap.size_push, hD']
  have f3 : ∀ b ∈ fp, FpOk X pins H3 b := fun b hb => by
    obtain ⟨o, ho, _⟩ := T.obj _ _ st2 b hb
    have lt := Heap.lt_size ho
    refine ⟨?_, (f2 b hb).2⟩
    rw [← hH3, upd_ne (Nat.ne_of_lt (hD' ▸ lt))]
    exact (f2 b hb).1
  have ltf : ∀ b ∈ fp, b < g3.objs.size := fun b hb => by
    obtain ⟨o, ho, _⟩ := T.obj _ _ st2 b hb
    rw [zs]
    exact Nat.lt_succ_of_lt (hD' ▸ Heap.lt_size ho)
  have kept : ∀ b o, g3.get? b = some o → g1.get? b = some o := fun b o e => hsb.extBut b o (Nat.ne_of_lt (Heap.lt_size e)) (Heap.get?_push_of_some _ e)
  have cne : ∀ x c, cl.lookup x = some c → c ≠ g3.objs.size := fun x c e => by
    obtain ⟨v, q⟩ := I3.cell x c (hsub x c e)
    exact Nat.ne_of_lt q.lt
  have ok : (cxG X scope cl fp (tgs ++ ns) { s2 with heap := g3 } H3).Ok := by
    refine ⟨I.ok.mod, hkind, I.ok.glob, I.ok.blt, Nat.le_refl _, fun y z c e1 e2 => I.ok.inj y z c (hsub y c e1) (hsub z c e2), fun y hy => hhas y hy, fun y c e => (nomatch e), I.ok.hd, I.ok.frames, .inl rfl,
      fun b hb => ⟨Nat.ne_of_lt (ltf b hb), fun y c e => (f3 b hb).2.2.2.2.1 y c (hsub y c e)⟩, I3.bs, Nat.le_trans I.ok.bsz I3.sz, fun b o e hb => ?_, fun b hb => ?_, I3.stack, I3.stkFree⟩
    · rcases (f3 b hb).2.2.2.1 with q | q
      · exact I.ok.noex b o e q
      · exact absurd (Nat.lt_of_lt_of_le (Heap.lt_size (I.ok.bs b o e).1) q) (Nat.lt_irrefl _)
    · intro z
      rcases List.mem_cons.mp (I3.stkSub b z) with q | q
      · exact (f3 b hb).2.1 q
      · exact (f3 b hb).2.2.1 q
  have cells1 : ∀ x c, cl.lookup x = some c → ∃ v, g1.IsCell c v := fun x c e => by
    obtain ⟨v, o, ho, hd⟩ := I3.cell x c (hsub x c e)
    exact ⟨v, o, kept _ _ ho, hd⟩
  have J4 : Inv (cxG X scope cl fp (tgs ++ ns) { s2 with heap := g3 } H3) [] (List.replicate tgs.length none ++ pick js σ) H3 { s2 with heap := g1, toks := s2.toks + ([] : List (Str × Value)).length } := by
    refine ⟨ok, rfl, I3.bare, Un.kept kept, ⟨_, hns, fun i y v e1 e2 e3 => ?_⟩, fun y c e => cells1 y c e, I3.hok.fresh (Nat.le_refl _), fun y c e => I3.freeC y c (hsub y c e), fun p hp => absurd (show p ∈ ([] : List (Addr × Obj)) from hp) (by simp), I3.hok.kept kept, ?_⟩
    · have hi2 : tgs.length ≤ i := by
        by_cases hlt : i < tgs.length
        · rw [List.getElem?_append_left (by simpa using hlt), List.getElem?_replicate, if_pos hlt] at e2
          cases e2
        · omega
      rw [List.getElem?_append_right (by simpa using hi2), List.length_replicate] at e2
      have e1' : (tgs ++ ns)[i]? = some y := e1
      rw [List.getElem?_append_right hi2] at e1'
      obtain ⟨j, hj, hσ⟩ := pick_get e2
      have hNj : X.N[j]? = some y := by
        have := congrArg (fun l => l[i - tgs.length]?) hjs
        simp only [List.getElem?_map, hj, e1', Option.map_some] at this
        exact Option.some.inj this
      have ym : y ∈ ns := List.mem_of_getElem? e1'
      obtain ⟨m, hm, hl⟩ := I3.loc
      have vis : Vis X.env.scope y := by
        rcases hout y ym with q | q
        · exact .inr (.inl q)
        · exact .inr (.inr q)
      obtain ⟨u, ru, lk⟩ := hl j y v hNj hσ vis
      refine ⟨u, ru, ?_⟩
      rcases lk with ⟨q, _⟩ | ⟨_, c, hc1, hc2⟩
      · rcases hout y ym with z | z
        · rw [z] at q; cases q
        · rw [z] at q; cases q
      · obtain ⟨c', hc'⟩ := hhas y (hin y ym)
        have := hsub y c' hc'
        rw [hc1] at this
        cases this
        obtain ⟨o, ho, hd⟩ := hc2
        exact .inr ⟨hin y ym, c, hc', o, kept _ _ ho, hd⟩
    · show _ = (tgs ++ ns).length
      have := congrArg List.length hjs
      simp only [List.length_map] at this
      simp [pick, this]
  have st4 : tn 0 g1 := T.keep 0 _ _ st2 fun b hb o e => kept b o (by rw [← hS3]; exact Heap.get?_push_of_some _ e)
  have fin : ∀ (H' : Hp) (σ' : St) (s' : Shared), Inv (cxG X scope cl fp (tgs ++ ns) { s2 with heap := g3 } H3) [] σ' H' s' → Q (.ref D) H' → compPost (model X.prog X.w) X.A X.xe use R (.ref D) g3.objs.size (.ok .next) s' := by
    intro H' σ' s' K q
    obtain ⟨m, hm, _⟩ := K.loc
    refine hfin D g3.objs.size H' s' q (I3.fpOk (Nat.le_refl _) K.free) ⟨m, hm⟩ fun h' hsb' => ?_
    have ne : ∀ b o, g3.get? b = some o → b ≠ g3.objs.size := fun b o e => Nat.ne_of_lt (Heap.lt_size e)
    have B : Un (frs X.stack) fp H3 H' g3 s'.heap := K.base
    refine I3.call' (s' := { s' with heap := h' }) (ch := fp) K.os ⟨fun b o e n hb hx => (hsb'.2 b (ne b o e)).trans (B.keep b o e n hb hx), fun b o e n hb hx => ?_, B.free, fun b o e hx => ?_, B.tups, B.frzs, B.tbls⟩ (fun b u e => ?_) K.bare (fun b hb => ?_)
    · obtain ⟨sl, e1⟩ := B.slot b o e n hb hx
      exact ⟨sl, (hsb'.2 b (ne b o e)).trans e1⟩
    · obtain ⟨o', e1⟩ := B.there b o e hx
      exact ⟨o', (hsb'.2 b (ne b o e)).trans e1⟩
    · have nC : ∀ c v, H' c = some v → c ≠ g3.objs.size := fun c v e z => by
        have : H' g3.objs.size = none := K.free
        rw [z, this] at e
        cases e
      refine (K.hok b u e).stay (fun c v hc q => (hsb'.2 c ?_).trans q) (fun _ q => q) fun _ _ q => q
      rcases hc with z | z
      · rw [z]; exact nC b u e
      · exact nC c _ z
    · obtain ⟨_, q1, _, q3, q4, q5⟩ := f3 b hb
      exact ⟨q3, q1, q4, q5⟩
  have loop : codeAny (model X.prog X.w) X.A (.compLoop (.ListComp elt [⟨tgt, iter, ifs, 0⟩] scope pos) 0 (.ref it) (.ref D) (compEnvC scope cl g3.objs.size X.env))
      (compPost (model X.prog X.w) X.A X.xe use R (.ref D) g3.objs.size) { s2 with heap := g1, toks := s2.toks + ([] : List (Str × Value)).length } := by
    refine compLoop_anyI (fun n s' => ∃ i acc old H', Inv (cxG X scope cl fp (tgs ++ ns) { s2 with heap := g3 } H3) [] (old ++ pick js σ) H' s' ∧ old.length = tgs.length ∧ tn i s'.heap ∧ (∀ b ∈ fp, H' b = none) ∧ H' D = some (.lst acc) ∧ W i n acc H') ?_ m0
      ⟨0, [], List.replicate tgs.length none, H3, J4, by simp, st4, fun b hb => (f3 b hb).1, by rw [← hH3]; exact upd_same, w0⟩
    rintro n s' ⟨i, acc, old, H', K, lo, st, fr, hDl, w⟩
    have fpk : ∀ {H'' : Hp}, (∀ b ∈ fp, H'' b = none) → ∀ b ∈ fp, FpOk (cxG X scope cl fp (tgs ++ ns) { s2 with heap := g3 } H3) [] H'' b := fun hn b hb =>
      ⟨hn b hb, Nat.ne_of_lt (ltf b hb), fun z => ok.exfs b hb z, .inl hb, fun y c e => (f3 b hb).2.2.2.2.1 y c (hsub y c e), fun p hp => absurd (show p ∈ ([] : List (Addr × Obj)) from hp) (by simp)⟩
    rcases step i n acc H' w hDl with ⟨stop, q⟩ | ⟨go, next⟩
    · refine thn (T.done (cxG X scope cl fp (tgs ++ ns) { s2 with heap := g3 } H3) rfl rfl rfl hc i [] s' _ H' _ K (fpk fr) st stop) fun r s1 ⟨hr, K1⟩ => ?_
      subst hr
      exact fin H' _ s1 K1 q
    · refine thn (T.item (cxG X scope cl fp (tgs ++ ns) { s2 with heap := g3 } H3) rfl rfl rfl hc i [] s' _ H' _ K (fpk fr) st go) fun r s1 ⟨u, hr, h4⟩ => ?_
      subst hr
      refine thn h4 fun _ s5 ⟨y, H5, K5, r5, y5, st5, fr5⟩ => ?_
      have K5' := K5.pinned (fpk fr5) (T.obj _ _ st5)
      refine thn (hg fp { s2 with heap := g3 } H3 _ s5 _ H5 y u _ K5' r5 (next y H5 y5 old lo)) fun _ s6 ⟨σ6, H6, K6, ⟨new, hnew, e6⟩, q6⟩ => ?_
      subst e6
      refine thn (ht fp { s2 with heap := g3 } H3 _ s6 _ H6 _ K6 q6) fun b s6' ⟨H6', K6', q6'⟩ => ?_
      have again : ∀ {s8 : Shared} {H8 : Hp} {acc' : List V} {m' : Nat}, Inv (cxG X scope cl fp (tgs ++ ns) { s2 with heap := g3 } H3) ([] ++ pinsAt fp s5.heap) (new ++ pick js σ) H8 s8 → H8 D = some (.lst acc') → m' < n → W (i + 1) m' acc' H8 →
          ∃ m, m < n ∧ ∃ i acc old H', Inv (cxG X scope cl fp (tgs ++ ns) { s2 with heap := g3 } H3) [] (old ++ pick js σ) H' s8 ∧ old.length = tgs.length ∧ tn i s8.heap ∧ (∀ b ∈ fp, H' b = none) ∧ H' D = some (.lst acc) ∧ W i m acc H' := by
        intro s8 H8 acc' m' K8 h8 hm' w8
        refine ⟨m', hm', i + 1, acc', new, H8, K8.unpinned, hnew, T.keep _ _ _ st5 fun b hb o e => (K8.pin (b, o) (List.mem_append_right _ (List.mem_append_right _ (mem_pinsAt hb e)))).1, fun b hb => ?_, h8, w8⟩
        obtain ⟨o, e, d⟩ := T.obj _ _ st5 b hb
        exact (K8.pin (b, o) (List.mem_append_right _ (List.mem_append_right _ (mem_pinsAt hb e)))).2.1
      cases b with
      | true =>
        refine iteT ?_
        rw [if_pos rfl] at q6'
        refine thn (he fp { s2 with heap := g3 } H3 _ s6' _ H6' _ K6' q6') fun vv s7 ⟨v, H7, K7, r7, hD7, hlen, m', hm', w7⟩ => ?_
        refine thn (mt_append (X := cxG X scope cl fp (tgs ++ ns) { s2 with heap := g3 } H3) _ s7 _ H7 (.ref D) [v] (.ref D) [vv] (fun _ H8 => H8 = upd H7 D (.lst (acc ++ [v]))) K7 rfl (.cons r7 .nil) ⟨D, acc, v, rfl, rfl, hD7, hlen, rfl⟩) fun _ s8 ⟨_, H8, K8, _, e8⟩ => ?_
        subst e8
        exact again K8 upd_same hm' w7
      | false =>
        refine iteF ?_
        have q6f : H6' D = some (.lst acc) ∧ ∃ m', m' < n ∧ W (i + 1) m' acc H6' := by simpa using q6'
        obtain ⟨hD7, m', hm', w7⟩ := q6f
        exact again K6' hD7 hm' w7
  exact codeAny_compStart_list loop (T.self _ 0 _ _ _ st4 loop)
theorem ps_compG {y : Str} {py spos : Pos} {iy : Nat} {elt iter tgt : Expr} {ifs : List Expr} {scope : Scope} {pos : Pos} {cl : List (Str × Addr)} {tgs ns : List Str} {js : List Nat} {wi : TI} {g : TG} {tt : TT} {te : TE} (hN : X.N.Nodup) (hi2 : X.N[iy]? = some y) (hx2 : Loc X.env.scope y) (hc : X.calm = true)
    (hi : PI X tgt iter wi) (hg : ∀ (fp : List Addr) (s : Shared) (H : Hp), PG (cxG X scope cl fp (tgs ++ ns) s H) tgt g) (ht : ∀ (fp : List Addr) (s : Shared) (H : Hp), PTs (cxG X scope cl fp (tgs ++ ns) s H) ifs tt)
    (he : ∀ (fp : List Addr) (s : Shared) (H : Hp), PE (cxG X scope cl fp (tgs ++ ns) s H) elt te)
    (hclos : closureFor scope X.env = pure cl) (hsub : ∀ x c, cl.lookup x = some c → X.env.cells.lookup x = some c)
    (hhas : ∀ x, ((relabel scope X.env).names.lookup x = some .cell ∨ (relabel scope X.env).names.lookup x = some .free) → ∃ c, cl.lookup x = some c)
    (hjs : js.map (fun j => X.N[j]?) = ns.map some) (hin : ∀ y ∈ ns, (relabel scope X.env).names.lookup y = some .cell ∨ (relabel scope X.env).names.lookup y = some .free)
    (hout : ∀ y ∈ ns, X.env.kindOf y = some .cell ∨ X.env.kindOf y = some .free)
    (hcell : ∀ y ∈ scope.names, y.2 ≠ .cell := by decide +kernel) (hkind : scope.kind = .function := by rfl)
    (hnames : ∀ y ∈ scope.names, y.2 = .local → scope.names.lookup y.1 = some .local := by decide +kernel)
    (hs : ∀ z, foldedSetIterable iter X.env z = pure z := by intro _; rfl)
    (hsw : swapsWith (.ListComp elt [⟨tgt, iter, ifs, 0⟩] scope pos) (some (.Name y py)) spos.line X.env = pure true := by rfl) (hf : X.fn y = true ∨ X.env.scope.names.lookup y = some .local := by first | exact .inl rfl | exact .inr rfl | assumption) :
    PS X (.Assign [.Name y py] (.ListComp elt [⟨tgt, iter, ifs, 0⟩] scope pos) spos) (tAsg (tCompG wi tgs.length js g tt te) (gName iy)) := by
  intro pins s σ H D I h
  rw [exec_Assign_Name_used _ _ _ _ hsw]
  refine wpAny_bind (wpAny_standAt (wpAny_bind ?_))
  show wpAny _ X.A (do let _ ← comprehension (.ListComp elt [⟨tgt, iter, ifs, 0⟩] scope pos) scope X.env _ (newList []) false (eval iter X.env) (some (assign (.Name y py) X.env))) _ _ s
  refine wpAny_bind (wpAny_mono (comp_core hc hi hg ht he hclos hsub hhas hjs hin hout hcell hkind hnames hs _ pins s σ H _ I h (some (assign (.Name y py) X.env)) (fun _ s' => SP X pins D .next s') ?_) (fun _ s' hq => wpAny_pure (wpAny_pure hq)) fun _ _ e => e)
  intro E C H' s' q fp ⟨m, hm⟩ inv
  have I1 : Inv X pins σ H' s' := inv s'.heap ⟨rfl, fun _ _ => rfl⟩
  show wpAny _ X.A (assign (.Name y py) X.env (.ref E)) _ _ _
  refine wpAny_assign_Name (store_ok2 I1 hN hi2 hx2 (v := .ref E) rfl (fun s2 I2 hsb => ?_) hf)
  obtain ⟨a, hsb, ha⟩ := hsb
  have aC : a ≠ C := by
    rcases ha with ha | ha
    · rw [ha]; exact Ne.symm fp.2.1
    · exact fp.2.2.2.2.1 _ _ ha
  refine ⟨m, hm.sameBut hsb (Ne.symm aC), fun h' hs' => ⟨_, H', ?_, q⟩⟩
  refine I2.call' (s' := { s2 with heap := h' }) (ch := [C]) rfl ⟨fun b o e n hb hx => ?_, fun b o e n hb hx => ?_, fun b o e n hx => n, fun b o e hx => ?_, fun _ _ e => e, fun _ _ _ e => e, fun b ps e => ⟨#[], by simpa using e⟩⟩ ?_ I2.bare ?_
  · exact hs'.extBut b o (by simpa using hx) e
  · exact ⟨o.slots, hs'.extBut b o (by simpa using hx) e⟩
  · exact ⟨o, hs'.extBut b o (by simpa using hx) e⟩
  · have nC : ∀ c v, H' c = some v → c ≠ C := fun c v e z => by
      rw [z, fp.1] at e
      cases e
    intro b u e
    refine (I2.hok b u e).stay (fun c v hc q => (hs'.2 c ?_).trans q) (fun _ q => q) fun _ _ q => q
    rcases hc with z | z
    · rw [z]; exact nC b u e
    · exact nC c _ z
  · intro b hb
    obtain rfl : b = C := by simpa using hb
    exact ⟨fp.2.2.2.1, fp.2.1, fp.2.2.2.2.1, fp.2.2.2.2.2⟩
end
end L2
namespace L2
open PySem PySem.Spec PyProof.Rows AutoSeq1
section
variable {prog : Program} {w : World} {A : Around} {E : Value → Shared → Prop} {s : Shared} {r : Addr} {a b c : Int} {t u v : Tok} {n : Nat}
end
section
variable {prog : Program} {w : World} {A : Around} {E : Value → Shared → Prop} {s : Shared} {r : Addr} {a b c : Int} {t u v : Tok} {n : Nat}
end
end L2
namespace Tim
open PySem PySem.W PyProof.Rows
section
variable {lt : Nat → Nat → Bool} {N : Nat} {p : Array Nat}
end
end Tim
namespace L2
open PySem PySem.Spec PySem.W PyProof.Rows Tim
section
variable {prog : Program} {w : World} {A : Around} {E : Value → Shared → Prop} {s : Shared}
end
section
variable {prog : Program} {w : World} {A : Around} {s : Shared} {C : Bool → Shared → Prop} {fin : Bool}
end
section
variable {X : Cx}
end
end L2
namespace Sf
structure Rw where
  x : Int
  y : Int
  m : Int
def Rw.up (r : Rw) : Prop := 0 < r.y ∨ (r.y = 0 ∧ 0 < r.x)
def crs (a b : Rw) : Int := a.x * b.y - b.x * a.y
theorem crs_trans {a b c : Rw} (ha : a.up) (hb : b.up) (hc : c.up) (h1 : 0 < crs a b) (h2 : 0 < crs b c) : 0 < crs a c := by
  unfold crs at *
  have key : b.y * (a.x * c.y - c.x * a.y) = a.y * (b.x * c.y - c.x * b.y) + c.y * (a.x * b.y - b.x * a.y) := by
    simp only [Int.mul_sub]
    have e1 : a.y * (b.x * c.y) = c.y * (b.x * a.y) := by rw [Int.mul_left_comm, Int.mul_comm a.y c.y, Int.mul_left_comm]
    have e2 : b.y * (a.x * c.y) = c.y * (a.x * b.y) := by rw [Int.mul_left_comm, Int.mul_comm b.y c.y, Int.mul_left_comm]
    have e3 : b.y * (c.x * a.y) = a.y * (c.x * b.y) := by rw [Int.mul_left_comm, Int.mul_comm b.y a.y, Int.mul_left_comm]
    omega
  have hay : 0 ≤ a.y := by rcases ha with h | ⟨h, _⟩ <;> omega
  have hcy : 0 ≤ c.y := by rcases hc with h | ⟨h, _⟩ <;> omega
  rcases hb with hby | ⟨hby, hbx⟩
  · have p1 : 0 ≤ a.y * (b.x * c.y - c.x * b.y) := Int.mul_nonneg hay (Int.le_of_lt h2)
    have p2 : 0 ≤ c.y * (a.x * b.y - b.x * a.y) := Int.mul_nonneg hcy (Int.le_of_lt h1)
    by_cases h0 : 0 < a.x * c.y - c.x * a.y
    · exact h0
    · exfalso
      have q : b.y * (a.x * c.y - c.x * a.y) ≤ 0 := Int.mul_nonpos_of_nonneg_of_nonpos (Int.le_of_lt hby) (by omega)
      have z1 : a.y * (b.x * c.y - c.x * b.y) = 0 := by omega
      have z2 : c.y * (a.x * b.y - b.x * a.y) = 0 := by omega
      have ay0 : a.y = 0 := by
        rcases Int.mul_eq_zero.mp z1 with h | h
        · exact h
        · omega
      have cy0 : c.y = 0 := by
        rcases Int.mul_eq_zero.mp z2 with h | h
        · exact h
        · omega
      have cx : 0 < c.x := by rcases hc with h | ⟨_, h⟩ <;> omega
      rw [cy0] at h2
      have : 0 < c.x * b.y := Int.mul_pos cx hby
      omega
  · exfalso
    rw [hby] at h1
    have h3 : b.x * a.y < 0 := by omega
    have h4 : 0 ≤ b.x * a.y := Int.mul_nonneg (Int.le_of_lt hbx) hay
    omega
def place (v : Rw) (rows : List Rw) : Nat := rows.countP fun r => decide (0 < crs r v)
def Srt (rows : List Rw) : Prop := rows.Pairwise fun a b => 0 < crs a b
theorem crs_neg (a b : Rw) : crs a b = - crs b a := by unfold crs; omega
theorem place_zero {v : Rw} (hv : v.up) : ∀ {rows : List Rw} {r : Rw}, Srt (r :: rows) → (∀ a ∈ r :: rows, a.up) → ¬ 0 < crs r v → place v (r :: rows) = 0 ∧ ∀ a ∈ rows, ¬ 0 < crs a v := by
  intro rows r hs hu hr
  have all : ∀ a ∈ rows, ¬ 0 < crs a v := fun a ha h => hr (crs_trans (hu r (by simp)) (hu a (by simp [ha])) hv ((List.pairwise_cons.mp hs).1 a ha) h)
  refine ⟨?_, all⟩
  unfold place
  rw [List.countP_eq_zero]
  intro a ha
  rcases List.mem_cons.mp ha with rfl | ha
  · simpa using hr
  · simpa using all a ha
theorem among_srt {v : Rw} (hv : v.up) : ∀ {rows : List Rw}, Srt rows → (∀ a ∈ rows, a.up) → (∀ a ∈ rows, crs a v ≠ 0) → Srt (rows.take (place v rows) ++ [v] ++ rows.drop (place v rows)) ∧
    (∀ a ∈ rows.take (place v rows), 0 < crs a v) := by
  intro rows
  induction rows with
  | nil => intro _ _ _; exact ⟨by simp [Srt], by simp⟩
  | cons r rows ih =>
    intro hs hu hn
    by_cases hr : 0 < crs r v
    · have hp : place v (r :: rows) = place v rows + 1 := by unfold place; rw [List.countP_cons_of_pos (by simpa using hr)]
      obtain ⟨h1, h2⟩ := ih (List.pairwise_cons.mp hs).2 (fun a ha => hu a (by simp [ha])) fun a ha => hn a (by simp [ha])
      rw [hp]
      refine ⟨?_, ?_⟩
      · simp only [List.take_succ_cons, List.drop_succ_cons, List.cons_append]
        refine List.pairwise_cons.mpr ⟨fun a ha => ?_, h1⟩
        rcases List.mem_append.mp ha with ha | ha
        · rcases List.mem_append.mp ha with ha | ha
          · exact (List.pairwise_cons.mp hs).1 a (List.mem_of_mem_take ha)
          · rw [List.mem_singleton.mp ha]; exact hr
        · exact (List.pairwise_cons.mp hs).1 a (List.mem_of_mem_drop ha)
      · intro a ha
        rw [List.take_succ_cons] at ha
        rcases List.mem_cons.mp ha with rfl | ha
        · exact hr
        · exact h2 a ha
    · obtain ⟨hp, hall⟩ := place_zero hv hs hu hr
      rw [hp]
      refine ⟨?_, by simp⟩
      simp only [List.take_zero, List.drop_zero, List.nil_append]
      refine List.pairwise_cons.mpr ⟨fun a ha => ?_, hs⟩
      have h0 : ¬ 0 < crs a v := by
        rcases List.mem_cons.mp ha with rfl | ha
        · exact hr
        · exact hall a ha
      have h1 := hn a ha
      have h2 := crs_neg v a
      omega
theorem place_le (v : Rw) (rows : List Rw) : place v rows ≤ rows.length := List.countP_le_length
structure Pre (s : Int) (rows : List Rw) : Prop where
  srt : Srt rows
  ok : ∀ r ∈ rows, r.up ∧ -s ≤ r.x ∧ r.x ≤ s ∧ r.y ≤ s ∧ 1 ≤ r.m
theorem Pre.nil {s : Int} : Pre s [] := ⟨by simp [Srt], by simp⟩
theorem Pre.among {s : Int} {rows : List Rw} {v : Rw} (P : Pre s rows) (hv : v.up ∧ -s ≤ v.x ∧ v.x ≤ s ∧ v.y ≤ s ∧ 1 ≤ v.m) (hn : ∀ a ∈ rows, crs a v ≠ 0) : Pre s (rows.take (place v rows) ++ [v] ++ rows.drop (place v rows)) := by
  refine ⟨(among_srt hv.1 P.srt (fun a ha => (P.ok a ha).1) hn).1, fun r hr => ?_⟩
  rcases List.mem_append.mp hr with hr | hr
  · rcases List.mem_append.mp hr with hr | hr
    · exact P.ok r (List.mem_of_mem_take hr)
    · rw [List.mem_singleton.mp hr]; exact hv
  · exact P.ok r (List.mem_of_mem_drop hr)
def many (rows : List Rw) : Int := (rows.map (·.m)).sum
structure Good (rows : List Rw) : Prop where
  lo : 2 ≤ rows.length
  hi : rows.length ≤ 6
  srt : Srt rows
  ok : ∀ r ∈ rows, r.up ∧ -999999999999 ≤ r.x ∧ r.x ≤ 999999999999 ∧ r.y ≤ 999999999999 ∧ 1 ≤ r.m
  tot : many rows ≤ 12
def kindsFrom : Nat → List Rw → List Int
  | _, [] => []
  | k, r :: rs => List.replicate r.m.toNat (k : Int) ++ kindsFrom (k + 1) rs
abbrev kinds (rows : List Rw) : List Int := kindsFrom 0 rows
theorem kinds_len : ∀ (k : Nat) (rows : List Rw), (∀ r ∈ rows, 0 ≤ r.m) → ((kindsFrom k rows).length : Int) = many rows
  | _, [], _ => rfl
  | k, r :: rs, h => by
    have e := kinds_len (k + 1) rs fun a ha => h a (by simp [ha])
    have h0 := h r (by simp)
    simp only [kindsFrom, List.length_append, List.length_replicate, many, List.map_cons, List.sum_cons] at *
    omega
theorem kinds_snoc : ∀ (k : Nat) (rows : List Rw) (r : Rw), kindsFrom k (rows ++ [r]) = kindsFrom k rows ++ List.replicate r.m.toNat ((k + rows.length : Nat) : Int)
  | _, [], _ => by simp [kindsFrom]
  | k, a :: rs, r => by
    simp only [List.cons_append, kindsFrom, kinds_snoc (k + 1) rs r, List.append_assoc, List.length_cons]
    congr 3
    omega
theorem kinds_bd : ∀ (k : Nat) (rows : List Rw), ∀ z ∈ kindsFrom k rows, (k : Int) ≤ z ∧ z < (k : Int) + rows.length
  | _, [], z, h => by simp [kindsFrom] at h
  | k, r :: rs, z, h => by
    simp only [kindsFrom, List.mem_append, List.length_cons] at h ⊢
    rcases h with h | h
    · rw [List.eq_of_mem_replicate h]; omega
    · have := kinds_bd (k + 1) rs z h; omega
def inner (ks : List Int) (a j : Nat) : List (Int × Int) := ((List.range j).filter fun t => decide (ks.getD a 0 ≠ ks.getD (a + 1 + t) 0)).map fun t => ((a : Int), ((a + 1 + t : Nat) : Int))
def outer (ks : List Int) (i : Nat) : List (Int × Int) := (List.range i).flatMap fun a => inner ks a (ks.length - (a + 1))
theorem inner_zero (ks : List Int) (a : Nat) : inner ks a 0 = [] := rfl
theorem inner_succ (ks : List Int) (a j : Nat) : inner ks a (j + 1) = inner ks a j ++ (if ks.getD a 0 ≠ ks.getD (a + 1 + j) 0 then [((a : Int), ((a + 1 + j : Nat) : Int))] else []) := by
  unfold inner
  rw [List.range_succ, List.filter_append, List.map_append]
  congr 1
  by_cases h : ks.getD a 0 = ks.getD (a + 1 + j) 0
  · rw [List.filter_cons_of_neg (by simpa using h), if_neg (by simpa using h)]; rfl
  · rw [List.filter_cons_of_pos (by simpa using h), if_pos h]; rfl
theorem outer_zero (ks : List Int) : outer ks 0 = [] := rfl
theorem outer_succ (ks : List Int) (i : Nat) : outer ks (i + 1) = outer ks i ++ inner ks i (ks.length - (i + 1)) := by
  unfold outer
  rw [List.range_succ, List.flatMap_append]
  simp
theorem inner_len (ks : List Int) (a j : Nat) : (inner ks a j).length ≤ j := by
  unfold inner
  rw [List.length_map]
  exact Nat.le_trans (List.length_filter_le _ _) (by simp)
theorem outer_len (ks : List Int) : ∀ i, (outer ks i).length ≤ i * ks.length
  | 0 => by simp [outer]
  | i + 1 => by
    rw [outer_succ, List.length_append, Nat.succ_mul]
    have h1 := outer_len ks i
    have h2 := inner_len ks i (ks.length - (i + 1))
    omega
end Sf
namespace Fl
section
variable {n p : Nat} {l : List Int} {x y : Int}
end
section
variable {ks l e r : List Int} {x y : Int}
end
section
variable {ks l e r : List Int}
end
end Fl
namespace L2
open PySem PySem.Spec PyProof.Rows
section
variable {D : Ends} {σ : St} {H : Hp} {Q : VK} {t u : TS} {te ta tb tc : TE} {g : TG} {K : PySem.W.Frag}
end
end L2
namespace Z
open PySem PySem.Spec PyProof.Rows L2
abbrev St := L2.St
inductive Dv where
  | non
  | bl (b : Bool)
  | int (i : Int)
  | str (x : Str)
  | tup (xs : List Dv)
  | lst (xs : List Dv)
  | dik (kvs : List (Key × Dv))
  | dit (kvs : List (List Key × Dv))
  | obj (C : Addr) (fs : List (Str × Dv))
  | scr (ns : List Int)
def flatD : Dv → Bool
  | .lst _ => false
  | .dik _ => false
  | .dit _ => false
  | .obj _ _ => false
  | .tup xs => flatDs xs
  | _ => true
where flatDs : List Dv → Bool
  | [] => true
  | d :: r => flatD d && flatDs r
abbrev flatDs := flatD.flatDs
def Scr (K : PySem.W.Frag) (H : Hp) (a : Addr) (ns : List Int) : Prop :=
  (∃ o, H a = some (.frz o (.lst (ns.map V.int)))) ∨
    ∃ (o : Obj) (its : Array Value) (n : Nat), K.lookup a = some o ∧ o.cls = .type "list" ∧ o.dict = none ∧ o.data = .seq its n ∧ its.size ≤ sizeLine ∧ Vals (ns.map V.int) its.toList
theorem Scr.sq {K : PySem.W.Frag} {H : Hp} {a : Addr} {ns : List Int} (h : Scr K H a ns) : SqL K H a (ns.map V.int) := by
  rcases h with ⟨o, h⟩ | h
  · exact .inl (.inr ⟨o, h⟩)
  · exact .inr h
mutual
inductive Rep (K : PySem.W.Frag) (M : Addr → Prop) (H : Hp) : V → Dv → Prop
  | non : Rep K M H .non .non
  | bl (b : Bool) : Rep K M H (.bl b) (.bl b)
  | int (i : Int) : Rep K M H (.int i) (.int i)
  | str (x : Str) : Rep K M H (.str x) (.str x)
  | tup {a : Addr} {xs : List V} {ds : List Dv} : H a = some (.tup xs) → Reps K M H xs ds → Rep K M H (.ref a) (.tup ds)
  | lst {a : Addr} {xs : List V} {ds : List Dv} : H a = some (.lst xs) → ¬ M a → Reps K M H xs ds → Rep K M H (.ref a) (.lst ds)
  | dik {a : Addr} {kvs : List (Key × V)} {ds : List (Key × Dv)} : H a = some (.dK kvs) → ¬ M a → RepK K M H kvs ds → Rep K M H (.ref a) (.dik ds)
  | dit {a : Addr} {kvs : List (List Key × V)} {ds : List (List Key × Dv)} : H a = some (.dT kvs) → ¬ M a → RepT K M H kvs ds → Rep K M H (.ref a) (.dit ds)
  | obj {a C dx : Addr} {fs : List (Str × V)} {ds : List (Str × Dv)} : H a = some (.ins C dx fs) → ¬ M a → RepF K M H fs ds → Rep K M H (.ref a) (.obj C ds)
  | scr {a : Addr} {ns : List Int} : Scr K H a ns → Rep K M H (.ref a) (.scr ns)
inductive Reps (K : PySem.W.Frag) (M : Addr → Prop) (H : Hp) : List V → List Dv → Prop
  | nil : Reps K M H [] []
  | cons {x : V} {d : Dv} {xs : List V} {ds : List Dv} : Rep K M H x d → Reps K M H xs ds → Reps K M H (x :: xs) (d :: ds)
inductive RepK (K : PySem.W.Frag) (M : Addr → Prop) (H : Hp) : List (Key × V) → List (Key × Dv) → Prop
  | nil : RepK K M H [] []
  | cons {k : Key} {x : V} {d : Dv} {xs : List (Key × V)} {ds : List (Key × Dv)} : Rep K M H x d → RepK K M H xs ds → RepK K M H ((k, x) :: xs) ((k, d) :: ds)
inductive RepT (K : PySem.W.Frag) (M : Addr → Prop) (H : Hp) : List (List Key × V) → List (List Key × Dv) → Prop
  | nil : RepT K M H [] []
  | cons {k : List Key} {x : V} {d : Dv} {xs : List (List Key × V)} {ds : List (List Key × Dv)} : Rep K M H x d → RepT K M H xs ds → RepT K M H ((k, x) :: xs) ((k, d) :: ds)
inductive RepF (K : PySem.W.Frag) (M : Addr → Prop) (H : Hp) : List (Str × V) → List (Str × Dv) → Prop
  | nil : RepF K M H [] []
  | cons {k : Str} {x : V} {d : Dv} {xs : List (Str × V)} {ds : List (Str × Dv)} : Rep K M H x d → RepF K M H xs ds → RepF K M H ((k, x) :: xs) ((k, d) :: ds)
end
structure Gen (K : PySem.W.Frag) (M M' : Addr → Prop) (H H' : Hp) : Prop where
  l : ∀ a o, H a = some o → Mut (some o) → ¬ M a → H' a = some o ∧ ¬ M' a
  t : ∀ a xs, H a = some (.tup xs) → H' a = some (.tup xs)
  s : ∀ a ns, Scr K H a ns → Scr K H' a ns
section
variable {K : PySem.W.Frag} {M M' M'' : Addr → Prop} {H H' H'' : Hp}
mutual
theorem Rep.gen (G : Gen K M M' H H') : ∀ {x : V} {d : Dv}, Rep K M H x d → Rep K M' H' x d
  | _, _, .non => .non
  | _, _, .bl b => .bl b
  | _, _, .int i => .int i
  | _, _, .str x => .str x
  | _, _, .tup h r => .tup (G.t _ _ h) (Reps.gen G r)
  | _, _, .lst h m r => .lst (G.l _ _ h trivial m).1 (G.l _ _ h trivial m).2 (Reps.gen G r)
  | _, _, .dik h m r => .dik (G.l _ _ h trivial m).1 (G.l _ _ h trivial m).2 (RepK.gen G r)
  | _, _, .dit h m r => .dit (G.l _ _ h trivial m).1 (G.l _ _ h trivial m).2 (RepT.gen G r)
  | _, _, .obj h m r => .obj (G.l _ _ h trivial m).1 (G.l _ _ h trivial m).2 (RepF.gen G r)
  | _, _, .scr h => .scr (G.s _ _ h)
theorem Reps.gen (G : Gen K M M' H H') : ∀ {xs : List V} {ds : List Dv}, Reps K M H xs ds → Reps K M' H' xs ds
  | _, _, .nil => .nil
  | _, _, .cons a r => .cons (Rep.gen G a) (Reps.gen G r)
theorem RepK.gen (G : Gen K M M' H H') : ∀ {xs : List (Key × V)} {ds : List (Key × Dv)}, RepK K M H xs ds → RepK K M' H' xs ds
  | _, _, .nil => .nil
  | _, _, .cons a r => .cons (Rep.gen G a) (RepK.gen G r)
theorem RepT.gen (G : Gen K M M' H H') : ∀ {xs : List (List Key × V)} {ds : List (List Key × Dv)}, RepT K M H xs ds → RepT K M' H' xs ds
  | _, _, .nil => .nil
  | _, _, .cons a r => .cons (Rep.gen G a) (RepT.gen G r)
theorem RepF.gen (G : Gen K M M' H H') : ∀ {xs : List (Str × V)} {ds : List (Str × Dv)}, RepF K M H xs ds → RepF K M' H' xs ds
  | _, _, .nil => .nil
  | _, _, .cons a r => .cons (Rep.gen G a) (RepF.gen G r)
end
theorem Same.scr (S : Same H H') {a : Addr} {ns : List Int} (h : Scr K H a ns) : Scr K H' a ns := by
  rcases h with ⟨o, h⟩ | h
  · exact .inl ⟨o, S _ _ h⟩
  · exact .inr h
theorem Gen.mono (S : Same H H') : Gen K M M H H' := ⟨fun a o h _ m => ⟨S _ _ h, m⟩, fun _ _ h => S _ _ h, fun _ _ h => Same.scr S h⟩
theorem Gen.weak (h : ∀ a, M' a → M a) : Gen K M M' H H := ⟨fun a o e _ m => ⟨e, fun z => m (h a z)⟩, fun _ _ h => h, fun _ _ h => h⟩
theorem Gen.fresh {p : Addr} (hp : H p = none) : Gen K M (fun b => M b ∨ b = p) H H :=
  ⟨fun a o e _ m => ⟨e, fun z => z.elim m fun z => by rw [z, hp] at e; cases e⟩, fun _ _ h => h, fun _ _ h => h⟩
theorem Gen.trans (a : Gen K M M' H H') (b : Gen K M' M'' H' H'') : Gen K M M'' H H'' :=
  ⟨fun c o e mu m => b.l c o (a.l c o e mu m).1 mu (a.l c o e mu m).2, fun c xs h => b.t c xs (a.t c xs h), fun c ns h => b.s c ns (a.s c ns h)⟩
theorem mut_ne {p a : Addr} {u : HO} (mu : Mut (H p)) (e : H a = some u) (n : ¬ Mut (some u)) : a ≠ p := fun z => by
  subst z
  rw [e] at mu
  exact n mu
theorem Gen.write {p : Addr} {o : HO} (hM : M p) (mu : Mut (H p)) : Gen K M M H (upd H p o) := by
  refine ⟨fun a u e _ m => ⟨?_, m⟩, fun a xs h => ?_, fun a ns h => ?_⟩
  · rw [upd_ne fun z => m (by rw [z]; exact hM)]
    exact e
  · rw [upd_ne (mut_ne mu h fun z => z)]
    exact h
  · rcases h with ⟨u, h⟩ | h
    · exact .inl ⟨u, by rw [upd_ne (mut_ne mu h fun z => z)]; exact h⟩
    · exact .inr h
end
section
variable {K : PySem.W.Frag} {M M' : Addr → Prop} {H H' : Hp}
theorem Rep.mono {x : V} {d : Dv} (S : Same H H') (h : Rep K M H x d) : Rep K M H' x d := h.gen (.mono S)
theorem Rep.weak {x : V} {d : Dv} (w : ∀ a, M' a → M a) (h : Rep K M H x d) : Rep K M' H x d := h.gen (.weak w)
theorem Reps.mono {xs : List V} {ds : List Dv} (S : Same H H') (h : Reps K M H xs ds) : Reps K M H' xs ds := h.gen (.mono S)
theorem Reps.weak {xs : List V} {ds : List Dv} (w : ∀ a, M' a → M a) (h : Reps K M H xs ds) : Reps K M' H xs ds := h.gen (.weak w)
mutual
theorem Rep.flat : ∀ {x : V} {d : Dv}, flatD d = true → Rep K M H x d → Rep K M' H x d
  | _, _, _, .non => .non
  | _, _, _, .bl b => .bl b
  | _, _, _, .int i => .int i
  | _, _, _, .str x => .str x
  | _, _, f, .tup h r => .tup h (Reps.flat (by rw [flatD] at f; exact f) r)
  | _, _, f, .lst _ _ _ => by simp [flatD] at f
  | _, _, f, .dik _ _ _ => by simp [flatD] at f
  | _, _, f, .dit _ _ _ => by simp [flatD] at f
  | _, _, f, .obj _ _ _ => by simp [flatD] at f
  | _, _, _, .scr h => .scr h
theorem Reps.flat : ∀ {xs : List V} {ds : List Dv}, flatDs ds = true → Reps K M H xs ds → Reps K M' H xs ds
  | _, _, _, .nil => .nil
  | _, _, f, .cons a r => by
    have f' : (flatD _ && flatDs _) = true := f
    rw [Bool.and_eq_true] at f'
    exact .cons (Rep.flat f'.1 a) (Reps.flat f'.2 r)
end
theorem RepF.flat : ∀ {xs : List (Str × V)} {ds : List (Str × Dv)}, flatDs (ds.map (·.2)) = true → RepF K M H xs ds → RepF K M' H xs ds
  | _, _, _, .nil => .nil
  | _, _, f, .cons a r => by
    have f' : (flatD _ && flatDs _) = true := f
    rw [Bool.and_eq_true] at f'
    exact .cons (Rep.flat f'.1 a) (RepF.flat f'.2 r)
theorem RepK.flat : ∀ {xs : List (Key × V)} {ds : List (Key × Dv)}, flatDs (ds.map (·.2)) = true → RepK K M H xs ds → RepK K M' H xs ds
  | _, _, _, .nil => .nil
  | _, _, f, .cons a r => by
    have f' : (flatD _ && flatDs _) = true := f
    rw [Bool.and_eq_true] at f'
    exact .cons (Rep.flat f'.1 a) (RepK.flat f'.2 r)
theorem RepT.flat : ∀ {xs : List (List Key × V)} {ds : List (List Key × Dv)}, flatDs (ds.map (·.2)) = true → RepT K M H xs ds → RepT K M' H xs ds
  | _, _, _, .nil => .nil
  | _, _, f, .cons a r => by
    have f' : (flatD _ && flatDs _) = true := f
    rw [Bool.and_eq_true] at f'
    exact .cons (Rep.flat f'.1 a) (RepT.flat f'.2 r)
theorem Reps.length : ∀ {xs : List V} {ds : List Dv}, Reps K M H xs ds → xs.length = ds.length
  | _, _, .nil => rfl
  | _, _, .cons _ r => by rw [List.length_cons, List.length_cons, r.length]
theorem Reps.append : ∀ {xs ys : List V} {ds es : List Dv}, Reps K M H xs ds → Reps K M H ys es → Reps K M H (xs ++ ys) (ds ++ es)
  | _, _, _, _, .nil, s => s
  | _, _, _, _, .cons a r, s => .cons a (Reps.append r s)
theorem Reps.get : ∀ {xs : List V} {ds : List Dv} {i : Nat} {d : Dv}, Reps K M H xs ds → ds[i]? = some d → ∃ x, xs[i]? = some x ∧ Rep K M H x d
  | _, _, _, _, .nil, e => by simp at e
  | _, _, 0, _, .cons a _, e => by simp at e; subst e; exact ⟨_, rfl, a⟩
  | _, _, i + 1, d, .cons _ r, e => by
    obtain ⟨x, h1, h2⟩ := Reps.get (i := i) (d := d) r (by simpa using e)
    exact ⟨x, by simpa using h1, h2⟩
theorem Reps.take : ∀ {xs : List V} {ds : List Dv} (n : Nat), Reps K M H xs ds → Reps K M H (xs.take n) (ds.take n)
  | _, _, 0, _ => .nil
  | _, _, _ + 1, .nil => .nil
  | _, _, n + 1, .cons a r => .cons a (Reps.take n r)
theorem Reps.drop : ∀ {xs : List V} {ds : List Dv} (n : Nat), Reps K M H xs ds → Reps K M H (xs.drop n) (ds.drop n)
  | _, _, 0, r => r
  | _, _, _ + 1, .nil => .nil
  | _, _, n + 1, .cons _ r => Reps.drop n r
theorem Reps.set {x : V} {d : Dv} (a : Rep K M H x d) : ∀ {xs : List V} {ds : List Dv} (n : Nat), Reps K M H xs ds → Reps K M H (xs.set n x) (ds.set n d)
  | _, _, _, .nil => .nil
  | _, _, 0, .cons _ r => .cons a r
  | _, _, n + 1, .cons b r => .cons b (Reps.set a n r)
theorem Reps.repl {xs : List V} {ds : List Dv} (h : Reps K M H xs ds) : ∀ n : Nat, Reps K M H (List.replicate n xs).flatten (List.replicate n ds).flatten
  | 0 => .nil
  | n + 1 => by
    rw [List.replicate_succ, List.replicate_succ, List.flatten_cons, List.flatten_cons]
    exact h.append (Reps.repl h n)
theorem Reps.ints : ∀ ns : List Int, Reps K M H (ns.map V.int) (ns.map Dv.int)
  | [] => .nil
  | n :: r => .cons (.int n) (Reps.ints r)
end
def OwnAt (K : PySem.W.Frag) (M : Addr → Prop) (H : Hp) (a : Addr) : Dv → Prop
  | .lst ds => ∃ xs, H a = some (.lst xs) ∧ Reps K M H xs ds
  | .dik ds => ∃ kvs, H a = some (.dK kvs) ∧ RepK K M H kvs ds
  | .dit ds => ∃ kvs, H a = some (.dT kvs) ∧ RepT K M H kvs ds
  | .obj C ds => ∃ dx fs, H a = some (.ins C dx fs) ∧ RepF K M H fs ds
  | _ => False
def flatO : Dv → Bool
  | .lst ds => flatDs ds
  | .dik ds => flatDs (ds.map (·.2))
  | .dit ds => flatDs (ds.map (·.2))
  | .obj _ ds => flatDs (ds.map (·.2))
  | _ => false
section
variable {K : PySem.W.Frag} {M M' : Addr → Prop} {H H' : Hp} {a : Addr}
theorem OwnAt.gen {d : Dv} (G : Gen K M M' H H') (ha : ∀ o, H a = some o → H' a = some o) (h : OwnAt K M H a d) : OwnAt K M' H' a d := by
  cases d with
  | lst ds => obtain ⟨xs, e, r⟩ := h; exact ⟨xs, ha _ e, r.gen G⟩
  | dik ds => obtain ⟨xs, e, r⟩ := h; exact ⟨xs, ha _ e, r.gen G⟩
  | dit ds => obtain ⟨xs, e, r⟩ := h; exact ⟨xs, ha _ e, r.gen G⟩
  | obj C ds => obtain ⟨dx, fs, e, r⟩ := h; exact ⟨dx, fs, ha _ e, r.gen G⟩
  | _ => exact h.elim
theorem OwnAt.mono {d : Dv} (S : Same H H') (h : OwnAt K M H a d) : OwnAt K M H' a d := h.gen (.mono S) fun o e => S _ _ e
theorem OwnAt.weak {d : Dv} (w : ∀ a, M' a → M a) (h : OwnAt K M H a d) : OwnAt K M' H a d := h.gen (.weak w) fun _ e => e
theorem OwnAt.flat {d : Dv} (f : flatO d = true) (h : OwnAt K M H a d) : OwnAt K M' H a d := by
  cases d with
  | lst ds => obtain ⟨xs, e, r⟩ := h; exact ⟨xs, e, r.flat f⟩
  | dik ds => obtain ⟨xs, e, r⟩ := h; exact ⟨xs, e, r.flat f⟩
  | dit ds => obtain ⟨xs, e, r⟩ := h; exact ⟨xs, e, r.flat f⟩
  | obj C ds => obtain ⟨dx, fs, e, r⟩ := h; exact ⟨dx, fs, e, r.flat f⟩
  | _ => exact h.elim
theorem OwnAt.mut {d : Dv} (h : OwnAt K M H a d) : ∃ o, H a = some o ∧ Mut (some o) := by
  cases d with
  | lst ds => obtain ⟨xs, e, r⟩ := h; exact ⟨_, e, trivial⟩
  | dik ds => obtain ⟨xs, e, r⟩ := h; exact ⟨_, e, trivial⟩
  | dit ds => obtain ⟨xs, e, r⟩ := h; exact ⟨_, e, trivial⟩
  | obj C ds => obtain ⟨dx, fs, e, r⟩ := h; exact ⟨_, e, trivial⟩
  | _ => exact h.elim
theorem OwnAt.rep {d : Dv} (h : OwnAt K M H a d) (m : ¬ M a) : Rep K M H (.ref a) d := by
  cases d with
  | lst ds => obtain ⟨xs, e, r⟩ := h; exact .lst e m r
  | dik ds => obtain ⟨xs, e, r⟩ := h; exact .dik e m r
  | dit ds => obtain ⟨xs, e, r⟩ := h; exact .dit e m r
  | obj C ds => obtain ⟨dx, fs, e, r⟩ := h; exact .obj e m r
  | _ => exact h.elim
end
inductive Sl where
  | un
  | v (d : Dv)
  | own (a : Addr) (d : Dv)
def MM (F : Addr → Prop) (ρ : List Sl) : Addr → Prop := fun a => F a ∨ ∃ d, Sl.own a d ∈ ρ
def SlOk (K : PySem.W.Frag) (M : Addr → Prop) (H : Hp) (o : Option (Option V)) : Sl → Prop
  | .un => True
  | .v d => ∃ x, o = some (some x) ∧ Rep K M H x d
  | .own a d => o = some (some (.ref a)) ∧ OwnAt K M H a d
structure Fr (K : PySem.W.Frag) (H₀ : Hp) (F : Addr → Prop) (σ : St) (H : Hp) (ρ : List Sl) : Prop where
  len : σ.length = ρ.length
  sl : ∀ (i : Nat) (s : Sl), ρ[i]? = some s → SlOk K (MM F ρ) H σ[i]? s
  nd : ∀ (i j : Nat) (a : Addr) (d d' : Dv), ρ[i]? = some (.own a d) → ρ[j]? = some (.own a d') → i = j
  new : ∀ (a : Addr) (d : Dv), Sl.own a d ∈ ρ → H₀ a = none
  same : Same H₀ H
  old : ∀ a, F a → H₀ a ≠ none
section
variable {K : PySem.W.Frag} {M M' : Addr → Prop} {H₀ H H' : Hp} {F : Addr → Prop} {σ : St} {ρ : List Sl}
theorem SlOk.mono {o : Option (Option V)} {s : Sl} (S : Same H H') (h : SlOk K M H o s) : SlOk K M H' o s := by
  cases s with
  | un => trivial
  | v d => obtain ⟨x, e, r⟩ := h; exact ⟨x, e, r.mono S⟩
  | own a d => exact ⟨h.1, h.2.mono S⟩
theorem SlOk.weak {o : Option (Option V)} {s : Sl} (w : ∀ a, M' a → M a) (h : SlOk K M H o s) : SlOk K M' H o s := by
  cases s with
  | un => trivial
  | v d => obtain ⟨x, e, r⟩ := h; exact ⟨x, e, r.weak w⟩
  | own a d => exact ⟨h.1, h.2.weak w⟩
theorem Fr.mono (fr : Fr K H₀ F σ H ρ) (S : Same H H') : Fr K H₀ F σ H' ρ := ⟨fr.len, fun i s e => (fr.sl i s e).mono S, fr.nd, fr.new, fr.same.trans S, fr.old⟩
theorem Fr.at_own (fr : Fr K H₀ F σ H ρ) {a : Addr} {d : Dv} (h : Sl.own a d ∈ ρ) : ∃ i : Nat, ρ[i]? = some (.own a d) ∧ σ[i]? = some (some (.ref a)) ∧ OwnAt K (MM F ρ) H a d := by
  obtain ⟨i, e⟩ := List.mem_iff_getElem?.mp h
  have := fr.sl i _ e
  exact ⟨i, e, this.1, this.2⟩
theorem Fr.dom (fr : Fr K H₀ F σ H ρ) {a : Addr} (m : MM F ρ a) : H a ≠ none := by
  rcases m with m | ⟨d, m⟩
  · intro e
    exact fr.old a m (fr.same.free e)
  · obtain ⟨_, _, _, o⟩ := fr.at_own m
    obtain ⟨u, e, _⟩ := o.mut
    rw [e]
    simp
theorem Fr.fresh (fr : Fr K H₀ F σ H ρ) {a : Addr} (e : H a = none) : ¬ MM F ρ a := fun m => fr.dom m e
end
inductive R where
  | v (d : Dv)
  | ow (a : Addr) (d : Dv)
  | nw (d : Dv)
def R.d : R → Dv
  | .v d => d
  | .ow _ d => d
  | .nw d => d
def R.free : R → Bool
  | .ow _ _ => false
  | _ => true
def Own (ρ : List Sl) : Addr → Dv → Prop := fun a d => Sl.own a d ∈ ρ
def NoOwn : Addr → Dv → Prop := fun _ _ => False
def RRep (K : PySem.W.Frag) (M : Addr → Prop) (O : Addr → Dv → Prop) (H : Hp) (x : V) (r : R) (H' : Hp) : Prop := match r with
  | .v d => Rep K M H' x d
  | .ow a d => x = .ref a ∧ O a d ∧ OwnAt K M H' a d
  | .nw d => ∃ a, x = .ref a ∧ H a = none ∧ OwnAt K (fun b => M b ∨ b = a) H' a d
def CRep (K : PySem.W.Frag) (M : Addr → Prop) (H : Hp) (x : V) (d : Dv) : Prop := Rep K M H x d ∨ ∃ a, x = .ref a ∧ OwnAt K M H a d
section
variable {K : PySem.W.Frag} {M M' : Addr → Prop} {O : Addr → Dv → Prop} {H H' H'' : Hp} {x : V} {r : R}
theorem RRep.mono (h : RRep K M O H x r H') (S : Same H' H'') : RRep K M O H x r H'' := by
  cases r with
  | v d => exact Rep.mono S h
  | ow a d => exact ⟨h.1, h.2.1, h.2.2.mono S⟩
  | nw d => obtain ⟨a, e, n, o⟩ := h; exact ⟨a, e, n, o.mono S⟩
theorem RRep.ahead {H1 : Hp} (h : RRep K M O H1 x r H') (S : Same H H1) : RRep K M O H x r H' := by
  cases r with
  | v d => exact h
  | ow a d => exact h
  | nw d => obtain ⟨a, e, n, o⟩ := h; exact ⟨a, e, S.free n, o⟩
theorem RRep.c (h : RRep K M O H x r H') : CRep K M H' x r.d := by
  cases r with
  | v d => exact .inl h
  | ow a d => exact .inr ⟨a, h.1, h.2.2⟩
  | nw d => obtain ⟨a, e, n, o⟩ := h; exact .inr ⟨a, e, o.weak fun b z => .inl z⟩
theorem RRep.rep (h : RRep K M O H x r H') (hM : ∀ a, M a → H a ≠ none) (f : r.free = true) : Rep K M H' x r.d := by
  cases r with
  | v d => exact h
  | ow a d => simp [R.free] at f
  | nw d =>
    obtain ⟨a, e, n, o⟩ := h
    subst e
    exact (o.weak fun b z => .inl z).rep fun z => hM a z n
theorem CRep.lst {ds : List Dv} (h : CRep K M H x (.lst ds)) : ∃ a xs, x = .ref a ∧ H a = some (.lst xs) ∧ Reps K M H xs ds := by
  rcases h with h | ⟨a, e, xs, h1, h2⟩
  · cases h with
    | lst h1 _ h2 => exact ⟨_, _, rfl, h1, h2⟩
  · exact ⟨a, xs, e, h1, h2⟩
theorem CRep.tup {ds : List Dv} (h : CRep K M H x (.tup ds)) : ∃ a xs, x = .ref a ∧ H a = some (.tup xs) ∧ Reps K M H xs ds := by
  rcases h with h | ⟨a, e, o⟩
  · cases h with
    | tup h1 h2 => exact ⟨_, _, rfl, h1, h2⟩
  · exact o.elim
theorem CRep.int {i : Int} (h : CRep K M H x (.int i)) : x = .int i := by
  rcases h with h | ⟨a, e, o⟩
  · cases h; rfl
  · exact o.elim
theorem CRep.bl {b : Bool} (h : CRep K M H x (.bl b)) : x = .bl b := by
  rcases h with h | ⟨a, e, o⟩
  · cases h; rfl
  · exact o.elim
theorem CRep.non (h : CRep K M H x .non) : x = .non := by
  rcases h with h | ⟨a, e, o⟩
  · cases h; rfl
  · exact o.elim
theorem CRep.str {s : Str} (h : CRep K M H x (.str s)) : x = .str s := by
  rcases h with h | ⟨a, e, o⟩
  · cases h; rfl
  · exact o.elim
theorem CRep.scr {ns : List Int} (h : CRep K M H x (.scr ns)) : ∃ a, x = .ref a ∧ Scr K H a ns := by
  rcases h with h | ⟨a, e, o⟩
  · cases h with
    | scr h => exact ⟨_, rfl, h⟩
  · exact o.elim
theorem CRep.dik {ds : List (Key × Dv)} (h : CRep K M H x (.dik ds)) : ∃ a kvs, x = .ref a ∧ H a = some (.dK kvs) ∧ RepK K M H kvs ds := by
  rcases h with h | ⟨a, e, xs, h1, h2⟩
  · cases h with
    | dik h1 _ h2 => exact ⟨_, _, rfl, h1, h2⟩
  · exact ⟨a, xs, e, h1, h2⟩
theorem CRep.dit {ds : List (List Key × Dv)} (h : CRep K M H x (.dit ds)) : ∃ a kvs, x = .ref a ∧ H a = some (.dT kvs) ∧ RepT K M H kvs ds := by
  rcases h with h | ⟨a, e, xs, h1, h2⟩
  · cases h with
    | dit h1 _ h2 => exact ⟨_, _, rfl, h1, h2⟩
  · exact ⟨a, xs, e, h1, h2⟩
end
end Z
namespace Z
open PySem PySem.Spec PyProof.Rows L2
abbrev TEp := List Sl → (R → Prop) → Prop
abbrev TAp := List Sl → (List R → Prop) → Prop
abbrev TTp := List Sl → (Bool → Prop) → Prop
def RReps (K : PySem.W.Frag) (M : Addr → Prop) (O : Addr → Dv → Prop) (H : Hp) (xs : List V) (rs : List R) (H' : Hp) : Prop := Paired (fun x r => RRep K M O H x r H') xs rs
def CReps (K : PySem.W.Frag) (M : Addr → Prop) (H : Hp) : List V → List Dv → Prop := Paired (CRep K M H)
section
variable {K : PySem.W.Frag} {M : Addr → Prop} {O : Addr → Dv → Prop} {H H1 H' H'' : Hp}
theorem RReps.ahead {xs : List V} {rs : List R} (h : RReps K M O H1 xs rs H') (S : Same H H1) : RReps K M O H xs rs H' := Paired.mapP h fun _ _ q => q.ahead S
theorem RReps.c : ∀ {xs : List V} {rs : List R}, RReps K M O H xs rs H' → CReps K M H' xs (rs.map R.d)
  | _, _, .nil => .nil
  | _, _, .cons a t => .cons a.c (RReps.c t)
theorem RReps.reps (hM : ∀ a, M a → H a ≠ none) : ∀ {xs : List V} {rs : List R}, RReps K M O H xs rs H' → rs.all R.free = true → Reps K M H' xs (rs.map R.d)
  | _, _, .nil, _ => .nil
  | _, _, .cons a t, f => by
    rw [List.all_cons, Bool.and_eq_true] at f
    exact .cons (a.rep hM f.1) (RReps.reps hM t f.2)
end
def lift (K : PySem.W.Frag) (H₀ : Hp) (F : Addr → Prop) (t : TEp) : TE := fun σ H Q => ∃ ρ, Fr K H₀ F σ H ρ ∧ t ρ fun r => ∀ x H', Same H H' → RRep K (MM F ρ) (Own ρ) H x r H' → Q x H'
def liftA (K : PySem.W.Frag) (H₀ : Hp) (F : Addr → Prop) (t : TAp) : TA := fun σ H Q => ∃ ρ, Fr K H₀ F σ H ρ ∧ t ρ fun rs => ∀ xs H', Same H H' → RReps K (MM F ρ) (Own ρ) H xs rs H' → Q xs H'
def liftT (K : PySem.W.Frag) (H₀ : Hp) (F : Addr → Prop) (t : TTp) : TT := fun σ H Q => ∃ ρ, Fr K H₀ F σ H ρ ∧ t ρ fun b => ∀ H', Same H H' → Q b H'
structure QE (X : Cx) (e : Expr) (t : TEp) : Prop where
  mono : ∀ (ρ : List Sl) (Q Q' : R → Prop), (∀ r, Q r → Q' r) → t ρ Q → t ρ Q'
  run : ∀ (H₀ : Hp) (F : Addr → Prop), PE X e (lift X.K H₀ F t)
structure QA (X : Cx) (es : List Expr) (t : TAp) : Prop where
  mono : ∀ (ρ : List Sl) (Q Q' : List R → Prop), (∀ r, Q r → Q' r) → t ρ Q → t ρ Q'
  run : ∀ (H₀ : Hp) (F : Addr → Prop), PA X es (liftA X.K H₀ F t)
structure QT (X : Cx) (e : Expr) (t : TTp) : Prop where
  mono : ∀ (ρ : List Sl) (Q Q' : Bool → Prop), (∀ r, Q r → Q' r) → t ρ Q → t ρ Q'
  run : ∀ (H₀ : Hp) (F : Addr → Prop), PT X e (liftT X.K H₀ F t)
structure QW (X : Cx) (e : Expr) (t : TTp) : Prop where
  mono : ∀ (ρ : List Sl) (Q Q' : Bool → Prop), (∀ r, Q r → Q' r) → t ρ Q → t ρ Q'
  run : ∀ (H₀ : Hp) (F : Addr → Prop), PW X e (liftT X.K H₀ F t)
section
variable {X : Cx} {a b e c : Expr} {es : List Expr} {ta tb te tc : TEp} {ts : TAp} {pos : Pos}
theorem PE_imp {t t' : TE} (h : PE X e t) (w : ∀ σ H Q, t' σ H Q → t σ H Q) : PE X e t' := fun pins s σ H Q I q => h pins s σ H Q I (w σ H Q q)
theorem PA_imp {t t' : TA} (h : PA X es t) (w : ∀ σ H Q, t' σ H Q → t σ H Q) : PA X es t' := fun pos pins s σ H Q I q => h pos pins s σ H Q I (w σ H Q q)
theorem PT_imp {t t' : TT} (h : PT X e t) (w : ∀ σ H Q, t' σ H Q → t σ H Q) : PT X e t' := fun pins s σ H Q I q => h pins s σ H Q I (w σ H Q q)
theorem PW_imp {t t' : TT} (h : PW X e t) (w : ∀ σ H Q, t' σ H Q → t σ H Q) : PW X e t' := fun wh pins s σ H Q I q => h wh pins s σ H Q I (w σ H Q q)
theorem QW.qt {t : TTp} (h : QW X e t) : QT X e t := ⟨h.mono, fun H₀ F => (h.run H₀ F).pt⟩
theorem QE.step {H₀ : Hp} {F : Addr → Prop} {σ : St} {H : Hp} {ρ : List Sl} {Q : R → Prop} {Q' : VK} (h : QE X e te) (fr : Fr X.K H₀ F σ H ρ) (q : te ρ Q)
    (k : ∀ r x H', Q r → Same H H' → RRep X.K (MM F ρ) (Own ρ) H x r H' → Q' x H') : lift X.K H₀ F te σ H Q' := ⟨ρ, fr, h.mono _ _ _ (fun r qr x H' S rx => k r x H' qr S rx) q⟩
theorem QA.step {H₀ : Hp} {F : Addr → Prop} {σ : St} {H : Hp} {ρ : List Sl} {Q : List R → Prop} {Q' : List V → Hp → Prop} (h : QA X es ts) (fr : Fr X.K H₀ F σ H ρ) (q : ts ρ Q)
    (k : ∀ rs xs H', Q rs → Same H H' → RReps X.K (MM F ρ) (Own ρ) H xs rs H' → Q' xs H') : liftA X.K H₀ F ts σ H Q' := ⟨ρ, fr, h.mono _ _ _ (fun r qr x H' S rx => k r x H' qr S rx) q⟩
theorem QT.step {t : TTp} {H₀ : Hp} {F : Addr → Prop} {σ : St} {H : Hp} {ρ : List Sl} {Q : Bool → Prop} {Q' : Bool → Hp → Prop} (h : QT X e t) (fr : Fr X.K H₀ F σ H ρ) (q : t ρ Q)
    (k : ∀ b H', Q b → Same H H' → Q' b H') : liftT X.K H₀ F t σ H Q' := ⟨ρ, fr, h.mono _ _ _ (fun r qr H' S => k r H' qr S) q⟩
def eVar (i : Nat) : TEp := fun ρ Q => match ρ[i]? with
  | some (.v d) => Q (.v d)
  | some (.own a d) => Q (.ow a d)
  | _ => False
theorem q_var (i : Nat) {x : Str} (h : PE X (.Name x pos) (tVar i)) : QE X (.Name x pos) (eVar i) := by
  refine ⟨fun ρ Q Q' w h => ?_, fun H₀ F => PE_imp h fun σ H Q ⟨ρ, fr, q⟩ => ?_⟩
  · unfold eVar at *
    split at h
    · exact w _ h
    · exact w _ h
    · exact h
  · unfold eVar at q
    split at q
    · rename_i d e
      obtain ⟨x, hx, r⟩ := fr.sl i _ e
      exact ⟨x, hx, q x H (Same.refl _) r⟩
    · rename_i a d e
      obtain ⟨hx, r⟩ := fr.sl i _ e
      exact ⟨.ref a, hx, q _ H (Same.refl _) ⟨rfl, List.mem_of_getElem? e, r⟩⟩
    · exact q.elim
def eC (d : Dv) : TEp := fun _ Q => Q (.v d)
theorem q_c {v : V} {d : Dv} (h : PE X e (tC v)) (r : ∀ M H, Rep X.K M H v d) : QE X e (eC d) :=
  ⟨fun _ _ _ w q => w _ q, fun H₀ F => PE_imp h fun σ H Q ⟨ρ, fr, q⟩ => q v H (Same.refl _) (r _ _)⟩
theorem q_int {i j pos} : QE X (.Constant (.int i) j pos) (eC (.int i)) := q_c pe_int fun _ _ => .int i
theorem q_bl {b j pos} : QE X (.Constant (.bool b) j pos) (eC (.bl b)) := q_c pe_bl fun _ _ => .bl b
theorem q_non {j pos} : QE X (.Constant .none j pos) (eC .non) := q_c pe_non fun _ _ => .non
def eNil : TAp := fun _ Q => Q []
def eCons (te : TEp) (ts : TAp) : TAp := fun ρ Q => te ρ fun r => ts ρ fun rs => Q (r :: rs)
theorem q_nil : QA X [] eNil := ⟨fun _ _ _ w q => w _ q, fun H₀ F => PA_imp pa_nil fun σ H Q ⟨ρ, fr, q⟩ => q [] H (Same.refl _) .nil⟩
theorem q_cons (ha : QE X e te) (hr : QA X es ts) (hs : starEach (e :: es) X.env = (false, eval e X.env) :: starEach es X.env := by rfl) : QA X (e :: es) (eCons te ts) := by
  refine ⟨fun ρ Q Q' w h => ha.mono _ _ _ (fun r q => hr.mono _ _ _ (fun rs q => w _ q) q) h, fun H₀ F => PA_imp (pa_cons (ha.run H₀ F) (hr.run H₀ F) hs) fun σ H Q ⟨ρ, fr, q⟩ => ?_⟩
  refine ha.step fr q fun r x H1 q1 S1 r1 => ?_
  refine hr.step (fr.mono S1) q1 fun rs xs H2 q2 S2 r2 => ?_
  exact q2 _ H2 (S1.trans S2) (.cons (r1.mono S2) (r2.ahead S1))
def OpD (X : Cx) (f : Value → Value → Sem Value) (p : Dv → Dv → (R → Prop) → Prop) : Prop :=
  (∀ dx dy (Q Q' : R → Prop), (∀ r, Q r → Q' r) → p dx dy Q → p dx dy Q') ∧ ∃ r : R2, OpR X f r ∧ ∀ (M : Addr → Prop) (O : Addr → Dv → Prop) (H : Hp) (x y : V) (dx dy : Dv) (Q : VK), CRep X.K M H x dx → CRep X.K M H y dy →
    p dx dy (fun rr => ∀ z H', Same H H' → RRep X.K M O H z rr H' → Q z H') → r x y H Q
def eOp (p : Dv → Dv → (R → Prop) → Prop) (ta tb : TEp) : TEp := fun ρ Q => ta ρ fun x => tb ρ fun y => p x.d y.d Q
theorem eOp_run {p : Dv → Dv → (R → Prop) → Prop} {r : R2} (ha : QE X a ta) (hb : QE X b tb) (hr : ∀ (M : Addr → Prop) (O : Addr → Dv → Prop) (H : Hp) (x y : V) (dx dy : Dv) (Q : VK), CRep X.K M H x dx → CRep X.K M H y dy →
    p dx dy (fun rr => ∀ z H', Same H H' → RRep X.K M O H z rr H' → Q z H') → r x y H Q) (mo : ∀ dx dy (Q Q' : R → Prop), (∀ r, Q r → Q' r) → p dx dy Q → p dx dy Q') (H₀ : Hp) (F : Addr → Prop) (σ : St) (H : Hp) (Q : VK)
    (h : lift X.K H₀ F (eOp p ta tb) σ H Q) : tOp r (lift X.K H₀ F ta) (lift X.K H₀ F tb) σ H Q := by
  obtain ⟨ρ, fr, q⟩ := h
  refine ha.step fr q fun rx x H1 q1 S1 r1 => ?_
  refine hb.step (fr.mono S1) q1 fun ry y H2 q2 S2 r2 => ?_
  refine hr (MM F ρ) (Own ρ) H2 x y _ _ Q (r1.mono S2).c r2.c (mo _ _ _ _ (fun rr k z H' S rz => ?_) q2)
  exact k z H' ((S1.trans S2).trans S) (rz.ahead (S1.trans S2))
theorem eOp_mono {p : Dv → Dv → (R → Prop) → Prop} (ha : QE X a ta) (hb : QE X b tb) (mo : ∀ dx dy (Q Q' : R → Prop), (∀ r, Q r → Q' r) → p dx dy Q → p dx dy Q') (ρ : List Sl) (Q Q' : R → Prop) (w : ∀ r, Q r → Q' r) (h : eOp p ta tb ρ Q) : eOp p ta tb ρ Q' :=
  ha.mono _ _ _ (fun rx h => hb.mono _ _ _ (fun ry h => mo _ _ _ _ w h) h) h
theorem q_op {op : Operator} {p : Dv → Dv → (R → Prop) → Prop} (ho : OpD X (binaryOp op) p) (ha : QE X a ta) (hb : QE X b tb) : QE X (.BinOp a op b pos) (eOp p ta tb) := by
  obtain ⟨mo, r, hR, hr⟩ := ho
  exact ⟨eOp_mono ha hb mo, fun H₀ F => PE_imp (pe_op hR (ha.run H₀ F) (hb.run H₀ F)) (eOp_run ha hb hr mo H₀ F)⟩
theorem q_cmp {op : CmpOp} {p : Dv → Dv → (R → Prop) → Prop} (ho : OpD X (compareOp op) p) (ha : QE X a ta) (hb : QE X b tb) (hm : behindInMarks op b = false := by first | exact nomark _ | rfl) : QE X (.Compare a [op] [b] pos) (eOp p ta tb) := by
  obtain ⟨mo, r, hR, hr⟩ := ho
  exact ⟨eOp_mono ha hb mo, fun H₀ F => PE_imp (pe_cmpR hR (ha.run H₀ F) (hb.run H₀ F) hm) (eOp_run ha hb hr mo H₀ F)⟩
def eTest (te : TEp) : TTp := fun ρ Q => te ρ fun r => match r.d with
  | .bl c => Q c
  | _ => False
theorem eTest_mono (mo : ∀ (ρ : List Sl) (Q Q' : R → Prop), (∀ r, Q r → Q' r) → te ρ Q → te ρ Q') (ρ : List Sl) (Q Q' : Bool → Prop) (w : ∀ r, Q r → Q' r) (h : eTest te ρ Q) : eTest te ρ Q' := by
  refine mo _ _ _ (fun r q => ?_) h
  split at q
  · exact w _ q
  · exact q.elim
theorem eTest_of {H₀ : Hp} {F : Addr → Prop} {σ : St} {H : Hp} {Q : Bool → Hp → Prop} (mo : ∀ (ρ : List Sl) (Q Q' : R → Prop), (∀ r, Q r → Q' r) → te ρ Q → te ρ Q') (h : liftT X.K H₀ F (eTest te) σ H Q) : lift X.K H₀ F te σ H fun x H' => ∃ k, x = .bl k ∧ Q k H' := by
  obtain ⟨ρ, fr, q⟩ := h
  refine ⟨ρ, fr, mo _ _ _ (fun r q x H' S rx => ?_) q⟩
  split at q
  · rename_i c e
    have := rx.c
    rw [e] at this
    exact ⟨c, this.bl, q H' S⟩
  · exact q.elim
theorem qt_cmp {op : CmpOp} {p : Dv → Dv → (R → Prop) → Prop} (ho : OpD X (compareOp op) p) (ha : QE X a ta) (hb : QE X b tb) (hm : behindInMarks op b = false := by first | exact nomark _ | rfl) : QT X (.Compare a [op] [b] pos) (eTest (eOp p ta tb)) := by
  obtain ⟨mo, r, hR, hr⟩ := ho
  have m1 := eOp_mono ha hb mo
  exact ⟨eTest_mono m1, fun H₀ F => PT_imp (pt_cmpR hR (ha.run H₀ F) (hb.run H₀ F) hm) fun σ H Q h => eOp_run ha hb hr mo H₀ F σ H _ (eTest_of m1 h)⟩
def eAnd (t u : TTp) : TTp := fun ρ Q => t ρ fun c => if c = true then u ρ Q else Q false
def eOr (t u : TTp) : TTp := fun ρ Q => t ρ fun c => if c = true then Q true else u ρ Q
def eNot (t : TTp) : TTp := fun ρ Q => t ρ fun c => Q (!c)
theorem qw_and1 {t : TTp} (h : QT X a t) : QW X (.BoolOp .And [a] pos) t := ⟨h.mono, fun H₀ F => pw_and1 (h.run H₀ F)⟩
theorem qw_or1 {t : TTp} (h : QT X a t) : QW X (.BoolOp .Or [a] pos) t := ⟨h.mono, fun H₀ F => pw_or1 (h.run H₀ F)⟩
theorem qw_and {t u : TTp} {rest : List Expr} (h : QT X a t) (k : QW X (.BoolOp .And (b :: rest) pos) u) : QW X (.BoolOp .And (a :: b :: rest) pos) (eAnd t u) := by
  refine ⟨fun ρ Q Q' w q => h.mono _ _ _ (fun c q => ?_) q, fun H₀ F => PW_imp (pw_and (h.run H₀ F) (k.run H₀ F)) fun σ H Q ⟨ρ, fr, q⟩ => ?_⟩
  · split at q
    · rw [if_pos ‹_›]; exact k.mono _ _ _ w q
    · rw [if_neg ‹_›]; exact w _ q
  · refine h.step fr q fun c H1 q1 S1 => ?_
    cases c with
    | true =>
      simp only [if_true] at q1
      exact iteT ⟨ρ, fr.mono S1, k.mono _ _ _ (fun b q H' S => q H' (S1.trans S)) q1⟩
    | false =>
      simp only [Bool.false_eq_true, if_false] at q1
      exact iteF (q1 H1 S1)
theorem qw_or {t u : TTp} {rest : List Expr} (h : QT X a t) (k : QW X (.BoolOp .Or (b :: rest) pos) u) : QW X (.BoolOp .Or (a :: b :: rest) pos) (eOr t u) := by
  refine ⟨fun ρ Q Q' w q => h.mono _ _ _ (fun c q => ?_) q, fun H₀ F => PW_imp (pw_or (h.run H₀ F) (k.run H₀ F)) fun σ H Q ⟨ρ, fr, q⟩ => ?_⟩
  · split at q
    · rw [if_pos ‹_›]; exact w _ q
    · rw [if_neg ‹_›]; exact k.mono _ _ _ w q
  · refine h.step fr q fun c H1 q1 S1 => ?_
    cases c with
    | true =>
      simp only [if_true] at q1
      exact iteT (q1 H1 S1)
    | false =>
      simp only [Bool.false_eq_true, if_false] at q1
      exact iteF ⟨ρ, fr.mono S1, k.mono _ _ _ (fun b q H' S => q H' (S1.trans S)) q1⟩
theorem qt_not {t : TTp} (h : QT X a t) : QT X (.UnaryOp .Not a pos) (eNot t) :=
  ⟨fun ρ Q Q' w q => h.mono _ _ _ (fun c q => w _ q) q, fun H₀ F => PT_imp (pt_not (h.run H₀ F)) fun σ H Q ⟨ρ, fr, q⟩ => h.step fr q fun c H1 q1 S1 => q1 H1 S1⟩
def eAndV (ta tb : TEp) : TEp := fun ρ Q => ta ρ fun r => match r.d with
  | .bl c => if c = true then tb ρ Q else Q (.v (.bl false))
  | _ => False
def eOrV (ta tb : TEp) : TEp := fun ρ Q => ta ρ fun r => match r.d with
  | .bl c => if c = true then Q (.v (.bl true)) else tb ρ Q
  | _ => False
def eNotV (ta : TEp) : TEp := fun ρ Q => ta ρ fun r => match r.d with
  | .bl c => Q (.v (.bl (!c)))
  | _ => False
theorem q_one {op} (h : QE X a ta) : QE X (.BoolOp op [a] pos) ta := ⟨h.mono, fun H₀ F => pe_one (h.run H₀ F)⟩
theorem q_and {rest : List Expr} (h : QE X a ta) (k : QE X (.BoolOp .And (b :: rest) pos) tb) : QE X (.BoolOp .And (a :: b :: rest) pos) (eAndV ta tb) := by
  refine ⟨fun ρ Q Q' w q => h.mono _ _ _ (fun c q => ?_) q, fun H₀ F => PE_imp (pe_and (h.run H₀ F) (k.run H₀ F)) fun σ H Q ⟨ρ, fr, q⟩ => ?_⟩
  · split at q
    · split at q
      · rw [if_pos ‹_›]; exact k.mono _ _ _ w q
      · rw [if_neg ‹_›]; exact w _ q
    · exact q
  · refine h.step fr q fun r x H1 q1 S1 r1 => ?_
    split at q1
    · rename_i c e
      have rc := r1.c
      rw [e] at rc
      refine ⟨c, rc.bl, ?_⟩
      cases c with
      | true =>
        simp only [if_true] at q1
        exact iteT ⟨ρ, fr.mono S1, k.mono _ _ _ (fun b q z H' S rz => q z H' (S1.trans S) (rz.ahead S1)) q1⟩
      | false =>
        simp only [Bool.false_eq_true, if_false] at q1
        exact iteF (q1 _ H1 S1 (Rep.bl false))
    · exact q1.elim
theorem q_not (h : QE X a ta) : QE X (.UnaryOp .Not a pos) (eNotV ta) := by
  refine ⟨fun ρ Q Q' w q => h.mono _ _ _ (fun c q => ?_) q, fun H₀ F => PE_imp (pe_not (h.run H₀ F)) fun σ H Q ⟨ρ, fr, q⟩ => ?_⟩
  · split at q
    · exact w _ q
    · exact q
  · refine h.step fr q fun r x H1 q1 S1 r1 => ?_
    split at q1
    · rename_i c e
      have rc := r1.c
      rw [e] at rc
      exact ⟨c, rc.bl, q1 _ H1 S1 (Rep.bl _)⟩
    · exact q1.elim
def eIf (t : TTp) (ta tb : TEp) : TEp := fun ρ Q => t ρ fun c => if c = true then ta ρ Q else tb ρ Q
def eTup (ts : TAp) : TEp := fun ρ Q => ts ρ fun rs => rs.all R.free = true ∧ rs.length ≤ 1000 ∧ Q (.v (.tup (rs.map R.d)))
def eLst (ts : TAp) : TEp := fun ρ Q => ts ρ fun rs => rs.all R.free = true ∧ rs.length ≤ 1000 ∧ Q (.nw (.lst (rs.map R.d)))
theorem small_line' {n : Nat} (h : n ≤ 1000) : n ≤ sizeLine := Nat.le_of_lt (small1000 h)
theorem Same.new' {H : Hp} {l : Addr} {o : HO} (hl : H l = none) : Same H (upd H l o) := fun b q e => by rw [upd_ne (ne_of_none e hl)]; exact e
theorem q_lst (h : QA X es ts) : QE X (.List es pos) (eLst ts) := by
  refine ⟨fun ρ Q Q' w q => h.mono _ _ _ (fun rs q => ⟨q.1, q.2.1, w _ q.2.2⟩) q, fun H₀ F => PE_imp (pe_lst (h.run H₀ F)) fun σ H Q ⟨ρ, fr, q⟩ => ?_⟩
  refine h.step fr q fun rs xs H1 ⟨q1, q2, q3⟩ S1 r1 => ?_
  have hl : xs.length = rs.length := Paired.length r1
  refine ⟨small_line' (by omega), fun p hp => q3 _ _ (S1.trans (Same.new' hp)) ?_⟩
  exact ⟨p, rfl, S1.free hp, xs, upd_same, ((r1.reps (fun a m => fr.dom m) q1).gen (.fresh hp)).mono (Same.new' hp)⟩
end
end Z
namespace Z
open PySem PySem.Spec PyProof.Rows L2
abbrev LIM : Nat := 1000000
theorem lim_line {n : Nat} (h : n ≤ LIM) : n ≤ sizeLine := Nat.le_trans h (by rw [sizeLine_eq]; decide)
section
variable {K : PySem.W.Frag} {M : Addr → Prop} {O : Addr → Dv → Prop} {H : Hp}
theorem nw_lst {p : Addr} {xs : List V} {ds : List Dv} (hp : H p = none) (r : Reps K M H xs ds) : RRep K M O H (.ref p) (.nw (.lst ds)) (upd H p (.lst xs)) := ⟨p, rfl, hp, xs, upd_same, (r.gen (.fresh hp)).mono (Same.new' hp)⟩
theorem v_tup {p : Addr} {xs : List V} {ds : List Dv} (hp : H p = none) (r : Reps K M H xs ds) : RRep K M O H (.ref p) (.v (.tup ds)) (upd H p (.tup xs)) := Rep.tup upd_same (r.mono (Same.new' hp))
end
def pAdd : Dv → Dv → (R → Prop) → Prop
  | .int i, .int j, Q => Q (.v (.int (i + j)))
  | .lst xs, .lst ys, Q => xs.length + ys.length ≤ LIM ∧ Q (.nw (.lst (xs ++ ys)))
  | .str x, .str y, Q => x.length + y.length ≤ LIM ∧ Q (.v (.str (x ++ y)))
  | _, _, _ => False
def pSub : Dv → Dv → (R → Prop) → Prop
  | .int i, .int j, Q => Q (.v (.int (i - j)))
  | _, _, _ => False
def CMulG (i j : Int) : Prop := CMul i j ∨ (i.natAbs < 2 ^ 4000 ∧ j.natAbs < 2 ^ 4000)
def pMul : Dv → Dv → (R → Prop) → Prop
  | .int i, .int j, Q => CMulG i j ∧ Q (.v (.int (i * j)))
  | .lst xs, .int k, Q => (-(2 ^ 63) ≤ k ∧ k < 2 ^ 63 ∧ xs.length * k.toNat ≤ LIM) ∧ Q (.nw (.lst (List.replicate k.toNat xs).flatten))
  | _, _, _ => False
def pDiv : Dv → Dv → (R → Prop) → Prop
  | .int i, .int j, Q => (0 < j ∧ j < 2 ^ 200) ∧ Q (.v (.int (i / j)))
  | _, _, _ => False
def pDivG : Dv → Dv → (R → Prop) → Prop
  | .int i, .int j, Q => (j ≠ 0 ∧ j.natAbs < 2 ^ 4000) ∧ Q (.v (.int (i.fdiv j)))
  | _, _, _ => False
def pMod : Dv → Dv → (R → Prop) → Prop
  | .int i, .int j, Q => 0 < j ∧ Q (.v (.int (i % j)))
  | _, _, _ => False
def pPow : Dv → Dv → (R → Prop) → Prop
  | .int i, .int j, Q => CPow i j ∧ Q (.v (.int (i ^ j.toNat)))
  | _, _, _ => False
section
variable {X : Cx}
theorem pAdd_mono : ∀ dx dy (Q Q' : R → Prop), (∀ r, Q r → Q' r) → pAdd dx dy Q → pAdd dx dy Q' := by
  intro dx dy Q Q' w h
  unfold pAdd at h
  split at h
  · exact w _ h
  · exact ⟨h.1, w _ h.2⟩
  · exact ⟨h.1, w _ h.2⟩
  · exact h.elim
theorem opd_add : OpD X (binaryOp .Add) pAdd := by
  refine ⟨pAdd_mono, _, op_add.or (op_cat.or op_add_str), fun M O H x y dx dy Q cx cy h => ?_⟩
  unfold pAdd at h
  split at h
  · obtain rfl := cx.int
    obtain rfl := cy.int
    exact .inl ⟨_, _, rfl, rfl, h _ H (Same.refl _) (Rep.int _)⟩
  · obtain ⟨a, xs, rfl, ea, ra⟩ := cx.lst
    obtain ⟨b, ys, rfl, eb, rb⟩ := cy.lst
    have l1 := ra.length
    have l2 := rb.length
    exact .inr (.inl ⟨a, b, xs, ys, rfl, rfl, ea, eb, lim_line (by omega), fun p hp => h.2 _ _ (Same.new' hp) (nw_lst hp (ra.append rb))⟩)
  · obtain rfl := cx.str
    obtain rfl := cy.str
    exact .inr (.inr ⟨_, _, rfl, rfl, lim_line h.1, h.2 _ H (Same.refl _) (Rep.str _)⟩)
  · exact h.elim
theorem pSub_mono : ∀ dx dy (Q Q' : R → Prop), (∀ r, Q r → Q' r) → pSub dx dy Q → pSub dx dy Q' := by
  intro dx dy Q Q' w h
  unfold pSub at h
  split at h
  · exact w _ h
  · exact h.elim
theorem opd_sub : OpD X (binaryOp .Sub) pSub := by
  refine ⟨pSub_mono, _, op_sub, fun M O H x y dx dy Q cx cy h => ?_⟩
  unfold pSub at h
  split at h
  · obtain rfl := cx.int
    obtain rfl := cy.int
    exact ⟨_, _, rfl, rfl, h _ H (Same.refl _) (Rep.int _)⟩
  · exact h.elim
theorem CMulG.ok {i j : Int} (h : CMulG i j) : IntMulOk i j := by
  rcases h with h | ⟨h1, h2⟩
  · exact h.ok
  · have key : ∀ {z : Int}, z.natAbs < 2 ^ 4000 → Builtin.Int.intBits z ≤ 2 ^ 20 := fun {z} hz => by
      have hl : z.natAbs ≠ 0 → z.natAbs.log2 < 4000 := fun h0 => (Nat.log2_lt h0).mpr hz
      clear hz h1 h2
      unfold Builtin.Int.intBits
      by_cases h0 : z = 0
      · simp [h0]
      · have := hl (by omega)
        simp [h0]
        omega
    exact IntMulOk.of_bits (key h1) (key h2)
theorem op_mulG : OpR X (binaryOp .Mult) (rI CMulG fun i j => .int (i * j)) := opI fun _ _ _ _ _ _ _ hc q => mul_int q hc.ok
theorem pMul_mono : ∀ dx dy (Q Q' : R → Prop), (∀ r, Q r → Q' r) → pMul dx dy Q → pMul dx dy Q' := by
  intro dx dy Q Q' w h
  unfold pMul at h
  split at h
  · exact ⟨h.1, w _ h.2⟩
  · exact ⟨h.1, w _ h.2⟩
  · exact h.elim
theorem opd_mul : OpD X (binaryOp .Mult) pMul := by
  refine ⟨pMul_mono, _, op_mulG.or op_rep, fun M O H x y dx dy Q cx cy h => ?_⟩
  unfold pMul at h
  split at h
  · obtain rfl := cx.int
    obtain rfl := cy.int
    exact .inl ⟨_, _, rfl, rfl, h.1, h.2 _ H (Same.refl _) (Rep.int _)⟩
  · obtain ⟨a, xs, rfl, ea, ra⟩ := cx.lst
    obtain rfl := cy.int
    have l1 := ra.length
    exact .inr ⟨a, _, xs, rfl, rfl, ea, h.1.1, h.1.2.1, lim_line (by rw [l1]; exact h.1.2.2), fun p hp => h.2 _ _ (Same.new' hp) (nw_lst hp (ra.repl _))⟩
  · exact h.elim
theorem pDiv_mono : ∀ dx dy (Q Q' : R → Prop), (∀ r, Q r → Q' r) → pDiv dx dy Q → pDiv dx dy Q' := by
  intro dx dy Q Q' w h
  unfold pDiv at h
  split at h
  · exact ⟨h.1, w _ h.2⟩
  · exact h.elim
theorem opd_div : OpD X (binaryOp .FloorDiv) pDiv := by
  refine ⟨pDiv_mono, _, op_fdivB, fun M O H x y dx dy Q cx cy h => ?_⟩
  unfold pDiv at h
  split at h
  · obtain rfl := cx.int
    obtain rfl := cy.int
    exact ⟨_, _, rfl, rfl, h.1, h.2 _ H (Same.refl _) (Rep.int _)⟩
  · exact h.elim
theorem op_fdivG : OpR X (binaryOp .FloorDiv) (rI (fun _ j => j ≠ 0 ∧ j.natAbs < 2 ^ 4000) fun i j => .int (i.fdiv j)) := opI fun i j _ _ _ _ _ hc q => by
  refine floordiv_int hc.1 q (.inl (PyProof.noPylong_of_log2 ?_))
  have h0 : j.natAbs ≠ 0 := fun z => hc.1 (Int.natAbs_eq_zero.mp z)
  have := (Nat.log2_lt h0).mpr hc.2
  clear hc
  omega
theorem pDivG_mono : ∀ dx dy (Q Q' : R → Prop), (∀ r, Q r → Q' r) → pDivG dx dy Q → pDivG dx dy Q' := by
  intro dx dy Q Q' w h
  unfold pDivG at h
  split at h
  · exact ⟨h.1, w _ h.2⟩
  · exact h.elim
theorem opd_divG : OpD X (binaryOp .FloorDiv) pDivG := by
  refine ⟨pDivG_mono, _, op_fdivG, fun M O H x y dx dy Q cx cy h => ?_⟩
  unfold pDivG at h
  split at h
  · obtain rfl := cx.int
    obtain rfl := cy.int
    exact ⟨_, _, rfl, rfl, h.1, h.2 _ H (Same.refl _) (Rep.int _)⟩
  · exact h.elim
theorem pMod_mono : ∀ dx dy (Q Q' : R → Prop), (∀ r, Q r → Q' r) → pMod dx dy Q → pMod dx dy Q' := by
  intro dx dy Q Q' w h
  unfold pMod at h
  split at h
  · exact ⟨h.1, w _ h.2⟩
  · exact h.elim
theorem opd_mod : OpD X (binaryOp .Mod) pMod := by
  refine ⟨pMod_mono, _, op_mod, fun M O H x y dx dy Q cx cy h => ?_⟩
  unfold pMod at h
  split at h
  · obtain rfl := cx.int
    obtain rfl := cy.int
    exact ⟨_, _, rfl, rfl, h.1, h.2 _ H (Same.refl _) (Rep.int _)⟩
  · exact h.elim
theorem pPow_mono : ∀ dx dy (Q Q' : R → Prop), (∀ r, Q r → Q' r) → pPow dx dy Q → pPow dx dy Q' := by
  intro dx dy Q Q' w h
  unfold pPow at h
  split at h
  · exact ⟨h.1, w _ h.2⟩
  · exact h.elim
theorem opd_pow : OpD X (binaryOp .Pow) pPow := by
  refine ⟨pPow_mono, _, op_pow, fun M O H x y dx dy Q cx cy h => ?_⟩
  unfold pPow at h
  split at h
  · obtain rfl := cx.int
    obtain rfl := cy.int
    exact ⟨_, _, rfl, rfl, h.1, h.2 _ H (Same.refl _) (Rep.int _)⟩
  · exact h.elim
def eNeg (ta : TEp) : TEp := fun ρ Q => ta ρ fun r => match r.d with
  | .int i => Q (.v (.int (-i)))
  | _ => False
theorem q_neg {a : Expr} {pos : Pos} {ta : TEp} (h : QE X a ta) : QE X (.UnaryOp .USub a pos) (eNeg ta) := by
  refine ⟨fun ρ Q Q' w q => h.mono _ _ _ (fun c q => ?_) q, fun H₀ F => PE_imp (pe_un un_neg (h.run H₀ F)) fun σ H Q ⟨ρ, fr, q⟩ => ?_⟩
  · split at q
    · exact w _ q
    · exact q
  · refine h.step fr q fun r x H1 q1 S1 r1 => ?_
    split at q1
    · rename_i i e
      have rc := r1.c
      rw [e] at rc
      exact ⟨i, rc.int, q1 _ H1 S1 (Rep.int _)⟩
    · exact q1.elim
def pI2 (f : Int → Int → Bool) : Dv → Dv → (R → Prop) → Prop
  | .int i, .int j, Q => Q (.v (.bl (f i j)))
  | _, _, _ => False
theorem pI2_mono {f : Int → Int → Bool} : ∀ dx dy (Q Q' : R → Prop), (∀ r, Q r → Q' r) → pI2 f dx dy Q → pI2 f dx dy Q' := by
  intro dx dy Q Q' w h
  unfold pI2 at h
  split at h
  · exact w _ h
  · exact h.elim
theorem opd_i2 {g : Value → Value → Sem Value} {f : Int → Int → Bool} (h : OpR X g (rI0 fun i j => .bl (f i j))) : OpD X g (pI2 f) := by
  refine ⟨pI2_mono, _, h, fun M O H x y dx dy Q cx cy h => ?_⟩
  unfold pI2 at h
  split at h
  · obtain rfl := cx.int
    obtain rfl := cy.int
    exact ⟨_, _, rfl, rfl, h _ H (Same.refl _) (Rep.bl _)⟩
  · exact h.elim
abbrev pLt := pI2 fun i j => decide (i < j)
abbrev pLe := pI2 fun i j => decide (i ≤ j)
abbrev pGt := pI2 fun i j => decide (j < i)
theorem opd_lt : OpD X (compareOp .Lt) pLt := opd_i2 op_lt
theorem opd_gt : OpD X (compareOp .Gt) pGt := opd_i2 op_gt
def eChain (p p' : Dv → Dv → (R → Prop) → Prop) (ta tb tc : TEp) : TEp := fun ρ Q => ta ρ fun x => tb ρ fun y => p x.d y.d fun z => match z.d with
  | .bl k => if k = true then tc ρ fun w => p' y.d w.d Q else Q (.v (.bl false))
  | _ => False
def isN : Dv → Bool
  | .non => true
  | _ => false
def pIsN : Dv → Dv → (R → Prop) → Prop
  | d, .non, Q => Q (.v (.bl (isN d)))
  | _, _, _ => False
def pNotN : Dv → Dv → (R → Prop) → Prop
  | d, .non, Q => Q (.v (.bl (!isN d)))
  | _, _, _ => False
theorem CRep.non_iff {K : PySem.W.Frag} {M : Addr → Prop} {H : Hp} {x : V} {d : Dv} (h : CRep K M H x d) : decide (x = .non) = isN d := by
  rcases h with h | ⟨a, rfl, o⟩
  · cases h <;> simp [isN]
  · cases d <;> first | exact o.elim | simp [isN]
theorem opd_isN : OpD X (compareOp .Is) pIsN := by
  refine ⟨fun dx dy Q Q' w h => ?_, _, op_isN, fun M O H x y dx dy Q cx cy h => ?_⟩
  · unfold pIsN at h
    split at h
    · exact w _ h
    · exact h.elim
  · unfold pIsN at h
    split at h
    · refine ⟨cy.non, ?_⟩
      rw [cx.non_iff]
      exact h _ H (Same.refl _) (Rep.bl _)
    · exact h.elim
end
def pyD : Dv → PyData
  | .non => .none
  | .bl b => .bool b
  | .int i => .int i
  | .str x => .str x
  | .tup xs => .tuple (pyDs xs)
  | .lst xs => .list (pyDs xs)
  | .scr ns => .list (ns.map .int)
  | _ => .dict []
where pyDs : List Dv → List PyData
  | [] => []
  | d :: r => pyD d :: pyDs r
abbrev pyDs := pyD.pyDs
def okD : Nat → Dv → Bool
  | _, .non => true
  | _, .bl _ => true
  | _, .int _ => true
  | _, .str x => PyData.strOk x
  | n + 1, .tup xs => okDs n xs
  | n + 1, .lst xs => okDs n xs
  | _ + 1, .scr _ => true
  | _, _ => false
where okDs : Nat → List Dv → Bool
  | _, [] => true
  | n, d :: r => okD n d && okDs n r
abbrev okDs := okD.okDs
def eqD (a b : Dv) : Bool := PyData.eqv (pyD a) (pyD b)
theorem canLay_ints (ns : List Int) : PyData.canLayAll0 (ns.map .int) = true := by
  induction ns with
  | nil => rfl
  | cons n r ih => rw [List.map_cons, PyData.canLayAll0, ih]; rfl
theorem depth_ints (ns : List Int) : PyData.depthAll (ns.map .int) = 0 := by
  induction ns with
  | nil => rfl
  | cons n r ih => rw [List.map_cons, PyData.depthAll, ih]; rfl
mutual
theorem okD_lay : ∀ (n : Nat) (d : Dv), okD n d = true → (pyD d).canLay0 = true ∧ (pyD d).depth ≤ n
  | _, .non, _ => ⟨by simp [pyD, PyData.canLay0], by simp [pyD, PyData.depth]⟩
  | _, .bl _, _ => ⟨by simp [pyD, PyData.canLay0], by simp [pyD, PyData.depth]⟩
  | _, .int _, _ => ⟨by simp [pyD, PyData.canLay0], by simp [pyD, PyData.depth]⟩
  | _, .str x, h => ⟨by rw [pyD, PyData.canLay0]; cases ‹Nat› <;> simpa [okD] using h, by simp [pyD, PyData.depth]⟩
  | 0, .tup _, h => by simp [okD] at h
  | 0, .lst _, h => by simp [okD] at h
  | 0, .scr _, h => by simp [okD] at h
  | n + 1, .tup xs, h => by
    have := okDs_lay n xs (by rw [okD] at h; exact h)
    exact ⟨by rw [pyD, PyData.canLay0]; exact this.1, by rw [pyD, PyData.depth]; have h2 : PyData.depthAll (pyD.pyDs xs) ≤ n := this.2; omega⟩
  | n + 1, .lst xs, h => by
    have := okDs_lay n xs (by rw [okD] at h; exact h)
    exact ⟨by rw [pyD, PyData.canLay0]; exact this.1, by rw [pyD, PyData.depth]; have h2 : PyData.depthAll (pyD.pyDs xs) ≤ n := this.2; omega⟩
  | n + 1, .scr ns, _ => ⟨by rw [pyD, PyData.canLay0]; exact canLay_ints ns, by rw [pyD, PyData.depth, depth_ints]; omega⟩
  | 0, .dik _, h => by simp [okD] at h
  | 0, .dit _, h => by simp [okD] at h
  | 0, .obj _ _, h => by simp [okD] at h
  | _ + 1, .dik _, h => by simp [okD] at h
  | _ + 1, .dit _, h => by simp [okD] at h
  | _ + 1, .obj _ _, h => by simp [okD] at h
theorem okDs_lay : ∀ (n : Nat) (ds : List Dv), okDs n ds = true → PyData.canLayAll0 (pyDs ds) = true ∧ PyData.depthAll (pyDs ds) ≤ n
  | _, [], _ => ⟨by simp [pyD.pyDs, PyData.canLayAll0], by simp [pyD.pyDs, PyData.depthAll]⟩
  | n, d :: r, h => by
    have h' : (okD n d && okDs n r) = true := h
    rw [Bool.and_eq_true] at h'
    have h1 := okD_lay n d h'.1
    have h2 := okDs_lay n r h'.2
    refine ⟨by show PyData.canLayAll0 (pyD d :: pyDs r) = true; rw [PyData.canLayAll0, h1.1, h2.1]; rfl, ?_⟩
    show PyData.depthAll (pyD d :: pyDs r) ≤ n
    rw [PyData.depthAll]
    omega
end
theorem okD_shaped {n : Nat} {d : Dv} (h : okD n d = true) (hn : n ≤ 64) : SeqAt.shaped (pyD d) = true := by
  obtain ⟨h1, h2⟩ := okD_lay n d h
  unfold SeqAt.shaped
  rw [h1, decide_eq_true (by omega)]
  rfl
section
variable {X : Cx} {M : Addr → Prop} {pins : List (Addr × Obj)} {σ : St} {H : Hp} {s : Shared}
theorem ints_reads {h : Heap} : ∀ {ns : List Int} {us : List Value}, Vals (ns.map V.int) us → ∃ as, ReadsAll h us (ns.map PyData.int) as
  | [], _, .nil => ⟨_, .nil⟩
  | n :: r, _, .cons a t => by
    obtain ⟨tk, rfl⟩ := a
    obtain ⟨as, q⟩ := ints_reads (h := h) t
    exact ⟨_, .cons (.int n tk) q⟩
mutual
theorem Rep.reads (I : Inv X pins σ H s) : ∀ {n : Nat} {x : V} {d : Dv} {u : Value}, Rep X.K M H x d → okD n d = true → RelV x u → ∃ as, Reads s.heap u (pyD d) as
  | _, _, _, _, .non, _, r => by cases r; exact ⟨_, .none⟩
  | _, _, _, _, .bl b, _, r => by cases r; exact ⟨_, .bool b⟩
  | _, _, _, _, .int i, _, r => by obtain ⟨t, rfl⟩ := r; exact ⟨_, .int i t⟩
  | _, _, _, _, .str y, _, r => by obtain ⟨t, rfl⟩ := r; exact ⟨_, .str y t⟩
  | 0, _, _, _, .tup _ _, ok, _ => by simp [okD] at ok
  | 0, _, _, _, .lst _ _ _, ok, _ => by simp [okD] at ok
  | n + 1, _, _, _, .tup e q, ok, r => by
    cases r
    obtain ⟨_, its, rv, o, ho, hc, m, hd⟩ := I.hok _ _ e
    obtain ⟨as, ra⟩ := Reps.reads I q (by rw [okD] at ok; exact ok) rv
    exact ⟨_, .tuple ho hc hd ra⟩
  | n + 1, _, _, _, .lst e _ q, ok, r => by
    cases r
    obtain ⟨_, its, m, rv, ho⟩ := I.hok _ _ e
    obtain ⟨as, ra⟩ := Reps.reads I q (by rw [okD] at ok; exact ok) rv
    exact ⟨_, .list ho rfl rfl ra⟩
  | n, _, _, _, .scr e, _, r => by
    cases r
    obtain ⟨its, rv, pl, _⟩ := I.list e.sq
    obtain ⟨o, ho, hc, m, hd⟩ := pl.isList
    obtain ⟨as, ra⟩ := ints_reads (h := s.heap) rv
    exact ⟨_, .list ho hc hd (by simpa using ra)⟩
  | 0, _, _, _, .dik _ _ _, ok, _ => by simp [okD] at ok
  | 0, _, _, _, .dit _ _ _, ok, _ => by simp [okD] at ok
  | 0, _, _, _, .obj _ _ _, ok, _ => by simp [okD] at ok
  | _ + 1, _, _, _, .dik _ _ _, ok, _ => by simp [okD] at ok
  | _ + 1, _, _, _, .dit _ _ _, ok, _ => by simp [okD] at ok
  | _ + 1, _, _, _, .obj _ _ _, ok, _ => by simp [okD] at ok
theorem Reps.reads (I : Inv X pins σ H s) : ∀ {n : Nat} {xs : List V} {ds : List Dv} {us : List Value}, Reps X.K M H xs ds → okDs n ds = true → Vals xs us → ∃ as, ReadsAll s.heap us (pyDs ds) as
  | _, _, _, _, .nil, _, r => by cases r; exact ⟨_, .nil⟩
  | n, _, _, _, .cons a q, ok, r => by
    have ok' : (okD n _ && okDs n _) = true := ok
    rw [Bool.and_eq_true] at ok'
    cases r with
    | cons r1 r2 =>
      obtain ⟨as, ra⟩ := Rep.reads I a ok'.1 r1
      obtain ⟨bs, rb⟩ := Reps.reads I q ok'.2 r2
      exact ⟨_, .cons ra rb⟩
end
theorem CRep.reads (I : Inv X pins σ H s) {n : Nat} {x : V} {d : Dv} {u : Value} (c : CRep X.K M H x d) (ok : okD n d = true) (r : RelV x u) : ∃ as, Reads s.heap u (pyD d) as := by
  rcases c with c | ⟨a, rfl, o⟩
  · exact c.reads I ok r
  · cases d with
    | lst ds =>
      obtain ⟨xs, e, q⟩ := o
      cases r
      cases n with
      | zero => simp [okD] at ok
      | succ n =>
        obtain ⟨_, its, m, rv, ho⟩ := I.hok _ _ e
        obtain ⟨as, ra⟩ := Reps.reads I q (by rw [okD] at ok; exact ok) rv
        exact ⟨_, .list ho rfl rfl ra⟩
    | dik _ => cases n <;> simp [okD] at ok
    | dit _ => cases n <;> simp [okD] at ok
    | obj _ _ => cases n <;> simp [okD] at ok
    | _ => exact o.elim
end
def pEq : Dv → Dv → (R → Prop) → Prop
  | .int i, .int j, Q => Q (.v (.bl (decide (i = j))))
  | dx, dy, Q => (okD 8 dx = true ∧ okD 8 dy = true) ∧ Q (.v (.bl (eqD dx dy)))
def pNe : Dv → Dv → (R → Prop) → Prop
  | .int i, .int j, Q => Q (.v (.bl (!decide (i = j))))
  | dx, dy, Q => (okD 8 dx = true ∧ okD 8 dy = true) ∧ Q (.v (.bl (!eqD dx dy)))
section
variable {X : Cx}
def rEqZ (K : PySem.W.Frag) : R2 := fun x y H Q => ∃ M dx dy, CRep K M H x dx ∧ CRep K M H y dy ∧ okD 8 dx = true ∧ okD 8 dy = true ∧ Q (.bl (eqD dx dy)) H
def rNeZ (K : PySem.W.Frag) : R2 := fun x y H Q => ∃ M dx dy, CRep K M H x dx ∧ CRep K M H y dy ∧ okD 8 dx = true ∧ okD 8 dy = true ∧ Q (.bl (!eqD dx dy)) H
theorem op_eqZ (hu : X.A.units + 64 < cLine) : OpR X (compareOp .Eq) (rEqZ X.K) := by
  intro pins s σ H x y v u Q I rx ry h
  obtain ⟨M, dx, dy, r1, r2, o1, o2, q⟩ := h
  obtain ⟨as, ra⟩ := r1.reads I o1 rx
  obtain ⟨bs, rb⟩ := r2.reads I o2 ry
  exact SeqAt.compareEq_shaped ra rb (okD_shaped o1 (by decide)) (okD_shaped o2 (by decide)) hu ⟨.bl _, H, I, rfl, q⟩
theorem op_neZ (hu : X.A.units + 64 < cLine) : OpR X (compareOp .NotEq) (rNeZ X.K) := by
  intro pins s σ H x y v u Q I rx ry h
  obtain ⟨M, dx, dy, r1, r2, o1, o2, q⟩ := h
  obtain ⟨as, ra⟩ := r1.reads I o1 rx
  obtain ⟨bs, rb⟩ := r2.reads I o2 ry
  exact SeqAt.compareNe_shaped ra rb (okD_shaped o1 (by decide)) (okD_shaped o2 (by decide)) hu ⟨.bl _, H, I, rfl, q⟩
theorem eqD_int (i j : Int) : eqD (.int i) (.int j) = decide (i = j) := by
  show PyData.eqv (.int i) (.int j) = _
  rw [PyData.eqv]
  exact Bool.beq_eq_decide_eq i j
theorem opd_eq (hu : X.A.units + 64 < cLine) : OpD X (compareOp .Eq) pEq := by
  refine ⟨fun dx dy Q Q' w h => ?_, _, op_eqZ hu, fun M O H x y dx dy Q cx cy h => ?_⟩
  · unfold pEq at *
    split at h
    · exact w _ h
    · exact ⟨h.1, w _ h.2⟩
  · unfold pEq at h
    split at h
    · refine ⟨M, _, _, cx, cy, by simp [okD], by simp [okD], ?_⟩
      rw [eqD_int]
      exact h _ H (Same.refl _) (Rep.bl _)
    · exact ⟨M, _, _, cx, cy, h.1.1, h.1.2, h.2 _ H (Same.refl _) (Rep.bl _)⟩
theorem opd_ne (hu : X.A.units + 64 < cLine) : OpD X (compareOp .NotEq) pNe := by
  refine ⟨fun dx dy Q Q' w h => ?_, _, op_neZ hu, fun M O H x y dx dy Q cx cy h => ?_⟩
  · unfold pNe at *
    split at h
    · exact w _ h
    · exact ⟨h.1, w _ h.2⟩
  · unfold pNe at h
    split at h
    · refine ⟨M, _, _, cx, cy, by simp [okD], by simp [okD], ?_⟩
      rw [eqD_int]
      exact h _ H (Same.refl _) (Rep.bl _)
    · exact ⟨M, _, _, cx, cy, h.1.1, h.1.2, h.2 _ H (Same.refl _) (Rep.bl _)⟩
end
end Z
namespace Z
open PySem PySem.Spec PyProof.Rows L2
structure En where
  nx : List Sl → Prop
  rt : R → Prop
  bk : List Sl → Prop := fun _ => False
  ct : List Sl → Prop := fun _ => False
abbrev TSp := En → List Sl → Prop
structure EnLe (E E' : En) : Prop where
  nx : ∀ ρ, E.nx ρ → E'.nx ρ
  rt : ∀ r, E.rt r → E'.rt r
  bk : ∀ ρ, E.bk ρ → E'.bk ρ
  ct : ∀ ρ, E.ct ρ → E'.ct ρ
structure Ent (K : PySem.W.Frag) (H₀ : Hp) (F : Addr → Prop) (E : En) (D : Ends) : Prop where
  nx : ∀ ρ σ H, Fr K H₀ F σ H ρ → E.nx ρ → D.nx σ H
  bk : ∀ ρ σ H, Fr K H₀ F σ H ρ → E.bk ρ → D.bk σ H
  ct : ∀ ρ σ H, Fr K H₀ F σ H ρ → E.ct ρ → D.ct σ H
  rt : ∀ r x H, Same H₀ H → RRep K F NoOwn H₀ x r H → E.rt r → D.rt x H
def liftS (K : PySem.W.Frag) (H₀ : Hp) (F : Addr → Prop) (t : TSp) : TS := fun D σ H => ∃ ρ E, Fr K H₀ F σ H ρ ∧ t E ρ ∧ Ent K H₀ F E D
structure QS (X : Cx) (st : Stmt) (t : TSp) : Prop where
  mono : ∀ E E' ρ, EnLe E E' → t E ρ → t E' ρ
  run : ∀ (H₀ : Hp) (F : Addr → Prop), PS X st (liftS X.K H₀ F t)
structure QSs (X : Cx) (sts : List Stmt) (t : TSp) : Prop where
  mono : ∀ E E' ρ, EnLe E E' → t E ρ → t E' ρ
  run : ∀ (H₀ : Hp) (F : Addr → Prop), PSs X sts (liftS X.K H₀ F t)
section
variable {X : Cx} {st : Stmt} {sts : List Stmt} {t u : TSp} {e c : Expr} {te : TEp} {pos : Pos}
theorem PS_imp {t t' : TS} (h : PS X st t) (w : ∀ D σ H, t' D σ H → t D σ H) : PS X st t' := fun pins s σ H D I q => h pins s σ H D I (w D σ H q)
theorem PSs_imp {t t' : TS} (h : PSs X sts t) (w : ∀ D σ H, t' D σ H → t D σ H) : PSs X sts t' := fun pins s σ H D I q => h pins s σ H D I (w D σ H q)
def sNext : TSp := fun E ρ => E.nx ρ
def sSeq (t u : TSp) : TSp := fun E ρ => t { E with nx := u E } ρ
theorem q_nilS : QSs X [] sNext := ⟨fun E E' ρ w h => w.nx _ h, fun H₀ F => PSs_imp pss_nil fun D σ H ⟨ρ, E, fr, h, en⟩ => en.nx _ _ _ fr h⟩
theorem EnLe.with_nx {E E' : En} {a b : List Sl → Prop} (w : EnLe E E') (h : ∀ ρ, a ρ → b ρ) : EnLe { E with nx := a } { E' with nx := b } := ⟨h, w.rt, w.bk, w.ct⟩
theorem q_consS (h1 : QS X st t) (h2 : QSs X sts u) : QSs X (st :: sts) (sSeq t u) := by
  refine ⟨fun E E' ρ w h => h1.mono _ _ _ (w.with_nx fun ρ h => h2.mono _ _ _ w h) h, fun H₀ F => PSs_imp (pss_cons (h1.run H₀ F) (h2.run H₀ F)) fun D σ H ⟨ρ, E, fr, h, en⟩ => ?_⟩
  exact ⟨ρ, _, fr, h, fun ρ' σ' H' fr' h' => ⟨ρ', E, fr', h', en⟩, en.bk, en.ct, en.rt⟩
theorem q_oneS (h1 : QS X st t) : QSs X [st] t := ⟨h1.mono, fun H₀ F => pss_one (h1.run H₀ F)⟩
def sBreak : TSp := fun E ρ => E.bk ρ
def sCont : TSp := fun E ρ => E.ct ρ
def sNever : TSp := fun _ _ => False
def sDrop (te : TEp) : TSp := fun E ρ => te ρ fun _ => E.nx ρ
def R.out : R → R
  | .ow _ d => .nw d
  | r => r
theorem RRep.out {K : PySem.W.Frag} {H₀ H H' : Hp} {F : Addr → Prop} {σ : St} {ρ : List Sl} {x : V} {r : R} (fr : Fr K H₀ F σ H ρ) (h : RRep K (MM F ρ) (Own ρ) H x r H') : RRep K F NoOwn H₀ x r.out H' := by
  cases r with
  | v d => exact Rep.weak (fun a z => .inl z) h
  | nw d =>
    obtain ⟨a, e, n, o⟩ := h
    exact ⟨a, e, fr.same.free n, o.weak fun b z => z.elim (fun z => .inl (.inl z)) .inr⟩
  | ow a d =>
    obtain ⟨e, m, o⟩ := h
    refine ⟨a, e, fr.new a d m, o.weak fun b z => ?_⟩
    rcases z with z | z
    · exact .inl z
    · rw [z]; exact .inr ⟨d, m⟩
def sRet (te : TEp) : TSp := fun E ρ => te ρ fun r => E.rt r.out
def sRetN : TSp := fun E _ => E.rt (.v .non)
theorem q_ret (he : QE X e te) : QS X (.Return (some e) pos) (sRet te) :=
  ⟨fun E E' ρ w h => he.mono _ _ _ (fun _ q => w.rt _ q) h, fun H₀ F => PS_imp (ps_ret (he.run H₀ F)) fun D σ H ⟨ρ, E, fr, h, en⟩ => he.step fr h fun r x H1 q S1 r1 => en.rt _ _ _ (fr.same.trans S1) (RRep.out fr r1) q⟩
def sIf (c : TTp) (t u : TSp) : TSp := fun E ρ => c ρ fun b => if b = true then t E ρ else u E ρ
theorem q_if {a b : List Stmt} {tc : TTp} (hc : QT X c tc) (ha : QSs X a t) (hb : QSs X b u) : QS X (.If c a b pos) (sIf tc t u) := by
  refine ⟨fun E E' ρ w h => hc.mono _ _ _ (fun k q => ?_) h, fun H₀ F => PS_imp (ps_if (hc.run H₀ F) (ha.run H₀ F) (hb.run H₀ F)) fun D σ H ⟨ρ, E, fr, h, en⟩ => ?_⟩
  · split at q
    · rw [if_pos ‹_›]; exact ha.mono _ _ _ w q
    · rw [if_neg ‹_›]; exact hb.mono _ _ _ w q
  · refine hc.step fr h fun k H1 q S1 => ?_
    cases k with
    | true => exact iteT ⟨ρ, E, fr.mono S1, by simpa using q, en⟩
    | false => exact iteF ⟨ρ, E, fr.mono S1, by simpa using q, en⟩
end
section
variable {K : PySem.W.Frag} {H₀ H H' : Hp} {F : Addr → Prop} {σ : St} {ρ : List Sl}
theorem get_set {α : Type} {l : List α} {i j : Nat} {a b : α} (h : (l.set i a)[j]? = some b) : (i = j ∧ i < l.length ∧ b = a) ∨ (i ≠ j ∧ l[j]? = some b) := by
  by_cases e : i = j
  · subst e
    by_cases hl : i < l.length
    · rw [List.getElem?_set_self hl] at h
      exact .inl ⟨rfl, hl, (Option.some.inj h).symm⟩
    · rw [List.getElem?_eq_none (by simp; omega)] at h
      cases h
  · rw [List.getElem?_set_ne e] at h
    exact .inr ⟨e, h⟩
theorem MM.set {i : Nat} {s : Sl} (a : Addr) (h : MM F (ρ.set i s) a) : MM F ρ a ∨ ∃ d, s = .own a d := by
  rcases h with h | ⟨d, h⟩
  · exact .inl (.inl h)
  · rcases List.mem_or_eq_of_mem_set h with h | h
    · exact .inl (.inr ⟨d, h⟩)
    · exact .inr ⟨d, h.symm⟩
theorem Fr.setv (fr : Fr K H₀ F σ H ρ) {i : Nat} {x : V} {d : Dv} (r : Rep K (MM F ρ) H x d) : Fr K H₀ F (σ.set i (some x)) H (ρ.set i (.v d)) := by
  have wk : ∀ a, MM F (ρ.set i (.v d)) a → MM F ρ a := fun a h => by
    rcases MM.set a h with h | ⟨_, h⟩
    · exact h
    · cases h
  refine ⟨by simp [fr.len], fun j s e => ?_, fun j k a d1 d2 e1 e2 => ?_, fun a d1 h => ?_, fr.same, fr.old⟩
  · rcases get_set e with ⟨rfl, hl, rfl⟩ | ⟨ne, e⟩
    · exact ⟨x, by rw [List.getElem?_set_self (by rw [fr.len]; exact hl)], r.weak wk⟩
    · rw [List.getElem?_set_ne ne]
      exact (fr.sl j s e).weak wk
  · rcases get_set e1 with ⟨_, _, z⟩ | ⟨_, e1⟩
    · cases z
    · rcases get_set e2 with ⟨_, _, z⟩ | ⟨_, e2⟩
      · cases z
      · exact fr.nd j k a d1 d2 e1 e2
  · rcases List.mem_or_eq_of_mem_set h with h | h
    · exact fr.new a d1 h
    · cases h
theorem SlOk.gen {M M' : Addr → Prop} {o : Option (Option V)} {s : Sl} (G : Gen K M M' H H') (hs : ∀ a d, s = .own a d → ∀ u, H a = some u → H' a = some u) (h : SlOk K M H o s) : SlOk K M' H' o s := by
  cases s with
  | un => trivial
  | v d => obtain ⟨x, e, r⟩ := h; exact ⟨x, e, r.gen G⟩
  | own a d => exact ⟨h.1, h.2.gen G (hs a d rfl)⟩
theorem Fr.seto (fr : Fr K H₀ F σ H ρ) (S : Same H H') {i : Nat} {a : Addr} {d : Dv} (ha : H a = none) (o : OwnAt K (fun b => MM F ρ b ∨ b = a) H' a d) : Fr K H₀ F (σ.set i (some (.ref a))) H' (ρ.set i (.own a d)) := by
  have wk : ∀ b, MM F (ρ.set i (.own a d)) b → MM F ρ b ∨ b = a := fun b h => by
    rcases MM.set b h with h | ⟨_, h⟩
    · exact .inl h
    · cases h; exact .inr rfl
  have G : Gen K (MM F ρ) (MM F (ρ.set i (.own a d))) H H' := ((Gen.fresh ha).trans (.mono S)).trans (.weak wk)
  have ne : ∀ (j : Nat) (b : Addr) (d' : Dv), ρ[j]? = some (Sl.own b d') → b ≠ a := fun j b d' e z => by
    have := (fr.sl j _ e).2.mut
    obtain ⟨u, hu, _⟩ := this
    rw [z, ha] at hu
    cases hu
  refine ⟨by simp [fr.len], fun j s e => ?_, fun j k b d1 d2 e1 e2 => ?_, fun b d1 h => ?_, fr.same.trans S, fr.old⟩
  · rcases get_set e with ⟨rfl, hl, rfl⟩ | ⟨hne, e⟩
    · exact ⟨by rw [List.getElem?_set_self (by rw [fr.len]; exact hl)], o.weak wk⟩
    · rw [List.getElem?_set_ne hne]
      exact (fr.sl j s e).gen G fun b d' _ u hu => S _ _ hu
  · rcases get_set e1 with ⟨h1, _, z⟩ | ⟨_, e1⟩
    · rcases get_set e2 with ⟨h2, _, z'⟩ | ⟨_, e2⟩
      · omega
      · cases z
        exact absurd rfl (ne k _ _ e2)
    · rcases get_set e2 with ⟨h2, _, z'⟩ | ⟨_, e2⟩
      · cases z'
        exact absurd rfl (ne j _ _ e1)
      · exact fr.nd j k b d1 d2 e1 e2
  · rcases List.mem_or_eq_of_mem_set h with h | h
    · exact fr.new b d1 h
    · cases h
      exact fr.same.free ha
theorem Fr.write (fr : Fr K H₀ F σ H ρ) {i : Nat} {a : Addr} {d d' : Dv} {o : HO} (hi : ρ[i]? = some (.own a d)) (n : OwnAt K (MM F ρ) (upd H a o) a d') : Fr K H₀ F σ (upd H a o) (ρ.set i (.own a d')) := by
  have mem : Sl.own a d ∈ ρ := List.mem_of_getElem? hi
  have wk : ∀ b, MM F (ρ.set i (.own a d')) b → MM F ρ b := fun b h => by
    rcases MM.set b h with h | ⟨_, h⟩
    · exact h
    · cases h; exact .inr ⟨d, mem⟩
  obtain ⟨hs, ow⟩ := fr.sl i _ hi
  obtain ⟨u, hu, mu⟩ := ow.mut
  have mu' : Mut (H a) := by rw [hu]; exact mu
  have G : Gen K (MM F ρ) (MM F (ρ.set i (.own a d'))) H (upd H a o) := (Gen.write (.inr ⟨d, mem⟩) mu').trans (.weak wk)
  refine ⟨by simp [fr.len], fun j s e => ?_, fun j k b d1 d2 e1 e2 => ?_, fun b d1 h => ?_, fun b q e => ?_, fr.old⟩
  · rcases get_set e with ⟨rfl, hl, rfl⟩ | ⟨hne, ej⟩
    · exact ⟨hs, n.weak wk⟩
    · refine (fr.sl j s ej).gen G fun b d2 es u hu => ?_
      subst es
      rw [upd_ne fun z => hne ?_]
      · exact hu
      · subst z; exact fr.nd i j _ d d2 hi ej
  · rcases get_set e1 with ⟨h1, _, z⟩ | ⟨_, e1⟩
    · cases z
      rcases get_set e2 with ⟨h2, _, z'⟩ | ⟨_, e2⟩
      · omega
      · rw [← h1]; exact fr.nd i k _ d d2 hi e2
    · rcases get_set e2 with ⟨h2, _, z'⟩ | ⟨_, e2⟩
      · cases z'
        rw [← h2]; exact fr.nd j i _ d1 d e1 hi
      · exact fr.nd j k b d1 d2 e1 e2
  · rcases List.mem_or_eq_of_mem_set h with h | h
    · exact fr.new b d1 h
    · cases h
      exact fr.new _ d mem
  · rw [upd_ne ?_]
    · exact fr.same b q e
    · intro z
      subst z
      rw [fr.new _ d mem] at e
      cases e
def freeze (i : Nat) (ρ : List Sl) : List Sl := match ρ[i]? with
  | some (.own _ d) => ρ.set i (.v d)
  | _ => ρ
theorem Fr.freeze (fr : Fr K H₀ F σ H ρ) (i : Nat) : Fr K H₀ F σ H (freeze i ρ) := by
  unfold Z.freeze
  split
  · rename_i a d hi
    have mem : Sl.own a d ∈ ρ := List.mem_of_getElem? hi
    obtain ⟨hs, ow⟩ := fr.sl i _ hi
    have nF : ¬ F a := fun z => fr.old a z (fr.new a d mem)
    have wk : ∀ b, MM F (ρ.set i (.v d)) b → MM F ρ b := fun b h => by
      rcases MM.set b h with h | ⟨_, h⟩
      · exact h
      · cases h
    have nM : ¬ MM F (ρ.set i (.v d)) a := by
      rintro (h | ⟨d', h⟩)
      · exact nF h
      · obtain ⟨j, e⟩ := List.mem_iff_getElem?.mp h
        rcases get_set e with ⟨_, _, z⟩ | ⟨ne, e⟩
        · cases z
        · exact ne (fr.nd i j a d d' hi e)
    refine ⟨by simp [fr.len], fun j s e => ?_, fun j k b d1 d2 e1 e2 => ?_, fun b d1 h => ?_, fr.same, fr.old⟩
    · rcases get_set e with ⟨rfl, hl, rfl⟩ | ⟨hne, e⟩
      · exact ⟨_, hs, (ow.weak wk).rep nM⟩
      · exact (fr.sl j s e).weak wk
    · rcases get_set e1 with ⟨_, _, z⟩ | ⟨_, e1⟩
      · cases z
      · rcases get_set e2 with ⟨_, _, z⟩ | ⟨_, e2⟩
        · cases z
        · exact fr.nd j k b d1 d2 e1 e2
    · rcases List.mem_or_eq_of_mem_set h with h | h
      · exact fr.new b d1 h
      · cases h
  · exact fr
end
section
variable {X : Cx} {e : Expr} {te : TEp} {pos pos' : Pos} {sts : List Stmt} {t : TSp}
def sSet (i : Nat) (te : TEp) : TSp := fun E ρ => te ρ fun r => match r with
  | .v d => E.nx (ρ.set i (.v d))
  | .nw d => E.nx (ρ.set i (.v d))
  | .ow _ _ => False
def sSetO (i : Nat) (te : TEp) : TSp := fun E ρ => te ρ fun r => match r with
  | .v d => E.nx (ρ.set i (.v d))
  | .nw d => ∀ a, E.nx (ρ.set i (.own a d))
  | .ow _ _ => False
def sFrz (i : Nat) (t : TSp) : TSp := fun E ρ => t E (freeze i ρ)
theorem q_frz (i : Nat) (h : QSs X sts t) : QSs X sts (sFrz i t) :=
  ⟨fun E E' ρ w q => h.mono _ _ _ w q, fun H₀ F => PSs_imp (h.run H₀ F) fun D σ H ⟨ρ, E, fr, q, en⟩ => ⟨_, E, fr.freeze i, q, en⟩⟩
theorem q_set {i : Nat} {x : Str} (hN : X.N.Nodup) (hi : X.N[i]? = some x) (hx : Loc X.env.scope x) (he : QE X e te) (hs : swapsWith e (some (.Name x pos')) pos.line X.env = pure false := by rfl) (hf : X.fn x = true ∨ X.env.scope.names.lookup x = some .local := by first | exact .inl rfl | exact .inr rfl | assumption) :
    QS X (.Assign [.Name x pos'] e pos) (sSet i te) := by
  refine ⟨fun E E' ρ w h => he.mono _ _ _ (fun r q => ?_) h, fun H₀ F => PS_imp (ps_set hN hi hx (he.run H₀ F) hs hf) fun D σ H ⟨ρ, E, fr, h, en⟩ => ?_⟩
  · cases r with
    | v d => exact w.nx _ q
    | nw d => exact w.nx _ q
    | ow a d => exact q
  · refine he.step fr h fun r x H1 q S1 r1 => ?_
    cases r with
    | v d => exact en.nx _ _ _ ((fr.mono S1).setv r1) q
    | nw d => exact en.nx _ _ _ ((fr.mono S1).setv (r1.rep (fun a m => fr.dom m) rfl)) q
    | ow a d => exact q.elim
theorem q_setO {i : Nat} {x : Str} (hN : X.N.Nodup) (hi : X.N[i]? = some x) (hx : Loc X.env.scope x) (he : QE X e te) (hs : swapsWith e (some (.Name x pos')) pos.line X.env = pure false := by rfl) (hf : X.fn x = true ∨ X.env.scope.names.lookup x = some .local := by first | exact .inl rfl | exact .inr rfl | assumption) :
    QS X (.Assign [.Name x pos'] e pos) (sSetO i te) := by
  refine ⟨fun E E' ρ w h => he.mono _ _ _ (fun r q => ?_) h, fun H₀ F => PS_imp (ps_set hN hi hx (he.run H₀ F) hs hf) fun D σ H ⟨ρ, E, fr, h, en⟩ => ?_⟩
  · cases r with
    | v d => exact w.nx _ q
    | nw d => exact fun a => w.nx _ (q a)
    | ow a d => exact q
  · refine he.step fr h fun r x H1 q S1 r1 => ?_
    cases r with
    | v d => exact en.nx _ _ _ ((fr.mono S1).setv r1) q
    | nw d =>
      obtain ⟨a, rfl, ha, o⟩ := r1
      exact en.nx _ _ _ (fr.seto S1 ha o) (q a)
    | ow a d => exact q.elim
def sAug (i : Nat) (p : Dv → Dv → (R → Prop) → Prop) (te : TEp) : TSp := fun E ρ => match ρ[i]? with
  | some (.v d) => te ρ fun r => p d r.d fun z => match z with
    | .v d' => E.nx (ρ.set i (.v d'))
    | _ => False
  | _ => False
def IpD (X : Cx) (op : Operator) (p : Dv → Dv → (R → Prop) → Prop) : Prop := OpD X (inplaceOp op) p
theorem q_aug {i : Nat} {x : Str} {op : Operator} {p : Dv → Dv → (R → Prop) → Prop} (ho : IpD X op p) (hN : X.N.Nodup) (hi : X.N[i]? = some x) (hx : Loc X.env.scope x) (he : QE X e te) (hf : X.fn x = true ∨ X.env.scope.names.lookup x = some .local := by first | exact .inl rfl | exact .inr rfl | assumption) :
    QS X (.AugAssign (.Name x pos') op e pos) (sAug i p te) := by
  obtain ⟨mo, r2, hR, hr⟩ := ho
  refine ⟨fun E E' ρ w h => ?_, fun H₀ F => PS_imp (ps_aug hN hi hx (he.run H₀ F) (fun pins s σ H x y v u Q I rx ry h => hR pins s σ H x y v u Q I rx ry h) hf) fun D σ H ⟨ρ, E, fr, h, en⟩ => ?_⟩
  · unfold sAug at *
    split at h
    · refine he.mono _ _ _ (fun r q => mo _ _ _ _ (fun z q => ?_) q) h
      split at q
      · exact w.nx _ q
      · exact q
    · exact h
  · unfold sAug at h
    split at h
    · rename_i d ed
      obtain ⟨x, ex, rx⟩ := fr.sl i _ ed
      refine ⟨x, ex, he.step fr h fun r y H1 q S1 r1 => ?_⟩
      refine hr (MM F ρ) (Own ρ) H1 x y _ _ _ (.inl (rx.mono S1)) r1.c (mo _ _ _ _ (fun z q z' H' S' rz => ?_) q)
      split at q
      · exact en.nx _ _ _ (((fr.mono S1).mono S').setv rz) q
      · exact q.elim
    · exact h.elim
def sApp (i : Nat) (te : TEp) : TSp := fun E ρ => match ρ[i]? with
  | some (.own a (.lst xs)) => te ρ fun r => (r.free = true ∧ xs.length < LIM) ∧ E.nx (ρ.set i (.own a (.lst (xs ++ [r.d]))))
  | _ => False
theorem lim_lt {n : Nat} (h : n < LIM) : n < sizeLine := Nat.lt_of_lt_of_le h (lim_line (Nat.le_refl _))
theorem q_app {i : Nat} {x : Str} {p1 p2 p3 : Pos} (hv : PE X (.Name x p1) (tVar i)) (he : QE X e te) (hs : swapsWith (.Call (.Attribute (.Name x p1) "append" p2) [e] [] p3) none pos.line X.env = pure false := by rfl)
    (hbase : attributeBase (.Name x p1) "append" X.env (eval (.Name x p1) X.env) = eval (.Name x p1) X.env := by rfl)
    (hfew : ((backTo p3 (starEach [e] X.env)).all (fun x => !x.1) && (backToKw p3 (keywordEach [] X.env)).all (fun x => x.1.isSome)
      && decide ([e].length + ([] : List Keyword).length + (if ([] : List Keyword).isEmpty then 0 else 1) < 30)) = true := by rfl)
    (hline : (p2.endLine == p3.line) = true := by rfl) (hst : starEach [e] X.env = (false, eval e X.env) :: starEach [] X.env := by rfl) (hplain : (backTo p3 (starEach [] X.env)).any (·.1) = false := by rfl) :
    QS X (.Expr (.Call (.Attribute (.Name x p1) "append" p2) [e] [] p3) pos) (sApp i te) := by
  refine ⟨fun E E' ρ w h => ?_, fun H₀ F => PS_imp (ps_expr (pe_bm PySem.F.plainAttrs_list PySem.F.slot_list_append PySem.F.type_list_append mt_append hv (pa_cons (he.run H₀ F) pa_nil hst) hbase hfew hline hst hplain) hs) fun D σ H ⟨ρ, E, fr, h, en⟩ => ?_⟩
  · unfold sApp at *
    split at h
    · exact he.mono _ _ _ (fun r q => ⟨q.1, w.nx _ q.2⟩) h
    · exact h
  · unfold sApp at h
    split at h
    · rename_i a xs hx
      obtain ⟨hs1, vs, hv1, rv1⟩ := fr.sl i _ hx
      refine ⟨_, hs1, .inl ⟨rfl, _, SqL.of hv1⟩, he.step fr h fun r y H1 q S1 r1 => ?_⟩
      obtain ⟨⟨qf, ql⟩, q2⟩ := q
      have rep := r1.rep (fun a m => fr.dom m) qf
      have hv2 := S1 _ _ hv1
      refine ⟨a, vs, y, rfl, rfl, hv2, by rw [rv1.length]; exact lim_lt ql, ?_⟩
      refine en.nx _ _ _ ((fr.mono S1).write (d' := .lst (xs ++ [r.d])) hx ⟨_, upd_same, ?_⟩) q2
      have G : Gen X.K (MM F ρ) (MM F ρ) H1 (upd H1 a (.lst (vs ++ [y]))) := Gen.write (.inr ⟨_, List.mem_of_getElem? hx⟩) (by rw [hv2]; trivial)
      exact ((rv1.mono S1).append (.cons rep .nil)).gen G
    · exact h.elim
end
end Z
namespace Z
open PySem PySem.Spec PyProof.Rows L2
open Classical in
noncomputable def prot (H : Hp) (ρ : List Sl) : Hp := fun b => if ∃ d, Sl.own b d ∈ ρ then none else H b
section
variable {K : PySem.W.Frag} {H₀ H H1 H' : Hp} {F : Addr → Prop} {σ σ' : St} {ρ ρ' : List Sl}
theorem prot_own {b : Addr} {d : Dv} (h : Sl.own b d ∈ ρ) : prot H ρ b = none := by unfold prot; rw [if_pos ⟨d, h⟩]
theorem prot_free {b : Addr} (h : ¬ ∃ d, Sl.own b d ∈ ρ) : prot H ρ b = H b := by unfold prot; rw [if_neg h]
theorem prot_some {b : Addr} {o : HO} (h : prot H ρ b = some o) : H b = some o := by
  by_cases c : ∃ d, Sl.own b d ∈ ρ
  · obtain ⟨d, c⟩ := c
    rw [prot_own c] at h
    cases h
  · rw [prot_free c] at h
    exact h
theorem prot_none (h : prot H ρ b = none) : (∃ d, Sl.own b d ∈ ρ) ∨ H b = none := by
  by_cases c : ∃ d, Sl.own b d ∈ ρ
  · exact .inl c
  · rw [prot_free c] at h
    exact .inr h
theorem Fr.prot (fr : Fr K H₀ F σ H ρ) : Fr K (prot H ρ) F σ H ρ := by
  refine ⟨fr.len, fr.sl, fr.nd, fun a d h => prot_own h, fun b o h => prot_some h, fun a h => ?_⟩
  rw [prot_free ?_]
  · exact fr.dom (.inl h)
  · rintro ⟨d, c⟩
    exact fr.old a h (fr.new a d c)
theorem Fr.free_of (fr : Fr K H₀ F σ H ρ) {b : Addr} (h : Z.prot H ρ b = none) : H₀ b = none := by
  rcases prot_none h with ⟨d, c⟩ | h
  · exact fr.new b d c
  · exact fr.same.free h
theorem Fr.same_of (fr : Fr K H₀ F σ H ρ) (S : Same (Z.prot H ρ) H') : Same H₀ H' := fun b o e => by
  refine S b o ?_
  rw [prot_free ?_]
  · exact fr.same b o e
  · rintro ⟨d, c⟩
    rw [fr.new b d c] at e
    cases e
theorem Fr.unprot (fr : Fr K H₀ F σ H ρ) (g : Fr K (Z.prot H ρ) F σ' H' ρ') : Fr K H₀ F σ' H' ρ' :=
  ⟨g.len, g.sl, g.nd, fun a d h => fr.free_of (g.new a d h), fr.same_of g.same, fr.old⟩
theorem Fr.gen (fr : Fr K H₀ F σ H ρ) (g : Fr K (Z.prot H ρ) F σ' H' ρ') : Gen K (MM F ρ) (MM F ρ') H H' := by
  have no : ∀ a o, H a = some o → ¬ MM F ρ a → Z.prot H ρ a = some o := fun a o e m => by
    rw [prot_free fun c => m (.inr c)]
    exact e
  have no2 : ∀ a o, H a = some o → ¬ Mut (some o) → Z.prot H ρ a = some o := fun a o e m => by
    rw [prot_free ?_]
    · exact e
    · rintro ⟨d, c⟩
      obtain ⟨_, _, _, ow⟩ := fr.at_own c
      obtain ⟨u, hu, mu⟩ := ow.mut
      rw [e] at hu
      cases hu
      exact m mu
  refine ⟨fun a o e mu m => ⟨g.same _ _ (no a o e m), ?_⟩, fun a xs e => g.same _ _ (no2 a _ e fun z => z), fun a ns e => ?_⟩
  · rintro (h | ⟨d, h⟩)
    · exact m (.inl h)
    · have := g.new a d h
      rw [no a o e m] at this
      cases this
  · rcases e with ⟨o, e⟩ | e
    · exact .inl ⟨o, g.same _ _ (no2 a _ e fun z => z)⟩
    · exact .inr e
theorem Ent.prot {E : En} {D : Ends} (fr : Fr K H₀ F σ H ρ) (en : Ent K H₀ F E D) : Ent K (Z.prot H ρ) F E D := by
  refine ⟨fun ρ' σ' H' g h => en.nx _ _ _ (fr.unprot g) h, fun ρ' σ' H' g h => en.bk _ _ _ (fr.unprot g) h, fun ρ' σ' H' g h => en.ct _ _ _ (fr.unprot g) h, fun r x H' S rr h => en.rt r x H' (fr.same_of S) ?_ h⟩
  cases r with
  | v d => exact rr
  | ow a d => exact rr
  | nw d => obtain ⟨a, e, n, o⟩ := rr; exact ⟨a, e, fr.free_of n, o⟩
end
abbrev TIp := List Sl → (List Dv → List (Addr × List Dv) → Prop) → Prop
def guard (ogs : List (Addr × List Dv)) (ρ : List Sl) : Prop := ∀ p ∈ ogs, Sl.own p.1 (.lst p.2) ∈ ρ
def ItOk (K : PySem.W.Frag) (P : Hp) (M : Addr → Prop) (H1 : Hp) (J : It) (ds : List Dv) (ogs : List (Addr × List Dv)) : Prop :=
  ∀ (i : Nat) (H' : Hp) (M' : Addr → Prop), Same P H' → Gen K M M' H1 H' → (∀ p ∈ ogs, OwnAt K M' H' p.1 (.lst p.2)) →
    (∀ d, ds[i]? = some d → J.go i H' ∧ ∀ y H'', J.yld i H' y H'' → Same H' H'' ∧ Rep K M' H'' y d) ∧ (ds.length ≤ i → J.stop i H')
structure QI (X : Cx) (tg iter : Expr) (ti : TIp) : Prop where
  mono : ∀ (ρ : List Sl) (Q Q' : List Dv → List (Addr × List Dv) → Prop), (∀ ds g, Q ds g → Q' ds g) → ti ρ Q → ti ρ Q'
  run : ∀ (H₀ : Hp) (F : Addr → Prop), ∃ wi, PI X tg iter wi ∧ ∀ (σ : St) (H : Hp) (ρ : List Sl) (R : It → Hp → Prop), Fr X.K H₀ F σ H ρ →
    ti ρ (fun ds ogs => ∀ J H1, Same H H1 → guard ogs ρ → ItOk X.K (prot H1 ρ) (MM F ρ) H1 J ds ogs → R J H1) → wi σ H R
section
variable {X : Cx} {tg l : Expr} {tl : TEp}
def iSeqL (K : PySem.W.Frag) (tl : TE) : TI := fun σ H R => tl σ H fun x H1 => ∃ a, x = .ref a ∧ (((∃ xs, SqL K H1 a xs) ∧ R (Itl K a) H1) ∨ ((∃ xs, SqT K H1 a xs) ∧ R (Itt K a) H1))
theorem pi_seq {l : Expr} {tl : TE} (hl : PE X l tl) : PI X tg l (iSeqL X.K tl) := by
  intro pins s σ H R I h
  refine thn (hl pins s σ H _ I h) fun v s1 ⟨x, H1, I1, r1, q1⟩ => ?_
  obtain ⟨a, e, q1⟩ := q1
  subst e
  cases r1
  rcases q1 with ⟨⟨xs, hq⟩, q⟩ | ⟨⟨xs, hq⟩, q⟩
  · obtain ⟨its, rv, p, hz⟩ := I1.list hq
    refine wpAny_pyIter_list p.isList ?_
    refine ⟨s1.heap.objs.size, [s1.heap.objs.size], _, _, H1, rfl, I1.kept (t' := s1.toks) fun b o e => Heap.get?_push_of_some _ e, turn_list a _, ⟨_, Heap.get?_push_size _ rfl, rfl, rfl⟩, fun b hb => ?_, q⟩
    have e : b = s1.heap.objs.size := by simpa using hb
    subst e
    exact I1.fpOk (Nat.le_refl _) (I1.hok.fresh (Nat.le_refl _))
  · obtain ⟨its, rv, p, hz⟩ := I1.tuple hq
    refine wpAny_pyIter_tuple (show s1.heap.IsTuple a its.toArray from p) ?_
    refine ⟨s1.heap.objs.size, [s1.heap.objs.size], _, _, H1, rfl, I1.kept (t' := s1.toks) fun b o e => Heap.get?_push_of_some _ e, turn_tuple a _, ⟨_, Heap.get?_push_size _ rfl, rfl, rfl⟩, fun b hb => ?_, q⟩
    have e : b = s1.heap.objs.size := by simpa using hb
    subst e
    exact I1.fpOk (Nat.le_refl _) (I1.hok.fresh (Nat.le_refl _))
def iSeq (tl : TEp) : TIp := fun ρ Q => tl ρ fun r => match r with
  | .v (.lst ds) => Q ds []
  | .nw (.lst ds) => Q ds []
  | .ow a (.lst ds) => Q ds [(a, ds)]
  | .v (.tup ds) => Q ds []
  | .v (.scr ns) => Q (ns.map .int) []
  | _ => False
theorem itok_list {K : PySem.W.Frag} {P : Hp} {M : Addr → Prop} {H1 : Hp} {a : Addr} {xs : List V} {ds : List Dv} (hP : P a = some (.lst xs)) (r : Reps K M H1 xs ds) : ItOk K P M H1 (Itl K a) ds [] := by
  intro i H' M' S G _
  have h' := S _ _ hP
  refine ⟨fun d e => ?_, fun h => ⟨xs, SqL.of h', by rw [r.length]; exact h⟩⟩
  obtain ⟨x, hx, rx⟩ := r.get e
  refine ⟨⟨xs, x, SqL.of h', hx⟩, fun y H'' ⟨e1, e2⟩ => ?_⟩
  subst e1
  have := e2 xs (SqL.of h')
  rw [hx] at this
  cases this
  exact ⟨Same.refl _, rx.gen G⟩
theorem itok_own {K : PySem.W.Frag} {P : Hp} {M : Addr → Prop} {H1 : Hp} {a : Addr} {ds : List Dv} : ItOk K P M H1 (Itl K a) ds [(a, ds)] := by
  intro i H' M' S G ow
  obtain ⟨xs, h', r⟩ := ow (a, ds) (by simp)
  refine ⟨fun d e => ?_, fun h => ⟨xs, SqL.of h', by rw [r.length]; exact h⟩⟩
  obtain ⟨x, hx, rx⟩ := r.get e
  refine ⟨⟨xs, x, SqL.of h', hx⟩, fun y H'' ⟨e1, e2⟩ => ?_⟩
  subst e1
  have := e2 xs (SqL.of h')
  rw [hx] at this
  cases this
  exact ⟨Same.refl _, rx⟩
theorem itok_tup {K : PySem.W.Frag} {P : Hp} {M : Addr → Prop} {H1 : Hp} {a : Addr} {xs : List V} {ds : List Dv} (hP : P a = some (.tup xs)) (r : Reps K M H1 xs ds) : ItOk K P M H1 (Itt K a) ds [] := by
  intro i H' M' S G _
  have h' := S _ _ hP
  refine ⟨fun d e => ?_, fun h => ⟨xs, SqT.of h', by rw [r.length]; exact h⟩⟩
  obtain ⟨x, hx, rx⟩ := r.get e
  refine ⟨⟨xs, x, SqT.of h', hx⟩, fun y H'' ⟨e1, e2⟩ => ?_⟩
  subst e1
  have := e2 xs (SqT.of h')
  rw [hx] at this
  cases this
  exact ⟨Same.refl _, rx.gen G⟩
theorem itok_scr {K : PySem.W.Frag} {P : Hp} {M : Addr → Prop} {H1 : Hp} {a : Addr} {ns : List Int} (hP : Scr K P a ns) : ItOk K P M H1 (Itl K a) (ns.map .int) [] := by
  intro i H' M' S G _
  have h' := (Same.scr S hP).sq
  refine ⟨fun d e => ?_, fun h => ⟨_, h', by simpa using h⟩⟩
  have r : Reps K M' H' (ns.map V.int) (ns.map .int) := Reps.ints ns
  obtain ⟨x, hx, rx⟩ := r.get e
  refine ⟨⟨_, x, h', hx⟩, fun y H'' ⟨e1, e2⟩ => ?_⟩
  subst e1
  have := e2 _ h'
  rw [hx] at this
  cases this
  exact ⟨Same.refl _, rx⟩
theorem not_own {K : PySem.W.Frag} {H₀ : Hp} {F : Addr → Prop} {σ : St} {H : Hp} {ρ : List Sl} {a : Addr} {o : HO} (fr : Fr K H₀ F σ H ρ) (e : H a = some o) (m : ¬ Mut (some o)) : ¬ ∃ d, Sl.own a d ∈ ρ := by
  rintro ⟨d, c⟩
  obtain ⟨_, _, _, ow⟩ := fr.at_own c
  obtain ⟨u, hu, mu⟩ := ow.mut
  rw [e] at hu
  cases hu
  exact m mu
theorem q_iSeq (h : QE X l tl) : QI X tg l (iSeq tl) := by
  refine ⟨fun ρ Q Q' w q => h.mono _ _ _ (fun r q => ?_) q, fun H₀ F => ⟨_, pi_seq (h.run H₀ F), fun σ H ρ R fr q => ?_⟩⟩
  · unfold iSeq at *
    split at q <;> first | exact w _ _ q | exact q
  · refine h.step fr q fun r x H1 q S1 r1 => ?_
    have fr1 := fr.mono S1
    split at q
    · rename_i ds
      cases r1 with
      | lst e m rs =>
        exact ⟨_, rfl, .inl ⟨⟨_, SqL.of e⟩, q _ H1 S1 (by intro p hp; simp at hp) (itok_list (by rw [prot_free fun c => m (.inr c)]; exact e) rs)⟩⟩
    · rename_i ds
      obtain ⟨a, rfl, n, xs, e, rs⟩ := r1
      exact ⟨_, rfl, .inl ⟨⟨_, SqL.of e⟩, q _ H1 S1 (by intro p hp; simp at hp) (itok_list (by rw [prot_free fun c => fr.fresh n (.inr c)]; exact e) (rs.weak fun b z => .inl z))⟩⟩
    · rename_i a ds
      obtain ⟨rfl, m, xs, e, rs⟩ := r1
      exact ⟨_, rfl, .inl ⟨⟨_, SqL.of e⟩, q _ H1 S1 (by intro p hp; simp at hp; subst hp; exact m) itok_own⟩⟩
    · rename_i ds
      cases r1 with
      | tup e rs => exact ⟨_, rfl, .inr ⟨⟨_, SqT.of e⟩, q _ H1 S1 (by intro p hp; simp at hp) (itok_tup (by rw [prot_free (not_own fr1 e fun z => z)]; exact e) rs)⟩⟩
    · rename_i ns
      cases r1 with
      | scr e =>
        refine ⟨_, rfl, .inl ⟨⟨_, e.sq⟩, q _ H1 S1 (by intro p hp; simp at hp) (itok_scr ?_)⟩⟩
        rcases e with ⟨o, e⟩ | e
        · exact .inl ⟨o, by rw [prot_free (not_own fr1 e fun z => z)]; exact e⟩
        · exact .inr e
    · exact q.elim
def rangeD (lo : Int) (n : Nat) : List Dv := (List.range n).map fun (k : Nat) => Dv.int (lo + (k : Int))
theorem rangeD_get {lo : Int} {n i : Nat} {d : Dv} (h : (rangeD lo n)[i]? = some d) : i < n ∧ d = .int (lo + i) := by
  unfold rangeD at h
  rw [List.getElem?_map] at h
  cases e : (List.range n)[i]? with
  | none => rw [e] at h; cases h
  | some k =>
    rw [e] at h
    obtain ⟨h1, h2⟩ := List.getElem?_eq_some_iff.mp e
    simp at h1 h2
    subst h2
    exact ⟨h1, (Option.some.inj h).symm⟩
theorem itok_range {K : PySem.W.Frag} {P : Hp} {M : Addr → Prop} {H1 : Hp} {lo : Int} {n : Nat} : ItOk K P M H1 (Itr lo n) (rangeD lo n) [] := by
  intro i H' M' S G _
  refine ⟨fun d e => ?_, fun h => (show n ≤ i by simpa [rangeD] using h)⟩
  obtain ⟨h1, h2⟩ := rangeD_get e
  subst h2
  refine ⟨h1, fun y H'' ⟨e1, e2⟩ => ?_⟩
  subst e1 e2
  exact ⟨Same.refl _, .int _⟩
def iRange1 (ts : TAp) : TIp := fun ρ Q => ts ρ fun rs => match rs.map R.d with
  | [.int j] => (-(2 ^ 62) ≤ j ∧ j < 2 ^ 62) ∧ Q (rangeD 0 j.toNat) []
  | _ => False
def iRange2 (ts : TAp) : TIp := fun ρ Q => ts ρ fun rs => match rs.map R.d with
  | [.int i, .int j] => (-(2 ^ 62) ≤ i ∧ i < 2 ^ 62 ∧ -(2 ^ 62) ≤ j ∧ j < 2 ^ 62) ∧ Q (rangeD i (j - i).toNat) []
  | _ => False
theorem creps1 {K : PySem.W.Frag} {M : Addr → Prop} {H : Hp} {xs : List V} {d : Dv} (h : CReps K M H xs [d]) : ∃ x, xs = [x] ∧ CRep K M H x d := by
  cases h with
  | cons a t => cases t; exact ⟨_, rfl, a⟩
theorem creps2 {K : PySem.W.Frag} {M : Addr → Prop} {H : Hp} {xs : List V} {d d' : Dv} (h : CReps K M H xs [d, d']) : ∃ x y, xs = [x, y] ∧ CRep K M H x d ∧ CRep K M H y d' := by
  cases h with
  | cons a t =>
    obtain ⟨y, rfl, b⟩ := creps1 t
    exact ⟨_, _, rfl, a, b⟩
theorem q_iRange1 {a : Expr} {ts : TAp} {p pos : Pos} (hg : Gl X "range") (hm : X.mg "range" = none) (ha : QA X [a] ts) (hs : starEach [a] X.env = [(false, eval a X.env)] := by rfl) : QI X tg (.Call (.Name "range" p) [a] [] pos) (iRange1 ts) := by
  refine ⟨fun ρ Q Q' w q => ha.mono _ _ _ (fun r q => ?_) q, fun H₀ F => ⟨_, pi_range1 hg hm (ha.run H₀ F) hs, fun σ H ρ R fr q => ?_⟩⟩
  · split at q
    · exact ⟨q.1, w _ _ q.2⟩
    · exact q
  · refine ha.step fr q fun rs xs H1 q S1 r1 => ?_
    split at q
    · rename_i j e
      have c := r1.c
      rw [e] at c
      obtain ⟨x, rfl, cx⟩ := creps1 c
      obtain rfl := cx.int
      exact ⟨j, rfl, q.1.1, q.1.2, q.2 _ H1 S1 (by intro p hp; simp at hp) itok_range⟩
    · exact q.elim
theorem q_iRange2 {a b : Expr} {ts : TAp} {p pos : Pos} (hg : Gl X "range") (hm : X.mg "range" = none) (ha : QA X [a, b] ts) (hs : starEach [a, b] X.env = [(false, eval a X.env), (false, eval b X.env)] := by rfl) (hs2 : starEach [b] X.env = [(false, eval b X.env)] := by rfl) :
    QI X tg (.Call (.Name "range" p) [a, b] [] pos) (iRange2 ts) := by
  refine ⟨fun ρ Q Q' w q => ha.mono _ _ _ (fun r q => ?_) q, fun H₀ F => ⟨_, pi_range2 hg hm (ha.run H₀ F) hs hs2, fun σ H ρ R fr q => ?_⟩⟩
  · split at q
    · exact ⟨q.1, w _ _ q.2⟩
    · exact q
  · refine ha.step fr q fun rs xs H1 q S1 r1 => ?_
    split at q
    · rename_i i j e
      have c := r1.c
      rw [e] at c
      obtain ⟨x, y, rfl, cx, cy⟩ := creps2 c
      obtain rfl := cx.int
      obtain rfl := cy.int
      exact ⟨i, j, rfl, q.1, q.2 _ H1 S1 (by intro p hp; simp at hp) itok_range⟩
    · exact q.elim
end
abbrev TGp := Dv → List Sl → (List Sl → Prop) → Prop
structure QG (X : Cx) (tg : Expr) (k : Nat) (g : TGp) : Prop where
  mono : ∀ d ρ (Q Q' : List Sl → Prop), (∀ ρ, Q ρ → Q' ρ) → g d ρ Q → g d ρ Q'
  agree : ∀ d ρ (Q : List Sl → Prop), g d ρ Q → g d ρ fun ρ1 => Q ρ1 ∧ ρ1.length = ρ.length ∧ ∀ j, k ≤ j → ρ1[j]? = ρ[j]?
  run : ∃ t, PG X tg t ∧ ∀ (H₀ : Hp) (F : Addr → Prop) (v : V) (d : Dv) (σ : St) (H : Hp) (ρ : List Sl) (Q : St → Hp → Prop), Fr X.K H₀ F σ H ρ → Rep X.K (MM F ρ) H v d →
    g d ρ (fun ρ1 => ∀ σ1, Fr X.K H₀ F σ1 H ρ1 → (∀ j, k ≤ j → σ1[j]? = σ[j]?) → Q σ1 H) → t v σ H Q
def gN (i : Nat) : TGp := fun d ρ Q => Q (ρ.set i (.v d))
def setAll : List Nat → List Dv → List Sl → List Sl
  | i :: is, d :: ds, ρ => setAll is ds (ρ.set i (.v d))
  | _, _, ρ => ρ
def gT (is : List Nat) : TGp := fun d ρ Q => match d with
  | .tup ds => ds.length = is.length ∧ Q (setAll is ds ρ)
  | _ => False
def gsN : List Nat → TGs
  | [] => gNil
  | i :: is => gCons (gName i) (gsN is)
theorem setAll_len : ∀ (is : List Nat) (ds : List Dv) (ρ : List Sl), (setAll is ds ρ).length = ρ.length
  | [], _, _ => rfl
  | _ :: _, [], _ => rfl
  | i :: is, d :: ds, ρ => by rw [setAll, setAll_len is ds]; simp
theorem setAll_get {k : Nat} : ∀ (is : List Nat) (ds : List Dv) (ρ : List Sl), (∀ i ∈ is, i < k) → ∀ j, k ≤ j → (setAll is ds ρ)[j]? = ρ[j]?
  | [], _, _, _, _, _ => rfl
  | _ :: _, [], _, _, _, _ => rfl
  | i :: is, d :: ds, ρ, h, j, hj => by
    have := h i (by simp)
    rw [setAll, setAll_get is ds _ (fun i hi => h i (by simp [hi])) j hj, List.getElem?_set_ne (by omega)]
section
variable {X : Cx} {pos : Pos}
theorem q_gN {i k : Nat} {x : Str} (hN : X.N.Nodup) (hi : X.N[i]? = some x) (hx : Loc X.env.scope x) (hk : i < k := by decide) (hf : X.fn x = true ∨ X.env.scope.names.lookup x = some .local := by first | exact .inl rfl | exact .inr rfl | assumption) : QG X (.Name x pos) k (gN i) := by
  refine ⟨fun d ρ Q Q' w q => w _ q, fun d ρ Q q => ⟨q, by simp, fun j hj => by rw [List.getElem?_set_ne (by omega)]⟩, _, pg_name hN hi hx hf, fun H₀ F v d σ H ρ Q fr r q => ?_⟩
  exact q _ (fr.setv r) fun j hj => by rw [List.getElem?_set_ne (by omega)]
theorem gsN_run {K : PySem.W.Frag} {H₀ : Hp} {F : Addr → Prop} {H : Hp} {k : Nat} : ∀ (is : List Nat) (ds : List Dv) (vs : List V) (σ : St) (ρ : List Sl) (Q : St → Hp → Prop), (∀ i ∈ is, i < k) → ds.length = is.length → Fr K H₀ F σ H ρ → Reps K (MM F ρ) H vs ds →
    (∀ σ1, Fr K H₀ F σ1 H (setAll is ds ρ) → (∀ j, k ≤ j → σ1[j]? = σ[j]?) → Q σ1 H) → gsN is vs σ H Q
  | [], [], _, σ, ρ, Q, _, _, fr, .nil, q => ⟨rfl, q σ fr fun _ _ => rfl⟩
  | i :: is, d :: ds, _, σ, ρ, Q, hk, hl, fr, .cons (x := x) a r, q => by
    refine ⟨x, _, rfl, ?_⟩
    have wk : ∀ b, MM F (ρ.set i (.v d)) b → MM F ρ b := fun b h => by
      rcases MM.set b h with h | ⟨_, h⟩
      · exact h
      · cases h
    refine gsN_run is ds _ _ (ρ.set i (.v d)) Q (fun i hi => hk i (by simp [hi])) (by simpa using hl) (fr.setv a) (r.weak wk) fun σ1 f1 e1 => q σ1 f1 fun j hj => ?_
    have := hk i (by simp)
    rw [e1 j hj, List.getElem?_set_ne (by omega)]
theorem q_gT {es : List Expr} {x1 n k : Nat} {is : List Nat} (hc : X.calm = true) (h : PGs X es (gsN is)) (hk : ∀ i ∈ is, i < k := by decide) (hl : is.length = n := by rfl)
    (hn : (assignEach es X.env).length = n := by rfl) (hst : (assignEach es X.env).findIdx? (·.1) = none := by rfl) : QG X (.Tuple es x1 pos) k (gT is) := by
  refine ⟨fun d ρ Q Q' w q => ?_, fun d ρ Q q => ?_, _, pg_tup hc h hn hst, fun H₀ F v d σ H ρ Q fr r q => ?_⟩
  · unfold gT at *
    split at q
    · exact ⟨q.1, w _ q.2⟩
    · exact q
  · unfold gT at *
    split at q
    · exact ⟨q.1, q.2, setAll_len _ _ _, setAll_get _ _ _ hk⟩
    · exact q
  · unfold gT at q
    split at q
    · cases r with
      | tup e rs => exact ⟨_, _, rfl, SqT.of e, by rw [rs.length, q.1, hl], gsN_run is _ _ σ ρ Q hk q.1 fr rs q.2⟩
    · exact q.elim
end
def forGo (g : TGp) (tb : TSp) (ogs : List (Addr × List Dv)) : List Dv → TSp
  | [] => fun E ρ => guard ogs ρ ∧ E.nx ρ
  | d :: r => fun E ρ => guard ogs ρ ∧ g d ρ fun ρ1 => tb { E with nx := forGo g tb ogs r E, ct := forGo g tb ogs r E, bk := E.nx } ρ1
def sFor (ti : TIp) (g : TGp) (tb : TSp) : TSp := fun E ρ => ti ρ fun ds ogs => forGo g tb ogs ds E ρ
section
variable {X : Cx} {tg iter c : Expr} {ti : TIp} {g : TGp} {tb : TSp} {body : List Stmt} {pos : Pos} {k : Nat}
theorem forGo_mono (mg : ∀ d ρ (Q Q' : List Sl → Prop), (∀ ρ, Q ρ → Q' ρ) → g d ρ Q → g d ρ Q') (mb : ∀ E E' ρ, EnLe E E' → tb E ρ → tb E' ρ) (ogs : List (Addr × List Dv)) : ∀ (ds : List Dv) (E E' : En) (ρ : List Sl), EnLe E E' → forGo g tb ogs ds E ρ → forGo g tb ogs ds E' ρ
  | [], E, E', ρ, w, h => ⟨h.1, w.nx _ h.2⟩
  | d :: r, E, E', ρ, w, h => by
    have w2 : EnLe { E with nx := forGo g tb ogs r E, ct := forGo g tb ogs r E, bk := E.nx } { E' with nx := forGo g tb ogs r E', ct := forGo g tb ogs r E', bk := E'.nx } :=
      ⟨fun ρ h => forGo_mono mg mb ogs r E E' ρ w h, w.rt, w.nx, fun ρ h => forGo_mono mg mb ogs r E E' ρ w h⟩
    exact ⟨h.1, mg _ _ _ _ (fun ρ1 h => mb _ _ _ w2 h) h.2⟩
theorem forGo_nil (ogs : List (Addr × List Dv)) (E : En) (ρ : List Sl) : forGo g tb ogs [] E ρ = (guard ogs ρ ∧ E.nx ρ) := rfl
theorem forGo_cons (ogs : List (Addr × List Dv)) (d : Dv) (r : List Dv) (E : En) (ρ : List Sl) : forGo g tb ogs (d :: r) E ρ = (guard ogs ρ ∧ g d ρ fun ρ1 => tb { E with nx := forGo g tb ogs r E, ct := forGo g tb ogs r E, bk := E.nx } ρ1) := rfl
theorem forGo_guard {ogs : List (Addr × List Dv)} {E : En} {ρ : List Sl} : ∀ {ds : List Dv}, forGo g tb ogs ds E ρ → guard ogs ρ
  | [], h => by rw [forGo_nil] at h; exact h.1
  | _ :: _, h => by rw [forGo_cons] at h; exact h.1
theorem q_for (hp : PassesOwn (model X.prog X.w) X.A X.env X.xe) (hc : X.calm = true) (hi : QI X tg iter ti) (hg : QG X tg k g) (hb : QSs X body tb) (hs : ∀ x, foldedSetIterable iter X.env x = pure x := by intro _; rfl) : QS X (.For tg iter body [] pos) (sFor ti g tb) := by
  refine ⟨fun E E' ρ w h => hi.mono _ _ _ (fun ds ogs h => forGo_mono hg.mono hb.mono ogs ds E E' ρ w h) h, fun H₀ F => ?_⟩
  obtain ⟨wi, hwi, wiq⟩ := hi.run H₀ F
  obtain ⟨tt, htt, ttq⟩ := hg.run
  have hb' : PSs X body (fun D σ H => ∃ P, liftS X.K P F tb D σ H) := fun pins s σ H D I ⟨P, q⟩ => hb.run P F pins s σ H D I q
  refine PS_imp (ps_for hp hc hwi htt hb' hs) fun D σ H ⟨ρ, E, fr, h, en⟩ => ?_
  refine wiq σ H ρ _ fr (hi.mono _ _ _ (fun ds ogs q J H2 S2 _ ok => ?_) h)
  have fr2 := fr.mono S2
  have en2 : Ent X.K (prot H2 ρ) F E D := en.prot fr2
  refine ⟨fun i m σ' H' => m = ds.length - i ∧ i ≤ ds.length ∧ ∃ ρ', Fr X.K (prot H2 ρ) F σ' H' ρ' ∧ forGo g tb ogs (ds.drop i) E ρ', ⟨ds.length, by simp, Nat.zero_le _, ρ, fr2.prot, by simpa using q⟩, ?_⟩
  rintro i m σ' H' ⟨rfl, hil, ρ', fr', q'⟩
  have gd : guard ogs ρ' := forGo_guard q'
  have Gn := fr2.gen fr'
  have oks := ok i H' (MM F ρ') fr'.same Gn fun p hp => let ⟨_, _, _, h⟩ := fr'.at_own (gd p hp); h
  by_cases hlt : i < ds.length
  · have hd : ds[i]? = some ds[i] := by simp [hlt]
    have hdr : ds.drop i = ds[i] :: ds.drop (i + 1) := List.drop_eq_getElem_cons hlt
    rw [hdr, forGo_cons] at q'
    obtain ⟨go, yld⟩ := oks.1 _ hd
    refine .inr ⟨go, fun σ2 H2' => ∃ ρ2, Fr X.K (prot H2 ρ) F σ2 H2' ρ2 ∧ forGo g tb ogs (ds.drop (i + 1)) E ρ2, fun σ2 H2' ⟨ρ2, f2', q2⟩ => ⟨ds.length - (i + 1), by omega, rfl, hlt, ρ2, f2', q2⟩, fun y H3 hy => ?_⟩
    obtain ⟨S3, ry⟩ := yld y H3 hy
    refine ttq _ F y _ σ' H3 ρ' _ (fr'.mono S3) ry (hg.mono _ _ _ _ (fun ρ1 q1 σ1 f1 _ => ?_) q'.2)
    exact ⟨_, ρ1, _, f1, q1, fun ρ3 σ3 H3' f3 q3 => ⟨ρ3, f3, q3⟩, en2.nx, fun ρ3 σ3 H3' f3 q3 => ⟨ρ3, f3, q3⟩, en2.rt⟩
  · have e : i = ds.length := by omega
    subst e
    rw [List.drop_length, forGo_nil] at q'
    exact .inl ⟨oks.2 (Nat.le_refl _), en2.nx _ _ _ fr' q'.2⟩
end
end Z
namespace Z
open PySem PySem.Spec PyProof.Rows L2
section
variable {X : Cx} {tg iter c e elt : Expr} {ti : TIp} {g : TGp} {tb : TSp} {body : List Stmt} {pos : Pos} {k : Nat} {tc : TTp} {es : List Expr} {ts : TAp} {te : TEp}
def pickP (js : List Nat) (ρ : List Sl) : List Sl := js.map fun j => (ρ[j]?).getD .un
def compGo (ρ0 : List Sl) (g : TGp) (tt : TTp) (te : TEp) : List Dv → List Dv → (R → Prop) → Prop
  | [], acc, Q => Q (.nw (.lst acc))
  | d :: r, acc, Q => g d ρ0 fun ρ1 => tt ρ1 fun b => if b = true then te ρ1 fun v => (v.free = true ∧ acc.length < LIM) ∧ compGo ρ0 g tt te r (acc ++ [v.d]) Q else compGo ρ0 g tt te r acc Q
def eComp (k : Nat) (js : List Nat) (ti : TIp) (g : TGp) (tt : TTp) (te : TEp) : TEp := fun ρ Q => ti ρ fun ds _ => compGo (List.replicate k .un ++ pickP js ρ) g tt te ds [] Q
structure QTs (X : Cx) (ifs : List Expr) (t : TTp) : Prop where
  mono : ∀ (ρ : List Sl) (Q Q' : Bool → Prop), (∀ r, Q r → Q' r) → t ρ Q → t ρ Q'
  run : ∀ (H₀ : Hp) (F : Addr → Prop), PTs X ifs (liftT X.K H₀ F t)
def tTrue : TTp := fun _ Q => Q true
theorem qts_nil : QTs X [] tTrue := ⟨fun _ _ _ w q => w _ q, fun H₀ F pins s σ H Q I ⟨ρ, fr, q⟩ => pts_nil pins s σ H Q I (q H (Same.refl _))⟩
theorem pickP_get {js : List Nat} {ρ : List Sl} {i : Nat} {s : Sl} (h : (pickP js ρ)[i]? = some s) (hs : s ≠ .un) : ∃ j, js[i]? = some j ∧ ρ[j]? = some s := by
  unfold pickP at h
  rw [List.getElem?_map] at h
  cases e : js[i]? with
  | none => rw [e] at h; cases h
  | some j =>
    rw [e] at h
    refine ⟨j, rfl, ?_⟩
    have h' : (ρ[j]?).getD .un = s := Option.some.inj h
    cases q : ρ[j]? with
    | none => rw [q] at h'; exact absurd h'.symm hs
    | some o => rw [q] at h'; exact congrArg some h'
theorem pick_of {js : List Nat} {σ : St} {i j : Nat} {x : V} (hj : js[i]? = some j) (h : σ[j]? = some (some x)) : (pick js σ)[i]? = some (some x) := by
  unfold pick
  rw [List.getElem?_map, hj, Option.map_some, h]
  rfl
theorem compGo_mono {ρ0 : List Sl} {tt : TTp} (mg : ∀ d ρ (Q Q' : List Sl → Prop), (∀ ρ, Q ρ → Q' ρ) → g d ρ Q → g d ρ Q') (mt : ∀ (ρ : List Sl) (Q Q' : Bool → Prop), (∀ r, Q r → Q' r) → tt ρ Q → tt ρ Q') (me : ∀ (ρ : List Sl) (Q Q' : R → Prop), (∀ r, Q r → Q' r) → te ρ Q → te ρ Q') :
    ∀ (ds acc : List Dv) (Q Q' : R → Prop), (∀ r, Q r → Q' r) → compGo ρ0 g tt te ds acc Q → compGo ρ0 g tt te ds acc Q'
  | [], acc, Q, Q', w, h => w _ h
  | d :: r, acc, Q, Q', w, h => by
    refine mg _ _ _ _ (fun ρ1 h => mt _ _ _ (fun b h => ?_) h) h
    split at h
    · rw [if_pos ‹_›]; exact me _ _ _ (fun v h => ⟨h.1, compGo_mono mg mt me r _ Q Q' w h.2⟩) h
    · rw [if_neg ‹_›]; exact compGo_mono mg mt me r _ Q Q' w h
theorem nodup_ix' {l : List Nat} (hN : l.Nodup) {i j x : Nat} (a : l[i]? = some x) (b : l[j]? = some x) : i = j := by
  obtain ⟨h1, e1⟩ := List.getElem?_eq_some_iff.mp a
  obtain ⟨h2, e2⟩ := List.getElem?_eq_some_iff.mp b
  have P := List.pairwise_iff_getElem.mp hN
  rcases Nat.lt_trichotomy i j with h | h | h
  · exact absurd (e1.trans e2.symm) (P i j h1 h2 h)
  · exact h
  · exact absurd (e2.trans e1.symm) (P j i h2 h1 h)
theorem Fr.block {K : PySem.W.Frag} {H₀ H H2 : Hp} {F : Addr → Prop} {σ : St} {ρ : List Sl} {k : Nat} {js : List Nat} {D : Addr} {old : St} (fr : Fr K H₀ F σ H ρ) (S : Same H H2) (hD : H D = none) (hD2 : H2 D ≠ none) (nd : js.Nodup) (lo : old.length = k) :
    ∃ (P : Hp) (F' : Addr → Prop), Fr K P F' (old ++ pick js σ) H2 (List.replicate k .un ++ pickP js ρ) ∧ (∀ a, MM F' (List.replicate k .un ++ pickP js ρ) a ↔ MM F ρ a ∨ a = D) ∧ (∀ a, F' a ↔ (MM F ρ a ∨ a = D) ∧ ¬ ∃ d, Sl.own a d ∈ pickP js ρ) := by
  have mem : ∀ {a : Addr} {d : Dv}, Sl.own a d ∈ List.replicate k Sl.un ++ pickP js ρ → Sl.own a d ∈ pickP js ρ := fun h => by
    rcases List.mem_append.mp h with h | h
    · cases List.eq_of_mem_replicate h
    · exact h
  have sub : ∀ {a : Addr} {d : Dv}, Sl.own a d ∈ pickP js ρ → Sl.own a d ∈ ρ := fun h => by
    obtain ⟨i, e⟩ := List.mem_iff_getElem?.mp h
    obtain ⟨j, _, e2⟩ := pickP_get e (by intro z; cases z)
    exact List.mem_of_getElem? e2
  refine ⟨Z.prot H2 (pickP js ρ), fun a => (MM F ρ a ∨ a = D) ∧ ¬ ∃ d, Sl.own a d ∈ pickP js ρ, ?_, fun a => ⟨fun h => ?_, fun h => ?_⟩, fun a => Iff.rfl⟩
  · have iff : ∀ a, MM (fun a => (MM F ρ a ∨ a = D) ∧ ¬ ∃ d, Sl.own a d ∈ pickP js ρ) (List.replicate k .un ++ pickP js ρ) a → MM F ρ a ∨ a = D := fun a h => by
      rcases h with h | ⟨d, h⟩
      · exact h.1
      · exact .inl (.inr ⟨d, sub (mem h)⟩)
    have G : Gen K (MM F ρ) (MM (fun a => (MM F ρ a ∨ a = D) ∧ ¬ ∃ d, Sl.own a d ∈ pickP js ρ) (List.replicate k .un ++ pickP js ρ)) H H2 := ((Gen.fresh hD).trans (.mono S)).trans (.weak iff)
    refine ⟨by simp [pick, pickP, lo], fun i s e => ?_, fun i j a d d' e1 e2 => ?_, fun a d h => prot_own (mem h), fun b o h => prot_some h, fun a h => ?_⟩
    · by_cases hi : i < k
      · rw [List.getElem?_append_left (by simpa using hi), List.getElem?_replicate, if_pos hi] at e
        cases e
        trivial
      · rw [List.getElem?_append_right (by simpa using Nat.le_of_not_lt hi), List.length_replicate] at e
        rw [List.getElem?_append_right (by rw [lo]; exact Nat.le_of_not_lt hi), lo]
        cases s with
        | un => trivial
        | v d =>
          obtain ⟨j, hj, e2⟩ := pickP_get e (by intro z; cases z)
          obtain ⟨x, hx, r⟩ := fr.sl j _ e2
          exact ⟨x, pick_of hj hx, r.gen G⟩
        | own a d =>
          obtain ⟨j, hj, e2⟩ := pickP_get e (by intro z; cases z)
          obtain ⟨hx, r⟩ := fr.sl j _ e2
          exact ⟨pick_of hj hx, r.gen G fun o e => S _ _ e⟩
    · have ge : ∀ {i : Nat} {d : Dv}, (List.replicate k Sl.un ++ pickP js ρ)[i]? = some (.own a d) → k ≤ i ∧ (pickP js ρ)[i - k]? = some (.own a d) := fun {i d} e => by
        by_cases hi : i < k
        · rw [List.getElem?_append_left (by simpa using hi), List.getElem?_replicate, if_pos hi] at e
          cases e
        · rw [List.getElem?_append_right (by simpa using Nat.le_of_not_lt hi), List.length_replicate] at e
          exact ⟨Nat.le_of_not_lt hi, e⟩
      obtain ⟨k1, e1⟩ := ge e1
      obtain ⟨k2, e2⟩ := ge e2
      obtain ⟨j1, hj1, e1⟩ := pickP_get e1 (by intro z; cases z)
      obtain ⟨j2, hj2, e2⟩ := pickP_get e2 (by intro z; cases z)
      have := fr.nd j1 j2 a d d' e1 e2
      subst this
      have := nodup_ix' nd hj1 hj2
      omega
    · rw [prot_free h.2]
      rcases h.1 with m | m
      · intro z
        exact fr.dom m (S.free z)
      · rw [m]; exact hD2
  · rcases h with h | ⟨d, h⟩
    · exact h.1
    · exact .inl (.inr ⟨d, sub (mem h)⟩)
  · by_cases c : ∃ d, Sl.own a d ∈ pickP js ρ
    · obtain ⟨d, c⟩ := c
      exact .inr ⟨d, List.mem_append_right _ c⟩
    · exact .inl ⟨h, c⟩
end
end Z
namespace Z
open PySem PySem.Spec PyProof.Rows L2
def liftG (K : PySem.W.Frag) (k : Nat) (g : TGp) : TG := fun v σ H Q => ∃ d H₀ F ρ, Fr K H₀ F σ H ρ ∧ Rep K (MM F ρ) H v d ∧ g d ρ (fun ρ1 => ∀ σ1, Fr K H₀ F σ1 H ρ1 → (∀ j, k ≤ j → σ1[j]? = σ[j]?) → Q σ1 H)
theorem QG.pg {X : Cx} {tg : Expr} {k : Nat} {g : TGp} (h : QG X tg k g) : PG X tg (liftG X.K k g) := by
  obtain ⟨t, ht, tq⟩ := h.run
  intro pins s σ H v u Q I r ⟨d, H₀, F, ρ, fr, rv, q⟩
  exact ht pins s σ H v u Q I r (tq H₀ F v d σ H ρ Q fr rv q)
theorem QE.pe {X : Cx} {e : Expr} {te : TEp} (h : QE X e te) : PE X e (fun σ H Q => ∃ H₀ F, lift X.K H₀ F te σ H Q) := fun pins s σ H Q I ⟨H₀, F, q⟩ => h.run H₀ F pins s σ H Q I q
theorem QTs.pt {X : Cx} {ifs : List Expr} {tt : TTp} (h : QTs X ifs tt) : PTs X ifs (fun σ H Q => ∃ H₀ F, liftT X.K H₀ F tt σ H Q) := fun pins s σ H Q I ⟨H₀, F, q⟩ => h.run H₀ F pins s σ H Q I q
theorem split_at {α : Type} {l a b : List α} {k : Nat} (ha : a.length = k) (hl : l.length = k + b.length) (h : ∀ j, k ≤ j → l[j]? = (a ++ b)[j]?) : l = l.take k ++ b := by
  refine List.ext_getElem? fun j => ?_
  by_cases hj : j < k
  · rw [List.getElem?_append_left (by rw [List.length_take]; omega), List.getElem?_take_of_lt hj]
  · rw [h j (by omega), List.getElem?_append_right (by omega), List.getElem?_append_right (by rw [List.length_take]; omega), ha, List.length_take, Nat.min_eq_left (by omega)]
section
variable {X : Cx} {pos : Pos}
theorem q_comp {elt iter tgt : Expr} {ifs : List Expr} {scope : Scope} {cl : List (Str × Addr)} {tgs ns : List Str} {js : List Nat} {k : Nat} {ti : TIp} {g : TGp} {tt : TTp} {te : TEp} (hc : X.calm = true) (hk : tgs.length = k)
    (hi : QI X tgt iter ti) (hg : ∀ (fp : List Addr) (s : Shared) (H : Hp), QG (cxG X scope cl fp (tgs ++ ns) s H) tgt k g) (ht : ∀ (fp : List Addr) (s : Shared) (H : Hp), QTs (cxG X scope cl fp (tgs ++ ns) s H) ifs tt)
    (he : ∀ (fp : List Addr) (s : Shared) (H : Hp), QE (cxG X scope cl fp (tgs ++ ns) s H) elt te)
    (hclos : closureFor scope X.env = pure cl) (hsub : ∀ x c, cl.lookup x = some c → X.env.cells.lookup x = some c)
    (hhas : ∀ x, ((relabel scope X.env).names.lookup x = some .cell ∨ (relabel scope X.env).names.lookup x = some .free) → ∃ c, cl.lookup x = some c)
    (hjs : js.map (fun j => X.N[j]?) = ns.map some) (hin : ∀ y ∈ ns, (relabel scope X.env).names.lookup y = some .cell ∨ (relabel scope X.env).names.lookup y = some .free)
    (hout : ∀ y ∈ ns, X.env.kindOf y = some .cell ∨ X.env.kindOf y = some .free) (nd : js.Nodup)
    (hcell : ∀ y ∈ scope.names, y.2 ≠ .cell := by decide +kernel) (hkind : scope.kind = .function := by rfl)
    (hnames : ∀ y ∈ scope.names, y.2 = .local → scope.names.lookup y.1 = some .local := by decide +kernel)
    (hs : ∀ z, foldedSetIterable iter X.env z = pure z := by intro _; rfl) :
    QE X (.ListComp elt [⟨tgt, iter, ifs, 0⟩] scope pos) (eComp k js ti g tt te) := by
  have mg := (hg [] X.s₀ fun _ => none).mono
  have ag := (hg [] X.s₀ fun _ => none).agree
  have mt := (ht [] X.s₀ fun _ => none).mono
  have me := (he [] X.s₀ fun _ => none).mono
  refine ⟨fun ρ Q Q' w h => hi.mono _ _ _ (fun ds ogs h => compGo_mono mg mt me ds [] Q Q' w h) h, fun H₀ F => ?_⟩
  obtain ⟨wi, hwi, wiq⟩ := hi.run H₀ F
  refine PE_imp (pe_compG (tgs := tgs) (ns := ns) (js := js) (g := liftG X.K k g) (tt := fun σ H Q => ∃ H₀ F, liftT X.K H₀ F tt σ H Q) (te := fun σ H Q => ∃ H₀ F, lift X.K H₀ F te σ H Q) hc hwi (fun fp s H => (hg fp s H).pg) (fun fp s H => (ht fp s H).pt) (fun fp s H => (he fp s H).pe) hclos hsub hhas hjs hin hout hcell hkind hnames hs) fun σ H Q ⟨ρ, fr, h⟩ => ?_
  subst hk
  refine wiq σ H ρ _ fr (hi.mono _ _ _ (fun ds ogs q J H1 S1 gd ok => ?_) h)
  intro D hD
  have fr1 := fr.mono S1
  refine ⟨fun i m acc H2 => m = ds.length - i ∧ i ≤ ds.length ∧ Same H1 H2 ∧ ∃ accD, Reps X.K (fun a => MM F ρ a ∨ a = D) H2 acc accD ∧
    compGo (List.replicate tgs.length .un ++ pickP js ρ) g tt te (ds.drop i) accD (fun r => ∀ x H', Same H H' → RRep X.K (MM F ρ) (Own ρ) H x r H' → Q x H'),
    ⟨ds.length, by simp, Nat.zero_le _, Same.new' hD, [], .nil, by simpa using q⟩, ?_⟩
  rintro i m acc H2 ⟨rfl, hil, S2, accD, ra, q⟩ hDl
  have G2 : Gen X.K (MM F ρ) (fun a => MM F ρ a ∨ a = D) H1 H2 := (Gen.fresh hD).trans (.mono S2)
  have oks := ok i H2 (fun a => MM F ρ a ∨ a = D) (fun b o e => S2 _ _ (prot_some e)) G2 fun p hp => by
    obtain ⟨_, _, _, ow⟩ := fr1.at_own (gd p hp)
    exact ow.gen G2 fun o e => S2 _ _ e
  by_cases hlt : i < ds.length
  · have hd : ds[i]? = some ds[i] := by simp [hlt]
    rw [List.drop_eq_getElem_cons hlt] at q
    obtain ⟨go, yld⟩ := oks.1 _ hd
    refine .inr ⟨go, fun y H3 hy old lo => ?_⟩
    obtain ⟨S3, ry⟩ := yld y H3 hy
    have hD3 := S3 _ _ hDl
    obtain ⟨P, F', fr', iff, iffF⟩ := fr1.block (js := js) (old := old) (S2.trans S3) hD (by rw [hD3]; simp) nd lo
    refine ⟨_, P, F', _, fr', ry.weak fun a z => (iff a).mp z, mg _ _ _ _ (fun ρ1 q1 σ1 f1 a1 => ?_) (ag _ _ _ q)⟩
    obtain ⟨q1, l1, b1⟩ := q1
    have up : ∀ a, MM F ρ a ∨ a = D → MM F' ρ1 a := fun a z => by
      rcases (iff a).mpr z with z | ⟨d, z⟩
      · exact .inl z
      · refine .inr ⟨d, ?_⟩
        obtain ⟨j, e⟩ := List.mem_iff_getElem?.mp z
        have hj : tgs.length ≤ j := by
          by_cases hj : j < tgs.length
          · rw [List.getElem?_append_left (by simpa using hj), List.getElem?_replicate, if_pos hj] at e
            cases e
          · omega
        rw [← b1 j hj] at e
        exact List.mem_of_getElem? e
    have hlen : σ1.length = tgs.length + (pick js σ).length := by
      have := f1.len
      rw [l1] at this
      simp [pick, pickP] at this ⊢
      omega
    refine ⟨⟨σ1.take tgs.length, by rw [List.length_take]; omega, split_at lo hlen a1⟩, P, F', ρ1, f1, mt _ _ _ (fun b q5 H5 S5 => ?_) q1⟩
    have S25 := (S2.trans S3).trans S5
    cases b with
    | true =>
      simp only [if_true] at q5
      refine iteT ⟨P, F', ρ1, f1.mono S5, me _ _ _ (fun r q6 x H6 S6 rx => ?_) q5⟩
      have hD6 := S6 _ _ (S5 _ _ hD3)
      obtain ⟨⟨rf, rl⟩, q6⟩ := q6
      have rep := (rx.rep (fun a z => (f1.mono S5).dom z) rf).weak up
      refine ⟨hD6, by rw [ra.length]; exact lim_lt rl, ds.length - (i + 1), by omega, rfl, hlt, fun b o e => ?_, _, ?_, q6⟩
      · rw [upd_ne (ne_of_none e hD)]
        exact S6 _ _ (S25 _ _ e)
      · have G6 : Gen X.K (fun a => MM F ρ a ∨ a = D) (fun a => MM F ρ a ∨ a = D) H6 (upd H6 D (.lst (acc ++ [x]))) := Gen.write (.inr rfl) (by rw [hD6]; trivial)
        exact ((ra.mono ((S3.trans S5).trans S6)).append (.cons rep .nil)).gen G6
    | false =>
      simp only [Bool.false_eq_true, if_false] at q5
      exact iteF ⟨S5 _ _ hD3, ds.length - (i + 1), by omega, rfl, hlt, S25, accD, ra.mono (S3.trans S5), q5⟩
  · have e : i = ds.length := by omega
    subst e
    rw [List.drop_length] at q
    exact .inl ⟨oks.2 (Nat.le_refl _), q (.ref D) H2 (S1.trans S2) ⟨D, rfl, S1.free hD, acc, hDl, ra⟩⟩
end
def CallD (X : Cx) (f : Value) (p : List Dv → (R → Prop) → Prop) : Prop :=
  (∀ ds (Q Q' : R → Prop), (∀ r, Q r → Q' r) → p ds Q → p ds Q') ∧ ∃ r : List V → Hp → VK → Prop, CallR X f r ∧ ∀ (M : Addr → Prop) (O : Addr → Dv → Prop) (H : Hp) (xs : List V) (ds : List Dv) (Q : VK), CReps X.K M H xs ds →
    p ds (fun rr => ∀ z H', Same H H' → RRep X.K M O H z rr H' → Q z H') → r xs H Q
def eCB (p : List Dv → (R → Prop) → Prop) (ts : TAp) : TEp := fun ρ Q => ts ρ fun rs => p (rs.map R.d) Q
section
variable {X : Cx} {pos p : Pos} {e : Expr} {es : List Expr} {ts : TAp} {x : Str} {id T : String} {pp : List Dv → (R → Prop) → Prop}
theorem eCB_run {r : List V → Hp → VK → Prop} (ha : QA X es ts) (mo : ∀ ds (Q Q' : R → Prop), (∀ r, Q r → Q' r) → pp ds Q → pp ds Q')
    (hr : ∀ (M : Addr → Prop) (O : Addr → Dv → Prop) (H : Hp) (xs : List V) (ds : List Dv) (Q : VK), CReps X.K M H xs ds → pp ds (fun rr => ∀ z H', Same H H' → RRep X.K M O H z rr H' → Q z H') → r xs H Q)
    (H₀ : Hp) (F : Addr → Prop) (σ : St) (H : Hp) (Q : VK) (h : lift X.K H₀ F (eCB pp ts) σ H Q) : tCB r (liftA X.K H₀ F ts) σ H Q := by
  obtain ⟨ρ, fr, h⟩ := h
  refine ha.step fr h fun rs xs H1 q S1 r1 => ?_
  exact hr (MM F ρ) (Own ρ) H1 xs _ Q r1.c (mo _ _ _ (fun rr k z H' S rz => k z H' (S1.trans S) (rz.ahead S1)) q)
theorem q_callB (hc : CallD X (.builtin id) pp) (hg : Gl X x) (hm : X.mg x = none) (hv : bootBuiltins x = some (.builtin id)) (ha : QA X (e :: es) ts) (hn : x ≠ "__name__" := by decide) (hdb : (x == ("__debug__" : Str)) = false := by decide)
    (he : starEach (e :: es) X.env = (false, eval e X.env) :: starEach es X.env := by rfl) (hpl : (backTo pos (starEach es X.env)).any (·.1) = false := by rfl) : QE X (.Call (.Name x p) (e :: es) [] pos) (eCB pp ts) := by
  obtain ⟨mo, r, hR, hr⟩ := hc
  exact ⟨fun ρ Q Q' w q => ha.mono _ _ _ (fun rs q => mo _ _ _ w q) q, fun H₀ F => PE_imp (pe_callB hR hg hm hv (ha.run H₀ F) hn hdb he hpl) (eCB_run ha mo hr H₀ F)⟩
theorem q_callTy (hc : CallD X (.type T) pp) (hg : Gl X x) (hm : X.mg x = none) (hv : bootBuiltins x = some (.type T)) (ha : QA X (e :: es) ts) (hn : x ≠ "__name__" := by decide) (hdb : (x == ("__debug__" : Str)) = false := by decide)
    (he : starEach (e :: es) X.env = (false, eval e X.env) :: starEach es X.env := by rfl) (hpl : (backTo pos (starEach es X.env)).any (·.1) = false := by rfl) : QE X (.Call (.Name x p) (e :: es) [] pos) (eCB pp ts) := by
  obtain ⟨mo, r, hR, hr⟩ := hc
  exact ⟨fun ρ Q Q' w q => ha.mono _ _ _ (fun rs q => mo _ _ _ w q) q, fun H₀ F => PE_imp (pe_callTy hR hg hm hv (ha.run H₀ F) hn hdb he hpl) (eCB_run ha mo hr H₀ F)⟩
def pLen : List Dv → (R → Prop) → Prop
  | [.lst xs], Q => Q (.v (.int xs.length))
  | [.tup xs], Q => Q (.v (.int xs.length))
  | [.scr ns], Q => Q (.v (.int ns.length))
  | [.str y], Q => y.length ≤ LIM ∧ Q (.v (.int y.length))
  | [.dik kvs], Q => Q (.v (.int kvs.length))
  | _, _ => False
theorem RepK.length {K : PySem.W.Frag} {M : Addr → Prop} {H : Hp} : ∀ {xs : List (Key × V)} {ds : List (Key × Dv)}, RepK K M H xs ds → xs.length = ds.length
  | _, _, .nil => rfl
  | _, _, .cons _ r => by rw [List.length_cons, List.length_cons, r.length]
theorem cd_len : CallD X (.builtin "len") pLen := by
  refine ⟨fun ds Q Q' w h => ?_, _, call_len_seq.or (call_len_str.or call_lenD), fun M O H xs ds Q c h => ?_⟩
  · unfold pLen at *
    split at h <;> first | exact w _ h | exact ⟨h.1, w _ h.2⟩ | exact h
  · unfold pLen at h
    split at h
    · obtain ⟨x, rfl, cx⟩ := creps1 c
      obtain ⟨a, ys, rfl, ea, ra⟩ := cx.lst
      refine .inl ⟨a, ys, rfl, .inl (SqL.of ea), ?_⟩
      rw [ra.length]
      exact h _ H (Same.refl _) (Rep.int _)
    · obtain ⟨x, rfl, cx⟩ := creps1 c
      obtain ⟨a, ys, rfl, ea, ra⟩ := cx.tup
      refine .inl ⟨a, ys, rfl, .inr (SqT.of ea), ?_⟩
      rw [ra.length]
      exact h _ H (Same.refl _) (Rep.int _)
    · obtain ⟨x, rfl, cx⟩ := creps1 c
      obtain ⟨a, rfl, ea⟩ := cx.scr
      refine .inl ⟨a, _, rfl, .inl ea.sq, ?_⟩
      rw [List.length_map]
      exact h _ H (Same.refl _) (Rep.int _)
    · obtain ⟨x, rfl, cx⟩ := creps1 c
      obtain rfl := cx.str
      exact .inr (.inl ⟨_, rfl, lim_line h.1, h.2 _ H (Same.refl _) (Rep.int _)⟩)
    · obtain ⟨x, rfl, cx⟩ := creps1 c
      obtain ⟨a, ys, rfl, ea, ra⟩ := cx.dik
      refine .inr (.inr ⟨a, ys, rfl, ea, ?_⟩)
      rw [ra.length]
      exact h _ H (Same.refl _) (Rep.int _)
    · exact h.elim
def pAbs : List Dv → (R → Prop) → Prop
  | [.int i], Q => Q (.v (.int (if i < 0 then -i else i)))
  | _, _ => False
def pMin2 : List Dv → (R → Prop) → Prop
  | [.int i, .int j], Q => Q (.v (.int (if j < i then j else i)))
  | _, _ => False
def pMax2 : List Dv → (R → Prop) → Prop
  | [.int i, .int j], Q => Q (.v (.int (if j > i then j else i)))
  | _, _ => False
theorem cd_min2 (hc : X.calm = true) : CallD X (.builtin "min") pMin2 := by
  refine ⟨fun ds Q Q' w h => ?_, _, call_min2 hc, fun M O H xs ds Q c h => ?_⟩
  · unfold pMin2 at *
    split at h <;> first | exact w _ h | exact h
  · unfold pMin2 at h
    split at h
    · obtain ⟨x, y, rfl, cx, cy⟩ := creps2 c
      obtain rfl := cx.int
      obtain rfl := cy.int
      exact ⟨_, _, rfl, h _ H (Same.refl _) (Rep.int _)⟩
    · exact h.elim
def pSum : List Dv → (R → Prop) → Prop
  | [.lst ds], Q => ∃ ns : List Int, ds = ns.map .int ∧ Q (.v (.int ns.sum))
  | _, _ => False
def pAll : List Dv → (R → Prop) → Prop
  | [.lst ds], Q => ∃ bs : List Bool, ds = bs.map .bl ∧ Q (.v (.bl (bs.all _root_.id)))
  | _, _ => False
def pList : List Dv → (R → Prop) → Prop
  | [.lst ds], Q => Q (.nw (.lst ds))
  | [.tup ds], Q => Q (.nw (.lst ds))
  | [.scr ns], Q => Q (.nw (.lst (ns.map .int)))
  | _, _ => False
theorem cd_list : CallD X (.type "list") pList := by
  refine ⟨fun ds Q Q' w h => ?_, _, call_list_of, fun M O H xs ds Q c h => ?_⟩
  · unfold pList at *
    split at h <;> first | exact w _ h | exact h
  · unfold pList at h
    split at h
    · obtain ⟨x, rfl, cx⟩ := creps1 c
      obtain ⟨a, ys, rfl, ea, ra⟩ := cx.lst
      exact ⟨a, ys, rfl, .inl (SqL.of ea), fun l hl => h _ _ (Same.new' hl) (nw_lst hl ra)⟩
    · obtain ⟨x, rfl, cx⟩ := creps1 c
      obtain ⟨a, ys, rfl, ea, ra⟩ := cx.tup
      exact ⟨a, ys, rfl, .inr (SqT.of ea), fun l hl => h _ _ (Same.new' hl) (nw_lst hl ra)⟩
    · obtain ⟨x, rfl, cx⟩ := creps1 c
      obtain ⟨a, rfl, ea⟩ := cx.scr
      exact ⟨a, _, rfl, .inl ea.sq, fun l hl => h _ _ (Same.new' hl) (nw_lst hl (Reps.ints _))⟩
    · exact h.elim
def pTuple : List Dv → (R → Prop) → Prop
  | [.lst ds], Q => Q (.v (.tup ds))
  | [.tup ds], Q => Q (.v (.tup ds))
  | _, _ => False
def tyD : Dv → String
  | .non => "NoneType"
  | .bl _ => "bool"
  | .int _ => "int"
  | .str _ => "str"
  | .tup _ => "tuple"
  | .lst _ => "list"
  | .scr _ => "list"
  | .dik _ => "dict"
  | .dit _ => "dict"
  | .obj _ _ => ""
def isiD (T : String) (d : Dv) : Bool := tyD d == T || (T == "int" && tyD d == "bool")
def tyOk : Dv → Bool
  | .obj _ _ => false
  | .scr _ => false
  | _ => true
def eIsi (T : String) (te : TEp) : TEp := fun ρ Q => te ρ fun r => tyOk r.d = true ∧ Q (.v (.bl (isiD T r.d)))
theorem kit_all {K : PySem.W.Frag} {T : String} (hT : T = "int" ∨ T = "bool" ∨ T = "tuple" ∨ T = "list" ∨ T = "str") (d : Dv) (ho : tyOk d = true) : PySem.W.kitOne K (.type (tyD d)) (.type T) = some (isiD T d) := by
  rcases hT with rfl | rfl | rfl | rfl | rfl <;> cases d <;> first | (simp [tyOk] at ho; done) | with_unfolding_all rfl
theorem CRep.ty {K : PySem.W.Frag} {M : Addr → Prop} {H : Hp} {x : V} {d : Dv} (c : CRep K M H x d) (ho : tyOk d = true) : TyOf K H x (.type (tyD d)) := by
  cases d with
  | non => obtain rfl := c.non; exact .non
  | bl b => obtain rfl := c.bl; exact .bl b
  | int i => obtain rfl := c.int; exact .int i
  | str y => obtain rfl := c.str; exact .str y
  | tup ds => obtain ⟨a, xs, rfl, e, _⟩ := c.tup; exact .tup e
  | lst ds => obtain ⟨a, xs, rfl, e, _⟩ := c.lst; exact .lst e
  | dik ds => obtain ⟨a, xs, rfl, e, _⟩ := c.dik; exact .dK e
  | dit ds => obtain ⟨a, xs, rfl, e, _⟩ := c.dit; exact .dT e
  | obj C fs => simp [tyOk] at ho
  | scr ns => simp [tyOk] at ho
theorem q_isi {te : TEp} {p2 : Pos} (hT : T = "int" ∨ T = "bool" ∨ T = "tuple" ∨ T = "list" ∨ T = "str") (hg : Gl X "isinstance") (hm : X.mg "isinstance" = none) (ha : QE X e te) (hty : PE X (.Name x p2) (tC (.ty T)))
    (he : starEach [e, .Name x p2] X.env = (false, eval e X.env) :: starEach [.Name x p2] X.env := by rfl) (he2 : starEach [Expr.Name x p2] X.env = (false, eval (.Name x p2) X.env) :: starEach [] X.env := by rfl) (hpl : (backTo pos (starEach [.Name x p2] X.env)).any (·.1) = false := by rfl) :
    QE X (.Call (.Name "isinstance" p) [e, .Name x p2] [] pos) (eIsi T te) := by
  refine ⟨fun ρ Q Q' w q => ha.mono _ _ _ (fun r q => ⟨q.1, w _ q.2⟩) q, fun H₀ F => PE_imp (pe_callB call_isi hg hm boot_isinstance (pa_cons (ha.run H₀ F) (pa_cons hty pa_nil he2) he) (by decide) (by decide) he hpl) fun σ H Q ⟨ρ, fr, h⟩ => ?_⟩
  refine ha.step fr h fun r x H1 q S1 r1 => ?_
  exact ⟨x, T, _, _, rfl, r1.c.ty q.1, kit_all hT _ q.1, q.2 _ H1 S1 (Rep.bl _)⟩
end
end Z
namespace Z
open PySem PySem.Spec PyProof.Rows L2
def kD : Key → Dv
  | .inl i => .int i
  | .inr x => .str x
def pIx : Dv → Dv → (R → Prop) → Prop
  | .lst xs, .int i, Q => match atI xs i with
    | some d => Q (.v d)
    | none => False
  | .tup xs, .int i, Q => match atI xs i with
    | some d => Q (.v d)
    | none => False
  | .scr ns, .int i, Q => match atI ns i with
    | some n => Q (.v (.int n))
    | none => False
  | .str z, .int i, Q => z.length ≤ LIM ∧ match atI z.cps.toList i with
    | some c => Q (.v (.str ⟨#[c]⟩))
    | none => False
  | .dik kvs, .int i, Q => match kvs.find? (fun kv => decide (kv.1 = Sum.inl i)) with
    | some kv => Q (.v kv.2)
    | none => False
  | .dik kvs, .str x, Q => match kvs.find? (fun kv => decide (kv.1 = Sum.inr x)) with
    | some kv => Q (.v kv.2)
    | none => False
  | .dit kvs, .tup ds, Q => ∃ k : List Key, ds = k.map kD ∧ match kvs.find? (fun kv => decide (kv.1 = k)) with
    | some kv => Q (.v kv.2)
    | none => False
  | _, _, _ => False
section
variable {X : Cx} {a b e : Expr} {ta tb te : TEp} {pos : Pos}
theorem Reps.at {K : PySem.W.Frag} {M : Addr → Prop} {H : Hp} {xs : List V} {ds : List Dv} {i : Int} {d : Dv} (r : Reps K M H xs ds) (h : atI ds i = some d) : ∃ x, atI xs i = some x ∧ Rep K M H x d := by
  unfold atI at *
  rw [r.length]
  cases e : ixN ds.length i with
  | none => rw [e] at h; cases h
  | some j =>
    rw [e] at h
    obtain ⟨x, hx, rx⟩ := r.get (i := j) h
    exact ⟨x, hx, rx⟩
theorem atI_map {α β : Type} {f : α → β} {l : List α} {i : Int} : atI (l.map f) i = (atI l i).map f := by
  unfold atI
  rw [List.length_map]
  cases ixN l.length i with
  | none => rfl
  | some j => simp
theorem RepK.val {K : PySem.W.Frag} {M : Addr → Prop} {H : Hp} {k : Key} : ∀ {xs : List (Key × V)} {ds : List (Key × Dv)}, RepK K M H xs ds → (∀ kv, ds.find? (fun kv => decide (kv.1 = k)) = some kv → ∃ x, valV xs k = some x ∧ Rep K M H x kv.2) ∧ (ds.find? (fun kv => decide (kv.1 = k)) = none → valV xs k = none)
  | _, _, .nil => ⟨fun _ h => by simp at h, fun _ => rfl⟩
  | _, _, .cons (k := k') (x := x) (d := d) (xs := xs) (ds := ds) a r => by
    by_cases e : k' = k
    · refine ⟨fun kv h => ?_, fun h => ?_⟩
      · rw [List.find?_cons_of_pos (by simpa using e)] at h
        cases h
        exact ⟨x, valV_pos e, a⟩
      · rw [List.find?_cons_of_pos (by simpa using e)] at h
        cases h
    · refine ⟨fun kv h => ?_, fun h => ?_⟩
      · rw [List.find?_cons_of_neg (by simpa using e)] at h
        rw [valV_neg e]
        exact (RepK.val r).1 kv h
      · rw [List.find?_cons_of_neg (by simpa using e)] at h
        rw [valV_neg e]
        exact (RepK.val r).2 h
theorem RepT.val {K : PySem.W.Frag} {M : Addr → Prop} {H : Hp} {k : List Key} : ∀ {xs : List (List Key × V)} {ds : List (List Key × Dv)}, RepT K M H xs ds → (∀ kv, ds.find? (fun kv => decide (kv.1 = k)) = some kv → ∃ x, valV xs k = some x ∧ Rep K M H x kv.2) ∧ (ds.find? (fun kv => decide (kv.1 = k)) = none → valV xs k = none)
  | _, _, .nil => ⟨fun _ h => by simp at h, fun _ => rfl⟩
  | _, _, .cons (k := k') (x := x) (d := d) (xs := xs) (ds := ds) a r => by
    by_cases e : k' = k
    · refine ⟨fun kv h => ?_, fun h => ?_⟩
      · rw [List.find?_cons_of_pos (by simpa using e)] at h
        cases h
        exact ⟨x, valV_pos e, a⟩
      · rw [List.find?_cons_of_pos (by simpa using e)] at h
        cases h
    · refine ⟨fun kv h => ?_, fun h => ?_⟩
      · rw [List.find?_cons_of_neg (by simpa using e)] at h
        rw [valV_neg e]
        exact (RepT.val r).1 kv h
      · rw [List.find?_cons_of_neg (by simpa using e)] at h
        rw [valV_neg e]
        exact (RepT.val r).2 h
theorem Reps.keys {K : PySem.W.Frag} {M : Addr → Prop} {H : Hp} : ∀ {xs : List V} {k : List Key}, Reps K M H xs (k.map kD) → xs = k.map kV
  | _, [], .nil => rfl
  | _, .inl i :: r, .cons a t => by cases a; rw [Reps.keys t]; rfl
  | _, .inr x :: r, .cons a t => by cases a; rw [Reps.keys t]; rfl
def rIxD : R2 := fun x y H Q => ∃ a v, x = .ref a ∧ DGet H a y (some v) ∧ Q v H
theorem ix_dict (hu : X.A.units + 1 < cLine) : IxR X rIxD := by
  intro value slice pins s σ H x y v u Q I rx ry h hs
  obtain ⟨a, z, rfl, g, q⟩ := h
  cases rx
  have hT := dict_typeIs I g
  unfold subscriptTail
  refine wpAny_bind ?_
  rw [getitemInPython_of_ne hT.not_modules]
  refine wpAny_bind (wpAny_specialOf hT PySem.F.slot_dict_getitem.lookup ?_)
  have fin : wpAny (model X.prog X.w) X.A (subscripted slice false (.ref a) u) (fun r s₃ => wpAny (model X.prog X.w) X.A (letTemporaryGo value (.ref a) r >>= fun _ => pure r) (EP X pins σ Q) X.xe s₃) X.xe s := by
    rw [hs]
    exact wpAny_operating (wpAny_mono (d_getItem hu I g ry fun w' s' I' rw' => show EP X pins σ Q w' s' from ⟨z, H, I', rw', q⟩) (fun r s₃ h₃ => wpAny_bind (wpAny_letTemporaryGo (wpAny_pure h₃))) fun _ _ x => x)
  first
    | exact wpAny_pure (wpAny_bind fin)
    | exact wpAny_bind (wpAny_pure (wpAny_bind fin))
    | exact wpAny_bind fin
theorem pIx_mono : ∀ dx dy (Q Q' : R → Prop), (∀ r, Q r → Q' r) → pIx dx dy Q → pIx dx dy Q' := by
  intro dx dy Q Q' w h
  unfold pIx at *
  split at h
  · split at h
    · exact w _ h
    · exact h
  · split at h
    · exact w _ h
    · exact h
  · split at h
    · exact w _ h
    · exact h
  · refine ⟨h.1, ?_⟩
    have h2 := h.2
    split at h2
    · exact w _ h2
    · exact h2
  · split at h
    · exact w _ h
    · exact h
  · split at h
    · exact w _ h
    · exact h
  · obtain ⟨k, e, h⟩ := h
    refine ⟨k, e, ?_⟩
    split at h
    · exact w _ h
    · exact h
  · exact h
theorem q_ix (hu : X.A.units + 1 < cLine) (ha : QE X a ta) (hb : QE X b tb) (hs : PlainIx b := by intro _ _; rfl) : QE X (.Subscript a b pos) (eOp pIx ta tb) := by
  refine ⟨eOp_mono ha hb pIx_mono, fun H₀ F => PE_imp (pe_ix (ix_seq.or (ix_dict hu)) (ha.run H₀ F) (hb.run H₀ F) hs) (eOp_run ha hb (fun M O H x y dx dy Q cx cy h => ?_) pIx_mono H₀ F)⟩
  unfold pIx at h
  split at h
  · rename_i xs i
    split at h
    · rename_i d hd
      obtain ⟨p, vs, rfl, ea, ra⟩ := cx.lst
      obtain rfl := cy.int
      obtain ⟨z, hz, rz⟩ := ra.at hd
      exact .inl (.inl ⟨p, vs, i, z, rfl, rfl, SqL.of ea, hz, h _ H (Same.refl _) rz⟩)
    · exact h.elim
  · rename_i xs i
    split at h
    · rename_i d hd
      obtain ⟨p, vs, rfl, ea, ra⟩ := cx.tup
      obtain rfl := cy.int
      obtain ⟨z, hz, rz⟩ := ra.at hd
      exact .inl (.inr (.inl ⟨p, vs, i, z, rfl, rfl, SqT.of ea, hz, h _ H (Same.refl _) rz⟩))
    · exact h.elim
  · rename_i ns i
    split at h
    · rename_i n hn
      obtain ⟨p, rfl, ea⟩ := cx.scr
      obtain rfl := cy.int
      refine .inl (.inl ⟨p, _, i, .int n, rfl, rfl, ea.sq, ?_, h _ H (Same.refl _) (Rep.int _)⟩)
      rw [atI_map, hn]
      rfl
    · exact h.elim
  · rename_i z i
    obtain ⟨hl, h⟩ := h
    split at h
    · rename_i c hc
      obtain rfl := cx.str
      obtain rfl := cy.int
      exact .inl (.inr (.inr ⟨z, i, c, rfl, rfl, lim_line hl, hc, h _ H (Same.refl _) (Rep.str _)⟩))
    · exact h.elim
  · split at h
    · rename_i kv hk
      obtain ⟨p, kvs, rfl, ea, ra⟩ := cx.dik
      obtain rfl := cy.int
      obtain ⟨z, hz, rz⟩ := ra.val.1 kv hk
      exact .inr ⟨p, z, rfl, by rw [← hz]; exact DGet.k (k := Sum.inl _) ea, h _ H (Same.refl _) rz⟩
    · exact h.elim
  · split at h
    · rename_i kv hk
      obtain ⟨p, kvs, rfl, ea, ra⟩ := cx.dik
      obtain rfl := cy.str
      obtain ⟨z, hz, rz⟩ := ra.val.1 kv hk
      exact .inr ⟨p, z, rfl, by rw [← hz]; exact DGet.k (k := Sum.inr _) ea, h _ H (Same.refl _) rz⟩
    · exact h.elim
  · obtain ⟨k, rfl, h⟩ := h
    split at h
    · rename_i kv hk
      obtain ⟨p, kvs, rfl, ea, ra⟩ := cx.dit
      obtain ⟨b, ys, rfl, eb, rb⟩ := cy.tup
      obtain rfl := rb.keys
      obtain ⟨z, hz, rz⟩ := ra.val.1 kv hk
      exact .inr ⟨p, z, rfl, by rw [← hz]; exact DGet.t ea eb, h _ H (Same.refl _) rz⟩
    · exact h.elim
  · exact h.elim
abbrev TOp := List Sl → (Option Int → Prop) → Prop
structure QO (X : Cx) (e : Option Expr) (t : TOp) : Prop where
  mono : ∀ (ρ : List Sl) (Q Q' : Option Int → Prop), (∀ r, Q r → Q' r) → t ρ Q → t ρ Q'
  run : ∀ (H₀ : Hp) (F : Addr → Prop), PO X e (fun σ H Q => ∃ ρ, Fr X.K H₀ F σ H ρ ∧ t ρ fun o => ∀ H', Same H H' → Q o H')
def eNoPart : TOp := fun _ Q => Q none
def ePart (te : TEp) : TOp := fun ρ Q => te ρ fun r => match r.d with
  | .int i => Q (some i)
  | _ => False
theorem PO_imp {e : Option Expr} {t t' : TO} (h : PO X e t) (w : ∀ σ H Q, t' σ H Q → t σ H Q) : PO X e t' := fun pins s σ H Q I q => h pins s σ H Q I (w σ H Q q)
theorem qo_none : QO X none eNoPart := ⟨fun _ _ _ w q => w _ q, fun H₀ F => PO_imp po_none fun σ H Q ⟨ρ, fr, q⟩ => q H (Same.refl _)⟩
theorem qo_some (h : QE X e te) : QO X (some e) (ePart te) := by
  refine ⟨fun ρ Q Q' w q => h.mono _ _ _ (fun r q => ?_) q, fun H₀ F => PO_imp (po_some (h.run H₀ F)) fun σ H Q ⟨ρ, fr, q⟩ => ?_⟩
  · split at q
    · exact w _ q
    · exact q
  · refine h.step fr q fun r x H1 q S1 r1 => ?_
    split at q
    · rename_i i e
      have c := r1.c
      rw [e] at c
      exact ⟨i, c.int, q H1 S1⟩
    · exact q.elim
def cut {α : Type} (xs : List α) (lo hi : Option Int) : List α := (xs.drop (HT.sIx xs.length 0 lo)).take (HT.sIx xs.length xs.length hi - HT.sIx xs.length 0 lo)
def pSl : Dv → Option Int → Option Int → (R → Prop) → Prop
  | .lst xs, lo, hi, Q => Q (.nw (.lst (cut xs lo hi)))
  | .scr ns, lo, hi, Q => Q (.nw (.lst ((cut ns lo hi).map .int)))
  | .tup xs, lo, hi, Q => ¬ (HT.sIx xs.length 0 lo = 0 ∧ HT.sIx xs.length xs.length hi = xs.length) ∧ Q (.v (.tup (cut xs lo hi)))
  | _, _, _, _ => False
def eSl (te : TEp) (tl th : TOp) : TEp := fun ρ Q => te ρ fun r => tl ρ fun lo => th ρ fun hi => pSl r.d lo hi Q
theorem pSl_mono : ∀ d lo hi (Q Q' : R → Prop), (∀ r, Q r → Q' r) → pSl d lo hi Q → pSl d lo hi Q' := by
  intro d lo hi Q Q' w h
  unfold pSl at *
  split at h <;> first | exact w _ h | exact ⟨h.1, w _ h.2⟩ | exact h
theorem Reps.cut {K : PySem.W.Frag} {M : Addr → Prop} {H : Hp} {xs : List V} {ds : List Dv} (r : Reps K M H xs ds) (lo hi : Option Int) : Reps K M H (cutV xs lo hi) (Z.cut ds lo hi) := by
  unfold cutV Z.cut
  rw [r.length]
  exact (r.drop _).take _
theorem q_slice {lo hi : Option Expr} {tl th : TOp} {p2 : Pos} (he : QE X e te) (hl : QO X lo tl) (hh : QO X hi th) : QE X (.Subscript e (.Slice lo hi none p2) pos) (eSl te tl th) := by
  refine ⟨fun ρ Q Q' w q => he.mono _ _ _ (fun r q => hl.mono _ _ _ (fun l q => hh.mono _ _ _ (fun u q => pSl_mono _ _ _ _ _ w q) q) q) q, fun H₀ F => PE_imp (pe_slice (sl_list.or sl_tup) (he.run H₀ F) (hl.run H₀ F) (hh.run H₀ F)) fun σ H Q ⟨ρ, fr, q⟩ => ?_⟩
  refine he.step fr q fun r x H1 q S1 r1 => ?_
  refine ⟨ρ, fr.mono S1, hl.mono _ _ _ (fun l q H2 S2 => ?_) q⟩
  refine ⟨ρ, (fr.mono S1).mono S2, hh.mono _ _ _ (fun u q H3 S3 => ?_) q⟩
  have S13 := (S1.trans S2).trans S3
  have c := (r1.mono (S2.trans S3)).c
  generalize r.d = d at q c
  unfold pSl at q
  split at q
  · obtain ⟨a, xs, rfl, ea, ra⟩ := c.lst
    exact .inl ⟨a, xs, rfl, SqL.of ea, fun p hp => q _ _ (S13.trans (Same.new' hp)) ((nw_lst hp (ra.cut _ _)).ahead S13)⟩
  · obtain ⟨a, rfl, ea⟩ := c.scr
    refine .inl ⟨a, _, rfl, ea.sq, fun p hp => q _ _ (S13.trans (Same.new' hp)) (RRep.ahead (nw_lst hp ?_) S13)⟩
    have : ∀ (ns : List Int) l u, (Z.cut ns l u).map Dv.int = Z.cut (ns.map Dv.int) l u := fun ns l u => by
      unfold Z.cut
      simp [List.map_take, List.map_drop]
    rw [this]
    exact (Reps.ints _).cut _ _
  · obtain ⟨a, xs, rfl, ea, ra⟩ := c.tup
    exact .inr ⟨a, xs, rfl, SqT.of ea, by rw [ra.length]; exact q.1, fun p hp => q.2 _ _ (S13.trans (Same.new' hp)) (RRep.ahead (v_tup hp (ra.cut _ _)) S13)⟩
  · exact q.elim
end
end Z
namespace Z
open PySem PySem.Spec PyProof.Rows L2
section
variable {X : Cx} {a b c e : Expr} {ta tb tc te : TEp} {pos : Pos}
theorem q_chain {op op' : CmpOp} {f f' : Int → Int → Bool} (ho : OpR X (compareOp op) (rI0 fun i j => .bl (f i j))) (ho' : OpR X (compareOp op') (rI0 fun i j => .bl (f' i j))) (ha : QE X a ta) (hb : QE X b tb) (hc : QE X c tc)
    (hm : lastMarks [op, op'] [b, c] = false := by with_unfolding_all rfl) : QE X (.Compare a [op, op'] [b, c] pos) (eChain (pI2 f) (pI2 f') ta tb tc) := by
  refine ⟨fun ρ Q Q' w q => ha.mono _ _ _ (fun rx q => hb.mono _ _ _ (fun ry q => pI2_mono _ _ _ _ (fun z q => ?_) q) q) q, fun H₀ F => PE_imp (pe_chain ho ho' (ha.run H₀ F) (hb.run H₀ F) (hc.run H₀ F) hm) fun σ H Q ⟨ρ, fr, q⟩ => ?_⟩
  · split at q
    · split at q
      · rw [if_pos ‹_›]; exact hc.mono _ _ _ (fun w' q => pI2_mono _ _ _ _ w q) q
      · rw [if_neg ‹_›]; exact w _ q
    · exact q
  · refine ha.step fr q fun rx x H1 q1 S1 r1 => ?_
    refine hb.step (fr.mono S1) q1 fun ry y H2 q2 S2 r2 => ?_
    have cx := (r1.mono S2).c
    have cy := r2.c
    generalize rx.d = dx at q2 cx
    generalize ry.d = dy at q2 cy
    unfold pI2 at q2
    split at q2
    · rename_i Q2 i j
      obtain rfl := cx.int
      obtain rfl := cy.int
      refine ⟨_, _, rfl, rfl, f i j, rfl, ?_⟩
      have S12 := S1.trans S2
      replace q2 := (show (if f i j = true then tc ρ (fun w => pI2 f' (.int j) w.d (fun r => ∀ x H', Same H H' → RRep X.K (MM F ρ) (Z.Own ρ) H x r H' → Q x H')) else (∀ x H', Same H H' → RRep X.K (MM F ρ) (Z.Own ρ) H x (.v (.bl false)) H' → Q x H')) from q2)
      cases h : f i j with
      | true =>
        rw [h] at q2
        simp only [if_true] at q2
        refine iteT (hc.step ((fr.mono S1).mono S2) q2 fun rw' z H3 q3 S3 r3 => ?_)
        have cz := r3.c
        generalize rw'.d = dz at q3 cz
        cases dz with
        | int l =>
          obtain rfl := cz.int
          exact ⟨_, _, rfl, rfl, q3 _ H3 (S12.trans S3) (Rep.bl _)⟩
        | _ => exact (show False from q3).elim
      | false =>
        rw [h] at q2
        simp only [Bool.false_eq_true, if_false] at q2
        exact iteF (q2 _ H2 S12 (Rep.bl _))
    · exact q2.elim
def truD : Dv → Option Bool
  | .non => some false
  | .bl b => some b
  | .int i => some (i != 0)
  | .lst xs => some (!xs.isEmpty)
  | .tup xs => some (!xs.isEmpty)
  | .dik xs => some (!xs.isEmpty)
  | .scr xs => some (!xs.isEmpty)
  | _ => none
def eTru (te : TEp) : TTp := fun ρ Q => te ρ fun r => match truD r.d with
  | some k => Q k
  | none => False
theorem Reps.empty {K : PySem.W.Frag} {M : Addr → Prop} {H : Hp} {xs : List V} {ds : List Dv} (r : Reps K M H xs ds) : xs.isEmpty = ds.isEmpty := by cases r <;> rfl
theorem qt_tru (h : QE X e te) (he : ∀ whole, isTrue e X.env whole = (do let v ← whole; standAt e.pos; holding [v] (truthy v)) := by intro _; rfl) : QT X e (eTru te) := by
  refine ⟨fun ρ Q Q' w q => h.mono _ _ _ (fun r q => ?_) q, fun H₀ F => PT_imp (pt_truth (h.run H₀ F) he) fun σ H Q ⟨ρ, fr, q⟩ => ?_⟩
  · split at q
    · exact w _ q
    · exact q
  · refine h.step fr q fun r x H1 q S1 r1 => ?_
    have cx := r1.c
    generalize r.d = d at q cx
    split at q
    · rename_i k hk
      refine ⟨k, ?_, q H1 S1⟩
      cases d with
      | non => obtain rfl := cx.non; simp only [truD, Option.some.injEq] at hk; subst hk; rfl
      | bl b => obtain rfl := cx.bl; simp only [truD, Option.some.injEq] at hk; exact hk.symm
      | int i => obtain rfl := cx.int; simp only [truD, Option.some.injEq] at hk; exact hk.symm
      | lst ds =>
        obtain ⟨a, xs, rfl, ea, ra⟩ := cx.lst
        simp only [truD, Option.some.injEq] at hk
        exact .inl ⟨xs, SqL.of ea, by rw [ra.empty]; exact hk.symm⟩
      | tup ds =>
        obtain ⟨a, xs, rfl, ea, ra⟩ := cx.tup
        simp only [truD, Option.some.injEq] at hk
        exact .inr (.inl ⟨xs, SqT.of ea, by rw [ra.empty]; exact hk.symm⟩)
      | dik ds =>
        obtain ⟨a, xs, rfl, ea, ra⟩ := cx.dik
        simp only [truD, Option.some.injEq] at hk
        exact .inr (.inr ⟨xs, ea, by rw [← hk]; cases ra <;> rfl⟩)
      | scr ns =>
        obtain ⟨a, rfl, ea⟩ := cx.scr
        simp only [truD, Option.some.injEq] at hk
        exact .inl ⟨_, ea.sq, by rw [← hk]; cases ns <;> rfl⟩
      | _ => simp [truD] at hk
    · exact q.elim
end
abbrev Fn := List Dv → (R → Prop) → Prop
def low (K : PySem.W.Frag) (sp : Fn) : Sp := fun vs H Q _ => ∃ (F : Addr → Prop) (ds : List Dv), (∀ a, F a → H a ≠ none) ∧ Reps K F H vs ds ∧ sp ds (fun r => ∀ x H', Same H H' → RRep K F NoOwn H x r H' → Q x H')
structure MonoF (sp : Fn) : Prop where
  mo : ∀ ds (Q Q' : R → Prop), (∀ r, Q r → Q' r) → sp ds Q → sp ds Q'
structure Def (P : Program) (w : World) (K : PySem.W.Frag) (mg : Str → Option Value) (base : Heap) (k : Nat) (x : Str) (ps : List Str) (sp : Sp) : Prop where
  ex : ∃ f fd, mg x = some (.ref f) ∧ PySem.W.keepIn K (.ref f) = true ∧ Binds K fd ps [] ∧ FnOk P w K mg base CX0 k f fd ps sp
structure At (K : PySem.W.Frag) (mg : Str → Option Value) (x nm : Str) (st : Stmt) (ps : List Str) : Prop where
  ex : ∃ f fd, mg x = some (.ref f) ∧ Fun K nm nm st f fd ∧ Binds K fd ps []
theorem At.ok {P : Program} {w : World} {K : PySem.W.Frag} {mg : Str → Option Value} {base : Heap} {k : Nat} {x nm : Str} {st : Stmt} {ps N : List Str} {sp : Sp} (a : At K mg x nm st ps) (S : FnScope N ps (defScope st)) (len : ∀ vs H Q E, sp vs H Q E → vs.length = ps.length)
    (hbody : ∀ (f : Addr) (cdv : Value) (A : Around) (outer : List Env) (s : Shared) (H : Hp) (vs : List V) (Q : VK) (E : XK), Room k (A.deeper (envOfC nm (defScope st) s.heap.objs.size f cdv)) → sp vs H Q E →
      ∃ t, PSs (cxOf CX0 P w K mg base N nm (defScope st) f cdv A outer s H E).nox (defBody st) t ∧ t { nx := fun _ H' => Q .non H', rt := Q } (start N vs) H) : Def P w K mg base (k + 1) x ps sp := by
  obtain ⟨f, fd, hm, F, hb⟩ := a.ex
  exact ⟨f, fd, hm, F.kp, hb, F.ok S len (hbody f)⟩
def startP (N : List Str) (ds : List Dv) : List Sl := ds.map .v ++ List.replicate (N.length - ds.length) .un
theorem start_fr {K : PySem.W.Frag} {F : Addr → Prop} {H : Hp} {N : List Str} {vs : List V} {ds : List Dv} (hF : ∀ a, F a → H a ≠ none) (r : Reps K F H vs ds) : Fr K H F (start N vs) H (startP N ds) := by
  have no : ∀ {a : Addr} {d : Dv}, Sl.own a d ∈ startP N ds → False := fun {a d} h => by
    rcases List.mem_append.mp h with h | h
    · obtain ⟨z, _, e⟩ := List.mem_map.mp h
      cases e
    · cases List.eq_of_mem_replicate h
  have wk : ∀ a, MM F (startP N ds) a → F a := fun a h => by
    rcases h with h | ⟨d, h⟩
    · exact h
    · exact (no h).elim
  have hl := r.length
  refine ⟨by simp [L2.start, startP, hl], fun i s e => ?_, fun i j a d d' e _ => (no (List.mem_of_getElem? e)).elim, fun a d h => (no h).elim, Same.refl _, hF⟩
  unfold startP at e
  by_cases hi : i < ds.length
  · rw [List.getElem?_append_left (by simpa using hi), List.getElem?_map] at e
    cases q : ds[i]? with
    | none => rw [q] at e; cases e
    | some d =>
      rw [q] at e
      cases e
      obtain ⟨x, hx, rx⟩ := r.get q
      refine ⟨x, ?_, rx.weak wk⟩
      unfold L2.start
      rw [List.getElem?_append_left (by simpa using (List.getElem?_eq_some_iff.mp hx).1), List.getElem?_map, hx]
      rfl
  · rw [List.getElem?_append_right (by simpa using Nat.le_of_not_lt hi)] at e
    have := List.mem_of_getElem? e
    cases List.eq_of_mem_replicate this
    trivial
theorem body_ok {X : Cx} {sts : List Stmt} {t : TSp} {N : List Str} {H : Hp} {vs : List V} {Q : VK} {E : XK} {sp : Fn} (h : QSs X sts t) (hsp : ∀ ds Q, sp ds Q → t { nx := fun _ => Q (.v .non), rt := Q } (startP N ds)) (q : low X.K sp vs H Q E) :
    ∃ t', PSs X sts t' ∧ t' { nx := fun _ H' => Q .non H', rt := Q } (start N vs) H := by
  obtain ⟨F, ds, hF, r, q⟩ := q
  exact ⟨_, h.run H F, startP N ds, _, start_fr hF r, hsp ds _ q, fun ρ σ H' fr q => q .non H' fr.same Rep.non, fun _ _ _ _ z => z.elim, fun _ _ _ _ z => z.elim, fun rr x H' S rx q => q x H' S rx⟩
theorem low_len {K : PySem.W.Frag} {sp : Fn} {n : Nat} (h : ∀ ds Q, sp ds Q → ds.length = n) : ∀ vs H Q E, low K sp vs H Q E → vs.length = n := fun vs H Q E ⟨F, ds, _, r, q⟩ => by rw [r.length]; exact h _ _ q
theorem At.okP {P : Program} {w : World} {K : PySem.W.Frag} {mg : Str → Option Value} {base : Heap} {k : Nat} {x nm : Str} {st : Stmt} {ps N : List Str} {sp : Fn} {t : TSp} (a : At K mg x nm st ps) (S : FnScope N ps (defScope st))
    (hq : ∀ (f : Addr) (cdv : Value) (A : Around) (outer : List Env) (s : Shared) (H : Hp) (E : XK), Room k (A.deeper (envOfC nm (defScope st) s.heap.objs.size f cdv)) → QSs (cxOf CX0 P w K mg base N nm (defScope st) f cdv A outer s H E).nox (defBody st) t)
    (len : ∀ ds Q, sp ds Q → ds.length = ps.length) (hsp : ∀ ds Q, sp ds Q → t { nx := fun _ => Q (.v .non), rt := Q } (startP N ds)) : Def P w K mg base (k + 1) x ps (low K sp) :=
  a.ok S (low_len len) fun f cdv A outer s H vs Q E hr q => body_ok (hq f cdv A outer s H E hr) hsp q
def R.flat : R → Bool
  | .v d => flatD d
  | .nw d => flatO d
  | .ow _ _ => false
def back (rs : List R) (Q : R → Prop) : R → Prop := fun r => (rs.all R.free = true ∨ r.flat = true) ∧ Q r
def eCall (sp : Fn) (ts : TAp) : TEp := fun ρ Q => ts ρ fun rs => sp (rs.map R.d) (back rs Q)
section
variable {K : PySem.W.Frag} {H₀ H H1 : Hp} {F : Addr → Prop} {σ : St} {ρ : List Sl}
def lent (M : Addr → Prop) (rs : List R) : Addr → Prop := fun a => M a ∧ ∀ d, R.ow a d ∉ rs
theorem lent_reps (fr : Fr K H₀ F σ H ρ) {all : List R} : ∀ {xs : List V} {rs : List R}, (∀ r ∈ rs, r ∈ all) → Paired (fun x r => RRep K (MM F ρ) (Z.Own ρ) H x r H1) xs rs → Reps K (lent (MM F ρ) all) H1 xs (rs.map R.d)
  | _, _, _, .nil => .nil
  | _, r :: _, hs, .cons a t => by
    refine .cons ?_ (lent_reps fr (fun r hr => hs r (by simp [hr])) t)
    have wk : ∀ a, lent (MM F ρ) all a → MM F ρ a := fun a z => z.1
    cases r with
    | v d => exact Rep.weak wk a
    | nw d => exact (RRep.rep a (fun a m => fr.dom m) rfl).weak wk
    | ow b d =>
      obtain ⟨rfl, _, o⟩ := a
      exact (o.weak wk).rep fun z => z.2 d (hs _ (by simp))
theorem all_free {rs : List R} (h : rs.all R.free = true) (a : Addr) (d : Dv) : R.ow a d ∉ rs := fun z => by
  have := List.all_eq_true.mp h _ z
  simp [R.free] at this
theorem lent_back {rs : List R} {x : V} {r : R} {H' : Hp} {O : Addr → Dv → Prop} (fr : Fr K H₀ F σ H ρ) (S1 : Same H H1) (h : RRep K (lent (MM F ρ) rs) NoOwn H1 x r H') (f : rs.all R.free = true ∨ r.flat = true) : RRep K (MM F ρ) O H x r H' := by
  rcases f with f | f
  · have wk : ∀ a, MM F ρ a → lent (MM F ρ) rs a := fun a z => ⟨z, fun d => all_free f a d⟩
    cases r with
    | v d => exact Rep.weak wk h
    | ow a d => exact h.2.1.elim
    | nw d =>
      obtain ⟨a, e, n, o⟩ := h
      exact ⟨a, e, S1.free n, o.weak fun b z => z.elim (fun z => .inl (wk b z)) .inr⟩
  · cases r with
    | v d => exact Rep.flat f h
    | ow a d => exact h.2.1.elim
    | nw d =>
      obtain ⟨a, e, n, o⟩ := h
      exact ⟨a, e, S1.free n, o.flat f⟩
end
section
variable {X : Cx} {k : Nat} {x : Str} {ps : List Str} {sp : Fn} {e o : Expr} {es : List Expr} {ts : TAp} {to : TEp} {p pos apos : Pos} {C : Addr} {m : Str}
theorem call_low {rs : List R} {xs : List V} {H₀ H H1 : Hp} {F : Addr → Prop} {σ : St} {ρ : List Sl} {Q : VK} {E : XK} {Q' : R → Prop} (mo : MonoF sp) (fr : Fr X.K H₀ F σ H ρ) (S1 : Same H H1) (r1 : RReps X.K (MM F ρ) (Z.Own ρ) H xs rs H1) (q : sp (rs.map R.d) (back rs Q'))
    (w : ∀ r, Q' r → ∀ x H', Same H H' → RRep X.K (MM F ρ) (Z.Own ρ) H x r H' → Q x H') : low X.K sp xs H1 Q E := by
  refine ⟨lent (MM F ρ) rs, _, fun a z => (fr.mono S1).dom z.1, lent_reps fr (fun _ h => h) r1, mo.mo _ _ _ (fun r q x H' S rx => ?_) q⟩
  exact w r q.2 x H' (S1.trans S) (lent_back fr S1 rx q.1)
theorem back_mono {rs : List R} {Q Q' : R → Prop} (w : ∀ r, Q r → Q' r) : ∀ r, back rs Q r → back rs Q' r := fun r h => ⟨h.1, w r h.2⟩
theorem q_call (d : Def X.prog X.w X.K X.mg X.base k x ps (low X.K sp)) (mo : MonoF sp) (hr : Room k X.A) (ha : QA X (e :: es) ts) (hg : Gl X x := by rfl)
    (hdb : (x == ("__debug__" : Str)) = false := by decide) (he : starEach (e :: es) X.env = (false, eval e X.env) :: starEach es X.env := by rfl) (hpl : (backTo pos (starEach es X.env)).any (·.1) = false := by rfl) :
    QE X (.Call (.Name x p) (e :: es) [] pos) (eCall sp ts) := by
  obtain ⟨f, fd, hm, hk, hb, FO⟩ := d.ex
  refine ⟨fun ρ Q Q' w q => ha.mono _ _ _ (fun rs q => mo.mo _ _ _ (back_mono w) q) q, fun H₀ F => PE_imp (pe_call FO hr hg hm hk hb .nil pass0 (ha.run H₀ F) hdb he hpl) fun σ H Q ⟨ρ, fr, h⟩ => ?_⟩
  refine ha.step fr h fun rs xs H1 q S1 r1 => ?_
  rw [List.append_nil]
  exact call_low mo fr S1 r1 q fun r z => z
def eMeth (C : Addr) (m : Str) (sp : Fn) (to : TEp) (ts : TAp) : TEp := fun ρ Q => to ρ fun ro => match ro.d with
  | .obj C' fs => (C' = C ∧ fs.lookup m = none) ∧ ts ρ fun rs => sp (ro.d :: rs.map R.d) (back (ro :: rs) Q)
  | _ => False
def eFld (C : Addr) (f : Str) (to : TEp) : TEp := fun ρ Q => to ρ fun ro => match ro.d with
  | .obj C' fs => C' = C ∧ match fs.lookup f with
    | some d => Q (.v d)
    | none => False
  | _ => False
end
end Z
namespace L2
open PySem PySem.Spec PyProof.Rows
section
variable {X : Cx} {tg : Expr}
end
end L2
namespace Z
open PySem PySem.Spec PyProof.Rows L2
section
variable {X : Cx} {tg a b c e : Expr} {ta tb te : TEp} {ts : TAp} {pos p p2 : Pos}
def rangeC (lo c : Int) (n : Nat) : List Dv := (List.range n).map fun (k : Nat) => Dv.int (lo + (k : Int) * c)
def iRange3 (ts : TAp) : TIp := fun ρ Q => ts ρ fun rs => match rs.map R.d with
  | [.int i, .int j, .int c] => (c ≠ 0 ∧ c.natAbs < 1000 ∧ Builtin.Range.small i j c = true ∧ 0 ≤ Builtin.Range.rangeSize i j c) ∧ Q (rangeC i c (Builtin.Range.rangeSize i j c).toNat) []
  | _ => False
def eLR1 (ts : TAp) : TEp := fun ρ Q => ts ρ fun rs => match rs.map R.d with
  | [.int j] => (-(2 ^ 62) ≤ j ∧ j < 2 ^ 62 ∧ j.toNat ≤ 1000000) ∧ Q (.nw (.lst (rangeD 0 j.toNat)))
  | _ => False
def eLR2 (ts : TAp) : TEp := fun ρ Q => ts ρ fun rs => match rs.map R.d with
  | [.int i, .int j] => ((-(2 ^ 62) ≤ i ∧ i < 2 ^ 62 ∧ -(2 ^ 62) ≤ j ∧ j < 2 ^ 62) ∧ (j - i).toNat ≤ 1000000) ∧ Q (.nw (.lst (rangeD i (j - i).toNat)))
  | _ => False
def enumD (ds : List Dv) : List Dv := (ds.zipIdx).map fun q => .tup [.int (q.2 : Int), q.1]
def iEnumP (ts : TAp) : TIp := fun ρ Q => ts ρ fun rs => match rs with
  | [.v (.lst ds)] => Q (enumD ds) []
  | [.nw (.lst ds)] => Q (enumD ds) []
  | [.ow a (.lst ds)] => Q (enumD ds) [(a, ds)]
  | _ => False
structure Walked (K : PySem.W.Frag) (P : Hp) (M : Addr → Prop) (H1 : Hp) (a : Addr) (ds : List Dv) (ogs : List (Addr × List Dv)) : Prop where
  at_ : ∀ (H' : Hp) (M' : Addr → Prop), Same P H' → Gen K M M' H1 H' → (∀ p ∈ ogs, OwnAt K M' H' p.1 (.lst p.2)) → ∃ xs, H' a = some (.lst xs) ∧ Reps K M' H' xs ds
def ogsOf : R → List (Addr × List Dv)
  | .ow a (.lst ds) => [(a, ds)]
  | _ => []
theorem walked {K : PySem.W.Frag} {H₀ H H1 : Hp} {F : Addr → Prop} {σ : St} {ρ : List Sl} {x : V} {r : R} {ds : List Dv} (fr : Fr K H₀ F σ H ρ) (S1 : Same H H1) (r1 : RRep K (MM F ρ) (Z.Own ρ) H x r H1) (hd : r.d = .lst ds) :
    ∃ a xs, x = .ref a ∧ H1 a = some (.lst xs) ∧ guard (ogsOf r) ρ ∧ Walked K (prot H1 ρ) (MM F ρ) H1 a ds (ogsOf r) := by
  cases r with
  | v d =>
    have e : d = .lst ds := hd
    subst e
    cases r1 with
    | lst e m rs =>
      refine ⟨_, _, rfl, e, by intro p hp; simp [ogsOf] at hp, ⟨fun H' M' S G _ => ⟨_, S _ _ (by rw [prot_free fun c => m (.inr c)]; exact e), rs.gen G⟩⟩⟩
  | nw d =>
    have e : d = .lst ds := hd
    subst e
    obtain ⟨a, rfl, n, xs, e, rs⟩ := r1
    exact ⟨_, _, rfl, e, by intro p hp; simp [ogsOf] at hp, ⟨fun H' M' S G _ => ⟨_, S _ _ (by rw [prot_free fun c => fr.fresh n (.inr c)]; exact e), (rs.weak fun b z => .inl z).gen G⟩⟩⟩
  | ow a d =>
    have e : d = .lst ds := hd
    subst e
    obtain ⟨rfl, m, xs, e, rs⟩ := r1
    refine ⟨_, _, rfl, e, by intro p hp; simp [ogsOf] at hp; subst hp; exact m, ⟨fun H' M' S G ow => ?_⟩⟩
    exact ow (a, ds) (by simp [ogsOf])
def zipD (xs ys : List Dv) : List Dv := List.zipWith (fun x y => .tup [x, y]) xs ys
def iZipP (ts : TAp) : TIp := fun ρ Q => ts ρ fun rs => match rs with
  | [r, r'] => match r.d, r'.d with
    | .lst xs, .lst ys => Q (zipD xs ys) (ogsOf r ++ ogsOf r')
    | _, _ => False
  | _ => False
theorem itok_zip {K : PySem.W.Frag} {P : Hp} {M : Addr → Prop} {H1 : Hp} {a b : Addr} {ds es : List Dv} {o1 o2 : List (Addr × List Dv)} (w1 : Walked K P M H1 a ds o1) (w2 : Walked K P M H1 b es o2) : ItOk K P M H1 (ItZ a b) (zipD ds es) (o1 ++ o2) := by
  intro i H' M' S G ow
  obtain ⟨xs, h1, r1⟩ := w1.at_ H' M' S G fun p hp => ow p (List.mem_append_left _ hp)
  obtain ⟨ys, h2, r2⟩ := w2.at_ H' M' S G fun p hp => ow p (List.mem_append_right _ hp)
  refine ⟨fun d e => ?_, fun h => ⟨xs, ys, h1, h2, ?_⟩⟩
  · unfold zipD at e
    rw [List.getElem?_zipWith] at e
    cases e1 : ds[i]? with
    | none => rw [e1] at e; cases e
    | some d1 =>
      cases e2 : es[i]? with
      | none => rw [e1, e2] at e; cases e
      | some d2 =>
        rw [e1, e2] at e
        cases e
        obtain ⟨x, hx, rx⟩ := r1.get e1
        obtain ⟨y, hy, ry⟩ := r2.get e2
        refine ⟨⟨xs, ys, x, y, h1, h2, hx, hy⟩, fun z H'' ⟨T, z1, z2, hT, e3, e4, k1, k2⟩ => ?_⟩
        subst e3 e4
        have q1 := k1 xs h1
        have q2 := k2 ys h2
        rw [hx] at q1
        rw [hy] at q2
        cases q1
        cases q2
        exact ⟨Same.new' hT, .tup upd_same (.cons (rx.mono (Same.new' hT)) (.cons (ry.mono (Same.new' hT)) .nil))⟩
  · rw [r1.length, r2.length]
    simp only [zipD, List.length_zipWith] at h
    omega
theorem q_iZip {elts : List Expr} {x1 : Nat} {tp : Pos} (hg : Gl X "zip") (hm : X.mg "zip" = none) (ha : QA X [a, b] ts) (hs : starEach [a, b] X.env = [(false, eval a X.env), (false, eval b X.env)] := by rfl) (hs2 : starEach [b] X.env = [(false, eval b X.env)] := by rfl) :
    QI X (.Tuple elts x1 tp) (.Call (.Name "zip" p) [a, b] [] pos) (iZipP ts) := by
  refine ⟨fun ρ Q Q' w q => ha.mono _ _ _ (fun r q => ?_) q, fun H₀ F => ⟨_, pi_zip hg hm (ha.run H₀ F) hs hs2, fun σ H ρ R fr q => ?_⟩⟩
  · split at q
    · split at q
      · exact w _ _ q
      · exact q
    · exact q
  · refine ha.step fr q fun rs xs H1 q S1 r1 => ?_
    split at q
    · rename_i r r'
      split at q
      · rename_i ds es h1 h2
        cases r1 with
        | cons a1 t1 =>
          cases t1 with
          | cons a2 t2 =>
            cases t2
            obtain ⟨a, ys, rfl, ea, gd, wk⟩ := walked fr S1 a1 h1
            obtain ⟨b, zs, rfl, eb, gd2, wk2⟩ := walked fr S1 a2 h2
            refine ⟨a, b, rfl, ⟨ys, ea⟩, ⟨zs, eb⟩, q _ H1 S1 (fun p hp => ?_) (itok_zip wk wk2)⟩
            rcases List.mem_append.mp hp with h | h
            · exact gd p h
            · exact gd2 p h
      · exact q.elim
    · exact q.elim
end
end Z
namespace Z
open PySem PySem.Spec PyProof.Rows L2
def closGo (env : Env) : List (Str × NameKind) → List (Str × Addr) → List (Str × Addr)
  | [], acc => acc
  | (n, k) :: r, acc => if (k == .free) = true then (match env.cells.lookup n with | some c => closGo env r ((n, c) :: acc) | none => closGo env r acc) else closGo env r acc
theorem closureFor_eq {scope : Scope} {env : Env} (h : (scope.names.all fun y => !(y.2 == .free) || (env.cells.lookup y.1).isSome) = true) : closureFor scope env = pure (closGo env scope.names []) := by
  unfold closureFor
  have key : ∀ (l : List (Str × NameKind)) (acc : List (Str × Addr)), (l.all fun y => !(y.2 == .free) || (env.cells.lookup y.1).isSome) = true →
      (forIn (m := Sem) l acc fun x r => (match x with | (name, kind) => if (kind == NameKind.free) = true then (do let c ← cellOf env name; pure (ForInStep.yield ((name, c) :: r))) else pure (ForInStep.yield r))) = pure (closGo env l acc) := by
    intro l
    induction l with
    | nil => intro acc _; rfl
    | cons y r ih =>
      intro acc hl
      obtain ⟨n, k⟩ := y
      rw [List.all_cons, Bool.and_eq_true] at hl
      rw [List.forIn_cons]
      unfold closGo
      by_cases hk : (k == NameKind.free) = true
      · rw [if_pos hk]
        have h1 : (env.cells.lookup n).isSome = true := by
          have := hl.1
          simpa [hk] using this
        obtain ⟨c, hc⟩ := Option.isSome_iff_exists.mp h1
        have e : cellOf env n = pure c := by unfold cellOf; rw [hc]
        simp only [hk, if_true, e, hc]
        exact ih _ hl.2
      · rw [if_neg hk]
        simp only [hk]
        exact ih _ hl.2
  dsimp only
  have h2 := key scope.names [] h
  refine Eq.trans (congrArg (fun t : Sem (List (Str × Addr)) => t >>= fun r => pure r) h2) ?_
  rfl
theorem closGo_ok {env : Env} : ∀ (l : List (Str × NameKind)) (acc : List (Str × Addr)), (∀ q ∈ acc, env.cells.lookup q.1 = some q.2) → ∀ q ∈ closGo env l acc, env.cells.lookup q.1 = some q.2
  | [], acc, h, q, hq => h q hq
  | (n, k) :: r, acc, h, q, hq => by
    unfold closGo at hq
    split at hq
    · split at hq
      · rename_i c hc
        refine closGo_ok r _ (fun q' hq' => ?_) q hq
        rcases List.mem_cons.mp hq' with e | e
        · rw [e]; exact hc
        · exact h q' e
      · exact closGo_ok r acc h q hq
    · exact closGo_ok r acc h q hq
theorem closGo_acc {env : Env} : ∀ (l : List (Str × NameKind)) (acc : List (Str × Addr)), ∀ q ∈ acc, q ∈ closGo env l acc
  | [], acc, q, hq => hq
  | (n, k) :: r, acc, q, hq => by
    unfold closGo
    split
    · split
      · exact closGo_acc r _ q (List.mem_cons_of_mem _ hq)
      · exact closGo_acc r acc q hq
    · exact closGo_acc r acc q hq
theorem closGo_has {env : Env} {x : Str} : ∀ (l : List (Str × NameKind)) (acc : List (Str × Addr)), (l.all fun y => !(y.2 == .free) || (env.cells.lookup y.1).isSome) = true → (x, NameKind.free) ∈ l → ∃ c, (x, c) ∈ closGo env l acc
  | [], _, _, h => by simp at h
  | (n, k) :: r, acc, hl, h => by
    rw [List.all_cons, Bool.and_eq_true] at hl
    unfold closGo
    rcases List.mem_cons.mp h with e | e
    · cases e
      rw [if_pos (by rfl)]
      have h1 : (env.cells.lookup x).isSome = true := by simpa using hl.1
      obtain ⟨c, hc⟩ := Option.isSome_iff_exists.mp h1
      rw [hc]
      exact ⟨c, closGo_acc r _ _ (by simp)⟩
    · split
      · split
        · exact closGo_has r _ hl.2 e
        · exact closGo_has r _ hl.2 e
      · exact closGo_has r _ hl.2 e
theorem lookup_of_mem {α : Type} {x : Str} {c : α} : ∀ {l : List (Str × α)}, (x, c) ∈ l → ∃ c', l.lookup x = some c'
  | (n, d) :: r, h => by
    rw [List.lookup_cons]
    cases e : x == n with
    | true => exact ⟨d, rfl⟩
    | false =>
      rcases List.mem_cons.mp h with z | z
      · cases z
        simp at e
      · exact lookup_of_mem z
theorem relabel_free {scope : Scope} {env : Env} {x : Str} (hcell : ∀ y ∈ scope.names, y.2 ≠ .cell) (h : (relabel scope env).names.lookup x = some .cell ∨ (relabel scope env).names.lookup x = some .free) : (x, NameKind.free) ∈ scope.names := by
  have : (x, NameKind.cell) ∈ (relabel scope env).names ∨ (x, NameKind.free) ∈ (relabel scope env).names := h.imp PySem.mem_of_lookup PySem.mem_of_lookup
  rcases this with h | h
  · obtain ⟨⟨n, k⟩, hm, e⟩ := List.mem_map.mp h
    dsimp only at e
    split at e
    · rename_i hc
      rw [Bool.and_eq_true, Bool.and_eq_true, beq_iff_eq] at hc
      cases e
      rw [hc.1.1] at hm
      exact hm
    · cases e
      exact absurd rfl (hcell _ hm)
  · obtain ⟨⟨n, k⟩, hm, e⟩ := List.mem_map.mp h
    dsimp only at e
    split at e
    · cases e
    · cases e
      exact hm
section
variable {X : Cx} {pos : Pos}
theorem q_lc {elt iter tgt : Expr} {ifs : List Expr} {scope : Scope} (tgs ns : List Str) (js : List Nat) {k : Nat} {ti : TIp} {g : TGp} {tt : TTp} {te : TEp} (hc : X.calm = true) (hi : QI X tgt iter ti)
    (hg : ∀ (fp : List Addr) (s : Shared) (H : Hp), QG (cxG X scope (closGo X.env scope.names []) fp (tgs ++ ns) s H) tgt k g) (ht : ∀ (fp : List Addr) (s : Shared) (H : Hp), QTs (cxG X scope (closGo X.env scope.names []) fp (tgs ++ ns) s H) ifs tt)
    (he : ∀ (fp : List Addr) (s : Shared) (H : Hp), QE (cxG X scope (closGo X.env scope.names []) fp (tgs ++ ns) s H) elt te) (hk : tgs.length = k := by rfl)
    (hall : (scope.names.all fun y => !(y.2 == .free) || (X.env.cells.lookup y.1).isSome) = true := by rfl) (hjs : js.map (fun j => X.N[j]?) = ns.map some := by rfl)
    (hin : (ns.all fun y => (relabel scope X.env).names.lookup y == some .cell || (relabel scope X.env).names.lookup y == some .free) = true := by rfl) (hout : (ns.all fun y => X.env.kindOf y == some .cell || X.env.kindOf y == some .free) = true := by rfl)
    (nd : js.Nodup := by decide) (hcell : ∀ y ∈ scope.names, y.2 ≠ .cell := by decide +kernel) (hkind : scope.kind = .function := by rfl)
    (hnames : ∀ y ∈ scope.names, y.2 = .local → scope.names.lookup y.1 = some .local := by decide +kernel) (hs : ∀ z, foldedSetIterable iter X.env z = pure z := by intro _; rfl) :
    QE X (.ListComp elt [⟨tgt, iter, ifs, 0⟩] scope pos) (eComp k js ti g tt te) := by
  refine q_comp hc hk hi hg ht he (closureFor_eq hall) (fun x c e => closGo_ok scope.names [] (by simp) (x, c) (PySem.mem_of_lookup e)) (fun x h => ?_) hjs (fun y hy => ?_) (fun y hy => ?_) nd hcell hkind hnames hs
  · obtain ⟨c, hc⟩ := closGo_has scope.names [] hall (relabel_free hcell h)
    exact lookup_of_mem hc
  · have := List.all_eq_true.mp hin y hy
    simpa using this
  · have := List.all_eq_true.mp hout y hy
    simpa using this
end
section
variable {X : Cx} {M : Addr → Prop} {pins : List (Addr × Obj)} {σ : St} {H : Hp} {s : Shared}
end
section
variable {X : Cx}
end
end Z
namespace Z
open PySem PySem.Spec PyProof.Rows L2
theorem units65 {k : Nat} {A : Around} (r : Room k A) : A.units + 65 < cLine := by have := r.un; omega
def pModG : Dv → Dv → (R → Prop) → Prop
  | .int i, .int j, Q => j ≠ 0 ∧ Q (.v (.int (i.fmod j)))
  | _, _, _ => False
def isB (b : Bool) : Dv → Bool
  | .bl c => c == b
  | _ => false
def pIsB : Dv → Dv → (R → Prop) → Prop
  | d, .bl b, Q => Q (.v (.bl (isB b d)))
  | _, _, _ => False
def pNotB : Dv → Dv → (R → Prop) → Prop
  | d, .bl b, Q => Q (.v (.bl (!isB b d)))
  | _, _, _ => False
section
variable {X : Cx}
def sSetI (i : Nat) (tk tv : TEp) : TSp := fun E ρ => match ρ[i]? with
  | some (.own a (.lst xs)) => tv ρ fun r => tk ρ fun k => match k.d with
    | .int n => match ixN xs.length n with
      | some j => r.free = true ∧ E.nx (ρ.set i (.own a (.lst (xs.set j r.d))))
      | none => False
    | _ => False
  | _ => False
theorem q_setI {i : Nat} {x : Str} {p1 p2 pos : Pos} {k e : Expr} {tk te : TEp} (hv : PE X (.Name x p1) (tVar i)) (hk : QE X k tk) (he : QE X e te)
    (ha : ∀ v, assign (.Subscript (.Name x p1) k p2) X.env v = (do
      let ov ← holding [v] (eval (.Name x p1) X.env)
      let iv ← holding [v, ov] (eval k X.env)
      standAt p2
      holding [v, ov, iv] (setItem ov iv v)
      release [v, ov, iv] []) := by intro _; rfl)
    (hs : swapsWithSole [.Subscript (.Name x p1) k p2] e pos.line X.env = pure false := by rfl) (hw : swappedStores [.Subscript (.Name x p1) k p2] e X.env = pure none := by rfl)
    (h1 : (assignEach [.Subscript (.Name x p1) k p2] X.env).map (·.2) = [assign (.Subscript (.Name x p1) k p2) X.env] := by rfl) :
    QS X (.Assign [.Subscript (.Name x p1) k p2] e pos) (sSetI i tk te) := by
  refine ⟨fun E E' ρ w h => ?_, fun H₀ F => PS_imp (ps_asg (he.run H₀ F) (pg_sub hv (hk.run H₀ F) set_list ha) hs hw h1) fun D σ H ⟨ρ, E, fr, h, en⟩ => ?_⟩
  · unfold sSetI at *
    split at h
    · refine he.mono _ _ _ (fun r q => hk.mono _ _ _ (fun k q => ?_) q) h
      split at q
      · split at q
        · exact ⟨q.1, w.nx _ q.2⟩
        · exact q
      · exact q
    · exact h
  · unfold sSetI at h
    split at h
    · rename_i a xs hx
      refine he.step fr h fun r y H1 q S1 r1 => ?_
      have fr1 := fr.mono S1
      obtain ⟨hs1, vs, hv1, rv1⟩ := fr1.sl i _ hx
      refine ⟨_, hs1, hk.step fr1 q fun kk z H2 q S2 rk => ?_⟩
      have ck := rk.c
      split at q
      · rename_i n hn
        rw [hn] at ck
        obtain rfl := ck.int
        split at q
        · rename_i j hj
          obtain ⟨qf, q2⟩ := q
          have rep := (r1.rep (fun a m => fr.dom m) qf).mono S2
          have hv2 := S2 _ _ hv1
          refine ⟨a, vs, n, j, rfl, rfl, hv2, by rw [rv1.length]; exact hj, ?_⟩
          refine en.nx _ _ _ ((fr1.mono S2).write (d' := .lst (xs.set j r.d)) hx ⟨_, upd_same, ?_⟩) q2
          have G : Gen X.K (MM F ρ) (MM F ρ) H2 (upd H2 a (.lst (vs.set j y))) := Gen.write (.inr ⟨_, List.mem_of_getElem? hx⟩) (by rw [hv2]; trivial)
          exact (Reps.set rep j (rv1.mono S2)).gen G
        · exact q.elim
      · exact q.elim
    · exact h.elim
end
end Z
namespace Z
open PySem PySem.Spec PyProof.Rows L2
structure QX (X : Cx) (st : Stmt) (i : Nat) (te : TEp) : Prop where
  mono : ∀ (ρ : List Sl) (Q Q' : R → Prop), (∀ r, Q r → Q' r) → te ρ Q → te ρ Q'
  run : ∀ (H₀ : Hp) (F : Addr → Prop), PS X st (tAsg (lift X.K H₀ F te) (gName i))
section
variable {X : Cx} {pos : Pos} {st : Stmt} {te : TEp} {i : Nat}
theorem QX.step {H₀ : Hp} {F : Addr → Prop} {σ : St} {H : Hp} {ρ : List Sl} {Q : R → Prop} {Q' : VK} (h : QX X st i te) (fr : Fr X.K H₀ F σ H ρ) (q : te ρ Q)
    (k : ∀ r x H', Q r → Same H H' → RRep X.K (MM F ρ) (Own ρ) H x r H' → Q' x H') : lift X.K H₀ F te σ H Q' := ⟨ρ, fr, h.mono _ _ _ (fun r qr x H' S rx => k r x H' qr S rx) q⟩
theorem q_setX (he : QX X st i te) : QS X st (sSet i te) := by
  refine ⟨fun E E' ρ w h => he.mono _ _ _ (fun r q => ?_) h, fun H₀ F => PS_imp (he.run H₀ F) fun D σ H ⟨ρ, E, fr, h, en⟩ => ?_⟩
  · cases r with
    | v d => exact w.nx _ q
    | nw d => exact w.nx _ q
    | ow a d => exact q
  · refine he.step fr h fun r x H1 q S1 r1 => ?_
    cases r with
    | v d => exact en.nx _ _ _ ((fr.mono S1).setv r1) q
    | nw d => exact en.nx _ _ _ ((fr.mono S1).setv (r1.rep (fun a m => fr.dom m) rfl)) q
    | ow a d => exact q.elim
end
section
variable {X : Cx} {pos : Pos}
theorem q_compX {y : Str} {py spos : Pos} {iy : Nat} {elt iter tgt : Expr} {ifs : List Expr} {scope : Scope} {cl : List (Str × Addr)} {tgs ns : List Str} {js : List Nat} {k : Nat} {ti : TIp} {g : TGp} {tt : TTp} {te : TEp} (hN : X.N.Nodup) (hi2 : X.N[iy]? = some y) (hx2 : Loc X.env.scope y) (hc : X.calm = true) (hk : tgs.length = k)
    (hi : QI X tgt iter ti) (hg : ∀ (fp : List Addr) (s : Shared) (H : Hp), QG (cxG X scope cl fp (tgs ++ ns) s H) tgt k g) (ht : ∀ (fp : List Addr) (s : Shared) (H : Hp), QTs (cxG X scope cl fp (tgs ++ ns) s H) ifs tt)
    (he : ∀ (fp : List Addr) (s : Shared) (H : Hp), QE (cxG X scope cl fp (tgs ++ ns) s H) elt te)
    (hclos : closureFor scope X.env = pure cl) (hsub : ∀ x c, cl.lookup x = some c → X.env.cells.lookup x = some c)
    (hhas : ∀ x, ((relabel scope X.env).names.lookup x = some .cell ∨ (relabel scope X.env).names.lookup x = some .free) → ∃ c, cl.lookup x = some c)
    (hjs : js.map (fun j => X.N[j]?) = ns.map some) (hin : ∀ y ∈ ns, (relabel scope X.env).names.lookup y = some .cell ∨ (relabel scope X.env).names.lookup y = some .free)
    (hout : ∀ y ∈ ns, X.env.kindOf y = some .cell ∨ X.env.kindOf y = some .free) (nd : js.Nodup)
    (hcell : ∀ y ∈ scope.names, y.2 ≠ .cell := by decide +kernel) (hkind : scope.kind = .function := by rfl)
    (hnames : ∀ y ∈ scope.names, y.2 = .local → scope.names.lookup y.1 = some .local := by decide +kernel)
    (hs : ∀ z, foldedSetIterable iter X.env z = pure z := by intro _; rfl)
    (hsw : swapsWith (.ListComp elt [⟨tgt, iter, ifs, 0⟩] scope pos) (some (.Name y py)) spos.line X.env = pure true := by rfl) (hf : X.fn y = true ∨ X.env.scope.names.lookup y = some .local := by first | exact .inl rfl | exact .inr rfl | assumption) :
    QX X (.Assign [.Name y py] (.ListComp elt [⟨tgt, iter, ifs, 0⟩] scope pos) spos) iy (eComp k js ti g tt te) := by
  have mg := (hg [] X.s₀ fun _ => none).mono
  have ag := (hg [] X.s₀ fun _ => none).agree
  have mt := (ht [] X.s₀ fun _ => none).mono
  have me := (he [] X.s₀ fun _ => none).mono
  refine ⟨fun ρ Q Q' w h => hi.mono _ _ _ (fun ds ogs h => compGo_mono mg mt me ds [] Q Q' w h) h, fun H₀ F => ?_⟩
  obtain ⟨wi, hwi, wiq⟩ := hi.run H₀ F
  suffices key : ∀ σ H Q, lift X.K H₀ F (eComp k js ti g tt te) σ H Q → tCompG wi tgs.length js (liftG X.K k g) (fun σ H Q => ∃ H₀ F, liftT X.K H₀ F tt σ H Q) (fun σ H Q => ∃ H₀ F, lift X.K H₀ F te σ H Q) σ H Q from
    PS_imp (ps_compG (tgs := tgs) (ns := ns) (js := js) (g := liftG X.K k g) (tt := fun σ H Q => ∃ H₀ F, liftT X.K H₀ F tt σ H Q) (te := fun σ H Q => ∃ H₀ F, lift X.K H₀ F te σ H Q) hN hi2 hx2 hc hwi (fun fp s H => (hg fp s H).pg) (fun fp s H => (ht fp s H).pt) (fun fp s H => (he fp s H).pe) hclos hsub hhas hjs hin hout hcell hkind hnames hs hsw hf) fun D σ H h => key σ H _ h
  intro σ H Q ⟨ρ, fr, h⟩
  subst hk
  refine wiq σ H ρ _ fr (hi.mono _ _ _ (fun ds ogs q J H1 S1 gd ok => ?_) h)
  intro D hD
  have fr1 := fr.mono S1
  refine ⟨fun i m acc H2 => m = ds.length - i ∧ i ≤ ds.length ∧ Same H1 H2 ∧ ∃ accD, Reps X.K (fun a => MM F ρ a ∨ a = D) H2 acc accD ∧
    compGo (List.replicate tgs.length .un ++ pickP js ρ) g tt te (ds.drop i) accD (fun r => ∀ x H', Same H H' → RRep X.K (MM F ρ) (Own ρ) H x r H' → Q x H'),
    ⟨ds.length, by simp, Nat.zero_le _, Same.new' hD, [], .nil, by simpa using q⟩, ?_⟩
  rintro i m acc H2 ⟨rfl, hil, S2, accD, ra, q⟩ hDl
  have G2 : Gen X.K (MM F ρ) (fun a => MM F ρ a ∨ a = D) H1 H2 := (Gen.fresh hD).trans (.mono S2)
  have oks := ok i H2 (fun a => MM F ρ a ∨ a = D) (fun b o e => S2 _ _ (prot_some e)) G2 fun p hp => by
    obtain ⟨_, _, _, ow⟩ := fr1.at_own (gd p hp)
    exact ow.gen G2 fun o e => S2 _ _ e
  by_cases hlt : i < ds.length
  · have hd : ds[i]? = some ds[i] := by simp [hlt]
    rw [List.drop_eq_getElem_cons hlt] at q
    obtain ⟨go, yld⟩ := oks.1 _ hd
    refine .inr ⟨go, fun y H3 hy old lo => ?_⟩
    obtain ⟨S3, ry⟩ := yld y H3 hy
    have hD3 := S3 _ _ hDl
    obtain ⟨P, F', fr', iff, iffF⟩ := fr1.block (js := js) (old := old) (S2.trans S3) hD (by rw [hD3]; simp) nd lo
    refine ⟨_, P, F', _, fr', ry.weak fun a z => (iff a).mp z, mg _ _ _ _ (fun ρ1 q1 σ1 f1 a1 => ?_) (ag _ _ _ q)⟩
    obtain ⟨q1, l1, b1⟩ := q1
    have up : ∀ a, MM F ρ a ∨ a = D → MM F' ρ1 a := fun a z => by
      rcases (iff a).mpr z with z | ⟨d, z⟩
      · exact .inl z
      · refine .inr ⟨d, ?_⟩
        obtain ⟨j, e⟩ := List.mem_iff_getElem?.mp z
        have hj : tgs.length ≤ j := by
          by_cases hj : j < tgs.length
          · rw [List.getElem?_append_left (by simpa using hj), List.getElem?_replicate, if_pos hj] at e
            cases e
          · omega
        rw [← b1 j hj] at e
        exact List.mem_of_getElem? e
    have hlen : σ1.length = tgs.length + (pick js σ).length := by
      have := f1.len
      rw [l1] at this
      simp [pick, pickP] at this ⊢
      omega
    refine ⟨⟨σ1.take tgs.length, by rw [List.length_take]; omega, split_at lo hlen a1⟩, P, F', ρ1, f1, mt _ _ _ (fun b q5 H5 S5 => ?_) q1⟩
    have S25 := (S2.trans S3).trans S5
    cases b with
    | true =>
      simp only [if_true] at q5
      refine iteT ⟨P, F', ρ1, f1.mono S5, me _ _ _ (fun r q6 x H6 S6 rx => ?_) q5⟩
      have hD6 := S6 _ _ (S5 _ _ hD3)
      obtain ⟨⟨rf, rl⟩, q6⟩ := q6
      have rep := (rx.rep (fun a z => (f1.mono S5).dom z) rf).weak up
      refine ⟨hD6, by rw [ra.length]; exact lim_lt rl, ds.length - (i + 1), by omega, rfl, hlt, fun b o e => ?_, _, ?_, q6⟩
      · rw [upd_ne (ne_of_none e hD)]
        exact S6 _ _ (S25 _ _ e)
      · have G6 : Gen X.K (fun a => MM F ρ a ∨ a = D) (fun a => MM F ρ a ∨ a = D) H6 (upd H6 D (.lst (acc ++ [x]))) := Gen.write (.inr rfl) (by rw [hD6]; trivial)
        exact ((ra.mono ((S3.trans S5).trans S6)).append (.cons rep .nil)).gen G6
    | false =>
      simp only [Bool.false_eq_true, if_false] at q5
      exact iteF ⟨S5 _ _ hD3, ds.length - (i + 1), by omega, rfl, hlt, S25, accD, ra.mono (S3.trans S5), q5⟩
  · have e : i = ds.length := by omega
    subst e
    rw [List.drop_length] at q
    exact .inl ⟨oks.2 (Nat.le_refl _), q (.ref D) H2 (S1.trans S2) ⟨D, rfl, S1.free hD, acc, hDl, ra⟩⟩
theorem q_lcX {y : Str} {py spos : Pos} {iy : Nat} {elt iter tgt : Expr} {ifs : List Expr} {scope : Scope} (tgs ns : List Str) (js : List Nat) {k : Nat} {ti : TIp} {g : TGp} {tt : TTp} {te : TEp} (hN : X.N.Nodup) (hi2 : X.N[iy]? = some y) (hx2 : Loc X.env.scope y) (hc : X.calm = true) (hi : QI X tgt iter ti)
    (hg : ∀ (fp : List Addr) (s : Shared) (H : Hp), QG (cxG X scope (closGo X.env scope.names []) fp (tgs ++ ns) s H) tgt k g) (ht : ∀ (fp : List Addr) (s : Shared) (H : Hp), QTs (cxG X scope (closGo X.env scope.names []) fp (tgs ++ ns) s H) ifs tt)
    (he : ∀ (fp : List Addr) (s : Shared) (H : Hp), QE (cxG X scope (closGo X.env scope.names []) fp (tgs ++ ns) s H) elt te) (hk : tgs.length = k := by rfl)
    (hall : (scope.names.all fun y => !(y.2 == .free) || (X.env.cells.lookup y.1).isSome) = true := by rfl) (hjs : js.map (fun j => X.N[j]?) = ns.map some := by rfl)
    (hin : (ns.all fun y => (relabel scope X.env).names.lookup y == some .cell || (relabel scope X.env).names.lookup y == some .free) = true := by rfl) (hout : (ns.all fun y => X.env.kindOf y == some .cell || X.env.kindOf y == some .free) = true := by rfl)
    (nd : js.Nodup := by decide) (hcell : ∀ y ∈ scope.names, y.2 ≠ .cell := by decide +kernel) (hkind : scope.kind = .function := by rfl)
    (hnames : ∀ y ∈ scope.names, y.2 = .local → scope.names.lookup y.1 = some .local := by decide +kernel) (hs : ∀ z, foldedSetIterable iter X.env z = pure z := by intro _; rfl)
    (hsw : swapsWith (.ListComp elt [⟨tgt, iter, ifs, 0⟩] scope pos) (some (.Name y py)) spos.line X.env = pure true := by rfl) (hf : X.fn y = true ∨ X.env.scope.names.lookup y = some .local := by first | exact .inl rfl | exact .inr rfl | assumption) :
    QX X (.Assign [.Name y py] (.ListComp elt [⟨tgt, iter, ifs, 0⟩] scope pos) spos) iy (eComp k js ti g tt te) := by
  refine q_compX hN hi2 hx2 hc hk hi hg ht he (closureFor_eq hall) (fun x c e => closGo_ok scope.names [] (by simp) (x, c) (PySem.mem_of_lookup e)) (fun x h => ?_) hjs (fun y hy => ?_) (fun y hy => ?_) nd hcell hkind hnames hs hsw hf
  · obtain ⟨c, hc⟩ := closGo_has scope.names [] hall (relabel_free hcell h)
    exact lookup_of_mem hc
  · have := List.all_eq_true.mp hin y hy
    simpa using this
  · have := List.all_eq_true.mp hout y hy
    simpa using this
end
end Z
namespace Z
open PySem PySem.Spec PyProof.Rows L2
def pIAdd : Dv → Dv → (R → Prop) → Prop
  | .int i, .int j, Q => Q (.v (.int (i + j)))
  | .str x, .str y, Q => x.length + y.length ≤ LIM ∧ Q (.v (.str (x ++ y)))
  | _, _, _ => False
def pISub : Dv → Dv → (R → Prop) → Prop
  | .int i, .int j, Q => Q (.v (.int (i - j)))
  | _, _, _ => False
def pIMul : Dv → Dv → (R → Prop) → Prop
  | .int i, .int j, Q => CMulG i j ∧ Q (.v (.int (i * j)))
  | _, _, _ => False
section
variable {X : Cx}
theorem iopd_add : IpD X .Add pIAdd := by
  refine ⟨fun dx dy Q Q' w h => ?_, _, iop_add.or iop_add_str, fun M O H x y dx dy Q cx cy h => ?_⟩
  · unfold pIAdd at h
    split at h
    · exact w _ h
    · exact ⟨h.1, w _ h.2⟩
    · exact h.elim
  · unfold pIAdd at h
    split at h
    · obtain rfl := cx.int
      obtain rfl := cy.int
      exact .inl ⟨_, _, rfl, rfl, h _ H (Same.refl _) (Rep.int _)⟩
    · obtain rfl := cx.str
      obtain rfl := cy.str
      exact .inr ⟨_, _, rfl, rfl, lim_line h.1, h.2 _ H (Same.refl _) (Rep.str _)⟩
    · exact h.elim
def sAsg (te : TEp) (g : TGp) : TSp := fun E ρ => te ρ fun r => r.free = true ∧ g r.d ρ E.nx
theorem qt_chain {a b c : Expr} {ta tb tc : TEp} {pos : Pos} {op op' : CmpOp} {f f' : Int → Int → Bool} (ho : OpR X (compareOp op) (rI0 fun i j => .bl (f i j))) (ho' : OpR X (compareOp op') (rI0 fun i j => .bl (f' i j))) (ha : QE X a ta) (hb : QE X b tb) (hc : QE X c tc)
    (hm : lastMarks [op, op'] [b, c] = false := by with_unfolding_all rfl) : QT X (.Compare a [op, op'] [b, c] pos) (eTest (eChain (pI2 f) (pI2 f') ta tb tc)) := by
  have Q0 := q_chain (pos := pos) ho ho' ha hb hc hm
  have low : ∀ (H₀ : Hp) (F : Addr → Prop) (σ : St) (H : Hp) (Q : VK), lift X.K H₀ F (eChain (pI2 f) (pI2 f') ta tb tc) σ H Q → tChain (rI0 fun i j => .bl (f i j)) (rI0 fun i j => .bl (f' i j)) (lift X.K H₀ F ta) (lift X.K H₀ F tb) (lift X.K H₀ F tc) σ H Q := by
    rintro H₀ F σ H Q ⟨ρ, fr, q⟩
    refine ha.step fr q fun rx x H1 q1 S1 r1 => ?_
    refine hb.step (fr.mono S1) q1 fun ry y H2 q2 S2 r2 => ?_
    have cx := (r1.mono S2).c
    have cy := r2.c
    generalize rx.d = dx at q2 cx
    generalize ry.d = dy at q2 cy
    unfold pI2 at q2
    split at q2
    · rename_i Q2 i j
      obtain rfl := cx.int
      obtain rfl := cy.int
      refine ⟨_, _, rfl, rfl, f i j, rfl, ?_⟩
      have S12 := S1.trans S2
      replace q2 := (show (if f i j = true then tc ρ (fun w => pI2 f' (.int j) w.d (fun r => ∀ x H', Same H H' → RRep X.K (MM F ρ) (Z.Own ρ) H x r H' → Q x H')) else (∀ x H', Same H H' → RRep X.K (MM F ρ) (Z.Own ρ) H x (.v (.bl false)) H' → Q x H')) from q2)
      cases h : f i j with
      | true =>
        rw [h] at q2
        simp only [if_true] at q2
        refine iteT (hc.step ((fr.mono S1).mono S2) q2 fun rw' z H3 q3 S3 r3 => ?_)
        have cz := r3.c
        generalize rw'.d = dz at q3 cz
        cases dz with
        | int l =>
          obtain rfl := cz.int
          exact ⟨_, _, rfl, rfl, q3 _ H3 (S12.trans S3) (Rep.bl _)⟩
        | _ => exact (show False from q3).elim
      | false =>
        rw [h] at q2
        simp only [Bool.false_eq_true, if_false] at q2
        exact iteF (q2 _ H2 S12 (Rep.bl _))
    · exact q2.elim
  refine ⟨fun ρ Q Q' w q => eTest_mono Q0.mono ρ Q Q' w q, fun H₀ F => PT_imp (pt_chain ho ho' (ha.run H₀ F) (hb.run H₀ F) (hc.run H₀ F) hm) fun σ H Q ⟨ρ, fr, q⟩ => ?_⟩
  refine low H₀ F σ H _ (Q0.step fr q fun r x H1 q S1 r1 => ?_)
  have cx := r1.c
  generalize r.d = d at q cx
  split at q
  · obtain rfl := cx.bl
    exact ⟨_, rfl, q H1 S1⟩
  · exact q.elim
end
end Z
namespace Z
open PySem PySem.Spec PyProof.Rows L2
section
variable {X : Cx} {e : Expr} {te : TEp} {pos : Pos}
def sExt (i : Nat) (te : TEp) : TSp := fun E ρ => match ρ[i]? with
  | some (.own a (.lst xs)) => te ρ fun r => match r.d with
    | .lst ys => xs.length + ys.length ≤ LIM ∧ E.nx (ρ.set i (.own a (.lst (xs ++ ys))))
    | _ => False
  | _ => False
def putD (f : Str) (d : Dv) : List (Str × Dv) → List (Str × Dv)
  | [] => [(f, d)]
  | (g, x) :: r => if g = f then (g, d) :: r else (g, x) :: putD f d r
def sAttr (C : Addr) (i : Nat) (f : Str) (te : TEp) : TSp := fun E ρ => match ρ[i]? with
  | some (.own a (.obj C' fs)) => te ρ fun r => (C' = C ∧ r.free = true ∧ fs.length < 1000) ∧ E.nx (ρ.set i (.own a (.obj C' (putD f r.d fs))))
  | _ => False
end
def startI (C a : Addr) (N : List Str) (ds : List Dv) : List Sl := .own a (.obj C []) :: (ds.map .v ++ List.replicate (N.length - (ds.length + 1)) .un)
def eMake (sp : Fn) (ts : TAp) : TEp := fun ρ Q => ts ρ fun rs => sp (rs.map R.d) (back rs Q)
section
variable {X : Cx} {k : Nat} {x : Str} {ps : List Str} {sp : Fn} {e : Expr} {es : List Expr} {ts : TAp} {p pos : Pos} {C : Addr}
end
end Z
namespace Z
open PySem PySem.Spec PyProof.Rows L2
section
variable {K : PySem.W.Frag} {H₀ H1 H' : Hp} {F : Addr → Prop} {σ : St} {ρ : List Sl} {a b : Addr}
end
def startM (a : Addr) (N : List Str) : List Dv → List Sl
  | [] => []
  | d :: ds => .own a d :: (ds.map .v ++ List.replicate (N.length - (ds.length + 1)) .un)
def sMov (i : Nat) (sp : Fn) (ts : TAp) : TSp := fun E ρ => ts ρ fun rs => match rs with
  | .ow a d :: rest => ρ[i]? = some (.own a d) ∧ rest.all R.free = true ∧ sp (d :: rest.map R.d) (fun r => match r with | .nw d' => ∀ b, E.nx (ρ.set i (.own b d')) | _ => False)
  | _ => False
section
variable {X : Cx} {k i : Nat} {x y : Str} {ps : List Str} {sp : Fn} {e : Expr} {es : List Expr} {ts : TAp} {p pos pos2 py : Pos}
end
end Z
namespace Z
open PySem PySem.Spec PyProof.Rows L2
def pShl : Dv → Dv → (R → Prop) → Prop
  | .int i, .int j, Q => CPow i j ∧ Q (.v (.int (i * 2 ^ j.toNat)))
  | _, _, _ => False
section
variable {X : Cx}
end
end Z
namespace L2
open PySem PySem.Spec PyProof.Rows
section
variable {X : Cx}
end
end L2
namespace Z
open PySem PySem.Spec PyProof.Rows L2
section
variable {X : Cx} {a : Expr} {ts : TAp} {p p2 pos : Pos}
def eTR1 (ts : TAp) : TEp := fun ρ Q => ts ρ fun rs => match rs.map R.d with
  | [.int j] => (-(2 ^ 62) ≤ j ∧ j < 2 ^ 62 ∧ j.toNat ≤ 1000000) ∧ Q (.v (.tup (rangeD 0 j.toNat)))
  | _ => False
end
end Z
namespace Z
open PySem PySem.Spec PyProof.Rows L2
section
variable {X : Cx} {e : Expr} {te : TEp} {pos : Pos}
def eDT : TEp := fun _ Q => Q (.nw (.dit []))
def putT (kvs : List (List Key × Dv)) (k : List Key) (d : Dv) : List (List Key × Dv) :=
  if kvs.any (fun kv => decide (kv.1 = k)) then kvs.map (fun kv => if kv.1 = k then (kv.1, d) else kv) else kvs ++ [(k, d)]
def sPut (i : Nat) (tk tv : TEp) : TSp := fun E ρ => match ρ[i]? with
  | some (.own a (.dit kvs)) => tv ρ fun r => tk ρ fun kk => ∃ k : List Key, kk.d = .tup (k.map kD) ∧ (r.free = true ∧ kvs.length < LIM) ∧ E.nx (ρ.set i (.own a (.dit (putT kvs k r.d))))
  | _ => False
def sClear (i : Nat) : TSp := fun E ρ => match ρ[i]? with
  | some (.own a (.lst _)) => E.nx (ρ.set i (.own a (.lst [])))
  | _ => False
def sReverse (i : Nat) : TSp := fun E ρ => match ρ[i]? with
  | some (.own a (.lst xs)) => E.nx (ρ.set i (.own a (.lst xs.reverse)))
  | _ => False
end
end Z
namespace Z
open PySem PySem.Spec PyProof.Rows L2
theorem pAdd_ii {i j : Int} {Q : R → Prop} : (pAdd (.int i) (.int j) Q) = (Q (.v (.int (i + j)))) := rfl
theorem pSub_ii {i j : Int} {Q : R → Prop} : (pSub (.int i) (.int j) Q) = (Q (.v (.int (i - j)))) := rfl
theorem pMul_ii {i j : Int} {Q : R → Prop} : (pMul (.int i) (.int j) Q) = (CMulG i j ∧ Q (.v (.int (i * j)))) := rfl
theorem pDiv_ii {i j : Int} {Q : R → Prop} : (pDiv (.int i) (.int j) Q) = ((0 < j ∧ j < 2 ^ 200) ∧ Q (.v (.int (i / j)))) := rfl
theorem pDivG_ii {i j : Int} {Q : R → Prop} : (pDivG (.int i) (.int j) Q) = ((j ≠ 0 ∧ j.natAbs < 2 ^ 4000) ∧ Q (.v (.int (i.fdiv j)))) := rfl
theorem pMod_ii {i j : Int} {Q : R → Prop} : (pMod (.int i) (.int j) Q) = (0 < j ∧ Q (.v (.int (i % j)))) := rfl
theorem pModG_ii {i j : Int} {Q : R → Prop} : (pModG (.int i) (.int j) Q) = (j ≠ 0 ∧ Q (.v (.int (i.fmod j)))) := rfl
theorem pPow_ii {i j : Int} {Q : R → Prop} : (pPow (.int i) (.int j) Q) = (CPow i j ∧ Q (.v (.int (i ^ j.toNat)))) := rfl
theorem pAdd_ll {xs ys : List Dv} {Q : R → Prop} : (pAdd (.lst xs) (.lst ys) Q) = ((xs.length + ys.length ≤ LIM ∧ Q (.nw (.lst (xs ++ ys))))) := rfl
theorem pAdd_ss {x y : Str} {Q : R → Prop} : (pAdd (.str x) (.str y) Q) = ((x.length + y.length ≤ LIM ∧ Q (.v (.str (x ++ y))))) := rfl
theorem pMul_li {xs : List Dv} {k : Int} {Q : R → Prop} : (pMul (.lst xs) (.int k) Q) = (((-(2 ^ 63) ≤ k ∧ k < 2 ^ 63 ∧ xs.length * k.toNat ≤ LIM) ∧ Q (.nw (.lst (List.replicate k.toNat xs).flatten)))) := rfl
theorem pI2_ii {f : Int → Int → Bool} {i j : Int} {Q : R → Prop} : (pI2 f (.int i) (.int j) Q) = (Q (.v (.bl (f i j)))) := rfl
theorem pIsN_n {d : Dv} {Q : R → Prop} : (pIsN d .non Q) = (Q (.v (.bl (isN d)))) := rfl
theorem pNotN_n {d : Dv} {Q : R → Prop} : (pNotN d .non Q) = (Q (.v (.bl (!isN d)))) := rfl
theorem pIsB_b {d : Dv} {b : Bool} {Q : R → Prop} : (pIsB d (.bl b) Q) = (Q (.v (.bl (isB b d)))) := rfl
theorem pNotB_b {d : Dv} {b : Bool} {Q : R → Prop} : (pNotB d (.bl b) Q) = (Q (.v (.bl (!isB b d)))) := rfl
theorem pEq_ii {i j : Int} {Q : R → Prop} : (pEq (.int i) (.int j) Q) = (Q (.v (.bl (decide (i = j))))) := rfl
theorem pNe_ii {i j : Int} {Q : R → Prop} : (pNe (.int i) (.int j) Q) = (Q (.v (.bl (!decide (i = j))))) := rfl
theorem pEq_bl {x : Bool} {d : Dv} {Q : R → Prop} : (pEq (.bl x) d Q) = (((okD 8 (.bl x) = true ∧ okD 8 d = true) ∧ Q (.v (.bl (eqD (.bl x) d))))) := rfl
theorem pNe_bl {x : Bool} {d : Dv} {Q : R → Prop} : (pNe (.bl x) d Q) = (((okD 8 (.bl x) = true ∧ okD 8 d = true) ∧ Q (.v (.bl (!eqD (.bl x) d))))) := rfl
theorem pEq_tup {x : List Dv} {d : Dv} {Q : R → Prop} : (pEq (.tup x) d Q) = (((okD 8 (.tup x) = true ∧ okD 8 d = true) ∧ Q (.v (.bl (eqD (.tup x) d))))) := rfl
theorem pNe_tup {x : List Dv} {d : Dv} {Q : R → Prop} : (pNe (.tup x) d Q) = (((okD 8 (.tup x) = true ∧ okD 8 d = true) ∧ Q (.v (.bl (!eqD (.tup x) d))))) := rfl
theorem pEq_lst {x : List Dv} {d : Dv} {Q : R → Prop} : (pEq (.lst x) d Q) = (((okD 8 (.lst x) = true ∧ okD 8 d = true) ∧ Q (.v (.bl (eqD (.lst x) d))))) := rfl
theorem pNe_lst {x : List Dv} {d : Dv} {Q : R → Prop} : (pNe (.lst x) d Q) = (((okD 8 (.lst x) = true ∧ okD 8 d = true) ∧ Q (.v (.bl (!eqD (.lst x) d))))) := rfl
theorem pEq_str {x : Str} {d : Dv} {Q : R → Prop} : (pEq (.str x) d Q) = (((okD 8 (.str x) = true ∧ okD 8 d = true) ∧ Q (.v (.bl (eqD (.str x) d))))) := rfl
theorem pNe_str {x : Str} {d : Dv} {Q : R → Prop} : (pNe (.str x) d Q) = (((okD 8 (.str x) = true ∧ okD 8 d = true) ∧ Q (.v (.bl (!eqD (.str x) d))))) := rfl
theorem pEq_scr {x : List Int} {d : Dv} {Q : R → Prop} : (pEq (.scr x) d Q) = (((okD 8 (.scr x) = true ∧ okD 8 d = true) ∧ Q (.v (.bl (eqD (.scr x) d))))) := rfl
theorem pNe_scr {x : List Int} {d : Dv} {Q : R → Prop} : (pNe (.scr x) d Q) = (((okD 8 (.scr x) = true ∧ okD 8 d = true) ∧ Q (.v (.bl (!eqD (.scr x) d))))) := rfl
theorem pIx_l {xs : List Dv} {i : Int} {Q : R → Prop} : (pIx (.lst xs) (.int i) Q) = ((match atI xs i with | some d => Q (.v d) | none => False)) := rfl
theorem pIx_t {xs : List Dv} {i : Int} {Q : R → Prop} : (pIx (.tup xs) (.int i) Q) = ((match atI xs i with | some d => Q (.v d) | none => False)) := rfl
theorem pIx_s {ns : List Int} {i : Int} {Q : R → Prop} : (pIx (.scr ns) (.int i) Q) = ((match atI ns i with | some n => Q (.v (.int n)) | none => False)) := rfl
theorem pSl_l {xs : List Dv} {lo hi : Option Int} {Q : R → Prop} : (pSl (.lst xs) lo hi Q) = (Q (.nw (.lst (cut xs lo hi)))) := rfl
theorem pSl_s {ns : List Int} {lo hi : Option Int} {Q : R → Prop} : (pSl (.scr ns) lo hi Q) = (Q (.nw (.lst ((cut ns lo hi).map .int)))) := rfl
theorem pSl_t {xs : List Dv} {lo hi : Option Int} {Q : R → Prop} : (pSl (.tup xs) lo hi Q) = ((¬ (HT.sIx xs.length 0 lo = 0 ∧ HT.sIx xs.length xs.length hi = xs.length) ∧ Q (.v (.tup (cut xs lo hi))))) := rfl
theorem pLen_l {xs : List Dv} {Q : R → Prop} : (pLen [(.lst xs)] Q) = (Q (.v (.int xs.length))) := rfl
theorem pLen_t {xs : List Dv} {Q : R → Prop} : (pLen [(.tup xs)] Q) = (Q (.v (.int xs.length))) := rfl
theorem pLen_s {ns : List Int} {Q : R → Prop} : (pLen [.scr ns] Q) = (Q (.v (.int ns.length))) := rfl
theorem pAbs_i {i : Int} {Q : R → Prop} : (pAbs [.int i] Q) = (Q (.v (.int (if i < 0 then -i else i)))) := rfl
theorem pMin_i {i j : Int} {Q : R → Prop} : (pMin2 [.int i, .int j] Q) = (Q (.v (.int (if j < i then j else i)))) := rfl
theorem pMax_i {i j : Int} {Q : R → Prop} : (pMax2 [.int i, .int j] Q) = (Q (.v (.int (if j > i then j else i)))) := rfl
theorem pTuple_l {xs : List Dv} {Q : R → Prop} : (pTuple [.lst xs] Q) = (Q (.v (.tup xs))) := rfl
theorem pTuple_t {xs : List Dv} {Q : R → Prop} : (pTuple [.tup xs] Q) = (Q (.v (.tup xs))) := rfl
theorem pList_l {xs : List Dv} {Q : R → Prop} : (pList [.lst xs] Q) = (Q (.nw (.lst xs))) := rfl
theorem pList_t {xs : List Dv} {Q : R → Prop} : (pList [.tup xs] Q) = (Q (.nw (.lst xs))) := rfl
theorem pAll_l {ds : List Dv} {Q : R → Prop} : (pAll [.lst ds] Q) = ((∃ bs : List Bool, ds = bs.map .bl ∧ Q (.v (.bl (bs.all _root_.id))))) := rfl
theorem pSum_l {ds : List Dv} {Q : R → Prop} : (pSum [.lst ds] Q) = ((∃ ns : List Int, ds = ns.map .int ∧ Q (.v (.int ns.sum)))) := rfl
theorem Rd_v {d : Dv} : (R.d (.v d)) = (d) := rfl
theorem Rd_n {d : Dv} : (R.d (.nw d)) = (d) := rfl
theorem Rd_o {a : Addr} {d : Dv} : (R.d (.ow a d)) = (d) := rfl
theorem Ro_v {d : Dv} : (R.out (.v d)) = (.v d) := rfl
theorem Ro_n {d : Dv} : (R.out (.nw d)) = (.nw d) := rfl
theorem Ro_o {a : Addr} {d : Dv} : (R.out (.ow a d)) = (.nw d) := rfl
theorem Rf_v {d : Dv} : (R.free (.v d)) = (true) := rfl
theorem Rf_n {d : Dv} : (R.free (.nw d)) = (true) := rfl
theorem Rf_o {a : Addr} {d : Dv} : (R.free (.ow a d)) = (false) := rfl
theorem Rl_v {d : Dv} : (R.flat (.v d)) = (flatD d) := rfl
theorem Rl_n {d : Dv} : (R.flat (.nw d)) = (flatO d) := rfl
theorem Rl_o {a : Addr} {d : Dv} : (R.flat (.ow a d)) = (false) := rfl
theorem eqD_bb {a b : Bool} : (eqD (.bl a) (.bl b)) = ((a == b)) := by cases a <;> cases b <;> simp [eqD, pyD, PyData.eqv]
theorem compGo_nil {ρ0 : List Sl} {g : TGp} {tt : TTp} {te : TEp} {acc : List Dv} {Q : R → Prop} : (compGo ρ0 g tt te [] acc Q) = (Q (.nw (.lst acc))) := rfl
theorem compGo_cons {ρ0 : List Sl} {g : TGp} {tt : TTp} {te : TEp} {d : Dv} {r acc : List Dv} {Q : R → Prop} : (compGo ρ0 g tt te (d :: r) acc Q) = ((g d ρ0 fun ρ1 => tt ρ1 fun b => if b = true then te ρ1 fun v => (v.free = true ∧ acc.length < LIM) ∧ compGo ρ0 g tt te r (acc ++ [v.d]) Q else compGo ρ0 g tt te r acc Q)) := rfl
theorem atI_nat {α : Type} {xs : List α} {i : Int} (h0 : 0 ≤ i) (h1 : i < xs.length) : atI xs i = xs[i.toNat]? := by
  unfold atI ixN
  rw [if_pos h0, if_pos h1]
  rfl
theorem atI_0 {α : Type} {x : α} {r : List α} : atI (x :: r) 0 = some x := by rw [atI_nat (by decide) (by simp <;> omega)]; rfl
theorem atI_1 {α : Type} {x y : α} {r : List α} : atI (x :: y :: r) 1 = some y := by rw [atI_nat (by decide) (by simp <;> omega)]; rfl
theorem atI_2 {α : Type} {x y z : α} {r : List α} : atI (x :: y :: z :: r) 2 = some z := by rw [atI_nat (by decide) (by simp <;> omega)]; rfl
theorem atI_3 {α : Type} {x y z w : α} {r : List α} : atI (x :: y :: z :: w :: r) 3 = some w := by rw [atI_nat (by decide) (by simp <;> omega)]; rfl
theorem atI_4 {α : Type} {x y z w v : α} {r : List α} : atI (x :: y :: z :: w :: v :: r) 4 = some v := by rw [atI_nat (by decide) (by simp <;> omega)]; rfl
theorem ixN_nat {n : Nat} {i : Int} (h0 : 0 ≤ i) (h1 : i < n) : ixN n i = some i.toNat := by
  unfold ixN
  rw [if_pos h0, if_pos h1]
theorem isB_bb {b c : Bool} : isB b (.bl c) = (c == b) := rfl
theorem isB_int {b : Bool} {i : Int} : isB b (.int i) = false := rfl
theorem isN_n : isN .non = true := rfl
theorem isN_b {b : Bool} : isN (.bl b) = false := rfl
theorem isN_i {i : Int} : isN (.int i) = false := rfl
theorem isN_s {i : Str} : isN (.str i) = false := rfl
theorem isN_t {i : List Dv} : isN (.tup i) = false := rfl
theorem isN_l {i : List Dv} : isN (.lst i) = false := rfl
theorem isN_o {C : Addr} {i : List (Str × Dv)} : isN (.obj C i) = false := rfl
theorem truD_b {b : Bool} : truD (.bl b) = some b := rfl
theorem truD_n : truD .non = some false := rfl
theorem truD_i {i : Int} : truD (.int i) = some (i != 0) := rfl
theorem truD_l {xs : List Dv} : truD (.lst xs) = some (!xs.isEmpty) := rfl
theorem truD_t {xs : List Dv} : truD (.tup xs) = some (!xs.isEmpty) := rfl
theorem truD_k {xs : List (Key × Dv)} : truD (.dik xs) = some (!xs.isEmpty) := rfl
theorem truD_s {xs : List Int} : truD (.scr xs) = some (!xs.isEmpty) := rfl
theorem ixN_10 : ixN 1 0 = some 0 := rfl
theorem ixN_20 : ixN 2 0 = some 0 := rfl
theorem ixN_21 : ixN 2 1 = some 1 := rfl
theorem ixN_30 : ixN 3 0 = some 0 := rfl
theorem ixN_31 : ixN 3 1 = some 1 := rfl
theorem ixN_32 : ixN 3 2 = some 2 := rfl
theorem ixN_40 : ixN 4 0 = some 0 := rfl
theorem ixN_41 : ixN 4 1 = some 1 := rfl
theorem ixN_42 : ixN 4 2 = some 2 := rfl
theorem ixN_43 : ixN 4 3 = some 3 := rfl
theorem ixN_50 : ixN 5 0 = some 0 := rfl
theorem ixN_51 : ixN 5 1 = some 1 := rfl
theorem ixN_52 : ixN 5 2 = some 2 := rfl
theorem ixN_53 : ixN 5 3 = some 3 := rfl
theorem ixN_54 : ixN 5 4 = some 4 := rfl
theorem rangeD_nil {lo : Int} : rangeD lo 0 = [] := rfl
theorem rangeD_cons {lo : Int} {n : Nat} : rangeD lo (n + 1) = .int lo :: rangeD (lo + 1) n := by
  unfold rangeD
  rw [List.range_succ_eq_map, List.map_cons, List.map_map]
  congr 1
  · simp
  · apply List.map_congr_left
    intro k _
    show Dv.int _ = Dv.int _
    congr 1
    show lo + ((k + 1 : Nat) : Int) = lo + 1 + k
    omega
theorem pIAdd_ii {i j : Int} {Q : R → Prop} : (pIAdd (.int i) (.int j) Q) = (Q (.v (.int (i + j)))) := rfl
theorem pISub_ii {i j : Int} {Q : R → Prop} : (pISub (.int i) (.int j) Q) = (Q (.v (.int (i - j)))) := rfl
theorem pIMul_ii {i j : Int} {Q : R → Prop} : (pIMul (.int i) (.int j) Q) = (CMulG i j ∧ Q (.v (.int (i * j)))) := rfl
theorem cut_from {α : Type} {xs : List α} {k : Int} (h0 : 0 ≤ k) : cut xs (some k) none = xs.drop k.toNat := by
  unfold cut
  have e : HT.sIx xs.length 0 (some k) = min k.toNat xs.length := by show (if k < 0 then _ else _) = _; rw [if_neg (by omega)]
  rw [e, HT.sIx_none]
  rcases Nat.le_total k.toNat xs.length with h | h
  · rw [Nat.min_eq_left h]
    exact List.take_of_length_le (by rw [List.length_drop]; exact Nat.le_refl _)
  · rw [Nat.min_eq_right h, List.drop_of_length_le (Nat.le_refl _), List.drop_of_length_le h, List.take_nil]
theorem cut_to {α : Type} {xs : List α} {k : Int} (h0 : 0 ≤ k) : cut xs none (some k) = xs.take k.toNat := by
  unfold cut
  have e : HT.sIx xs.length xs.length (some k) = min k.toNat xs.length := by show (if k < 0 then _ else _) = _; rw [if_neg (by omega)]
  rw [e, HT.sIx_none, List.drop_zero, Nat.sub_zero]
  rcases Nat.le_total k.toNat xs.length with h | h
  · rw [Nat.min_eq_left h]
  · rw [Nat.min_eq_right h, List.take_of_length_le (Nat.le_refl _), List.take_of_length_le h]
theorem startM_c {a : Addr} {N : List Str} {d : Dv} {ds : List Dv} : startM a N (d :: ds) = .own a d :: (ds.map .v ++ List.replicate (N.length - (ds.length + 1)) .un) := rfl
theorem pShl_ii {i j : Int} {Q : R → Prop} : (pShl (.int i) (.int j) Q) = (CPow i j ∧ Q (.v (.int (i * 2 ^ j.toNat)))) := rfl
theorem kD_inj : ∀ {a b : List Key}, a.map kD = b.map kD → a = b
  | [], [], _ => rfl
  | [], _ :: _, h => by cases h
  | _ :: _, [], h => by cases h
  | a :: r, b :: t, h => by
    rw [List.map_cons, List.map_cons] at h
    injection h with h1 h2
    have e : a = b := by cases a <;> cases b <;> first | (injection h1 with h1; rw [h1]) | cases h1
    rw [e, kD_inj h2]
theorem pIx_d2 {kvs : List (List Key × Dv)} {a b : Int} {Q : R → Prop} : (pIx (.dit kvs) (.tup [.int a, .int b]) Q) = (match kvs.find? (fun kv => decide (kv.1 = [Sum.inl a, Sum.inl b])) with | some kv => Q (.v kv.2) | none => False) := by
  apply propext
  constructor
  · rintro ⟨k, e, h⟩
    have : k = [Sum.inl a, Sum.inl b] := kD_inj (e.symm.trans rfl)
    subst this
    exact h
  · exact fun h => ⟨[Sum.inl a, Sum.inl b], rfl, h⟩
theorem zc : (type_of% @beq_self_eq_true.{0}) ∧ (type_of% @List.getElem?_cons_zero.{0}) ∧ (type_of% @List.getElem?_cons_succ.{0}) ∧ (type_of% @List.set_cons_zero.{0}) ∧ (type_of% @List.set_cons_succ.{0}) ∧ (type_of% @List.map_cons.{0, 0}) ∧ (type_of% @List.map_nil.{0, 0}) ∧ (type_of% @List.cons_append.{0}) ∧ (type_of% @List.nil_append.{0}) ∧ (type_of% @List.append_nil.{0}) ∧ (type_of% @List.length_cons.{0}) ∧ (type_of% @List.length_nil.{0}) ∧ (type_of% @List.replicate_succ.{0}) ∧ (type_of% @List.replicate_zero.{0}) ∧ (type_of% @List.all_cons.{0}) ∧ (type_of% @List.all_nil.{0}) ∧ (type_of% @Option.getD_some.{0}) ∧ (type_of% @Bool.and_true) ∧ (type_of% @Bool.true_and) ∧ (type_of% @if_true.{1}) ∧ (type_of% @Bool.false_eq_true) ∧ (type_of% @if_false.{1}) ∧ (type_of% @true_and) ∧ (type_of% @and_true) ∧ (type_of% @true_or) ∧ (type_of% @decide_eq_true_eq) ∧ (type_of% @decide_true) ∧ (type_of% @decide_false) ∧ (type_of% @Bool.not_true) ∧ (type_of% @Bool.not_false) ∧ (type_of% @List.not_mem_nil.{0}) ∧ (type_of% @false_imp_iff) ∧ (type_of% @implies_true.{1}) :=
  ⟨@beq_self_eq_true.{0}, @List.getElem?_cons_zero.{0}, @List.getElem?_cons_succ.{0}, @List.set_cons_zero.{0}, @List.set_cons_succ.{0}, @List.map_cons.{0, 0}, @List.map_nil.{0, 0}, @List.cons_append.{0}, @List.nil_append.{0}, @List.append_nil.{0}, @List.length_cons.{0}, @List.length_nil.{0}, @List.replicate_succ.{0}, @List.replicate_zero.{0}, @List.all_cons.{0}, @List.all_nil.{0}, @Option.getD_some.{0}, @Bool.and_true, @Bool.true_and, @if_true.{1}, @Bool.false_eq_true, @if_false.{1}, @true_and, @and_true, @true_or, @decide_eq_true_eq, @decide_true, @decide_false, @Bool.not_true, @Bool.not_false, @List.not_mem_nil.{0}, @false_imp_iff, @implies_true.{1}⟩
theorem zt : (type_of% @eDT.eq_1) ∧ (type_of% @sPut.eq_1) ∧ (type_of% @sClear.eq_1) ∧ (type_of% @sReverse.eq_1) ∧ (type_of% @pIx_d2) ∧ (type_of% @eTR1.eq_1) ∧ (type_of% @pShl_ii) ∧ (type_of% @sExt.eq_1) ∧ (type_of% @sAttr.eq_1) ∧ (type_of% @eMake.eq_1) ∧ (type_of% @sMov.eq_1) ∧ (type_of% @eMeth.eq_1) ∧ (type_of% @eFld.eq_1) ∧ (type_of% @startI.eq_1) ∧ (type_of% @startM_c) ∧ (type_of% @sAsg.eq_1) ∧ (type_of% @pIAdd_ii) ∧ (type_of% @pISub_ii) ∧ (type_of% @pIMul_ii) ∧ (type_of% @iRange3.eq_1) ∧ (type_of% @iEnumP.eq_1) ∧ (type_of% @iZipP.eq_1) ∧ (type_of% @eLR1.eq_1) ∧ (type_of% @eLR2.eq_1) ∧ (type_of% @sSeq.eq_1) ∧ (type_of% @sNext.eq_1) ∧ (type_of% @sBreak.eq_1) ∧ (type_of% @sCont.eq_1) ∧ (type_of% @sNever.eq_1) ∧ (type_of% @sDrop.eq_1) ∧ (type_of% @sRet.eq_1) ∧ (type_of% @sRetN.eq_1) ∧ (type_of% @sIf.eq_1) ∧ (type_of% @sSet.eq_1) ∧ (type_of% @sSetO.eq_1) ∧ (type_of% @sFrz.eq_1) ∧ (type_of% @freeze.eq_1) ∧ (type_of% @sAug.eq_1) ∧ (type_of% @sApp.eq_1) ∧ (type_of% @sSetI.eq_1) ∧ (type_of% @sFor.eq_1) ∧ (type_of% @eVar.eq_1) ∧ (type_of% @eC.eq_1) ∧ (type_of% @eCons.eq_1) ∧ (type_of% @eNil.eq_1) ∧ (type_of% @eOp.eq_1) ∧ (type_of% @eTest.eq_1) ∧ (type_of% @eAnd.eq_1) ∧ (type_of% @eOr.eq_1) ∧ (type_of% @eNot.eq_1) ∧ (type_of% @eAndV.eq_1) ∧ (type_of% @eOrV.eq_1) ∧ (type_of% @eNotV.eq_1) ∧ (type_of% @eIf.eq_1) ∧ (type_of% @eTup.eq_1) ∧ (type_of% @eLst.eq_1) ∧ (type_of% @eNeg.eq_1) ∧ (type_of% @eTru.eq_1) ∧ (type_of% @eCall.eq_1) ∧ (type_of% @back.eq_1) ∧ (type_of% @eCB.eq_1) ∧ (type_of% @eIsi.eq_1) ∧ (type_of% @eComp.eq_1) ∧ (type_of% @tTrue.eq_1) ∧ (type_of% @eSl.eq_1) ∧ (type_of% @ePart.eq_1) ∧ (type_of% @eNoPart.eq_1) ∧ (type_of% @iSeq.eq_1) ∧ (type_of% @iRange1.eq_1) ∧ (type_of% @iRange2.eq_1) ∧ (type_of% @gN.eq_1) ∧ (type_of% @gT.eq_1) ∧ (type_of% @startP.eq_1) ∧ (type_of% @eChain.eq_1) ∧ (type_of% @pAdd_ii) ∧ (type_of% @pSub_ii) ∧ (type_of% @pMul_ii) ∧ (type_of% @pDiv_ii) ∧ (type_of% @pDivG_ii) ∧ (type_of% @pMod_ii) ∧ (type_of% @pModG_ii) ∧ (type_of% @pPow_ii) ∧ (type_of% @pAdd_ll) ∧ (type_of% @pAdd_ss) ∧ (type_of% @pMul_li) ∧ (type_of% @pI2_ii) ∧ (type_of% @pIsN_n) ∧ (type_of% @pNotN_n) ∧ (type_of% @pIsB_b) ∧ (type_of% @pNotB_b) ∧ (type_of% @pEq_ii) ∧ (type_of% @pNe_ii) ∧ (type_of% @pEq_bl) ∧ (type_of% @pNe_bl) ∧ (type_of% @pEq_tup) ∧ (type_of% @pNe_tup) ∧ (type_of% @pEq_lst) ∧ (type_of% @pNe_lst) ∧ (type_of% @pEq_str) ∧ (type_of% @pNe_str) ∧ (type_of% @pEq_scr) ∧ (type_of% @pNe_scr) ∧ (type_of% @pIx_l) ∧ (type_of% @pIx_t) ∧ (type_of% @pIx_s) ∧ (type_of% @pSl_l) ∧ (type_of% @pSl_s) ∧ (type_of% @pSl_t) ∧ (type_of% @pLen_l) ∧ (type_of% @pLen_t) ∧ (type_of% @pLen_s) ∧ (type_of% @pAbs_i) ∧ (type_of% @pMin_i) ∧ (type_of% @pMax_i) ∧ (type_of% @pTuple_l) ∧ (type_of% @pTuple_t) ∧ (type_of% @pList_l) ∧ (type_of% @pList_t) ∧ (type_of% @pAll_l) ∧ (type_of% @pSum_l) ∧ (type_of% @compGo_nil) ∧ (type_of% @compGo_cons) ∧ (type_of% @pickP.eq_1) :=
  ⟨@eDT.eq_1, @sPut.eq_1, @sClear.eq_1, @sReverse.eq_1, @pIx_d2, @eTR1.eq_1, @pShl_ii, @sExt.eq_1, @sAttr.eq_1, @eMake.eq_1, @sMov.eq_1, @eMeth.eq_1, @eFld.eq_1, @startI.eq_1, @startM_c, @sAsg.eq_1, @pIAdd_ii, @pISub_ii, @pIMul_ii, @iRange3.eq_1, @iEnumP.eq_1, @iZipP.eq_1, @eLR1.eq_1, @eLR2.eq_1, @sSeq.eq_1, @sNext.eq_1, @sBreak.eq_1, @sCont.eq_1, @sNever.eq_1, @sDrop.eq_1, @sRet.eq_1, @sRetN.eq_1, @sIf.eq_1, @sSet.eq_1, @sSetO.eq_1, @sFrz.eq_1, @freeze.eq_1, @sAug.eq_1, @sApp.eq_1, @sSetI.eq_1, @sFor.eq_1, @eVar.eq_1, @eC.eq_1, @eCons.eq_1, @eNil.eq_1, @eOp.eq_1, @eTest.eq_1, @eAnd.eq_1, @eOr.eq_1, @eNot.eq_1, @eAndV.eq_1, @eOrV.eq_1, @eNotV.eq_1, @eIf.eq_1, @eTup.eq_1, @eLst.eq_1, @eNeg.eq_1, @eTru.eq_1, @eCall.eq_1, @back.eq_1, @eCB.eq_1, @eIsi.eq_1, @eComp.eq_1, @tTrue.eq_1, @eSl.eq_1, @ePart.eq_1, @eNoPart.eq_1, @iSeq.eq_1, @iRange1.eq_1, @iRange2.eq_1, @gN.eq_1, @gT.eq_1, @startP.eq_1, @eChain.eq_1, @pAdd_ii, @pSub_ii, @pMul_ii, @pDiv_ii, @pDivG_ii, @pMod_ii, @pModG_ii, @pPow_ii, @pAdd_ll, @pAdd_ss, @pMul_li, @pI2_ii, @pIsN_n, @pNotN_n, @pIsB_b, @pNotB_b, @pEq_ii, @pNe_ii, @pEq_bl, @pNe_bl, @pEq_tup, @pNe_tup, @pEq_lst, @pNe_lst, @pEq_str, @pNe_str, @pEq_scr, @pNe_scr, @pIx_l, @pIx_t, @pIx_s, @pSl_l, @pSl_s, @pSl_t, @pLen_l, @pLen_t, @pLen_s, @pAbs_i, @pMin_i, @pMax_i, @pTuple_l, @pTuple_t, @pList_l, @pList_t, @pAll_l, @pSum_l, @compGo_nil, @compGo_cons, @pickP.eq_1⟩
theorem zo : (type_of% @Rd_v) ∧ (type_of% @Rd_n) ∧ (type_of% @Rd_o) ∧ (type_of% @Ro_v) ∧ (type_of% @Ro_n) ∧ (type_of% @Ro_o) ∧ (type_of% @Rf_v) ∧ (type_of% @Rf_n) ∧ (type_of% @Rf_o) ∧ (type_of% @Rl_v) ∧ (type_of% @Rl_n) ∧ (type_of% @Rl_o) ∧ (type_of% @eqD_bb) ∧ (type_of% @forGo_nil) ∧ (type_of% @forGo_cons) ∧ (type_of% @isB_bb) ∧ (type_of% @isB_int) ∧ (type_of% @isN_n) ∧ (type_of% @isN_b) ∧ (type_of% @isN_i) ∧ (type_of% @isN_s) ∧ (type_of% @isN_t) ∧ (type_of% @isN_l) ∧ (type_of% @isN_o) ∧ (type_of% @truD_b) ∧ (type_of% @truD_n) ∧ (type_of% @truD_i) ∧ (type_of% @truD_l) ∧ (type_of% @truD_t) ∧ (type_of% @truD_k) ∧ (type_of% @truD_s) ∧ (type_of% @atI_0) ∧ (type_of% @atI_1) ∧ (type_of% @atI_2) ∧ (type_of% @atI_3) ∧ (type_of% @atI_4) ∧ (type_of% @ixN_10) ∧ (type_of% @ixN_20) ∧ (type_of% @ixN_21) ∧ (type_of% @ixN_30) ∧ (type_of% @ixN_31) ∧ (type_of% @ixN_32) ∧ (type_of% @ixN_40) ∧ (type_of% @ixN_41) ∧ (type_of% @ixN_42) ∧ (type_of% @ixN_43) ∧ (type_of% @ixN_50) ∧ (type_of% @ixN_51) ∧ (type_of% @ixN_52) ∧ (type_of% @ixN_53) ∧ (type_of% @ixN_54) :=
  ⟨@Rd_v, @Rd_n, @Rd_o, @Ro_v, @Ro_n, @Ro_o, @Rf_v, @Rf_n, @Rf_o, @Rl_v, @Rl_n, @Rl_o, @eqD_bb, @forGo_nil, @forGo_cons, @isB_bb, @isB_int, @isN_n, @isN_b, @isN_i, @isN_s, @isN_t, @isN_l, @isN_o, @truD_b, @truD_n, @truD_i, @truD_l, @truD_t, @truD_k, @truD_s, @atI_0, @atI_1, @atI_2, @atI_3, @atI_4, @ixN_10, @ixN_20, @ixN_21, @ixN_30, @ixN_31, @ixN_32, @ixN_40, @ixN_41, @ixN_42, @ixN_43, @ixN_50, @ixN_51, @ixN_52, @ixN_53, @ixN_54⟩
end Z
namespace Z
open PySem PySem.Spec PyProof.Rows L2
theorem start_low {K : PySem.W.Frag} {H : Hp} {a : Addr} {ns : List Int} {sp : Fn} (h : ∀ Q : R → Prop, Q (.v (.bl true)) → sp [.scr ns] Q) (hO : Only H) (hS : SqL K H a (ns.map V.int)) : low K sp [.ref a] H (fun v _ => v = .bl true) (fun _ _ _ => False) := by
  refine ⟨fun _ => False, [.scr ns], fun _ z => z.elim, .cons (.scr ?_) .nil, h _ fun x H' S r => ?_⟩
  · rcases hS with (h | h) | h
    · rcases hO a with z | ⟨o, xs, z⟩
      · rw [z] at h; cases h
      · rw [z] at h; cases h
    · exact .inl h
    · exact .inr h
  · have r' : Rep K (fun _ => False) H' x (.bl true) := r
    cases r'
    rfl
end Z
namespace Dt
def sm (g : Nat → Rat) : Nat → Rat
  | 0 => 0
  | n + 1 => sm g n + g n
def sk (j k : Nat) : Nat := if k < j then k else k + 1
def sg (j : Nat) : Rat := if j % 2 = 0 then 1 else -1
def D : Nat → (Nat → Nat → Rat) → Rat
  | 0, _ => 1
  | n + 1, A => sm (fun j => sg j * A 0 j * D n (fun i k => A (i + 1) (sk j k))) (n + 1)
theorem sm_congr {f g : Nat → Rat} : ∀ n, (∀ i, i < n → f i = g i) → sm f n = sm g n
  | 0, _ => rfl
  | n + 1, h => by rw [sm, sm, sm_congr n fun i hi => h i (by omega), h n (by omega)]
theorem sm_zero {f : Nat → Rat} : ∀ n, (∀ i, i < n → f i = 0) → sm f n = 0
  | 0, _ => rfl
  | n + 1, h => by rw [sm, sm_zero n fun i hi => h i (by omega), h n (by omega)]; grind
theorem sm_lin {f g : Nat → Rat} {c : Rat} : ∀ n, sm (fun i => f i + c * g i) n = sm f n + c * sm g n
  | 0 => by simp only [sm]; grind
  | n + 1 => by rw [sm, sm, sm, sm_lin n]; grind
theorem sm_neg {f : Nat → Rat} : ∀ n, sm (fun i => - f i) n = - sm f n
  | 0 => by simp only [sm]; grind
  | n + 1 => by rw [sm, sm, sm_neg n]; grind
theorem sm_mul {f : Nat → Rat} {c : Rat} : ∀ n, sm (fun i => c * f i) n = c * sm f n
  | 0 => by simp only [sm]; grind
  | n + 1 => by rw [sm, sm, sm_mul n]; grind
theorem sm_head {f : Nat → Rat} : ∀ n, (∀ i, 1 ≤ i → i < n + 1 → f i = 0) → sm f (n + 1) = f 0
  | 0, _ => by simp only [sm]; grind
  | n + 1, h => by rw [sm, sm_head n fun i a b => h i a (by omega), h (n + 1) (by omega) (by omega)]; grind
theorem sk_lt {n j k : Nat} (hk : k < n) : sk j k < n + 1 := by unfold sk; split <;> omega
theorem D_congr : ∀ (n : Nat) {A B : Nat → Nat → Rat}, (∀ i j, i < n → j < n → A i j = B i j) → D n A = D n B
  | 0, _, _, _ => rfl
  | n + 1, A, B, h => by
    rw [D, D]
    refine sm_congr _ fun j hj => ?_
    rw [h 0 j (by omega) hj, D_congr n fun i k hi hk => h (i + 1) (sk j k) (by omega) (sk_lt hk)]
def rr (A : Nat → Nat → Rat) (r : Nat) (v : Nat → Rat) : Nat → Nat → Rat := fun i j => if i = r then v j else A i j
theorem rr_minor (A : Nat → Nat → Rat) (r j : Nat) (v : Nat → Rat) : (fun i k => rr A (r + 1) v (i + 1) (sk j k)) = rr (fun i k => A (i + 1) (sk j k)) r fun k => v (sk j k) := by
  funext i k
  unfold rr
  by_cases h : i = r
  · rw [if_pos (by omega), if_pos h]
  · rw [if_neg (by omega), if_neg h]
theorem D_lin : ∀ (n : Nat) (A : Nat → Nat → Rat) (r : Nat) (u v : Nat → Rat) (c : Rat), r < n → D n (rr A r fun j => u j + c * v j) = D n (rr A r u) + c * D n (rr A r v)
  | 0, _, _, _, _, _, h => by omega
  | n + 1, A, r, u, v, c, h => by
    rw [D, D, D, ← sm_lin]
    refine sm_congr _ fun j _ => ?_
    cases r with
    | zero =>
      have e : ∀ w : Nat → Rat, (fun i k => rr A 0 w (i + 1) (sk j k)) = fun i k => A (i + 1) (sk j k) := fun w => by funext i k; unfold rr; rw [if_neg (by omega)]
      rw [e, e, e]
      have z : ∀ w : Nat → Rat, rr A 0 w 0 j = w j := fun w => by unfold rr; rw [if_pos rfl]
      rw [z, z, z]
      grind
    | succ r =>
      rw [rr_minor, rr_minor, rr_minor, D_lin n _ r _ _ c (by omega)]
      have z : ∀ w : Nat → Rat, rr A (r + 1) w 0 j = A 0 j := fun w => by unfold rr; rw [if_neg (by omega)]
      rw [z, z, z]
      grind
def sw (r s i : Nat) : Nat := if i = r then s else if i = s then r else i
def Alt (n : Nat) : Prop := ∀ (A : Nat → Nat → Rat) (r s : Nat), r < s → s < n → (∀ j, A r j = A s j) → D n A = 0
theorem rr_self (A : Nat → Nat → Rat) (r : Nat) : rr A r (A r) = A := by
  funext i j
  unfold rr
  split
  · rename_i h; rw [h]
  · rfl
theorem swap_of {n : Nat} (al : Alt n) (A : Nat → Nat → Rat) {r s : Nat} (hrs : r < s) (hs : s < n) : D n (fun i j => A (sw r s i) j) = - D n A := by
  have C : ∀ x y : Nat → Rat, rr (rr A r x) s y r = x := fun x y => by funext j; unfold rr; rw [if_neg (by omega), if_pos rfl]
  have C' : ∀ x y : Nat → Rat, rr (rr A r x) s y s = y := fun x y => by funext j; unfold rr; rw [if_pos rfl]
  have comm : ∀ x y : Nat → Rat, rr (rr A r x) s y = rr (rr A s y) r x := fun x y => by
    funext i j
    unfold rr
    by_cases h1 : i = s
    · rw [if_pos h1, if_neg (by omega), if_pos h1]
    · rw [if_neg h1, if_neg h1]
  have z : ∀ x : Nat → Rat, D n (rr (rr A r x) s x) = 0 := fun x => al _ r s hrs hs fun j => by rw [C, C']
  have l1 : ∀ x x' y : Nat → Rat, D n (rr (rr A r fun j => x j + 1 * x' j) s y) = D n (rr (rr A r x) s y) + 1 * D n (rr (rr A r x') s y) := fun x x' y => by
    rw [comm, comm, comm]
    exact D_lin n _ r x x' 1 (by omega)
  have l2 : ∀ x y y' : Nat → Rat, D n (rr (rr A r x) s fun j => y j + 1 * y' j) = D n (rr (rr A r x) s y) + 1 * D n (rr (rr A r x) s y') := fun x y y' => D_lin n _ s y y' 1 hs
  have h0 := z fun j => A r j + 1 * A s j
  rw [l1, l2, l2] at h0
  have e1 := z (A r)
  have e2 := z (A s)
  have e3 : rr (rr A r (A r)) s (A s) = A := by rw [rr_self, rr_self]
  have e4 : rr (rr A r (A s)) s (A r) = fun i j => A (sw r s i) j := by
    funext i j
    unfold rr sw
    by_cases h1 : i = s
    · rw [if_pos h1, if_neg (by omega), if_pos h1]
    · rw [if_neg h1]
      by_cases h2 : i = r
      · rw [if_pos h2, if_pos h2]
      · rw [if_neg h2, if_neg h2, if_neg h1]
  have f1 : D n (rr (rr A r fun j => A r j) s fun j => A r j) = 0 := e1
  have f2 : D n (rr (rr A r fun j => A s j) s fun j => A s j) = 0 := e2
  have f3 : D n (rr (rr A r fun j => A r j) s fun j => A s j) = D n A := by
    show D n (rr (rr A r (A r)) s (A s)) = _
    rw [e3]
  have f4 : D n (rr (rr A r fun j => A s j) s fun j => A r j) = D n (fun i j => A (sw r s i) j) := by
    show D n (rr (rr A r (A s)) s (A r)) = _
    rw [e4]
  rw [f1, f2, f3, f4] at h0
  grind
theorem pair_zero {f : Nat → Nat → Rat} : ∀ N, (∀ j k, j ≤ k → k < N → f j k + f (k + 1) j = 0) → sm (fun j => sm (f j) N) (N + 1) = 0
  | 0, _ => by simp only [sm]; grind
  | N + 1, h => by
    have ih := pair_zero N fun j k a b => h j k a (by omega)
    have e1 : sm (fun j => sm (f j) (N + 1)) (N + 1) = sm (fun j => sm (f j) N) (N + 1) + sm (fun j => f j N) (N + 1) := by
      have := sm_lin (f := fun j => sm (f j) N) (g := fun j => f j N) (c := 1) (N + 1)
      have e : (fun j => sm (f j) (N + 1)) = fun j => sm (f j) N + 1 * f j N := by funext j; rw [sm]; grind
      rw [e, this]
      grind
    rw [sm, e1, ih]
    have e2 : sm (f (N + 1)) (N + 1) = - sm (fun j => f j N) (N + 1) := by
      rw [← sm_neg]
      refine sm_congr _ fun j hj => ?_
      have := h j N (by omega) (by omega)
      grind
    rw [e2]
    grind
theorem sk_sk {j k l : Nat} (h : j ≤ k) : sk j (sk k l) = sk (k + 1) (sk j l) := by unfold sk; split <;> split <;> (try split) <;> first | omega | (split <;> omega)
theorem sg_succ (k : Nat) : sg (k + 1) = - sg k := by
  unfold sg
  rcases Nat.mod_two_eq_zero_or_one k with h | h
  · rw [if_neg (show ¬ (k + 1) % 2 = 0 by omega), if_pos h]
  · rw [if_pos (show (k + 1) % 2 = 0 by omega), if_neg (show ¬ k % 2 = 0 by omega)]; grind
theorem alt_two (n : Nat) (A : Nat → Nat → Rat) (h : ∀ j, A 0 j = A 1 j) : D (n + 2) A = 0 := by
  have e : D (n + 2) A = sm (fun j => sm (fun k => sg j * A 0 j * (sg k * A 0 (sk j k) * D n (fun i l => A (i + 2) (sk j (sk k l))))) (n + 1)) (n + 2) := by
    rw [D]
    refine sm_congr _ fun j _ => ?_
    rw [D, ← sm_mul]
    refine sm_congr _ fun k _ => ?_
    rw [h (sk j k)]
  rw [e]
  refine pair_zero (n + 1) fun j k hj hk => ?_
  have e1 : sk j k = k + 1 := by unfold sk; rw [if_neg (by omega)]
  have e2 : sk (k + 1) j = j := by unfold sk; rw [if_pos (by omega)]
  have e3 : (fun i l => A (i + 2) (sk j (sk k l))) = fun i l => A (i + 2) (sk (k + 1) (sk j l)) := by funext i l; rw [sk_sk hj]
  rw [e1, e2, e3, sg_succ]
  grind
theorem alt : ∀ n, Alt n
  | 0 => fun _ _ _ _ h => by omega
  | n + 1 => fun A r s hrs hs h => by
    have ih := alt n
    cases r with
    | succ r =>
      rw [D]
      refine sm_zero _ fun j _ => ?_
      rw [ih (fun i k => A (i + 1) (sk j k)) r (s - 1) (by omega) (by omega) fun k => ?_]
      · grind
      · show A (r + 1) (sk j k) = A (s - 1 + 1) (sk j k)
        rw [show s - 1 + 1 = s by omega]
        exact h _
    | zero =>
      obtain ⟨m, rfl⟩ : ∃ m, n = m + 1 := ⟨n - 1, by omega⟩
      by_cases h1 : s = 1
      · subst h1
        exact alt_two m A h
      · have e : D (m + 2) (fun i j => A (sw 1 s i) j) = - D (m + 2) A := by
          rw [D, D, ← sm_neg]
          refine sm_congr _ fun j _ => ?_
          have := swap_of ih (fun i k => A (i + 1) (sk j k)) (r := 0) (s := s - 1) (by omega) (by omega)
          have e2 : (fun i k => A (sw 1 s (i + 1)) (sk j k)) = fun i k => (fun i k => A (i + 1) (sk j k)) (sw 0 (s - 1) i) k := by
            funext i k
            show A _ _ = A _ _
            congr 1
            unfold sw
            by_cases a : i = 0
            · rw [if_pos (by omega), if_pos a]; omega
            · rw [if_neg (by omega), if_neg a]
              by_cases b : i = s - 1
              · rw [if_pos (by omega), if_pos b]
              · rw [if_neg (by omega), if_neg b]
          rw [e2, this, show sw 1 s 0 = 0 by unfold sw; rw [if_neg (by omega), if_neg (by omega)]]
          grind
        have z := alt_two m (fun i j => A (sw 1 s i) j) fun j => by
          show A (sw 1 s 0) j = A (sw 1 s 1) j
          rw [show sw 1 s 0 = 0 by unfold sw; rw [if_neg (by omega), if_neg (by omega)], show sw 1 s 1 = s by unfold sw; rw [if_pos rfl]]
          exact h j
        rw [z] at e
        grind
theorem D_swap {n r s : Nat} (A : Nat → Nat → Rat) (hrs : r < s) (hs : s < n) : D n (fun i j => A (sw r s i) j) = - D n A := swap_of (alt n) A hrs hs
theorem D_zero : ∀ (n : Nat) (A : Nat → Nat → Rat), 1 ≤ n → (∀ i, i < n → A i 0 = 0) → D n A = 0
  | 0, _, h, _ => by omega
  | n + 1, A, _, h => by
    rw [D]
    refine sm_zero _ fun j hj => ?_
    by_cases e : j = 0
    · rw [e, h 0 (by omega)]; grind
    · rw [D_zero n (fun i k => A (i + 1) (sk j k)) (by omega) fun i hi => ?_]
      · grind
      · show A (i + 1) (sk j 0) = 0
        rw [show sk j 0 = 0 by unfold sk; rw [if_pos (by omega)]]
        exact h _ (by omega)
theorem D_one (n : Nat) (A : Nat → Nat → Rat) (h : ∀ i, i < n → A (i + 1) 0 = 0) : D (n + 1) A = A 0 0 * D n (fun i j => A (i + 1) (j + 1)) := by
  rw [D, sm_head n fun j a b => ?_]
  · have e : (fun i k => A (i + 1) (sk 0 k)) = fun i j => A (i + 1) (j + 1) := by funext i k; rfl
    rw [e, show sg 0 = 1 from rfl]
    grind
  · rw [D_zero n (fun i k => A (i + 1) (sk j k)) (by omega) fun i hi => ?_]
    · grind
    · show A (i + 1) (sk j 0) = 0
      rw [show sk j 0 = 0 by unfold sk; rw [if_pos (by omega)]]
      exact h i hi
def el (A : Nat → Nat → Rat) : Nat → Nat → Rat := fun i j => A (i + 1) (j + 1) - A (i + 1) 0 / A 0 0 * A 0 (j + 1)
def clr (A : Nat → Nat → Rat) (m : Nat) : Nat → Nat → Rat := fun i j => if 1 ≤ i ∧ i ≤ m then A i j + - (A i 0 / A 0 0) * A 0 j else A i j
theorem clr_D (n : Nat) (A : Nat → Nat → Rat) : ∀ m, m ≤ n → D (n + 1) (clr A m) = D (n + 1) A
  | 0, _ => by
    congr 1
    funext i j
    unfold clr
    rw [if_neg (by omega)]
  | m + 1, h => by
    rw [← clr_D n A m (by omega)]
    have e : clr A (m + 1) = rr (clr A m) (m + 1) fun j => A (m + 1) j + - (A (m + 1) 0 / A 0 0) * A 0 j := by
      funext i j
      unfold clr rr
      dsimp only
      by_cases a : i = m + 1
      · rw [if_pos (by omega), if_pos a, a]
      · rw [if_neg a]
        by_cases b : 1 ≤ i ∧ i ≤ m
        · rw [if_pos b, if_pos (by omega)]
        · rw [if_neg b, if_neg (by omega)]
    have e2 : rr (clr A m) (m + 1) (A (m + 1)) = clr A m := by
      funext i j
      unfold rr
      split
      · rename_i a
        rw [a]
        unfold clr
        rw [if_neg (by omega)]
      · rfl
    rw [e, D_lin _ _ _ (A (m + 1)) (A 0) _ (by omega), e2, alt (n + 1) (rr (clr A m) (m + 1) (A 0)) 0 (m + 1) (by omega) (by omega) fun j => ?_]
    · grind
    · unfold rr clr
      rw [if_neg (by omega), if_neg (by omega), if_pos rfl]
theorem D_el (n : Nat) (A : Nat → Nat → Rat) (h : A 0 0 ≠ 0) : D (n + 1) A = A 0 0 * D n (el A) := by
  rw [← clr_D n A n (Nat.le_refl _), D_one n _ fun i hi => ?_]
  · have e0 : clr A n 0 0 = A 0 0 := by unfold clr; rw [if_neg (by omega)]
    rw [e0]
    congr 1
    refine D_congr n fun i j hi hj => ?_
    unfold clr el
    rw [if_pos (by omega)]
    grind
  · unfold clr
    rw [if_pos (by omega)]
    grind
def U : Nat → (Nat → Nat → Rat) → Nat → Nat → Rat
  | 0, A => A
  | c + 1, A => fun i j => U c A i j - U c A i c / U c A c c * U c A c j
def pd (A : Nat → Nat → Rat) : Nat → Rat
  | 0 => 1
  | c + 1 => pd A c * U c A c c
theorem U_el (A : Nat → Nat → Rat) : ∀ c i j, U (c + 1) A (i + 1) (j + 1) = U c (el A) i j
  | 0, i, j => rfl
  | c + 1, i, j => by
    show U (c + 1) A (i + 1) (j + 1) - U (c + 1) A (i + 1) (c + 1) / U (c + 1) A (c + 1) (c + 1) * U (c + 1) A (c + 1) (j + 1) = U c (el A) i j - U c (el A) i c / U c (el A) c c * U c (el A) c j
    rw [U_el A c i j, U_el A c i c, U_el A c c c, U_el A c c j]
theorem pd_el (A : Nat → Nat → Rat) : ∀ c, pd A (c + 1) = A 0 0 * pd (el A) c
  | 0 => by
    show pd A 0 * U 0 A 0 0 = A 0 0 * 1
    show 1 * A 0 0 = A 0 0 * 1
    grind
  | c + 1 => by
    show pd A (c + 1) * U (c + 1) A (c + 1) (c + 1) = A 0 0 * (pd (el A) c * U c (el A) c c)
    rw [pd_el A c, U_el]
    grind
def sub (A : Nat → Nat → Rat) (c i j : Nat) : Nat → Nat → Rat := fun a b => A (if a < c then a else i) (if b < c then b else j)
theorem det_sub : ∀ (c : Nat) (A : Nat → Nat → Rat) (i j : Nat), (∀ k, k < c → U k A k k ≠ 0) → c ≤ i → c ≤ j → D (c + 1) (sub A c i j) = pd A c * U c A i j
  | 0, A, i, j, _, _, _ => by
    have e1 : D 1 (sub A 0 i j) = 0 + sg 0 * sub A 0 i j 0 0 * 1 := rfl
    rw [e1]
    show (0 : Rat) + sg 0 * sub A 0 i j 0 0 * 1 = 1 * A i j
    rw [show sg 0 = 1 from rfl, show sub A 0 i j 0 0 = A i j from rfl]
    grind
  | c + 1, A, i, j, hp, hi, hj => by
    have h00 : A 0 0 ≠ 0 := hp 0 (by omega)
    have s00 : sub A (c + 1) i j 0 0 = A 0 0 := by unfold sub; rw [if_pos (by omega), if_pos (by omega)]
    rw [D_el (c + 1) _ (by rw [s00]; exact h00), s00]
    have e : el (sub A (c + 1) i j) = sub (el A) c (i - 1) (j - 1) := by
      funext a b
      have z : ∀ x : Nat, (if 0 < c + 1 then 0 else x) = 0 := fun x => if_pos (by omega)
      have q : ∀ a x : Nat, c + 1 ≤ x → (if a + 1 < c + 1 then a + 1 else x) = (if a < c then a else x - 1) + 1 := fun a x hx => by
        by_cases ha : a < c
        · rw [if_pos (by omega), if_pos ha]
        · rw [if_neg (by omega), if_neg ha]; omega
      show A (if a + 1 < c + 1 then a + 1 else i) (if b + 1 < c + 1 then b + 1 else j) - A (if a + 1 < c + 1 then a + 1 else i) (if 0 < c + 1 then 0 else j) / A (if 0 < c + 1 then 0 else i) (if 0 < c + 1 then 0 else j) * A (if 0 < c + 1 then 0 else i) (if b + 1 < c + 1 then b + 1 else j) = _
      rw [z, z, q a i hi, q b j hj]
      rfl
    rw [e, det_sub c (el A) (i - 1) (j - 1) (fun k hk => by rw [← U_el]; exact hp (k + 1) (by omega)) (by omega) (by omega), ← U_el, pd_el]
    rw [show i - 1 + 1 = i by omega, show j - 1 + 1 = j by omega]
    grind
theorem det_none : ∀ (c n : Nat) (A : Nat → Nat → Rat), (∀ k, k < c → U k A k k ≠ 0) → c < n → (∀ i, c ≤ i → i < n → U c A i c = 0) → D n A = 0
  | 0, n, A, _, hn, h => D_zero n A (by omega) fun i hi => h i (by omega) hi
  | c + 1, n, A, hp, hn, h => by
    obtain ⟨m, rfl⟩ : ∃ m, n = m + 1 := ⟨n - 1, by omega⟩
    rw [D_el m A (hp 0 (by omega)), det_none c m (el A) (fun k hk => by rw [← U_el]; exact hp (k + 1) (by omega)) (by omega) fun i a b => by rw [← U_el]; exact h (i + 1) (by omega) (by omega)]
    grind
theorem U_rows {A B : Nat → Nat → Rat} {p : Nat → Nat} : ∀ c, (∀ k, k < c → B k = A k) → (∀ i, B i = A (p i)) → (∀ k, k < c → p k = k) → ∀ i j, U c B i j = U c A (p i) j
  | 0, _, hB, _, i, j => by show B i j = A (p i) j; rw [hB]
  | c + 1, h, hB, hp, i, j => by
    have ih := U_rows c (fun k hk => h k (by omega)) hB (fun k hk => hp k (by omega))
    show U c B i j - U c B i c / U c B c c * U c B c j = U c A (p i) j - U c A (p i) c / U c A c c * U c A c j
    rw [ih i j, ih i c, ih c c, ih c j, hp c (by omega)]
def smI (g : Nat → Int) : Nat → Int
  | 0 => 0
  | n + 1 => smI g n + g n
def sgI (j : Nat) : Int := if j % 2 = 0 then 1 else -1
def DI : Nat → (Nat → Nat → Int) → Int
  | 0, _ => 1
  | n + 1, A => smI (fun j => sgI j * A 0 j * DI n (fun i k => A (i + 1) (sk j k))) (n + 1)
def up (A : Nat → Nat → Int) : Nat → Nat → Rat := fun i j => (A i j : Rat)
theorem sm_up {f : Nat → Int} : ∀ n, ((smI f n : Int) : Rat) = sm (fun i => (f i : Rat)) n
  | 0 => rfl
  | n + 1 => by rw [smI, sm, Rat.intCast_add, sm_up n]
theorem sg_up (j : Nat) : ((sgI j : Int) : Rat) = sg j := by unfold sgI sg; split <;> rfl
theorem D_up : ∀ (n : Nat) (A : Nat → Nat → Int), ((DI n A : Int) : Rat) = D n (up A)
  | 0, _ => rfl
  | n + 1, A => by
    rw [DI, D, sm_up]
    refine sm_congr _ fun j _ => ?_
    rw [Rat.intCast_mul, Rat.intCast_mul, sg_up, D_up n]
    rfl
def fac : Nat → Nat
  | 0 => 1
  | n + 1 => (n + 1) * fac n
theorem sm_abs {f : Nat → Int} {b : Nat} : ∀ n, (∀ i, i < n → (f i).natAbs ≤ b) → (smI f n).natAbs ≤ n * b
  | 0, _ => by simp [smI]
  | n + 1, h => by
    have h1 := sm_abs n fun i hi => h i (by omega)
    have h2 := h n (by omega)
    have h3 := Int.natAbs_add_le (smI f n) (f n)
    rw [smI, Nat.add_mul]
    omega
theorem D_abs {b : Nat} : ∀ (n : Nat) (A : Nat → Nat → Int), (∀ i j, i < n → j < n → (A i j).natAbs ≤ b) → (DI n A).natAbs ≤ fac n * b ^ n
  | 0, _, _ => by simp [DI, fac]
  | n + 1, A, h => by
    rw [DI, fac, Nat.mul_assoc]
    refine sm_abs _ fun j hj => ?_
    rw [Int.natAbs_mul, Int.natAbs_mul]
    have e : (sgI j).natAbs = 1 := by unfold sgI; split <;> rfl
    have h1 := D_abs n (fun i k => A (i + 1) (sk j k)) fun i k hi hk => h (i + 1) (sk j k) (by omega) (sk_lt hk)
    have h2 := h 0 j (by omega) hj
    rw [e, Nat.one_mul, Nat.pow_succ]
    calc (A 0 j).natAbs * (DI n fun i k => A (i + 1) (sk j k)).natAbs ≤ b * (fac n * b ^ n) := Nat.mul_le_mul h2 h1
      _ = fac n * (b ^ n * b) := by rw [Nat.mul_comm b, Nat.mul_assoc]
end Dt
namespace Lw
open PySem PySem.Spec PyProof.Rows L2 Z
def top (i : Nat) : Stmt := PySem.Challenge.pw_slantfloor_k63_ways_to_choose_and_determ.main.body.getD i (.Pass ⟨0, 0, 0, 0⟩)
abbrev b_choose_0 : TSp :=
  (sSet 2 (eOp pDiv (eOp pMul (eVar 2) (eOp pSub (eVar 0) (eVar 3))) (eOp pAdd (eVar 3) (eC (.int 1)))))
abbrev t_choose : TSp :=
  (sSeq (sIf (eOr (eTest (eOp pLt (eVar 1) (eC (.int 0)))) (eTest (eOp pGt (eVar 1) (eVar 0)))) (sRet (eC (.int 0))) sNext)
  (sSeq (sSet 2 (eC (.int 1)))
  (sSeq (sFor (iRange1 (eCons (eCB pMin2 (eCons (eVar 1) (eCons (eOp pSub (eVar 0) (eVar 1)) eNil))) eNil)) (gN 3) b_choose_0)
  (sRet (eVar 2)))))
theorem dq_choose {P : Program} {w : World} {K : PySem.W.Frag} {mg : Str → Option Value} {base : Heap} {sp : Fn} (m : At K mg "choose" "choose" (top 1) ["n", "k"]) (w_min : mg "min" = none) (w_range : mg "range" = none) (len : ∀ ds Q, sp ds Q → ds.length = 2) (hsp : ∀ ds Q, sp ds Q → t_choose  { nx := fun _ => Q (.v .non), rt := Q } (startP ["n", "k", "ways", "step"] ds)) : Def P w K mg base 1 "choose" ["n", "k"] (low K sp) := by
  have sc : FnScope ["n", "k", "ways", "step"] ["n", "k"] (defScope (top 1)) := ⟨rfl, rfl, rfl, by decide +kernel, rfl, by decide +kernel, by decide +kernel⟩
  refine m.okP (k := 0) (t := t_choose ) sc (fun f cdv A outer s H E hr => ?_) len hsp
  ·
    have hu := hr.units
    have hu1 := hu_of hr
    have hu65 := units65 hr
    exact (q_consS (q_if (QW.qt (qw_or (qt_cmp opd_lt (q_var 1 (pv 1)) q_int) (qw_or1 (qt_cmp opd_gt (q_var 1 (pv 1)) (q_var 0 (pv 0)))))) (q_oneS (q_ret q_int)) q_nilS)
  (q_consS (q_set (i := 2) sc.nd rfl (Or.inl rfl) q_int)
  (q_consS (q_for PassesOwn.never rfl (q_iRange1 rfl w_range (q_cons (q_callB (cd_min2 rfl) rfl w_min boot_min (q_cons (q_var 1 (pv 1)) (q_cons (q_op opd_sub (q_var 0 (pv 0)) (q_var 1 (pv 1))) q_nil))) q_nil)) (q_gN (i := 3) (k := 4) sc.nd rfl (Or.inl rfl)) (q_oneS (q_set (i := 2) sc.nd rfl (Or.inl rfl) (q_op opd_div (q_op opd_mul (q_var 2 (pv 2)) (q_op opd_sub (q_var 0 (pv 0)) (q_var 3 (pv 3)))) (q_op opd_add (q_var 3 (pv 3)) q_int)))))
  (q_oneS (q_ret (q_var 2 (pv 2)))))))
abbrev b_place_of_pivot_0 : TSp :=
  (sIf (eTest (eOp pNe (eOp pIx (eOp pIx (eVar 0) (eVar 2)) (eVar 1)) (eC (.int 0)))) (sRet (eVar 2)) sNext)
abbrev t_place_of_pivot : TSp :=
  (sSeq (sFor (iRange2 (eCons (eVar 1) (eCons (eCB pLen (eCons (eVar 0) eNil)) eNil))) (gN 2) b_place_of_pivot_0)
  (sRet (eC .non)))
theorem dq_place_of_pivot {P : Program} {w : World} {K : PySem.W.Frag} {mg : Str → Option Value} {base : Heap} {sp : Fn} (m : At K mg "place_of_pivot" "place_of_pivot" (top 2) ["table", "column"]) (w_len : mg "len" = none) (w_range : mg "range" = none) (len : ∀ ds Q, sp ds Q → ds.length = 2) (hsp : ∀ ds Q, sp ds Q → t_place_of_pivot  { nx := fun _ => Q (.v .non), rt := Q } (startP ["table", "column", "place"] ds)) : Def P w K mg base 1 "place_of_pivot" ["table", "column"] (low K sp) := by
  have sc : FnScope ["table", "column", "place"] ["table", "column"] (defScope (top 2)) := ⟨rfl, rfl, rfl, by decide +kernel, rfl, by decide +kernel, by decide +kernel⟩
  refine m.okP (k := 0) (t := t_place_of_pivot ) sc (fun f cdv A outer s H E hr => ?_) len hsp
  ·
    have hu := hr.units
    have hu1 := hu_of hr
    have hu65 := units65 hr
    exact (q_consS (q_for PassesOwn.never rfl (q_iRange2 rfl w_range (q_cons (q_var 1 (pv 1)) (q_cons (q_callB cd_len rfl w_len boot_len (q_cons (q_var 0 (pv 0)) q_nil)) q_nil))) (q_gN (i := 2) (k := 3) sc.nd rfl (Or.inl rfl)) (q_oneS (q_if (qt_cmp (opd_ne hu) (q_ix hu1 (q_ix hu1 (q_var 0 (pv 0)) (q_var 2 (pv 2))) (q_var 1 (pv 1))) q_int) (q_oneS (q_ret (q_var 2 (pv 2)))) q_nilS)))
  (q_oneS (q_ret q_non)))
abbrev b_cleared_0 : TSp :=
  (sSetI 4 (eVar 5) (eOp pDivG (eOp pSub (eOp pMul (eOp pIx (eVar 1) (eVar 2)) (eOp pIx (eVar 0) (eVar 5))) (eOp pMul (eOp pIx (eVar 0) (eVar 2)) (eOp pIx (eVar 1) (eVar 5)))) (eVar 3)))
abbrev t_cleared : TSp :=
  (sSeq (sSetO 4 (eCB pList (eCons (eVar 0) eNil)))
  (sSeq (sFor (iRange2 (eCons (eOp pAdd (eVar 2) (eC (.int 1))) (eCons (eCB pLen (eCons (eVar 0) eNil)) eNil))) (gN 5) b_cleared_0)
  (sRet (eVar 4))))
theorem dq_cleared {P : Program} {w : World} {K : PySem.W.Frag} {mg : Str → Option Value} {base : Heap} {sp : Fn} (m : At K mg "cleared" "cleared" (top 3) ["numbers", "pivot", "column", "divisor"]) (w_list : mg "list" = none) (w_len : mg "len" = none) (w_range : mg "range" = none) (len : ∀ ds Q, sp ds Q → ds.length = 4) (hsp : ∀ ds Q, sp ds Q → t_cleared  { nx := fun _ => Q (.v .non), rt := Q } (startP ["numbers", "pivot", "column", "divisor", "told", "place"] ds)) : Def P w K mg base 1 "cleared" ["numbers", "pivot", "column", "divisor"] (low K sp) := by
  have sc : FnScope ["numbers", "pivot", "column", "divisor", "told", "place"] ["numbers", "pivot", "column", "divisor"] (defScope (top 3)) := ⟨rfl, rfl, rfl, by decide +kernel, rfl, by decide +kernel, by decide +kernel⟩
  refine m.okP (k := 0) (t := t_cleared ) sc (fun f cdv A outer s H E hr => ?_) len hsp
  ·
    have hu := hr.units
    have hu1 := hu_of hr
    have hu65 := units65 hr
    exact (q_consS (q_setO (i := 4) sc.nd rfl (Or.inl rfl) (q_callTy cd_list rfl w_list boot_list (q_cons (q_var 0 (pv 0)) q_nil)))
  (q_consS (q_for PassesOwn.never rfl (q_iRange2 rfl w_range (q_cons (q_op opd_add (q_var 2 (pv 2)) q_int) (q_cons (q_callB cd_len rfl w_len boot_len (q_cons (q_var 0 (pv 0)) q_nil)) q_nil))) (q_gN (i := 5) (k := 6) sc.nd rfl (Or.inl rfl)) (q_oneS (q_setI (i := 4) (pv 4) (q_var 5 (pv 5)) (q_op opd_divG (q_op opd_sub (q_op opd_mul (q_ix hu1 (q_var 1 (pv 1)) (q_var 2 (pv 2))) (q_ix hu1 (q_var 0 (pv 0)) (q_var 5 (pv 5)))) (q_op opd_mul (q_ix hu1 (q_var 0 (pv 0)) (q_var 2 (pv 2))) (q_ix hu1 (q_var 1 (pv 1)) (q_var 5 (pv 5))))) (q_var 3 (pv 3))))))
  (q_oneS (q_ret (q_var 4 (pv 4))))))
abbrev b_determinant_0 (c_place_of_pivot c_cleared : Fn) : TSp :=
  (sSetI 1 (eVar 7) (eCall c_cleared (eCons (eOp pIx (eVar 1) (eVar 7)) (eCons (eVar 6) (eCons (eVar 4) (eCons (eVar 3) eNil))))))
abbrev b_determinant_1 (c_place_of_pivot c_cleared : Fn) : TSp :=
  (sSeq (sSet 5 (eCall c_place_of_pivot (eCons (eVar 1) (eCons (eVar 4) eNil))))
  (sSeq (sIf (eTest (eOp pIsN (eVar 5) (eC .non))) (sRet (eC (.int 0))) sNext)
  (sSeq (sSet 6 (eOp pIx (eVar 1) (eVar 5)))
  (sSeq (sIf (eTest (eOp pNe (eVar 5) (eVar 4))) (sSeq (sSet 2 (eNeg (eVar 2)))
  (sSeq (sSetI 1 (eVar 5) (eOp pIx (eVar 1) (eVar 4)))
  (sSetI 1 (eVar 4) (eVar 6)))) sNext)
  (sSeq (sFor (iRange2 (eCons (eOp pAdd (eVar 4) (eC (.int 1))) (eCons (eCB pLen (eCons (eVar 1) eNil)) eNil))) (gN 7) (b_determinant_0 c_place_of_pivot c_cleared))
  (sSet 3 (eOp pIx (eVar 6) (eVar 4))))))))
abbrev t_determinant (c_place_of_pivot c_cleared : Fn) : TSp :=
  (sSeq (sSetO 1 (eCB pList (eCons (eVar 0) eNil)))
  (sSeq (sSet 2 (eC (.int 1)))
  (sSeq (sSet 3 (eC (.int 1)))
  (sSeq (sFor (iRange1 (eCons (eCB pLen (eCons (eVar 1) eNil)) eNil)) (gN 4) (b_determinant_1 c_place_of_pivot c_cleared))
  (sRet (eOp pMul (eVar 2) (eVar 3)))))))
theorem dq_determinant {P : Program} {w : World} {K : PySem.W.Frag} {mg : Str → Option Value} {base : Heap} {c_place_of_pivot c_cleared : Fn} {sp : Fn} (m : At K mg "determinant" "determinant" (top 4) ["rows"]) (w_list : mg "list" = none) (w_len : mg "len" = none) (w_range : mg "range" = none) (d_place_of_pivot : Def P w K mg base 1 "place_of_pivot" ["table", "column"] (low K c_place_of_pivot)) (mo_place_of_pivot : MonoF c_place_of_pivot) (d_cleared : Def P w K mg base 1 "cleared" ["numbers", "pivot", "column", "divisor"] (low K c_cleared)) (mo_cleared : MonoF c_cleared) (len : ∀ ds Q, sp ds Q → ds.length = 1) (hsp : ∀ ds Q, sp ds Q → t_determinant c_place_of_pivot c_cleared { nx := fun _ => Q (.v .non), rt := Q } (startP ["rows", "table", "sign", "divisor", "column", "place", "pivot", "below"] ds)) : Def P w K mg base 2 "determinant" ["rows"] (low K sp) := by
  have sc : FnScope ["rows", "table", "sign", "divisor", "column", "place", "pivot", "below"] ["rows"] (defScope (top 4)) := ⟨rfl, rfl, rfl, by decide +kernel, rfl, by decide +kernel, by decide +kernel⟩
  refine m.okP (k := 1) (t := t_determinant c_place_of_pivot c_cleared) sc (fun f cdv A outer s H E hr => ?_) len hsp
  ·
    have hu := hr.units
    have hu1 := hu_of hr
    have hu65 := units65 hr
    exact (q_consS (q_setO (i := 1) sc.nd rfl (Or.inl rfl) (q_callTy cd_list rfl w_list boot_list (q_cons (q_var 0 (pv 0)) q_nil)))
  (q_consS (q_set (i := 2) sc.nd rfl (Or.inl rfl) q_int)
  (q_consS (q_set (i := 3) sc.nd rfl (Or.inl rfl) q_int)
  (q_consS (q_for PassesOwn.never rfl (q_iRange1 rfl w_range (q_cons (q_callB cd_len rfl w_len boot_len (q_cons (q_var 1 (pv 1)) q_nil)) q_nil)) (q_gN (i := 4) (k := 8) sc.nd rfl (Or.inl rfl)) (q_consS (q_set (i := 5) sc.nd rfl (Or.inl rfl) (q_call d_place_of_pivot mo_place_of_pivot (hr.mono (by decide)) (q_cons (q_var 1 (pv 1)) (q_cons (q_var 4 (pv 4)) q_nil))))
  (q_consS (q_if (qt_cmp opd_isN (q_var 5 (pv 5)) q_non) (q_oneS (q_ret q_int)) q_nilS)
  (q_consS (q_set (i := 6) sc.nd rfl (Or.inl rfl) (q_ix hu1 (q_var 1 (pv 1)) (q_var 5 (pv 5))))
  (q_consS (q_if (qt_cmp (opd_ne hu) (q_var 5 (pv 5)) (q_var 4 (pv 4))) (q_consS (q_set (i := 2) sc.nd rfl (Or.inl rfl) (q_neg (q_var 2 (pv 2))))
  (q_consS (q_setI (i := 1) (pv 1) (q_var 5 (pv 5)) (q_ix hu1 (q_var 1 (pv 1)) (q_var 4 (pv 4))))
  (q_oneS (q_setI (i := 1) (pv 1) (q_var 4 (pv 4)) (q_var 6 (pv 6)))))) q_nilS)
  (q_consS (q_for PassesOwn.never rfl (q_iRange2 rfl w_range (q_cons (q_op opd_add (q_var 4 (pv 4)) q_int) (q_cons (q_callB cd_len rfl w_len boot_len (q_cons (q_var 1 (pv 1)) q_nil)) q_nil))) (q_gN (i := 7) (k := 8) sc.nd rfl (Or.inl rfl)) (q_oneS (q_setI (i := 1) (pv 1) (q_var 7 (pv 7)) (q_call d_cleared mo_cleared (hr.mono (by decide)) (q_cons (q_ix hu1 (q_var 1 (pv 1)) (q_var 7 (pv 7))) (q_cons (q_var 6 (pv 6)) (q_cons (q_var 4 (pv 4)) (q_cons (q_var 3 (pv 3)) q_nil))))))))
  (q_oneS (q_set (i := 3) sc.nd rfl (Or.inl rfl) (q_ix hu1 (q_var 6 (pv 6)) (q_var 4 (pv 4)))))))))))
  (q_oneS (q_ret (q_op opd_mul (q_var 2 (pv 2)) (q_var 3 (pv 3)))))))))
abbrev b_law_deep_0 : TSp :=
  (sSet 3 (eOp pAdd (eOp pMul (eVar 3) (eC (.int 2147483647))) (eOp pMod (eOp pMul (eOp pMod (eOp pAdd (eOp pMul (eVar 2) (eC (.int 48271))) (eOp pMul (eOp pMul (eOp pAdd (eVar 4) (eC (.int 5))) (eOp pAdd (eOp pAdd (eVar 4) (eVar 1)) (eC (.int 2)))) (eC (.int 69621)))) (eC (.int 2147483647))) (eC (.int 16807))) (eC (.int 2147483629)))))
abbrev t_law_deep : TSp :=
  (sSeq (sSet 2 (eC (.int 0)))
  (sSeq (sIf (eTest (eOp pLt (eVar 1) (eCB pLen (eCons (eVar 0) eNil)))) (sSet 2 (eOp pIx (eVar 0) (eVar 1))) sNext)
  (sSeq (sIf (eOr (eTest (eOp pLt (eVar 2) (eC (.int 0)))) (eTest (eOp pGt (eVar 2) (eOp pPow (eC (.int 10)) (eC (.int 15)))))) (sRet (eVar 2)) sNext)
  (sSeq (sSet 3 (eC (.int 0)))
  (sSeq (sFor (iRange1 (eCons (eC (.int 14)) eNil)) (gN 4) b_law_deep_0)
  (sRet (eVar 3)))))))
theorem dq_law_deep {P : Program} {w : World} {K : PySem.W.Frag} {mg : Str → Option Value} {base : Heap} {sp : Fn} (m : At K mg "_law_deep" "_law_deep" (top 6) ["_law_script", "_law_k"]) (w_len : mg "len" = none) (w_range : mg "range" = none) (len : ∀ ds Q, sp ds Q → ds.length = 2) (hsp : ∀ ds Q, sp ds Q → t_law_deep  { nx := fun _ => Q (.v .non), rt := Q } (startP ["_law_script", "_law_k", "_law_cell", "_law_deep_here", "_law_j"] ds)) : Def P w K mg base 1 "_law_deep" ["_law_script", "_law_k"] (low K sp) := by
  have sc : FnScope ["_law_script", "_law_k", "_law_cell", "_law_deep_here", "_law_j"] ["_law_script", "_law_k"] (defScope (top 6)) := ⟨rfl, rfl, rfl, by decide +kernel, rfl, by decide +kernel, by decide +kernel⟩
  refine m.okP (k := 0) (t := t_law_deep ) sc (fun f cdv A outer s H E hr => ?_) len hsp
  ·
    have hu := hr.units
    have hu1 := hu_of hr
    have hu65 := units65 hr
    exact (q_consS (q_set (i := 2) sc.nd rfl (Or.inl rfl) q_int)
  (q_consS (q_if (qt_cmp opd_lt (q_var 1 (pv 1)) (q_callB cd_len rfl w_len boot_len (q_cons (q_var 0 (pv 0)) q_nil))) (q_oneS (q_set (i := 2) sc.nd rfl (Or.inl rfl) (q_ix hu1 (q_var 0 (pv 0)) (q_var 1 (pv 1))))) q_nilS)
  (q_consS (q_if (QW.qt (qw_or (qt_cmp opd_lt (q_var 2 (pv 2)) q_int) (qw_or1 (qt_cmp opd_gt (q_var 2 (pv 2)) (q_op opd_pow q_int q_int))))) (q_oneS (q_ret (q_var 2 (pv 2)))) q_nilS)
  (q_consS (q_set (i := 3) sc.nd rfl (Or.inl rfl) q_int)
  (q_consS (q_for PassesOwn.never rfl (q_iRange1 rfl w_range (q_cons q_int q_nil)) (q_gN (i := 4) (k := 5) sc.nd rfl (Or.inl rfl)) (q_oneS (q_set (i := 3) sc.nd rfl (Or.inl rfl) (q_op opd_add (q_op opd_mul (q_var 3 (pv 3)) q_int) (q_op opd_mod (q_op opd_mul (q_op opd_mod (q_op opd_add (q_op opd_mul (q_var 2 (pv 2)) q_int) (q_op opd_mul (q_op opd_mul (q_op opd_add (q_var 4 (pv 4)) q_int) (q_op opd_add (q_op opd_add (q_var 4 (pv 4)) (q_var 1 (pv 1))) q_int)) q_int)) q_int) q_int) q_int)))))
  (q_oneS (q_ret (q_var 3 (pv 3)))))))))
abbrev t_law_whole : TSp :=
  (sRet (eAndV (eIsi "int" (eVar 0)) (eNotV (eIsi "bool" (eVar 0)))))
theorem dq_law_whole {P : Program} {w : World} {K : PySem.W.Frag} {mg : Str → Option Value} {base : Heap} {sp : Fn} (m : At K mg "_law_whole" "_law_whole" (top 7) ["_law_found"]) (w_isinstance : mg "isinstance" = none) (w_int : mg "int" = none) (w_bool : mg "bool" = none) (len : ∀ ds Q, sp ds Q → ds.length = 1) (hsp : ∀ ds Q, sp ds Q → t_law_whole  { nx := fun _ => Q (.v .non), rt := Q } (startP ["_law_found"] ds)) : Def P w K mg base 1 "_law_whole" ["_law_found"] (low K sp) := by
  have sc : FnScope ["_law_found"] ["_law_found"] (defScope (top 7)) := ⟨rfl, rfl, rfl, by decide +kernel, rfl, by decide +kernel, by decide +kernel⟩
  refine m.okP (k := 0) (t := t_law_whole ) sc (fun f cdv A outer s H E hr => ?_) len hsp
  ·
    have hu := hr.units
    have hu1 := hu_of hr
    have hu65 := units65 hr
    exact (q_oneS (q_ret (q_and (q_isi (.inl rfl) rfl w_isinstance (q_var 0 (pv 0)) (pe_bltn (v := .ty "int") rfl w_int boot_int rfl)) (q_one (q_not (q_isi (.inr (.inl rfl)) rfl w_isinstance (q_var 0 (pv 0)) (pe_bltn (v := .ty "bool") rfl w_bool boot_bool rfl)))))))
abbrev b_law_ways_0 : TSp :=
  (sSet 1 (eOp pAdd (eOp pAdd (eLst (eCons (eC (.int 1)) eNil)) (eComp 1 [1] (iRange1 (eCons (eOp pSub (eCB pLen (eCons (eVar 1) eNil)) (eC (.int 1))) eNil)) (gN 0) tTrue (eOp pAdd (eOp pIx (eVar 1) (eVar 0)) (eOp pIx (eVar 1) (eOp pAdd (eVar 0) (eC (.int 1))))))) (eLst (eCons (eC (.int 1)) eNil))))
abbrev t_law_ways : TSp :=
  (sSeq (sSet 1 (eLst (eCons (eC (.int 1)) eNil)))
  (sSeq (sFor (iRange1 (eCons (eVar 0) eNil)) (gN 2) b_law_ways_0)
  (sRet (eVar 1))))
theorem dq_law_ways {P : Program} {w : World} {K : PySem.W.Frag} {mg : Str → Option Value} {base : Heap} {sp : Fn} (m : At K mg "_law_ways" "_law_ways" (top 8) ["_law_n"]) (w_range : mg "range" = none) (w_len : mg "len" = none) (len : ∀ ds Q, sp ds Q → ds.length = 1) (hsp : ∀ ds Q, sp ds Q → t_law_ways  { nx := fun _ => Q (.v .non), rt := Q } (startP ["_law_n", "_law_row", "_law_k"] ds)) : Def P w K mg base 1 "_law_ways" ["_law_n"] (low K sp) := by
  have sc : FnScope ["_law_n", "_law_row", "_law_k"] ["_law_n"] (defScope (top 8)) := ⟨rfl, rfl, rfl, by decide +kernel, rfl, by decide +kernel, by decide +kernel⟩
  refine m.okP (k := 0) (t := t_law_ways ) sc (fun f cdv A outer s H E hr => ?_) len hsp
  ·
    have hu := hr.units
    have hu1 := hu_of hr
    have hu65 := units65 hr
    exact (q_consS (q_set (i := 1) sc.nd rfl (Or.inr rfl) (q_lst (q_cons q_int q_nil)))
  (q_consS (q_for PassesOwn.never rfl (q_iRange1 rfl w_range (q_cons (q_var 0 (pv 0)) q_nil)) (q_gN (i := 2) (k := 3) sc.nd rfl (Or.inl rfl)) (q_oneS (q_set (i := 1) sc.nd rfl (Or.inr rfl) (q_op opd_add (q_op opd_add (q_lst (q_cons q_int q_nil)) (q_lc ["_law_j"] ["_law_row"] [1] rfl (q_iRange1 rfl w_range (q_cons (q_op opd_sub (q_callB cd_len rfl w_len boot_len (q_cons (q_var 1 (pv 1)) q_nil)) q_int) q_nil)) (fun fp s H => (q_gN (i := 0) (k := 1) (show List.Nodup (["_law_j", "_law_row"] : List Str) by decide +kernel) rfl (Or.inl rfl))) (fun fp s H => qts_nil) (fun fp s H => (q_op opd_add (q_ix hu1 (q_var 1 (pv 1)) (q_var 0 (pv 0))) (q_ix hu1 (q_var 1 (pv 1)) (q_op opd_add (q_var 0 (pv 0)) q_int)))))) (q_lst (q_cons q_int q_nil))))))
  (q_oneS (q_ret (q_var 1 (pv 1))))))
abbrev t_law_chosen (c_law_ways c_choose c_law_whole : Fn) : TSp :=
  (sSeq (sSet 2 (eOp pMod (eOp pAdd (eVar 0) (eOp pMul (eC (.int 7)) (eVar 1))) (eC (.int 61))))
  (sSeq (sSet 3 (eOp pSub (eOp pMod (eOp pAdd (eOp pDiv (eVar 0) (eC (.int 61))) (eOp pMul (eC (.int 5)) (eVar 1))) (eC (.int 68))) (eC (.int 3))))
  (sSeq (sSet 4 (eCall c_law_ways (eCons (eVar 2) eNil)))
  (sSeq (sSet 5 (eC (.int 0)))
  (sSeq (sIf (eTest (eChain pLe pLe (eC (.int 0)) (eVar 3) (eVar 2))) (sSet 5 (eOp pIx (eVar 4) (eVar 3))) sNext)
  (sSeq (sSet 6 (eCall c_choose (eCons (eVar 2) (eCons (eVar 3) eNil))))
  (sSeq (sIf (eOr (eNot (eTru (eCall c_law_whole (eCons (eVar 6) eNil)))) (eTest (eOp pNe (eVar 6) (eVar 5)))) (sRet (eC (.bl false))) sNext)
  (sSeq (sSet 7 (eOp pMod (eOp pDiv (eVar 0) (eC (.int 67))) (eOp pPow (eC (.int 10)) (eC (.int 30)))))
  (sRet (eAndV (eOp pEq (eCall c_choose (eCons (eVar 2) (eCons (eOp pAdd (eOp pAdd (eVar 2) (eC (.int 1))) (eVar 7)) eNil))) (eC (.int 0))) (eOp pEq (eCall c_choose (eCons (eVar 2) (eCons (eOp pSub (eNeg (eC (.int 1))) (eVar 7)) eNil))) (eC (.int 0)))))))))))))
theorem dq_law_chosen {P : Program} {w : World} {K : PySem.W.Frag} {mg : Str → Option Value} {base : Heap} {c_law_ways c_choose c_law_whole : Fn} {sp : Fn} (m : At K mg "_law_chosen" "_law_chosen" (top 9) ["_law_cell", "_law_k"]) (d_law_ways : Def P w K mg base 1 "_law_ways" ["_law_n"] (low K c_law_ways)) (mo_law_ways : MonoF c_law_ways) (d_choose : Def P w K mg base 1 "choose" ["n", "k"] (low K c_choose)) (mo_choose : MonoF c_choose) (d_law_whole : Def P w K mg base 1 "_law_whole" ["_law_found"] (low K c_law_whole)) (mo_law_whole : MonoF c_law_whole) (len : ∀ ds Q, sp ds Q → ds.length = 2) (hsp : ∀ ds Q, sp ds Q → t_law_chosen c_law_ways c_choose c_law_whole { nx := fun _ => Q (.v .non), rt := Q } (startP ["_law_cell", "_law_k", "_law_n", "_law_some", "_law_row", "_law_due_here", "_law_told", "_law_far"] ds)) : Def P w K mg base 2 "_law_chosen" ["_law_cell", "_law_k"] (low K sp) := by
  have sc : FnScope ["_law_cell", "_law_k", "_law_n", "_law_some", "_law_row", "_law_due_here", "_law_told", "_law_far"] ["_law_cell", "_law_k"] (defScope (top 9)) := ⟨rfl, rfl, rfl, by decide +kernel, rfl, by decide +kernel, by decide +kernel⟩
  refine m.okP (k := 1) (t := t_law_chosen c_law_ways c_choose c_law_whole) sc (fun f cdv A outer s H E hr => ?_) len hsp
  ·
    have hu := hr.units
    have hu1 := hu_of hr
    have hu65 := units65 hr
    exact (q_consS (q_set (i := 2) sc.nd rfl (Or.inl rfl) (q_op opd_mod (q_op opd_add (q_var 0 (pv 0)) (q_op opd_mul q_int (q_var 1 (pv 1)))) q_int))
  (q_consS (q_set (i := 3) sc.nd rfl (Or.inl rfl) (q_op opd_sub (q_op opd_mod (q_op opd_add (q_op opd_div (q_var 0 (pv 0)) q_int) (q_op opd_mul q_int (q_var 1 (pv 1)))) q_int) q_int))
  (q_consS (q_set (i := 4) sc.nd rfl (Or.inl rfl) (q_call d_law_ways mo_law_ways (hr.mono (by decide)) (q_cons (q_var 2 (pv 2)) q_nil)))
  (q_consS (q_set (i := 5) sc.nd rfl (Or.inl rfl) q_int)
  (q_consS (q_if (qt_chain op_le op_le q_int (q_var 3 (pv 3)) (q_var 2 (pv 2))) (q_oneS (q_set (i := 5) sc.nd rfl (Or.inl rfl) (q_ix hu1 (q_var 4 (pv 4)) (q_var 3 (pv 3))))) q_nilS)
  (q_consS (q_set (i := 6) sc.nd rfl (Or.inl rfl) (q_call d_choose mo_choose (hr.mono (by decide)) (q_cons (q_var 2 (pv 2)) (q_cons (q_var 3 (pv 3)) q_nil))))
  (q_consS (q_if (QW.qt (qw_or (qt_not (qt_tru (q_call d_law_whole mo_law_whole (hr.mono (by decide)) (q_cons (q_var 6 (pv 6)) q_nil)))) (qw_or1 (qt_cmp (opd_ne hu) (q_var 6 (pv 6)) (q_var 5 (pv 5)))))) (q_oneS (q_ret q_bl)) q_nilS)
  (q_consS (q_set (i := 7) sc.nd rfl (Or.inl rfl) (q_op opd_mod (q_op opd_div (q_var 0 (pv 0)) q_int) (q_op opd_pow q_int q_int)))
  (q_oneS (q_ret (q_and (q_cmp (opd_eq hu) (q_call d_choose mo_choose (hr.mono (by decide)) (q_cons (q_var 2 (pv 2)) (q_cons (q_op opd_add (q_op opd_add (q_var 2 (pv 2)) q_int) (q_var 7 (pv 7))) q_nil))) q_int) (q_one (q_cmp (opd_eq hu) (q_call d_choose mo_choose (hr.mono (by decide)) (q_cons (q_var 2 (pv 2)) (q_cons (q_op opd_sub (q_neg q_int) (q_var 7 (pv 7))) q_nil))) q_int)))))))))))))
abbrev b_law_square_0 : TSp :=
  (sSeq (sApp 6 (eOp pSub (eOp pMod (eVar 1) (eVar 3)) (eOp pDiv (eVar 3) (eC (.int 2)))))
  (sSet 1 (eOp pDiv (eVar 1) (eVar 3))))
abbrev b_law_square_1 : TSp :=
  (sSeq (sSetO 6 (eLst eNil))
  (sSeq (sFor (iRange1 (eCons (eVar 2) eNil)) (gN 7) b_law_square_0)
  (sFrz 6 (sApp 4 (eVar 6)))))
abbrev t_law_square : TSp :=
  (sSeq (sSet 2 (eOp pMod (eVar 0) (eC (.int 7))))
  (sSeq (sSet 3 (eOp pIx (eLst (eCons (eC (.int 9)) (eCons (eOp pAdd (eOp pMul (eC (.int 2)) (eOp pPow (eC (.int 10)) (eC (.int 30)))) (eC (.int 1))) eNil))) (eOp pMod (eOp pDiv (eVar 0) (eC (.int 7))) (eC (.int 2)))))
  (sSeq (sSetO 4 (eLst eNil))
  (sSeq (sFor (iRange1 (eCons (eVar 2) eNil)) (gN 5) b_law_square_1)
  (sSeq (sIf (eAnd (eTest (eOp pGt (eVar 2) (eC (.int 1)))) (eTest (eOp pEq (eOp pMod (eOp pDiv (eVar 0) (eC (.int 14))) (eC (.int 3))) (eC (.int 1))))) (sSeq (sSet 5 (eOp pMod (eOp pDiv (eVar 0) (eC (.int 42))) (eVar 2)))
  (sSeq (sSet 7 (eOp pMod (eOp pAdd (eOp pAdd (eVar 5) (eC (.int 1))) (eOp pMod (eOp pDiv (eVar 0) (eC (.int 300))) (eOp pSub (eVar 2) (eC (.int 1))))) (eVar 2)))
  (sSetI 4 (eVar 5) (eComp 2 [0] (iZipP (eCons (eOp pIx (eVar 4) (eVar 7)) (eCons (eOp pIx (eVar 4) (eOp pMod (eOp pAdd (eVar 7) (eC (.int 1))) (eVar 2))) eNil))) (gT [0, 1]) tTrue (eOp pAdd (eVar 0) (eOp pMul (eVar 1) (eOp pMod (eOp pDiv (eVar 2) (eC (.int 42))) (eC (.int 2))))))))) sNext)
  (sRet (eVar 4)))))))
theorem dq_law_square {P : Program} {w : World} {K : PySem.W.Frag} {mg : Str → Option Value} {base : Heap} {sp : Fn} (m : At K mg "_law_square" "_law_square" (top 10) ["_law_cell", "_law_other"]) (w_range : mg "range" = none) (w_zip : mg "zip" = none) (len : ∀ ds Q, sp ds Q → ds.length = 2) (hsp : ∀ ds Q, sp ds Q → t_law_square  { nx := fun _ => Q (.v .non), rt := Q } (startP ["_law_cell", "_law_other", "_law_size", "_law_base", "_law_rows", "_law_i", "_law_row", "_law_j"] ds)) : Def P w K mg base 1 "_law_square" ["_law_cell", "_law_other"] (low K sp) := by
  have sc : FnScope ["_law_cell", "_law_other", "_law_size", "_law_base", "_law_rows", "_law_i", "_law_row", "_law_j"] ["_law_cell", "_law_other"] (defScope (top 10)) := ⟨rfl, rfl, rfl, by decide +kernel, rfl, by decide +kernel, by decide +kernel⟩
  refine m.okP (k := 0) (t := t_law_square ) sc (fun f cdv A outer s H E hr => ?_) len hsp
  ·
    have hu := hr.units
    have hu1 := hu_of hr
    have hu65 := units65 hr
    exact (q_consS (q_set (i := 2) sc.nd rfl (Or.inl rfl) (q_op opd_mod (q_var 0 (pv 0)) q_int))
  (q_consS (q_set (i := 3) sc.nd rfl (Or.inl rfl) (q_ix hu1 (q_lst (q_cons q_int (q_cons (q_op opd_add (q_op opd_mul q_int (q_op opd_pow q_int q_int)) q_int) q_nil))) (q_op opd_mod (q_op opd_div (q_var 0 (pv 0)) q_int) q_int)))
  (q_consS (q_setO (i := 4) sc.nd rfl (Or.inl rfl) (q_lst q_nil))
  (q_consS (q_for PassesOwn.never rfl (q_iRange1 rfl w_range (q_cons (q_var 2 (pv 2)) q_nil)) (q_gN (i := 5) (k := 8) sc.nd rfl (Or.inl rfl)) (q_consS (q_setO (i := 6) sc.nd rfl (Or.inl rfl) (q_lst q_nil))
  (q_consS (q_for PassesOwn.never rfl (q_iRange1 rfl w_range (q_cons (q_var 2 (pv 2)) q_nil)) (q_gN (i := 7) (k := 8) sc.nd rfl (Or.inl rfl)) (q_consS (q_app (i := 6) (pv 6) (q_op opd_sub (q_op opd_mod (q_var 1 (pv 1)) (q_var 3 (pv 3))) (q_op opd_div (q_var 3 (pv 3)) q_int)))
  (q_oneS (q_set (i := 1) sc.nd rfl (Or.inl rfl) (q_op opd_div (q_var 1 (pv 1)) (q_var 3 (pv 3)))))))
  (q_frz 6 (q_oneS (q_app (i := 4) (pv 4) (q_var 6 (pv 6))))))))
  (q_consS (q_if (QW.qt (qw_and (qt_cmp opd_gt (q_var 2 (pv 2)) q_int) (qw_and1 (qt_cmp (opd_eq hu) (q_op opd_mod (q_op opd_div (q_var 0 (pv 0)) q_int) q_int) q_int)))) (q_consS (q_set (i := 5) sc.nd rfl (Or.inl rfl) (q_op opd_mod (q_op opd_div (q_var 0 (pv 0)) q_int) (q_var 2 (pv 2))))
  (q_consS (q_set (i := 7) sc.nd rfl (Or.inl rfl) (q_op opd_mod (q_op opd_add (q_op opd_add (q_var 5 (pv 5)) q_int) (q_op opd_mod (q_op opd_div (q_var 0 (pv 0)) q_int) (q_op opd_sub (q_var 2 (pv 2)) q_int))) (q_var 2 (pv 2))))
  (q_oneS (q_setI (i := 4) (pv 4) (q_var 5 (pv 5)) (q_lc ["_law_x", "_law_y"] ["_law_cell"] [0] rfl (q_iZip rfl w_zip (q_cons (q_ix hu1 (q_var 4 (pv 4)) (q_var 7 (pv 7))) (q_cons (q_ix hu1 (q_var 4 (pv 4)) (q_op opd_mod (q_op opd_add (q_var 7 (pv 7)) q_int) (q_var 2 (pv 2)))) q_nil))) (fun fp s H => (q_gT (k := 2) (is := [0, 1]) rfl (pgs_cons (pg_name (i := 0) (show List.Nodup (["_law_x", "_law_y", "_law_cell"] : List Str) by decide +kernel) rfl (Or.inl rfl)) (pgs_cons (pg_name (i := 1) (show List.Nodup (["_law_x", "_law_y", "_law_cell"] : List Str) by decide +kernel) rfl (Or.inl rfl)) pgs_nil)))) (fun fp s H => qts_nil) (fun fp s H => (q_op opd_add (q_var 0 (pv 0)) (q_op opd_mul (q_var 1 (pv 1)) (q_op opd_mod (q_op opd_div (q_var 2 (pv 2)) q_int) q_int))))))))) q_nilS)
  (q_oneS (q_ret (q_var 4 (pv 4)))))))))
abbrev b_law_due_0 (c_law_due : Fn) : TSp :=
  (sSeq (sIf (eTest (eOp pNe (eOp pIx (eOp pIx (eVar 0) (eC (.int 0))) (eVar 3)) (eC (.int 0)))) (sAug 1 pIAdd (eOp pMul (eOp pMul (eVar 2) (eOp pIx (eOp pIx (eVar 0) (eC (.int 0))) (eVar 3))) (eCall c_law_due (eCons (eComp 1 [3] (iSeq (eSl (eVar 0) (ePart (eC (.int 1))) eNoPart)) (gN 0) tTrue (eOp pAdd (eSl (eVar 0) eNoPart (ePart (eVar 1))) (eSl (eVar 0) (ePart (eOp pAdd (eVar 1) (eC (.int 1)))) eNoPart))) eNil)))) sNext)
  (sSet 2 (eOp pSub (eC (.int 0)) (eVar 2))))
abbrev t_law_due (c_law_due : Fn) : TSp :=
  (sSeq (sIf (eTest (eOp pEq (eVar 0) (eLst eNil))) (sRet (eC (.int 1))) sNext)
  (sSeq (sSet 1 (eC (.int 0)))
  (sSeq (sSet 2 (eC (.int 1)))
  (sSeq (sFor (iRange1 (eCons (eCB pLen (eCons (eVar 0) eNil)) eNil)) (gN 3) (b_law_due_0 c_law_due))
  (sRet (eVar 1))))))
theorem dq_law_due {r : Nat} {P : Program} {w : World} {K : PySem.W.Frag} {mg : Str → Option Value} {base : Heap} {c_law_due : Fn} {sp : Fn} (m : At K mg "_law_due" "_law_due" (top 11) ["_law_rows"]) (w_len : mg "len" = none) (w_range : mg "range" = none) (d_law_due : Def P w K mg base r "_law_due" ["_law_rows"] (low K c_law_due)) (mo_law_due : MonoF c_law_due) (len : ∀ ds Q, sp ds Q → ds.length = 1) (hsp : ∀ ds Q, sp ds Q → t_law_due c_law_due { nx := fun _ => Q (.v .non), rt := Q } (startP ["_law_rows", "_law_whole_here", "_law_sign", "_law_j"] ds)) : Def P w K mg base (r + 1) "_law_due" ["_law_rows"] (low K sp) := by
  have sc : FnScope ["_law_rows", "_law_whole_here", "_law_sign", "_law_j"] ["_law_rows"] (defScope (top 11)) := ⟨rfl, rfl, rfl, by decide +kernel, rfl, by decide +kernel, by decide +kernel⟩
  refine m.okP (k := r) (t := t_law_due c_law_due) sc (fun f cdv A outer s H E hr => ?_) len hsp
  ·
    have hu := hr.units
    have hu1 := hu_of hr
    have hu65 := units65 hr
    exact (q_consS (q_if (qt_cmp (opd_eq hu) (q_var 0 (pv 0)) (q_lst q_nil)) (q_oneS (q_ret q_int)) q_nilS)
  (q_consS (q_set (i := 1) sc.nd rfl (Or.inl rfl) q_int)
  (q_consS (q_set (i := 2) sc.nd rfl (Or.inl rfl) q_int)
  (q_consS (q_for PassesOwn.never rfl (q_iRange1 rfl w_range (q_cons (q_callB cd_len rfl w_len boot_len (q_cons (q_var 0 (pv 0)) q_nil)) q_nil)) (q_gN (i := 3) (k := 4) sc.nd rfl (Or.inr rfl)) (q_consS (q_if (qt_cmp (opd_ne hu) (q_ix hu1 (q_ix hu1 (q_var 0 (pv 0)) q_int) (q_var 3 (pv 3))) q_int) (q_oneS (q_aug (i := 1) iopd_add sc.nd rfl (Or.inl rfl) (q_op opd_mul (q_op opd_mul (q_var 2 (pv 2)) (q_ix hu1 (q_ix hu1 (q_var 0 (pv 0)) q_int) (q_var 3 (pv 3)))) (q_call d_law_due mo_law_due (hr.mono (Nat.le_refl _)) (q_cons (q_lc ["_law_row"] ["_law_j"] [3] rfl (q_iSeq (q_slice (q_var 0 (pv 0)) (qo_some q_int) qo_none)) (fun fp s H => (q_gN (i := 0) (k := 1) (show List.Nodup (["_law_row", "_law_j"] : List Str) by decide +kernel) rfl (Or.inl rfl))) (fun fp s H => qts_nil) (fun fp s H => (q_op opd_add (q_slice (q_var 0 (pv 0)) qo_none (qo_some (q_var 1 (pv 1)))) (q_slice (q_var 0 (pv 0)) (qo_some (q_op opd_add (q_var 1 (pv 1)) q_int)) qo_none)))) q_nil))))) q_nilS)
  (q_oneS (q_set (i := 2) sc.nd rfl (Or.inl rfl) (q_op opd_sub q_int (q_var 2 (pv 2)))))))
  (q_oneS (q_ret (q_var 1 (pv 1))))))))
abbrev t_law_good (c_law_due c_determinant c_law_whole : Fn) : TSp :=
  (sSeq (sSet 1 (eCall c_law_due (eCons (eVar 0) eNil)))
  (sSeq (sSet 2 (eComp 1 [] (iSeq (eVar 0)) (gN 0) tTrue (eCB pList (eCons (eVar 0) eNil))))
  (sSeq (sSet 3 (eCall c_determinant (eCons (eVar 2) eNil)))
  (sSeq (sIf (eOr (eNot (eTru (eCall c_law_whole (eCons (eVar 3) eNil)))) (eOr (eTest (eOp pNe (eVar 3) (eVar 1))) (eTest (eOp pNe (eVar 2) (eVar 0))))) (sRet (eC (.bl false))) sNext)
  (sSeq (sIf (eTest (eOp pLt (eCB pLen (eCons (eVar 0) eNil)) (eC (.int 2)))) (sRet (eC (.bl true))) sNext)
  (sRet (eOp pEq (eCall c_determinant (eCons (eOp pAdd (eLst (eCons (eOp pIx (eVar 0) (eC (.int 1))) (eCons (eOp pIx (eVar 0) (eC (.int 0))) eNil))) (eSl (eVar 0) (ePart (eC (.int 2))) eNoPart)) eNil)) (eOp pSub (eC (.int 0)) (eVar 1)))))))))
theorem dq_law_good {P : Program} {w : World} {K : PySem.W.Frag} {mg : Str → Option Value} {base : Heap} {c_law_due c_determinant c_law_whole : Fn} {sp : Fn} (m : At K mg "_law_good" "_law_good" (top 12) ["_law_rows"]) (w_list : mg "list" = none) (w_len : mg "len" = none) (d_law_due : Def P w K mg base 8 "_law_due" ["_law_rows"] (low K c_law_due)) (mo_law_due : MonoF c_law_due) (d_determinant : Def P w K mg base 2 "determinant" ["rows"] (low K c_determinant)) (mo_determinant : MonoF c_determinant) (d_law_whole : Def P w K mg base 1 "_law_whole" ["_law_found"] (low K c_law_whole)) (mo_law_whole : MonoF c_law_whole) (len : ∀ ds Q, sp ds Q → ds.length = 1) (hsp : ∀ ds Q, sp ds Q → t_law_good c_law_due c_determinant c_law_whole { nx := fun _ => Q (.v .non), rt := Q } (startP ["_law_rows", "_law_due_here", "_law_handed", "_law_told"] ds)) : Def P w K mg base 9 "_law_good" ["_law_rows"] (low K sp) := by
  have sc : FnScope ["_law_rows", "_law_due_here", "_law_handed", "_law_told"] ["_law_rows"] (defScope (top 12)) := ⟨rfl, rfl, rfl, by decide +kernel, rfl, by decide +kernel, by decide +kernel⟩
  refine m.okP (k := 8) (t := t_law_good c_law_due c_determinant c_law_whole) sc (fun f cdv A outer s H E hr => ?_) len hsp
  ·
    have hu := hr.units
    have hu1 := hu_of hr
    have hu65 := units65 hr
    exact (q_consS (q_set (i := 1) sc.nd rfl (Or.inl rfl) (q_call d_law_due mo_law_due (hr.mono (by decide)) (q_cons (q_var 0 (pv 0)) q_nil)))
  (q_consS (q_setX (q_lcX (iy := 2) ["_law_row"] [] [] sc.nd rfl (Or.inl rfl) rfl (q_iSeq (q_var 0 (pv 0))) (fun fp s H => (q_gN (i := 0) (k := 1) (show List.Nodup (["_law_row"] : List Str) by decide +kernel) rfl (Or.inl rfl))) (fun fp s H => qts_nil) (fun fp s H => (q_callTy cd_list rfl w_list boot_list (q_cons (q_var 0 (pv 0)) q_nil)))))
  (q_consS (q_set (i := 3) sc.nd rfl (Or.inl rfl) (q_call d_determinant mo_determinant (hr.mono (by decide)) (q_cons (q_var 2 (pv 2)) q_nil)))
  (q_consS (q_if (QW.qt (qw_or (qt_not (qt_tru (q_call d_law_whole mo_law_whole (hr.mono (by decide)) (q_cons (q_var 3 (pv 3)) q_nil)))) (qw_or (qt_cmp (opd_ne hu) (q_var 3 (pv 3)) (q_var 1 (pv 1))) (qw_or1 (qt_cmp (opd_ne hu) (q_var 2 (pv 2)) (q_var 0 (pv 0))))))) (q_oneS (q_ret q_bl)) q_nilS)
  (q_consS (q_if (qt_cmp opd_lt (q_callB cd_len rfl w_len boot_len (q_cons (q_var 0 (pv 0)) q_nil)) q_int) (q_oneS (q_ret q_bl)) q_nilS)
  (q_oneS (q_ret (q_cmp (opd_eq hu) (q_call d_determinant mo_determinant (hr.mono (by decide)) (q_cons (q_op opd_add (q_lst (q_cons (q_ix hu1 (q_var 0 (pv 0)) q_int) (q_cons (q_ix hu1 (q_var 0 (pv 0)) q_int) q_nil))) (q_slice (q_var 0 (pv 0)) (qo_some q_int) qo_none)) q_nil)) (q_op opd_sub q_int (q_var 1 (pv 1)))))))))))
abbrev b_law_0 (c_law_deep c_law_chosen c_law_square c_law_good : Fn) : TSp :=
  (sIf (eNot (eTru (eCall c_law_chosen (eCons (eOp pIx (eVar 1) (eVar 2)) (eCons (eVar 2) eNil))))) (sRet (eC (.bl false))) sNext)
abbrev b_law_1 (c_law_deep c_law_chosen c_law_square c_law_good : Fn) : TSp :=
  (sIf (eNot (eTru (eCall c_law_good (eCons (eCall c_law_square (eCons (eOp pAdd (eCall c_law_deep (eCons (eVar 0) (eCons (eOp pMul (eC (.int 2)) (eVar 2)) eNil))) (eVar 2)) (eCons (eCall c_law_deep (eCons (eVar 0) (eCons (eOp pAdd (eOp pMul (eC (.int 2)) (eVar 2)) (eC (.int 1))) eNil))) eNil))) eNil)))) (sRet (eC (.bl false))) sNext)
abbrev t_law (c_law_deep c_law_chosen c_law_square c_law_good : Fn) : TSp :=
  (sSeq (sSet 1 (eOp pAdd (eComp 1 [0] (iRange1 (eCons (eCB pMin2 (eCons (eC (.int 20)) (eCons (eCB pLen (eCons (eVar 0) eNil)) eNil))) eNil)) (gN 0) tTrue (eCall c_law_deep (eCons (eVar 1) (eCons (eVar 0) eNil)))) (eLst (eCons (eC (.int 130)) eNil))))
  (sSeq (sFor (iRange1 (eCons (eCB pLen (eCons (eVar 1) eNil)) eNil)) (gN 2) (b_law_0 c_law_deep c_law_chosen c_law_square c_law_good))
  (sSeq (sFor (iRange1 (eCons (eC (.int 3)) eNil)) (gN 2) (b_law_1 c_law_deep c_law_chosen c_law_square c_law_good))
  (sRet (eC (.bl true))))))
theorem dq_law {P : Program} {w : World} {K : PySem.W.Frag} {mg : Str → Option Value} {base : Heap} {c_law_deep c_law_chosen c_law_square c_law_good : Fn} {sp : Fn} {fL : Addr} {fdL : FuncData} (F : Fun K "law" "law" (top 13) fL fdL) (w_len : mg "len" = none) (w_min : mg "min" = none) (w_range : mg "range" = none) (d_law_deep : Def P w K mg base 1 "_law_deep" ["_law_script", "_law_k"] (low K c_law_deep)) (mo_law_deep : MonoF c_law_deep) (d_law_chosen : Def P w K mg base 2 "_law_chosen" ["_law_cell", "_law_k"] (low K c_law_chosen)) (mo_law_chosen : MonoF c_law_chosen) (d_law_square : Def P w K mg base 1 "_law_square" ["_law_cell", "_law_other"] (low K c_law_square)) (mo_law_square : MonoF c_law_square) (d_law_good : Def P w K mg base 9 "_law_good" ["_law_rows"] (low K c_law_good)) (mo_law_good : MonoF c_law_good) (len : ∀ ds Q, sp ds Q → ds.length = 1) (hsp : ∀ ds Q, sp ds Q → t_law c_law_deep c_law_chosen c_law_square c_law_good { nx := fun _ => Q (.v .non), rt := Q } (startP ["_law_script", "_law_cells", "_law_k"] ds)) : FnOk P w K mg base CX0 10 fL fdL ["_law_script"] (low K sp) := by
  have sc : FnScope ["_law_script", "_law_cells", "_law_k"] ["_law_script"] (defScope (top 13)) := ⟨rfl, rfl, rfl, by decide +kernel, rfl, by decide +kernel, by decide +kernel⟩
  refine F.ok (k := 9) sc (low_len len) fun cdv A outer s H vs Q E hr qq => body_ok (N := ["_law_script", "_law_cells", "_law_k"]) (t := t_law c_law_deep c_law_chosen c_law_square c_law_good) ?_ hsp qq
  ·
    have hu := hr.units
    have hu1 := hu_of hr
    have hu65 := units65 hr
    exact (q_consS (q_set (i := 1) sc.nd rfl (Or.inl rfl) (q_op opd_add (q_lc ["_law_k"] ["_law_script"] [0] rfl (q_iRange1 rfl w_range (q_cons (q_callB (cd_min2 rfl) rfl w_min boot_min (q_cons q_int (q_cons (q_callB cd_len rfl w_len boot_len (q_cons (q_var 0 (pv 0)) q_nil)) q_nil))) q_nil)) (fun fp s H => (q_gN (i := 0) (k := 1) (show List.Nodup (["_law_k", "_law_script"] : List Str) by decide +kernel) rfl (Or.inl rfl))) (fun fp s H => qts_nil) (fun fp s H => (q_call d_law_deep mo_law_deep (hr.mono (by decide)) (q_cons (q_var 1 (pv 1)) (q_cons (q_var 0 (pv 0)) q_nil))))) (q_lst (q_cons q_int q_nil))))
  (q_consS (q_for PassesOwn.never rfl (q_iRange1 rfl w_range (q_cons (q_callB cd_len rfl w_len boot_len (q_cons (q_var 1 (pv 1)) q_nil)) q_nil)) (q_gN (i := 2) (k := 3) sc.nd rfl (Or.inl rfl)) (q_oneS (q_if (qt_not (qt_tru (q_call d_law_chosen mo_law_chosen (hr.mono (by decide)) (q_cons (q_ix hu1 (q_var 1 (pv 1)) (q_var 2 (pv 2))) (q_cons (q_var 2 (pv 2)) q_nil))))) (q_oneS (q_ret q_bl)) q_nilS)))
  (q_consS (q_for PassesOwn.never rfl (q_iRange1 rfl w_range (q_cons q_int q_nil)) (q_gN (i := 2) (k := 3) sc.nd rfl (Or.inl rfl)) (q_oneS (q_if (qt_not (qt_tru (q_call d_law_good mo_law_good (hr.mono (by decide)) (q_cons (q_call d_law_square mo_law_square (hr.mono (by decide)) (q_cons (q_op opd_add (q_call d_law_deep mo_law_deep (hr.mono (by decide)) (q_cons (q_var 0 (pv 0)) (q_cons (q_op opd_mul q_int (q_var 2 (pv 2))) q_nil))) (q_var 2 (pv 2))) (q_cons (q_call d_law_deep mo_law_deep (hr.mono (by decide)) (q_cons (q_var 0 (pv 0)) (q_cons (q_op opd_add (q_op opd_mul q_int (q_var 2 (pv 2))) q_int) q_nil))) q_nil))) q_nil)))) (q_oneS (q_ret q_bl)) q_nilS)))
  (q_oneS (q_ret q_bl)))))
end Lw
namespace Lw
open PySem PySem.Spec PyProof.Rows L2 Z
theorem CMul_small {u k : Int} (h0 : -1000000 < k) (hk : k < 1000000) : CMulG u k := .inl (.inr ⟨by omega, by omega⟩)
def wI (n : Int) : Nat → Int → Int → Int
  | 0, _, w => w
  | m + 1, s, w => wI n m (s + 1) (w * (n - s) / (s + 1))
def chooseM (n k : Int) : Int := if k < 0 then 0 else if n < k then 0 else wI n (if n - k < k then n - k else k).toNat 0 1
def sp_choose : Fn := fun ds Q => ∃ n k : Int, ds = [.int n, .int k] ∧ (0 ≤ n ∧ n ≤ 100) ∧ Q (.v (.int (chooseM n k)))
theorem len_choose : ∀ ds Q, sp_choose ds Q → ds.length = 2 := by rintro ds Q ⟨_, _, rfl, _⟩; rfl
theorem mo_choose : MonoF sp_choose := ⟨fun ds Q Q' w ⟨n, k, e, a, h⟩ => ⟨n, k, e, a, w _ h⟩⟩
theorem choose_0 {n k : Int} {E : En} (hn : 0 ≤ n ∧ n ≤ 100) : ∀ (m : Nat) (s w : Int) (t : Sl), 0 ≤ s → s + m ≤ 200 → (∀ t, E.nx [.v (.int n), .v (.int k), .v (.int (wI n m s w)), t]) → forGo (gN 3) b_choose_0 [] (rangeD s m) E [.v (.int n), .v (.int k), .v (.int w), t] := by
  intro m
  induction m with
  | zero =>
    intro s w t _ _ h
    simp only [↓zt, zo, zc, setAll, Nat.reduceSub, Nat.reduceAdd, ↓reduceIte, Int.reduceEq, Int.reduceMul, Int.reduceAdd, Int.reduceSub, Int.reduceNeg, Z.guard, Int.reduceLT, Int.reduceLE, Int.reduceToNat, Int.reducePow, Nat.reduceLT, Nat.reduceLeDiff, Nat.reducePow, LIM, rangeD_nil]
    exact h t
  | succ m ih =>
    intro s w t h0 h1 h
    simp only [↓zt, zo, zc, setAll, Nat.reduceSub, Nat.reduceAdd, ↓reduceIte, Int.reduceEq, Int.reduceMul, Int.reduceAdd, Int.reduceSub, Int.reduceNeg, Z.guard, Int.reduceLT, Int.reduceLE, Int.reduceToNat, Int.reducePow, Nat.reduceLT, Nat.reduceLeDiff, Nat.reducePow, LIM, rangeD_cons, b_choose_0]
    exact ⟨CMul_small (by omega) (by omega), by omega, ih _ _ _ (by omega) (by omega) h⟩
theorem p_choose : ∀ ds Q, sp_choose ds Q → t_choose { nx := fun _ => Q (.v .non), rt := Q } (startP ["n", "k", "ways", "step"] ds) := by
  rintro ds Q ⟨n, k, rfl, hn, h⟩
  simp only [↓zt, zo, zc, setAll, Nat.reduceSub, Nat.reduceAdd, ↓reduceIte, Int.reduceEq, Int.reduceMul, Int.reduceAdd, Int.reduceSub, Int.reduceNeg, Z.guard, Int.reduceLT, Int.reduceLE, Int.reduceToNat, Int.reducePow, Nat.reduceLT, Nat.reduceLeDiff, Nat.reducePow, LIM]
  unfold chooseM at h
  by_cases h1 : k < 0
  · rw [if_pos h1] at h
    rw [if_pos h1]
    exact h
  rw [if_neg h1] at h
  rw [if_neg h1]
  by_cases h2 : n < k
  · rw [if_pos h2] at h
    rw [if_pos h2]
    exact h
  rw [if_neg h2] at h
  rw [if_neg h2]
  refine ⟨by split <;> omega, choose_0 hn _ _ _ _ (by omega) (by split <;> omega) fun t => ?_⟩
  simp only [↓zt, zo, zc, setAll, Nat.reduceSub, Nat.reduceAdd, ↓reduceIte, Int.reduceEq, Int.reduceMul, Int.reduceAdd, Int.reduceSub, Int.reduceNeg, Z.guard, Int.reduceLT, Int.reduceLE, Int.reduceToNat, Int.reducePow, Nat.reduceLT, Nat.reduceLeDiff, Nat.reducePow, LIM]
  exact h
def sp_deep : Fn := fun ds Q => ∃ (ns : List Int) (k : Nat), ds = [.scr ns, .int k] ∧ ns.length ≤ 63 ∧ k ≤ 100 ∧ ∀ n : Int, Q (.v (.int n))
theorem len_deep : ∀ ds Q, sp_deep ds Q → ds.length = 2 := by rintro ds Q ⟨_, _, rfl, _⟩; rfl
theorem mo_deep : MonoF sp_deep := ⟨fun ds Q Q' w ⟨p, q, e, a, b, h⟩ => ⟨p, q, e, a, b, fun n => w _ (h n)⟩⟩
theorem deep_0 {x : Sl} {k c : Int} {Q : R → Prop} (hk : 0 ≤ k ∧ k ≤ 100) (h : ∀ n : Int, Q (.v (.int n))) : ∀ (n : Nat) (j u : Int) (s : Sl), 0 ≤ j → j + n ≤ 20 →
    forGo (gN 4) b_law_deep_0 [] (rangeD j n) { nx := sRet (eVar 3) { nx := fun _ => Q (.v .non), rt := Q }, rt := Q } [x, .v (.int k), .v (.int c), .v (.int u), s] := by
  intro n
  induction n with
  | zero =>
    intro j u s _ _
    simp only [↓zt, zo, zc, setAll, Nat.reduceSub, Nat.reduceAdd, ↓reduceIte, Int.reduceEq, Int.reduceMul, Int.reduceAdd, Int.reduceSub, Int.reduceNeg, Z.guard, Int.reduceLT, Int.reduceLE, Int.reduceToNat, Int.reducePow, Nat.reduceLT, Nat.reduceLeDiff, Nat.reducePow, LIM, rangeD_nil]
    exact h _
  | succ n ih =>
    intro j u s h0 h1
    simp only [↓zt, zo, zc, setAll, Nat.reduceSub, Nat.reduceAdd, ↓reduceIte, Int.reduceEq, Int.reduceMul, Int.reduceAdd, Int.reduceSub, Int.reduceNeg, Z.guard, Int.reduceLT, Int.reduceLE, Int.reduceToNat, Int.reducePow, Nat.reduceLT, Nat.reduceLeDiff, Nat.reducePow, LIM, rangeD_cons, b_law_deep_0]
    refine ⟨.inl (.inr ⟨by decide, by decide⟩), CMul_small (by decide) (by decide), CMul_small (by omega) (by omega), CMul_small (by decide) (by decide), CMul_small (by decide) (by decide), ih _ _ _ (by omega) (by omega)⟩
theorem p_law_deep : ∀ ds Q, sp_deep ds Q → t_law_deep { nx := fun _ => Q (.v .non), rt := Q } (startP ["_law_script", "_law_k", "_law_cell", "_law_deep_here", "_law_j"] ds) := by
  rintro ds Q ⟨ns, k, rfl, hl, hk, h⟩
  have hp : CPow 10 15 := ⟨by decide, by decide, by decide⟩
  simp only [↓zt, zo, zc, setAll, Nat.reduceSub, Nat.reduceAdd, ↓reduceIte, Int.reduceEq, Int.reduceMul, Int.reduceAdd, Int.reduceSub, Int.reduceNeg, Z.guard, Int.reduceLT, Int.reduceLE, Int.reduceToNat, Int.reducePow, Nat.reduceLT, Nat.reduceLeDiff, Nat.reducePow, LIM]
  split
  · obtain ⟨n, hn⟩ : ∃ n, atI ns (k : Int) = some n := by
      rw [atI_nat (by omega) (by omega)]
      exact ⟨_, List.getElem?_eq_getElem (by omega)⟩
    rw [hn]
    simp only [↓zt, zo, zc, setAll, Nat.reduceSub, Nat.reduceAdd, ↓reduceIte, Int.reduceEq, Int.reduceMul, Int.reduceAdd, Int.reduceSub, Int.reduceNeg, Z.guard, Int.reduceLT, Int.reduceLE, Int.reduceToNat, Int.reducePow, Nat.reduceLT, Nat.reduceLeDiff, Nat.reducePow, LIM]
    split
    · exact h _
    · refine ⟨hp, ?_⟩
      split
      · exact h _
      · exact deep_0 (by omega) h 14 0 0 _ (by omega) (by omega)
  · exact ⟨hp, deep_0 (by omega) h 14 0 0 _ (by omega) (by omega)⟩
def sp_lw : Fn := fun ds Q => ∃ n : Int, ds = [.int n] ∧ Q (.v (.bl true))
theorem len_lw : ∀ ds Q, sp_lw ds Q → ds.length = 1 := by rintro ds Q ⟨_, rfl, _⟩; rfl
theorem mo_lw : MonoF sp_lw := ⟨fun ds Q Q' w ⟨r, e, h⟩ => ⟨r, e, w _ h⟩⟩
theorem p_law_whole : ∀ ds Q, sp_lw ds Q → t_law_whole { nx := fun _ => Q (.v .non), rt := Q } (startP ["_law_found"] ds) := by
  rintro ds Q ⟨n, rfl, q⟩
  simp only [↓zt, zo, zc, setAll, Nat.reduceSub, Nat.reduceAdd, ↓reduceIte, Int.reduceEq, Int.reduceMul, Int.reduceAdd, Int.reduceSub, Int.reduceNeg, Z.guard, Int.reduceLT, Int.reduceLE, Int.reduceToNat, Int.reducePow, Nat.reduceLT, Nat.reduceLeDiff, Nat.reducePow, LIM]
  exact ⟨rfl, rfl, q⟩
end Lw
namespace Lw
open PySem PySem.Spec PyProof.Rows L2 Z
abbrev nsD (r : List Int) : List Dv := r.map Dv.int
abbrev rows (t : List (List Int)) : List Dv := t.map fun r => Dv.lst (nsD r)
theorem at_ints {r : List Int} {k : Nat} (h : k < r.length) : atI (nsD r) (k : Int) = some (.int (r.getD k 0)) := by
  rw [atI_nat (by omega) (by simp; omega)]
  simp [List.getD, h]
theorem at_rows {t : List (List Int)} {k : Nat} (h : k < t.length) : atI (rows t) (k : Int) = some (.lst (nsD (t.getD k []))) := by
  rw [atI_nat (by omega) (by simp; omega)]
  simp [List.getD, h]
def okN (x : Int) : Bool := decide (x.natAbs < 2 ^ 1000)
def okR (n : Nat) (r : List Int) : Bool := r.length == n && r.all okN
def okT (t : List (List Int)) : Bool := t.all (okR t.length)
theorem okR_len {n : Nat} {r : List Int} (h : okR n r = true) : r.length = n := by
  unfold okR at h
  rw [Bool.and_eq_true, beq_iff_eq] at h
  exact h.1
theorem okR_at {n : Nat} {r : List Int} (h : okR n r = true) (k : Nat) : (r.getD k 0).natAbs < 2 ^ 1000 := by
  unfold okR at h
  rw [Bool.and_eq_true] at h
  by_cases hk : k < r.length
  · have := List.all_eq_true.mp h.2 r[k] (List.getElem_mem hk)
    simp only [List.getD, List.getElem?_eq_getElem hk, Option.getD_some]
    exact of_decide_eq_true this
  · have e : r[k]? = none := List.getElem?_eq_none (by omega)
    simp only [List.getD, e, Option.getD_none]
    exact Nat.two_pow_pos _
theorem okT_at {t : List (List Int)} (h : okT t = true) {k : Nat} (hk : k < t.length) : okR t.length (t.getD k []) = true := by
  have := List.all_eq_true.mp h t[k] (List.getElem_mem hk)
  simp only [List.getD, List.getElem?_eq_getElem hk, Option.getD_some]
  exact this
theorem okN_lt {x : Int} (h : okN x = true) : x.natAbs < 2 ^ 1000 := of_decide_eq_true h
theorem mulN {x y : Int} (h1 : x.natAbs < 2 ^ 1000) (h2 : y.natAbs < 2 ^ 1000) : CMulG x y := .inr ⟨Nat.lt_of_lt_of_le h1 (Nat.pow_le_pow_right (by decide) (by decide)), Nat.lt_of_lt_of_le h2 (Nat.pow_le_pow_right (by decide) (by decide))⟩
def plM (t : List (List Int)) (c : Nat) : Nat → Nat → Option Nat
  | 0, _ => none
  | m + 1, k => if (t.getD k []).getD c 0 = 0 then plM t c m (k + 1) else some k
def plD : Option Nat → Dv
  | some k => .int k
  | none => .non
theorem plM_lt {t : List (List Int)} {c : Nat} : ∀ (m k j : Nat), plM t c m k = some j → j < k + m
  | 0, _, _, h => by cases h
  | m + 1, k, j, h => by
    unfold plM at h
    split at h
    · have := plM_lt m (k + 1) j h
      omega
    · cases h
      omega
def sp_place : Fn := fun ds Q => ∃ (t : List (List Int)) (c : Nat), ds = [.lst (rows t), .int c] ∧ okT t = true ∧ t.length ≤ 100 ∧ c < t.length ∧ Q (.v (plD (plM t c (t.length - c) c)))
theorem len_place : ∀ ds Q, sp_place ds Q → ds.length = 2 := by rintro ds Q ⟨_, _, rfl, _⟩; rfl
theorem mo_place : MonoF sp_place := ⟨fun ds Q Q' w ⟨t, c, e, a, b, d, h⟩ => ⟨t, c, e, a, b, d, w _ h⟩⟩
theorem place_0 {t : List (List Int)} {c : Nat} {Q : R → Prop} (ok : okT t = true) (hc : c < t.length) : ∀ (m k : Nat) (s : Sl), k + m = t.length → Q (.v (plD (plM t c m k))) →
    forGo (gN 2) b_place_of_pivot_0 [] (rangeD k m) { nx := fun _ => Q (.v .non), rt := Q } [.v (.lst (rows t)), .v (.int c), s] := by
  intro m
  induction m with
  | zero =>
    intro k s _ h
    simp only [↓zt, zo, zc, setAll, Nat.reduceSub, Nat.reduceAdd, ↓reduceIte, Int.reduceEq, Int.reduceMul, Int.reduceAdd, Int.reduceSub, Int.reduceNeg, Z.guard, Int.reduceLT, Int.reduceLE, Int.reduceToNat, Int.reducePow, Nat.reduceLT, Nat.reduceLeDiff, Nat.reducePow, LIM, rangeD_nil]
    exact h
  | succ m ih =>
    intro k s hk h
    have hr := okR_len (okT_at ok (show k < t.length by omega))
    simp only [↓zt, zo, zc, setAll, Nat.reduceSub, Nat.reduceAdd, ↓reduceIte, Int.reduceEq, Int.reduceMul, Int.reduceAdd, Int.reduceSub, Int.reduceNeg, Z.guard, Int.reduceLT, Int.reduceLE, Int.reduceToNat, Int.reducePow, Nat.reduceLT, Nat.reduceLeDiff, Nat.reducePow, LIM, rangeD_cons, b_place_of_pivot_0, at_rows (show k < t.length by omega), at_ints (show c < (t.getD k []).length by omega)]
    unfold plM at h
    by_cases hz : (t.getD k []).getD c 0 = 0
    · rw [if_pos hz] at h
      rw [if_neg (by simpa using hz)]
      exact ih (k + 1) _ (by omega) h
    · rw [if_neg hz] at h
      rw [if_pos (by simpa using hz)]
      exact h
theorem p_place_of_pivot : ∀ ds Q, sp_place ds Q → t_place_of_pivot { nx := fun _ => Q (.v .non), rt := Q } (startP ["table", "column", "place"] ds) := by
  rintro ds Q ⟨t, c, rfl, ok, hl, hc, h⟩
  simp only [↓zt, zo, zc, setAll, Nat.reduceSub, Nat.reduceAdd, ↓reduceIte, Int.reduceEq, Int.reduceMul, Int.reduceAdd, Int.reduceSub, Int.reduceNeg, Z.guard, Int.reduceLT, Int.reduceLE, Int.reduceToNat, Int.reducePow, Nat.reduceLT, Nat.reduceLeDiff, Nat.reducePow, LIM, List.length_map]
  refine ⟨by omega, ?_⟩
  rw [show ((t.length : Int) - c).toNat = t.length - c by omega]
  exact place_0 ok hc _ _ _ (by omega) h
def clGo (nums pv : List Int) (c : Nat) (d : Int) : Nat → Nat → List Int → List Int
  | 0, _, told => told
  | m + 1, k, told => clGo nums pv c d m (k + 1) (told.set k ((pv.getD c 0 * nums.getD k 0 - nums.getD c 0 * pv.getD k 0).fdiv d))
def sp_cleared : Fn := fun ds Q => ∃ (nums pv : List Int) (c : Nat) (d : Int) (n : Nat), ds = [.lst (nsD nums), .lst (nsD pv), .int c, .int d] ∧ okR n nums = true ∧ okR n pv = true ∧ c < n ∧ n ≤ 100 ∧ d ≠ 0 ∧ okN d = true ∧ Q (.nw (.lst (nsD (clGo nums pv c d (n - (c + 1)) (c + 1) nums))))
theorem len_cleared : ∀ ds Q, sp_cleared ds Q → ds.length = 4 := by rintro ds Q ⟨_, _, _, _, _, rfl, _⟩; rfl
theorem mo_cleared : MonoF sp_cleared := ⟨fun ds Q Q' w ⟨a, b, c, d, n, e, h1, h2, h3, h4, h5, h6, h⟩ => ⟨a, b, c, d, n, e, h1, h2, h3, h4, h5, h6, w _ h⟩⟩
theorem cleared_0 {nums pv : List Int} {c n : Nat} {d : Int} {E : En} {a : Addr} (h1 : okR n nums = true) (h2 : okR n pv = true) (hc : c < n) (hd : d ≠ 0) (od : okN d = true) : ∀ (m k : Nat) (told : List Int) (s : Sl), k + m = n → told.length = n →
    (∀ s, E.nx [.v (.lst (nsD nums)), .v (.lst (nsD pv)), .v (.int c), .v (.int d), .own a (.lst (nsD (clGo nums pv c d m k told))), s]) →
    forGo (gN 5) b_cleared_0 [] (rangeD k m) E [.v (.lst (nsD nums)), .v (.lst (nsD pv)), .v (.int c), .v (.int d), .own a (.lst (nsD told)), s] := by
  intro m
  induction m with
  | zero =>
    intro k told s _ _ h
    simp only [↓zt, zo, zc, setAll, Nat.reduceSub, Nat.reduceAdd, ↓reduceIte, Int.reduceEq, Int.reduceMul, Int.reduceAdd, Int.reduceSub, Int.reduceNeg, Z.guard, Int.reduceLT, Int.reduceLE, Int.reduceToNat, Int.reducePow, Nat.reduceLT, Nat.reduceLeDiff, Nat.reducePow, LIM, rangeD_nil]
    exact h s
  | succ m ih =>
    intro k told s hk hl h
    have l1 := okR_len h1
    have l2 := okR_len h2
    simp only [↓zt, zo, zc, setAll, Nat.reduceSub, Nat.reduceAdd, ↓reduceIte, Int.reduceEq, Int.reduceMul, Int.reduceAdd, Int.reduceSub, Int.reduceNeg, Z.guard, Int.reduceLT, Int.reduceLE, Int.reduceToNat, Int.reducePow, Nat.reduceLT, Nat.reduceLeDiff, Nat.reducePow, LIM, rangeD_cons, b_cleared_0, at_ints (show c < pv.length by omega), at_ints (show k < nums.length by omega), at_ints (show c < nums.length by omega), at_ints (show k < pv.length by omega)]
    refine ⟨mulN (okR_at h2 c) (okR_at h1 k), mulN (okR_at h1 c) (okR_at h2 k), ⟨hd, Nat.lt_of_lt_of_le (okN_lt od) (Nat.pow_le_pow_right (by decide) (by decide))⟩, ?_⟩
    rw [show ixN (nsD told).length (k : Int) = some k by rw [ixN_nat (by omega) (by simp; omega)]; simp]
    simp only [↓zt, zo, zc, setAll, Nat.reduceSub, Nat.reduceAdd, ↓reduceIte, Int.reduceEq, Int.reduceMul, Int.reduceAdd, Int.reduceSub, Int.reduceNeg, Z.guard, Int.reduceLT, Int.reduceLE, Int.reduceToNat, Int.reducePow, Nat.reduceLT, Nat.reduceLeDiff, Nat.reducePow, LIM, ← List.map_set]
    exact ih (k + 1) _ _ (by omega) (by simpa using hl) h
theorem p_cleared : ∀ ds Q, sp_cleared ds Q → t_cleared { nx := fun _ => Q (.v .non), rt := Q } (startP ["numbers", "pivot", "column", "divisor", "told", "place"] ds) := by
  rintro ds Q ⟨nums, pv, c, d, n, rfl, h1, h2, hc, hn, hd, od, h⟩
  have l1 := okR_len h1
  simp only [↓zt, zo, zc, setAll, Nat.reduceSub, Nat.reduceAdd, ↓reduceIte, Int.reduceEq, Int.reduceMul, Int.reduceAdd, Int.reduceSub, Int.reduceNeg, Z.guard, Int.reduceLT, Int.reduceLE, Int.reduceToNat, Int.reducePow, Nat.reduceLT, Nat.reduceLeDiff, Nat.reducePow, LIM, List.length_map]
  intro a
  refine ⟨by omega, ?_⟩
  rw [show ((nums.length : Int) - (c + 1)).toNat = n - (c + 1) by omega, show ((c : Int) + 1) = ((c + 1 : Nat) : Int) by omega]
  refine cleared_0 h1 h2 hc hd od _ _ _ _ (by omega) l1 fun s => ?_
  simp only [↓zt, zo, zc, setAll, Nat.reduceSub, Nat.reduceAdd, ↓reduceIte, Int.reduceEq, Int.reduceMul, Int.reduceAdd, Int.reduceSub, Int.reduceNeg, Z.guard, Int.reduceLT, Int.reduceLE, Int.reduceToNat, Int.reducePow, Nat.reduceLT, Nat.reduceLeDiff, Nat.reducePow, LIM]
  exact h
end Lw
namespace Lw
open PySem PySem.Spec PyProof.Rows L2 Z
def bGo (n c : Nat) (pv : List Int) (d : Int) : Nat → Nat → List (List Int) → Option (List (List Int))
  | 0, _, t => some t
  | m + 1, b, t => if okR n (t.getD b []) = true then bGo n c pv d m (b + 1) (t.set b (clGo (t.getD b []) pv c d (n - (c + 1)) (c + 1) (t.getD b []))) else none
def detGo (n : Nat) : Nat → Nat → List (List Int) → Int → Int → Option Int
  | 0, _, _, s, d => if (okN s && okN d) = true then some (s * d) else none
  | m + 1, c, t, s, d => if (okT t && (t.length == n && (okN d && decide (d ≠ 0)))) = true then
      match plM t c (n - c) c with
      | none => some 0
      | some pl => match bGo n c (t.getD pl []) d (n - (c + 1)) (c + 1) (if pl = c then t else (t.set pl (t.getD c [])).set c (t.getD pl [])) with
        | none => none
        | some t2 => detGo n m (c + 1) t2 (if pl = c then s else -s) ((t.getD pl []).getD c 0)
    else none
def detM (t : List (List Int)) : Option Int := detGo t.length t.length 0 t 1 1
def sp_det : Fn := fun ds Q => ∃ (t : List (List Int)) (v : Int), ds = [.lst (rows t)] ∧ t.length ≤ 100 ∧ detM t = some v ∧ Q (.v (.int v))
theorem len_det : ∀ ds Q, sp_det ds Q → ds.length = 1 := by rintro ds Q ⟨_, _, rfl, _⟩; rfl
theorem mo_det : MonoF sp_det := ⟨fun ds Q Q' w ⟨t, v, e, a, b, h⟩ => ⟨t, v, e, a, b, w _ h⟩⟩
theorem bGo_len {n c : Nat} {pv : List Int} {d : Int} : ∀ (m b : Nat) (t t2 : List (List Int)), bGo n c pv d m b t = some t2 → t2.length = t.length
  | 0, _, t, t2, h => by cases h; rfl
  | m + 1, b, t, t2, h => by
    unfold bGo at h
    split at h
    · rw [bGo_len m (b + 1) _ t2 h, List.length_set]
    · cases h
theorem det_0 {n c : Nat} {pv : List Int} {d s : Int} {x p : Sl} {a : Addr} {E : En} (hpv : okR n pv = true) (hc : c < n) (hn : n ≤ 100) (hd : d ≠ 0) (od : okN d = true) : ∀ (m b : Nat) (t t2 : List (List Int)) (z : Sl), t.length = n → b + m = n → bGo n c pv d m b t = some t2 →
    (∀ z, E.nx [x, .own a (.lst (rows t2)), .v (.int s), .v (.int d), .v (.int c), p, .v (.lst (nsD pv)), z]) →
    forGo (gN 7) (b_determinant_0 sp_place sp_cleared) [] (rangeD b m) E [x, .own a (.lst (rows t)), .v (.int s), .v (.int d), .v (.int c), p, .v (.lst (nsD pv)), z] := by
  intro m
  induction m with
  | zero =>
    intro b t t2 z _ _ e h
    cases e
    simp only [↓zt, zo, zc, setAll, Nat.reduceSub, Nat.reduceAdd, ↓reduceIte, Int.reduceEq, Int.reduceMul, Int.reduceAdd, Int.reduceSub, Int.reduceNeg, Z.guard, Int.reduceLT, Int.reduceLE, Int.reduceToNat, Int.reducePow, Nat.reduceLT, Nat.reduceLeDiff, Nat.reducePow, LIM, rangeD_nil]
    exact h z
  | succ m ih =>
    intro b t t2 z hl hb e h
    unfold bGo at e
    split at e
    · rename_i ok
      simp only [↓zt, zo, zc, setAll, Nat.reduceSub, Nat.reduceAdd, ↓reduceIte, Int.reduceEq, Int.reduceMul, Int.reduceAdd, Int.reduceSub, Int.reduceNeg, Z.guard, Int.reduceLT, Int.reduceLE, Int.reduceToNat, Int.reducePow, Nat.reduceLT, Nat.reduceLeDiff, Nat.reducePow, LIM, rangeD_cons, b_determinant_0, at_rows (show b < t.length by omega)]
      refine ⟨_, _, _, _, n, rfl, ok, hpv, hc, hn, hd, od, ?_⟩
      simp only [↓zt, zo, zc, setAll, Nat.reduceSub, Nat.reduceAdd, ↓reduceIte, Int.reduceEq, Int.reduceMul, Int.reduceAdd, Int.reduceSub, Int.reduceNeg, Z.guard, Int.reduceLT, Int.reduceLE, Int.reduceToNat, Int.reducePow, Nat.reduceLT, Nat.reduceLeDiff, Nat.reducePow, LIM]
      rw [show ixN (rows t).length (b : Int) = some b by rw [ixN_nat (by omega) (by simp; omega)]; simp]
      simp only [↓zt, zo, zc, setAll, Nat.reduceSub, Nat.reduceAdd, ↓reduceIte, Int.reduceEq, Int.reduceMul, Int.reduceAdd, Int.reduceSub, Int.reduceNeg, Z.guard, Int.reduceLT, Int.reduceLE, Int.reduceToNat, Int.reducePow, Nat.reduceLT, Nat.reduceLeDiff, Nat.reducePow, LIM, ← List.map_set]
      exact ih (b + 1) _ t2 _ (by rw [List.length_set]; exact hl) (by omega) e h
    · cases e
theorem det_1 {n : Nat} {x : Sl} {a : Addr} {Q : R → Prop} {v : Int} (hn : n ≤ 100) (h : Q (.v (.int v))) : ∀ (m c : Nat) (t : List (List Int)) (s d : Int) (z1 z2 z3 z4 : Sl), t.length = n → c + m = n → detGo n m c t s d = some v →
    forGo (gN 4) (b_determinant_1 sp_place sp_cleared) [] (rangeD c m) { nx := sRet (eOp pMul (eVar 2) (eVar 3)) { nx := fun _ => Q (.v .non), rt := Q }, rt := Q } [x, .own a (.lst (rows t)), .v (.int s), .v (.int d), z1, z2, z3, z4] := by
  intro m
  induction m with
  | zero =>
    intro c t s d z1 z2 z3 z4 hl hc e
    unfold detGo at e
    split at e
    · rename_i ok
      rw [Bool.and_eq_true] at ok
      cases e
      simp only [↓zt, zo, zc, setAll, Nat.reduceSub, Nat.reduceAdd, ↓reduceIte, Int.reduceEq, Int.reduceMul, Int.reduceAdd, Int.reduceSub, Int.reduceNeg, Z.guard, Int.reduceLT, Int.reduceLE, Int.reduceToNat, Int.reducePow, Nat.reduceLT, Nat.reduceLeDiff, Nat.reducePow, LIM, rangeD_nil]
      exact ⟨mulN (okN_lt ok.1) (okN_lt ok.2), h⟩
    · cases e
  | succ m ih =>
    intro c t s d z1 z2 z3 z4 hl hc e
    unfold detGo at e
    split at e
    · rename_i ok
      rw [Bool.and_eq_true, Bool.and_eq_true, Bool.and_eq_true, decide_eq_true_eq] at ok
      obtain ⟨okt, _, od, hd⟩ := ok
      simp only [↓zt, zo, zc, setAll, Nat.reduceSub, Nat.reduceAdd, ↓reduceIte, Int.reduceEq, Int.reduceMul, Int.reduceAdd, Int.reduceSub, Int.reduceNeg, Z.guard, Int.reduceLT, Int.reduceLE, Int.reduceToNat, Int.reducePow, Nat.reduceLT, Nat.reduceLeDiff, Nat.reducePow, LIM, rangeD_cons, b_determinant_1]
      refine ⟨t, c, rfl, okt, by omega, by omega, ?_⟩
      rw [hl]
      cases hp : plM t c (n - c) c with
      | none =>
        rw [hp] at e
        cases e
        simp only [↓zt, zo, zc, setAll, Nat.reduceSub, Nat.reduceAdd, ↓reduceIte, Int.reduceEq, Int.reduceMul, Int.reduceAdd, Int.reduceSub, Int.reduceNeg, Z.guard, Int.reduceLT, Int.reduceLE, Int.reduceToNat, Int.reducePow, Nat.reduceLT, Nat.reduceLeDiff, Nat.reducePow, LIM, plD]
        exact ⟨.inr rfl, h⟩
      | some pl =>
        rw [hp] at e
        have hlt := plM_lt _ _ _ hp
        have okp := okT_at okt (show pl < t.length by omega)
        rw [hl] at okp
        have lp := okR_len okp
        dsimp only at e
        split at e
        · cases e
        · rename_i t2 hb
          have e1 : atI (nsD (t.getD pl [])) (c : Int) = some (.int ((t.getD pl []).getD c 0)) := at_ints (by omega)
          have e2 : ((c : Int) + 1) = ((c + 1 : Nat) : Int) := by omega
          have l2 := bGo_len _ _ _ _ hb
          simp only [↓zt, zo, zc, setAll, Nat.reduceSub, Nat.reduceAdd, ↓reduceIte, Int.reduceEq, Int.reduceMul, Int.reduceAdd, Int.reduceSub, Int.reduceNeg, Z.guard, Int.reduceLT, Int.reduceLE, Int.reduceToNat, Int.reducePow, Nat.reduceLT, Nat.reduceLeDiff, Nat.reducePow, LIM, plD, at_rows (show pl < t.length by omega)]
          refine ⟨.inr rfl, ?_⟩
          by_cases hpc : pl = c
          · subst hpc
            rw [if_pos rfl] at hb l2 e
            rw [if_neg (by simp)]
            simp only [↓zt, zo, zc, setAll, Nat.reduceSub, Nat.reduceAdd, ↓reduceIte, Int.reduceEq, Int.reduceMul, Int.reduceAdd, Int.reduceSub, Int.reduceNeg, Z.guard, Int.reduceLT, Int.reduceLE, Int.reduceToNat, Int.reducePow, Nat.reduceLT, Nat.reduceLeDiff, Nat.reducePow, LIM, List.length_map, e2]
            refine ⟨by omega, ?_⟩
            rw [hl, show ((n : Int) - ((pl + 1 : Nat) : Int)).toNat = n - (pl + 1) by omega]
            refine det_0 okp (by omega) hn hd od _ _ _ t2 _ hl (by omega) hb fun z => ?_
            simp only [↓zt, zo, zc, setAll, Nat.reduceSub, Nat.reduceAdd, ↓reduceIte, Int.reduceEq, Int.reduceMul, Int.reduceAdd, Int.reduceSub, Int.reduceNeg, Z.guard, Int.reduceLT, Int.reduceLE, Int.reduceToNat, Int.reducePow, Nat.reduceLT, Nat.reduceLeDiff, Nat.reducePow, LIM, e1]
            exact ih (pl + 1) t2 _ _ _ _ _ _ (by omega) (by omega) e
          · rw [if_neg hpc] at hb l2 e
            rw [if_pos (by simp; omega)]
            simp only [↓zt, zo, zc, setAll, Nat.reduceSub, Nat.reduceAdd, ↓reduceIte, Int.reduceEq, Int.reduceMul, Int.reduceAdd, Int.reduceSub, Int.reduceNeg, Z.guard, Int.reduceLT, Int.reduceLE, Int.reduceToNat, Int.reducePow, Nat.reduceLT, Nat.reduceLeDiff, Nat.reducePow, LIM, at_rows (show c < t.length by omega)]
            rw [show ixN (rows t).length (pl : Int) = some pl by rw [ixN_nat (by omega) (by simp; omega)]; simp]
            simp only [↓zt, zo, zc, setAll, Nat.reduceSub, Nat.reduceAdd, ↓reduceIte, Int.reduceEq, Int.reduceMul, Int.reduceAdd, Int.reduceSub, Int.reduceNeg, Z.guard, Int.reduceLT, Int.reduceLE, Int.reduceToNat, Int.reducePow, Nat.reduceLT, Nat.reduceLeDiff, Nat.reducePow, LIM, ← List.map_set]
            rw [show ixN (rows (t.set pl (t.getD c []))).length (c : Int) = some c by rw [ixN_nat (by omega) (by simp; omega)]; simp]
            simp only [↓zt, zo, zc, setAll, Nat.reduceSub, Nat.reduceAdd, ↓reduceIte, Int.reduceEq, Int.reduceMul, Int.reduceAdd, Int.reduceSub, Int.reduceNeg, Z.guard, Int.reduceLT, Int.reduceLE, Int.reduceToNat, Int.reducePow, Nat.reduceLT, Nat.reduceLeDiff, Nat.reducePow, LIM, ← List.map_set, List.length_map, List.length_set, e2]
            refine ⟨by omega, ?_⟩
            rw [hl, show ((n : Int) - ((c + 1 : Nat) : Int)).toNat = n - (c + 1) by omega]
            refine det_0 okp (by omega) hn hd od _ _ _ t2 _ (by simp [hl]) (by omega) hb fun z => ?_
            simp only [↓zt, zo, zc, setAll, Nat.reduceSub, Nat.reduceAdd, ↓reduceIte, Int.reduceEq, Int.reduceMul, Int.reduceAdd, Int.reduceSub, Int.reduceNeg, Z.guard, Int.reduceLT, Int.reduceLE, Int.reduceToNat, Int.reducePow, Nat.reduceLT, Nat.reduceLeDiff, Nat.reducePow, LIM, e1]
            exact ih (c + 1) t2 _ _ _ _ _ _ (by simp at l2; omega) (by omega) e
    · cases e
theorem p_determinant : ∀ ds Q, sp_det ds Q → t_determinant sp_place sp_cleared { nx := fun _ => Q (.v .non), rt := Q } (startP ["rows", "table", "sign", "divisor", "column", "place", "pivot", "below"] ds) := by
  rintro ds Q ⟨t, v, rfl, hl, e, h⟩
  simp only [↓zt, zo, zc, setAll, Nat.reduceSub, Nat.reduceAdd, ↓reduceIte, Int.reduceEq, Int.reduceMul, Int.reduceAdd, Int.reduceSub, Int.reduceNeg, Z.guard, Int.reduceLT, Int.reduceLE, Int.reduceToNat, Int.reducePow, Nat.reduceLT, Nat.reduceLeDiff, Nat.reducePow, LIM, List.length_map]
  intro a
  refine ⟨by omega, ?_⟩
  rw [show ((t.length : Nat) : Int).toNat = t.length by omega]
  exact det_1 hl h t.length 0 t 1 1 _ _ _ _ rfl (by omega) e
end Lw
namespace Lw
open PySem PySem.Spec PyProof.Rows L2 Z
open Dt (U pd DI D up sw)
abbrev mt (t : List (List Int)) : Nat → Nat → Int := fun i j => (t.getD i []).getD j 0
theorem getD_set {α : Type} (l : List α) (k i : Nat) (x d : α) (hk : k < l.length) : (l.set k x).getD i d = if i = k then x else l.getD i d := by
  simp only [List.getD]
  by_cases h : i = k
  · subst h; rw [if_pos rfl, List.getElem?_set_self hk]; rfl
  · rw [if_neg h, List.getElem?_set_ne (Ne.symm h)]
theorem cl_get (nums pv : List Int) (c : Nat) (d : Int) : ∀ (m k : Nat) (told : List Int), k + m ≤ told.length → (clGo nums pv c d m k told).length = told.length ∧
    ∀ j, (clGo nums pv c d m k told).getD j 0 = if k ≤ j ∧ j < k + m then (pv.getD c 0 * nums.getD j 0 - nums.getD c 0 * pv.getD j 0).fdiv d else told.getD j 0
  | 0, k, told, _ => ⟨rfl, fun j => by rw [if_neg (by omega)]; rfl⟩
  | m + 1, k, told, h => by
    obtain ⟨h1, h2⟩ := cl_get nums pv c d m (k + 1) (told.set k ((pv.getD c 0 * nums.getD k 0 - nums.getD c 0 * pv.getD k 0).fdiv d)) (by simp; omega)
    rw [clGo]
    refine ⟨by rw [h1]; simp, fun j => ?_⟩
    rw [h2 j, getD_set _ _ _ _ _ (by omega)]
    by_cases e : j = k
    · subst e
      rw [if_neg (by omega), if_pos rfl, if_pos (by omega)]
    · rw [if_neg e]
      by_cases q : k + 1 ≤ j ∧ j < k + 1 + m
      · rw [if_pos q, if_pos (by omega)]
      · rw [if_neg q, if_neg (by omega)]
theorem b_get {n c : Nat} {pv : List Int} {d : Int} : ∀ (m b : Nat) (t : List (List Int)), b + m ≤ t.length → (∀ i, b ≤ i → i < b + m → okR n (t.getD i []) = true) → ∃ t2, bGo n c pv d m b t = some t2 ∧ t2.length = t.length ∧
    ∀ i, t2.getD i [] = if b ≤ i ∧ i < b + m then clGo (t.getD i []) pv c d (n - (c + 1)) (c + 1) (t.getD i []) else t.getD i []
  | 0, b, t, _, _ => ⟨t, rfl, rfl, fun i => by rw [if_neg (by omega)]⟩
  | m + 1, b, t, h, ok => by
    have o := ok b (by omega) (by omega)
    have g : ∀ i, (t.set b (clGo (t.getD b []) pv c d (n - (c + 1)) (c + 1) (t.getD b []))).getD i [] = if i = b then clGo (t.getD b []) pv c d (n - (c + 1)) (c + 1) (t.getD b []) else t.getD i [] := fun i => getD_set _ _ _ _ _ (by omega)
    obtain ⟨t2, e, l, q⟩ := b_get m (b + 1) (t.set b (clGo (t.getD b []) pv c d (n - (c + 1)) (c + 1) (t.getD b []))) (by simp; omega) fun i h1 h2 => by rw [g, if_neg (by omega)]; exact ok i (by omega) (by omega)
    refine ⟨t2, by rw [bGo, if_pos o]; exact e, by rw [l]; simp, fun i => ?_⟩
    rw [q i, g i]
    by_cases z : i = b
    · subst z
      rw [if_neg (by omega), if_pos rfl, if_pos (by omega)]
    · rw [if_neg z]
      by_cases y : b + 1 ≤ i ∧ i < b + 1 + m
      · rw [if_pos y, if_pos (by omega)]
      · rw [if_neg y, if_neg (by omega)]
theorem pl_none {t : List (List Int)} {c : Nat} : ∀ (m k : Nat), plM t c m k = none → ∀ i, k ≤ i → i < k + m → mt t i c = 0
  | 0, _, _, i, h1, h2 => by omega
  | m + 1, k, h, i, h1, h2 => by
    rw [plM] at h
    split at h
    · rename_i z
      by_cases e : i = k
      · subst e; exact z
      · exact pl_none m (k + 1) h i (by omega) (by omega)
    · cases h
theorem pl_some {t : List (List Int)} {c : Nat} : ∀ (m k j : Nat), plM t c m k = some j → k ≤ j ∧ j < k + m ∧ mt t j c ≠ 0
  | 0, _, _, h => by cases h
  | m + 1, k, j, h => by
    rw [plM] at h
    split at h
    · obtain ⟨a, b, e⟩ := pl_some m (k + 1) j h
      exact ⟨by omega, by omega, e⟩
    · cases h
      exact ⟨Nat.le_refl _, by omega, by assumption⟩
structure Sz (n G : Nat) (t : List (List Int)) : Prop where
  len : t.length = n
  row : ∀ i, i < n → (t.getD i []).length = n
  big : ∀ i j, i < n → j < n → (mt t i j).natAbs ≤ G
theorem Sz.okR {n G : Nat} {t : List (List Int)} (h : Sz n G t) (hG : G < 2 ^ 1000) {i : Nat} (hi : i < n) : okR n (t.getD i []) = true := by
  unfold Lw.okR
  rw [h.row i hi]
  simp only [beq_self_eq_true, Bool.true_and, List.all_eq_true]
  intro x hx
  obtain ⟨j, hj, e⟩ := List.mem_iff_getElem.mp hx
  have := h.big i j hi (by rw [← h.row i hi]; exact hj)
  have e2 : (t.getD i []).getD j 0 = x := by rw [← e, List.getD_eq_getElem?_getD, List.getElem?_eq_getElem hj]; rfl
  unfold okN
  rw [← e2]
  exact decide_eq_true (Nat.lt_of_le_of_lt this hG)
theorem Sz.okT {n G : Nat} {t : List (List Int)} (h : Sz n G t) (hG : G < 2 ^ 1000) : okT t = true := by
  unfold Lw.okT
  rw [List.all_eq_true]
  intro r hr
  obtain ⟨i, hi, e⟩ := List.mem_iff_getElem.mp hr
  have := h.okR hG (i := i) (by rw [← h.len]; exact hi)
  have e2 : t.getD i [] = r := by rw [← e]; simp only [List.getD, List.getElem?_eq_getElem hi, Option.getD_some]
  rw [h.len, ← e2]
  exact this
structure Cl (n B G c : Nat) (R0 : Nat → Nat → Int) (t : List (List Int)) (s d : Int) (R : Nat → Nat → Int) : Prop where
  sz : Sz n G t
  rb : ∀ i j, i < n → j < n → (R i j).natAbs ≤ B
  sg : s = 1 ∨ s = -1
  det : (s : Rat) * D n (up R) = D n (up R0)
  pv : ∀ k, k < c → U k (up R) k k ≠ 0
  dv : (d : Rat) = pd (up R) c
  ent : ∀ i j, c ≤ i → i < n → c ≤ j → j < n → ((mt t i j : Int) : Rat) = pd (up R) c * U c (up R) i j
theorem pd_ne {A : Nat → Nat → Rat} : ∀ c, (∀ k, k < c → U k A k k ≠ 0) → pd A c ≠ 0
  | 0, _ => by rw [pd]; grind
  | c + 1, h => by
    have h1 := pd_ne c fun k hk => h k (by omega)
    have h2 := h c (by omega)
    rw [pd]
    grind
theorem Cl.swap {n B G c p : Nat} {R0 R : Nat → Nat → Int} {t : List (List Int)} {s d : Int} (h : Cl n B G c R0 t s d R) (hc : c < p) (hp : p < n) :
    Cl n B G c R0 ((t.set p (t.getD c [])).set c (t.getD p [])) (-s) d (fun i j => R (sw c p i) j) := by
  have hl := h.sz.len
  have g : ∀ i, ((t.set p (t.getD c [])).set c (t.getD p [])).getD i [] = t.getD (sw c p i) [] := fun i => by
    rw [getD_set _ _ _ _ _ (by simp; omega), getD_set _ _ _ _ _ (by omega)]
    unfold sw
    by_cases h1 : i = c
    · rw [if_pos h1, if_pos h1]
    · rw [if_neg h1, if_neg h1]
      by_cases h2 : i = p
      · rw [if_pos h2, if_pos h2]
      · rw [if_neg h2, if_neg h2]
  have lt : ∀ i, i < n → sw c p i < n := fun i hi => by unfold sw; split <;> first | omega | (split <;> omega)
  have ge : ∀ i, c ≤ i → c ≤ sw c p i := fun i hi => by unfold sw; split <;> first | omega | (split <;> omega)
  have same : ∀ k, k < c → sw c p k = k := fun k hk => by unfold sw; rw [if_neg (by omega), if_neg (by omega)]
  have eU : ∀ k, k ≤ c → ∀ i j, U k (up fun i j => R (sw c p i) j) i j = U k (up R) (sw c p i) j := fun k hk =>
    Dt.U_rows k (fun x hx => by funext j; show ((R (sw c p x) j : Int) : Rat) = _; rw [same x (by omega)]; rfl) (fun i => rfl) (fun x hx => same x (by omega))
  have eP : ∀ k, k ≤ c → pd (up fun i j => R (sw c p i) j) k = pd (up R) k := by
    intro k
    induction k with
    | zero => intro _; rfl
    | succ k ih => intro hk; rw [pd, pd, ih (by omega), eU k (by omega), same k (by omega)]
  refine ⟨⟨by simp [hl], fun i hi => by rw [g]; exact h.sz.row _ (lt i hi), fun i j hi hj => by show ((((t.set p (t.getD c [])).set c (t.getD p [])).getD i []).getD j 0).natAbs ≤ G; rw [g]; exact h.sz.big _ j (lt i hi) hj⟩, fun i j hi hj => h.rb _ j (lt i hi) hj, ?_, ?_, fun k hk => by rw [eU k (by omega), same k hk]; exact h.pv k hk, by rw [eP c (Nat.le_refl _)]; exact h.dv, fun i j a b e f => ?_⟩
  · rcases h.sg with z | z <;> rw [z]
    · exact .inr rfl
    · exact .inl rfl
  · have := Dt.D_swap (up R) hc hp
    have e : (up fun i j => R (sw c p i) j) = fun i j => up R (sw c p i) j := rfl
    rw [e, this, Rat.intCast_neg]
    have := h.det
    grind
  · show ((((((t.set p (t.getD c [])).set c (t.getD p [])).getD i []).getD j 0 : Int)) : Rat) = _
    rw [g, eP c (Nat.le_refl _), eU c (Nat.le_refl _)]
    exact h.ent _ j (ge i a) (lt i b) e f
theorem sub_up (R : Nat → Nat → Int) (c i j : Nat) : up (fun a b => R (if a < c then a else i) (if b < c then b else j)) = Dt.sub (up R) c i j := rfl
theorem fac_mono : ∀ n m, n ≤ m → Dt.fac n ≤ Dt.fac m
  | n, 0, h => by have : n = 0 := by omega
                  subst this; exact Nat.le_refl _
  | n, m + 1, h => by
    by_cases e : n = m + 1
    · subst e; exact Nat.le_refl _
    · have := fac_mono n m (by omega)
      rw [Dt.fac]
      exact Nat.le_trans this (Nat.le_mul_of_pos_left _ (by omega))
theorem Cl.step {n B G c : Nat} {R0 R : Nat → Nat → Int} {t t2 : List (List Int)} {s d : Int} (h : Cl n B G c R0 t s d R) (hc : c < n) (hB : 1 ≤ B) (hG : Dt.fac n * B ^ n ≤ G) (hp : mt t c c ≠ 0) (hl : t2.length = t.length)
    (q : ∀ i, t2.getD i [] = if c + 1 ≤ i ∧ i < c + 1 + (n - (c + 1)) then clGo (t.getD i []) (t.getD c []) c d (n - (c + 1)) (c + 1) (t.getD i []) else t.getD i []) : Cl n B G (c + 1) R0 t2 s (mt t c c) R := by
  have pn := pd_ne c h.pv
  have ecc := h.ent c c (Nat.le_refl _) hc (Nat.le_refl _) hc
  have ucc : U c (up R) c c ≠ 0 := fun z => by
    rw [z] at ecc
    apply hp
    apply Rat.intCast_inj.mp
    rw [ecc, Rat.intCast_zero]
    grind
  have pv' : ∀ k, k < c + 1 → U k (up R) k k ≠ 0 := fun k hk => by
    by_cases e : k = c
    · rw [e]; exact ucc
    · exact h.pv k (by omega)
  have d0 : d ≠ 0 := fun z => by
    apply pn
    rw [← h.dv, z]
    rfl
  have new : ∀ i j, c + 1 ≤ i → i < n → c + 1 ≤ j → j < n → mt t2 i j = DI (c + 2) (fun a b => R (if a < c + 1 then a else i) (if b < c + 1 then b else j)) := fun i j i1 i2 j1 j2 => by
    have e1 : mt t2 i j = (mt t c c * mt t i j - mt t i c * mt t c j).fdiv d := by
      show (t2.getD i []).getD j 0 = _
      rw [q i, if_pos (by omega), (cl_get _ _ _ _ _ _ _ (by rw [h.sz.row i i2]; omega)).2 j, if_pos (by omega)]
    have e2 : mt t c c * mt t i j - mt t i c * mt t c j = d * DI (c + 2) (fun a b => R (if a < c + 1 then a else i) (if b < c + 1 then b else j)) := by
      apply Rat.intCast_inj.mp
      rw [Rat.intCast_sub, Rat.intCast_mul, Rat.intCast_mul, Rat.intCast_mul, Dt.D_up, sub_up, Dt.det_sub (c + 1) (up R) i j pv' i1 j1, h.dv, ecc, h.ent i j (by omega) i2 (by omega) j2, h.ent i c (by omega) i2 (Nat.le_refl _) hc, h.ent c j (Nat.le_refl _) hc (by omega) j2]
      show _ = pd (up R) c * (pd (up R) c * U c (up R) c c * (U c (up R) i j - U c (up R) i c / U c (up R) c c * U c (up R) c j))
      generalize pd (up R) c = P at *
      generalize U c (up R) c c = a at *
      generalize U c (up R) i j = b
      generalize U c (up R) i c = e
      generalize U c (up R) c j = f
      grind
    rw [e1, e2, Int.mul_fdiv_cancel_left _ d0]
  refine ⟨⟨by rw [hl]; exact h.sz.len, fun i hi => ?_, fun i j hi hj => ?_⟩, h.rb, h.sg, h.det, pv', by rw [ecc]; rfl, fun i j i1 i2 j1 j2 => ?_⟩
  · rw [q i]
    split
    · rw [(cl_get _ _ _ _ _ _ _ (by rw [h.sz.row i hi]; omega)).1]
      exact h.sz.row i hi
    · exact h.sz.row i hi
  · by_cases z : c + 1 ≤ i ∧ c + 1 ≤ j
    · rw [new i j z.1 hi z.2 hj]
      have b1 := Dt.D_abs (b := B) (c + 2) (fun a b => R (if a < c + 1 then a else i) (if b < c + 1 then b else j)) fun a b ha hb => h.rb _ _ (by split <;> omega) (by split <;> omega)
      have b2 : Dt.fac (c + 2) ≤ Dt.fac n := fac_mono _ _ (by omega)
      have b3 : B ^ (c + 2) ≤ B ^ n := Nat.pow_le_pow_right hB (by omega)
      exact Nat.le_trans b1 (Nat.le_trans (Nat.mul_le_mul b2 b3) hG)
    · have : mt t2 i j = mt t i j := by
        show (t2.getD i []).getD j 0 = (t.getD i []).getD j 0
        rw [q i]
        split
        · rw [(cl_get _ _ _ _ _ _ _ (by rw [h.sz.row i hi]; omega)).2 j, if_neg (by omega)]
        · rfl
      rw [this]
      exact h.sz.big i j hi hj
  · rw [new i j i1 i2 j1 j2, Dt.D_up, sub_up, Dt.det_sub (c + 1) (up R) i j pv' i1 j1]
theorem D_pd {n : Nat} {A : Nat → Nat → Rat} (h : ∀ k, k < n → U k A k k ≠ 0) : D n A = pd A n := by
  cases n with
  | zero => rfl
  | succ n =>
    have := Dt.det_sub n A n n (fun k hk => h k (by omega)) (Nat.le_refl _) (Nat.le_refl _)
    rw [pd, ← this]
    refine Dt.D_congr _ fun i j hi hj => ?_
    unfold Dt.sub
    have e : ∀ a, a < n + 1 → (if a < n then a else n) = a := fun a ha => by split <;> omega
    rw [e i hi, e j hj]
theorem det_go {n B G : Nat} {R0 : Nat → Nat → Int} (hB : 1 ≤ B) (hG : Dt.fac n * B ^ n ≤ G) (hG2 : G < 2 ^ 1000) : ∀ (m c : Nat) (t : List (List Int)) (s d : Int) (R : Nat → Nat → Int), c + m = n → d.natAbs ≤ G → Cl n B G c R0 t s d R → detGo n m c t s d = some (DI n R0)
  | 0, c, t, s, d, R, hc, hd, h => by
    have e : c = n := by omega
    subst e
    have os : okN s = true := by rcases h.sg with z | z <;> rw [z] <;> decide +kernel
    have od : okN d = true := decide_eq_true (Nat.lt_of_le_of_lt hd hG2)
    rw [detGo, os, od]
    simp only [Bool.and_self, if_true, Option.some.injEq]
    apply Rat.intCast_inj.mp
    rw [Rat.intCast_mul, Dt.D_up, ← h.det, h.dv, D_pd h.pv]
  | m + 1, c, t, s, d, R, hc, hd, h => by
    have ot := h.sz.okT hG2
    have od : okN d = true := decide_eq_true (Nat.lt_of_le_of_lt hd hG2)
    have d0 : d ≠ 0 := fun z => by
      apply pd_ne c h.pv
      rw [← h.dv, z]
      rfl
    have pn := pd_ne c h.pv
    rw [detGo, if_pos (by rw [ot, h.sz.len, od]; simp [d0])]
    cases e : plM t c (n - c) c with
    | none =>
      have z := pl_none _ _ e
      show some 0 = some (DI n R0)
      congr 1
      apply Rat.intCast_inj.mp
      rw [Dt.D_up, ← h.det, Dt.det_none c n (up R) h.pv (by omega) fun i h1 h2 => ?_]
      · rw [Rat.intCast_zero]; grind
      · have := h.ent i c h1 h2 (Nat.le_refl _) (by omega)
        rw [z i h1 (by omega), Rat.intCast_zero] at this
        grind
    | some pl =>
      obtain ⟨p1, p2, p3⟩ := pl_some _ _ _ e
      dsimp only
      by_cases q : pl = c
      · subst q
        rw [if_pos rfl, if_pos rfl]
        obtain ⟨t2, e2, l2, g2⟩ := b_get (n := n) (c := pl) (pv := t.getD pl []) (d := d) (n - (pl + 1)) (pl + 1) t (by rw [h.sz.len]; omega) fun i _ hi => h.sz.okR hG2 (by omega)
        rw [e2]
        exact det_go hB hG hG2 m (pl + 1) t2 s _ R (by omega) (h.sz.big pl pl (by omega) (by omega)) (h.step (by omega) hB hG p3 l2 g2)
      · rw [if_neg q, if_neg q]
        have h' := h.swap (p := pl) (by omega) (by omega)
        have ec : ((t.set pl (t.getD c [])).set c (t.getD pl [])).getD c [] = t.getD pl [] := by rw [getD_set _ _ _ _ _ (by simp [h.sz.len]; omega), if_pos rfl]
        generalize ht : (t.set pl (t.getD c [])).set c (t.getD pl []) = t' at h' ec
        have mcc : mt t' c c = mt t pl c := by show (t'.getD c []).getD c 0 = _; rw [ec]
        obtain ⟨t2, e2, l2, g2⟩ := b_get (n := n) (c := c) (pv := t.getD pl []) (d := d) (n - (c + 1)) (c + 1) t' (by rw [h'.sz.len]; omega) fun i _ hi => h'.sz.okR hG2 (by omega)
        rw [e2]
        have st := h'.step (by omega) hB hG (by rw [mcc]; exact p3) l2 (by rw [ec]; exact g2)
        rw [mcc] at st
        exact det_go hB hG hG2 m (c + 1) t2 (-s) _ _ (by omega) (h.sz.big pl c (by omega) (by omega)) st
theorem det_is {n B : Nat} {t : List (List Int)} (hB : 1 ≤ B) (h : Sz n B t) (hG : Dt.fac n * B ^ n < 2 ^ 1000) (hn : 1 ≤ n ∨ n = 0) : detM t = some (DI n (mt t)) := by
  unfold detM
  rw [h.len]
  have f1 : ∀ n, 1 ≤ Dt.fac n := fun n => fac_mono 0 n (by omega)
  have one : 1 ≤ Dt.fac n * B ^ n := Nat.mul_pos (f1 n) (Nat.pow_pos hB)
  refine det_go (B := B) (G := Dt.fac n * B ^ n) hB (Nat.le_refl _) hG n 0 t 1 1 (mt t) (by omega) (by simpa using one) ⟨⟨h.len, h.row, fun i j hi hj => ?_⟩, h.big, .inl rfl, ?_, fun k hk => by omega, rfl, fun i j _ _ _ _ => ?_⟩
  · have b := h.big i j hi hj
    have : B ≤ B ^ n := by
      obtain ⟨m, rfl⟩ : ∃ m, n = m + 1 := ⟨n - 1, by omega⟩
      rw [Nat.pow_succ]
      exact Nat.le_mul_of_pos_left _ (Nat.pow_pos hB)
    exact Nat.le_trans b (Nat.le_trans this (Nat.le_mul_of_pos_left _ (f1 n)))
  · show (1 : Rat) * _ = _
    grind
  · show _ = (1 : Rat) * _
    show ((mt t i j : Int) : Rat) = 1 * up (mt t) i j
    show ((mt t i j : Int) : Rat) = 1 * ((mt t i j : Int) : Rat)
    grind
end Lw
namespace Lw
open PySem PySem.Spec PyProof.Rows L2 Z
open Dt (U pd DI D up sw sk)
theorem at_intsI {r : List Int} {i : Int} (h0 : 0 ≤ i) (h : i < r.length) : atI (nsD r) i = some (.int (r.getD i.toNat 0)) := by
  obtain ⟨k, rfl⟩ : ∃ k : Nat, i = k := ⟨i.toNat, by omega⟩
  rw [at_ints (by omega), Int.toNat_natCast]
def adj (row : List Int) : Nat → Nat → List Int
  | 0, _ => []
  | m + 1, j => (row.getD j 0 + row.getD (j + 1) 0) :: adj row m (j + 1)
def pas : Nat → List Int
  | 0 => [1]
  | n + 1 => [1] ++ adj (pas n) ((pas n).length - 1) 0 ++ [1]
theorem adj_len (row : List Int) : ∀ m j, (adj row m j).length = m
  | 0, _ => rfl
  | m + 1, j => by rw [adj, List.length_cons, adj_len]
theorem pas_len : ∀ n, (pas n).length = n + 1
  | 0 => rfl
  | n + 1 => by rw [pas]; simp [adj_len, pas_len n]
def pasOk : Bool := (List.range 61).all fun n => decide ((List.range (n + 1)).map (fun (s : Nat) => chooseM n s) = pas n)
theorem pasOk_ok : pasOk = true := by decide +kernel
theorem pas_at {n s : Nat} (hn : n ≤ 60) (hs : s ≤ n) : (pas n).getD s 0 = chooseM n s := by
  have h := List.all_eq_true.mp pasOk_ok n (List.mem_range.mpr (by omega))
  rw [← of_decide_eq_true h]
  simp [List.getD, show s < n + 1 by omega]
def sp_ways : Fn := fun ds Q => ∃ n : Nat, ds = [.int n] ∧ n ≤ 60 ∧ Q (.v (.lst (nsD (pas n))))
theorem len_ways : ∀ ds Q, sp_ways ds Q → ds.length = 1 := by rintro ds Q ⟨_, rfl, _⟩; rfl
theorem mo_ways : MonoF sp_ways := ⟨fun ds Q Q' w ⟨n, e, a, h⟩ => ⟨n, e, a, w _ h⟩⟩
theorem ways_c {row : List Int} {Q : R → Prop} : ∀ (m j : Nat) (acc : List Int), j + m + 1 = row.length → acc.length + m ≤ 200 → Q (.nw (.lst (nsD (acc ++ adj row m j)))) →
    compGo [.un, .v (.lst (nsD row))] (gN 0) tTrue (eOp pAdd (eOp pIx (eVar 1) (eVar 0)) (eOp pIx (eVar 1) (eOp pAdd (eVar 0) (eC (.int 1))))) (rangeD j m) (nsD acc) Q := by
  intro m
  induction m with
  | zero =>
    intro j acc _ _ h
    rw [rangeD_nil, compGo_nil]
    simpa [adj] using h
  | succ m ih =>
    intro j acc hj ha h
    simp only [↓zt, zo, zc, setAll, Nat.reduceSub, Nat.reduceAdd, ↓reduceIte, Int.reduceEq, Int.reduceMul, Int.reduceAdd, Int.reduceSub, Int.reduceNeg, Z.guard, Int.reduceLT, Int.reduceLE, Int.reduceToNat, Int.reducePow, Nat.reduceLT, Nat.reduceLeDiff, Nat.reducePow, LIM, rangeD_cons, at_ints (show j < row.length by omega), show ((j : Int) + 1) = ((j + 1 : Nat) : Int) by omega, at_ints (show j + 1 < row.length by omega), List.length_map]
    refine ⟨by omega, ?_⟩
    rw [show nsD acc ++ [Dv.int (row.getD j 0 + row.getD (j + 1) 0)] = nsD (acc ++ [row.getD j 0 + row.getD (j + 1) 0]) by simp]
    refine ih (j + 1) _ (by omega) (by simp; omega) ?_
    rw [adj] at h
    simpa using h
theorem ways_0 {x : Sl} {E : En} : ∀ (i k : Nat) (s : Sl), k + i ≤ 60 → (∀ s, E.nx [x, .v (.lst (nsD (pas (k + i)))), s]) → forGo (gN 2) b_law_ways_0 [] (rangeD k i) E [x, .v (.lst (nsD (pas k))), s] := by
  intro i
  induction i with
  | zero =>
    intro k s _ h
    rw [rangeD_nil, forGo_nil]
    exact ⟨fun p hp => by simp at hp, h s⟩
  | succ i ih =>
    intro k s hk h
    have pl := pas_len k
    rw [rangeD_cons, forGo_cons]
    refine ⟨fun p hp => by simp at hp, ?_⟩
    have next : forGo (gN 2) b_law_ways_0 [] (rangeD ((k : Int) + 1) i) E [x, .v (.lst (nsD (pas (k + 1)))), .v (.int k)] := ih (k + 1) _ (by omega) fun s => by rw [show k + 1 + i = k + (i + 1) by omega]; exact h s
    generalize forGo (gN 2) b_law_ways_0 [] (rangeD ((k : Int) + 1) i) E = G at next ⊢
    simp only [↓zt, zo, zc, setAll, Nat.reduceSub, Nat.reduceAdd, ↓reduceIte, Int.reduceEq, Int.reduceMul, Int.reduceAdd, Int.reduceSub, Int.reduceNeg, Z.guard, Int.reduceLT, Int.reduceLE, Int.reduceToNat, Int.reducePow, Nat.reduceLT, Nat.reduceLeDiff, Nat.reducePow, LIM, List.length_map, pl]
    refine ⟨by omega, ?_⟩
    rw [show (((k + 1 : Nat) : Int) - 1).toNat = k by omega]
    refine ways_c k 0 [] (by omega) (by simp; omega) ?_
    rw [List.nil_append]
    simp only [↓zt, zo, zc, setAll, Nat.reduceSub, Nat.reduceAdd, ↓reduceIte, Int.reduceEq, Int.reduceMul, Int.reduceAdd, Int.reduceSub, Int.reduceNeg, Z.guard, Int.reduceLT, Int.reduceLE, Int.reduceToNat, Int.reducePow, Nat.reduceLT, Nat.reduceLeDiff, Nat.reducePow, LIM, List.length_map, adj_len, List.length_append]
    refine ⟨by omega, by omega, ?_⟩
    rw [show Dv.int 1 :: (nsD (adj (pas k) k 0) ++ [Dv.int 1]) = nsD (pas (k + 1)) by rw [pas, pl]; simp]
    exact next
theorem p_law_ways : ∀ ds Q, sp_ways ds Q → t_law_ways { nx := fun _ => Q (.v .non), rt := Q } (startP ["_law_n", "_law_row", "_law_k"] ds) := by
  rintro ds Q ⟨n, rfl, hn, h⟩
  simp only [↓zt, zo, zc, setAll, Nat.reduceSub, Nat.reduceAdd, ↓reduceIte, Int.reduceEq, Int.reduceMul, Int.reduceAdd, Int.reduceSub, Int.reduceNeg, Z.guard, Int.reduceLT, Int.reduceLE, Int.reduceToNat, Int.reducePow, Nat.reduceLT, Nat.reduceLeDiff, Nat.reducePow, LIM]
  refine ⟨by omega, ?_⟩
  rw [show ((n : Nat) : Int).toNat = n by omega]
  refine ways_0 n 0 _ (by omega) fun s => ?_
  simp only [↓zt, zo, zc, setAll, Nat.reduceSub, Nat.reduceAdd, ↓reduceIte, Int.reduceEq, Int.reduceMul, Int.reduceAdd, Int.reduceSub, Int.reduceNeg, Z.guard, Int.reduceLT, Int.reduceLE, Int.reduceToNat, Int.reducePow, Nat.reduceLT, Nat.reduceLeDiff, Nat.reducePow, LIM]
  rw [Nat.zero_add]
  exact h
def sp_chosen : Fn := fun ds Q => ∃ c k : Int, ds = [.int c, .int k] ∧ Q (.v (.bl true))
theorem len_chosen : ∀ ds Q, sp_chosen ds Q → ds.length = 2 := by rintro ds Q ⟨_, _, rfl, _⟩; rfl
theorem mo_chosen : MonoF sp_chosen := ⟨fun ds Q Q' w ⟨n, e, a, h⟩ => ⟨n, e, a, w _ h⟩⟩
theorem p_law_chosen : ∀ ds Q, sp_chosen ds Q → t_law_chosen sp_ways sp_choose sp_lw { nx := fun _ => Q (.v .non), rt := Q } (startP ["_law_cell", "_law_k", "_law_n", "_law_some", "_law_row", "_law_due_here", "_law_told", "_law_far"] ds) := by
  rintro ds Q ⟨c, k, rfl, h⟩
  simp only [↓zt, zo, zc, setAll, Nat.reduceSub, Nat.reduceAdd, ↓reduceIte, Int.reduceEq, Int.reduceMul, Int.reduceAdd, Int.reduceSub, Int.reduceNeg, Z.guard, Int.reduceLT, Int.reduceLE, Int.reduceToNat, Int.reducePow, Nat.reduceLT, Nat.reduceLeDiff, Nat.reducePow, LIM]
  refine ⟨.inl (.inl ⟨by decide, by decide⟩), .inl (.inl ⟨by decide, by decide⟩), ?_⟩
  obtain ⟨n, hn, n60⟩ : ∃ n : Nat, (c + 7 * k) % 61 = n ∧ n ≤ 60 := ⟨((c + 7 * k) % 61).toNat, by omega, by omega⟩
  rw [hn]
  generalize (c / 61 + 5 * k) % 68 - 3 = s
  have pl := pas_len n
  have hp : CPow 10 30 := ⟨by decide, by decide, by decide⟩
  have fin : ∀ f : Int, 0 ≤ f → (eAndV (eOp pEq (eCall sp_choose (eCons (eVar 2) (eCons (eOp pAdd (eOp pAdd (eVar 2) (eC (.int 1))) (eVar 7)) eNil))) (eC (.int 0))) (eOp pEq (eCall sp_choose (eCons (eVar 2) (eCons (eOp pSub (eNeg (eC (.int 1))) (eVar 7)) eNil))) (eC (.int 0)))) [.v (.int c), .v (.int k), .v (.int n), .v (.int s), .v (.lst (nsD (pas n))), .v (.int (chooseM n s)), .v (.int (chooseM n s)), .v (.int f)] fun r => Q r.out := fun f hf => by
    simp only [↓zt, zo, zc, setAll, Nat.reduceSub, Nat.reduceAdd, ↓reduceIte, Int.reduceEq, Int.reduceMul, Int.reduceAdd, Int.reduceSub, Int.reduceNeg, Z.guard, Int.reduceLT, Int.reduceLE, Int.reduceToNat, Int.reducePow, Nat.reduceLT, Nat.reduceLeDiff, Nat.reducePow, LIM]
    refine ⟨n, _, rfl, by omega, ?_⟩
    simp only [↓zt, zo, zc, setAll, Nat.reduceSub, Nat.reduceAdd, ↓reduceIte, Int.reduceEq, Int.reduceMul, Int.reduceAdd, Int.reduceSub, Int.reduceNeg, Z.guard, Int.reduceLT, Int.reduceLE, Int.reduceToNat, Int.reducePow, Nat.reduceLT, Nat.reduceLeDiff, Nat.reducePow, LIM]
    rw [show chooseM n ((n : Int) + 1 + f) = 0 by unfold chooseM; rw [if_neg (by omega), if_pos (by omega)]]
    simp only [↓zt, zo, zc, setAll, Nat.reduceSub, Nat.reduceAdd, ↓reduceIte, Int.reduceEq, Int.reduceMul, Int.reduceAdd, Int.reduceSub, Int.reduceNeg, Z.guard, Int.reduceLT, Int.reduceLE, Int.reduceToNat, Int.reducePow, Nat.reduceLT, Nat.reduceLeDiff, Nat.reducePow, LIM]
    refine ⟨n, _, rfl, by omega, ?_⟩
    simp only [↓zt, zo, zc, setAll, Nat.reduceSub, Nat.reduceAdd, ↓reduceIte, Int.reduceEq, Int.reduceMul, Int.reduceAdd, Int.reduceSub, Int.reduceNeg, Z.guard, Int.reduceLT, Int.reduceLE, Int.reduceToNat, Int.reducePow, Nat.reduceLT, Nat.reduceLeDiff, Nat.reducePow, LIM]
    rw [show chooseM n (-1 - f) = 0 by unfold chooseM; rw [if_pos (by omega)]]
    exact h
  have rest : ∀ d : Int, d = chooseM n s → (sSeq (sSet 6 (eCall sp_choose (eCons (eVar 2) (eCons (eVar 3) eNil))))
  (sSeq (sIf (eOr (eNot (eTru (eCall sp_lw (eCons (eVar 6) eNil)))) (eTest (eOp pNe (eVar 6) (eVar 5)))) (sRet (eC (.bl false))) sNext)
  (sSeq (sSet 7 (eOp pMod (eOp pDiv (eVar 0) (eC (.int 67))) (eOp pPow (eC (.int 10)) (eC (.int 30)))))
  (sRet (eAndV (eOp pEq (eCall sp_choose (eCons (eVar 2) (eCons (eOp pAdd (eOp pAdd (eVar 2) (eC (.int 1))) (eVar 7)) eNil))) (eC (.int 0))) (eOp pEq (eCall sp_choose (eCons (eVar 2) (eCons (eOp pSub (eNeg (eC (.int 1))) (eVar 7)) eNil))) (eC (.int 0)))))))) { nx := fun _ => Q (.v .non), rt := Q } [.v (.int c), .v (.int k), .v (.int n), .v (.int s), .v (.lst (nsD (pas n))), .v (.int d), .un, .un] := fun d e => by
    subst e
    simp only [↓zt, zo, zc, setAll, Nat.reduceSub, Nat.reduceAdd, ↓reduceIte, Int.reduceEq, Int.reduceMul, Int.reduceAdd, Int.reduceSub, Int.reduceNeg, Z.guard, Int.reduceLT, Int.reduceLE, Int.reduceToNat, Int.reducePow, Nat.reduceLT, Nat.reduceLeDiff, Nat.reducePow, LIM]
    refine ⟨n, s, rfl, by omega, ?_⟩
    simp only [↓zt, zo, zc, setAll, Nat.reduceSub, Nat.reduceAdd, ↓reduceIte, Int.reduceEq, Int.reduceMul, Int.reduceAdd, Int.reduceSub, Int.reduceNeg, Z.guard, Int.reduceLT, Int.reduceLE, Int.reduceToNat, Int.reducePow, Nat.reduceLT, Nat.reduceLeDiff, Nat.reducePow, LIM]
    refine ⟨_, rfl, ?_⟩
    simp only [↓zt, zo, zc, setAll, Nat.reduceSub, Nat.reduceAdd, ↓reduceIte, Int.reduceEq, Int.reduceMul, Int.reduceAdd, Int.reduceSub, Int.reduceNeg, Z.guard, Int.reduceLT, Int.reduceLE, Int.reduceToNat, Int.reducePow, Nat.reduceLT, Nat.reduceLeDiff, Nat.reducePow, LIM]
    refine ⟨hp, ?_⟩
    have := fin (c / 67 % 1000000000000000000000000000000) (Int.emod_nonneg _ (by decide))
    simp only [↓zt, zo, zc, setAll, Nat.reduceSub, Nat.reduceAdd, ↓reduceIte, Int.reduceEq, Int.reduceMul, Int.reduceAdd, Int.reduceSub, Int.reduceNeg, Z.guard, Int.reduceLT, Int.reduceLE, Int.reduceToNat, Int.reducePow, Nat.reduceLT, Nat.reduceLeDiff, Nat.reducePow, LIM] at this
    exact this
  have go : ∀ d : Int, d = chooseM n s → _ := fun d e => by
    have := rest d e
    simp only [↓zt, zo, zc, setAll, Nat.reduceSub, Nat.reduceAdd, ↓reduceIte, Int.reduceEq, Int.reduceMul, Int.reduceAdd, Int.reduceSub, Int.reduceNeg, Z.guard, Int.reduceLT, Int.reduceLE, Int.reduceToNat, Int.reducePow, Nat.reduceLT, Nat.reduceLeDiff, Nat.reducePow, LIM] at this
    exact this
  refine ⟨n, rfl, n60, ?_⟩
  simp only [↓zt, zo, zc, setAll, Nat.reduceSub, Nat.reduceAdd, ↓reduceIte, Int.reduceEq, Int.reduceMul, Int.reduceAdd, Int.reduceSub, Int.reduceNeg, Z.guard, Int.reduceLT, Int.reduceLE, Int.reduceToNat, Int.reducePow, Nat.reduceLT, Nat.reduceLeDiff, Nat.reducePow, LIM]
  by_cases h0 : 0 ≤ s
  · rw [if_pos h0]
    by_cases h1 : s ≤ n
    · rw [if_pos h1, at_intsI h0 (by omega)]
      have e : (pas n).getD s.toNat 0 = chooseM n s := by
        rw [pas_at n60 (by omega), Int.toNat_of_nonneg h0]
      exact go _ e
    · rw [if_neg h1]
      exact go 0 (by unfold chooseM; rw [if_neg (by omega), if_pos (by omega)])
  · rw [if_neg h0]
    exact go 0 (by unfold chooseM; rw [if_pos (by omega)])
end Lw
namespace Lw
open PySem PySem.Spec PyProof.Rows L2 Z
open Dt (U pd DI D up sw sk)
abbrev BB : Nat := 2 * 10 ^ 30
theorem at_rowsI {t : List (List Int)} {i : Int} (h0 : 0 ≤ i) (h : i < t.length) : atI (rows t) i = some (.lst (nsD (t.getD i.toNat []))) := by
  obtain ⟨k, rfl⟩ : ∃ k : Nat, i = k := ⟨i.toNat, by omega⟩
  rw [at_rows (by omega), Int.toNat_natCast]
structure Rs (n b : Nat) (t : List (List Int)) : Prop where
  row : ∀ r ∈ t, r.length = n ∧ ∀ x ∈ r, x.natAbs ≤ b
theorem Rs.sz {n b : Nat} {t : List (List Int)} (h : Rs n b t) (hl : t.length = n) : Sz n b t := by
  have g : ∀ i, i < n → t.getD i [] ∈ t := fun i hi => by
    rw [List.getD_eq_getElem?_getD, List.getElem?_eq_getElem (by omega)]
    exact List.getElem_mem _
  refine ⟨hl, fun i hi => (h.row _ (g i hi)).1, fun i j hi hj => ?_⟩
  obtain ⟨h1, h2⟩ := h.row _ (g i hi)
  show ((t.getD i []).getD j 0).natAbs ≤ b
  rw [List.getD_eq_getElem?_getD, List.getElem?_eq_getElem (by omega)]
  exact h2 _ (List.getElem_mem _)
theorem square_0 {c n ba i : Int} {rw' : Dv} {a4 a6 : Addr} {M : Nat} {E : En} (hb : 0 < ba ∧ ba < 2 ^ 200) (hh : ∀ x : Int, (x % ba - ba / 2).natAbs ≤ M) : ∀ (m : Nat) (j o : Int) (r : List Int) (s : Sl), r.length + m ≤ 100 → (∀ x ∈ r, x.natAbs ≤ M) →
    (∀ o r' s, r'.length = r.length + m → (∀ x ∈ r', x.natAbs ≤ M) → E.nx [.v (.int c), .v (.int o), .v (.int n), .v (.int ba), .own a4 rw', .v (.int i), .own a6 (.lst (nsD r')), s]) →
    forGo (gN 7) b_law_square_0 [] (rangeD j m) E [.v (.int c), .v (.int o), .v (.int n), .v (.int ba), .own a4 rw', .v (.int i), .own a6 (.lst (nsD r)), s] := by
  intro m
  induction m with
  | zero =>
    intro j o r s _ hr h
    rw [rangeD_nil, forGo_nil]
    exact ⟨fun p hp => by simp at hp, h o r s (by omega) hr⟩
  | succ m ih =>
    intro j o r s hl hr h
    simp only [↓zt, zo, zc, setAll, Nat.reduceSub, Nat.reduceAdd, ↓reduceIte, Int.reduceEq, Int.reduceMul, Int.reduceAdd, Int.reduceSub, Int.reduceNeg, Z.guard, Int.reduceLT, Int.reduceLE, Int.reduceToNat, Int.reducePow, Nat.reduceLT, Nat.reduceLeDiff, Nat.reducePow, LIM, rangeD_cons, List.length_map]
    refine ⟨hb.1, by omega, hb, ?_⟩
    rw [show nsD r ++ [Dv.int (o % ba - ba / 2)] = nsD (r ++ [o % ba - ba / 2]) by simp]
    refine ih _ _ _ _ (by simp; omega) (fun x hx => ?_) fun o r' s l => h o r' s (by simp at l; omega)
    rcases List.mem_append.mp hx with hx | hx
    · exact hr x hx
    · rw [List.mem_singleton.mp hx]; exact hh o
theorem square_1 {c ba : Int} {n : Nat} {a4 : Addr} {M : Nat} {E : En} (hn : n ≤ 6) (hb : 0 < ba ∧ ba < 2 ^ 200) (hh : ∀ x : Int, (x % ba - ba / 2).natAbs ≤ M) : ∀ (m : Nat) (j o : Int) (t : List (List Int)) (s5 s6 s7 : Sl), (∀ a, s6 ≠ .own a4 a) → t.length + m ≤ 100 → Rs n M t →
    (∀ o t' s5 s6 s7, t'.length = t.length + m → Rs n M t' → E.nx [.v (.int c), .v (.int o), .v (.int n), .v (.int ba), .own a4 (.lst (rows t')), s5, s6, s7]) →
    forGo (gN 5) b_law_square_1 [] (rangeD j m) E [.v (.int c), .v (.int o), .v (.int n), .v (.int ba), .own a4 (.lst (rows t)), s5, s6, s7] := by
  intro m
  induction m with
  | zero =>
    intro j o t s5 s6 s7 _ _ ht h
    rw [rangeD_nil, forGo_nil]
    exact ⟨fun p hp => by simp at hp, h o t s5 s6 s7 (by omega) ht⟩
  | succ m ih =>
    intro j o t s5 s6 s7 ns hl ht h
    rw [rangeD_cons, forGo_cons]
    refine ⟨fun p hp => by simp at hp, ?_⟩
    have next : ∀ (o : Int) (r : List Int) (s5 s7 : Sl), r.length = n → (∀ x ∈ r, x.natAbs ≤ M) → forGo (gN 5) b_law_square_1 [] (rangeD (j + 1) m) E [.v (.int c), .v (.int o), .v (.int n), .v (.int ba), .own a4 (.lst (rows t ++ [Dv.lst (nsD r)])), s5, .v (.lst (nsD r)), s7] := fun o r s5 s7 rl rh => by
      rw [show rows t ++ [Dv.lst (nsD r)] = rows (t ++ [r]) by simp]
      refine ih _ _ _ _ _ _ (fun a z => by cases z) (by simp; omega) ⟨fun x hx => ?_⟩ fun o t' s5 s6 s7 l => h o t' s5 s6 s7 (by simp at l; omega)
      rcases List.mem_append.mp hx with hx | hx
      · exact ht.row x hx
      · rw [List.mem_singleton.mp hx]; exact ⟨rl, rh⟩
    generalize forGo (gN 5) b_law_square_1 [] (rangeD (j + 1) m) E = G at next ⊢
    simp only [↓zt, zo, zc, setAll, Nat.reduceSub, Nat.reduceAdd, ↓reduceIte, Int.reduceEq, Int.reduceMul, Int.reduceAdd, Int.reduceSub, Int.reduceNeg, Z.guard, Int.reduceLT, Int.reduceLE, Int.reduceToNat, Int.reducePow, Nat.reduceLT, Nat.reduceLeDiff, Nat.reducePow, LIM, b_law_square_1]
    intro a6
    refine ⟨by omega, ?_⟩
    rw [show ((n : Nat) : Int).toNat = n by omega]
    show forGo (gN 7) b_law_square_0 [] (rangeD 0 n) _ [.v (.int c), .v (.int o), .v (.int n), .v (.int ba), .own a4 (.lst (rows t)), .v (.int j), .own a6 (.lst (nsD [])), s7]
    refine square_0 hb hh n 0 o [] _ (by simp; omega) (fun x hx => by cases hx) fun o r s rl rh => ?_
    simp only [↓zt, zo, zc, setAll, Nat.reduceSub, Nat.reduceAdd, ↓reduceIte, Int.reduceEq, Int.reduceMul, Int.reduceAdd, Int.reduceSub, Int.reduceNeg, Z.guard, Int.reduceLT, Int.reduceLE, Int.reduceToNat, Int.reducePow, Nat.reduceLT, Nat.reduceLeDiff, Nat.reducePow, LIM, sFrz, freeze, List.length_map]
    exact ⟨by omega, next o r _ _ (by simpa using rl) rh⟩
theorem zip_c {k : Int} {M : Nat} {Q : R → Prop} (hk : k = 0 ∨ k = 1) {g : Int} (hg : g / 42 % 2 = k) : ∀ (xs ys acc : List Int), xs.length = ys.length → acc.length + xs.length ≤ 100 → (∀ x ∈ xs, x.natAbs ≤ M) → (∀ x ∈ ys, x.natAbs ≤ M) → (∀ x ∈ acc, x.natAbs ≤ 2 * M) →
    (∀ r, r.length = acc.length + xs.length → (∀ x ∈ r, x.natAbs ≤ 2 * M) → Q (.nw (.lst (nsD r)))) →
    compGo [.un, .un, .v (.int g)] (gT [0, 1]) tTrue (eOp pAdd (eVar 0) (eOp pMul (eVar 1) (eOp pMod (eOp pDiv (eVar 2) (eC (.int 42))) (eC (.int 2))))) (zipD (nsD xs) (nsD ys)) (nsD acc) Q := by
  intro xs
  induction xs with
  | nil =>
    intro ys acc hl _ _ _ ha h
    simp only [↓zt, zo, zc, setAll, Nat.reduceSub, Nat.reduceAdd, ↓reduceIte, Int.reduceEq, Int.reduceMul, Int.reduceAdd, Int.reduceSub, Int.reduceNeg, Z.guard, Int.reduceLT, Int.reduceLE, Int.reduceToNat, Int.reducePow, Nat.reduceLT, Nat.reduceLeDiff, Nat.reducePow, LIM, zipD, List.zipWith_nil_left]
    exact h acc (by simp) ha
  | cons x xs ih =>
    intro ys acc hl hn hx hy ha h
    cases ys with
    | nil => cases hl
    | cons y ys =>
      simp only [List.length_cons] at hn hl
      rw [show zipD (nsD (x :: xs)) (nsD (y :: ys)) = .tup [.int x, .int y] :: zipD (nsD xs) (nsD ys) from rfl]
      simp only [↓zt, zo, zc, setAll, Nat.reduceSub, Nat.reduceAdd, ↓reduceIte, Int.reduceEq, Int.reduceMul, Int.reduceAdd, Int.reduceSub, Int.reduceNeg, Z.guard, Int.reduceLT, Int.reduceLE, Int.reduceToNat, Int.reducePow, Nat.reduceLT, Nat.reduceLeDiff, Nat.reducePow, LIM, List.length_map, hg]
      refine ⟨CMul_small (by omega) (by omega), by omega, ?_⟩
      rw [show nsD acc ++ [Dv.int (x + y * k)] = nsD (acc ++ [x + y * k]) by simp]
      refine ih ys _ (by omega) (by simp; omega) (fun z hz => hx z (by simp [hz])) (fun z hz => hy z (by simp [hz])) (fun z hz => ?_) fun r l => h r (by simp at l ⊢; omega)
      rcases List.mem_append.mp hz with hz | hz
      · exact ha z hz
      · rw [List.mem_singleton.mp hz]
        have h1 := hx x (by simp)
        have h2 := hy y (by simp)
        rcases hk with e | e <;> rw [e]
        · rw [Int.mul_zero, Int.add_zero]; omega
        · rw [Int.mul_one]; omega
def sp_square : Fn := fun ds Q => ∃ c o : Int, ds = [.int c, .int o] ∧ ∀ (n : Nat) (t : List (List Int)), n ≤ 6 → Sz n BB t → Q (.nw (.lst (rows t)))
theorem len_square : ∀ ds Q, sp_square ds Q → ds.length = 2 := by rintro ds Q ⟨_, _, rfl, _⟩; rfl
theorem mo_square : MonoF sp_square := ⟨fun ds Q Q' w ⟨c, o, e, h⟩ => ⟨c, o, e, fun n t a b => w _ (h n t a b)⟩⟩
theorem Rs.up {n a b : Nat} {t : List (List Int)} (h : Rs n a t) (hab : a ≤ b) : Rs n b t := ⟨fun r hr => ⟨(h.row r hr).1, fun x hx => Nat.le_trans ((h.row r hr).2 x hx) hab⟩⟩
theorem p_law_square : ∀ ds Q, sp_square ds Q → t_law_square { nx := fun _ => Q (.v .non), rt := Q } (startP ["_law_cell", "_law_other", "_law_size", "_law_base", "_law_rows", "_law_i", "_law_row", "_law_j"] ds) := by
  rintro ds Q ⟨c, o, rfl, h⟩
  have hp : CPow 10 30 := ⟨by decide, by decide, by decide⟩
  obtain ⟨n, hn, n6⟩ : ∃ n : Nat, c % 7 = n ∧ n ≤ 6 := ⟨(c % 7).toNat, by omega, by omega⟩
  simp only [↓zt, zo, zc, setAll, Nat.reduceSub, Nat.reduceAdd, ↓reduceIte, Int.reduceEq, Int.reduceMul, Int.reduceAdd, Int.reduceSub, Int.reduceNeg, Z.guard, Int.reduceLT, Int.reduceLE, Int.reduceToNat, Int.reducePow, Nat.reduceLT, Nat.reduceLeDiff, Nat.reducePow, LIM, hn]
  refine ⟨hp, .inl (.inl ⟨by decide, by decide⟩), ?_⟩
  obtain ⟨ba, M, eb, hb, hh, hM⟩ : ∃ (ba : Int) (M : Nat), atI [Dv.int 9, Dv.int 2000000000000000000000000000001] (c / 7 % 2) = some (.int ba) ∧ (0 < ba ∧ ba < 2 ^ 200) ∧ (∀ x : Int, (x % ba - ba / 2).natAbs ≤ M) ∧ M ≤ 10 ^ 30 := by
    have h2 : c / 7 % 2 = 0 ∨ c / 7 % 2 = 1 := by omega
    rcases h2 with e | e
    · exact ⟨9, 4, by rw [e]; rfl, ⟨by decide, by decide⟩, fun x => by omega, by decide⟩
    · exact ⟨2000000000000000000000000000001, 10 ^ 30, by rw [e]; rfl, ⟨by decide, by decide⟩, fun x => by omega, by decide⟩
  rw [eb]
  simp only [↓zt, zo, zc, setAll, Nat.reduceSub, Nat.reduceAdd, ↓reduceIte, Int.reduceEq, Int.reduceMul, Int.reduceAdd, Int.reduceSub, Int.reduceNeg, Z.guard, Int.reduceLT, Int.reduceLE, Int.reduceToNat, Int.reducePow, Nat.reduceLT, Nat.reduceLeDiff, Nat.reducePow, LIM]
  intro a4
  refine ⟨by omega, ?_⟩
  rw [show ((n : Nat) : Int).toNat = n by omega]
  show forGo (gN 5) b_law_square_1 [] (rangeD 0 n) _ [.v (.int c), .v (.int o), .v (.int n), .v (.int ba), .own a4 (.lst (rows [])), .un, .un, .un]
  refine square_1 n6 hb hh n 0 o [] _ _ _ (fun a z => by cases z) (by simp; omega) ⟨fun r hr => by cases hr⟩ fun o t s5 s6 s7 tl rs => ?_
  have tl : t.length = n := by simpa using tl
  simp only [↓zt, zo, zc, setAll, Nat.reduceSub, Nat.reduceAdd, ↓reduceIte, Int.reduceEq, Int.reduceMul, Int.reduceAdd, Int.reduceSub, Int.reduceNeg, Z.guard, Int.reduceLT, Int.reduceLE, Int.reduceToNat, Int.reducePow, Nat.reduceLT, Nat.reduceLeDiff, Nat.reducePow, LIM]
  have fin : ∀ t' : List (List Int), t'.length = n → Rs n BB t' → Q (.nw (.lst (rows t'))) := fun t' l r => h n t' n6 (r.sz l)
  have big : M ≤ BB := Nat.le_trans hM (by decide)
  by_cases h1 : (1 : Int) < n
  · rw [if_pos h1]
    by_cases h2 : c / 14 % 3 = 1
    · rw [if_pos h2]
      have i1 := Int.emod_nonneg (c / 42) (show (n : Int) ≠ 0 by omega)
      have i2 := Int.emod_lt_of_pos (c / 42) (show (0 : Int) < n by omega)
      generalize c / 42 % (n : Int) = i at *
      generalize i + 1 + c / 300 % ((n : Int) - 1) = u
      have j1 := Int.emod_nonneg u (show (n : Int) ≠ 0 by omega)
      have j2 := Int.emod_lt_of_pos u (show (0 : Int) < n by omega)
      generalize u % (n : Int) = j at *
      have k1 := Int.emod_nonneg (j + 1) (show (n : Int) ≠ 0 by omega)
      have k2 := Int.emod_lt_of_pos (j + 1) (show (0 : Int) < n by omega)
      generalize (j + 1) % (n : Int) = k at *
      have g : ∀ x : Int, 0 ≤ x → x < n → t.getD x.toNat [] ∈ t := fun x h0 h1 => by
        rw [List.getD_eq_getElem?_getD, List.getElem?_eq_getElem (by omega)]
        exact List.getElem_mem _
      have rj := rs.row _ (g j j1 j2)
      have rk := rs.row _ (g k k1 k2)
      refine ⟨by omega, by omega, by omega, ?_⟩
      rw [at_rowsI j1 (by omega), at_rowsI k1 (by omega)]
      simp only [↓zt, zo, zc, setAll, Nat.reduceSub, Nat.reduceAdd, ↓reduceIte, Int.reduceEq, Int.reduceMul, Int.reduceAdd, Int.reduceSub, Int.reduceNeg, Z.guard, Int.reduceLT, Int.reduceLE, Int.reduceToNat, Int.reducePow, Nat.reduceLT, Nat.reduceLeDiff, Nat.reducePow, LIM]
      refine ⟨by omega, zip_c (k := c / 42 % 2) (M := M) (by omega) rfl _ _ [] (by rw [rj.1, rk.1]) (by rw [rj.1]; simp; omega) rj.2 rk.2 (fun x hx => by cases hx) fun r rl rh => ?_⟩
      rw [rj.1, List.length_nil, Nat.zero_add] at rl
      simp only [↓zt, zo, zc, setAll, Nat.reduceSub, Nat.reduceAdd, ↓reduceIte, Int.reduceEq, Int.reduceMul, Int.reduceAdd, Int.reduceSub, Int.reduceNeg, Z.guard, Int.reduceLT, Int.reduceLE, Int.reduceToNat, Int.reducePow, Nat.reduceLT, Nat.reduceLeDiff, Nat.reducePow, LIM, List.length_map, tl, ixN_nat i1 i2]
      rw [← List.map_set]
      refine fin _ (by simp [tl]) ⟨fun x hx => ?_⟩
      rcases List.mem_or_eq_of_mem_set hx with hx | hx
      · exact (rs.up big).row x hx
      · rw [hx]
        exact ⟨rl, fun y hy => Nat.le_trans (rh y hy) (Nat.mul_le_mul_left 2 hM)⟩
    · rw [if_neg h2]
      exact fin t tl (rs.up big)
  · rw [if_neg h1]
    exact fin t tl (rs.up big)
end Lw
namespace Lw
open PySem PySem.Spec PyProof.Rows L2 Z
open Dt (U pd DI D up sw sk sgI smI)
theorem DI_congr {n : Nat} {A B : Nat → Nat → Int} (h : ∀ i j, i < n → j < n → A i j = B i j) : DI n A = DI n B := by
  apply Rat.intCast_inj.mp
  rw [Dt.D_up, Dt.D_up]
  exact Dt.D_congr n fun i j hi hj => by show ((A i j : Int) : Rat) = (B i j : Int); rw [h i j hi hj]
def mn (t : List (List Int)) (j : Nat) : List (List Int) := (t.drop 1).map fun r => r.take j ++ r.drop (j + 1)
theorem cutR (r : List Int) (j k : Nat) (hj : j < r.length) : (r.take j ++ r.drop (j + 1)).getD k 0 = r.getD (sk j k) 0 := by
  unfold sk
  simp only [List.getD]
  by_cases h : k < j
  · rw [if_pos h, List.getElem?_append_left (by simp; omega), List.getElem?_take_of_lt h]
  · rw [if_neg h, List.getElem?_append_right (by simp; omega), List.getElem?_drop, List.length_take, Nat.min_eq_left (by omega), show j + 1 + (k - j) = k + 1 by omega]
theorem mn_at {n : Nat} {t : List (List Int)} {b j : Nat} (h : Sz (n + 1) b t) (hj : j < n + 1) : Sz n b (mn t j) ∧ ∀ i k, i < n → k < n → mt (mn t j) i k = mt t (i + 1) (sk j k) := by
  have hl := h.len
  have g : ∀ i, i < n → (mn t j).getD i [] = (t.getD (i + 1) []).take j ++ (t.getD (i + 1) []).drop (j + 1) := fun i hi => by
    unfold mn
    simp only [List.getD, List.getElem?_map, List.getElem?_drop]
    rw [show 1 + i = i + 1 by omega, List.getElem?_eq_getElem (by omega)]
    rfl
  have e : ∀ i k, i < n → k < n → mt (mn t j) i k = mt t (i + 1) (sk j k) := fun i k hi hk => by
    show ((mn t j).getD i []).getD k 0 = _
    rw [g i hi, cutR _ _ _ (by rw [h.row (i + 1) (by omega)]; exact hj)]
  refine ⟨⟨by unfold mn; simp [hl], fun i hi => ?_, fun i k hi hk => ?_⟩, e⟩
  · rw [g i hi]
    have := h.row (i + 1) (by omega)
    rw [List.length_append, List.length_take, List.length_drop]
    omega
  · rw [e i k hi hk]
    exact h.big _ _ (by omega) (Dt.sk_lt hk)
theorem sz_det {n b : Nat} {t : List (List Int)} (h : Sz n b t) : (DI n (mt t)).natAbs ≤ Dt.fac n * b ^ n := Dt.D_abs n _ h.big
theorem small {n : Nat} (hn : n ≤ 6) : Dt.fac n * BB ^ n < 2 ^ 1000 := by
  have h : ∀ n : Nat, n ≤ 6 → Dt.fac n * BB ^ n < 2 ^ 1000 := by decide +kernel
  exact h n hn
def sp_due (m : Nat) : Fn := fun ds Q => ∃ (n : Nat) (t : List (List Int)), n < m ∧ n ≤ 6 ∧ ds = [.lst (rows t)] ∧ Sz n BB t ∧ Q (.v (.int (DI n (mt t))))
theorem len_due {m : Nat} : ∀ ds Q, sp_due m ds Q → ds.length = 1 := by rintro ds Q ⟨_, _, _, _, rfl, _⟩; rfl
theorem mo_due {m : Nat} : MonoF (sp_due m) := ⟨fun ds Q Q' w ⟨n, t, a, b, e, c, h⟩ => ⟨n, t, a, b, e, c, w _ h⟩⟩
theorem due_c {j : Nat} {Q : R → Prop} : ∀ (l acc : List (List Int)), acc.length + l.length ≤ 100 → (∀ r ∈ l, r.length ≤ 100) → Q (.nw (.lst (rows (acc ++ l.map fun r => r.take j ++ r.drop (j + 1))))) →
    compGo [.un, .v (.int j)] (gN 0) tTrue (eOp pAdd (eSl (eVar 0) eNoPart (ePart (eVar 1))) (eSl (eVar 0) (ePart (eOp pAdd (eVar 1) (eC (.int 1)))) eNoPart)) (rows l) (rows acc) Q := by
  intro l
  induction l with
  | nil =>
    intro acc _ _ h
    rw [show rows [] = [] from rfl, compGo_nil]
    simpa using h
  | cons r l ih =>
    intro acc hl hr h
    simp only [List.length_cons] at hl
    have rl := hr r (by simp)
    rw [show rows (r :: l) = .lst (nsD r) :: rows l from rfl]
    simp only [↓zt, zo, zc, setAll, Nat.reduceSub, Nat.reduceAdd, ↓reduceIte, Int.reduceEq, Int.reduceMul, Int.reduceAdd, Int.reduceSub, Int.reduceNeg, Z.guard, Int.reduceLT, Int.reduceLE, Int.reduceToNat, Int.reducePow, Nat.reduceLT, Nat.reduceLeDiff, Nat.reducePow, LIM, show ((j : Int) + 1) = ((j + 1 : Nat) : Int) by omega, cut_to (show (0 : Int) ≤ j by omega), cut_from (show (0 : Int) ≤ ((j + 1 : Nat) : Int) by omega), Int.toNat_natCast, List.length_map, List.length_take, List.length_drop]
    refine ⟨by omega, by omega, ?_⟩
    rw [← List.map_take, ← List.map_drop, ← List.map_append, show rows acc ++ [Dv.lst (nsD (r.take j ++ r.drop (j + 1)))] = rows (acc ++ [r.take j ++ r.drop (j + 1)]) by simp]
    exact ih _ (by simp; omega) (fun x hx => hr x (by simp [hx])) (by simpa using h)
theorem sg_neg (j : Nat) : 0 - sgI j = sgI (j + 1) := by
  unfold sgI
  rcases Nat.mod_two_eq_zero_or_one j with h | h
  · rw [if_pos h, if_neg (show ¬ (j + 1) % 2 = 0 by omega)]; rfl
  · rw [if_neg (show ¬ j % 2 = 0 by omega), if_pos (show (j + 1) % 2 = 0 by omega)]; rfl
theorem sg_abs (j : Nat) : (sgI j).natAbs = 1 := by unfold sgI; split <;> rfl
theorem due_0 {n m : Nat} {t : List (List Int)} {E : En} (hm : n < m) (hn : n + 1 ≤ 6) (h : Sz (n + 1) BB t) : ∀ (i j : Nat) (s : Sl), j + i = n + 1 → (∀ a b, E.nx [.v (.lst (rows t)), .v (.int (DI (n + 1) (mt t))), a, b]) →
    forGo (gN 3) (b_law_due_0 (sp_due m)) [] (rangeD j i) E [.v (.lst (rows t)), .v (.int (smI (fun j => sgI j * mt t 0 j * DI n (fun i k => mt t (i + 1) (sk j k))) j)), .v (.int (sgI j)), s] := by
  have hl := h.len
  intro i
  induction i with
  | zero =>
    intro j s hj k
    have : j = n + 1 := by omega
    subst this
    rw [rangeD_nil, forGo_nil]
    exact ⟨fun p hp => by simp at hp, k _ _⟩
  | succ i ih =>
    intro j s hj k
    rw [rangeD_cons, forGo_cons]
    refine ⟨fun p hp => by simp at hp, ?_⟩
    have next := ih (j + 1) (.v (.int j)) (by omega) k
    rw [show (((j + 1 : Nat)) : Int) = (j : Int) + 1 by omega, smI, ← sg_neg] at next
    have sm := mn_at h (j := j) (by omega)
    have dm : DI n (mt (mn t j)) = DI n (fun i k => mt t (i + 1) (sk j k)) := DI_congr sm.2
    have ds := sz_det sm.1
    rw [dm] at ds
    have dsm := Nat.lt_of_le_of_lt ds (small (n := n) (by omega))
    have eb := h.big 0 j (by omega) (by omega)
    have bs : BB < 2 ^ 1000 := by decide +kernel
    have at0 : atI (rows t) 0 = some (.lst (nsD (t.getD 0 []))) := at_rows (k := 0) (by omega)
    have at1 : atI (nsD (t.getD 0 [])) (j : Int) = some (.int (mt t 0 j)) := at_ints (by rw [h.row 0 (by omega)]; omega)
    generalize forGo (gN 3) (b_law_due_0 (sp_due m)) [] (rangeD ((j : Int) + 1) i) E = G at next ⊢
    generalize hD : DI n (fun i k => mt t (i + 1) (sk j k)) = D1 at *
    generalize hx : mt t 0 j = x at *
    simp only [↓zt, zo, zc, setAll, Nat.reduceSub, Nat.reduceAdd, ↓reduceIte, Int.reduceEq, Int.reduceMul, Int.reduceAdd, Int.reduceSub, Int.reduceNeg, Z.guard, Int.reduceLT, Int.reduceLE, Int.reduceToNat, Int.reducePow, Nat.reduceLT, Nat.reduceLeDiff, Nat.reducePow, LIM, at0, at1]
    by_cases e : x = 0
    · rw [decide_eq_true e]
      simp only [↓zt, zo, zc, setAll, Nat.reduceSub, Nat.reduceAdd, ↓reduceIte, Int.reduceEq, Int.reduceMul, Int.reduceAdd, Int.reduceSub, Int.reduceNeg, Z.guard, Int.reduceLT, Int.reduceLE, Int.reduceToNat, Int.reducePow, Nat.reduceLT, Nat.reduceLeDiff, Nat.reducePow, LIM]
      rw [e, Int.mul_zero, Int.zero_mul, Int.add_zero] at next
      exact next
    · rw [decide_eq_false e]
      simp only [↓zt, zo, zc, setAll, Nat.reduceSub, Nat.reduceAdd, ↓reduceIte, Int.reduceEq, Int.reduceMul, Int.reduceAdd, Int.reduceSub, Int.reduceNeg, Z.guard, Int.reduceLT, Int.reduceLE, Int.reduceToNat, Int.reducePow, Nat.reduceLT, Nat.reduceLeDiff, Nat.reducePow, LIM]
      refine ⟨mulN (by rw [sg_abs]; decide +kernel) (Nat.lt_of_le_of_lt eb bs), ?_⟩
      rw [cut_from (by decide), show (rows t).drop (Int.toNat 1) = rows (t.drop 1) by simp [rows]]
      refine due_c (t.drop 1) [] (by simp; omega) (fun r hr => ?_) ?_
      · have hr' := List.mem_of_mem_drop hr
        obtain ⟨q, hq, e⟩ := List.mem_iff_getElem.mp hr'
        have := h.row q (by omega)
        rw [List.getD_eq_getElem?_getD, List.getElem?_eq_getElem hq] at this
        rw [← e]
        have e2 : t[q].length = n + 1 := this
        omega
      · refine ⟨n, mn t j, hm, by omega, rfl, sm.1, ?_⟩
        rw [dm]
        simp only [↓zt, zo, zc, setAll, Nat.reduceSub, Nat.reduceAdd, ↓reduceIte, Int.reduceEq, Int.reduceMul, Int.reduceAdd, Int.reduceSub, Int.reduceNeg, Z.guard, Int.reduceLT, Int.reduceLE, Int.reduceToNat, Int.reducePow, Nat.reduceLT, Nat.reduceLeDiff, Nat.reducePow, LIM]
        refine ⟨mulN ?_ dsm, ?_⟩
        · rw [Int.natAbs_mul, sg_abs, Nat.one_mul]
          exact Nat.lt_of_le_of_lt eb bs
        · exact next
theorem eq_rows : ∀ t : List (List Int), eqD (.lst (rows t)) (.lst []) = t.isEmpty
  | [] => by simp [eqD, pyD, pyD.pyDs, PyData.eqv, PyData.eqvAll]
  | r :: t => by simp [eqD, pyD, pyD.pyDs, PyData.eqv, PyData.eqvAll]
theorem ok_ns (n : Nat) : ∀ l : List Int, okDs n (nsD l) = true
  | [] => rfl
  | i :: r => by
    show (okD n (.int i) && okDs n (nsD r)) = true
    rw [ok_ns n r]
    cases n <;> rfl
theorem okRows : ∀ t : List (List Int), okDs 7 (rows t) = true
  | [] => rfl
  | r :: t => by
    show (okD 7 (.lst (nsD r)) && okDs 7 (rows t)) = true
    rw [okRows t, show okD 7 (.lst (nsD r)) = true from ok_ns 6 r]
    rfl
theorem p_law_due {m : Nat} : ∀ ds Q, sp_due (m + 1) ds Q → t_law_due (sp_due m) { nx := fun _ => Q (.v .non), rt := Q } (startP ["_law_rows", "_law_whole_here", "_law_sign", "_law_j"] ds) := by
  rintro ds Q ⟨n, t, hm, hn, rfl, h, q⟩
  simp only [↓zt, zo, zc, setAll, Nat.reduceSub, Nat.reduceAdd, ↓reduceIte, Int.reduceEq, Int.reduceMul, Int.reduceAdd, Int.reduceSub, Int.reduceNeg, Z.guard, Int.reduceLT, Int.reduceLE, Int.reduceToNat, Int.reducePow, Nat.reduceLT, Nat.reduceLeDiff, Nat.reducePow, LIM, eq_rows, show okD 8 (.lst (rows t)) = true from okRows t]
  refine ⟨rfl, ?_⟩
  cases n with
  | zero =>
    have : t = [] := List.length_eq_zero_iff.mp h.len
    subst this
    simp only [↓zt, zo, zc, setAll, Nat.reduceSub, Nat.reduceAdd, ↓reduceIte, Int.reduceEq, Int.reduceMul, Int.reduceAdd, Int.reduceSub, Int.reduceNeg, Z.guard, Int.reduceLT, Int.reduceLE, Int.reduceToNat, Int.reducePow, Nat.reduceLT, Nat.reduceLeDiff, Nat.reducePow, LIM, List.isEmpty_nil]
    exact q
  | succ n =>
    have hl := h.len
    have : t.isEmpty = false := by cases t with | nil => simp at hl | cons => rfl
    rw [this]
    simp only [↓zt, zo, zc, setAll, Nat.reduceSub, Nat.reduceAdd, ↓reduceIte, Int.reduceEq, Int.reduceMul, Int.reduceAdd, Int.reduceSub, Int.reduceNeg, Z.guard, Int.reduceLT, Int.reduceLE, Int.reduceToNat, Int.reducePow, Nat.reduceLT, Nat.reduceLeDiff, Nat.reducePow, LIM, List.length_map]
    refine ⟨by omega, ?_⟩
    rw [show ((t.length : Nat) : Int).toNat = n + 1 by omega]
    exact due_0 (by omega) hn h (n + 1) 0 _ (by omega) fun a b => q
end Lw
namespace Lw
open PySem PySem.Spec PyProof.Rows L2 Z
open Dt (U pd DI D up sw sk)
theorem eqI' (i : Int) : eqD (.int i) (.int i) = true := by simp [eqD, pyD, PyData.eqv]
theorem eqA : ∀ l : List Int, PyData.eqvAll (pyDs (nsD l)) (pyDs (nsD l)) = true
  | [] => by simp [pyD.pyDs, PyData.eqvAll]
  | i :: r => by
    show PyData.eqvAll (.int i :: pyDs (nsD r)) (.int i :: pyDs (nsD r)) = true
    rw [PyData.eqvAll, eqA r]
    simp [PyData.eqv]
theorem eqB : ∀ t : List (List Int), PyData.eqvAll (pyDs (rows t)) (pyDs (rows t)) = true
  | [] => by simp [pyD.pyDs, PyData.eqvAll]
  | r :: t => by
    show PyData.eqvAll (.list (pyDs (nsD r)) :: pyDs (rows t)) (.list (pyDs (nsD r)) :: pyDs (rows t)) = true
    rw [PyData.eqvAll, eqB t, PyData.eqv, eqA r]
    rfl
theorem eqRows (t : List (List Int)) : eqD (.lst (rows t)) (.lst (rows t)) = true := by
  unfold eqD
  show PyData.eqv (.list (pyDs (rows t))) (.list (pyDs (rows t))) = true
  rw [PyData.eqv]
  exact eqB t
theorem good_c {Q : R → Prop} : ∀ (l acc : List (List Int)), acc.length + l.length ≤ 100 → Q (.nw (.lst (rows (acc ++ l)))) → compGo [.un] (gN 0) tTrue (eCB pList (eCons (eVar 0) eNil)) (rows l) (rows acc) Q := by
  intro l
  induction l with
  | nil =>
    intro acc _ h
    rw [show rows [] = [] from rfl, compGo_nil]
    simpa using h
  | cons r l ih =>
    intro acc hl h
    simp only [List.length_cons] at hl
    rw [show rows (r :: l) = .lst (nsD r) :: rows l from rfl]
    simp only [↓zt, zo, zc, setAll, Nat.reduceSub, Nat.reduceAdd, ↓reduceIte, Int.reduceEq, Int.reduceMul, Int.reduceAdd, Int.reduceSub, Int.reduceNeg, Z.guard, Int.reduceLT, Int.reduceLE, Int.reduceToNat, Int.reducePow, Nat.reduceLT, Nat.reduceLeDiff, Nat.reducePow, LIM, List.length_map]
    refine ⟨by omega, ?_⟩
    rw [show rows acc ++ [Dv.lst (nsD r)] = rows (acc ++ [r]) by simp]
    exact ih _ (by simp; omega) (by simpa using h)
theorem swapped {n : Nat} {t : List (List Int)} {b : Nat} (h : Sz (n + 2) b t) : Sz (n + 2) b ([t.getD 1 [], t.getD 0 []] ++ t.drop 2) ∧ DI (n + 2) (mt ([t.getD 1 [], t.getD 0 []] ++ t.drop 2)) = - DI (n + 2) (mt t) := by
  have hl := h.len
  have g : ∀ i, ([t.getD 1 [], t.getD 0 []] ++ t.drop 2).getD i [] = t.getD (sw 0 1 i) [] := fun i => by
    match i with
    | 0 => rfl
    | 1 => rfl
    | i + 2 =>
      rw [show sw 0 1 (i + 2) = i + 2 by unfold sw; rw [if_neg (by omega), if_neg (by omega)]]
      simp only [List.getD, List.cons_append, List.nil_append, List.getElem?_cons_succ, List.getElem?_drop]
      rw [show 2 + i = i + 2 by omega]
  have lt : ∀ i, i < n + 2 → sw 0 1 i < n + 2 := fun i hi => by unfold sw; split <;> first | omega | (split <;> omega)
  refine ⟨⟨by simp [hl], fun i hi => by rw [g]; exact h.row _ (lt i hi), fun i j hi hj => ?_⟩, ?_⟩
  · show ((([t.getD 1 [], t.getD 0 []] ++ t.drop 2).getD i []).getD j 0).natAbs ≤ b
    rw [g]
    exact h.big _ j (lt i hi) hj
  · apply Rat.intCast_inj.mp
    rw [Dt.D_up, Rat.intCast_neg, Dt.D_up, ← Dt.D_swap (n := n + 2) (up (mt t)) (r := 0) (s := 1) (by omega) (by omega)]
    refine Dt.D_congr _ fun i j hi hj => ?_
    show (((([t.getD 1 [], t.getD 0 []] ++ t.drop 2).getD i []).getD j 0 : Int) : Rat) = _
    rw [g]
    rfl
def sp_good : Fn := fun ds Q => ∃ (n : Nat) (t : List (List Int)), n ≤ 6 ∧ ds = [.lst (rows t)] ∧ Sz n BB t ∧ Q (.v (.bl true))
theorem len_good : ∀ ds Q, sp_good ds Q → ds.length = 1 := by rintro ds Q ⟨_, _, _, rfl, _⟩; rfl
theorem mo_good : MonoF sp_good := ⟨fun ds Q Q' w ⟨n, t, a, e, c, h⟩ => ⟨n, t, a, e, c, w _ h⟩⟩
theorem p_law_good : ∀ ds Q, sp_good ds Q → t_law_good (sp_due 7) sp_det sp_lw { nx := fun _ => Q (.v .non), rt := Q } (startP ["_law_rows", "_law_due_here", "_law_handed", "_law_told"] ds) := by
  rintro ds Q ⟨n, t, hn, rfl, h, q⟩
  have hl := h.len
  have B1 : 1 ≤ BB := by decide
  simp only [↓zt, zo, zc, setAll, Nat.reduceSub, Nat.reduceAdd, ↓reduceIte, Int.reduceEq, Int.reduceMul, Int.reduceAdd, Int.reduceSub, Int.reduceNeg, Z.guard, Int.reduceLT, Int.reduceLE, Int.reduceToNat, Int.reducePow, Nat.reduceLT, Nat.reduceLeDiff, Nat.reducePow, LIM]
  refine ⟨n, t, by omega, hn, rfl, h, ?_⟩
  simp only [↓zt, zo, zc, setAll, Nat.reduceSub, Nat.reduceAdd, ↓reduceIte, Int.reduceEq, Int.reduceMul, Int.reduceAdd, Int.reduceSub, Int.reduceNeg, Z.guard, Int.reduceLT, Int.reduceLE, Int.reduceToNat, Int.reducePow, Nat.reduceLT, Nat.reduceLeDiff, Nat.reducePow, LIM]
  refine good_c t [] (by simp; omega) ?_
  rw [List.nil_append]
  simp only [↓zt, zo, zc, setAll, Nat.reduceSub, Nat.reduceAdd, ↓reduceIte, Int.reduceEq, Int.reduceMul, Int.reduceAdd, Int.reduceSub, Int.reduceNeg, Z.guard, Int.reduceLT, Int.reduceLE, Int.reduceToNat, Int.reducePow, Nat.reduceLT, Nat.reduceLeDiff, Nat.reducePow, LIM]
  refine ⟨t, DI n (mt t), rfl, by omega, det_is B1 h (small hn) (by omega), ?_⟩
  simp only [↓zt, zo, zc, setAll, Nat.reduceSub, Nat.reduceAdd, ↓reduceIte, Int.reduceEq, Int.reduceMul, Int.reduceAdd, Int.reduceSub, Int.reduceNeg, Z.guard, Int.reduceLT, Int.reduceLE, Int.reduceToNat, Int.reducePow, Nat.reduceLT, Nat.reduceLeDiff, Nat.reducePow, LIM]
  refine ⟨_, rfl, ?_⟩
  simp only [↓zt, zo, zc, setAll, Nat.reduceSub, Nat.reduceAdd, ↓reduceIte, Int.reduceEq, Int.reduceMul, Int.reduceAdd, Int.reduceSub, Int.reduceNeg, Z.guard, Int.reduceLT, Int.reduceLE, Int.reduceToNat, Int.reducePow, Nat.reduceLT, Nat.reduceLeDiff, Nat.reducePow, LIM, eqRows, show okD 8 (.lst (rows t)) = true from okRows t, List.length_map]
  by_cases h2 : (t.length : Int) < 2
  · rw [if_pos h2]
    exact q
  · rw [if_neg h2]
    obtain ⟨m, rfl⟩ : ∃ m, n = m + 2 := ⟨n - 2, by omega⟩
    obtain ⟨s1, s2⟩ := swapped h
    have at0 : atI (rows t) 0 = some (.lst (nsD (t.getD 0 []))) := at_rows (k := 0) (by omega)
    have at1 : atI (rows t) 1 = some (.lst (nsD (t.getD 1 []))) := at_rows (k := 1) (by omega)
    rw [at0, at1]
    simp only [↓zt, zo, zc, setAll, Nat.reduceSub, Nat.reduceAdd, ↓reduceIte, Int.reduceEq, Int.reduceMul, Int.reduceAdd, Int.reduceSub, Int.reduceNeg, Z.guard, Int.reduceLT, Int.reduceLE, Int.reduceToNat, Int.reducePow, Nat.reduceLT, Nat.reduceLeDiff, Nat.reducePow, LIM, cut_from (show (0 : Int) ≤ 2 by decide), List.length_map, List.length_drop]
    refine ⟨by omega, ?_⟩
    refine ⟨[t.getD 1 [], t.getD 0 []] ++ t.drop 2, - DI (m + 2) (mt t), by simp [rows], by simp; omega, by rw [det_is B1 s1 (small hn) (by omega), s2], ?_⟩
    simp only [↓zt, zo, zc, setAll, Nat.reduceSub, Nat.reduceAdd, ↓reduceIte, Int.reduceEq, Int.reduceMul, Int.reduceAdd, Int.reduceSub, Int.reduceNeg, Z.guard, Int.reduceLT, Int.reduceLE, Int.reduceToNat, Int.reducePow, Nat.reduceLT, Nat.reduceLeDiff, Nat.reducePow, LIM]
    rw [decide_eq_true (show - DI (m + 2) (mt t) = 0 - DI (m + 2) (mt t) by omega)]
    exact q
theorem law_c {ns : List Int} {Q : R → Prop} (hl : ns.length ≤ 63) : ∀ (m k : Nat) (acc : List Int), k + m ≤ 60 → acc.length + m ≤ 100 → (∀ l : List Int, l.length ≤ 100 → Q (.nw (.lst (nsD l)))) →
    compGo [.un, .v (.scr ns)] (gN 0) tTrue (eCall sp_deep (eCons (eVar 1) (eCons (eVar 0) eNil))) (rangeD k m) (nsD acc) Q := by
  intro m
  induction m with
  | zero =>
    intro k acc _ ha h
    rw [rangeD_nil, compGo_nil]
    exact h acc (by omega)
  | succ m ih =>
    intro k acc hk ha h
    simp only [↓zt, zo, zc, setAll, Nat.reduceSub, Nat.reduceAdd, ↓reduceIte, Int.reduceEq, Int.reduceMul, Int.reduceAdd, Int.reduceSub, Int.reduceNeg, Z.guard, Int.reduceLT, Int.reduceLE, Int.reduceToNat, Int.reducePow, Nat.reduceLT, Nat.reduceLeDiff, Nat.reducePow, LIM, rangeD_cons, List.length_map]
    refine ⟨ns, k, rfl, hl, by omega, fun n => ?_⟩
    simp only [↓zt, zo, zc, setAll, Nat.reduceSub, Nat.reduceAdd, ↓reduceIte, Int.reduceEq, Int.reduceMul, Int.reduceAdd, Int.reduceSub, Int.reduceNeg, Z.guard, Int.reduceLT, Int.reduceLE, Int.reduceToNat, Int.reducePow, Nat.reduceLT, Nat.reduceLeDiff, Nat.reducePow, LIM, List.length_map]
    refine ⟨by omega, ?_⟩
    rw [show nsD acc ++ [Dv.int n] = nsD (acc ++ [n]) by simp]
    exact ih (k + 1) _ (by omega) (by simp; omega) h
theorem law_0 {x : Sl} {l : List Int} {E : En} {Q : R → Prop} (c1 c2 c3 : Fn) : ∀ (m k : Nat) (s : Sl), k + m = l.length → (∀ s, E.nx [x, .v (.lst (nsD l)), s]) → forGo (gN 2) (b_law_0 c1 sp_chosen c2 c3) [] (rangeD k m) E [x, .v (.lst (nsD l)), s] := by
  intro m
  induction m with
  | zero =>
    intro k s _ h
    rw [rangeD_nil, forGo_nil]
    exact ⟨fun p hp => by simp at hp, h s⟩
  | succ m ih =>
    intro k s hk h
    simp only [↓zt, zo, zc, setAll, Nat.reduceSub, Nat.reduceAdd, ↓reduceIte, Int.reduceEq, Int.reduceMul, Int.reduceAdd, Int.reduceSub, Int.reduceNeg, Z.guard, Int.reduceLT, Int.reduceLE, Int.reduceToNat, Int.reducePow, Nat.reduceLT, Nat.reduceLeDiff, Nat.reducePow, LIM, rangeD_cons, at_ints (show k < l.length by omega)]
    refine ⟨_, _, rfl, ?_⟩
    simp only [↓zt, zo, zc, setAll, Nat.reduceSub, Nat.reduceAdd, ↓reduceIte, Int.reduceEq, Int.reduceMul, Int.reduceAdd, Int.reduceSub, Int.reduceNeg, Z.guard, Int.reduceLT, Int.reduceLE, Int.reduceToNat, Int.reducePow, Nat.reduceLT, Nat.reduceLeDiff, Nat.reducePow, LIM]
    exact ih (k + 1) _ (by omega) h
theorem law_1 {ns : List Int} {x : Sl} {E : En} (hl : ns.length ≤ 63) (c1 : Fn) : ∀ (m k : Nat) (s : Sl), k + m ≤ 3 → (∀ s, E.nx [.v (.scr ns), x, s]) → forGo (gN 2) (b_law_1 sp_deep c1 sp_square sp_good) [] (rangeD k m) E [.v (.scr ns), x, s] := by
  intro m
  induction m with
  | zero =>
    intro k s _ h
    rw [rangeD_nil, forGo_nil]
    exact ⟨fun p hp => by simp at hp, h s⟩
  | succ m ih =>
    intro k s hk h
    simp only [↓zt, zo, zc, setAll, Nat.reduceSub, Nat.reduceAdd, ↓reduceIte, Int.reduceEq, Int.reduceMul, Int.reduceAdd, Int.reduceSub, Int.reduceNeg, Z.guard, Int.reduceLT, Int.reduceLE, Int.reduceToNat, Int.reducePow, Nat.reduceLT, Nat.reduceLeDiff, Nat.reducePow, LIM, rangeD_cons]
    refine ⟨CMul_small (by omega) (by omega), ns, 2 * k, by rw [show ((2 * k : Nat) : Int) = 2 * (k : Int) by omega], hl, by omega, fun n => ?_⟩
    simp only [↓zt, zo, zc, setAll, Nat.reduceSub, Nat.reduceAdd, ↓reduceIte, Int.reduceEq, Int.reduceMul, Int.reduceAdd, Int.reduceSub, Int.reduceNeg, Z.guard, Int.reduceLT, Int.reduceLE, Int.reduceToNat, Int.reducePow, Nat.reduceLT, Nat.reduceLeDiff, Nat.reducePow, LIM]
    refine ⟨CMul_small (by omega) (by omega), ns, 2 * k + 1, by rw [show ((2 * k + 1 : Nat) : Int) = 2 * (k : Int) + 1 by omega], hl, by omega, fun o => ?_⟩
    simp only [↓zt, zo, zc, setAll, Nat.reduceSub, Nat.reduceAdd, ↓reduceIte, Int.reduceEq, Int.reduceMul, Int.reduceAdd, Int.reduceSub, Int.reduceNeg, Z.guard, Int.reduceLT, Int.reduceLE, Int.reduceToNat, Int.reducePow, Nat.reduceLT, Nat.reduceLeDiff, Nat.reducePow, LIM]
    refine ⟨_, _, rfl, fun n t hn sz => ?_⟩
    simp only [↓zt, zo, zc, setAll, Nat.reduceSub, Nat.reduceAdd, ↓reduceIte, Int.reduceEq, Int.reduceMul, Int.reduceAdd, Int.reduceSub, Int.reduceNeg, Z.guard, Int.reduceLT, Int.reduceLE, Int.reduceToNat, Int.reducePow, Nat.reduceLT, Nat.reduceLeDiff, Nat.reducePow, LIM]
    refine ⟨n, t, hn, rfl, sz, ?_⟩
    simp only [↓zt, zo, zc, setAll, Nat.reduceSub, Nat.reduceAdd, ↓reduceIte, Int.reduceEq, Int.reduceMul, Int.reduceAdd, Int.reduceSub, Int.reduceNeg, Z.guard, Int.reduceLT, Int.reduceLE, Int.reduceToNat, Int.reducePow, Nat.reduceLT, Nat.reduceLeDiff, Nat.reducePow, LIM]
    exact ih (k + 1) _ (by omega) h
def spLaw : Fn := fun ds Q => ∃ ns : List Int, ds = [.scr ns] ∧ ns.length ≤ 63 ∧ Q (.v (.bl true))
theorem len_law : ∀ ds Q, spLaw ds Q → ds.length = 1 := by rintro ds Q ⟨d, rfl, _⟩; rfl
theorem p_law : ∀ ds Q, spLaw ds Q → t_law sp_deep sp_chosen sp_square sp_good { nx := fun _ => Q (.v .non), rt := Q } (startP ["_law_script", "_law_cells", "_law_k"] ds) := by
  rintro ds Q ⟨ns, rfl, hl, q⟩
  simp only [↓zt, zo, zc, setAll, Nat.reduceSub, Nat.reduceAdd, ↓reduceIte, Int.reduceEq, Int.reduceMul, Int.reduceAdd, Int.reduceSub, Int.reduceNeg, Z.guard, Int.reduceLT, Int.reduceLE, Int.reduceToNat, Int.reducePow, Nat.reduceLT, Nat.reduceLeDiff, Nat.reducePow, LIM]
  obtain ⟨m, hm, m20⟩ : ∃ m : Nat, (if (ns.length : Int) < 20 then (ns.length : Int) else 20) = m ∧ m ≤ 20 := ⟨(if (ns.length : Int) < 20 then (ns.length : Int) else 20).toNat, by split <;> omega, by split <;> omega⟩
  rw [hm]
  refine ⟨by omega, ?_⟩
  rw [show ((m : Nat) : Int).toNat = m by omega]
  refine law_c hl m 0 [] (by omega) (by simp; omega) fun l ll => ?_
  simp only [↓zt, zo, zc, setAll, Nat.reduceSub, Nat.reduceAdd, ↓reduceIte, Int.reduceEq, Int.reduceMul, Int.reduceAdd, Int.reduceSub, Int.reduceNeg, Z.guard, Int.reduceLT, Int.reduceLE, Int.reduceToNat, Int.reducePow, Nat.reduceLT, Nat.reduceLeDiff, Nat.reducePow, LIM, List.length_map]
  refine ⟨by omega, ?_⟩
  rw [show nsD l ++ [Dv.int 130] = nsD (l ++ [130]) by simp]
  simp only [↓zt, zo, zc, setAll, Nat.reduceSub, Nat.reduceAdd, ↓reduceIte, Int.reduceEq, Int.reduceMul, Int.reduceAdd, Int.reduceSub, Int.reduceNeg, Z.guard, Int.reduceLT, Int.reduceLE, Int.reduceToNat, Int.reducePow, Nat.reduceLT, Nat.reduceLeDiff, Nat.reducePow, LIM, List.length_map, List.length_append]
  refine ⟨by omega, ?_⟩
  rw [show (((l.length + (0 + 1) : Nat)) : Int).toNat = l.length + 1 by omega]
  refine law_0 (Q := Q) _ _ _ (l.length + 1) 0 _ (by simp) fun s => ?_
  simp only [↓zt, zo, zc, setAll, Nat.reduceSub, Nat.reduceAdd, ↓reduceIte, Int.reduceEq, Int.reduceMul, Int.reduceAdd, Int.reduceSub, Int.reduceNeg, Z.guard, Int.reduceLT, Int.reduceLE, Int.reduceToNat, Int.reducePow, Nat.reduceLT, Nat.reduceLeDiff, Nat.reducePow, LIM]
  refine law_1 hl _ 3 0 _ (by omega) fun s => ?_
  simp only [↓zt, zo, zc, setAll, Nat.reduceSub, Nat.reduceAdd, ↓reduceIte, Int.reduceEq, Int.reduceMul, Int.reduceAdd, Int.reduceSub, Int.reduceNeg, Z.guard, Int.reduceLT, Int.reduceLE, Int.reduceToNat, Int.reducePow, Nat.reduceLT, Nat.reduceLeDiff, Nat.reducePow, LIM]
  exact q
end Lw
namespace Lw
open PySem PySem.Spec PyProof.Rows L2 Z
theorem due_none {P : Program} {w : World} {K : PySem.W.Frag} {mg : Str → Option Value} {base : Heap} (m : At K mg "_law_due" "_law_due" (top 11) ["_law_rows"]) : Def P w K mg base 1 "_law_due" ["_law_rows"] (low K (sp_due 0)) := by
  have sc : FnScope ["_law_rows", "_law_whole_here", "_law_sign", "_law_j"] ["_law_rows"] (defScope (top 11)) := ⟨rfl, rfl, rfl, by decide +kernel, rfl, by decide +kernel, by decide +kernel⟩
  refine m.ok (k := 0) sc (low_len len_due) fun f cdv A outer s H vs Q E hr hs => ?_
  obtain ⟨F, ds, _, _, n, t, hn, _⟩ := hs
  omega
end Lw
namespace Lw
open PySem PySem.Spec PyProof.Rows L2 Z
theorem law_start {K : PySem.W.Frag} {H : Hp} {a : Addr} {ns : List Int} (hl : ns.length ≤ 63) (hO : Only H) (hS : SqL K H a (ns.map V.int)) : low K spLaw [.ref a] H (fun v _ => v = .bl true) (fun _ _ _ => False) :=
  start_low (fun Q q => ⟨ns, rfl, hl, q⟩) hO hS
theorem all_mk {l : PySem.W.OpenLaw} {w : World} {K : PySem.W.Frag} {h : Heap} {mg : Str → Option Value} {fa : Addr} (X : K.In h) (G : h.Ns mainGlobals mg) (hfa : mg "law" = some (.ref fa))
    {fDchoose : Addr} {odDchoose anDchoose : Option Addr} {slDchoose : Array (Option Value)} {ocDchoose kVDchoose dcDchoose pmDchoose cdDchoose ctDchoose : Value}
    {fDplace_of_pivot : Addr} {odDplace_of_pivot anDplace_of_pivot : Option Addr} {slDplace_of_pivot : Array (Option Value)} {ocDplace_of_pivot kVDplace_of_pivot dcDplace_of_pivot pmDplace_of_pivot cdDplace_of_pivot ctDplace_of_pivot : Value}
    {fDcleared : Addr} {odDcleared anDcleared : Option Addr} {slDcleared : Array (Option Value)} {ocDcleared kVDcleared dcDcleared pmDcleared cdDcleared ctDcleared : Value}
    {fDdeterminant : Addr} {odDdeterminant anDdeterminant : Option Addr} {slDdeterminant : Array (Option Value)} {ocDdeterminant kVDdeterminant dcDdeterminant pmDdeterminant cdDdeterminant ctDdeterminant : Value}
    {fDlaw_deep : Addr} {odDlaw_deep anDlaw_deep : Option Addr} {slDlaw_deep : Array (Option Value)} {ocDlaw_deep kVDlaw_deep dcDlaw_deep pmDlaw_deep cdDlaw_deep ctDlaw_deep : Value}
    {fDlaw_whole : Addr} {odDlaw_whole anDlaw_whole : Option Addr} {slDlaw_whole : Array (Option Value)} {ocDlaw_whole kVDlaw_whole dcDlaw_whole pmDlaw_whole cdDlaw_whole ctDlaw_whole : Value}
    {fDlaw_ways : Addr} {odDlaw_ways anDlaw_ways : Option Addr} {slDlaw_ways : Array (Option Value)} {ocDlaw_ways kVDlaw_ways dcDlaw_ways pmDlaw_ways cdDlaw_ways ctDlaw_ways : Value}
    {fDlaw_chosen : Addr} {odDlaw_chosen anDlaw_chosen : Option Addr} {slDlaw_chosen : Array (Option Value)} {ocDlaw_chosen kVDlaw_chosen dcDlaw_chosen pmDlaw_chosen cdDlaw_chosen ctDlaw_chosen : Value}
    {fDlaw_square : Addr} {odDlaw_square anDlaw_square : Option Addr} {slDlaw_square : Array (Option Value)} {ocDlaw_square kVDlaw_square dcDlaw_square pmDlaw_square cdDlaw_square ctDlaw_square : Value}
    {fDlaw_due : Addr} {odDlaw_due anDlaw_due : Option Addr} {slDlaw_due : Array (Option Value)} {ocDlaw_due kVDlaw_due dcDlaw_due pmDlaw_due cdDlaw_due ctDlaw_due : Value}
    {fDlaw_good : Addr} {odDlaw_good anDlaw_good : Option Addr} {slDlaw_good : Array (Option Value)} {ocDlaw_good kVDlaw_good dcDlaw_good pmDlaw_good cdDlaw_good ctDlaw_good : Value}
    {fDlaw : Addr} {odDlaw anDlaw : Option Addr} {slDlaw : Array (Option Value)} {ocDlaw kVDlaw dcDlaw pmDlaw cdDlaw ctDlaw : Value}
    (aDchoose : PySem.W.nsIn K mainGlobals "choose" = some (some (.ref fDchoose)))
    (lDchoose : K.lookup fDchoose = some ⟨ocDchoose, odDchoose, .func (PySem.W.fnOf "choose" "choose" (defArgs (top 1)) (defBody (top 1)) (defScope (top 1)) .none kVDchoose dcDchoose pmDchoose anDchoose cdDchoose ctDchoose), slDchoose⟩) (cDchoose : PySem.W.codeIn K cdDchoose "choose" = true) (kDchoose : PySem.W.keepIn K (.ref fDchoose) = true)
    (aDplace_of_pivot : PySem.W.nsIn K mainGlobals "place_of_pivot" = some (some (.ref fDplace_of_pivot)))
    (lDplace_of_pivot : K.lookup fDplace_of_pivot = some ⟨ocDplace_of_pivot, odDplace_of_pivot, .func (PySem.W.fnOf "place_of_pivot" "place_of_pivot" (defArgs (top 2)) (defBody (top 2)) (defScope (top 2)) .none kVDplace_of_pivot dcDplace_of_pivot pmDplace_of_pivot anDplace_of_pivot cdDplace_of_pivot ctDplace_of_pivot), slDplace_of_pivot⟩) (cDplace_of_pivot : PySem.W.codeIn K cdDplace_of_pivot "place_of_pivot" = true) (kDplace_of_pivot : PySem.W.keepIn K (.ref fDplace_of_pivot) = true)
    (aDcleared : PySem.W.nsIn K mainGlobals "cleared" = some (some (.ref fDcleared)))
    (lDcleared : K.lookup fDcleared = some ⟨ocDcleared, odDcleared, .func (PySem.W.fnOf "cleared" "cleared" (defArgs (top 3)) (defBody (top 3)) (defScope (top 3)) .none kVDcleared dcDcleared pmDcleared anDcleared cdDcleared ctDcleared), slDcleared⟩) (cDcleared : PySem.W.codeIn K cdDcleared "cleared" = true) (kDcleared : PySem.W.keepIn K (.ref fDcleared) = true)
    (aDdeterminant : PySem.W.nsIn K mainGlobals "determinant" = some (some (.ref fDdeterminant)))
    (lDdeterminant : K.lookup fDdeterminant = some ⟨ocDdeterminant, odDdeterminant, .func (PySem.W.fnOf "determinant" "determinant" (defArgs (top 4)) (defBody (top 4)) (defScope (top 4)) .none kVDdeterminant dcDdeterminant pmDdeterminant anDdeterminant cdDdeterminant ctDdeterminant), slDdeterminant⟩) (cDdeterminant : PySem.W.codeIn K cdDdeterminant "determinant" = true) (kDdeterminant : PySem.W.keepIn K (.ref fDdeterminant) = true)
    (aDlaw_deep : PySem.W.nsIn K mainGlobals "_law_deep" = some (some (.ref fDlaw_deep)))
    (lDlaw_deep : K.lookup fDlaw_deep = some ⟨ocDlaw_deep, odDlaw_deep, .func (PySem.W.fnOf "_law_deep" "_law_deep" (defArgs (top 6)) (defBody (top 6)) (defScope (top 6)) .none kVDlaw_deep dcDlaw_deep pmDlaw_deep anDlaw_deep cdDlaw_deep ctDlaw_deep), slDlaw_deep⟩) (cDlaw_deep : PySem.W.codeIn K cdDlaw_deep "_law_deep" = true) (kDlaw_deep : PySem.W.keepIn K (.ref fDlaw_deep) = true)
    (aDlaw_whole : PySem.W.nsIn K mainGlobals "_law_whole" = some (some (.ref fDlaw_whole)))
    (lDlaw_whole : K.lookup fDlaw_whole = some ⟨ocDlaw_whole, odDlaw_whole, .func (PySem.W.fnOf "_law_whole" "_law_whole" (defArgs (top 7)) (defBody (top 7)) (defScope (top 7)) .none kVDlaw_whole dcDlaw_whole pmDlaw_whole anDlaw_whole cdDlaw_whole ctDlaw_whole), slDlaw_whole⟩) (cDlaw_whole : PySem.W.codeIn K cdDlaw_whole "_law_whole" = true) (kDlaw_whole : PySem.W.keepIn K (.ref fDlaw_whole) = true)
    (aDlaw_ways : PySem.W.nsIn K mainGlobals "_law_ways" = some (some (.ref fDlaw_ways)))
    (lDlaw_ways : K.lookup fDlaw_ways = some ⟨ocDlaw_ways, odDlaw_ways, .func (PySem.W.fnOf "_law_ways" "_law_ways" (defArgs (top 8)) (defBody (top 8)) (defScope (top 8)) .none kVDlaw_ways dcDlaw_ways pmDlaw_ways anDlaw_ways cdDlaw_ways ctDlaw_ways), slDlaw_ways⟩) (cDlaw_ways : PySem.W.codeIn K cdDlaw_ways "_law_ways" = true) (kDlaw_ways : PySem.W.keepIn K (.ref fDlaw_ways) = true)
    (aDlaw_chosen : PySem.W.nsIn K mainGlobals "_law_chosen" = some (some (.ref fDlaw_chosen)))
    (lDlaw_chosen : K.lookup fDlaw_chosen = some ⟨ocDlaw_chosen, odDlaw_chosen, .func (PySem.W.fnOf "_law_chosen" "_law_chosen" (defArgs (top 9)) (defBody (top 9)) (defScope (top 9)) .none kVDlaw_chosen dcDlaw_chosen pmDlaw_chosen anDlaw_chosen cdDlaw_chosen ctDlaw_chosen), slDlaw_chosen⟩) (cDlaw_chosen : PySem.W.codeIn K cdDlaw_chosen "_law_chosen" = true) (kDlaw_chosen : PySem.W.keepIn K (.ref fDlaw_chosen) = true)
    (aDlaw_square : PySem.W.nsIn K mainGlobals "_law_square" = some (some (.ref fDlaw_square)))
    (lDlaw_square : K.lookup fDlaw_square = some ⟨ocDlaw_square, odDlaw_square, .func (PySem.W.fnOf "_law_square" "_law_square" (defArgs (top 10)) (defBody (top 10)) (defScope (top 10)) .none kVDlaw_square dcDlaw_square pmDlaw_square anDlaw_square cdDlaw_square ctDlaw_square), slDlaw_square⟩) (cDlaw_square : PySem.W.codeIn K cdDlaw_square "_law_square" = true) (kDlaw_square : PySem.W.keepIn K (.ref fDlaw_square) = true)
    (aDlaw_due : PySem.W.nsIn K mainGlobals "_law_due" = some (some (.ref fDlaw_due)))
    (lDlaw_due : K.lookup fDlaw_due = some ⟨ocDlaw_due, odDlaw_due, .func (PySem.W.fnOf "_law_due" "_law_due" (defArgs (top 11)) (defBody (top 11)) (defScope (top 11)) .none kVDlaw_due dcDlaw_due pmDlaw_due anDlaw_due cdDlaw_due ctDlaw_due), slDlaw_due⟩) (cDlaw_due : PySem.W.codeIn K cdDlaw_due "_law_due" = true) (kDlaw_due : PySem.W.keepIn K (.ref fDlaw_due) = true)
    (aDlaw_good : PySem.W.nsIn K mainGlobals "_law_good" = some (some (.ref fDlaw_good)))
    (lDlaw_good : K.lookup fDlaw_good = some ⟨ocDlaw_good, odDlaw_good, .func (PySem.W.fnOf "_law_good" "_law_good" (defArgs (top 12)) (defBody (top 12)) (defScope (top 12)) .none kVDlaw_good dcDlaw_good pmDlaw_good anDlaw_good cdDlaw_good ctDlaw_good), slDlaw_good⟩) (cDlaw_good : PySem.W.codeIn K cdDlaw_good "_law_good" = true) (kDlaw_good : PySem.W.keepIn K (.ref fDlaw_good) = true)
    (aDlaw : PySem.W.nsIn K mainGlobals "law" = some (some (.ref fDlaw)))
    (lDlaw : K.lookup fDlaw = some ⟨ocDlaw, odDlaw, .func (PySem.W.fnOf "law" "law" (defArgs (top 13)) (defBody (top 13)) (defScope (top 13)) .none kVDlaw dcDlaw pmDlaw anDlaw cdDlaw ctDlaw), slDlaw⟩) (cDlaw : PySem.W.codeIn K cdDlaw "law" = true) (kDlaw : PySem.W.keepIn K (.ref fDlaw) = true)
    (o_bool : PySem.W.nsIn K mainGlobals "bool" = some none)
    (o_int : PySem.W.nsIn K mainGlobals "int" = some none)
    (o_isinstance : PySem.W.nsIn K mainGlobals "isinstance" = some none)
    (o_len : PySem.W.nsIn K mainGlobals "len" = some none)
    (o_list : PySem.W.nsIn K mainGlobals "list" = some none)
    (o_min : PySem.W.nsIn K mainGlobals "min" = some none)
    (o_range : PySem.W.nsIn K mainGlobals "range" = some none)
    (o_zip : PySem.W.nsIn K mainGlobals "zip" = some none) :
    ∃ fd : FuncData, (∀ (s : Shared) (v : Value), BindsTo s fd ⟨[v], []⟩ [("_law_script", v)]) ∧ ∀ base : Heap, K.In base → base.Ns mainGlobals mg → FnOk l.prog w K mg base CX0 10 fa fd ["_law_script"] ((low K spLaw)) := by
  have e := hfa.symm.trans (PySem.W.mg_of X G aDlaw)
  cases e
  have FDchoose := fun_mk (st := (top 1)) lDchoose cDchoose kDchoose
  have bDchoose := FDchoose.binds (ps := ["n", "k"]) fun _ _ _ _ _ _ us hl => match us, hl with | [_, _], _ => rfl
  have mDchoose : At K mg "choose" "choose" (top 1) ["n", "k"] := ⟨_, _, PySem.W.mg_of X G aDchoose, FDchoose, bDchoose⟩
  have FDplace_of_pivot := fun_mk (st := (top 2)) lDplace_of_pivot cDplace_of_pivot kDplace_of_pivot
  have bDplace_of_pivot := FDplace_of_pivot.binds (ps := ["table", "column"]) fun _ _ _ _ _ _ us hl => match us, hl with | [_, _], _ => rfl
  have mDplace_of_pivot : At K mg "place_of_pivot" "place_of_pivot" (top 2) ["table", "column"] := ⟨_, _, PySem.W.mg_of X G aDplace_of_pivot, FDplace_of_pivot, bDplace_of_pivot⟩
  have FDcleared := fun_mk (st := (top 3)) lDcleared cDcleared kDcleared
  have bDcleared := FDcleared.binds (ps := ["numbers", "pivot", "column", "divisor"]) fun _ _ _ _ _ _ us hl => match us, hl with | [_, _, _, _], _ => rfl
  have mDcleared : At K mg "cleared" "cleared" (top 3) ["numbers", "pivot", "column", "divisor"] := ⟨_, _, PySem.W.mg_of X G aDcleared, FDcleared, bDcleared⟩
  have FDdeterminant := fun_mk (st := (top 4)) lDdeterminant cDdeterminant kDdeterminant
  have bDdeterminant := FDdeterminant.binds (ps := ["rows"]) fun _ _ _ _ _ _ us hl => match us, hl with | [_], _ => rfl
  have mDdeterminant : At K mg "determinant" "determinant" (top 4) ["rows"] := ⟨_, _, PySem.W.mg_of X G aDdeterminant, FDdeterminant, bDdeterminant⟩
  have FDlaw_deep := fun_mk (st := (top 6)) lDlaw_deep cDlaw_deep kDlaw_deep
  have bDlaw_deep := FDlaw_deep.binds (ps := ["_law_script", "_law_k"]) fun _ _ _ _ _ _ us hl => match us, hl with | [_, _], _ => rfl
  have mDlaw_deep : At K mg "_law_deep" "_law_deep" (top 6) ["_law_script", "_law_k"] := ⟨_, _, PySem.W.mg_of X G aDlaw_deep, FDlaw_deep, bDlaw_deep⟩
  have FDlaw_whole := fun_mk (st := (top 7)) lDlaw_whole cDlaw_whole kDlaw_whole
  have bDlaw_whole := FDlaw_whole.binds (ps := ["_law_found"]) fun _ _ _ _ _ _ us hl => match us, hl with | [_], _ => rfl
  have mDlaw_whole : At K mg "_law_whole" "_law_whole" (top 7) ["_law_found"] := ⟨_, _, PySem.W.mg_of X G aDlaw_whole, FDlaw_whole, bDlaw_whole⟩
  have FDlaw_ways := fun_mk (st := (top 8)) lDlaw_ways cDlaw_ways kDlaw_ways
  have bDlaw_ways := FDlaw_ways.binds (ps := ["_law_n"]) fun _ _ _ _ _ _ us hl => match us, hl with | [_], _ => rfl
  have mDlaw_ways : At K mg "_law_ways" "_law_ways" (top 8) ["_law_n"] := ⟨_, _, PySem.W.mg_of X G aDlaw_ways, FDlaw_ways, bDlaw_ways⟩
  have FDlaw_chosen := fun_mk (st := (top 9)) lDlaw_chosen cDlaw_chosen kDlaw_chosen
  have bDlaw_chosen := FDlaw_chosen.binds (ps := ["_law_cell", "_law_k"]) fun _ _ _ _ _ _ us hl => match us, hl with | [_, _], _ => rfl
  have mDlaw_chosen : At K mg "_law_chosen" "_law_chosen" (top 9) ["_law_cell", "_law_k"] := ⟨_, _, PySem.W.mg_of X G aDlaw_chosen, FDlaw_chosen, bDlaw_chosen⟩
  have FDlaw_square := fun_mk (st := (top 10)) lDlaw_square cDlaw_square kDlaw_square
  have bDlaw_square := FDlaw_square.binds (ps := ["_law_cell", "_law_other"]) fun _ _ _ _ _ _ us hl => match us, hl with | [_, _], _ => rfl
  have mDlaw_square : At K mg "_law_square" "_law_square" (top 10) ["_law_cell", "_law_other"] := ⟨_, _, PySem.W.mg_of X G aDlaw_square, FDlaw_square, bDlaw_square⟩
  have FDlaw_due := fun_mk (st := (top 11)) lDlaw_due cDlaw_due kDlaw_due
  have bDlaw_due := FDlaw_due.binds (ps := ["_law_rows"]) fun _ _ _ _ _ _ us hl => match us, hl with | [_], _ => rfl
  have mDlaw_due : At K mg "_law_due" "_law_due" (top 11) ["_law_rows"] := ⟨_, _, PySem.W.mg_of X G aDlaw_due, FDlaw_due, bDlaw_due⟩
  have FDlaw_good := fun_mk (st := (top 12)) lDlaw_good cDlaw_good kDlaw_good
  have bDlaw_good := FDlaw_good.binds (ps := ["_law_rows"]) fun _ _ _ _ _ _ us hl => match us, hl with | [_], _ => rfl
  have mDlaw_good : At K mg "_law_good" "_law_good" (top 12) ["_law_rows"] := ⟨_, _, PySem.W.mg_of X G aDlaw_good, FDlaw_good, bDlaw_good⟩
  have FDlaw := fun_mk (st := (top 13)) lDlaw cDlaw kDlaw
  have bDlaw := FDlaw.binds (ps := ["_law_script"]) fun _ _ _ _ _ _ us hl => match us, hl with | [_], _ => rfl
  have mDlaw : At K mg "law" "law" (top 13) ["_law_script"] := ⟨_, _, PySem.W.mg_of X G aDlaw, FDlaw, bDlaw⟩
  have w_bool : mg "bool" = none := PySem.W.mg_none_of X G o_bool
  have w_int : mg "int" = none := PySem.W.mg_none_of X G o_int
  have w_isinstance : mg "isinstance" = none := PySem.W.mg_none_of X G o_isinstance
  have w_len : mg "len" = none := PySem.W.mg_none_of X G o_len
  have w_list : mg "list" = none := PySem.W.mg_none_of X G o_list
  have w_min : mg "min" = none := PySem.W.mg_none_of X G o_min
  have w_range : mg "range" = none := PySem.W.mg_none_of X G o_range
  have w_zip : mg "zip" = none := PySem.W.mg_none_of X G o_zip
  refine ⟨PySem.W.fnOf "law" "law" (defArgs (top 13)) (defBody (top 13)) (defScope (top 13)) .none kVDlaw dcDlaw pmDlaw anDlaw cdDlaw ctDlaw, fun s v => .of_eq rfl, fun base _ _ => ?_⟩
  have d_choose := dq_choose (P := l.prog) (w := w) (base := base) mDchoose w_min w_range len_choose p_choose
  have d_place_of_pivot := dq_place_of_pivot (P := l.prog) (w := w) (base := base) mDplace_of_pivot w_len w_range len_place p_place_of_pivot
  have d_cleared := dq_cleared (P := l.prog) (w := w) (base := base) mDcleared w_list w_len w_range len_cleared p_cleared
  have d_determinant := dq_determinant (P := l.prog) (w := w) (base := base) mDdeterminant w_list w_len w_range d_place_of_pivot mo_place d_cleared mo_cleared len_det p_determinant
  have d_law_deep := dq_law_deep (P := l.prog) (w := w) (base := base) mDlaw_deep w_len w_range len_deep p_law_deep
  have d_law_whole := dq_law_whole (P := l.prog) (w := w) (base := base) mDlaw_whole w_isinstance w_int w_bool len_lw p_law_whole
  have d_law_ways := dq_law_ways (P := l.prog) (w := w) (base := base) mDlaw_ways w_range w_len len_ways p_law_ways
  have d_law_chosen := dq_law_chosen (P := l.prog) (w := w) (base := base) mDlaw_chosen d_law_ways mo_ways d_choose mo_choose d_law_whole mo_lw len_chosen p_law_chosen
  have d_law_square := dq_law_square (P := l.prog) (w := w) (base := base) mDlaw_square w_range w_zip len_square p_law_square
  have d_law_due : Def l.prog w K mg base 1 "_law_due" ["_law_rows"] (low K (sp_due 0)) := due_none mDlaw_due
  have d_law_due := dq_law_due (P := l.prog) (w := w) (base := base) (c_law_due := sp_due 0) (sp := sp_due 1) mDlaw_due w_len w_range d_law_due mo_due len_due p_law_due
  have d_law_due := dq_law_due (P := l.prog) (w := w) (base := base) (c_law_due := sp_due 1) (sp := sp_due 2) mDlaw_due w_len w_range d_law_due mo_due len_due p_law_due
  have d_law_due := dq_law_due (P := l.prog) (w := w) (base := base) (c_law_due := sp_due 2) (sp := sp_due 3) mDlaw_due w_len w_range d_law_due mo_due len_due p_law_due
  have d_law_due := dq_law_due (P := l.prog) (w := w) (base := base) (c_law_due := sp_due 3) (sp := sp_due 4) mDlaw_due w_len w_range d_law_due mo_due len_due p_law_due
  have d_law_due := dq_law_due (P := l.prog) (w := w) (base := base) (c_law_due := sp_due 4) (sp := sp_due 5) mDlaw_due w_len w_range d_law_due mo_due len_due p_law_due
  have d_law_due := dq_law_due (P := l.prog) (w := w) (base := base) (c_law_due := sp_due 5) (sp := sp_due 6) mDlaw_due w_len w_range d_law_due mo_due len_due p_law_due
  have d_law_due := dq_law_due (P := l.prog) (w := w) (base := base) (c_law_due := sp_due 6) (sp := sp_due 7) mDlaw_due w_len w_range d_law_due mo_due len_due p_law_due
  have d_law_good := dq_law_good (P := l.prog) (w := w) (base := base) mDlaw_good w_list w_len d_law_due mo_due d_determinant mo_det d_law_whole mo_lw len_good p_law_good
  exact dq_law FDlaw w_len w_min w_range d_law_deep mo_deep d_law_chosen mo_chosen d_law_square mo_square d_law_good mo_good len_law p_law
theorem walk {l : PySem.W.OpenLaw} {q : Program} {loose : List Str} {XP : (Str → Option Value) → Heap → Prop} {YP : World → Heap → Prop} {d : DefRec} {K : Params → PySem.W.Frag} (hn : l.most = some 63) (hdf : d.params.defaults = [])
    (hY : ∀ (w : World) (h : Heap), YP w h → (K w.params).In h)
    (F : ∀ (w : World) (mg : Str → Option Value) (fa : Addr) (h : Heap), (K w.params).In h → h.Ns mainGlobals mg → mg d.name = some (.ref fa) →
      ∃ fd : FuncData, (∀ (s : Shared) (u : Value), BindsTo s fd ⟨[u], []⟩ [("_law_script", u)]) ∧ ∀ base : Heap, (K w.params).In base → base.Ns mainGlobals mg → FnOk l.prog w (K w.params) mg base CX0 10 fa fd ["_law_script"] ((low (K w.params) spLaw))) :
    PySem.W.WalkO q loose XP YP l.row.toRowW d [] (fun f vs => PySem.call f vs) :=
  L2.walk_of (n := 63) (k := 10) (x := "_law_script") (CX := fun _ => CX0) (sp := fun w => (low (K w.params) spLaw)) hn (by decide) hdf ⟨rfl, by decide, by decide⟩ hY F (fun _ H a ns hl hO hS => law_start hl hO hS) fun _ _ _ _ _ z => z
end Lw
open PySem PySem.W PyProof.Rows
set_option maxRecDepth 100000 in
set_option maxHeartbeats 0 in
theorem PySem.Challenge.cw_slantfloor_k63_ways_to_choose_and_determ_holds : PySem.Challenge.rw_slantfloor_k63_ways_to_choose_and_determ.Holds := by
  w_on; o_law; k_head; (case hw => w_witness2)
  k_fill
  refine Lw.walk (l := PySem.Challenge.rw_slantfloor_k63_ways_to_choose_and_determ) rfl rfl (fun w h Y => PySem.W.kIn_of Y) ?F
  case F =>
    intro w mg fa h KX G hmg
    refine' Lw.all_mk KX G hmg ?aDchoose ?lDchoose ?cDchoose ?kDchoose ?aDplace_of_pivot ?lDplace_of_pivot ?cDplace_of_pivot ?kDplace_of_pivot ?aDcleared ?lDcleared ?cDcleared ?kDcleared ?aDdeterminant ?lDdeterminant ?cDdeterminant ?kDdeterminant ?aDlaw_deep ?lDlaw_deep ?cDlaw_deep ?kDlaw_deep ?aDlaw_whole ?lDlaw_whole ?cDlaw_whole ?kDlaw_whole ?aDlaw_ways ?lDlaw_ways ?cDlaw_ways ?kDlaw_ways ?aDlaw_chosen ?lDlaw_chosen ?cDlaw_chosen ?kDlaw_chosen ?aDlaw_square ?lDlaw_square ?cDlaw_square ?kDlaw_square ?aDlaw_due ?lDlaw_due ?cDlaw_due ?kDlaw_due ?aDlaw_good ?lDlaw_good ?cDlaw_good ?kDlaw_good ?aDlaw ?lDlaw ?cDlaw ?kDlaw ?o_bool ?o_int ?o_isinstance ?o_len ?o_list ?o_min ?o_range ?o_zip
    (case aDchoose => k_is)
    (case lDchoose => k_is)
    (case cDchoose => k_is)
    (case kDchoose => k_is)
    (case aDplace_of_pivot => k_is)
    (case lDplace_of_pivot => k_is)
    (case cDplace_of_pivot => k_is)
    (case kDplace_of_pivot => k_is)
    (case aDcleared => k_is)
    (case lDcleared => k_is)
    (case cDcleared => k_is)
    (case kDcleared => k_is)
    (case aDdeterminant => k_is)
    (case lDdeterminant => k_is)
    (case cDdeterminant => k_is)
    (case kDdeterminant => k_is)
    (case aDlaw_deep => k_is)
    (case lDlaw_deep => k_is)
    (case cDlaw_deep => k_is)
    (case kDlaw_deep => k_is)
    (case aDlaw_whole => k_is)
    (case lDlaw_whole => k_is)
    (case cDlaw_whole => k_is)
    (case kDlaw_whole => k_is)
    (case aDlaw_ways => k_is)
    (case lDlaw_ways => k_is)
    (case cDlaw_ways => k_is)
    (case kDlaw_ways => k_is)
    (case aDlaw_chosen => k_is)
    (case lDlaw_chosen => k_is)
    (case cDlaw_chosen => k_is)
    (case kDlaw_chosen => k_is)
    (case aDlaw_square => k_is)
    (case lDlaw_square => k_is)
    (case cDlaw_square => k_is)
    (case kDlaw_square => k_is)
    (case aDlaw_due => k_is)
    (case lDlaw_due => k_is)
    (case cDlaw_due => k_is)
    (case kDlaw_due => k_is)
    (case aDlaw_good => k_is)
    (case lDlaw_good => k_is)
    (case cDlaw_good => k_is)
    (case kDlaw_good => k_is)
    (case aDlaw => k_is)
    (case lDlaw => k_is)
    (case cDlaw => k_is)
    (case kDlaw => k_is)
    (case o_bool => k_is)
    (case o_int => k_is)
    (case o_isinstance => k_is)
    (case o_len => k_is)
    (case o_list => k_is)
    (case o_min => k_is)
    (case o_range => k_is)
    (case o_zip => k_is)

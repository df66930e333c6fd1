import PyProof.Rows.All
import Wide.All
import OpenK.AllK
import Wide.FinOn
import Lean
import PyProof.EqAt
import PyProof.EqKinds
import PyProof.TupleCall
import PyProof.NeKinds
import PyProof.NeData
import PyProof.EqLayable
import PyProof.ZipIter
import PyProof.EnumMake
import KE.LcSums
import PyProof.CompFree
import PyProof.TupleOfSeq
import PyProof.ListRange
import KE.KSortTup
import PyProof.Rows.TupAdd
import PyProof.Rows.Range3
import PyProof.StrWalks
import PyProof.SliceStr2
import PyProof.StrBlock2
import PyProof.StrLaws
import PyProof.StrCalls
import PyProof.CallStr
import KE.KIntText
import PySem.Challenge.RW_slantfloor_k91_numbers_read
set_option Elab.async false
set_option linter.all false
set_option maxRecDepth 100000
namespace L2
open PySem PySem.Spec PyProof.Rows
abbrev Key := Sum Int Str
def keyIs : Key → Value → Bool
  | .inl k, v => Value.isInt k v
  | .inr x, v => Value.isStrOf x v
def keyH (w : World) : Key → Int
  | .inl k => hashInt k
  | .inr x => hashStr w x
theorem keyIs_shape : ∀ {k : Key} {v : Value}, keyIs k v = true → (∃ i t, k = Sum.inl i ∧ v = Value.int i t) ∨ (∃ x t, k = Sum.inr x ∧ v = Value.str x t)
  | .inl i, v, h => by
    obtain ⟨t, e⟩ := Value.isInt_shape (k := i) (v := v) h
    exact .inl ⟨i, t, rfl, e⟩
  | .inr x, v, h => by
    obtain ⟨t, e⟩ := Value.isStrOf_shape (x := x) (v := v) h
    exact .inr ⟨x, t, rfl, e⟩
theorem keyIs_int (i : Int) (t : Tok) : keyIs (.inl i) (.int i t) = true := by simp [keyIs, Value.isInt]
theorem keyIs_str (x : Str) (t : Tok) : keyIs (.inr x) (.str x t) = true := by simp [keyIs, Value.isStrOf]
theorem key_ll (a b : Int) : decide ((Sum.inl a : Key) = Sum.inl b) = (a == b) := by
  by_cases e : a = b
  · subst e; simp
  · have h : ¬ (Sum.inl a : Key) = Sum.inl b := fun q => e (Sum.inl.inj q)
    rw [decide_eq_false h]
    exact (beq_eq_false_iff_ne.mpr e).symm
theorem key_rr (a b : Str) : decide ((Sum.inr a : Key) = Sum.inr b) = decide (a = b) := by
  by_cases e : a = b
  · subst e; simp
  · have h : ¬ (Sum.inr a : Key) = Sum.inr b := fun q => e (Sum.inr.inj q)
    rw [decide_eq_false h, decide_eq_false e]
theorem key_lr (a : Int) (b : Str) : decide ((Sum.inl a : Key) = Sum.inr b) = false := decide_eq_false (fun q => nomatch q)
theorem key_rl (a : Str) (b : Int) : decide ((Sum.inr a : Key) = Sum.inl b) = false := decide_eq_false (fun q => nomatch q)
def mixKind (prog : Program) (w : World) : PySem.KeyKind prog w Key where
  is := keyIs
  hash := keyH w
  inj := fun v a b ha hb => by
    rcases keyIs_shape ha with ⟨i, t, rfl, rfl⟩ | ⟨x, t, rfl, rfl⟩
    · rcases keyIs_shape hb with ⟨j, u, rfl, e⟩ | ⟨y, u, rfl, e⟩
      · injection e with e1 _; rw [e1]
      · exact nomatch e
    · rcases keyIs_shape hb with ⟨j, u, rfl, e⟩ | ⟨y, u, rfl, e⟩
      · exact nomatch e
      · injection e with e1 _; rw [e1]
  byValue := fun k v h => by
    rcases keyIs_shape h with ⟨i, t, rfl, rfl⟩ | ⟨x, t, rfl, rfl⟩ <;> rfl
  pyHash := fun hv h => by
    rcases keyIs_shape hv with ⟨i, t, rfl, rfl⟩ | ⟨x, t, rfl, rfl⟩
    · exact wpAny_pyHash_int h
    · exact wpAny_pyHash_str h
  eqBool := fun hu hv h => by
    rcases keyIs_shape hu with ⟨i, t, rfl, rfl⟩ | ⟨x, t, rfl, rfl⟩
    · rcases keyIs_shape hv with ⟨j, u, rfl, rfl⟩ | ⟨y, u, rfl, rfl⟩
      · rw [key_ll] at h; exact wpAny_eqBool_int h
      · rw [key_lr] at h; exact SeqAt.EqAt.int_str i t y u _ _ _ _ h
    · rcases keyIs_shape hv with ⟨j, u, rfl, rfl⟩ | ⟨y, u, rfl, rfl⟩
      · rw [key_rl] at h; exact SeqAt.EqAt.str_int x t j u _ _ _ _ h
      · rw [key_rr] at h; exact wpAny_eqBool_str h
  «strs» := fun k x t v h => by
    rcases keyIs_shape h with ⟨i, u, rfl, e⟩ | ⟨y, u, rfl, e⟩
    · exact nomatch e
    · injection e with e1 _
      subst e1
      cases v <;> rfl
theorem mixKind_int (prog : Program) (w : World) (i : Int) (t : Tok) : (mixKind prog w).is (.inl i) (.int i t) = true := keyIs_int i t
theorem mixKind_str (prog : Program) (w : World) (x : Str) (t : Tok) : (mixKind prog w).is (.inr x) (.str x t) = true := keyIs_str x t
end L2
namespace L2
open PySem PySem.Spec PyProof.Rows
inductive V where
  | non | bl (b : Bool) | int (i : Int) | str (x : Str) | byt (b : Array UInt8) | flt (b : UInt64) | ref (a : Addr) | ty (n : String)
  deriving DecidableEq
def RelV : V → Value → Prop
  | .non, u => u = Value.none
  | .bl b, u => u = Value.bool b
  | .int i, u => ∃ t, u = Value.int i t
  | .str x, u => ∃ t, u = Value.str x t
  | .byt b, u => ∃ t, u = Value.bytes b t
  | .flt b, u => ∃ t, u = Value.float b t
  | .ref a, u => u = Value.ref a
  | .ty n, u => u = Value.type n
abbrev Vals : List V → List Value → Prop := Paired RelV
theorem Vals.length {xs : List V} {us : List Value} (r : Vals xs us) : xs.length = us.length := Paired.length r
theorem Vals.get : ∀ {xs : List V} {us : List Value} {i : Nat} {x : V}, Vals xs us → xs[i]? = some x → ∃ u, us[i]? = some u ∧ RelV x u
  | _, _, _, _, .nil, e => by simp at e
  | _, _, 0, _, .cons r _, e => by simp at e; subst e; exact ⟨_, rfl, r⟩
  | _, _, i + 1, x, .cons _ t, e => by
    obtain ⟨u, h1, h2⟩ := Vals.get (i := i) (x := x) t (by simpa using e)
    exact ⟨u, by simpa using h1, h2⟩
theorem Vals.append : ∀ {xs ys : List V} {us ws : List Value}, Vals xs us → Vals ys ws → Vals (xs ++ ys) (us ++ ws)
  | _, _, _, _, .nil, s => s
  | _, _, _, _, .cons r t, s => .cons r (Vals.append t s)
def RelO : Option V → Option Value → Prop
  | some v, some u => RelV v u
  | none, none => True
  | _, _ => False
def KV {κ : Type} : List (κ × V) → List (κ × Value) → Prop := Paired fun (p : κ × V) (q : κ × Value) => p.1 = q.1 ∧ RelV p.2 q.2
def kV : Key → V
  | .inl i => .int i
  | .inr x => .str x
inductive HO where
  /-- a list -/
  | lst (xs : List V)
  /-- a tuple (never changes) -/
  | tup (xs : List V)
  /-- a dict whose keys are ints and texts; one whose keys are tuples of ints and texts (the empty one is both) -/
  | dK (kvs : List (Key × V)) | dT (kvs : List (List Key × V))
  /-- a set of ints: its members, its size -/
  | set (S : Int → Bool) (n : Nat)
  /-- an instance of the class at C, its dict at dx, its attributes -/
  | ins (C dx : Addr) (fs : List (Str × V))
  /-- the dict of the instance at x -/
  | own (x : Addr)
  /-- the dict of an exception -/
  | xd (fs : List (Str × V))
  /-- a bound method, f of x -/
  | met (f x : Addr)
  /-- a range object lo, lo + 1, .. below hi -/
  | rng (lo hi : Int)
  /-- a thing that is known to the object (the script; a dict while a loop walks it): read, never written while it is so -/
  | frz (o : Obj) (u : HO)
  /-- a code object's table -/
  | tbl (ps : Array Value)
  /-- any other thing, by what is true of its one object (a def of one's own: SetO a S n := HO.ext fun h => ..) -/
  | ext (φ : Heap → Prop)
abbrev Hp := Addr → Option HO
def upd (H : Hp) (a : Addr) (o : HO) : Hp := fun b => if b = a then some o else H b
theorem upd_same {H : Hp} {a : Addr} {o : HO} : upd H a o a = some o := by unfold upd; rw [if_pos rfl]
theorem upd_ne {H : Hp} {a b : Addr} {o : HO} (h : b ≠ a) : upd H a o b = H b := by unfold upd; rw [if_neg h]
theorem ne_of_none {H : Hp} {a b : Addr} {o : HO} (h : H a = some o) (h' : H b = none) : a ≠ b := by
  intro e; subst e; rw [h] at h'; cases h'
section
variable (P : Program) (w : World)
def ObjOk (H : Hp) (h : Heap) (a : Addr) : HO → Prop
  | .lst xs => xs.length ≤ sizeLine ∧ ∃ (its : List Value) (n : Nat), Vals xs its ∧ h.get? a = some { cls := .type "list", data := .seq its.toArray n }
  | .tup xs => xs.length ≤ sizeLine ∧ ∃ its : List Value, Vals xs its ∧ IsTup h a its.toArray
  | .dK kvs => kvs.length ≤ sizeLine ∧ (a == sysModules) = false ∧ ∃ vs, KV kvs vs ∧ h.DictOf (mixKind P w) a vs
  | .dT kvs => kvs.length ≤ sizeLine ∧ (a == sysModules) = false ∧ ∃ xs : List (List Key × Addr × Value),
      Paired (fun (p : List Key × V) (q : List Key × Addr × Value) => p.1 = q.1 ∧ H q.2.1 = some (.tup (p.1.map kV)) ∧ RelV p.2 q.2.2) kvs xs ∧
      ∃ o es ep, h.get? a = some o ∧ o.ExactDict ∧ o.data = .dict es ep ∧ es.toList = xs.map (entryOfKey (tupleKind (mixKind P w))) ∧ (xs.map (·.1)).Nodup
  | .set S n => h.SetOf (intKind P w) a S n
  | .ins C dx fs => H dx = some (.own a) ∧ fs.length ≤ 1000 ∧ dx ≠ a ∧ h.get? a = some (PySem.W.instObj C dx) ∧
      ∃ mA, h.Ns1 dx mA ∧ (∀ f, RelO (fs.lookup f) (mA f)) ∧ PySem.Within mA (fs.map (·.1))
  | .own _ => ∃ o, h.get? a = some o
  | .xd fs => ∃ mA, h.Ns1 a mA ∧ ∀ f, RelO (fs.lookup f) (mA f)
  | .rng lo hi => ∃ t u v, h.get? a = some { cls := .type "range", data := .fields #[.int lo t, .int hi u, .int 1 v] }
  | .frz o u => h.get? a = some o ∧ ObjOk H h a u
  | .tbl ps => h.get? a = some { cls := .none, data := .fields ps }
  | .met f x => h.get? a = some (PySem.W.methodObj (.ref f) (.ref x))
  | .ext φ => φ h ∧ (∃ o, h.get? a = some o) ∧ ∀ h1 h2 : Heap, φ h1 → (∀ o, h1.get? a = some o → h2.get? a = some o) → φ h2
def HOk (H : Hp) (h : Heap) : Prop := ∀ a o, H a = some o → ObjOk P w H h a o
end
section
variable {P : Program} {w : World} {H H' : Hp} {h h' : Heap} {a : Addr} {o : HO}
theorem ObjOk.lt (x : ObjOk P w H h a o) : a < h.objs.size := by
  cases o with
  | lst xs => obtain ⟨_, _, _, _, e⟩ := x; exact Heap.lt_size e
  | tup xs => obtain ⟨_, _, _, p⟩ := x; exact p.lt
  | dK kvs => obtain ⟨_, _, _, _, o, _, _, e, _⟩ := x; exact Heap.lt_size e
  | dT kvs => obtain ⟨_, _, _, _, o, _, _, e, _⟩ := x; exact Heap.lt_size e
  | set S n => obtain ⟨o, _, _, _, e, _⟩ := x; exact Heap.lt_size e
  | ins C dx fs => obtain ⟨_, _, _, e, _⟩ := x; exact Heap.lt_size e
  | own y => obtain ⟨_, e⟩ := x; exact Heap.lt_size e
  | xd fs => obtain ⟨_, ⟨_, _, _, e, _⟩, _⟩ := x; exact Heap.lt_size e
  | rng lo hi => obtain ⟨_, _, _, e⟩ := x; exact Heap.lt_size e
  | frz ob u => obtain ⟨e, _⟩ := x; exact Heap.lt_size e
  | tbl ps => exact Heap.lt_size (show h.get? a = some _ from x)
  | met f y => exact Heap.lt_size (show h.get? a = some _ from x)
  | ext φ => obtain ⟨_, ⟨_, e⟩, _⟩ := x; exact Heap.lt_size e
theorem Paired.mapP {α β : Type} {F G : α → β → Prop} : ∀ {l₁ : List α} {l₂ : List β}, Paired F l₁ l₂ → (∀ a b, F a b → G a b) → Paired G l₁ l₂
  | _, _, .nil, _ => .nil
  | _, _, .cons r t, f => .cons (f _ _ r) (Paired.mapP t f)
theorem ObjOk.stay (x : ObjOk P w H h a o) (k : ∀ b u, (b = a ∨ H b = some (.own a)) → h.get? b = some u → h'.get? b = some u)
    (ho : ∀ b, H b = some (.own a) → H' b = some (.own a)) (ht : ∀ b xs, H b = some (.tup xs) → H' b = some (.tup xs)) : ObjOk P w H' h' a o := by
  induction o with
  | lst xs => obtain ⟨z, its, n, r, e⟩ := x; exact ⟨z, its, n, r, k _ _ (.inl rfl) e⟩
  | tup xs => obtain ⟨z, its, r, ob, e, c⟩ := x; exact ⟨z, its, r, ob, k _ _ (.inl rfl) e, c⟩
  | dK kvs => obtain ⟨z, y, vs, r, ob, es, ep, e, c⟩ := x; exact ⟨z, y, vs, r, ob, es, ep, k _ _ (.inl rfl) e, c⟩
  | dT kvs =>
    obtain ⟨z, y, xs, r, ob, es, ep, e, c⟩ := x
    exact ⟨z, y, xs, Paired.mapP r fun p q z => ⟨z.1, ht _ _ z.2.1, z.2.2⟩, ob, es, ep, k _ _ (.inl rfl) e, c⟩
  | set S n => obtain ⟨ob, es, ep, t, e, c⟩ := x; exact ⟨ob, es, ep, t, k _ _ (.inl rfl) e, c⟩
  | ins C dx fs =>
    obtain ⟨d, z, ne, e, mA, ⟨od, es, ep, e2, c⟩, r⟩ := x
    exact ⟨ho _ d, z, ne, k _ _ (.inl rfl) e, mA, ⟨od, es, ep, k _ _ (.inr d) e2, c⟩, r⟩
  | own y => obtain ⟨ob, e⟩ := x; exact ⟨ob, k _ _ (.inl rfl) e⟩
  | xd fs => obtain ⟨mA, ⟨od, es, ep, e, c⟩, r⟩ := x; exact ⟨mA, ⟨od, es, ep, k _ _ (.inl rfl) e, c⟩, r⟩
  | rng lo hi => obtain ⟨t, u, v, e⟩ := x; exact ⟨t, u, v, k _ _ (.inl rfl) e⟩
  | frz ob u ih => obtain ⟨e, q⟩ := x; exact ⟨k _ _ (.inl rfl) e, ih q⟩
  | tbl ps =>
    have e : h.get? a = some { cls := .none, data := .fields ps } := x
    show h'.get? a = some { cls := .none, data := .fields ps }
    exact k a _ (.inl rfl) e
  | met f y =>
    have e : h.get? a = some (PySem.W.methodObj (.ref f) (.ref y)) := x
    show h'.get? a = some (PySem.W.methodObj (.ref f) (.ref y))
    exact k a _ (.inl rfl) e
  | ext φ => obtain ⟨p, ⟨o, e⟩, st⟩ := x; exact ⟨st _ _ p fun o q => k _ _ (.inl rfl) q, ⟨o, k _ _ (.inl rfl) e⟩, st⟩
theorem HOk.lt (x : HOk P w H h) (e : H a = some o) : a < h.objs.size := (x a o e).lt
theorem HOk.fresh (x : HOk P w H h) (e : h.objs.size ≤ a) : H a = none := by
  cases q : H a with
  | none => rfl
  | some u => exact absurd (Nat.lt_of_lt_of_le (x.lt q) e) (Nat.lt_irrefl _)
theorem HOk.kept (x : HOk P w H h) (k : ∀ b u, h.get? b = some u → h'.get? b = some u) : HOk P w H h' := fun a o e =>
  (x a o e).stay (fun b u _ q => k b u q) (fun _ q => q) fun _ _ q => q
theorem HOk.laid (x : HOk P w H h) (k : ∀ b u, h.get? b = some u → h'.get? b = some u) (hp : h.objs.size ≤ a) (new : ObjOk P w (upd H a o) h' a o) : HOk P w (upd H a o) h' := fun b u e => by
  have hn := x.fresh hp
  by_cases hb : b = a
  · subst hb; rw [upd_same] at e; cases e; exact new
  · rw [upd_ne hb] at e
    exact (x b u e).stay (fun c v _ q => k c v q) (fun c q => by rw [upd_ne (ne_of_none q hn)]; exact q) fun c xs q => by rw [upd_ne (ne_of_none q hn)]; exact q
end
def Rd (H : Hp) (a : Addr) (u : HO) : Prop := H a = some u ∨ ∃ o, H a = some (.frz o u)
theorem Rd.ok {P : Program} {w : World} {H : Hp} {h : Heap} {a : Addr} {u : HO} (r : Rd H a u) (x : HOk P w H h) : ObjOk P w H h a u := by
  rcases r with r | ⟨o, r⟩
  · exact x a u r
  · obtain ⟨_, q⟩ := x a _ r
    exact q
def Mut : Option HO → Prop
  | some (.lst _) => True
  | some (.dK _) => True
  | some (.dT _) => True
  | some (.set _ _) => True
  | some (.ins _ _ _) => True
  | some (.ext _) => True
  | _ => False
section
variable {P : Program} {w : World} {H : Hp} {h h' : Heap} {x e : Addr} {o' : HO}
theorem HOk.write (ok : HOk P w H h) (mu : Mut (H x)) (he : e = x ∨ H e = some (.own x)) (k : ∀ b u, b ≠ e → h.get? b = some u → h'.get? b = some u) (heo : ∃ u, h'.get? e = some u)
    (new : ObjOk P w (upd H x o') h' x o') : HOk P w (upd H x o') h' := fun b u q => by
  have nown : ∀ c y, H c = some (.own y) → c ≠ x := fun c y r z => by subst z; rw [r] at mu; exact mu
  have ntup : ∀ c xs, H c = some (.tup xs) → c ≠ x := fun c xs r z => by subst z; rw [r] at mu; exact mu
  by_cases hb : b = x
  · subst hb; rw [upd_same] at q; cases q; exact new
  · rw [upd_ne hb] at q
    by_cases hbe : b = e
    · have q' : H b = some (.own x) := by
        rcases he with z | z
        · exact absurd (hbe.trans z) hb
        · rw [hbe]; exact z
      rw [q] at q'; cases q'
      obtain ⟨v, hv⟩ := heo
      exact ⟨v, by rw [hbe]; exact hv⟩
    · refine (ok b u q).stay (fun c v hc r => k c v ?_ r) (fun c r => by rw [upd_ne (nown c b r)]; exact r) fun c xs r => by rw [upd_ne (ntup c xs r)]; exact r
      rcases hc with rfl | hc
      · exact hbe
      · rintro rfl
        rcases he with z | z
        · exact nown c b hc z
        · rw [hc] at z; cases z; exact hb rfl
end
structure Un (fs ex : List Addr) (H H' : Hp) (h h' : Heap) : Prop where
  keep : ∀ b o, h.get? b = some o → H b = none → b ∉ fs → b ∉ ex → h'.get? b = some o
  slot : ∀ b o, h.get? b = some o → H b = none → b ∈ fs → b ∉ ex → ∃ sl, h'.get? b = some { o with slots := sl }
  free : ∀ b o, h.get? b = some o → H b = none → b ∉ ex → H' b = none
  there : ∀ b o, h.get? b = some o → b ∉ ex → ∃ o', h'.get? b = some o'
  tups : ∀ b xs, H b = some (.tup xs) → H' b = some (.tup xs)
  frzs : ∀ b o u, H b = some (.frz o u) → H' b = some (.frz o u)
  tbls : ∀ b ps, H b = some (.tbl ps) → ∃ more, H' b = some (.tbl (ps ++ more))
section
variable {fs fs' ex ex' : List Addr} {H H1 H2 : Hp} {h h1 h2 h' : Heap} {a x e : Addr} {o : HO}
theorem Un.any (u : Un fs ex H H1 h h1) {b : Addr} {ob : Obj} (q : h.get? b = some ob) (n : H b = none) (hx : b ∉ ex) : ∃ sl, h1.get? b = some { ob with slots := sl } := by
  by_cases hb : b ∈ fs
  · exact u.slot b ob q n hb hx
  · exact ⟨ob.slots, u.keep b ob q n hb hx⟩
theorem Un.kept (k : ∀ b u, h.get? b = some u → h'.get? b = some u) : Un fs ex H H h h' :=
  ⟨fun b ob q _ _ _ => k b ob q, fun b ob q _ _ _ => ⟨ob.slots, k b ob q⟩, fun _ _ _ n _ => n, fun b ob q _ => ⟨ob, k b ob q⟩, fun _ _ q => q, fun _ _ _ q => q, fun _ ps q => ⟨#[], by rw [q]; simp⟩⟩
theorem Un.refl : Un fs ex H H h h := Un.kept fun _ _ q => q
theorem Un.laid (k : ∀ b u, h.get? b = some u → h'.get? b = some u) (hp : h.objs.size ≤ a) (hn : H a = none) : Un fs ex H (upd H a o) h h' where
  keep := fun b u q _ _ _ => k b u q
  slot := fun b u q _ _ _ => ⟨u.slots, k b u q⟩
  free := fun b u q n _ => by rw [upd_ne (Nat.ne_of_lt (Nat.lt_of_lt_of_le (Heap.lt_size q) hp))]; exact n
  there := fun b u q _ => ⟨u, k b u q⟩
  tups := fun b xs q => by rw [upd_ne (ne_of_none q hn)]; exact q
  frzs := fun b u xs q => by rw [upd_ne (ne_of_none q hn)]; exact q
  tbls := fun b ps q => ⟨#[], by rw [upd_ne (ne_of_none q hn), q]; simp⟩
theorem Un.write (mu : Mut (H x)) (he : e = x ∨ H e = some (.own x)) (k : ∀ b u, b ≠ e → h.get? b = some u → h'.get? b = some u) (heo : ∃ u, h'.get? e = some u) : Un fs ex H (upd H x o) h h' := by
  have hx : ∀ b, H b = none → b ≠ x := fun b n z => by subst z; rw [n] at mu; exact mu
  have hb : ∀ b, H b = none → b ≠ e := fun b n z => by
    subst z
    rcases he with r | r
    · exact hx b n r
    · rw [n] at r; cases r
  have hm : ∀ b u, H b = some u → ¬ Mut (some u) → b ≠ x := fun b u q nm z => by subst z; rw [q] at mu; exact nm mu
  refine ⟨fun b u q n _ _ => k b u (hb b n) q, fun b u q n _ _ => ⟨u.slots, k b u (hb b n) q⟩, fun b u q n _ => by rw [upd_ne (hx b n)]; exact n, fun b u q _ => ?_,
    fun b xs q => by rw [upd_ne (hm b _ q fun z => z)]; exact q, fun b u xs q => by rw [upd_ne (hm b _ q fun z => z)]; exact q, fun b ps q => ⟨#[], by rw [upd_ne (hm b _ q fun z => z), q]; simp⟩⟩
  by_cases hbe : b = e
  · subst hbe; exact heo
  · exact ⟨u, k b u hbe q⟩
end
def trk (h : Heap) (H : Hp) : List Addr := (List.range h.objs.size).filter fun a => (H a).isSome
def hidT (h : Heap) (H : Hp) : Heap := PySem.W.hideAll h (trk h H)
theorem hidT_size (h : Heap) (H : Hp) : (hidT h H).objs.size = h.objs.size := PySem.W.hideAll_size _ _
theorem hidT_get {h : Heap} {H : Hp} {b : Addr} {o : Obj} (e : h.get? b = some o) (n : H b = none) : (hidT h H).get? b = some o :=
  PySem.W.hideAll_get _ e fun hm => by
    have q : (H b).isSome = true := (List.mem_filter.mp hm).2
    rw [n] at q; simp at q
theorem of_hidT {h : Heap} {H : Hp} {b : Addr} {o : Obj} (e : (hidT h H).get? b = some o) : h.get? b = some o ∧ H b = none := by
  have e' : h.get? b = some o := PySem.W.of_hideAll (trk h H) e
  refine ⟨e', ?_⟩
  cases q : H b with
  | none => rfl
  | some x =>
    have hm : b ∈ trk h H := List.mem_filter.mpr ⟨List.mem_range.mpr (Heap.lt_size e'), by simp [q]⟩
    have z : (hidT h H).get? b = none := PySem.W.hideAll_none (trk h H) hm
    rw [z] at e; cases e
end L2
namespace L2
open PySem PySem.Spec PyProof.Rows
structure Mod (K : PySem.W.Frag) (mg : Str → Option Value) (base : Heap) : Prop where
  kin : K.In base
  glob : base.Ns mainGlobals mg
  blt : ∃ mb, base.Ns builtinsNs mb ∧ ∀ x : Str, x ≠ "__name__" → mb x = bootBuiltins x
  nolimit : base.NoLimit
/-- the context: a def's body (or a comprehension's block) running. base: fixed through the whole law; s₀, H₀: the entry; outer: the frames whose slots others may change (a def's callers); stack: all frames that run;
   ex: iterators that were made ahead of the entry and are walked here (a comprehension's); fn: the names whose cells were made at the entry (a def: all; a comprehension's block: its own); calm: not within an except suite; pn: pins that every state bears; xe: what is wanted of an exception that leaves the code -/
structure Cx where
  prog : Program
  w : World
  K : PySem.W.Frag
  mg : Str → Option Value
  base : Heap
  A : Around
  N : List Str
  s₀ : Shared
  H₀ : Hp
  env : Env
  outer : List Env
  stack : List Env
  ex : List Addr
  fn : Str → Bool
  calm : Bool
  pn : List (Addr × Obj)
  xe : Value → Shared → Prop
def frs (l : List Env) : List Addr := l.filterMap (·.frame)
abbrev Cx.fs (X : Cx) : List Addr := frs X.outer
def Vis (sc : Scope) (x : Str) : Prop := sc.names.lookup x = some .local ∨ sc.names.lookup x = some .cell ∨ sc.names.lookup x = some .free
def Loc (sc : Scope) (x : Str) : Prop := sc.names.lookup x = some .local ∨ sc.names.lookup x = some .cell
def Look (env : Env) (h : Heap) (m : Str → Option Value) (x : Str) (u : Value) : Prop :=
  (env.kindOf x = some .local ∧ m x = some u) ∨ ((env.kindOf x = some .cell ∨ env.kindOf x = some .free) ∧ ∃ c, env.cells.lookup x = some c ∧ h.IsCell c (some u))
structure Cx.Ok (X : Cx) : Prop where
  mod : Mod X.K X.mg X.base
  kind : X.env.scope.kind = .function
  glob : X.env.globals = mainGlobals
  blt : X.env.builtins = builtinsNs
  above : X.s₀.heap.objs.size ≤ X.env.locals
  inj : ∀ x y c, X.env.cells.lookup x = some c → X.env.cells.lookup y = some c → x = y
  has : ∀ x, (X.env.kindOf x = some .cell ∨ X.env.kindOf x = some .free) → ∃ c, X.env.cells.lookup x = some c
  cab : ∀ x c, X.fn x = true → X.env.cells.lookup x = some c → X.s₀.heap.objs.size ≤ c
  hd : X.calm = true → X.A.handled = none
  frames : X.A.frames = some X.stack
  stk : X.stack = X.outer ∨ (X.stack = X.env :: X.outer ∧ X.env.frame = some X.env.locals)
  exf : ∀ b ∈ X.ex, b ≠ X.env.locals ∧ ∀ x c, X.env.cells.lookup x = some c → c ≠ b
  bs : ∀ b o, X.base.get? b = some o → X.s₀.heap.get? b = some o ∧ X.H₀ b = none
  bsz : X.base.objs.size ≤ X.s₀.heap.objs.size
  noex : ∀ b o, X.base.get? b = some o → b ∉ X.ex
  exfs : ∀ b ∈ X.ex, b ∉ X.fs
  funs : X.s₀.heap.FunFrames X.base X.outer
  frf : ∀ b ∈ X.fs, X.H₀ b = none
structure Inv (X : Cx) (pins : List (Addr × Obj)) (σ : List (Option V)) (H : Hp) (s : Shared) : Prop where
  ok : X.Ok
  os : s.os = X.s₀.os
  bare : AllBare s.gens
  base : Un X.fs X.ex X.H₀ H X.s₀.heap s.heap
  loc : ∃ m, s.heap.Ns X.env.locals m ∧ ∀ (i : Nat) (x : Str) (v : V), X.N[i]? = some x → σ[i]? = some (some v) → Vis X.env.scope x → ∃ u, RelV v u ∧ Look X.env s.heap m x u
  cell : ∀ x c, X.env.cells.lookup x = some c → ∃ v, s.heap.IsCell c v
  free : H X.env.locals = none
  freeC : ∀ x c, X.env.cells.lookup x = some c → H c = none
  pin : ∀ p ∈ X.pn ++ pins, s.heap.get? p.1 = some p.2 ∧ H p.1 = none ∧ p.1 ≠ X.env.locals ∧ p.1 ∉ X.fs ∧ ∀ v, p.2.data ≠ .cell v
  hok : HOk X.prog X.w H s.heap
  len : σ.length = X.N.length
section
variable {X : Cx} {pins : List (Addr × Obj)} {σ : List (Option V)} {H H' : Hp} {s : Shared} {h' : Heap}
theorem Cx.Ok.nofr (ok : X.Ok) {b : Addr} {o : Obj} (e : X.base.get? b = some o) : b ∉ X.fs := fun hb => by
  have := (ok.funs.mem hb).1
  rw [e] at this; cases this
theorem Inv.bs (I : Inv X pins σ H s) : ∀ b o, X.base.get? b = some o → s.heap.get? b = some o ∧ H b = none := fun b o e =>
  ⟨I.base.keep b o (I.ok.bs b o e).1 (I.ok.bs b o e).2 (I.ok.nofr e) (I.ok.noex b o e), I.base.free b o (I.ok.bs b o e).1 (I.ok.bs b o e).2 (I.ok.noex b o e)⟩
theorem Inv.bk (I : Inv X pins σ H s) : ∀ b o, X.base.get? b = some o → s.heap.get? b = some o := fun b o e => (I.bs b o e).1
theorem Inv.mod (I : Inv X pins σ H s) : Mod X.K X.mg X.base := I.ok.mod
theorem Inv.kIn (I : Inv X pins σ H s) : X.K.In s.heap := I.ok.mod.kin.keeps I.bk
theorem Inv.lt (I : Inv X pins σ H s) : X.env.locals < s.heap.objs.size := let ⟨_, hn, _⟩ := I.loc; hn.lt
theorem Inv.sz (I : Inv X pins σ H s) : X.s₀.heap.objs.size ≤ s.heap.objs.size := Nat.le_trans I.ok.above (Nat.le_of_lt I.lt)
theorem Inv.nofs (I : Inv X pins σ H s) {a : Addr} (h : s.heap.objs.size ≤ a) : a ∉ X.fs := fun hb => by
  obtain ⟨_, o, ho, _⟩ := I.ok.funs.mem hb
  exact absurd (Nat.lt_of_lt_of_le (Heap.lt_size ho) (Nat.le_trans I.sz h)) (Nat.lt_irrefl _)
theorem Inv.cne (I : Inv X pins σ H s) : ∀ x c, X.env.cells.lookup x = some c → c ≠ X.env.locals := fun x c e z => by
  obtain ⟨v, o, ho, hd⟩ := I.cell x c e
  obtain ⟨m, ⟨o', es, ep, ho', hd', _⟩, _⟩ := I.loc
  rw [z, ho'] at ho; cases ho; rw [hd'] at hd; cases hd
theorem Inv.funs (I : Inv X pins σ H s) : s.heap.FunFrames X.base X.outer := by
  have all : ∀ (l : List Env), (∀ b ∈ frs l, b ∈ X.fs) → X.s₀.heap.FunFrames X.base l → s.heap.FunFrames X.base l := by
    intro l
    induction l with
    | nil => intro _ _; trivial
    | cons env r ih =>
      intro hs hl
      obtain ⟨hk, ⟨L, o, hf, hn, ho, hd⟩, hr⟩ := hl
      have hL : L ∈ X.fs := hs L (by unfold frs; rw [List.filterMap_cons, hf]; exact List.mem_cons_self)
      obtain ⟨sl, e⟩ := I.base.slot L o ho (I.ok.frf L hL) hL fun z => I.ok.exfs L z hL
      exact ⟨hk, ⟨L, _, hf, hn, e, hd⟩, ih (fun b hb => hs b (by unfold frs; rw [List.filterMap_cons, hf]; exact List.mem_cons_of_mem _ hb)) hr⟩
  exact all X.outer (fun _ hb => hb) I.ok.funs
theorem Inv.stack (I : Inv X pins σ H s) : s.heap.FunFrames X.base X.stack := by
  rcases I.ok.stk with e | ⟨e, hf⟩
  · rw [e]; exact I.funs
  · rw [e]
    obtain ⟨m, hn, _⟩ := I.loc
    refine .cons (by rw [I.ok.kind]; decide) hf hn ?_ I.funs
    exact Heap.get?_none_of_le (Nat.le_trans I.ok.bsz I.ok.above)
theorem Inv.stkSub (I : Inv X pins σ H s) : ∀ b ∈ frs X.stack, b ∈ X.env.locals :: X.fs := fun b hb => by
  rcases I.ok.stk with e | ⟨e, hf⟩
  · rw [e] at hb; exact List.mem_cons_of_mem _ hb
  · rw [e] at hb
    unfold frs at hb
    rw [List.filterMap_cons, hf] at hb
    exact hb
theorem Inv.stkFree (I : Inv X pins σ H s) : ∀ b ∈ frs X.stack, H b = none := fun b hb => by
  rcases List.mem_cons.mp (I.stkSub b hb) with e | hb
  · rw [e]; exact I.free
  · obtain ⟨_, o, ho, _⟩ := I.ok.funs.mem hb
    exact I.base.free b o ho (I.ok.frf b hb) fun z => I.ok.exfs b z hb
theorem Inv.step {g' : Array GenState} {t' : Nat} {d' : Drawn} {ch : List Addr} (I : Inv X pins σ H s)
    (hch : ∀ b ∈ ch, (b ∈ X.ex ∨ X.s₀.heap.objs.size ≤ b) ∧ b ≠ X.env.locals ∧ (∀ x c, X.env.cells.lookup x = some c → c ≠ b) ∧ ∀ p ∈ X.pn ++ pins, p.1 ≠ b)
    (keep : ∀ b o, b ≠ X.env.locals → b ∉ X.fs → b ∉ ch → s.heap.get? b = some o → H b = none → h'.get? b = some o)
    (slot : ∀ b o, b ≠ X.env.locals → b ∈ X.fs → b ∉ ch → s.heap.get? b = some o → H b = none → ∃ sl, h'.get? b = some { o with slots := sl }) (free : ∀ b o, b ∉ ch → s.heap.get? b = some o → H b = none → H' b = none)
    (there : ∀ b o, b ∉ ch → s.heap.get? b = some o → ∃ o', h'.get? b = some o')
    (tups : ∀ b xs, H b = some (.tup xs) → H' b = some (.tup xs)) (frzs : ∀ b o u, H b = some (.frz o u) → H' b = some (.frz o u)) (tbls : ∀ b ps, H b = some (.tbl ps) → ∃ more, H' b = some (.tbl (ps ++ more)))
    (ns : ∀ m, s.heap.Ns X.env.locals m → h'.Ns X.env.locals m) (hok : HOk X.prog X.w H' h') (hg : AllBare g') :
    Inv X pins σ H' { s with heap := h', gens := g', drawn := d', toks := t' } := by
  have neL : ∀ b o, X.s₀.heap.get? b = some o → b ≠ X.env.locals := fun b o e => Nat.ne_of_lt (Nat.lt_of_lt_of_le (Heap.lt_size e) I.ok.above)
  have neC : ∀ b o, X.s₀.heap.get? b = some o → b ∉ X.ex → b ∉ ch := fun b o e hx hb => by
    rcases (hch b hb).1 with z | z
    · exact hx z
    · exact absurd (Nat.lt_of_lt_of_le (Heap.lt_size e) z) (Nat.lt_irrefl _)
  have cellK : ∀ x c, X.env.cells.lookup x = some c → ∀ v, s.heap.IsCell c v → h'.IsCell c v := fun x c e v ⟨o, ho, hd⟩ => by
    have nch : c ∉ ch := fun z => (hch c z).2.2.1 x c e rfl
    by_cases hc : c ∈ X.fs
    · obtain ⟨sl, q⟩ := slot c o (I.cne x c e) hc nch ho (I.freeC x c e)
      exact ⟨_, q, hd⟩
    · exact ⟨o, keep c o (I.cne x c e) hc nch ho (I.freeC x c e), hd⟩
  refine ⟨I.ok, I.os, hg, ⟨fun b o e n hb hx => ?_, fun b o e n hb hx => ?_, fun b o e n hx => ?_, fun b o e hx => ?_, fun b xs e => tups b xs (I.base.tups b xs e), fun b o xs e => frzs b o xs (I.base.frzs b o xs e), fun b ps e => ?_⟩, ?_, fun x c e => ?_, ?_, fun x c e => ?_, fun p hp => ?_, hok, I.len⟩
  · exact keep b o (neL b o e) hb (neC b o e hx) (I.base.keep b o e n hb hx) (I.base.free b o e n hx)
  · obtain ⟨sl, e1⟩ := I.base.slot b o e n hb hx
    obtain ⟨sl', e2⟩ := slot b _ (neL b o e) hb (neC b o e hx) e1 (I.base.free b o e n hx)
    exact ⟨sl', e2⟩
  · obtain ⟨o', e1⟩ := I.base.there b o e hx
    exact free b o' (neC b o e hx) e1 (I.base.free b o e n hx)
  · obtain ⟨o', e1⟩ := I.base.there b o e hx
    exact there b o' (neC b o e hx) e1
  · obtain ⟨m1, e1⟩ := I.base.tbls b ps e
    obtain ⟨m2, e2⟩ := tbls b _ e1
    exact ⟨m1 ++ m2, by rw [e2, Array.append_assoc]⟩
  · obtain ⟨m, hn, hl⟩ := I.loc
    refine ⟨m, ns m hn, fun i x v e1 e2 e3 => ?_⟩
    obtain ⟨u, r, l⟩ := hl i x v e1 e2 e3
    refine ⟨u, r, ?_⟩
    rcases l with l | ⟨k, c, e, z⟩
    · exact .inl l
    · exact .inr ⟨k, c, e, cellK x c e _ z⟩
  · obtain ⟨v, z⟩ := I.cell x c e
    exact ⟨v, cellK x c e v z⟩
  · obtain ⟨m, ⟨o, _, _, ho, _⟩, _⟩ := I.loc
    exact free _ o (fun z => (hch _ z).2.1 rfl) ho I.free
  · obtain ⟨v, o, ho, hd⟩ := I.cell x c e
    exact free c o (fun z => (hch c z).2.2.1 x c e rfl) ho (I.freeC x c e)
  · obtain ⟨e, n, ne, nf, d⟩ := I.pin p hp
    have nch : p.1 ∉ ch := fun z => (hch p.1 z).2.2.2 p hp rfl
    exact ⟨keep p.1 p.2 ne nf nch e n, free p.1 p.2 nch e n, ne, nf, d⟩
theorem Inv.un {t' : Nat} (I : Inv X pins σ H s) (u : Un X.fs [] H H' s.heap h') (hok : HOk X.prog X.w H' h') : Inv X pins σ H' { s with heap := h', toks := t' } := by
  obtain ⟨m, ⟨o, es, ep, ho, r⟩, _⟩ := id I.loc
  obtain ⟨sl, hL⟩ := u.any ho I.free (by simp)
  exact I.step (g' := s.gens) (d' := s.drawn) (ch := []) (fun _ z => nomatch z) (fun b o _ hb _ e n => u.keep b o e n hb (by simp)) (fun b o _ hb _ e n => u.slot b o e n hb (by simp)) (fun b o _ e n => u.free b o e n (by simp)) (fun b o _ e => u.there b o e (by simp)) u.tups u.frzs u.tbls (fun m' hm => by
    obtain ⟨o', es', ep', ho', r'⟩ := hm
    rw [ho] at ho'; cases ho'
    exact ⟨_, es', ep', hL, r'⟩) hok I.bare
theorem Inv.call {g' : Array GenState} {t' : Nat} {d' : Drawn} {ch : List Addr} (I : Inv X pins σ H s) (u : Un (frs X.stack) ch H H' s.heap h') (hok : HOk X.prog X.w H' h') (hg : AllBare g')
    (hch : ∀ b ∈ ch, (b ∈ X.ex ∨ X.s₀.heap.objs.size ≤ b) ∧ b ≠ X.env.locals ∧ (∀ x c, X.env.cells.lookup x = some c → c ≠ b) ∧ ∀ p ∈ X.pn ++ pins, p.1 ≠ b) :
    Inv X pins σ H' { s with heap := h', gens := g', drawn := d', toks := t' } := by
  obtain ⟨m, ⟨o, es, ep, ho, r⟩, _⟩ := id I.loc
  obtain ⟨sl, hL⟩ := u.any ho I.free fun z => (hch _ z).2.1 rfl
  exact I.step (ch := ch) hch (fun b o hL hb hc e n => u.keep b o e n (fun z => (List.mem_cons.mp (I.stkSub b z)).elim hL hb) hc) (fun b o _ _ hc e n => u.any e n hc) (fun b o hc e n => u.free b o e n hc) (fun b o hc e => u.there b o e hc) u.tups u.frzs u.tbls (fun m' hm => by
    obtain ⟨o', es', ep', ho', r'⟩ := hm
    rw [ho] at ho'; cases ho'
    exact ⟨_, es', ep', hL, r'⟩) hok hg
theorem Inv.turned {t' : Nat} {it : Addr} (I : Inv X pins σ H s) (k : ∀ b o, b ≠ it → s.heap.get? b = some o → h'.get? b = some o) (hn : H it = none) (hL : it ≠ X.env.locals)
    (h1 : it ∈ X.ex ∨ X.s₀.heap.objs.size ≤ it) (h2 : ∀ x c, X.env.cells.lookup x = some c → c ≠ it) (h3 : ∀ p ∈ X.pn ++ pins, p.1 ≠ it) : Inv X pins σ H { s with heap := h', toks := t' } := by
  have nit : ∀ b u, H b = some u → b ≠ it := fun b u e z => by rw [z, hn] at e; cases e
  refine I.step (g' := s.gens) (d' := s.drawn) (ch := [it]) (fun b hb => ?_) (fun b o _ _ hc e _ => k b o (fun z => hc (by simp [z])) e) (fun b o _ _ hc e _ => ⟨o.slots, k b o (fun z => hc (by simp [z])) e⟩) (fun _ _ _ _ n => n)
    (fun b o hc e => ⟨o, k b o (fun z => hc (by simp [z])) e⟩) (fun _ _ e => e) (fun _ _ _ e => e) (fun b ps e => ⟨#[], by rw [e]; simp⟩) (fun m hm => ?_) (fun b u e => ?_) I.bare
  · have e : b = it := by simpa using hb
    subst e
    exact ⟨h1, hL, h2, h3⟩
  · obtain ⟨o, es, ep, ho, r⟩ := hm
    exact ⟨o, es, ep, k _ o (Ne.symm hL) ho, r⟩
  · refine (I.hok b u e).stay (fun c v hc q => k c v ?_ q) (fun _ q => q) fun _ _ q => q
    rcases hc with z | z
    · rw [z]; exact nit b u e
    · exact nit c _ z
theorem Inv.tok (I : Inv X pins σ H s) (t : Nat) : Inv X pins σ H { s with toks := t } := I.un (h' := s.heap) (t' := t) Un.refl I.hok
theorem Inv.kept {t' : Nat} (I : Inv X pins σ H s) (k : ∀ b u, s.heap.get? b = some u → h'.get? b = some u) : Inv X pins σ H { s with heap := h', toks := t' } := I.un (Un.kept k) (I.hok.kept k)
theorem Inv.laid {a : Addr} {o : HO} {t' : Nat} (I : Inv X pins σ H s) (k : ∀ b u, s.heap.get? b = some u → h'.get? b = some u) (hp : s.heap.objs.size ≤ a) (new : ObjOk X.prog X.w (upd H a o) h' a o) :
    Inv X pins σ (upd H a o) { s with heap := h', toks := t' } := I.un (Un.laid k hp (I.hok.fresh hp)) (I.hok.laid k hp new)
theorem Inv.write {x e : Addr} {o : HO} {t' : Nat} (I : Inv X pins σ H s) (mu : Mut (H x)) (he : e = x ∨ H e = some (.own x)) (k : ∀ b u, b ≠ e → s.heap.get? b = some u → h'.get? b = some u) (heo : ∃ u, h'.get? e = some u)
    (new : ObjOk X.prog X.w (upd H x o) h' x o) : Inv X pins σ (upd H x o) { s with heap := h', toks := t' } := I.un (Un.write mu he k heo) (I.hok.write mu he k heo new)
theorem Inv.pins_of {pins' : List (Addr × Obj)} (I : Inv X pins σ H s) (h : ∀ p ∈ pins', s.heap.get? p.1 = some p.2 ∧ H p.1 = none ∧ p.1 ≠ X.env.locals ∧ p.1 ∉ X.fs ∧ ∀ v, p.2.data ≠ .cell v) : Inv X pins' σ H s :=
  ⟨I.ok, I.os, I.bare, I.base, I.loc, I.cell, I.free, I.freeC, fun p hp => (List.mem_append.mp hp).elim (fun z => I.pin p (List.mem_append_left _ z)) (h p), I.hok, I.len⟩
theorem nodup_ix {N : List Str} (hN : N.Nodup) {i j : Nat} {x : Str} (a : N[i]? = some x) (b : N[j]? = some x) : i = j := by
  obtain ⟨h1, e1⟩ := List.getElem?_eq_some_iff.mp a
  obtain ⟨h2, e2⟩ := List.getElem?_eq_some_iff.mp b
  exact (List.getElem_inj hN).mp (e1.trans e2.symm)
theorem store_ok2 {M : Model} {A : Around} {E : Value → Shared → Prop} {i : Nat} {x : Str} {v : V} {u : Value} {Q : Unit → Shared → Prop} (I : Inv X pins σ H s) (hN : X.N.Nodup) (hi : X.N[i]? = some x) (hx : Loc X.env.scope x) (r : RelV v u)
    (h : ∀ s', Inv X pins (σ.set i (some v)) H s' → (∃ a, Heap.SameBut a s.heap s'.heap ∧ (a = X.env.locals ∨ X.env.cells.lookup x = some a)) → Q () s') (hf : X.fn x = true ∨ X.env.scope.names.lookup x = some .local := by first | exact .inl rfl | exact .inr rfl | assumption) : wpAny M A (storeName X.env x u) Q E s := by
  obtain ⟨m, hn, hl⟩ := id I.loc
  have hcls : (X.env.scope.kind == .class || (X.env.scope.kind == .module && X.env.locals != X.env.globals)) = false := by rw [I.ok.kind]; rfl
  have hiσ : i < σ.length := by rw [I.len]; exact (List.getElem?_eq_some_iff.mp hi).1
  have cne := I.cne
  have tracked : ∀ {a : Addr} {h' : Heap}, (∃ o, s.heap.get? a = some o ∧ H a = none) → Heap.SameBut a s.heap h' → HOk X.prog X.w H h' := fun {a h'} ha hs b ob e => by
    obtain ⟨_, _, hfree⟩ := ha
    refine (I.hok b ob e).stay (fun c w' hc q => (hs.2 c ?_).trans q) (fun _ q => q) fun _ _ q => q
    rintro rfl
    rcases hc with rfl | hc
    · rw [hfree] at e; cases e
    · rw [hfree] at hc; cases hc
  rcases hx with hk | hk
  · refine wpAny_storeName_local hk hn (fun h' hn' hs => ?_) hcls
    obtain ⟨oL, _, _, hoL, _⟩ := id hn
    refine h _ ⟨I.ok, I.os, I.bare, ⟨fun b o e n hb hx => ?_, fun b o e n hb hx => ?_, I.base.free, fun b o e hx => ?_, I.base.tups, I.base.frzs, I.base.tbls⟩, ⟨_, hn', fun j y v' e1 e2 e3 => ?_⟩, fun y c e => ?_, I.free, I.freeC, fun p hp => ?_, tracked ⟨oL, hoL, I.free⟩ hs, by simpa using I.len⟩ ⟨_, hs, .inl rfl⟩
    · exact (hs.2 b (Nat.ne_of_lt (Nat.lt_of_lt_of_le (Heap.lt_size e) I.ok.above))).trans (I.base.keep b o e n hb hx)
    · obtain ⟨sl, e1⟩ := I.base.slot b o e n hb hx
      exact ⟨sl, (hs.2 b (Nat.ne_of_lt (Nat.lt_of_lt_of_le (Heap.lt_size e) I.ok.above))).trans e1⟩
    · obtain ⟨o', e1⟩ := I.base.there b o e hx
      exact ⟨o', (hs.2 b (Nat.ne_of_lt (Nat.lt_of_lt_of_le (Heap.lt_size e) I.ok.above))).trans e1⟩
    · by_cases hj : j = i
      · subst hj
        rw [hi] at e1; cases e1
        rw [List.getElem?_set_self hiσ] at e2
        cases e2
        exact ⟨u, r, .inl ⟨hk, by simp⟩⟩
      · rw [List.getElem?_set_ne (Ne.symm hj)] at e2
        obtain ⟨u', r', q⟩ := hl j y v' e1 e2 e3
        refine ⟨u', r', ?_⟩
        rcases q with ⟨k, e⟩ | ⟨k, c, e, z⟩
        · refine .inl ⟨k, ?_⟩
          have : y ≠ x := fun e => hj (nodup_ix hN e1 (e ▸ hi))
          simp [this, e]
        · exact .inr ⟨k, c, e, z.sameBut hs (cne y c e)⟩
    · obtain ⟨w', z⟩ := I.cell y c e
      exact ⟨w', z.sameBut hs (cne y c e)⟩
    · obtain ⟨e, n, ne, nf, d⟩ := I.pin p hp
      exact ⟨(hs.2 p.1 ne).trans e, n, ne, nf, d⟩
  · have hfn : X.fn x = true := by
      rcases hf with z | z
      · exact z
      · rw [z] at hk; cases hk
    obtain ⟨c, hc⟩ := I.ok.has x (.inl hk)
    obtain ⟨w', z⟩ := I.cell x c hc
    refine wpAny_storeName_cell I.ok.kind hk hc z (fun h' hc' hs => ?_)
    obtain ⟨oc, hoc, hocd⟩ := id z
    refine h { s with heap := h' } ⟨I.ok, I.os, I.bare, ⟨fun b o e n hb hx => ?_, fun b o e n hb hx => ?_, I.base.free, fun b o e hx => ?_, I.base.tups, I.base.frzs, I.base.tbls⟩, ⟨m, hn.sameBut hs (Ne.symm (cne x c hc)), fun j y v' e1 e2 e3 => ?_⟩, fun y c' e => ?_, I.free, I.freeC, fun p hp => ?_, tracked ⟨oc, hoc, I.freeC x c hc⟩ hs, by simpa using I.len⟩ ⟨c, hs, .inr hc⟩
    · exact (hs.2 b (Nat.ne_of_lt (Nat.lt_of_lt_of_le (Heap.lt_size e) (I.ok.cab x c hfn hc)))).trans (I.base.keep b o e n hb hx)
    · obtain ⟨sl, e1⟩ := I.base.slot b o e n hb hx
      exact ⟨sl, (hs.2 b (Nat.ne_of_lt (Nat.lt_of_lt_of_le (Heap.lt_size e) (I.ok.cab x c hfn hc)))).trans e1⟩
    · obtain ⟨o', e1⟩ := I.base.there b o e hx
      exact ⟨o', (hs.2 b (Nat.ne_of_lt (Nat.lt_of_lt_of_le (Heap.lt_size e) (I.ok.cab x c hfn hc)))).trans e1⟩
    · by_cases hj : j = i
      · subst hj
        rw [hi] at e1; cases e1
        rw [List.getElem?_set_self hiσ] at e2
        cases e2
        exact ⟨u, r, .inr ⟨.inl hk, c, hc, hc'⟩⟩
      · rw [List.getElem?_set_ne (Ne.symm hj)] at e2
        obtain ⟨u', r', q⟩ := hl j y v' e1 e2 e3
        refine ⟨u', r', ?_⟩
        rcases q with q | ⟨k, c', e, z'⟩
        · exact .inl q
        · refine .inr ⟨k, c', e, z'.sameBut hs ?_⟩
          rintro rfl
          exact hj (nodup_ix hN e1 (I.ok.inj _ _ _ e hc ▸ hi))
    · by_cases hcc : c' = c
      · subst hcc; exact ⟨_, hc'⟩
      · obtain ⟨w2, z2⟩ := I.cell y c' e
        exact ⟨w2, z2.sameBut hs hcc⟩
    · obtain ⟨e, n, ne, nf, d⟩ := I.pin p hp
      refine ⟨(hs.2 p.1 ?_).trans e, n, ne, nf, d⟩
      intro q
      rw [q, hoc] at e
      have q' : oc = p.2 := Option.some.inj e
      exact d w' (by rw [← q']; exact hocd)
theorem store_ok {M : Model} {A : Around} {E : Value → Shared → Prop} {i : Nat} {x : Str} {v : V} {u : Value} {Q : Unit → Shared → Prop} (I : Inv X pins σ H s) (hN : X.N.Nodup) (hi : X.N[i]? = some x) (hx : Loc X.env.scope x) (r : RelV v u)
    (h : ∀ s', Inv X pins (σ.set i (some v)) H s' → Q () s') (hf : X.fn x = true ∨ X.env.scope.names.lookup x = some .local := by first | exact .inl rfl | exact .inr rfl | assumption) : wpAny M A (storeName X.env x u) Q E s :=
  store_ok2 I hN hi hx r (fun s' I' _ => h s' I') hf
theorem Inv.call' {s' : Shared} {ch : List Addr} (I : Inv X pins σ H s) (ho : s'.os = s.os) (u : Un (frs X.stack) ch H H' s.heap s'.heap) (hok : HOk X.prog X.w H' s'.heap) (hg : AllBare s'.gens)
    (hch : ∀ b ∈ ch, (b ∈ X.ex ∨ X.s₀.heap.objs.size ≤ b) ∧ b ≠ X.env.locals ∧ (∀ x c, X.env.cells.lookup x = some c → c ≠ b) ∧ ∀ p ∈ X.pn ++ pins, p.1 ≠ b) : Inv X pins σ H' s' := by
  obtain ⟨h', g', d', t', o'⟩ := s'
  have e : o' = s.os := ho
  subst e
  exact I.call (g' := g') (t' := t') (d' := d') u hok hg hch
end
abbrev XK := Value → Option Addr → Hp → Prop
abbrev St := List (Option V)
abbrev VK := V → Hp → Prop
abbrev TE := St → Hp → VK → Prop
abbrev TT := St → Hp → (Bool → Hp → Prop) → Prop
abbrev TA := St → Hp → (List V → Hp → Prop) → Prop
structure Ends where
  nx : St → Hp → Prop
  rt : VK
  bk : St → Hp → Prop := fun _ _ => False
  ct : St → Hp → Prop := fun _ _ => False
abbrev TS := Ends → St → Hp → Prop
inductive EP (X : Cx) (pins : List (Addr × Obj)) (σ : St) (Q : VK) (u : Value) (s' : Shared) : Prop
  | mk (v : V) (H' : Hp) (I : Inv X pins σ H' s') (r : RelV v u) (q : Q v H')
inductive TP (X : Cx) (pins : List (Addr × Obj)) (σ : St) (Q : Bool → Hp → Prop) (b : Bool) (s' : Shared) : Prop
  | mk (H' : Hp) (I : Inv X pins σ H' s') (q : Q b H')
inductive AP (X : Cx) (pins : List (Addr × Obj)) (σ : St) (Q : List V → Hp → Prop) (us : List Value) (s' : Shared) : Prop
  | mk (vs : List V) (H' : Hp) (I : Inv X pins σ H' s') (r : Vals vs us) (q : Q vs H')
inductive NP (X : Cx) (pins : List (Addr × Obj)) (P : St → Hp → Prop) (s' : Shared) : Prop
  | mk (σ' : St) (H' : Hp) (I : Inv X pins σ' H' s') (q : P σ' H')
inductive RP (X : Cx) (pins : List (Addr × Obj)) (P : VK) (u : Value) (s' : Shared) : Prop
  | mk (v : V) (σ' : St) (H' : Hp) (I : Inv X pins σ' H' s') (r : RelV v u) (q : P v H')
def SP (X : Cx) (pins : List (Addr × Obj)) (D : Ends) (f : Flow) (s' : Shared) : Prop :=
  match f with
  | .next => NP X pins D.nx s'
  | .brk => NP X pins D.bk s'
  | .cont => NP X pins D.ct s'
  | .ret u => RP X pins D.rt u s'
def PE (X : Cx) (e : Expr) (t : TE) : Prop :=
  ∀ (pins : List (Addr × Obj)) (s : Shared) (σ : St) (H : Hp) (Q : VK), Inv X pins σ H s → t σ H Q → wpAny (model X.prog X.w) X.A (eval e X.env) (EP X pins σ Q) X.xe s
def PT (X : Cx) (e : Expr) (t : TT) : Prop :=
  ∀ (pins : List (Addr × Obj)) (s : Shared) (σ : St) (H : Hp) (Q : Bool → Hp → Prop), Inv X pins σ H s → t σ H Q → wpAny (model X.prog X.w) X.A (isTrue e X.env (eval e X.env)) (TP X pins σ Q) X.xe s
def PW (X : Cx) (e : Expr) (t : TT) : Prop :=
  ∀ (whole : Sem Value) (pins : List (Addr × Obj)) (s : Shared) (σ : St) (H : Hp) (Q : Bool → Hp → Prop), Inv X pins σ H s → t σ H Q → wpAny (model X.prog X.w) X.A (isTrue e X.env whole) (TP X pins σ Q) X.xe s
theorem PW.pt {X : Cx} {e : Expr} {t : TT} (h : PW X e t) : PT X e t := h _
def PA (X : Cx) (es : List Expr) (t : TA) : Prop :=
  ∀ (pos : Pos) (pins : List (Addr × Obj)) (s : Shared) (σ : St) (H : Hp) (Q : List V → Hp → Prop), Inv X pins σ H s → t σ H Q → wpAny (model X.prog X.w) X.A (spliced (backTo pos (starEach es X.env))) (AP X pins σ Q) X.xe s
def PS (X : Cx) (st : Stmt) (t : TS) : Prop :=
  ∀ (pins : List (Addr × Obj)) (s : Shared) (σ : St) (H : Hp) (D : Ends), Inv X pins σ H s → t D σ H → wpAny (model X.prog X.w) X.A (exec st X.env) (SP X pins D) X.xe s
def PSs (X : Cx) (st : List Stmt) (t : TS) : Prop :=
  ∀ (pins : List (Addr × Obj)) (s : Shared) (σ : St) (H : Hp) (D : Ends), Inv X pins σ H s → t D σ H → wpAny (model X.prog X.w) X.A (execs st X.env) (SP X pins D) X.xe s
theorem thn {α : Type} {t : Sem α} {Q Q' : α → Shared → Prop} {M : Model} {A : Around} {E : Value → Shared → Prop} {s : Shared} (h : wpAny M A t Q E s) (hQ : ∀ a s, Q a s → Q' a s) : wpAny M A t Q' E s := wpAny_mono h hQ fun _ _ x => x
end L2
namespace L2
open PySem PySem.Spec PyProof.Rows
section
variable {X : Cx}
def tVar (i : Nat) : TE := fun σ H Q => ∃ v, σ[i]? = some (some v) ∧ Q v H
def tC (v : V) : TE := fun _ H Q => Q v H
theorem pe_var {i : Nat} {x : Str} {pos : Pos} (hN : X.N[i]? = some x) (hv : Vis X.env.scope x) (hd : (x == ("__debug__" : Str)) = false := by decide) (hcd : (x == ("__classdict__" : Str)) = false := by decide) : PE X (.Name x pos) (tVar i) := by
  intro pins s σ H Q I h
  obtain ⟨v, e, h⟩ := h
  obtain ⟨m, hn, hl⟩ := I.loc
  obtain ⟨u, r, l⟩ := hl i x v hN e hv
  have fin : EP X pins σ Q u s := ⟨v, H, I, r, h⟩
  rcases l with ⟨hk, hm⟩ | ⟨hk, c, hc, hcell⟩
  · exact wpAny_Name (wpAny_loadName_local I.ok.kind hk hn hm fin) hd
  · rcases hk with hk | hk
    · exact wpAny_Name (wpAny_loadName_cell I.ok.kind hk hc hcell fin) hd
    · exact wpAny_Name (wpAny_loadName_free I.ok.kind hk hc hcell fin hcd) hd
theorem pe_int {i j pos} : PE X (.Constant (.int i) j pos) (tC (.int i)) := fun _ _ _ H _ I h => wpAny_Constant_int ⟨.int i, H, I.tok _, ⟨_, rfl⟩, h⟩
theorem pe_bl {b j pos} : PE X (.Constant (.bool b) j pos) (tC (.bl b)) := fun _ _ _ H _ I h => Constant_bool ⟨.bl b, H, I, rfl, h⟩
theorem pe_non {j pos} : PE X (.Constant .none j pos) (tC .non) := fun _ _ _ H _ I h => Constant_none ⟨.non, H, I, rfl, h⟩
theorem pe_str {x j pos} : PE X (.Constant (.str x) j pos) (tC (.str x)) := fun _ _ _ H _ I h => Calls.Constant_str ⟨.str x, H, I.tok _, ⟨_, rfl⟩, h⟩
def Gl (X : Cx) (x : Str) : Prop := X.env.kindOf x = some .globalImplicit
theorem ld_glob {E : Value → Shared → Prop} {pins : List (Addr × Obj)} {s : Shared} {σ : St} {H : Hp} {x : Str} {u : Value} {pos : Pos} {Q : Value → Shared → Prop} (I : Inv X pins σ H s) (hg : Gl X x) (hm : X.mg x = some u) (h : Q u s)
    (hd : (x == ("__debug__" : Str)) = false := by decide) : wpAny (model X.prog X.w) X.A (eval (.Name x pos) X.env) Q E s :=
  Calls.Name_function_global I.ok.kind hg (Calls.loadGlobal_global (by rw [I.ok.glob]; exact I.mod.glob.keeps I.bk) hm h) hd
theorem ld_blt {E : Value → Shared → Prop} {pins : List (Addr × Obj)} {s : Shared} {σ : St} {H : Hp} {x : Str} {u : Value} {pos : Pos} {Q : Value → Shared → Prop} (I : Inv X pins σ H s) (hg : Gl X x) (hm : X.mg x = none) (hv : bootBuiltins x = some u) (h : Q u s)
    (hn : x ≠ "__name__" := by decide) (hd : (x == ("__debug__" : Str)) = false := by decide) : wpAny (model X.prog X.w) X.A (eval (.Name x pos) X.env) Q E s := by
  obtain ⟨mb, h1, h2⟩ := I.mod.blt
  exact Calls.Name_function_global I.ok.kind hg (Calls.loadGlobal_builtin (by rw [I.ok.glob]; exact I.mod.glob.keeps I.bk) hm (by rw [I.ok.blt]; exact h1.keeps I.bk) ((h2 x hn).trans hv) h) hd
theorem pe_glob {x : Str} {v : V} {u : Value} {pos : Pos} (hg : Gl X x) (hm : X.mg x = some u) (r : RelV v u) (hd : (x == ("__debug__" : Str)) = false := by decide) : PE X (.Name x pos) (tC v) :=
  fun _ _ _ H _ I h => ld_glob I hg hm ⟨v, H, I, r, h⟩ hd
theorem pe_bltn {x : Str} {v : V} {u : Value} {pos : Pos} (hg : Gl X x) (hm : X.mg x = none) (hv : bootBuiltins x = some u) (r : RelV v u) (hn : x ≠ "__name__" := by decide) (hd : (x == ("__debug__" : Str)) = false := by decide) : PE X (.Name x pos) (tC v) :=
  fun _ _ _ H _ I h => ld_blt I hg hm hv ⟨v, H, I, r, h⟩ hn hd
variable {a b : Expr} {ta tb : TE} {pos : Pos}
variable {tA tB' : TT} {rest : List Expr}
def tAnd (t u : TT) : TT := fun σ H Q => t σ H fun c H1 => if c = true then u σ H1 Q else Q false H1
def tOr (t u : TT) : TT := fun σ H Q => t σ H fun c H1 => if c = true then Q true H1 else u σ H1 Q
def tNot (t : TT) : TT := fun σ H Q => t σ H fun c H1 => Q (!c) H1
theorem pw_and1 (ha : PT X a tA) : PW X (.BoolOp .And [a] pos) tA := by
  intro wh pins s σ H Q I h
  refine isTrue_and (thn (ha pins s σ H Q I h) fun c s1 e => ?_)
  cases c with
  | true => exact isTrue_and_nil e
  | false => exact e
theorem pw_or1 (ha : PT X a tA) : PW X (.BoolOp .Or [a] pos) tA := by
  intro wh pins s σ H Q I h
  refine isTrue_or (thn (ha pins s σ H Q I h) fun c s1 e => ?_)
  cases c with
  | false => exact isTrue_or_nil e
  | true => exact e
theorem pw_and (ha : PT X a tA) (hb : PW X (.BoolOp .And (b :: rest) pos) tB') : PW X (.BoolOp .And (a :: b :: rest) pos) (tAnd tA tB') := by
  intro wh pins s σ H Q I h
  refine isTrue_and (thn (ha pins s σ H _ I h) fun c s1 ⟨H1, I1, q1⟩ => ?_)
  cases c with
  | true => exact hb wh pins s1 σ H1 Q I1 q1
  | false => exact ⟨H1, I1, q1⟩
theorem pw_or (ha : PT X a tA) (hb : PW X (.BoolOp .Or (b :: rest) pos) tB') : PW X (.BoolOp .Or (a :: b :: rest) pos) (tOr tA tB') := by
  intro wh pins s σ H Q I h
  refine isTrue_or (thn (ha pins s σ H _ I h) fun c s1 ⟨H1, I1, q1⟩ => ?_)
  cases c with
  | true => exact ⟨H1, I1, q1⟩
  | false => exact hb wh pins s1 σ H1 Q I1 q1
theorem pt_not (ha : PT X a tA) : PT X (.UnaryOp .Not a pos) (tNot tA) := by
  intro pins s σ H Q I h
  exact isTrue_not (thn (ha pins s σ H (fun c H1 => Q (!c) H1) I h) fun c s' z => by cases z; exact ⟨_, by assumption, by assumption⟩)
def tAndV (ta tb : TE) : TE := fun σ H Q => ta σ H fun x H1 => ∃ c, x = .bl c ∧ if c = true then tb σ H1 Q else Q (.bl false) H1
def tOrV (ta tb : TE) : TE := fun σ H Q => ta σ H fun x H1 => ∃ c, x = .bl c ∧ if c = true then Q (.bl true) H1 else tb σ H1 Q
def tNotV (ta : TE) : TE := fun σ H Q => ta σ H fun x H1 => ∃ c, x = .bl c ∧ Q (.bl (!c)) H1
theorem pe_one {op} {t : TE} (h : PE X a t) : PE X (.BoolOp op [a] pos) t := fun pins s σ H Q I hw => BoolOp_one (h pins s σ H Q I hw)
theorem pe_and (ha : PE X a ta) (hb : PE X (.BoolOp .And (b :: rest) pos) tb) : PE X (.BoolOp .And (a :: b :: rest) pos) (tAndV ta tb) := by
  intro pins s σ H Q I h
  refine BoolOp_and (thn (ha pins s σ H _ I h) fun v s1 ⟨x, H1, I1, r1, q1⟩ => ?_)
  obtain ⟨c, rfl, q1⟩ := q1
  cases r1
  refine wpAny_truthy_bool ?_
  cases c with
  | true => exact hb pins s1 σ H1 Q I1 q1
  | false => exact ⟨.bl false, H1, I1, rfl, q1⟩
theorem pe_or (ha : PE X a ta) (hb : PE X (.BoolOp .Or (b :: rest) pos) tb) : PE X (.BoolOp .Or (a :: b :: rest) pos) (tOrV ta tb) := by
  intro pins s σ H Q I h
  refine BoolOp_or (thn (ha pins s σ H _ I h) fun v s1 ⟨x, H1, I1, r1, q1⟩ => ?_)
  obtain ⟨c, rfl, q1⟩ := q1
  cases r1
  refine wpAny_truthy_bool ?_
  cases c with
  | false => exact hb pins s1 σ H1 Q I1 q1
  | true => exact ⟨.bl true, H1, I1, rfl, q1⟩
theorem pe_not (ha : PE X a ta) : PE X (.UnaryOp .Not a pos) (tNotV ta) := by
  intro pins s σ H Q I h
  refine UnaryOp_ (thn (ha pins s σ H _ I h) fun v s1 ⟨x, H1, I1, r1, q1⟩ => ?_)
  obtain ⟨c, rfl, q1⟩ := q1
  cases r1
  exact not_of (wpAny_truthy_bool ⟨.bl (!c), H1, I1, rfl, q1⟩)
def tIf (t : TT) (ta tb : TE) : TE := fun σ H Q => t σ H fun c H1 => if c = true then ta σ H1 Q else tb σ H1 Q
theorem pe_ifExp {c : Expr} (hc : PT X c tA) (ha : PE X a ta) (hb : PE X b tb) : PE X (.IfExp c a b pos) (tIf tA ta tb) := by
  intro pins s σ H Q I h
  refine wpAny_IfExp (thn (hc pins s σ H _ I h) fun d s1 ⟨H1, I1, q1⟩ => ?_)
  cases d with
  | true => exact ha pins s1 σ H1 Q I1 q1
  | false => exact hb pins s1 σ H1 Q I1 q1
end
end L2
namespace L2
open PySem PySem.Spec PyProof.Rows
def SqL (K : PySem.W.Frag) (H : Hp) (a : Addr) (xs : List V) : Prop :=
  Rd H a (.lst xs) ∨
    ∃ (o : Obj) (its : Array Value) (n : Nat), K.lookup a = some o ∧ o.cls = .type "list" ∧ o.dict = none ∧ o.data = .seq its n ∧ its.size ≤ sizeLine ∧ Vals xs its.toList
def SqT (K : PySem.W.Frag) (H : Hp) (a : Addr) (xs : List V) : Prop :=
  Rd H a (.tup xs) ∨
    ∃ (o : Obj) (its : Array Value) (n : Nat), K.lookup a = some o ∧ o.cls = .type "tuple" ∧ o.data = .seq its n ∧ its.size ≤ sizeLine ∧ Vals xs its.toList
section
variable {X : Cx} {pins : List (Addr × Obj)} {σ : St} {H : Hp} {s : Shared} {a : Addr} {xs ys : List V}
theorem SqL.of {K : PySem.W.Frag} (h : H a = some (.lst xs)) : SqL K H a xs := .inl (.inl h)
theorem SqT.of {K : PySem.W.Frag} (h : H a = some (.tup xs)) : SqT K H a xs := .inl (.inl h)
theorem Inv.list (I : Inv X pins σ H s) (h : SqL X.K H a xs) : ∃ its : List Value, Vals xs its ∧ PlainL s.heap a its.toArray ∧ xs.length ≤ sizeLine := by
  rcases h with h | ⟨o, its, n, hk, hc, hd, hs, hz, r⟩
  · obtain ⟨z, its, n, r, e⟩ := h.ok I.hok
    exact ⟨its, r, ⟨_, n, e, rfl, rfl, rfl⟩, z⟩
  · refine ⟨its.toList, r, ⟨o, n, I.kIn a o hk, hc, hd, by simpa using hs⟩, ?_⟩
    have e := r.length
    simp only [Array.length_toList] at e
    omega
theorem Inv.tuple (I : Inv X pins σ H s) (h : SqT X.K H a xs) : ∃ its : List Value, Vals xs its ∧ IsTup s.heap a its.toArray ∧ xs.length ≤ sizeLine := by
  rcases h with h | ⟨o, its, n, hk, hc, hs, hz, r⟩
  · obtain ⟨z, its, r, p⟩ := h.ok I.hok
    exact ⟨its, r, p, z⟩
  · refine ⟨its.toList, r, ⟨o, I.kIn a o hk, hc, n, by simpa using hs⟩, ?_⟩
    have e := r.length
    simp only [Array.length_toList] at e
    omega
end
abbrev Cx.wish (X : Cx) (E : Value → Shared → Prop) : Cx := { X with xe := E }
abbrev Cx.nox (X : Cx) : Cx := X.wish fun _ _ => False
theorem Cx.Ok.wish {X : Cx} (ok : X.Ok) (E : Value → Shared → Prop) : (X.wish E).Ok :=
  ⟨ok.mod, ok.kind, ok.glob, ok.blt, ok.above, ok.inj, ok.has, ok.cab, ok.hd, ok.frames, ok.stk, ok.exf, ok.bs, ok.bsz, ok.noex, ok.exfs, ok.funs, ok.frf⟩
theorem Cx.Ok.unwish {X : Cx} {E : Value → Shared → Prop} (ok : (X.wish E).Ok) : X.Ok :=
  ⟨ok.mod, ok.kind, ok.glob, ok.blt, ok.above, ok.inj, ok.has, ok.cab, ok.hd, ok.frames, ok.stk, ok.exf, ok.bs, ok.bsz, ok.noex, ok.exfs, ok.funs, ok.frf⟩
section
variable {X : Cx} {pins : List (Addr × Obj)} {σ : St} {H : Hp} {s : Shared} {E : Value → Shared → Prop}
theorem Inv.wish (I : Inv X pins σ H s) (E : Value → Shared → Prop) : Inv (X.wish E) pins σ H s := ⟨I.ok.wish E, I.os, I.bare, I.base, I.loc, I.cell, I.free, I.freeC, I.pin, I.hok, I.len⟩
theorem Inv.unwish (I : Inv (X.wish E) pins σ H s) : Inv X pins σ H s := ⟨I.ok.unwish, I.os, I.bare, I.base, I.loc, I.cell, I.free, I.freeC, I.pin, I.hok, I.len⟩
theorem SP.unwish {D : Ends} {f : Flow} {s' : Shared} (h : SP (X.wish E) pins D f s') : SP X pins D f s' := by
  cases f with
  | next => obtain ⟨σ', H', I, q⟩ := h; exact ⟨σ', H', I.unwish, q⟩
  | brk => obtain ⟨σ', H', I, q⟩ := h; exact ⟨σ', H', I.unwish, q⟩
  | cont => obtain ⟨σ', H', I, q⟩ := h; exact ⟨σ', H', I.unwish, q⟩
  | ret u => obtain ⟨v, σ', H', I, r, q⟩ := h; exact ⟨v, σ', H', I.unwish, r, q⟩
theorem PSs.nox {st : List Stmt} {t : TS} (h : PSs X.nox st t) : PSs X st t := fun pins s σ H D I hw =>
  wpAny_mono (h pins s σ H D (I.wish _) hw) (fun _ _ q => q.unwish) fun _ _ z => False.elim z
end
section
variable {X : Cx} {st : Stmt} {rest : List Stmt} {t u : TS} {e : Expr} {te : TE} {pos : Pos}
def tNext : TS := fun D σ H => D.nx σ H
def tSeq (t u : TS) : TS := fun D σ H => t { D with nx := u D } σ H
theorem pss_nil : PSs X [] tNext := fun _ _ σ H _ I h => wpAny_execs_nil ⟨σ, H, I, h⟩
theorem pss_cons (h1 : PS X st t) (h2 : PSs X rest u) : PSs X (st :: rest) (tSeq t u) := by
  intro pins s σ H D I h
  refine wpAny_execs_cons (thn (h1 pins s σ H { D with nx := u D } I h) fun f s1 q => ?_)
  cases f with
  | next =>
    obtain ⟨σ', H', I', q⟩ := q
    exact h2 pins s1 σ' H' D I' q
  | ret v => exact q
  | brk => exact q
  | cont => exact q
theorem pss_one (h1 : PS X st t) : PSs X [st] t := by
  intro pins s σ H D I h
  refine wpAny_execs_cons (thn (h1 pins s σ H D I h) fun f s1 q => ?_)
  cases f with
  | next => exact wpAny_execs_nil q
  | ret v => exact q
  | brk => exact q
  | cont => exact q
def tRet (te : TE) : TS := fun D σ H => te σ H D.rt
theorem ps_ret (he : PE X e te) : PS X (.Return (some e) pos) (tRet te) := by
  intro pins s σ H D I h
  exact wpAny_Return_some (thn (he pins s σ H _ I h) fun v s1 ⟨x, H1, I1, r1, q1⟩ => ⟨x, σ, H1, I1, r1, q1⟩)
def tIfS (c : TT) (t u : TS) : TS := fun D σ H => c σ H fun b H1 => if b = true then t D σ H1 else u D σ H1
theorem ps_if {c : Expr} {a b : List Stmt} {tc : TT} (hc : PT X c tc) (ha : PSs X a t) (hb : PSs X b u) : PS X (.If c a b pos) (tIfS tc t u) := by
  intro pins s σ H D I h
  refine wpAny_If (thn (hc pins s σ H _ I h) fun d s1 ⟨H1, I1, q1⟩ => ?_)
  cases d with
  | true => exact ha pins s1 σ H1 D I1 q1
  | false => exact hb pins s1 σ H1 D I1 q1
end
abbrev TG := V → St → Hp → (St → Hp → Prop) → Prop
def PG (X : Cx) (target : Expr) (t : TG) : Prop :=
  ∀ (pins : List (Addr × Obj)) (s : Shared) (σ : St) (H : Hp) (v : V) (u : Value) (Q : St → Hp → Prop), Inv X pins σ H s → RelV v u → t v σ H Q →
    wpAny (model X.prog X.w) X.A (assign target X.env u) (fun _ s' => ∃ σ' H', Inv X pins σ' H' s' ∧ Q σ' H') X.xe s
section
variable {X : Cx} {pos : Pos}
def gName (i : Nat) : TG := fun v σ H Q => Q (σ.set i (some v)) H
theorem pg_name {i : Nat} {x : Str} (hN : X.N.Nodup) (hi : X.N[i]? = some x) (hx : Loc X.env.scope x) (hf : X.fn x = true ∨ X.env.scope.names.lookup x = some .local := by first | exact .inl rfl | exact .inr rfl | assumption) : PG X (.Name x pos) (gName i) := by
  intro pins s σ H v u Q I r h
  exact wpAny_assign_Name (store_ok I hN hi hx r (fun s' I' => ⟨_, H, I', h⟩) hf)
def tAsg (te : TE) (g : TG) : TS := fun D σ H => te σ H fun x H1 => g x σ H1 D.nx
theorem ps_set {i : Nat} {x : Str} {e : Expr} {te : TE} {pos' : Pos} (hN : X.N.Nodup) (hi : X.N[i]? = some x) (hx : Loc X.env.scope x) (he : PE X e te) (hs : swapsWith e (some (.Name x pos')) pos.line X.env = pure false := by rfl) (hf : X.fn x = true ∨ X.env.scope.names.lookup x = some .local := by first | exact .inl rfl | exact .inr rfl | assumption) :
    PS X (.Assign [.Name x pos'] e pos) (tAsg te (gName i)) := by
  intro pins s σ H D I h
  refine wpAny_Assign_Name (thn (he pins s σ H _ I h) fun v s1 ⟨y, H1, I1, r1, q1⟩ => ?_) hs
  exact store_ok I1 hN hi hx r1 (fun s2 I2 => ⟨_, H1, I2, q1⟩) hf
end
section
variable {X : Cx} {pos : Pos}
end
structure It where
  go : Nat → Hp → Prop
  yld : Nat → Hp → V → Hp → Prop
  stop : Nat → Hp → Prop
def FpOk (X : Cx) (pins : List (Addr × Obj)) (H : Hp) (b : Addr) : Prop :=
  H b = none ∧ b ≠ X.env.locals ∧ b ∉ X.fs ∧ (b ∈ X.ex ∨ X.s₀.heap.objs.size ≤ b) ∧ (∀ x c, X.env.cells.lookup x = some c → c ≠ b) ∧ ∀ p ∈ X.pn ++ pins, p.1 ≠ b
theorem Inv.fpOk {X : Cx} {pins : List (Addr × Obj)} {σ : St} {H H' : Hp} {s : Shared} {b : Addr} (I : Inv X pins σ H s) (hb : s.heap.objs.size ≤ b) (hn : H' b = none) : FpOk X pins H' b := by
  refine ⟨hn, Nat.ne_of_gt (Nat.lt_of_lt_of_le I.lt hb), I.nofs hb, .inr (Nat.le_trans I.sz hb), fun x c e z => ?_, fun p hp z => ?_⟩
  · obtain ⟨v, q⟩ := I.cell x c e
    exact absurd (Nat.lt_of_lt_of_le q.lt (by rw [z]; exact hb)) (Nat.lt_irrefl _)
  · exact absurd (Nat.lt_of_lt_of_le (Heap.lt_size (I.pin p hp).1) (by rw [z]; exact hb)) (Nat.lt_irrefl _)
structure Turn (P : Program) (w : World) (K : PySem.W.Frag) (tg : Expr) (J : It) (fp : List Addr) (it : Addr) (tn : Nat → Heap → Prop) : Prop where
  mem : it ∈ fp
  obj : ∀ i h, tn i h → ∀ b ∈ fp, ∃ o, h.get? b = some o ∧ ∀ v, o.data ≠ .cell v
  keep : ∀ i h h', tn i h → (∀ b ∈ fp, ∀ o, h.get? b = some o → h'.get? b = some o) → tn i h'
  item : ∀ (X : Cx), X.prog = P → X.w = w → X.K = K → X.calm = true → ∀ (i : Nat) (pins : List (Addr × Obj)) (s : Shared) (σ : St) (H : Hp) (E : Value → Shared → Prop), Inv X pins σ H s → (∀ b ∈ fp, FpOk X pins H b) → tn i s.heap → J.go i H →
    wpAny (model P w) X.A (pyNext (.ref it)) (fun r s1 => ∃ u, r = some u ∧
      wpAny (model P w) X.A (letOwnedTupleGo tg (.ref it) u) (fun _ s2 => ∃ x H', Inv X pins σ H' s2 ∧ RelV x u ∧ J.yld i H x H' ∧ tn (i + 1) s2.heap ∧ ∀ b ∈ fp, H' b = none) E s1) E s
  done : ∀ (X : Cx), X.prog = P → X.w = w → X.K = K → X.calm = true → ∀ (i : Nat) (pins : List (Addr × Obj)) (s : Shared) (σ : St) (H : Hp) (E : Value → Shared → Prop), Inv X pins σ H s → (∀ b ∈ fp, FpOk X pins H b) → tn i s.heap → J.stop i H →
    wpAny (model P w) X.A (pyNext (.ref it)) (fun r s1 => r = none ∧ Inv X pins σ H s1) E s
  self : ∀ (A : Around) (i : Nat) (s : Shared) (Q : Value → Shared → Prop) (E : Value → Shared → Prop), tn i s.heap → Q (.ref it) s → wpAny (model P w) A (pyIter (.ref it)) Q E s
abbrev TI := St → Hp → (It → Hp → Prop) → Prop
def PIE (X : Cx) (pins : List (Addr × Obj)) (σ : St) (tg : Expr) (R : It → Hp → Prop) (itv : Value) (s2 : Shared) : Prop :=
  ∃ (it : Addr) (fp : List Addr) (tn : Nat → Heap → Prop) (J : It) (H' : Hp), itv = .ref it ∧ Inv X pins σ H' s2 ∧ Turn X.prog X.w X.K tg J fp it tn ∧ tn 0 s2.heap ∧ (∀ b ∈ fp, FpOk X pins H' b) ∧ R J H'
def PI (X : Cx) (tg iter : Expr) (wi : TI) : Prop :=
  ∀ (pins : List (Addr × Obj)) (s : Shared) (σ : St) (H : Hp) (R : It → Hp → Prop), Inv X pins σ H s → wi σ H R →
    wpAny (model X.prog X.w) X.A (eval iter X.env) (fun v s1 => wpAny (model X.prog X.w) X.A (pyIter v) (PIE X pins σ tg R) X.xe s1) X.xe s
theorem go_of {M : Model} {A : Around} {E : Value → Shared → Prop} {s : Shared} {tg : Expr} {it : Addr} {u : Value} {o : Obj} {n : String} {vs : Array Value} {Q : Unit → Shared → Prop} (ho : s.heap.get? it = some o) (hc : o.cls = .type n) (hd : o.data = .fields vs)
    (hn : ["enumerate", "zip", "dict_itemiterator", "dict_reverseitemiterator", "odict_iterator", "itertools.zip_longest", "itertools.pairwise"].contains n = false) (hQ : Q () s) : wpAny M A (letOwnedTupleGo tg (.ref it) u) Q E s := by
  unfold letOwnedTupleGo
  cases tg <;> first
    | exact wpAny_pure hQ
    | (cases u <;> first
        | exact wpAny_pure hQ
        | (refine wpAny_bind (wpAny_load ho ?_)
           rw [hc, hd]
           show wpAny M A (if (["enumerate", "zip", "dict_itemiterator", "dict_reverseitemiterator", "odict_iterator", "itertools.zip_longest", "itertools.pairwise"].contains n && vs[0]? == some (rawInt _)) = true then _ else _) Q E s
           rw [if_neg (by intro h; rw [hn, Bool.false_and] at h; cases h)]
           exact wpAny_pure hQ))
def Itr (lo : Int) (n : Nat) : It := ⟨fun i _ => i < n, fun i H x H' => H' = H ∧ x = .int (lo + i), fun i _ => n ≤ i⟩
theorem turn_range {P : Program} {w : World} {K : PySem.W.Frag} {tg : Expr} (it : Addr) (lo : Int) (n : Nat) : Turn P w K tg (Itr lo n) [it] it (fun i h => IsRangeIter h it (lo + (i : Nat) * 1) ((n : Int) - (i : Nat)) 1) where
  mem := by simp
  obj := fun i h st b hb => by
    have e : b = it := by simpa using hb
    subst e
    exact ⟨_, st, fun v z => by
      have z' : Data.fields _ = Data.cell v := z
      cases z'⟩
  keep := fun i h h' st k => k it (by simp) _ st
  item := by
    intro X hP hw hK hc i pins s σ H E I hf st hg
    subst hP hw hK
    obtain ⟨f0, f1, f2, f3, f4, f5⟩ := hf it (by simp)
    have W := Walks.range (prog := X.prog) (w := X.w) (I.ok.hd hc) it lo 1 n
    refine W.item i s _ _ hg st fun v h' tk hv st' kk => ?_
    obtain ⟨t, rfl⟩ := hv
    have I1 : Inv X pins σ H { s with heap := h', toks := tk } := I.turned (fun b o hb e => kk b o (by simpa using hb) e) f0 f1 f3 f4 f5
    refine ⟨_, rfl, go_of (s := { s with heap := h', toks := tk }) (n := "range_iterator") st' rfl rfl (by decide) ⟨.int (lo + i), H, I1, ⟨t, ?_⟩, ⟨rfl, rfl⟩, st', fun b hb => (hf b hb).1⟩⟩
    rw [Int.mul_one]
  done := by
    intro X hP hw hK hc i pins s σ H E I hf st hg
    subst hP hw hK
    obtain ⟨f0, f1, f2, f3, f4, f5⟩ := hf it (by simp)
    exact wpAny_pyNext_range_end (I.ok.hd hc) st (by have : n ≤ i := hg; omega) fun h' eb => ⟨rfl, I.turned (t' := s.toks) (fun b o hb e => eb b o hb e) f0 f1 f3 f4 f5⟩
  self := fun _ _ _ _ _ st h => wpAny_pyIter_rangeiter st h
end L2
namespace L2
open PySem PySem.Spec PyProof.Rows
section
variable {X : Cx} {tg : Expr}
theorem range_it {pins : List (Addr × Obj)} {σ : St} {H : Hp} {s : Shared} {R : It → Hp → Prop} {E : Value → Shared → Prop} {lo hi : Int} {t u v : Tok} {tk : Nat} (I : Inv X pins σ H s) (h1 : -(2 ^ 62) ≤ lo) (h2 : lo < 2 ^ 62) (h3 : -(2 ^ 62) ≤ hi) (h4 : hi < 2 ^ 62)
    (q : R (Itr lo (hi - lo).toNat) H) : wpAny (model X.prog X.w) X.A (pyIter (.ref s.heap.objs.size)) (PIE X pins σ tg R) E { s with heap := s.heap.push { cls := .type "range", data := .fields #[.int lo t, .int hi u, .int 1 v] }, toks := tk } := by
  refine wpAny_pyIter_range (IsRange.new ..) (small_one h1 h2 h3 h4) ?_
  have I1 : Inv X pins σ H { s with heap := s.heap.push { cls := .type "range", data := .fields #[.int lo t, .int hi u, .int 1 v] }, toks := tk } := I.kept fun b o e => Heap.get?_push_of_some _ e
  refine ⟨(s.heap.push { cls := .type "range", data := .fields #[.int lo t, .int hi u, .int 1 v] }).objs.size, [(s.heap.push { cls := .type "range", data := .fields #[.int lo t, .int hi u, .int 1 v] }).objs.size], _, _, H, rfl,
    I1.kept (t' := tk) fun b o e => Heap.get?_push_of_some _ e, turn_range _ lo (hi - lo).toNat, ?_, fun b hb => ?_, q⟩
  · have e1 : lo + ((0 : Nat) : Int) * 1 = lo := by simp
    have e2 : (((hi - lo).toNat : Nat) : Int) - ((0 : Nat) : Int) = Builtin.Range.rangeSize lo hi 1 := by rw [rangeSize_one]; split <;> omega
    show IsRangeIter _ _ (lo + ((0 : Nat) : Int) * 1) ((((hi - lo).toNat : Nat) : Int) - ((0 : Nat) : Int)) 1
    rw [e1, e2]
    exact Heap.get?_push_size _ rfl
  · have e : b = (s.heap.push { cls := .type "range", data := .fields #[.int lo t, .int hi u, .int 1 v] }).objs.size := by simpa using hb
    subst e
    exact I1.fpOk (Nat.le_refl _) (I1.hok.fresh (Nat.le_refl _))
def iRng1 (ta : TA) : TI := fun σ H R => ta σ H fun vs H1 => ∃ j : Int, vs = [.int j] ∧ -(2 ^ 62) ≤ j ∧ j < 2 ^ 62 ∧ R (Itr 0 j.toNat) H1
theorem pi_range1 {a : Expr} {ta : TA} {p pos : Pos} (hg : Gl X "range") (hm : X.mg "range" = none) (ha : PA X [a] ta) (hs : starEach [a] X.env = [(false, eval a X.env)] := by rfl) : PI X tg (.Call (.Name "range" p) [a] [] pos) (iRng1 ta) := by
  intro pins s σ H R I h
  refine Call_ (ld_blt I hg hm boot_range (PyProof.Rows.callWith_type1 (thn (ha pos pins s σ H _ I h) fun us s1 ⟨vs, H1, I1, r1, q1⟩ => ?_) hs rfl))
  obtain ⟨j, e, q1, q2, q⟩ := q1
  subst e
  cases r1 with
  | cons r rr =>
    cases rr
    obtain ⟨t, rfl⟩ := r
    exact call_range_1 (range_it I1 (by omega) (by omega) q1 q2 (by simpa using q))
def tFor (wi : TI) (g : TG) (tb : TS) : TS := fun D σ H => wi σ H fun J H1 => ∃ W : Nat → Nat → St → Hp → Prop, (∃ m, W 0 m σ H1) ∧ ∀ i m σ H, W i m σ H →
  (J.stop i H ∧ D.nx σ H) ∨ (J.go i H ∧ ∃ N : St → Hp → Prop, (∀ σ' H', N σ' H' → ∃ m', m' < m ∧ W (i + 1) m' σ' H') ∧ ∀ x H', J.yld i H x H' → g x σ H' fun σ2 H2 => tb { D with nx := N, ct := N, bk := D.nx } σ2 H2)
def pinsAt (fp : List Addr) (h : Heap) : List (Addr × Obj) := fp.filterMap fun b => (h.get? b).map fun o => (b, o)
theorem mem_pinsAt {fp : List Addr} {h : Heap} {b : Addr} {o : Obj} (hb : b ∈ fp) (e : h.get? b = some o) : (b, o) ∈ pinsAt fp h := List.mem_filterMap.mpr ⟨b, hb, by rw [e]; rfl⟩
theorem of_pinsAt {fp : List Addr} {h : Heap} {p : Addr × Obj} (hp : p ∈ pinsAt fp h) : p.1 ∈ fp ∧ h.get? p.1 = some p.2 := by
  obtain ⟨b, hb, e⟩ := List.mem_filterMap.mp hp
  cases q : h.get? b with
  | none => rw [q] at e; cases e
  | some o =>
    rw [q] at e
    have e' : (b, o) = p := Option.some.inj e
    subst e'
    exact ⟨hb, q⟩
theorem Inv.pinned {pins : List (Addr × Obj)} {σ : St} {H : Hp} {s : Shared} {fp : List Addr} (I : Inv X pins σ H s) (hf : ∀ b ∈ fp, FpOk X pins H b) (ho : ∀ b ∈ fp, ∃ o, s.heap.get? b = some o ∧ ∀ v, o.data ≠ .cell v) : Inv X (pins ++ pinsAt fp s.heap) σ H s :=
  I.pins_of fun p hp => (List.mem_append.mp hp).elim (fun z => I.pin p (List.mem_append_right _ z)) fun z => by
    obtain ⟨hb, e⟩ := of_pinsAt z
    obtain ⟨f0, f1, f2, _⟩ := hf p.1 hb
    obtain ⟨o, e', d⟩ := ho p.1 hb
    rw [e] at e'; cases e'
    exact ⟨e, f0, f1, f2, d⟩
theorem Inv.unpinned {pins pl : List (Addr × Obj)} {σ : St} {H : Hp} {s : Shared} (I : Inv X (pins ++ pl) σ H s) : Inv X pins σ H s := I.pins_of fun p hp => I.pin p (List.mem_append_right _ (List.mem_append_left _ hp))
theorem ps_for {iter : Expr} {body : List Stmt} {wi : TI} {g : TG} {tb : TS} {pos : Pos} (hp : PassesOwn (model X.prog X.w) X.A X.env X.xe) (hc : X.calm = true) (hi : PI X tg iter wi) (hg : PG X tg g) (hb : PSs X body tb)
    (hs : ∀ x, foldedSetIterable iter X.env x = pure x := by intro _; rfl) : PS X (.For tg iter body [] pos) (tFor wi g tb) := by
  intro pins s σ H D I h
  refine wpAny_For (thn (hi pins s σ H _ I h) fun v s1 h1 => thn h1 fun itv s2 h2 => ?_) hs
  obtain ⟨it, fp, tn, J, H2, e, I2, T, st2, f2, W, ⟨m0, w0⟩, turn⟩ := h2
  subst e
  have stat : ∀ {H' : Hp}, (∀ b ∈ fp, H' b = none) → ∀ b ∈ fp, FpOk X pins H' b := fun hn b hb => ⟨hn b hb, (f2 b hb).2⟩
  refine codeAny_forLoop_any (fun n s' => ∃ i σ' H', Inv X pins σ' H' s' ∧ tn i s'.heap ∧ (∀ b ∈ fp, H' b = none) ∧ W i n σ' H') ?_ m0 ⟨0, σ, H2, I2, st2, fun b hb => (f2 b hb).1, w0⟩
  rintro n s3 ⟨i, σ3, H3, I3, st3, fr3, w3⟩
  rcases turn i n σ3 H3 w3 with ⟨stop, qn⟩ | ⟨go, N, hN, step⟩
  · refine wpAny_passesOwn hp (thn (T.done X rfl rfl rfl hc i pins s3 σ3 H3 X.xe I3 (stat fr3) st3 stop) fun r s4 ⟨hr, I4⟩ => ?_)
    subst hr
    exact wpAny_execs_nil ⟨σ3, H3, I4, qn⟩
  · refine wpAny_passesOwn hp (thn (T.item X rfl rfl rfl hc i pins s3 σ3 H3 X.xe I3 (stat fr3) st3 go) fun r s4 ⟨u, hr, h4⟩ => ?_)
    subst hr
    refine wpAny_passesOwn hp (thn h4 fun _ s5 ⟨x, H5, I5, r5, y5, st5, fr5⟩ => ?_)
    have I5' := I5.pinned (stat fr5) (T.obj _ _ st5)
    refine wpAny_passesOwn hp (thn (hg _ s5 σ3 H5 x u _ I5' r5 (step x H5 y5)) fun _ s6 ⟨σ6, H6, I6, q6⟩ => ?_)
    refine wpAny_passesOwn hp (thn (hb _ s6 σ6 H6 _ I6 q6) fun f s7 q7 => ?_)
    have again : ∀ {σ7 : St} {H7 : Hp}, Inv X (pins ++ pinsAt fp s5.heap) σ7 H7 s7 → N σ7 H7 → ∃ m, m < n ∧ ∃ i σ' H', Inv X pins σ' H' s7 ∧ tn i s7.heap ∧ (∀ b ∈ fp, H' b = none) ∧ W i m σ' H' := fun {σ7 H7} I7 n7 => by
      obtain ⟨m', hm, w7⟩ := hN σ7 H7 n7
      refine ⟨m', hm, i + 1, σ7, H7, I7.unpinned, T.keep _ _ _ st5 fun b hb o e => (I7.pin (b, o) (List.mem_append_right _ (List.mem_append_right _ (mem_pinsAt hb e)))).1, fun b hb => ?_, w7⟩
      obtain ⟨o, e, d⟩ := T.obj _ _ st5 b hb
      exact (I7.pin (b, o) (List.mem_append_right _ (List.mem_append_right _ (mem_pinsAt hb e)))).2.1
    cases f with
    | next => obtain ⟨σ7, H7, I7, n7⟩ := q7; exact again I7 n7
    | cont => obtain ⟨σ7, H7, I7, n7⟩ := q7; exact again I7 n7
    | brk => obtain ⟨σ7, H7, I7, q7⟩ := q7; exact ⟨σ7, H7, I7.unpinned, q7⟩
    | ret v => obtain ⟨x7, σ7, H7, I7, r7, q7⟩ := q7; exact ⟨x7, σ7, H7, I7.unpinned, r7, q7⟩
end
end L2
namespace L2
open PySem PySem.Spec PyProof.Rows
abbrev R2 := V → V → Hp → VK → Prop
def OpR (X : Cx) (f : Value → Value → Sem Value) (r : R2) : Prop :=
  ∀ (pins : List (Addr × Obj)) (s : Shared) (σ : St) (H : Hp) (x y : V) (v u : Value) (Q : VK), Inv X pins σ H s → RelV x v → RelV y u → r x y H Q →
    wpAny (model X.prog X.w) X.A (f v u) (EP X pins σ Q) X.xe s
def UnR (X : Cx) (f : Value → Sem Value) (r : V → Hp → VK → Prop) : Prop :=
  ∀ (pins : List (Addr × Obj)) (s : Shared) (σ : St) (H : Hp) (x : V) (v : Value) (Q : VK), Inv X pins σ H s → RelV x v → r x H Q →
    wpAny (model X.prog X.w) X.A (f v) (EP X pins σ Q) X.xe s
def CallR (X : Cx) (f : Value) (r : List V → Hp → VK → Prop) : Prop :=
  ∀ (pins : List (Addr × Obj)) (s : Shared) (σ : St) (H : Hp) (xs : List V) (us : List Value) (Q : VK), Inv X pins σ H s → Vals xs us → r xs H Q →
    wpAny (model X.prog X.w) X.A (call f us) (EP X pins σ Q) X.xe s
def TruR (X : Cx) (r : V → Hp → (Bool → Hp → Prop) → Prop) : Prop :=
  ∀ (pins : List (Addr × Obj)) (s : Shared) (σ : St) (H : Hp) (x : V) (v : Value) (Q : Bool → Hp → Prop), Inv X pins σ H s → RelV x v → r x H Q →
    wpAny (model X.prog X.w) X.A (truthy v) (TP X pins σ Q) X.xe s
def tOp (r : R2) (ta tb : TE) : TE := fun σ H Q => ta σ H fun x H1 => tb σ H1 fun y H2 => r x y H2 Q
def tUn (r : V → Hp → VK → Prop) (ta : TE) : TE := fun σ H Q => ta σ H fun x H1 => r x H1 Q
def rI (C : Int → Int → Prop) (g : Int → Int → V) : R2 := fun x y H Q => ∃ i j, x = .int i ∧ y = .int j ∧ C i j ∧ Q (g i j) H
def rI0 (g : Int → Int → V) : R2 := fun x y H Q => ∃ i j, x = .int i ∧ y = .int j ∧ Q (g i j) H
def rU (g : Int → V) : V → Hp → VK → Prop := fun x H Q => ∃ i, x = .int i ∧ Q (g i) H
section
variable {X : Cx} {a b c : Expr} {ta tb tc : TE} {pos : Pos}
theorem binT (ha : PE X a ta) (hb : PE X b tb) {pins : List (Addr × Obj)} {s : Shared} {σ : St} {H : Hp} {R : V → V → Hp → Prop} (I : Inv X pins σ H s)
    (h : ta σ H fun x H1 => tb σ H1 fun y H2 => R x y H2) {Q : Value → Shared → Prop} {f : Value → Value → Sem Value}
    (hf : ∀ v u s2 x y H2, Inv X pins σ H2 s2 → RelV x v → RelV y u → R x y H2 → wpAny (model X.prog X.w) X.A (f v u) Q X.xe s2) :
    wpAny (model X.prog X.w) X.A (eval a X.env) (fun v s₁ => wpAny (model X.prog X.w) X.A (eval b X.env) (fun u s₂ => wpAny (model X.prog X.w) X.A (f v u) Q X.xe s₂) X.xe s₁) X.xe s := by
  refine thn (ha pins s σ H _ I h) fun v s1 ⟨x, H1, I1, r1, q1⟩ => ?_
  refine thn (hb pins s1 σ H1 _ I1 q1) fun u s2 ⟨y, H2, I2, r2, q2⟩ => ?_
  exact hf v u s2 x y H2 I2 r1 r2 q2
theorem pe_op {op : Operator} {r : R2} (ho : OpR X (binaryOp op) r) (ha : PE X a ta) (hb : PE X b tb) : PE X (.BinOp a op b pos) (tOp r ta tb) := by
  intro pins s σ H Q I h
  exact wpAny_BinOp (binT ha hb I h fun v u s2 x y H2 I2 rx ry q => ho pins s2 σ H2 x y v u Q I2 rx ry q)
theorem pe_un {op : UnaryOp} {r : V → Hp → VK → Prop} (ho : UnR X (unaryOp op) r) (ha : PE X a ta) : PE X (.UnaryOp op a pos) (tUn r ta) := by
  intro pins s σ H Q I h
  exact UnaryOp_ (thn (ha pins s σ H _ I h) fun v s1 ⟨x, H1, I1, r1, q1⟩ => ho pins s1 σ H1 x v Q I1 r1 q1)
theorem opI {f : Value → Value → Sem Value} {C : Int → Int → Prop} {g : Int → Int → Int}
    (rule : ∀ (i j : Int) (t u : Tok) (s : Shared) (Q : Value → Shared → Prop) (E : Value → Shared → Prop), C i j → Q (.int (g i j) s.toks) { s with toks := s.toks + 1 } → wpAny (model X.prog X.w) X.A (f (.int i t) (.int j u)) Q E s) :
    OpR X f (rI C fun i j => .int (g i j)) := by
  intro pins s σ H x y v u Q I rx ry h
  obtain ⟨i, j, rfl, rfl, hc, q⟩ := h
  obtain ⟨t, rfl⟩ := rx
  obtain ⟨t', rfl⟩ := ry
  exact rule i j t t' s _ _ hc ⟨.int (g i j), H, I.tok _, ⟨_, rfl⟩, q⟩
theorem opI0 {f : Value → Value → Sem Value} {g : Int → Int → Int}
    (rule : ∀ (i j : Int) (t u : Tok) (s : Shared) (Q : Value → Shared → Prop) (E : Value → Shared → Prop), Q (.int (g i j) s.toks) { s with toks := s.toks + 1 } → wpAny (model X.prog X.w) X.A (f (.int i t) (.int j u)) Q E s) :
    OpR X f (rI0 fun i j => .int (g i j)) := by
  intro pins s σ H x y v u Q I rx ry h
  obtain ⟨i, j, rfl, rfl, q⟩ := h
  obtain ⟨t, rfl⟩ := rx
  obtain ⟨t', rfl⟩ := ry
  exact rule i j t t' s _ _ ⟨.int (g i j), H, I.tok _, ⟨_, rfl⟩, q⟩
theorem opB0 {f : Value → Value → Sem Value} {g : Int → Int → Bool}
    (rule : ∀ (i j : Int) (t u : Tok) (s : Shared) (Q : Value → Shared → Prop) (E : Value → Shared → Prop), Q (.bool (g i j)) s → wpAny (model X.prog X.w) X.A (f (.int i t) (.int j u)) Q E s) :
    OpR X f (rI0 fun i j => .bl (g i j)) := by
  intro pins s σ H x y v u Q I rx ry h
  obtain ⟨i, j, rfl, rfl, q⟩ := h
  obtain ⟨t, rfl⟩ := rx
  obtain ⟨t', rfl⟩ := ry
  exact rule i j t t' s _ _ ⟨.bl (g i j), H, I, rfl, q⟩
def CPow (i j : Int) : Prop := 0 ≤ j ∧ j ≤ 1000000 ∧ i.natAbs < 2 ^ 64
def CMul (i j : Int) : Prop := (-(2 ^ 64) < i ∧ i < 2 ^ 64) ∨ (-(2 ^ 64) < j ∧ j < 2 ^ 64)
theorem CMul.ok {i j : Int} (h : CMul i j) : IntMulOk i j := by
  rcases h with ⟨h1, h2⟩ | ⟨h1, h2⟩
  · exact .of_left (intBits_le_64 h1 h2)
  · exact .of_right (intBits_le_64 h1 h2)
theorem op_add : OpR X (binaryOp .Add) (rI0 fun i j => .int (i + j)) := opI0 fun _ _ _ _ _ _ _ q => add_int q
theorem op_mod : OpR X (binaryOp .Mod) (rI (fun _ j => 0 < j) fun i j => .int (i % j)) := opI fun i j _ _ _ _ _ hc q => by
  have h1 : (0 : Int) < j := hc
  exact mod_int' (by omega) (by rw [Int.fmod_eq_emod_of_nonneg i (by omega)]; exact q)
theorem op_pow : OpR X (binaryOp .Pow) (rI CPow fun i j => .int (i ^ j.toNat)) := opI fun _ _ _ _ _ _ _ hc q => pow_int_small hc.1 hc.2.1 hc.2.2 q
theorem unI {f : Value → Sem Value} {g : Int → Int}
    (rule : ∀ (i : Int) (t : Tok) (s : Shared) (Q : Value → Shared → Prop) (E : Value → Shared → Prop), Q (.int (g i) s.toks) { s with toks := s.toks + 1 } → wpAny (model X.prog X.w) X.A (f (.int i t)) Q E s) :
    UnR X f (rU fun i => .int (g i)) := by
  intro pins s σ H x v Q I rx h
  obtain ⟨i, rfl, q⟩ := h
  obtain ⟨t, rfl⟩ := rx
  exact rule i t s _ _ ⟨.int (g i), H, I.tok _, ⟨_, rfl⟩, q⟩
theorem un_neg : UnR X (unaryOp .USub) (rU fun i => .int (-i)) := unI fun _ _ _ _ _ q => neg_int q
end
section
variable {X : Cx} {a b c : Expr} {ta tb tc : TE} {pos : Pos}
theorem fin_bl {pins : List (Addr × Obj)} {σ : St} {H : Hp} {s : Shared} {Q : VK} {k k' : Bool} (I : Inv X pins σ H s) (q : Q (.bl k) H) (e : k = k') : EP X pins σ Q (.bool k') s := by
  subst e
  exact ⟨.bl k, H, I, rfl, q⟩
theorem op_lt : OpR X (compareOp .Lt) (rI0 fun i j => .bl (decide (i < j))) := opB0 fun _ _ _ _ _ _ _ q => lt_int q
theorem op_le : OpR X (compareOp .LtE) (rI0 fun i j => .bl (decide (i ≤ j))) := opB0 fun _ _ _ _ _ _ _ q => le_int q
theorem op_gt : OpR X (compareOp .Gt) (rI0 fun i j => .bl (decide (j < i))) := opB0 fun _ _ _ _ _ _ _ q => gt_int q
theorem op_isN : OpR X (compareOp .Is) (fun x y H Q => y = .non ∧ Q (.bl (decide (x = .non))) H) := by
  intro pins s σ H x y v u Q I rx ry h
  obtain ⟨rfl, q⟩ := h
  cases ry
  refine is_none_gen (fin_bl I q ?_)
  cases x <;> first
    | (cases rx; rfl)
    | (obtain ⟨t, rfl⟩ := rx; rfl)
theorem op_notN : OpR X (compareOp .IsNot) (fun x y H Q => y = .non ∧ Q (.bl (!decide (x = .non))) H) := by
  intro pins s σ H x y v u Q I rx ry h
  obtain ⟨rfl, q⟩ := h
  cases ry
  refine isnot_none_gen (fin_bl I q ?_)
  cases x <;> first
    | (cases rx; rfl)
    | (obtain ⟨t, rfl⟩ := rx; rfl)
theorem OpR.or {f : Value → Value → Sem Value} {r r' : R2} (h : OpR X f r) (h' : OpR X f r') : OpR X f (fun x y H Q => r x y H Q ∨ r' x y H Q) := by
  intro pins s σ H x y v u Q I rx ry q
  rcases q with q | q
  · exact h pins s σ H x y v u Q I rx ry q
  · exact h' pins s σ H x y v u Q I rx ry q
theorem nomark (b : Expr) {op : CmpOp} (h : op ≠ .In := by decide) (h2 : op ≠ .NotIn := by decide) : behindInMarks op b = false := by
  have e1 : (op == CmpOp.In) = false := by cases op <;> first | rfl | exact absurd rfl h
  have e2 : (op == CmpOp.NotIn) = false := by cases op <;> first | rfl | exact absurd rfl h2
  cases b <;> simp [behindInMarks, e1, e2]
theorem pe_cmpR {op : CmpOp} {r : R2} (ho : OpR X (compareOp op) r) (ha : PE X a ta) (hb : PE X b tb) (hm : behindInMarks op b = false) : PE X (.Compare a [op] [b] pos) (tOp r ta tb) := by
  intro pins s σ H Q I h
  exact wpAny_Compare1 (binT ha hb I h fun v u s2 x y H2 I2 rx ry q => ho pins s2 σ H2 x y v u Q I2 rx ry q) hm
def tTest (t : TE) : TT := fun σ H Q => t σ H fun x H' => ∃ k, x = .bl k ∧ Q k H'
theorem pt_cmpR {op : CmpOp} {r : R2} (ho : OpR X (compareOp op) r) (ha : PE X a ta) (hb : PE X b tb) (hm : behindInMarks op b = false) : PT X (.Compare a [op] [b] pos) (tTest (tOp r ta tb)) := by
  intro pins s σ H Q I h
  refine wpAny_isTrue_Compare1 (thn (ha pins s σ H _ I h) fun v s1 ⟨x, H1, I1, r1, q1⟩ => thn (hb pins s1 σ H1 _ I1 q1) fun u s2 ⟨y, H2, I2, r2, q2⟩ =>
    thn (ho pins s2 σ H2 x y v u _ I2 r1 r2 q2) fun c s3 ⟨z, H3, I3, r3, k, e, q3⟩ => ?_) hm
  subst e
  cases r3
  exact wpAny_truthy_bool ⟨H3, I3, q3⟩
def tChain (r r' : R2) (ta tb tc : TE) : TE := fun σ H Q => ta σ H fun x H1 => tb σ H1 fun y H2 => r x y H2 fun z H3 => ∃ k, z = .bl k ∧
  (if k = true then tc σ H3 fun w' H4 => r' y w' H4 Q else Q (.bl false) H3)
theorem pe_chain {op op' : CmpOp} {r r' : R2} (ho : OpR X (compareOp op) r) (ho' : OpR X (compareOp op') r') (ha : PE X a ta) (hb : PE X b tb) (hc : PE X c tc)
    (hm : lastMarks [op, op'] [b, c] = false := by with_unfolding_all rfl) : PE X (.Compare a [op, op'] [b, c] pos) (tChain r r' ta tb tc) := by
  intro pins s σ H Q I h
  refine Compare_chain (thn (ha pins s σ H _ I h) fun v s1 ⟨x, H1, I1, r1, q1⟩ => chain_link (thn (hb pins s1 σ H1 _ I1 q1) fun u s2 ⟨y, H2, I2, r2, q2⟩ =>
    thn (ho pins s2 σ H2 x y v u _ I2 r1 r2 q2) fun d s3 ⟨z, H3, I3, r3, k, e, q3⟩ => ?_)) hm
  subst e
  cases r3
  refine wpAny_truthy_bool ?_
  cases k with
  | false => exact ite_ff ⟨.bl false, H3, I3, rfl, q3⟩
  | true => exact ite_tt (chain_last (thn (hc pins s3 σ H3 _ I3 q3) fun w' s4 ⟨z', H4, I4, r4, q4⟩ => ho' pins s4 σ H4 y z' u w' Q I4 r2 r4 q4))
theorem pt_chain {op op' : CmpOp} {r r' : R2} (ho : OpR X (compareOp op) r) (ho' : OpR X (compareOp op') r') (ha : PE X a ta) (hb : PE X b tb) (hc : PE X c tc)
    (hm : lastMarks [op, op'] [b, c] = false := by with_unfolding_all rfl) : PT X (.Compare a [op, op'] [b, c] pos) (tTest (tChain r r' ta tb tc)) := by
  intro pins s σ H Q I h
  refine isTrue_chain (thn (ha pins s σ H _ I h) fun v s1 ⟨x, H1, I1, r1, q1⟩ => test_link (thn (hb pins s1 σ H1 _ I1 q1) fun u s2 ⟨y, H2, I2, r2, q2⟩ =>
    thn (ho pins s2 σ H2 x y v u _ I2 r1 r2 q2) fun d s3 ⟨z, H3, I3, r3, k, e, q3⟩ => ?_)) hm
  subst e
  cases r3
  refine wpAny_truthy_bool ?_
  cases k with
  | false =>
    obtain ⟨k', e', q'⟩ := q3
    cases e'
    exact ite_ff ⟨H3, I3, q'⟩
  | true =>
    refine ite_tt (test_last (thn (hc pins s3 σ H3 _ I3 q3) fun w' s4 ⟨z', H4, I4, r4, q4⟩ => thn (ho' pins s4 σ H4 y z' u w' _ I4 r2 r4 q4) fun d' s5 ⟨z2, H5, I5, r5, k2, e2, q5⟩ => ?_))
    subst e2
    cases r5
    exact wpAny_truthy_bool ⟨H5, I5, q5⟩
def TruV (K : PySem.W.Frag) (x : V) (H : Hp) (k : Bool) : Prop :=
  match x with
  | .non => k = false
  | .bl b => k = b
  | .int i => k = (i != 0)
  | .str y => y.length ≤ sizeLine ∧ k = ((y.length : Int) != 0)
  | .byt y => y.size ≤ sizeLine ∧ k = ((y.size : Int) != 0)
  | .ref p => (∃ xs, SqL K H p xs ∧ k = !xs.isEmpty) ∨ (∃ xs, SqT K H p xs ∧ k = !xs.isEmpty) ∨ ∃ kvs, H p = some (.dK kvs) ∧ k = !kvs.isEmpty
  | _ => False
theorem isEmpty_kv {κ : Type} {kvs : List (κ × V)} {vs : List (κ × Value)} (r : KV kvs vs) : (!vs.isEmpty) = !kvs.isEmpty := by
  cases r <;> rfl
theorem isEmpty_of {xs : List V} {its : List Value} (r : Vals xs its) : (!its.toArray.isEmpty) = !xs.isEmpty := by
  cases r <;> simp
theorem line63 : (sizeLine : Nat) < 2 ^ 63 := by rw [sizeLine_eq]; decide
theorem tru_ok : TruR X (fun x H Q => ∃ k, TruV X.K x H k ∧ Q k H) := by
  intro pins s σ H x v Q I rx h
  obtain ⟨k, e, q⟩ := h
  have hl := line63
  have hs : sizeLine = 16777216 := sizeLine_eq
  cases x with
  | non =>
    cases rx
    have e' : k = false := e
    subst e'
    exact truthy_none ⟨H, I, q⟩
  | bl b =>
    cases rx
    have e' : k = b := e
    subst e'
    exact wpAny_truthy_bool ⟨H, I, q⟩
  | int i =>
    obtain ⟨t, rfl⟩ := rx
    have e' : k = (i != 0) := e
    subst e'
    exact PySem.P.truthy_int ⟨H, I, q⟩
  | str y =>
    obtain ⟨t, rfl⟩ := rx
    obtain ⟨hy, e'⟩ : y.length ≤ sizeLine ∧ k = ((y.length : Int) != 0) := e
    subst e'
    exact PySem.P.truthy_str (by omega) ⟨H, I.tok _, q⟩
  | byt y =>
    obtain ⟨t, rfl⟩ := rx
    obtain ⟨hy, e'⟩ : y.size ≤ sizeLine ∧ k = ((y.size : Int) != 0) := e
    subst e'
    exact PySem.W.truthy_bytes (by omega) ⟨H, I.tok _, q⟩
  | ref p =>
    cases rx
    have e' : (∃ xs, SqL X.K H p xs ∧ k = !xs.isEmpty) ∨ (∃ xs, SqT X.K H p xs ∧ k = !xs.isEmpty) ∨ ∃ kvs, H p = some (.dK kvs) ∧ k = !kvs.isEmpty := e
    rcases e' with ⟨xs, hx, e'⟩ | ⟨xs, hx, e'⟩ | ⟨kvs, hx, e'⟩
    · subst e'
      obtain ⟨its, r, pl, hz⟩ := I.list hx
      have hlen := r.length
      exact wpAny_truthy_list pl.isList (by simp only [List.size_toArray]; omega) ⟨H, I.tok _, by rw [isEmpty_of r]; exact q⟩
    · subst e'
      obtain ⟨its, r, pl, hz⟩ := I.tuple hx
      have hlen := r.length
      exact truthy_tuple pl (by simp only [List.size_toArray]; omega) ⟨H, I.tok _, by rw [isEmpty_of r]; exact q⟩
    · subst e'
      obtain ⟨hz, hS, vs, r, m⟩ : kvs.length ≤ sizeLine ∧ (p == sysModules) = false ∧ ∃ vs, KV kvs vs ∧ s.heap.DictOf (mixKind X.prog X.w) p vs := I.hok p _ hx
      have hlen : kvs.length = vs.length := Paired.length r
      exact wpAny_truthy_dict hS m (by omega) ⟨H, I.tok _, by rw [isEmpty_kv r]; exact q⟩
  | _ => exact (show False from e).elim
theorem pt_truth (ha : PE X a ta) (he : ∀ whole, isTrue a X.env whole = (do let v ← whole; standAt a.pos; holding [v] (truthy v))) :
    PT X a (fun σ H Q => ta σ H fun x H' => ∃ k, TruV X.K x H' k ∧ Q k H') := by
  intro pins s σ H Q I h
  exact isTrue_plain (thn (ha pins s σ H _ I h) fun v s1 ⟨x, H1, I1, r1, q1⟩ => tru_ok pins s1 σ H1 x v Q I1 r1 q1) (he _)
theorem op_add_str : OpR X (binaryOp .Add) (fun x y H Q => ∃ i j, x = .str i ∧ y = .str j ∧ i.length + j.length ≤ sizeLine ∧ Q (.str (i ++ j)) H) := by
  intro pins s σ H x y v u Q I rx ry h
  obtain ⟨i, j, rfl, rfl, hz, q⟩ := h
  obtain ⟨t, rfl⟩ := rx
  obtain ⟨t', rfl⟩ := ry
  exact add_str (fun t' tk => ⟨.str (i ++ j), H, I.tok _, ⟨_, rfl⟩, q⟩) hz
theorem vals1 {x : V} {us : List Value} (r : Vals [x] us) : ∃ u, us = [u] ∧ RelV x u := by
  cases r with
  | cons r1 r2 => cases r2; exact ⟨_, rfl, r1⟩
theorem vals2 {x y : V} {us : List Value} (r : Vals [x, y] us) : ∃ u w', us = [u, w'] ∧ RelV x u ∧ RelV y w' := by
  cases r with
  | cons r1 r2 =>
    cases r2 with
    | cons r3 r4 => cases r4; exact ⟨_, _, rfl, r1, r3⟩
theorem call_min2 (hc : X.calm = true) : CallR X (.builtin "min") (fun xs H Q => ∃ i j, xs = [.int i, .int j] ∧ Q (.int (if j < i then j else i)) H) := by
  intro pins s σ H xs us Q I r h
  obtain ⟨i, j, rfl, q⟩ := h
  obtain ⟨u, w', rfl, ⟨t, rfl⟩, ⟨t', rfl⟩⟩ := vals2 r
  refine min_two_ints (I.ok.hd hc) fun h' tk k => ⟨_, H, I.kept k, ?_, q⟩
  by_cases hj : j < i
  · rw [if_pos hj, if_pos hj]; exact ⟨_, rfl⟩
  · rw [if_neg hj, if_neg hj]; exact ⟨_, rfl⟩
end
end L2
namespace L2
open PySem PySem.Spec PyProof.Rows
structure ObjM (h : Heap) (x dx C : Addr) (mA : Str → Option Value) : Prop where
  obj : h.get? x = some (PySem.W.instObj C dx)
  ns : h.Ns1 dx mA
  ne : dx ≠ x
theorem lookIn_ns {h : Heap} {dx : Addr} {mA : Str → Option Value} (n : h.Ns1 dx mA) : ∃ od, h.get? dx = some od ∧ ∀ name, PySem.W.lookIn name od = some (mA name) := by
  obtain ⟨o, es, ep, ho, hd, hk, _, hm⟩ := n
  refine ⟨o, ho, fun name => ?_⟩
  have e := hm name
  unfold nsFind findBy at e
  rw [← Array.find?_toList] at e
  unfold PySem.W.lookIn
  rw [hd]
  dsimp only
  split
  · rename_i y q
    rw [q] at e
    exact congrArg some e
  · rename_i q
    rw [q] at e
    have a : es.toList.any (·.refKey) = false := by
      rw [List.any_eq_false]
      intro y hy
      obtain ⟨z, t, hkey⟩ := hk y (Array.mem_toList_iff.mp hy)
      simp [DictEntry.refKey, hkey]
    have a' : ¬ es.toList.any (·.refKey) = true := by rw [a]; exact Bool.false_ne_true
    rw [if_neg a']
    exact congrArg some e
theorem ObjM.look {h : Heap} {x dx C : Addr} {mA : Str → Option Value} (I : ObjM h x dx C mA) : ∃ od, PySem.W.InstAt h x (PySem.W.instObj C dx) C (some od) ∧ ∀ name, PySem.W.lookIn name od = some (mA name) :=
  let ⟨od, ho, hl⟩ := lookIn_ns I.ns
  ⟨od, ⟨I.obj, rfl, rfl, ho⟩, hl⟩
section
variable {prog : Program} {w : World} {A : Around} {E : Value → Shared → Prop} {s : Shared} {K : PySem.W.Frag} {x dx C f : Addr} {mA : Str → Option Value} {name : Str} {v : Value}
end
theorem RelO.some_of {v : V} {o : Option Value} (r : RelO (some v) o) : ∃ u, o = some u ∧ RelV v u := by
  cases o with
  | none => exact (show False from r).elim
  | some u => exact ⟨u, rfl, r⟩
section
variable {P : Program} {w : World} {H H' : Hp} {h h' : Heap} {a C dx : Addr} {fs fs' : List (Str × V)}
theorem ins_get (hok : HOk P w H h) (e : H a = some (.ins C dx fs)) : ∃ mA, ObjM h a dx C mA ∧ (∀ f, RelO (fs.lookup f) (mA f)) ∧ PySem.Within mA (fs.map (·.1)) ∧ fs.length ≤ 1000 ∧ H dx = some (.own a) := by
  obtain ⟨d, z, ne, ob, mA, n, r, q⟩ := (show ObjOk P w H h a (.ins C dx fs) from hok a _ e)
  exact ⟨mA, ⟨ob, n, ne⟩, r, q, z, d⟩
end
structure Cls (K : PySem.W.Frag) (C : Addr) : Prop where
  pg : PySem.W.plainGet K C Str.empty = true
  hd : PySem.W.hasDictIn K C = true
  po : PySem.W.plainOver K C = true
  sa : PySem.W.findIn K (.ref C) "__setattr__" = some (some (.builtin "object.__setattr__"))
theorem Cls.get {K : PySem.W.Frag} {C : Addr} (c : Cls K C) (f : Str) : PySem.W.plainGet K C f = true := c.pg
section
variable {X : Cx} {pins : List (Addr × Obj)} {σ : St} {H : Hp} {s : Shared} {a C dx : Addr} {fs : List (Str × V)} {f : Str} {v : V} {A : Around} {E : Value → Shared → Prop}
end
section
variable {X : Cx} {o e value : Expr} {f : Str} {pos pos' tpos : Pos} {ta tv : TE}
end
section
variable {X : Cx} {pins : List (Addr × Obj)} {σ : St} {H : Hp} {s : Shared} {A : Around} {E : Value → Shared → Prop} {Q : Value → Shared → Prop} {c : Value} {b : Bool}
inductive TyOf (K : PySem.W.Frag) (H : Hp) : V → Value → Prop where
  | non : TyOf K H .non (.type "NoneType")
  | bl (x : Bool) : TyOf K H (.bl x) (.type "bool")
  | int (i : Int) : TyOf K H (.int i) (.type "int")
  | str (x : Str) : TyOf K H (.str x) (.type "str")
  | flt (x : UInt64) : TyOf K H (.flt x) (.type "float")
  | lst {a : Addr} {xs : List V} (e : H a = some (.lst xs)) : TyOf K H (.ref a) (.type "list")
  | frz {a : Addr} {o : Obj} {xs : List V} (e : H a = some (.frz o (.lst xs))) : TyOf K H (.ref a) (.type "list")
  | tup {a : Addr} {xs : List V} (e : H a = some (.tup xs)) : TyOf K H (.ref a) (.type "tuple")
  | dK {a : Addr} {kvs : List (Key × V)} (e : H a = some (.dK kvs)) : TyOf K H (.ref a) (.type "dict")
  | dT {a : Addr} {kvs : List (List Key × V)} (e : H a = some (.dT kvs)) : TyOf K H (.ref a) (.type "dict")
  | ins {a C dx : Addr} {fs : List (Str × V)} (e : H a = some (.ins C dx fs)) (cl : Cls K C) (ha : PySem.W.findIn K (.ref C) "__class__" = some (some (.builtin "object.__class__")))
      (hn : PySem.W.specialIn K (.builtin "object.__class__") "__get__" = some (some (.builtin "getset_descriptor.__get__"))) (htk : PySem.W.takesIn K (.builtin "object.__class__") = some true)
      (hm : PySem.W.mroIn K C (.type "object") = some true) : TyOf K H (.ref a) (.ref C)
theorem isinst_ok {x : V} {u t : Value} (I : Inv X pins σ H s) (rx : RelV x u) (ty : TyOf X.K H x t) (e : PySem.W.kitOne X.K t c = some b) (h : ∀ tk, Q (.bool b) { s with toks := tk }) :
    wpAny (model X.prog X.w) A (call (.builtin "isinstance") [u, c]) Q E s := by
  cases ty with
  | non => cases (show u = Value.none from rx); exact PySem.W.kia_one PySem.W.kitx_none I.kIn True.intro e (fun z => nomatch z) h
  | bl y => cases (show u = Value.bool y from rx); exact PySem.W.kia_one PySem.W.kitx_bool I.kIn True.intro e (fun z => nomatch z) h
  | int i => obtain ⟨t, q⟩ := (show ∃ t, u = Value.int i t from rx); cases q; exact PySem.W.kia_one PySem.W.kitx_int I.kIn True.intro e (fun z => nomatch z) h
  | str y => obtain ⟨t, q⟩ := (show ∃ t, u = Value.str y t from rx); cases q; exact PySem.W.kia_one PySem.W.kitx_str I.kIn True.intro e (fun z => nomatch z) h
  | flt y => obtain ⟨t, q⟩ := (show ∃ t, u = Value.float y t from rx); cases q; exact PySem.W.kia_one PySem.W.kitx_float I.kIn True.intro e (fun z => nomatch z) h
  | @lst a xs ea =>
    cases (show u = Value.ref a from rx)
    obtain ⟨_, _, n, _, h1⟩ := (show ObjOk X.prog X.w H s.heap a (.lst xs) from I.hok a _ ea)
    exact PySem.W.kia_one PySem.W.kitx_list I.kIn ⟨_, h1, rfl⟩ e (fun z => nomatch z) h
  | @frz a ob xs ea =>
    cases (show u = Value.ref a from rx)
    obtain ⟨_, _, _, n, _, h1⟩ := (show ObjOk X.prog X.w H s.heap a (.frz ob (.lst xs)) from I.hok a _ ea)
    exact PySem.W.kia_one PySem.W.kitx_list I.kIn ⟨_, h1, rfl⟩ e (fun z => nomatch z) h
  | @tup a xs ea =>
    cases (show u = Value.ref a from rx)
    obtain ⟨_, _, _, p⟩ := (show ObjOk X.prog X.w H s.heap a (.tup xs) from I.hok a _ ea)
    obtain ⟨o, h1, h2, _⟩ := p
    exact PySem.W.kia_one PySem.W.kitx_tuple I.kIn ⟨o, h1, h2⟩ e (fun z => nomatch z) h
  | @dK a kvs ea =>
    cases (show u = Value.ref a from rx)
    obtain ⟨_, _, vs, _, p⟩ := (show ObjOk X.prog X.w H s.heap a (.dK kvs) from I.hok a _ ea)
    obtain ⟨o, es, ep, h1, h2, _⟩ := p
    exact PySem.W.kia_one PySem.W.kitx_dict I.kIn ⟨o, h1, h2.1⟩ e (fun z => nomatch z) h
  | @dT a kvs ea =>
    cases (show u = Value.ref a from rx)
    obtain ⟨_, _, xs, _, o, es, ep, h1, h2, _⟩ := (show ObjOk X.prog X.w H s.heap a (.dT kvs) from I.hok a _ ea)
    exact PySem.W.kia_one PySem.W.kitx_dict I.kIn ⟨o, h1, h2.1⟩ e (fun z => nomatch z) h
  | @ins a C dx fs ea cl ha hn htk hm =>
    cases (show u = Value.ref a from rx)
    obtain ⟨mA, O, _⟩ := ins_get I.hok ea
    obtain ⟨od, J, _⟩ := O.look
    exact PySem.W.kia_one (PySem.W.kitx_own (cl.get _) cl.hd ha hn htk hm) I.kIn J e (fun z => nomatch z) h
end
end L2
namespace L2
open PySem PySem.Spec PyProof.Rows
structure Room (k : Nat) (A : Around) : Prop where
  hd : A.handled = none
  dp : A.depth + 3 * k + 5 < recursionLimit
  un : A.units + 16 * k + 200 < cLine
theorem Room.mono {j k : Nat} {A : Around} (r : Room k A) (h : j ≤ k) : Room j A := ⟨r.hd, by have := r.dp; omega, by have := r.un; omega⟩
theorem Room.deeper {k : Nat} {A : Around} (r : Room (k + 1) A) (env : Env) : Room k (A.deeper env) :=
  ⟨r.hd, by have := r.dp; show A.depth + 1 + 3 * k + 5 < _; omega, by have := r.un; show A.units + 3 + 16 * k + 200 < _; omega⟩
theorem Room.depth {k : Nat} {A : Around} (r : Room k A) : A.depth < recursionLimit := by have := r.dp; omega
theorem Room.units {k : Nat} {A : Around} (r : Room k A) : A.units + 64 < cLine := by have := r.un; omega
def tNil : TA := fun _ H Q => Q [] H
def tCons (ta : TE) (tr : TA) : TA := fun σ H Q => ta σ H fun x H1 => tr σ H1 fun xs H2 => Q (x :: xs) H2
section
variable {X : Cx} {e : Expr} {es : List Expr} {te : TE} {t : TA} {pos : Pos}
theorem pa_nil : PA X [] tNil := fun _ _ _ _ H Q I h => Calls.spliced_nil ⟨[], H, I, .nil, h⟩
theorem pa_cons (ha : PE X e te) (hr : PA X es t) (hs : starEach (e :: es) X.env = (false, eval e X.env) :: starEach es X.env := by rfl) : PA X (e :: es) (tCons te t) := by
  intro pos pins s σ H Q I h
  rw [hs]
  show wpAny _ _ (spliced ((false, eval e X.env) :: backTo pos (starEach es X.env))) _ _ s
  refine Calls.spliced_cons (thn (ha pins s σ H _ I h) fun u s1 ⟨x, H1, I1, r1, q1⟩ => ?_)
  exact thn (hr pos pins s1 σ H1 _ I1 q1) fun us s2 ⟨xs, H2, I2, r2, q2⟩ => ⟨x :: xs, H2, I2, .cons r1 r2, q2⟩
end
abbrev Sp := List V → Hp → VK → XK → Prop
abbrev CXT := List Env → Hp → Shared → XK → Value → Shared → Prop
structure Env0 (P : Program) (w : World) (K : PySem.W.Frag) (mg : Str → Option Value) (base : Heap) (A : Around) (outer : List Env) (s : Shared) (H : Hp) : Prop where
  frames : A.frames = some outer
  mod : Mod K mg base
  bs : ∀ b o, base.get? b = some o → s.heap.get? b = some o ∧ H b = none
  bsz : base.objs.size ≤ s.heap.objs.size
  funs : s.heap.FunFrames base outer
  frf : ∀ b ∈ frs outer, H b = none
  hok : HOk P w H s.heap
  bare : AllBare s.gens
def CE (outer : List Env) (P : Program) (w : World) (H : Hp) (s : Shared) (Q : VK) (u : Value) (s' : Shared) : Prop :=
  ∃ v H', s'.os = s.os ∧ AllBare s'.gens ∧ Un (frs outer) [] H H' s.heap s'.heap ∧ HOk P w H' s'.heap ∧ RelV v u ∧ Q v H'
def CR (CX : CXT) (outer : List Env) (P : Program) (w : World) (H : Hp) (s : Shared) (Q : VK) (E : XK) (r : Result) (s' : Shared) : Prop :=
  match r with
  | .ok (.ret u) => CE outer P w H s Q u s'
  | .ok _ => False
  | .error e => CX outer H s E e s'
structure FnOk (P : Program) (w : World) (K : PySem.W.Frag) (mg : Str → Option Value) (base : Heap) (CX : CXT) (k : Nat) (f : Addr) (fd : FuncData) (ps : List Str) (sp : Sp) : Prop where
  len : ∀ vs H Q E, sp vs H Q E → vs.length = ps.length
  run : ∀ (A : Around) (outer : List Env) (s : Shared) (H : Hp) (args : Args) (us : List Value) (vs : List V) (Q : VK) (E : XK), Room k A → Env0 P w K mg base A outer s H → BindsTo s fd args (ps.zip us) → Vals vs us → sp vs H Q E →
    codeAny (model P w) A (.call (.ref f) args) (CR CX outer P w H s Q E) s
section
variable {X : Cx} {pins : List (Addr × Obj)} {σ : St} {H : Hp} {s s' : Shared}
theorem Inv.env0 (I : Inv X pins σ H s) : Env0 X.prog X.w X.K X.mg X.base X.A X.stack s H :=
  ⟨I.ok.frames, I.ok.mod, I.bs, Nat.le_trans I.ok.bsz I.sz, I.stack, I.stkFree, I.hok, I.bare⟩
theorem Inv.after {Q : VK} {u : Value} (I : Inv X pins σ H s) (h : CE X.stack X.prog X.w H s Q u s') : EP X pins σ Q u s' := by
  obtain ⟨v, H', os, bare, un, hok, r, q⟩ := h
  obtain ⟨hh, g, d, t, os'⟩ := s'
  obtain rfl : os' = s.os := os
  exact ⟨v, H', I.call (h' := hh) (g' := g) (d' := d) (t' := t) (ch := []) un hok bare (fun b z => absurd z (by simp)), r, q⟩
end
def tCall (sp : Sp) (dvs : List V) (E : XK) (t : TA) : TE := fun σ H Q => t σ H fun vs H1 => sp (vs ++ dvs) H1 Q E
def Binds (K : PySem.W.Frag) (fd : FuncData) (ps : List Str) (ds : List Value) : Prop :=
  ∀ (s : Shared) (us : List Value), K.In s.heap → (us ++ ds).length = ps.length → BindsTo s fd ⟨us, []⟩ (ps.zip (us ++ ds))
theorem Binds.all {K : PySem.W.Frag} {fd : FuncData} {ps : List Str} (h : ∀ us : List Value, us.length = ps.length → bindArgs fd ⟨us, []⟩ = pure (ps.zip us)) : Binds K fd ps [] := fun s us _ hl => by
  rw [List.append_nil] at hl ⊢
  exact .of_eq (h us hl)
def Passes (CX : CXT) (X : Cx) (E : XK) : Prop := ∀ (pins : List (Addr × Obj)) (σ : St) (H : Hp) (s : Shared) (e : Value) (s' : Shared), Inv X pins σ H s → CX X.stack H s E e s' → X.xe e s'
section
variable {X : Cx} {CX : CXT} {k : Nat} {f C : Addr} {fd : FuncData} {ps : List Str} {sp : Sp} {dvs : List V} {ds : List Value} {E : XK} {x m : Str} {p pos apos : Pos} {e o : Expr} {es : List Expr} {ta : TE} {t : TA}
theorem run_fn {pins : List (Addr × Obj)} {σ : St} {H : Hp} {s : Shared} {Q : VK} {us : List Value} {vs : List V} (F : FnOk X.prog X.w X.K X.mg X.base CX k f fd ps sp) (hr : Room k X.A) (hb : Binds X.K fd ps ds) (hd : Vals dvs ds) (hx : Passes CX X E)
    (I : Inv X pins σ H s) (r : Vals vs us) (h : sp (vs ++ dvs) H Q E) : wpAny (model X.prog X.w) X.A (call (.ref f) us) (EP X pins σ Q) X.xe s := by
  have r2 : Vals (vs ++ dvs) (us ++ ds) := r.append hd
  have hl : (us ++ ds).length = ps.length := by rw [← r2.length]; exact F.len _ _ _ _ h
  refine wpAny_call (codeAny_mono (F.run X.A X.stack s H ⟨us, []⟩ (us ++ ds) (vs ++ dvs) Q E hr I.env0 (hb s us I.kIn hl) r2 h) fun r s' hq => ?_)
  cases r with
  | error e => exact hx pins σ H s e s' I hq
  | ok fl =>
    cases fl with
    | ret u => exact I.after hq
    | next => exact False.elim hq
    | brk => exact False.elim hq
    | cont => exact False.elim hq
theorem pe_call (F : FnOk X.prog X.w X.K X.mg X.base CX k f fd ps sp) (hr : Room k X.A) (hg : Gl X x) (hm : X.mg x = some (.ref f)) (hk : PySem.W.keepIn X.K (.ref f) = true) (hb : Binds X.K fd ps ds) (hd : Vals dvs ds) (hx : Passes CX X E)
    (ha : PA X (e :: es) t) (hdb : (x == ("__debug__" : Str)) = false := by decide) (he : starEach (e :: es) X.env = (false, eval e X.env) :: starEach es X.env := by rfl) (hpl : (backTo pos (starEach es X.env)).any (·.1) = false := by rfl) :
    PE X (.Call (.Name x p) (e :: es) [] pos) (tCall sp dvs E t) := by
  intro pins s σ H Q I h
  refine wpAny_Call_Name_kw (ld_glob I hg hm ?_ hdb)
  refine PySem.W.callWith_K (h₀ := X.base) I.ok.mod.kin hk (thn (ha pos pins s σ H _ I h) fun us s1 ⟨vs, H1, I1, r, q⟩ => ⟨I1.kIn, ?_⟩) he hpl
  exact run_fn F hr hb hd hx I1 r q
end
section
variable {X : Cx} {CX : CXT} {k : Nat} {f C : Addr} {fd : FuncData} {ps ks : List Str} {sp : Sp} {E : XK} {x m : Str} {p pos apos kpos : Pos} {e o : Expr} {es : List Expr} {kws : List Keyword} {te ta : TE} {t tk : TA} {nm : Option Str}
variable {g : List Value → List Value → List Value} {gV : List V → List V → List V}
end
structure FnScope (N P : List Str) (sc : Scope) : Prop where
  kind : sc.kind = .function
  co : sc.isCoroutine = false
  gen : sc.isGenerator = false
  nd : N.Nodup
  pre : N.take P.length = P
  par : ∀ x ∈ P, sc.names.lookup x = some .local ∨ sc.names.lookup x = some .cell
  nofree : ∀ y ∈ sc.names, y.2 ≠ .free
theorem bindL_out {kindOf : Str → Option NameKind} {x : Str} : ∀ {binds : List (Str × Value)} {m : Str → Option Value}, (∀ v, (x, v) ∉ binds) → bindL kindOf binds m x = m x
  | [], _, _ => rfl
  | (n, v) :: r, m, h => by
    unfold bindL
    rw [bindL_out fun w hw => h w (List.mem_cons_of_mem _ hw)]
    split
    · have : x ≠ n := by rintro rfl; exact h v List.mem_cons_self
      simp [this]
    · rfl
theorem bindC_out {kindOf : Str → Option NameKind} {x : Str} : ∀ {binds : List (Str × Value)} {m : Str → Option Value}, (∀ v, (x, v) ∉ binds) → bindC kindOf binds m x = m x
  | [], _, _ => rfl
  | (n, v) :: r, m, h => by
    unfold bindC
    rw [bindC_out fun w hw => h w (List.mem_cons_of_mem _ hw)]
    split
    · rfl
    · have : x ≠ n := by rintro rfl; exact h v List.mem_cons_self
      simp [this]
theorem bindL_get {kindOf : Str → Option NameKind} {x : Str} {v : Value} : ∀ {P : List Str} {vs : List Value} {i : Nat} {m : Str → Option Value}, P.Nodup → P[i]? = some x → vs[i]? = some v → kindOf x = some .local →
    bindL kindOf (P.zip vs) m x = some v
  | [], _, _, _, _, h, _, _ => by simp at h
  | _ :: _, [], _, _, _, _, h, _ => by simp at h
  | p :: P, w :: vs, 0, m, nd, h1, h2, hk => by
    simp at h1 h2; subst h1; subst h2
    show bindL kindOf ((p, w) :: P.zip vs) m p = _
    unfold bindL
    rw [bindL_out fun v hv => (List.nodup_cons.mp nd).1 (List.of_mem_zip hv).1, if_pos hk]
    simp
  | p :: P, w :: vs, i + 1, m, nd, h1, h2, hk => by
    show bindL kindOf ((p, w) :: P.zip vs) m x = _
    unfold bindL
    exact bindL_get (i := i) (List.nodup_cons.mp nd).2 (by simpa using h1) (by simpa using h2) hk
theorem bindC_get {kindOf : Str → Option NameKind} {x : Str} {v : Value} : ∀ {P : List Str} {vs : List Value} {i : Nat} {m : Str → Option Value}, P.Nodup → P[i]? = some x → vs[i]? = some v → kindOf x ≠ some .local →
    bindC kindOf (P.zip vs) m x = some v
  | [], _, _, _, _, h, _, _ => by simp at h
  | _ :: _, [], _, _, _, _, h, _ => by simp at h
  | p :: P, w :: vs, 0, m, nd, h1, h2, hk => by
    simp at h1 h2; subst h1; subst h2
    show bindC kindOf ((p, w) :: P.zip vs) m p = _
    unfold bindC
    rw [bindC_out fun v hv => (List.nodup_cons.mp nd).1 (List.of_mem_zip hv).1, if_neg hk]
    simp
  | p :: P, w :: vs, i + 1, m, nd, h1, h2, hk => by
    show bindC kindOf ((p, w) :: P.zip vs) m x = _
    unfold bindC
    exact bindC_get (i := i) (List.nodup_cons.mp nd).2 (by simpa using h1) (by simpa using h2) hk
def start (N : List Str) (vs : List V) : St := vs.map some ++ List.replicate (N.length - vs.length) none
def cxOf (CX : CXT) (P : Program) (w : World) (K : PySem.W.Frag) (mg : Str → Option Value) (base : Heap) (N : List Str) (qual : Str) (scope : Scope) (f : Addr) (cd : Value) (A : Around) (outer : List Env) (s : Shared) (H : Hp) (E : XK) : Cx where
  prog := P
  w := w
  K := K
  mg := mg
  base := base
  A := A.deeper (envOfC qual scope s.heap.objs.size f cd)
  N := N
  s₀ := s
  H₀ := H
  env := envOfC qual scope s.heap.objs.size f cd
  outer := outer
  stack := envOfC qual scope s.heap.objs.size f cd :: outer
  ex := []
  calm := true
  fn := fun _ => true
  pn := []
  xe := fun e s' => wpAny (model P w) (A.deeper (envOfC qual scope s.heap.objs.size f cd)) (leaving (envOfC qual scope s.heap.objs.size f cd) e) (fun _ s'' => CX outer H s E e s'') (fun e' s'' => CX outer H s E e' s'') s'
theorem cell_has {sc : Scope} {n : Nat} {x : Str} (h : sc.names.lookup x = some .cell) : ∃ c, (cellsFrom n sc.names []).lookup x = some c := by
  have q := PySem.W.cellsFrom_some sc.names n [] (.inl h)
  exact Option.isSome_iff_exists.mp q
theorem inv_start {CX : CXT} {P : Program} {w : World} {K : PySem.W.Frag} {mg : Str → Option Value} {base : Heap} {N ps : List Str} {qual : Str} {scope : Scope} {f : Addr} {cd : Value} {A : Around} {outer : List Env} {s s1 : Shared} {H : Hp} {E : XK} {us : List Value} {vs : List V}
    (S : FnScope N ps scope) (hd : A.handled = none) (e0 : Env0 P w K mg base A outer s H) (hl : vs.length = ps.length) (r : Vals vs us)
    (x : InCallC s s.heap.objs.size (bindL (envOfC qual scope s.heap.objs.size f cd).kindOf (ps.zip us) fun _ => none) (cellsFrom (s.heap.objs.size + 1) scope.names []) (bindC (envOfC qual scope s.heap.objs.size f cd).kindOf (ps.zip us) fun _ => none) s1) :
    Inv (cxOf CX P w K mg base N qual scope f cd A outer s H E) [] (start N vs) H s1 := by
  have hpl : ps.length ≤ N.length := by have := congrArg List.length S.pre; rw [List.length_take] at this; omega
  obtain ⟨h1, tk, rfl, hk⟩ := x.done
  have noA : ∀ b : Addr, b ∉ (cxOf CX P w K mg base N qual scope f cd A outer s H E).ex := fun b z => absurd (show b ∈ ([] : List Addr) from z) (by simp)
  refine ⟨⟨e0.mod, S.kind, rfl, rfl, Nat.le_refl _, fun y z c h1 h2 => ?_, fun y hy => ?_, fun y c _ h => ?_, fun _ => hd, Around.frames_deeper e0.frames, .inr ⟨rfl, rfl⟩, fun b z => absurd z (noA b), e0.bs, e0.bsz, fun b _ _ => noA b, fun b z => absurd z (noA b), e0.funs, e0.frf⟩,
    rfl, e0.bare, Un.kept hk, ⟨_, x.toInCall.ns, fun i y v h1 h2 h3 => ?_⟩, fun y c h => ⟨_, x.cell y c h⟩, e0.hok.fresh (Nat.le_refl _), fun y c h => ?_, fun p hp => absurd (show p ∈ ([] : List (Addr × Obj)) from hp) (by simp), e0.hok.kept hk, ?_⟩
  · exact name_of_addr x.apart (PySem.mem_of_lookup h1) (PySem.mem_of_lookup h2)
  · have hy : scope.names.lookup y = some .cell ∨ scope.names.lookup y = some .free := hy
    rcases hy with hy | hy
    · exact cell_has hy
    · exact absurd rfl (S.nofree _ (PySem.mem_of_lookup hy))
  · exact Nat.le_of_lt (x.above y c (PySem.mem_of_lookup h))
  · have hi : i < vs.length := by
      unfold start at h2
      by_cases hi : i < vs.length
      · exact hi
      · rw [List.getElem?_append_right (by simpa using hi)] at h2
        rw [List.getElem?_replicate] at h2
        split at h2 <;> cases h2
    have ha : vs[i]? = some v := by
      unfold start at h2
      rw [List.getElem?_append_left (by simpa using hi), List.getElem?_map] at h2
      cases e : vs[i]? with
      | none => rw [e] at h2; cases h2
      | some a => rw [e] at h2; cases h2; rfl
    obtain ⟨u, hu, rv⟩ := r.get ha
    have hp : ps[i]? = some y := by
      rw [← S.pre, List.getElem?_take_of_lt (by omega)]; exact h1
    have ndP : ps.Nodup := by rw [← S.pre]; exact S.nd.sublist (List.take_sublist _ _)
    refine ⟨u, rv, ?_⟩
    rcases S.par y (List.mem_of_getElem? hp) with k | k
    · exact .inl ⟨k, bindL_get ndP hp hu k⟩
    · obtain ⟨c, e⟩ := cell_has (n := s.heap.objs.size + 1) k
      refine .inr ⟨.inl k, c, e, ?_⟩
      have q := x.cell y c e
      rw [bindC_get ndP hp hu (by show scope.names.lookup y ≠ _; rw [k]; decide)] at q
      exact q
  · exact e0.hok.fresh (Nat.le_of_lt (x.above y c (PySem.mem_of_lookup h)))
  · unfold start
    show _ = N.length
    rw [List.length_append, List.length_map, List.length_replicate]
    omega
theorem fn_of {CX : CXT} {P : Program} {w : World} {K : PySem.W.Frag} {mg : Str → Option Value} {base : Heap} {k : Nat} {f : Addr} {name qual : Str} {params : Arguments} {body : List Stmt} {scope : Scope} {dV kV doc pm cdv ct oc : Value} {an od : Option Addr}
    {osl : Array (Option Value)} {N ps : List Str} {sp : Sp} (lk : K.lookup f = some ⟨oc, od, .func (PySem.W.fnOf name qual params body scope dV kV doc pm an cdv ct), osl⟩) (hcd : PySem.W.codeIn K cdv qual = true) (S : FnScope N ps scope)
    (len : ∀ vs H Q E, sp vs H Q E → vs.length = ps.length)
    (hbody : ∀ (A : Around) (outer : List Env) (s : Shared) (H : Hp) (vs : List V) (Q : VK) (E : XK), Room k (A.deeper (envOfC qual scope s.heap.objs.size f cdv)) → sp vs H Q E →
      ∃ t, PSs (cxOf CX P w K mg base N qual scope f cdv A outer s H E) body t ∧ t { nx := fun _ H' => Q .non H', rt := Q } (start N vs) H) :
    FnOk P w K mg base CX (k + 1) f (PySem.W.fnOf name qual params body scope dV kV doc pm an cdv ct) ps sp := by
  refine ⟨len, fun A outer s H args us vs Q E hr e0 hb r hsp => ?_⟩
  have hl := len _ _ _ _ hsp
  have KX : K.In s.heap := e0.mod.kin.keeps fun b o e => (e0.bs b o e).1
  have lim : s.heap.NoLimit := e0.mod.nolimit.keeps fun b o e => (e0.bs b o e).1
  have hkind : ∀ y ∈ ps.zip us, scope.names.lookup y.1 = some .local ∨ (scope.names.lookup y.1 = some .cell ∧ ((cellsFrom (s.heap.objs.size + 1) scope.names []).lookup y.1).isSome = true) := fun ⟨n, v⟩ hy => by
    rcases S.par n (List.of_mem_zip hy).1 with q | q
    · exact .inl q
    · exact .inr ⟨q, PySem.W.cellsFrom_some _ _ _ (.inl q)⟩
  refine codeAny_call_function hr.depth (KX _ _ lk) rfl S.co S.gen rfl (PySem.W.codeRec_of KX hcd) (hb _ _ _ _ ?_)
  refine wpAny_newFunctionEnv_cells S.kind hkind fun env he s1 x => ?_
  subst he
  refine ⟨lim.keeps x.toInCall.keep, codeAny_func ?_⟩
  obtain ⟨t, ht, hq⟩ := hbody A outer s H vs Q E (hr.deeper _) hsp
  have I : Inv (cxOf CX P w K mg base N qual scope f cdv A outer s H E) [] (start N vs) H s1 := inv_start S hr.hd e0 hl r x
  refine wpAny_mono (ht [] s1 (start N vs) H _ I hq) (fun fl s' hs => ?_) fun e s' hs => hs
  have fin : ∀ {σ' : St} {H' : Hp} {v : V} {u : Value}, Inv (cxOf CX P w K mg base N qual scope f cdv A outer s H E) [] σ' H' s' → RelV v u → Q v H' → CE outer P w H s Q u s' :=
    fun {σ' H' v u} J rv q => ⟨v, H', J.os, J.bare, J.base, J.hok, rv, q⟩
  cases fl with
  | ret u =>
    obtain ⟨v, σ', H', J, rv, q⟩ := hs
    exact fin J rv q
  | next =>
    obtain ⟨σ', H', J, q⟩ := hs
    exact fin (v := V.non) (u := Value.none) J rfl q
  | brk =>
    obtain ⟨_, _, _, q⟩ := hs
    exact False.elim q
  | cont =>
    obtain ⟨_, _, _, q⟩ := hs
    exact False.elim q
end L2
namespace L2
open PySem PySem.Spec PyProof.Rows
section
variable {X : Cx} {x : Str} {p pos : Pos} {e : Expr} {es : List Expr} {t : TA} {id T : String} {r : List V → Hp → VK → Prop}
def tCB (r : List V → Hp → VK → Prop) (t : TA) : TE := fun σ H Q => t σ H fun vs H1 => r vs H1 Q
theorem pe_callB (hc : CallR X (.builtin id) r) (hg : Gl X x) (hm : X.mg x = none) (hv : bootBuiltins x = some (.builtin id)) (ha : PA X (e :: es) t) (hn : x ≠ "__name__" := by decide) (hdb : (x == ("__debug__" : Str)) = false := by decide)
    (he : starEach (e :: es) X.env = (false, eval e X.env) :: starEach es X.env := by rfl) (hpl : (backTo pos (starEach es X.env)).any (·.1) = false := by rfl) : PE X (.Call (.Name x p) (e :: es) [] pos) (tCB r t) := by
  intro pins s σ H Q I h
  refine wpAny_Call_Name_kw (ld_blt I hg hm hv ?_ hn hdb)
  exact PyProof.Rows.callWith_builtin1 (thn (ha pos pins s σ H _ I h) fun us s1 ⟨vs, H1, I1, r1, q1⟩ => hc pins s1 σ H1 vs us Q I1 r1 q1) he hpl
theorem pe_callTy (hc : CallR X (.type T) r) (hg : Gl X x) (hm : X.mg x = none) (hv : bootBuiltins x = some (.type T)) (ha : PA X (e :: es) t) (hn : x ≠ "__name__" := by decide) (hdb : (x == ("__debug__" : Str)) = false := by decide)
    (he : starEach (e :: es) X.env = (false, eval e X.env) :: starEach es X.env := by rfl) (hpl : (backTo pos (starEach es X.env)).any (·.1) = false := by rfl) : PE X (.Call (.Name x p) (e :: es) [] pos) (tCB r t) := by
  intro pins s σ H Q I h
  refine wpAny_Call_Name_kw (ld_blt I hg hm hv ?_ hn hdb)
  exact PyProof.Rows.callWith_type1 (thn (ha pos pins s σ H _ I h) fun us s1 ⟨vs, H1, I1, r1, q1⟩ => hc pins s1 σ H1 vs us Q I1 r1 q1) he hpl
end
end L2
namespace HT
open PySem PyProof.Rows
section
open PySem.SeqAt
open PySem.AutoSeq1 (wpAny_loadPart')
open PySem.MeetsSeq PySem.MeetsSeq2 PySem.MeetsSeq3
end
section
variable {prog : Program} {w : World} {A : Around} {E : Value → Shared → Prop} {s : Shared}
def sIx (n d : Nat) : Option Int → Nat
  | none => d
  | some v => if v < 0 then (v + (n : Int)).toNat else min v.toNat n
theorem sIx_none (n d : Nat) : sIx n d none = d := rfl
theorem sIx_nat (n d k : Nat) : sIx n d (some (k : Int)) = min k n := by
  show (if (k : Int) < 0 then ((k : Int) + (n : Int)).toNat else min (k : Int).toNat n) = min k n
  rw [if_neg (by omega), Int.toNat_natCast]
theorem sIx_le (n d : Nat) (hd : d ≤ n) (o : Option Int) : sIx n d o ≤ n := by
  cases o with
  | none => exact hd
  | some v =>
    show (if v < 0 then (v + (n : Int)).toNat else min v.toNat n) ≤ n
    by_cases hv : v < 0
    · rw [if_pos hv]; omega
    · rw [if_neg hv]; exact Nat.min_le_right _ _
end
end HT
namespace L2
open PySem PySem.Spec PyProof.Rows
abbrev TO := St → Hp → (Option Int → Hp → Prop) → Prop
def PO (X : Cx) (e : Option Expr) (t : TO) : Prop :=
  ∀ (pins : List (Addr × Obj)) (s : Shared) (σ : St) (H : Hp) (Q : Option Int → Hp → Prop), Inv X pins σ H s → t σ H Q →
    wpAny (model X.prog X.w) X.A (evalPart e X.env) (fun u s' => ∃ o H', Inv X pins σ H' s' ∧ IsPart u o ∧ Q o H') X.xe s
def tNoPart : TO := fun _ H Q => Q none H
def tPart (t : TE) : TO := fun σ H Q => t σ H fun x H1 => ∃ i, x = .int i ∧ Q (some i) H1
section
variable {X : Cx} {e : Expr} {te : TE} {lo hi : Option Expr} {tl th : TO} {pos p2 : Pos}
theorem po_none : PO X none tNoPart := by
  intro pins s σ H Q I h
  rw [evalPart_none]
  exact wpAny_pure ⟨none, H, I, .none, h⟩
theorem po_some (h : PE X e te) : PO X (some e) (tPart te) := by
  intro pins s σ H Q I hw
  rw [evalPart_some]
  refine thn (h pins s σ H _ I hw) fun u s1 ⟨x, H1, I1, r1, q1⟩ => ?_
  obtain ⟨i, rfl, q⟩ := q1
  obtain ⟨t, rfl⟩ := r1
  exact ⟨some i, H1, I1, .int i t, q⟩
def SlR (X : Cx) (r : V → Option Int → Option Int → Hp → VK → Prop) : Prop :=
  ∀ (pins : List (Addr × Obj)) (s : Shared) (σ : St) (H : Hp) (x : V) (v vl vu : Value) (lo hi : Option Int) (sl : Addr) (Q : VK), Inv X pins σ H s → RelV x v → s.heap.IsSliceOf sl vl vu .none → IsPart vl lo → IsPart vu hi → r x lo hi H Q →
    ∃ T id, typeLookup (.type T) "__getitem__" = pure (some (.builtin id)) ∧ s.TypeIs v T ∧ wpAny (model X.prog X.w) X.A (getItem v (.ref sl)) (EP X pins σ Q) X.xe s
def tSl (r : V → Option Int → Option Int → Hp → VK → Prop) (te : TE) (tl th : TO) : TE := fun σ H Q => te σ H fun x H1 => tl σ H1 fun l H2 => th σ H2 fun u H3 => r x l u H3 Q
theorem pe_slice {r : V → Option Int → Option Int → Hp → VK → Prop} (hr : SlR X r) (he : PE X e te) (hl : PO X lo tl) (hu : PO X hi th) : PE X (.Subscript e (.Slice lo hi none p2) pos) (tSl r te tl th) := by
  intro pins s σ H Q I h
  refine Subscript_ (thn (he pins s σ H _ I h) fun v s1 ⟨x, H1, I1, r1, q1⟩ => ?_)
  refine wpAny_Slice (thn (hl pins s1 σ H1 _ I1 q1) fun vl s2 ⟨l, H2, I2, pl, q2⟩ => thn (hu pins s2 σ H2 _ I2 q2) fun vu s3 ⟨u, H3, I3, pu, q3⟩ => ?_)
  rw [evalPart_none]
  refine wpAny_pure ?_
  have I4 : Inv X pins σ H3 { s3 with heap := s3.heap.push { cls := .type "slice", data := .fields #[vl, vu, .none] } } := I3.kept (t' := s3.toks) fun b ob q => Heap.get?_push_of_some _ q
  obtain ⟨T, id, hT, ht, hg⟩ := hr pins { s3 with heap := s3.heap.push { cls := .type "slice", data := .fields #[vl, vu, .none] } } σ H3 x v vl vu l u s3.heap.objs.size Q I4 r1 (Heap.IsSliceOf.new ..) pl pu q3
  show wpAny (model X.prog X.w) X.A (subscriptTail e (.Slice lo hi none p2) v (.ref s3.heap.objs.size)) (EP X pins σ Q) X.xe { s3 with heap := s3.heap.push { cls := .type "slice", data := .fields #[vl, vu, .none] } }
  exact tail_any (ops := [.ref s3.heap.objs.size, v]) ht hT hg (by with_unfolding_all rfl)
end
end L2
namespace L2
open PySem PySem.Spec PyProof.Rows
def ixN (n : Nat) (i : Int) : Option Nat := if 0 ≤ i then (if i < n then some i.toNat else none) else if -(n : Int) ≤ i then some (i + n).toNat else none
def atI {α : Type} (xs : List α) (i : Int) : Option α := (ixN xs.length i).bind fun j => xs[j]?
theorem ixN_seq {n : Nat} {i : Int} {j : Nat} (h : ixN n i = some j) : seqIndex? i n = some j ∧ j < n ∧ -(n : Int) ≤ i ∧ i < n := by
  unfold ixN at h
  by_cases h0 : 0 ≤ i
  · rw [if_pos h0] at h
    by_cases h1 : i < n
    · rw [if_pos h1] at h
      have e : i.toNat = j := Option.some.inj h
      exact ⟨by rw [seqIndex_of h0 h1, e], by omega, by omega, h1⟩
    · rw [if_neg h1] at h; cases h
  · rw [if_neg h0] at h
    by_cases h1 : -(n : Int) ≤ i
    · rw [if_pos h1] at h
      have e : (i + n).toNat = j := Option.some.inj h
      exact ⟨by rw [seqIndex_neg (by omega) h1, e], by omega, h1, by omega⟩
    · rw [if_neg h1] at h; cases h
theorem atI_get {α : Type} {xs : List α} {i : Int} {v : α} (h : atI xs i = some v) : ∃ j, seqIndex? i xs.length = some j ∧ xs[j]? = some v ∧ j < xs.length ∧ -(xs.length : Int) ≤ i ∧ i < xs.length := by
  unfold atI at h
  cases e : ixN xs.length i with
  | none => rw [e] at h; cases h
  | some j =>
    rw [e] at h
    obtain ⟨h1, h2, h3, h4⟩ := ixN_seq e
    exact ⟨j, h1, h, h2, h3, h4⟩
def PlainIx (b : Expr) : Prop := ∀ o i, subscripted b false o i = operate [o, i] (getItem o i)
def IxR (X : Cx) (r : R2) : Prop :=
  ∀ (value slice : Expr) (pins : List (Addr × Obj)) (s : Shared) (σ : St) (H : Hp) (x y : V) (v u : Value) (Q : VK), Inv X pins σ H s → RelV x v → RelV y u → r x y H Q →
    subscripted slice false v u = operate [v, u] (getItem v u) → wpAny (model X.prog X.w) X.A (subscriptTail value slice v u) (EP X pins σ Q) X.xe s
def MtR (X : Cx) (id : String) (r : V → List V → Hp → VK → Prop) : Prop :=
  ∀ (pins : List (Addr × Obj)) (s : Shared) (σ : St) (H : Hp) (x : V) (xs : List V) (v : Value) (us : List Value) (Q : VK), Inv X pins σ H s → RelV x v → Vals xs us → r x xs H Q →
    wpAny (model X.prog X.w) X.A (call (.builtin id) (v :: us)) (EP X pins σ Q) X.xe s
section
variable {X : Cx} {a b : Expr} {ta tb : TE} {pos : Pos}
theorem IxR.or {r r' : R2} (h : IxR X r) (h' : IxR X r') : IxR X (fun x y H Q => r x y H Q ∨ r' x y H Q) := by
  intro value slice pins s σ H x y v u Q I rx ry q hs
  rcases q with q | q
  · exact h value slice pins s σ H x y v u Q I rx ry q hs
  · exact h' value slice pins s σ H x y v u Q I rx ry q hs
theorem pe_ix {r : R2} (hr : IxR X r) (ha : PE X a ta) (hb : PE X b tb) (hs : PlainIx b) : PE X (.Subscript a b pos) (tOp r ta tb) := by
  intro pins s σ H Q I h
  exact Subscript_ (binT ha hb I h fun v u s2 x y H2 I2 rx ry q => hr a b pins s2 σ H2 x y v u Q I2 rx ry q (hs _ _))
def rIxL (K : PySem.W.Frag) : R2 := fun x y H Q => ∃ p xs i v, x = .ref p ∧ y = .int i ∧ SqL K H p xs ∧ atI xs i = some v ∧ Q v H
def rIxT (K : PySem.W.Frag) : R2 := fun x y H Q => ∃ p xs i v, x = .ref p ∧ y = .int i ∧ SqT K H p xs ∧ atI xs i = some v ∧ Q v H
def rIxS : R2 := fun x y H Q => ∃ z i c, x = .str z ∧ y = .int i ∧ z.length ≤ sizeLine ∧ atI z.cps.toList i = some c ∧ Q (.str ⟨#[c]⟩) H
theorem ix_list : IxR X (rIxL X.K) := by
  intro value slice pins s σ H x y v u Q I rx ry h hs
  obtain ⟨p, xs, i, z, rfl, rfl, hq, he, q⟩ := h
  cases rx
  obtain ⟨t, rfl⟩ := ry
  obtain ⟨its, r, pl, hz⟩ := I.list hq
  obtain ⟨j, h1, h2, h3, h4, h5⟩ := atI_get he
  obtain ⟨w, ew, rw'⟩ := r.get h2
  have hl := r.length
  have hn := line63
  have fin : EP X pins σ Q w s := ⟨z, H, I, rw', q⟩
  by_cases h0 : 0 ≤ i
  · have hj : i.toNat = j := by
      rw [seqIndex_of h0 h5] at h1
      exact Option.some.inj h1
    exact item_listR pl.isList h0 (by omega) (by rw [hj]; simpa using ew) fin hs
  · have hj : (i + (its.toArray.size : Int)).toNat = j := by
      rw [seqIndex_neg (by omega) h4] at h1
      rw [List.size_toArray, ← hl]
      exact Option.some.inj h1
    exact subscriptTail_builtinR (x := w) pl.isList.typeIs slot_list_getitem.lookup
      (wpAny_getItem_list_neg (Q := fun r s' => r = w ∧ EP X pins σ Q r s') pl.isList (by omega) (by rw [List.size_toArray] <;> omega) (by omega) (by rw [hj]; simpa using ew) ⟨rfl, fin⟩) hs
theorem ix_tup : IxR X (rIxT X.K) := by
  intro value slice pins s σ H x y v u Q I rx ry h hs
  obtain ⟨p, xs, i, z, rfl, rfl, hq, he, q⟩ := h
  cases rx
  obtain ⟨t, rfl⟩ := ry
  obtain ⟨its, r, pl, hz⟩ := I.tuple hq
  obtain ⟨j, h1, h2, h3, h4, h5⟩ := atI_get he
  obtain ⟨w, ew, rw'⟩ := r.get h2
  have hl := r.length
  have hn := line63
  have fin : EP X pins σ Q w s := ⟨z, H, I, rw', q⟩
  exact subscriptTail_builtinR (x := w) pl.typeIs slot_tuple_getitem.lookup
    (getItem_tuple (j := j) (Q := fun r s' => r = w ∧ EP X pins σ Q r s') pl (by omega) (by omega) (by rw [List.size_toArray, ← hl]; exact h1) (by simpa using ew) ⟨rfl, fin⟩) hs
theorem ix_str : IxR X rIxS := by
  intro value slice pins s σ H x y v u Q I rx ry h hs
  obtain ⟨z, i, c, rfl, rfl, hz, he, q⟩ := h
  obtain ⟨t, rfl⟩ := rx
  obtain ⟨t', rfl⟩ := ry
  obtain ⟨j, h1, h2, h3, h4, h5⟩ := atI_get he
  have hl : z.cps.toList.length = z.length := by simp [Str.length]
  rw [hl] at h1 h4 h5
  have hn := line63
  exact tail_any (typeIs_str s z t) slot_str_getitem.lookup (getItem_str (c := c) (by
    have e1 : decide (i < -(2 ^ 63 : Int)) = false := decide_eq_false (by omega)
    have e2 : decide (i ≥ 2 ^ 63) = false := decide_eq_false (by omega)
    rw [e1, e2, Bool.or_false]) (by rw [h1]; simpa using h2) ⟨.str ⟨#[c]⟩, H, I.tok _, ⟨_, rfl⟩, q⟩) hs
def rIx (K : PySem.W.Frag) : R2 := fun x y H Q => rIxL K x y H Q ∨ rIxT K x y H Q ∨ rIxS x y H Q
theorem ix_seq : IxR X (rIx X.K) := ix_list.or (ix_tup.or ix_str)
theorem call_len_seq : CallR X (.builtin "len") (fun xs H Q => ∃ p ys, xs = [.ref p] ∧ (SqL X.K H p ys ∨ SqT X.K H p ys) ∧ Q (.int ys.length) H) := by
  intro pins s σ H xs us Q I r h
  obtain ⟨p, ys, rfl, hq, q⟩ := h
  obtain ⟨u, rfl, rx⟩ := vals1 r
  cases rx
  have hn := line63
  rcases hq with hq | hq
  · obtain ⟨its, r', pl, hz⟩ := I.list hq
    have hlen := r'.length
    exact Calls.call_len_list pl.isList (by simp only [List.size_toArray] <;> omega) ⟨.int ys.length, H, I.tok _, ⟨s.toks + 1, by rw [List.size_toArray, hlen]⟩, q⟩
  · obtain ⟨its, r', pl, hz⟩ := I.tuple hq
    have hlen := r'.length
    exact len_tuple pl (by simp only [List.size_toArray] <;> omega) ⟨.int ys.length, H, I.tok _, ⟨s.toks + 1, by rw [List.size_toArray, hlen]⟩, q⟩
theorem call_len_str : CallR X (.builtin "len") (fun xs H Q => ∃ z, xs = [.str z] ∧ z.length ≤ sizeLine ∧ Q (.int z.length) H) := by
  intro pins s σ H xs us Q I r h
  obtain ⟨z, rfl, hz, q⟩ := h
  obtain ⟨u, rfl, t, rfl⟩ := vals1 r
  have hn := line63
  exact len_str (by omega) ⟨.int z.length, H, I.tok _, ⟨_, rfl⟩, q⟩
theorem CallR.or {f : Value} {r r' : List V → Hp → VK → Prop} (h : CallR X f r) (h' : CallR X f r') : CallR X f (fun xs H Q => r xs H Q ∨ r' xs H Q) := by
  intro pins s σ H xs us Q I rs q
  rcases q with q | q
  · exact h pins s σ H xs us Q I rs q
  · exact h' pins s σ H xs us Q I rs q
def tyV (K : PySem.W.Frag) (T : String) (x : V) (H : Hp) : Prop := match x with
  | .str _ => T = "str"
  | .int _ => T = "int"
  | .ref p => (T = "list" ∧ ∃ xs, SqL K H p xs) ∨ (T = "tuple" ∧ ∃ o, K.lookup p = some o ∧ o.cls = .type "tuple" ∧ o.dict = none) ∨
      (T = "dict" ∧ ((∃ kvs, H p = some (.dK kvs)) ∨ ∃ kvs, H p = some (.dT kvs))) ∨ (T = "set" ∧ ∃ S n, H p = some (.set S n))
  | _ => False
theorem tyV_is {pins : List (Addr × Obj)} {σ : St} {H : Hp} {s : Shared} {T : String} {x : V} {v : Value} (I : Inv X pins σ H s) (r : RelV x v) (ty : tyV X.K T x H) :
    s.TypeIs v T ∧ ∀ a, v = .ref a → ∃ ob, s.heap.get? a = some ob ∧ ob.dict = none := by
  cases x with
  | str z =>
    obtain ⟨t, rfl⟩ := r
    cases (show T = "str" from ty)
    exact ⟨typeIs_str s z t, fun _ e => nomatch e⟩
  | int i =>
    obtain ⟨t, rfl⟩ := r
    cases (show T = "int" from ty)
    exact ⟨typeIs_int s i t, fun _ e => nomatch e⟩
  | ref p =>
    cases r
    rcases ty with ⟨rfl, xs, hq⟩ | ⟨rfl, o, hk, hc, hd⟩ | ⟨rfl, hk⟩ | ⟨rfl, S, n, hk⟩
    · obtain ⟨its, _, pl, _⟩ := I.list hq
      refine ⟨pl.isList.typeIs, fun a e => ?_⟩
      cases e
      obtain ⟨o, n, e, c, hd, _⟩ := pl
      exact ⟨o, e, hd⟩
    · refine ⟨⟨o, I.kIn p o hk, hc⟩, fun a e => ?_⟩
      cases e
      exact ⟨o, I.kIn _ o hk, hd⟩
    · have z : ∃ o, s.heap.get? p = some o ∧ o.ExactDict := by
        rcases hk with ⟨kvs, hk⟩ | ⟨kvs, hk⟩
        · obtain ⟨_, _, _, _, o, _, _, e, ex, _⟩ := I.hok p _ hk
          exact ⟨o, e, ex⟩
        · obtain ⟨_, _, _, _, o, _, _, e, ex, _⟩ := I.hok p _ hk
          exact ⟨o, e, ex⟩
      obtain ⟨o, e, ex⟩ := z
      refine ⟨⟨o, e, ex.1⟩, fun a e2 => ?_⟩
      cases e2
      exact ⟨o, e, ex.2.1⟩
    · obtain ⟨o, _, _, _, e, ex, _⟩ := I.hok p _ hk
      refine ⟨⟨o, e, ex.1⟩, fun a e2 => ?_⟩
      cases e2
      exact ⟨o, e, ex.2.1⟩
  | _ => exact False.elim ty
def tBM (K : PySem.W.Frag) (T : String) (r : V → List V → Hp → VK → Prop) (to : TE) (t : TA) : TE := fun σ H Q => to σ H fun x H1 => tyV K T x H1 ∧ t σ H1 fun xs H2 => r x xs H2 Q
variable {o e : Expr} {es : List Expr} {to : TE} {t : TA} {name : Str} {apos cpos : Pos} {T id : String} {r : V → List V → Hp → VK → Prop}
theorem pe_bm (pa : PlainAttrs T) (slot : Slot T name id) (hty : typeOf (.builtin id) = pure (.type "method_descriptor")) (hm : MtR X id r) (ho : PE X o to) (ha : PA X (e :: es) t)
    (hbase : attributeBase o name X.env (eval o X.env) = eval o X.env := by rfl)
    (hfew : ((backTo cpos (starEach (e :: es) X.env)).all (fun x => !x.1) && (backToKw cpos (keywordEach [] X.env)).all (fun x => x.1.isSome)
      && decide ((e :: es).length + ([] : List Keyword).length + (if ([] : List Keyword).isEmpty then 0 else 1) < 30)) = true := by rfl)
    (hline : (apos.endLine == cpos.line) = true := by rfl) (hs : starEach (e :: es) X.env = (false, eval e X.env) :: starEach es X.env := by rfl) (hplain : (backTo cpos (starEach es X.env)).any (·.1) = false := by rfl) :
    PE X (.Call (.Attribute o name apos) (e :: es) [] cpos) (tBM X.K T r to t) := by
  intro pins s σ H Q I h
  refine wpAny_Call_method_late hbase hfew hline rfl (thn (ho pins s σ H _ I h) fun v s1 ⟨x, H1, I1, r1, ty, q1⟩ => ?_)
  obtain ⟨h1, h2⟩ := tyV_is I1 r1 ty
  refine ⟨T, id, pa, slot, hty, h1, h2, ?_⟩
  have hA := ha cpos pins s1 σ H1 _ I1 q1
  rw [hs] at hA ⊢
  refine Calls.callWith_builtin (by show (false || (backTo cpos (starEach es X.env)).any (·.1)) = false; rw [hplain] <;> rfl) (Calls.evalArgs_plain ?_)
  exact thn hA fun us s2 ⟨vs, H2, I2, r2, q2⟩ => hm pins s2 σ H2 x vs v us Q I2 r1 r2 q2
/- xs.append(e), list.index on a module's tuple .. are MtR facts of 06m -/
end
end L2
namespace L2
open PySem PySem.Spec PyProof.Rows
def MtM (X : Cx) (id : String) (r : V → List V → Hp → VK → Prop) : Prop :=
  ∀ (pins : List (Addr × Obj)) (s : Shared) (σ : St) (H : Hp) (x : V) (xs : List V) (v : Value) (us : List Value) (Q : VK), Inv X pins σ H s → RelV x v → Vals xs us → r x xs H Q →
    wpAny (model X.prog X.w) X.A (call (.builtin id) (v :: us)) (EP X pins σ Q) X.xe s
theorem Vals.one : ∀ {x : V} {us : List Value}, Vals [x] us → ∃ u, us = [u] ∧ RelV x u
  | _, _, .cons r .nil => ⟨_, rfl, r⟩
theorem Vals.rep {xs : List V} {us : List Value} (h : Vals xs us) : ∀ k : Nat, Vals (List.replicate k xs).flatten (List.replicate k us).flatten
  | 0 => .nil
  | k + 1 => by
    rw [List.replicate_succ, List.replicate_succ, List.flatten_cons, List.flatten_cons]
    exact Vals.append h (Vals.rep h k)
theorem foldl_rep (its : List Value) : ∀ (k : Nat) (acc : List Value),
    List.foldl (fun x1 x2 => x1 ++ x2) acc.toArray (List.replicate k its.toArray) = (acc ++ (List.replicate k its).flatten).toArray
  | 0, acc => by simp
  | k + 1, acc => by
    have e : acc.toArray ++ its.toArray = (acc ++ its).toArray := by simp
    have e2 : (acc ++ its) ++ (List.replicate k its).flatten = acc ++ (List.replicate (k + 1) its).flatten := by
      rw [List.replicate_succ, List.flatten_cons, List.append_assoc]
    rw [← e2, ← foldl_rep its k (acc ++ its), ← e, List.replicate_succ, List.foldl_cons]
section
variable {X : Cx} {pins : List (Addr × Obj)} {σ : St} {H : Hp} {s : Shared} {l b : Addr} {xs ys zs : List V}
theorem Inv.lset {its its' : List Value} {n : Nat} {f : Array Value → Array Value} {t' : Nat} (I : Inv X pins σ H s) (hH : H l = some (.lst xs))
    (e : s.heap.get? l = some { cls := .type "list", data := .seq its.toArray n }) (hf : f its.toArray = its'.toArray) (hv : Vals ys its') (hz : ys.length ≤ sizeLine) :
    Inv X pins σ (upd H l (.lst ys)) { s with heap := s.heap.update l (Obj.mapSeq f), toks := t' } := by
  have q := PySem.IsL.update e f
  rw [hf] at q
  refine I.write (x := l) (e := l) (by rw [hH]; exact trivial) (.inl rfl) (fun b' u hb hu => (Heap.get?_update_other s.heap (Obj.mapSeq f) (Ne.symm hb)).trans hu) ⟨_, q⟩ ?_
  exact ⟨hz, its', _, hv, q⟩
theorem Inv.lnew {its : List Value} {t' : Nat} (I : Inv X pins σ H s) (hv : Vals ys its) (hz : ys.length ≤ sizeLine) :
    Inv X pins σ (upd H s.heap.objs.size (.lst ys)) { s with heap := s.heap.push { cls := .type "list", data := .seq its.toArray }, toks := t' } :=
  I.laid (fun _ _ q => Heap.get?_push_of_some _ q) (Nat.le_refl _) ⟨hz, its, 0, hv, Heap.get?_push_size _ rfl⟩
theorem Inv.fresh (I : Inv X pins σ H s) : H s.heap.objs.size = none := I.hok.fresh (Nat.le_refl _)
theorem Inv.lstM (I : Inv X pins σ H s) (hH : H l = some (.lst xs)) : xs.length ≤ sizeLine ∧ ∃ (its : List Value) (n : Nat), Vals xs its ∧ xs.length = its.length ∧ s.heap.get? l = some { cls := .type "list", data := .seq its.toArray n } := by
  obtain ⟨z, its, n, r, e⟩ := I.hok l _ hH
  exact ⟨z, its, n, r, r.length, e⟩
theorem notLongL {n : Nat} (h : n ≤ sizeLine) : Builtin.List.listTooLong n = false := by
  unfold Builtin.List.listTooLong
  exact decide_eq_false (by omega)
end
section
variable {X : Cx}
def rAppend : V → List V → Hp → VK → Prop := fun x vs H Q => ∃ l xs y, x = .ref l ∧ vs = [y] ∧ H l = some (.lst xs) ∧ xs.length < sizeLine ∧ Q .non (upd H l (.lst (xs ++ [y])))
theorem mt_append : MtM X "list.append" rAppend := by
  intro pins s σ H x vs v us Q I rx rv h
  obtain ⟨l, xs, y, rfl, rfl, hH, hz, q⟩ := h
  cases rx
  obtain ⟨u, rfl, ru⟩ := rv.one
  obtain ⟨z, its, n, r, hl, e⟩ := I.lstM hH
  refine call_meets F.slot_list_append ⟨_, e, rfl⟩ F.entry_list_append (F.args_list_append_2 _ _) (PySem.list_append l its.toArray n u (by rw [List.size_toArray]; omega)) ⟨e, ?_⟩
  refine ⟨.non, _, I.lset (its' := its ++ [u]) hH e (by simp) (r.append (.cons ru .nil)) ?_, rfl, q⟩
  rw [List.length_append, List.length_singleton]
  omega
def rCat : R2 := fun x y H Q => ∃ l b xs zs, x = .ref l ∧ y = .ref b ∧ H l = some (.lst xs) ∧ H b = some (.lst zs) ∧ xs.length + zs.length ≤ sizeLine ∧ ∀ p, H p = none → Q (.ref p) (upd H p (.lst (xs ++ zs)))
theorem op_cat : OpR X (binaryOp .Add) rCat := by
  intro pins s σ H x y v u Q I rx ry h
  obtain ⟨l, b, xs, zs, rfl, rfl, hH, hB, hz, q⟩ := h
  cases rx
  cases ry
  obtain ⟨z, its, n, r, hl, e⟩ := I.lstM hH
  obtain ⟨z2, its2, n2, r2, hl2, e2⟩ := I.lstM hB
  refine PySem.P.add_list e e2 ?_ (by rw [List.size_toArray, List.size_toArray]; omega)
  have ea : its.toArray ++ its2.toArray = (its ++ its2).toArray := by simp
  rw [ea]
  exact ⟨.ref _, _, I.lnew (t' := s.toks) (r.append r2) (by rw [List.length_append]; omega), rfl, q _ I.fresh⟩
def rRep : R2 := fun x y H Q => ∃ l k xs, x = .ref l ∧ y = .int k ∧ H l = some (.lst xs) ∧ -(2 ^ 63) ≤ k ∧ k < 2 ^ 63 ∧ xs.length * k.toNat ≤ sizeLine ∧
  ∀ p, H p = none → Q (.ref p) (upd H p (.lst (List.replicate k.toNat xs).flatten))
theorem len_rep {α : Type} (xs : List α) (k : Nat) : (List.replicate k xs).flatten.length = k * xs.length := by
  induction k with
  | zero => simp
  | succ k ih => rw [List.replicate_succ, List.flatten_cons, List.length_append, ih, Nat.succ_mul, Nat.add_comm]
theorem op_rep : OpR X (binaryOp .Mult) rRep := by
  intro pins s σ H x y v u Q I rx ry h
  obtain ⟨l, k, xs, rfl, rfl, hH, h1, h2, hz, q⟩ := h
  cases rx
  obtain ⟨t, rfl⟩ := ry
  obtain ⟨z, its, n, r, hl, e⟩ := I.lstM hH
  have hlen : its.toArray.size * k.toNat ≤ sizeLine := by rw [List.size_toArray, ← hl]; exact hz
  have hcap : ¬ its.toArray.size * k.toNat > (2 ^ 63 - 1) / 8 := by
    have : (sizeLine : Nat) ≤ (2 ^ 63 - 1) / 8 := by decide
    omega
  have hfit : ¬ (!Builtin.List.listFitsIndex k) = true := by
    rw [fitsIndex_both h1 h2]
    exact Bool.false_ne_true
  have hlong : ¬ Builtin.List.listTooLong (its.toArray.size * k.toNat) = true := by
    rw [notLongL hlen]
    exact Bool.false_ne_true
  have hnew : List.foldl (fun x1 x2 => x1 ++ x2) #[] (List.replicate (if its.toArray.isEmpty = true then 0 else k.toNat) its.toArray) = (List.replicate k.toNat its).flatten.toArray := by
    have f0 : ∀ m : Nat, List.foldl (fun x1 x2 => x1 ++ x2) #[] (List.replicate m its.toArray) = (List.replicate m its).flatten.toArray := fun m => by
      have := foldl_rep its m []
      rw [List.nil_append] at this
      exact this
    rw [f0]
    cases its with
    | nil => simp
    | cons a r' => rw [if_neg (by simp)]
  refine wpAny_binaryOp_repeat_ref (T := "list") (U := "int") (by decide) ⟨_, e, rfl⟩ (fun s' => typeIs_int s' k t) noFill_list_mul F.fills_int_mul F.slot_int_rmul repeat_list F.slot_int_index.lookup
    (call_meets F.slot_int_rmul (typeIs_int s k t) F.entry_int_rmul (F.args_int_rmul_2 _ _) (int___rmul___int_list k t l its.toArray n)
      ⟨e, rfl, ⟨_, e, rfl⟩, call_meets F.slot_list_mul ⟨_, e, rfl⟩ F.entry_list_mul (F.args_list_mul_2 _ _) (AutoListH.list___mul___list_int_3 l its.toArray n k t hfit hcap hlong) ⟨e, ?_⟩⟩)
  rw [hnew]
  exact ⟨.ref _, _, I.lnew (t' := s.toks) (r.rep k.toNat) (by rw [len_rep, Nat.mul_comm]; exact hz), rfl, q _ I.fresh⟩
end
section
variable {prog : Program} {w : World} {A : Around} {E : Value → Shared → Prop} {s : Shared}
end
section
variable {X : Cx}
end
end L2
namespace Att
open PySem PySem.W PySem.Calls PyProof.Rows
theorem ints_of_wellAll {P : Params} {h : Heap} : ∀ (ns : List Int) (vs : List Value), WellAll P h vs (ns.map WData.int) → IntsAre vs ns := by
  intro ns
  induction ns with
  | nil =>
    intro vs w
    rw [List.map_nil] at w
    cases w
    exact .nil
  | cons n ns ih =>
    intro vs w
    rw [List.map_cons] at w
    cases w with
    | cons a b =>
      cases a
      exact .cons _ _ (ih _ b)
theorem script_of {l : OpenLaw} {n : Nat} (hn : l.most = some n) {P : Params} {h : Heap} {args : List WData} {vals : List Value}
    (hpre : l.row.toRowW.claim.pre args = true) (hwl : WellAll P h vals args) :
    ∃ a vs ns, vals = [Value.ref a] ∧ args = [WData.list (ns.map WData.int)] ∧ h.get? a = some { cls := .type "list", data := .seq vs.toArray } ∧ IntsAre vs ns ∧ ns.length ≤ n := by
  have hsh : WShape.hasAll [] args [.list .int] = true := (pre_splitW hpre).1
  have hc : l.pre.holds [] { args := args } = true := (pre_splitW hpre).2
  obtain ⟨d, r, rfl, h1, h2⟩ := hasAllW_cons hsh
  obtain rfl := hasAllW_nil h2
  obtain ⟨xs, rfl, h3⟩ := hasW_list h1
  obtain ⟨ns, rfl⟩ := items_int h3
  have hlen : ns.length ≤ n := by
    unfold OpenLaw.pre at hc
    have h4 : (WTm.not (.lt (.lit (.int (n : Int))) (.len (.arg 0)))).holds [] { args := [.list (ns.map .int)] } = true := by
      have h4 := (holds_andW hc).1
      rw [hn] at h4
      exact h4
    have h5 := condW_of h4 (w_not (w_lt w_lit (w_len_list (w_arg rfl))))
    rw [List.length_map] at h5
    refine Nat.le_of_not_lt fun q => ?_
    have q' : (n : Int) < ((ns.length : Nat) : Int) := by omega
    first
      | (rw [decide_eq_true q'] at h5; exact absurd h5 (by decide))
      | (simp at h5; omega)
  cases hwl with
  | cons w1 w2 =>
    cases w2
    cases w1 with
    | list ho hall => exact ⟨_, _, ns, rfl, rfl, ho, ints_of_wellAll ns _ hall, hlen⟩
theorem post_true (l : OpenLaw) (args : List WData) : l.row.toRowW.claim.post args (.bool true) args = true :=
  postW_of (r := l.row.toRowW) (X := (true == true))
    (show WShape.has [] (.bool true) .bool = true by first | rfl | decide | simp [WShape.has, WShape.arms, WShape.armsAll])
    (show (WTm.eq .res (.lit (.bool true))).value [] { args := args, res := some (.bool true), after := args } = some (.bool (true == true)) from w_eq_bool (w_res rfl) w_lit) rfl
theorem attach_call {l : OpenLaw} {n : Nat} {q : Program} {loose : List Str} {XP : (Str → Option Value) → Heap → Prop} {YP : World → Heap → Prop} {d : DefRec}
    (hn : l.most = some n) (hdf : d.params.defaults = [])
    (call : ∀ (w : World) (s₀ s₁ : Shared) (mg mb : Str → Option Value) (fa : Addr) (o : Obj) (pm cd doc : Value) (a : Addr) (vs : List Value) (ns : List Int),
      Ground q loose [] XP w s₀ mg mb s₁.heap → YP w s₁.heap →
      s₁.heap.get? fa = some o → o.data = .func (docDef d.name d.params d.body d.scope pm cd doc) → s₁.heap.CodeRec cd d.name → mg d.name = some (.ref fa) →
      s₁.heap.get? a = some { cls := .type "list", data := .seq vs.toArray } → IntsAre vs ns → ns.length ≤ n → s₁.gens = #[] →
      codeAny (model l.prog w) callerA (.call (.ref fa) ⟨[.ref a], []⟩) (fun r s' => r = .ok (.ret (.bool true)) ∧ OldK s₁.heap s'.heap ∧ s'.os = s₁.os ∧ AllBare s'.gens) s₁) :
    WalkO q loose XP YP l.row.toRowW d [] (fun f vs => PySem.call f vs) := by
  intro w s₀ s₁ mg mb G Y fa o pm cd doc dV kV ho hd hcd hD hmg hg args vals as hpre hlay hrd hwl hlo
  obtain rfl : dV = .none := Dflts.none hD hdf
  obtain rfl : kV = .none := Dflts.noKw hD
  obtain ⟨a, vs, ns, rfl, rfl, hobj, hints, hlen⟩ := script_of hn hpre hwl
  refine enter_call (codeAny_mono (call w s₀ s₁ mg mb fa o pm cd doc a vs ns G Y ho (fd_plain hd) hcd hmg hobj hints hlen hg) fun r s' hq => ?_)
  obtain ⟨rfl, h2, h3, h4⟩ := hq
  exact ⟨.inl ⟨.bool true, .bool true, [], rfl, fun _ => rfl, .bool true, post_true l _, fun _ => ⟨List.Pairwise.nil, fun _ hm => (nomatch hm)⟩⟩, h2, h3, h4⟩
section
variable {prog : Program} {w : World} {A : Around} {E : Value → Shared → Prop} {s : Shared} {K : Frag}
end
end Att
namespace L2
open PySem PySem.Spec PyProof.Rows
theorem vals_ints : ∀ {vs : List Value} {ns : List Int}, IntsAre vs ns → Vals (ns.map V.int) vs
  | _, _, .nil => .nil
  | _, _, .cons n t h => .cons ⟨t, rfl⟩ (vals_ints h)
def Only (H : Hp) : Prop := ∀ b, H b = none ∨ ∃ o xs, H b = some (.frz o (.lst xs))
theorem law_call {P : Program} {w : World} {K : PySem.W.Frag} {mg mb : Str → Option Value} {CX : CXT} {k : Nat} {fa a : Addr} {fd : FuncData} {x : Str} {sp : Sp} {s₁ : Shared} {vs : List Value} {ns : List Int}
    (KX : K.In s₁.heap) (hns : s₁.heap.Ns mainGlobals mg) (hb : s₁.heap.Ns builtinsNs mb) (hbb : ∀ x : Str, x ≠ "__name__" → mb x = bootBuiltins x) (hlim : s₁.heap.NoLimit) (hg : s₁.gens = #[])
    (ha : s₁.heap.get? a = some { cls := .type "list", data := .seq vs.toArray }) (hi : IntsAre vs ns) (hl : ns.length ≤ sizeLine) (hr : Room k callerA)
    (F : ∀ base : Heap, K.In base → base.Ns mainGlobals mg → FnOk P w K mg base CX k fa fd [x] sp) (hbind : ∀ (s : Shared) (u : Value), BindsTo s fd ⟨[u], []⟩ [(x, u)])
    (hsp : ∀ H : Hp, Only H → SqL K H a (ns.map V.int) → sp [.ref a] H (fun v _ => v = .bl true) fun _ _ _ => False)
    (hCX : ∀ H e s', CX [] H s₁ (fun _ _ _ => False) e s' → False) :
    codeAny (model P w) callerA (.call (.ref fa) ⟨[.ref a], []⟩) (fun r s' => r = .ok (.ret (.bool true)) ∧ OldK s₁.heap s'.heap ∧ s'.os = s₁.os ∧ AllBare s'.gens) s₁ := by
  have rv := vals_ints hi
  have lenV := hi.length
  have core : ∀ H : Hp, Only H → SqL K H a (ns.map V.int) → HOk P w H s₁.heap → (∀ b, H b ≠ none → b = a) → (H a ≠ none → K.lookup a = none) →
      codeAny (model P w) callerA (.call (.ref fa) ⟨[.ref a], []⟩) (fun r s' => r = .ok (.ret (.bool true)) ∧ OldK s₁.heap s'.heap ∧ s'.os = s₁.os ∧ AllBare s'.gens) s₁ := by
    intro H hO hS hok hA hK
    have base_of : ∀ {b : Addr} {o : Obj}, s₁.heap.get? b = some o → H b = none → (hidT s₁.heap H).get? b = some o := fun e n => hidT_get e n
    have noA : ∀ {b : Addr} {o : Obj} {es : Array DictEntry} {ep : Nat}, s₁.heap.get? b = some o → o.data = .dict es ep → H b = none := fun {b o es ep} e d => by
      cases q : H b with
      | none => rfl
      | some u =>
        have e' : b = a := hA b (by rw [q]; simp)
        subst e'
        rw [ha] at e; cases e
        have d' : Data.seq vs.toArray _ = Data.dict es ep := d
        cases d'
    have nsK : ∀ {b : Addr} {m : Str → Option Value}, s₁.heap.Ns b m → (hidT s₁.heap H).Ns b m := fun {b m} ⟨o, es, ep, e, d, r⟩ => ⟨o, es, ep, base_of e (noA e d), d, r⟩
    have hKb : K.In (hidT s₁.heap H) := fun b o e => base_of (KX b o e) (by
      cases q : H b with
      | none => rfl
      | some u =>
        have e' : b = a := hA b (by rw [q]; simp)
        subst e'
        rw [hK (by rw [q]; simp)] at e; cases e)
    have hM : Mod K mg (hidT s₁.heap H) := ⟨hKb, nsK hns, ⟨mb, nsK hb, hbb⟩, let ⟨mc, h1, h2⟩ := hlim; ⟨mc, nsK h1, h2⟩⟩
    have e0 : Env0 P w K mg (hidT s₁.heap H) callerA [] s₁ H := ⟨rfl, hM, fun b o e => of_hidT e, Nat.le_of_eq (hidT_size _ _), trivial, fun b hb => absurd (show b ∈ ([] : List Addr) from hb) (by simp), hok, .of_eq hg⟩
    refine codeAny_mono ((F _ hKb (nsK hns)).run callerA [] s₁ H ⟨[.ref a], []⟩ [.ref a] [.ref a] _ _ hr e0 (hbind s₁ (.ref a)) (.cons rfl .nil) (hsp H hO hS)) fun r s' h => ?_
    cases r with
    | error e => exact (hCX H e s' h).elim
    | ok fl =>
      cases fl with
      | next => exact False.elim h
      | brk => exact False.elim h
      | cont => exact False.elim h
      | ret u =>
        obtain ⟨v, H', os, bare, un, hok', r', q⟩ := h
        have q' : v = .bl true := q
        subst q'
        obtain rfl : u = Value.bool true := r'
        refine ⟨rfl, OldK.of_keep fun b o e => ?_, os, bare⟩
        cases q : H b with
        | none => exact un.keep b o e q (by intro z; exact absurd (show b ∈ ([] : List Addr) from z) (by simp)) (by simp)
        | some u =>
          rcases hO b with z | ⟨ob, xs, z⟩
          · rw [q] at z; cases z
          · have z2 := un.frzs b ob _ z
            obtain ⟨e1, _⟩ := hok b _ z
            obtain ⟨e2, _⟩ := hok' b _ z2
            rw [e] at e1; cases e1
            exact e2
  cases hk : K.lookup a with
  | some o =>
    have e := KX a o hk
    rw [ha] at e
    cases e
    refine core (fun _ => none) (fun _ => .inl rfl) (.inr ⟨_, vs.toArray, _, hk, rfl, rfl, rfl, by rw [List.size_toArray, lenV]; exact hl, by simpa using rv⟩) (fun b u z => by have z' : (none : Option HO) = some u := z; cases z') (fun b z => absurd rfl z) fun z => absurd rfl z
  | none =>
    refine core (fun b => if b = a then some (.frz { cls := .type "list", data := .seq vs.toArray } (.lst (ns.map V.int))) else none) (fun b => ?_) (.inl (.inr ⟨{ cls := .type "list", data := .seq vs.toArray }, if_pos rfl⟩)) (fun b u z => ?_) (fun b z => ?_) fun _ => hk
    · by_cases hb : b = a
      · exact .inr ⟨_, _, if_pos hb⟩
      · exact .inl (if_neg hb)
    · by_cases hb : b = a
      · have z' := (if_pos hb).symm.trans z
        cases z'
        subst hb
        exact ⟨ha, by rw [List.length_map]; exact hl, vs, _, rv, ha⟩
      · have z' := (if_neg hb).symm.trans z
        cases z'
    · by_cases hb : b = a
      · exact hb
      · exact absurd (if_neg hb) z
end L2
namespace L2
open PySem PySem.Spec PyProof.Rows
theorem walk_of {l : PySem.W.OpenLaw} {n k : Nat} {q : Program} {loose : List Str} {XP : (Str → Option Value) → Heap → Prop} {YP : World → Heap → Prop} {d : DefRec} {K : Params → PySem.W.Frag} {CX : World → CXT} {sp : World → Sp} {x : Str}
    (hn : l.most = some n) (hn2 : n ≤ sizeLine) (hdf : d.params.defaults = []) (hr : Room k callerA)
    (hY : ∀ (w : World) (h : Heap), YP w h → (K w.params).In h)
    (F : ∀ (w : World) (mg : Str → Option Value) (fa : Addr) (h : Heap), (K w.params).In h → h.Ns mainGlobals mg → mg d.name = some (.ref fa) →
      ∃ fd : FuncData, (∀ (s : Shared) (u : Value), BindsTo s fd ⟨[u], []⟩ [(x, u)]) ∧
        ∀ base : Heap, (K w.params).In base → base.Ns mainGlobals mg → FnOk l.prog w (K w.params) mg base (CX w) k fa fd [x] (sp w))
    (hsp : ∀ (w : World) (H : Hp) (a : Addr) (ns : List Int), ns.length ≤ n → Only H → SqL (K w.params) H a (ns.map V.int) → sp w [.ref a] H (fun v _ => v = .bl true) fun _ _ _ => False)
    (hCX : ∀ (w : World) (H : Hp) (s : Shared) (e : Value) (s' : Shared), CX w [] H s (fun _ _ _ => False) e s' → False) :
    PySem.W.WalkO q loose XP YP l.row.toRowW d [] (fun f vs => PySem.call f vs) := by
  refine Att.attach_call hn hdf fun w s₀ s₁ mg mb fa o pm cd doc a vs ns G Y ho hd hcd hmg hobj hints hlen hg => ?_
  have KX := hY w _ Y
  obtain ⟨fd, hb, hF⟩ := F w mg fa _ KX G.T.g hmg
  exact law_call KX G.T.g G.T.b G.T.builtins G.T.nolimit hg hobj hints (Nat.le_trans hlen hn2) hr hF hb (fun H hO hS => hsp w H a ns hlen hO hS) fun H e s' => hCX w H s₁ e s'
end L2
namespace L2
open PySem PySem.Spec PyProof.Rows
def defArgs (s : Stmt) : Arguments := match s with
  | .FunctionDef _ a _ _ _ _ _ _ _ _ => a
  | _ => { posonlyargs := [], args := [], vararg := none, kwonlyargs := [], kw_defaults := [], kwarg := none, defaults := [] }
def defBody (s : Stmt) : List Stmt := match s with
  | .FunctionDef _ _ b _ _ _ _ _ _ _ => b
  | _ => []
def defScope (s : Stmt) : Scope := match s with
  | .FunctionDef _ _ _ _ _ _ sc _ _ _ => sc
  | _ => { kind := .function, names := [], isGenerator := false, isCoroutine := false }
abbrev CX0 : CXT := fun _ _ _ _ _ _ => False
abbrev E0 : XK := fun _ _ _ => False
theorem pass0 {X : Cx} : Passes CX0 X E0 := fun _ _ _ _ _ _ _ h => h.elim
structure Fun (K : PySem.W.Frag) (x qual : Str) (st : Stmt) (f : Addr) (fd : FuncData) : Prop where
  ex : ∃ (oc : Value) (od : Option Addr) (kV doc pm : Value) (an : Option Addr) (cdv ct : Value) (osl : Array (Option Value)),
    fd = PySem.W.fnOf x qual (defArgs st) (defBody st) (defScope st) .none kV doc pm an cdv ct ∧ K.lookup f = some ⟨oc, od, .func fd, osl⟩ ∧ PySem.W.codeIn K cdv qual = true
  kp : PySem.W.keepIn K (.ref f) = true
section
variable {P : Program} {w : World} {K : PySem.W.Frag} {mg : Str → Option Value} {base : Heap}
theorem Fun.ok {x qual : Str} {st : Stmt} {f : Addr} {fd : FuncData} {N ps : List Str} {k : Nat} {sp : Sp} (F : Fun K x qual st f fd) (S : FnScope N ps (defScope st)) (len : ∀ vs H Q E, sp vs H Q E → vs.length = ps.length)
    (hbody : ∀ (cdv : Value) (A : Around) (outer : List Env) (s : Shared) (H : Hp) (vs : List V) (Q : VK) (E : XK), Room k (A.deeper (envOfC qual (defScope st) s.heap.objs.size f cdv)) → sp vs H Q E →
      ∃ t, PSs (cxOf CX0 P w K mg base N qual (defScope st) f cdv A outer s H E).nox (defBody st) t ∧ t { nx := fun _ H' => Q .non H', rt := Q } (start N vs) H) : FnOk P w K mg base CX0 (k + 1) f fd ps sp := by
  obtain ⟨oc, od, kV, doc, pm, an, cdv, ct, osl, rfl, lk, hcd⟩ := F.ex
  refine fn_of lk hcd S len fun A outer s H vs Q E hr hsp => ?_
  obtain ⟨t, h, q⟩ := hbody cdv A outer s H vs Q E hr hsp
  exact ⟨t, h.nox, q⟩
theorem Fun.binds {x qual : Str} {st : Stmt} {f : Addr} {fd : FuncData} {ps : List Str} (F : Fun K x qual st f fd)
    (h : ∀ (kV doc pm : Value) (an : Option Addr) (cdv ct : Value) (us : List Value), us.length = ps.length → bindArgs (PySem.W.fnOf x qual (defArgs st) (defBody st) (defScope st) .none kV doc pm an cdv ct) ⟨us, []⟩ = pure (ps.zip us)) : Binds K fd ps [] := by
  obtain ⟨oc, od, kV, doc, pm, an, cdv, ct, osl, rfl, lk, hcd⟩ := F.ex
  exact .all (h kV doc pm an cdv ct)
theorem fun_mk {x qual : Str} {st : Stmt} {f : Addr} {oc : Value} {od an : Option Addr} {osl : Array (Option Value)} {kV doc pm cdv ct : Value} (l : K.lookup f = some ⟨oc, od, .func (PySem.W.fnOf x qual (defArgs st) (defBody st) (defScope st) .none kV doc pm an cdv ct), osl⟩)
    (c : PySem.W.codeIn K cdv qual = true) (k : PySem.W.keepIn K (.ref f) = true) : Fun K x qual st f (PySem.W.fnOf x qual (defArgs st) (defBody st) (defScope st) .none kV doc pm an cdv ct) := ⟨⟨oc, od, kV, doc, pm, an, cdv, ct, osl, rfl, l, c⟩, k⟩
end
theorem hu_of {A : Around} {k : Nat} (hr : Room k A) : A.units + 1 < cLine := Nat.lt_of_le_of_lt (Nat.add_le_add_left (by decide : 1 ≤ 64) _) hr.units
section
variable {X : Cx}
theorem pv (i : Nat) {x : Str} {pos : Pos} (hN : X.N[i]? = some x := by rfl) (hv : Vis X.env.scope x := by first | exact Or.inl rfl | exact Or.inr (Or.inl rfl) | exact Or.inr (Or.inr rfl)) (hd : (x == ("__debug__" : Str)) = false := by decide)
    (hcd : (x == ("__classdict__" : Str)) = false := by decide) : PE X (.Name x pos) (tVar i) := pe_var hN hv hd hcd
end
theorem iteF {A B : Prop} (h : B) : if false = true then A else B := by
  rw [if_neg Bool.false_ne_true]
  exact h
theorem iteT {A B : Prop} (h : A) : if true = true then A else B := by
  rw [if_pos rfl]
  exact h
theorem ite2 {c A B : Prop} [Decidable c] (h1 : c → A) (h2 : ¬ c → B) : if c then A else B := by
  by_cases h : c
  · rw [if_pos h]
    exact h1 h
  · rw [if_neg h]
    exact h2 h
def Same (H H' : Hp) : Prop := ∀ b o, H b = some o → H' b = some o
theorem Same.refl (H : Hp) : Same H H := fun _ _ h => h
theorem Same.trans {H H1 H2 : Hp} (a : Same H H1) (b : Same H1 H2) : Same H H2 := fun c o h => b c o (a c o h)
theorem Same.free {H H' : Hp} (e : Same H H') {l : Addr} (h : H' l = Option.none) : H l = Option.none := by
  cases q : H l with
  | none => rfl
  | some o =>
    rw [e l o q] at h
    cases h
end L2
namespace L2
open PySem PySem.Spec PyProof.Rows
section
variable {κ : Type} [DecidableEq κ]
def valV (kvs : List (κ × V)) (k : κ) : Option V := (kvs.find? fun kv => decide (kv.1 = k)).map (·.2)
theorem valV_pos {p : κ × V} {r : List (κ × V)} {k : κ} (e : p.1 = k) : valV (p :: r) k = some p.2 := by simp [valV, List.find?_cons, e]
theorem valV_neg {p : κ × V} {r : List (κ × V)} {k : κ} (e : ¬ p.1 = k) : valV (p :: r) k = valV r k := by simp [valV, List.find?_cons, e]
theorem KV.val {kvs : List (κ × V)} {vs : List (κ × Value)} (r : KV kvs vs) (k : κ) : RelO (valV kvs k) (valueAt vs k) := by
  unfold KV at r
  induction r with
  | nil => exact True.intro
  | @cons p q ps qs h t ih =>
    obtain ⟨h1, h2⟩ := h
    by_cases e : p.1 = k
    · have e' : q.1 = k := h1.symm.trans e
      have b : valueAt (q :: qs) k = some q.2 := by simp [valueAt, List.find?_cons, e']
      rw [valV_pos e, b]; exact h2
    · have e' : ¬ q.1 = k := fun z => e (h1.trans z)
      have b : valueAt (q :: qs) k = valueAt qs k := by simp [valueAt, List.find?_cons, e']
      rw [valV_neg e, b]; exact ih
theorem KV.length {kvs : List (κ × V)} {vs : List (κ × Value)} (r : KV kvs vs) : kvs.length = vs.length := Paired.length r
end
theorem kV_is {P : Program} {w : World} {k : Key} {u : Value} (r : RelV (kV k) u) : (mixKind P w).is k u = true := by
  cases k with
  | inl i => obtain ⟨t, e⟩ := (show ∃ t, u = Value.int i t from r); subst e; exact mixKind_int P w i t
  | inr x => obtain ⟨t, e⟩ := (show ∃ t, u = Value.str x t from r); subst e; exact mixKind_str P w x t
theorem items_are {P : Program} {w : World} : ∀ {ks : List Key} {us : List Value}, Vals (ks.map kV) us → ItemsAre (mixKind P w) ks us
  | [], _, r => by rw [List.map_nil] at r; cases r; exact .nil
  | k :: ks, _, r => by
    rw [List.map_cons] at r
    cases r with
    | cons h t => exact .cons (kV_is h) (items_are t)
abbrev KT (H : Hp) : List (List Key × V) → List (List Key × Addr × Value) → Prop := Paired fun p q => p.1 = q.1 ∧ H q.2.1 = some (.tup (p.1.map kV)) ∧ RelV p.2 q.2.2
theorem KT.val {H : Hp} {kvs : List (List Key × V)} {xs : List (List Key × Addr × Value)} (r : KT H kvs xs) (k : List Key) : RelO (valV kvs k) ((atKey xs k).map (·.2)) := by
  induction r with
  | nil => exact True.intro
  | @cons p q ps qs h t ih =>
    obtain ⟨h1, _, h2⟩ := h
    by_cases e : p.1 = k
    · have e' : q.1 = k := h1.symm.trans e
      have b : atKey (q :: qs) k = some q.2 := by simp [atKey, List.find?_cons, e']
      rw [valV_pos e, b]; exact h2
    · have e' : ¬ q.1 = k := fun z => e (h1.trans z)
      have b : atKey (q :: qs) k = atKey qs k := by simp [atKey, List.find?_cons, e']
      rw [valV_neg e, b]; exact ih
section
variable {P : Program} {w : World} {H : Hp} {h : Heap} {a : Addr}
theorem rd_of {u : HO} (ok : HOk P w H h) (e : Rd H a u) : ObjOk P w H h a u := e.ok ok
theorem dk_rd {kvs : List (Key × V)} (ok : HOk P w H h) (e : Rd H a (.dK kvs)) : kvs.length ≤ sizeLine ∧ (a == sysModules) = false ∧ ∃ vs, KV kvs vs ∧ h.DictOf (mixKind P w) a vs :=
  show ObjOk P w H h a (.dK kvs) from rd_of ok e
theorem key_of {ks : List Key} (ok : HOk P w H h) (e : H a = some (.tup (ks.map kV))) : (tupleKind (mixKind P w)).is h ks a := by
  obtain ⟨_, its, r, o, h1, h2, n, h3⟩ := (show ObjOk P w H h a (.tup (ks.map kV)) from ok a _ e)
  exact ⟨o, its.toArray, n, h1, h2, h3, by simpa using items_are r⟩
theorem dt_rd {kvs : List (List Key × V)} (ok : HOk P w H h) (e : Rd H a (.dT kvs)) : kvs.length ≤ sizeLine ∧ (a == sysModules) = false ∧
    ∃ xs, KT H kvs xs ∧ h.DictOfH (tupleKind (mixKind P w)) a xs := by
  obtain ⟨z, y, xs, r, o, es, ep, h1, h2, h3, h4, h5⟩ := (show ObjOk P w H h a (.dT kvs) from rd_of ok e)
  refine ⟨z, y, xs, r, o, es, ep, h1, h2, h3, h4, fun x hx => ?_, h5⟩
  have all : ∀ {l : List (List Key × V)} {m : List (List Key × Addr × Value)}, KT H l m → ∀ x ∈ m, (tupleKind (mixKind P w)).is h x.1 x.2.1 := by
    intro l m q
    induction q with
    | nil => intro x hx; exact nomatch hx
    | @cons p q ps qs hq t ih =>
      intro x hx
      rcases List.mem_cons.mp hx with e | hx
      · subst e
        exact key_of ok (by rw [← hq.1]; exact hq.2.1)
      · exact ih x hx
  exact all r x hx
end
def DGet (H : Hp) (a : Addr) (y : V) (r : Option V) : Prop :=
  (∃ kvs k, Rd H a (.dK kvs) ∧ y = kV k ∧ r = valV kvs k) ∨ ∃ kvs k b, Rd H a (.dT kvs) ∧ y = .ref b ∧ H b = some (.tup (k.map kV)) ∧ r = valV kvs k
theorem DGet.k {H : Hp} {a : Addr} {kvs : List (Key × V)} {k : Key} (e : H a = some (.dK kvs)) : DGet H a (kV k) (valV kvs k) := .inl ⟨kvs, k, .inl e, rfl, rfl⟩
theorem DGet.t {H : Hp} {a b : Addr} {kvs : List (List Key × V)} {k : List Key} (e : H a = some (.dT kvs)) (eb : H b = some (.tup (k.map kV))) : DGet H a (.ref b) (valV kvs k) := .inr ⟨kvs, k, b, .inl e, rfl, eb, rfl⟩
section
variable {X : Cx} {pins : List (Addr × Obj)} {σ : St} {H : Hp} {s : Shared} {a : Addr} {y v : V} {u r : Value} {o : Option V} {A : Around} {E : Value → Shared → Prop}
theorem d_getItem {Q : Value → Shared → Prop} (hu : A.units + 1 < cLine) (I : Inv X pins σ H s) (g : DGet H a y (some v)) (ry : RelV y u) (h : ∀ w' s', Inv X pins σ H s' → RelV v w' → Q w' s') :
    wpAny (model X.prog X.w) A (getItem (.ref a) u) Q E s := by
  rcases g with ⟨kvs, k, e, ey, l⟩ | ⟨kvs, k, b, e, ey, eb, l⟩
  · subst ey
    obtain ⟨z, hd, vs, rel, dd⟩ := dk_rd I.hok e
    obtain ⟨w', hw, rw'⟩ := RelO.some_of (v := v) (o := valueAt vs k) (by rw [l]; exact rel.val k)
    exact wpAny_getItem_of (kV_is ry) dd.mapOf hw (h w' _ (I.tok _) rw')
  · subst ey
    cases (show u = Value.ref b from ry)
    obtain ⟨z, hd, xs, rel, dd⟩ := dt_rd I.hok e
    obtain ⟨w', hw, rw'⟩ := RelO.some_of (v := v) (o := (atKey xs k).map (·.2)) (by rw [l]; exact rel.val k)
    obtain ⟨p, hp, hp2⟩ := Option.map_eq_some_iff.mp hw
    refine wpAny_getItem_heap (tupleKind_room_in1 hu) (key_of I.hok eb) dd hp ?_
    rw [hp2]
    exact h w' _ (I.tok _) rw'
end
section
variable {X : Cx} {pins : List (Addr × Obj)} {σ : St} {H : Hp} {s : Shared} {a : Addr} {kvs : List (Key × V)} {k : Key} {u : Value} {A : Around} {E : Value → Shared → Prop}
theorem d_len {Q : Value → Shared → Prop} (I : Inv X pins σ H s) (e : Rd H a (.dK kvs)) (h : ∀ t s', Inv X pins σ H s' → Q (.int kvs.length t) s') : wpAny (model X.prog X.w) A (call (.builtin "len") [.ref a]) Q E s := by
  obtain ⟨z, hd, vs, rel, dd⟩ := dk_rd I.hok e
  refine call_len_dict hd dd (by rw [← rel.length]; rw [sizeLine_eq] at z; omega) ?_
  rw [← rel.length]
  exact h _ _ (I.tok _)
end
theorem dict_typeIs {X : Cx} {pins : List (Addr × Obj)} {σ : St} {H : Hp} {s : Shared} {a : Addr} {y : V} {o : Option V} (I : Inv X pins σ H s) (g : DGet H a y o) : s.TypeIs (.ref a) "dict" := by
  rcases g with ⟨kvs, k, e, _, _⟩ | ⟨kvs, k, b, e, _, _, _⟩
  · obtain ⟨_, _, vs, _, dd⟩ := dk_rd I.hok e
    exact dd.typeIs
  · obtain ⟨_, _, xs, _, dd⟩ := dt_rd I.hok e
    exact dd.typeIs
section
variable {X : Cx} {o i e value : Expr} {pos pos' tpos : Pos} {td ty tv : TE}
end
section
variable {X : Cx} {pos : Pos}
end
section
variable {X : Cx} {pins : List (Addr × Obj)} {σ : St} {H : Hp} {s : Shared} {a : Addr} {y d : V} {u r : Value} {o : Option V} {A : Around} {E : Value → Shared → Prop}
end
section
variable {X : Cx} {o e f : Expr} {apos cpos : Pos} {td ty tx : TE}
end
section
variable {X : Cx} {pins : List (Addr × Obj)} {σ : St} {H : Hp} {s : Shared} {a : Addr} {kvs : List (Key × V)} {A : Around} {E : Value → Shared → Prop}
end
section
variable {X : Cx} {pins : List (Addr × Obj)} {σ : St} {H : Hp} {s : Shared} {a : Addr} {y : V} {u : Value} {A : Around} {E : Value → Shared → Prop}
end
end L2
namespace L2
open PySem PySem.Spec PyProof.Rows
section
variable {X : Cx}
theorem call_lenD : CallR X (.builtin "len") (fun xs H Q => ∃ a kvs, xs = [V.ref a] ∧ H a = some (.dK kvs) ∧ Q (.int kvs.length) H) := by
  intro pins s σ H xs us Q I r h
  obtain ⟨a, kvs, rfl, ha, q⟩ := h
  obtain ⟨u, rfl, ru⟩ := vals1 r
  cases ru
  exact d_len I (.inl ha) fun t s' I' => ⟨.int kvs.length, H, I', ⟨t, rfl⟩, q⟩
end
section
variable {κ : Type} [DecidableEq κ]
end
end L2
set_option maxHeartbeats 4000000
namespace L2
open PySem PySem.Spec PyProof.Rows
def CDivB (i j : Int) : Prop := 0 < j ∧ j < 2 ^ 200
theorem op_fdivB {X : Cx} : OpR X (binaryOp .FloorDiv) (rI CDivB fun i j => .int (i / j)) := opI fun i j _ _ _ _ _ hc q => by
  have p1 : (0 : Int) < j := hc.1
  have p2 : j < 2 ^ 200 := hc.2
  have p3 : j.natAbs < 2 ^ 200 := by omega
  have p4 : j.natAbs.log2 < 200 := (Nat.log2_lt (by omega)).mpr p3
  refine floordiv_int (by omega) ?_ (.inl (PyProof.noPylong_of_log2 (by omega)))
  rw [Int.fdiv_eq_ediv_of_nonneg i (by omega)]
  exact q
theorem pe_globI {X : Cx} {x : Str} {n : Int} {pos : Pos} (hm : ∃ t, X.mg x = some (.int n t)) (hg : Gl X x := by rfl) (hd : (x == ("__debug__" : Str)) = false := by decide) : PE X (.Name x pos) (tC (.int n)) := by
  obtain ⟨t, h⟩ := hm
  exact pe_glob hg h ⟨t, rfl⟩ hd
section
variable {X : Cx} {pins : List (Addr × Obj)} {σ : St} {H : Hp} {s : Shared} {h' : Heap}
end
section
variable {X : Cx}
end
section
variable {X : Cx}
end
end L2
namespace L2
open PySem PySem.Spec PyProof.Rows
section
variable {X : Cx}
end
end L2
namespace L2
open PySem PySem.Spec PyProof.Rows
section
variable {X : Cx}
def rIsi (K : PySem.W.Frag) : List V → Hp → VK → Prop := fun xs H Q => ∃ x T t b, xs = [x, .ty T] ∧ TyOf K H x t ∧ PySem.W.kitOne K t (.type T) = some b ∧ Q (.bl b) H
theorem call_isi : CallR X (.builtin "isinstance") (rIsi X.K) := by
  intro pins s σ H xs us Q I r h
  obtain ⟨x, T, t, b, rfl, ty, k, q⟩ := h
  obtain ⟨u, u2, rfl, ru, ru2⟩ := vals2 r
  cases ru2
  exact isinst_ok I ru ty k fun tk => ⟨.bl b, H, I.tok tk, rfl, q⟩
theorem vals_bools : ∀ {bs : List Bool} {us : List Value}, Vals (bs.map V.bl) us → LSm.BoolsAre us bs
  | [], _, .nil => .nil
  | _ :: _, _, .cons r t => by cases r; exact .cons _ (vals_bools t)
def rAll (K : PySem.W.Frag) : List V → Hp → VK → Prop := fun xs H Q => ∃ (a : Addr) (bs : List Bool), xs = [.ref a] ∧ SqL K H a (bs.map V.bl) ∧ Q (.bl (bs.all id)) H
theorem call_allL (hc : X.calm = true) : CallR X (.builtin "all") (rAll X.K) := by
  intro pins s σ H xs us Q I r h
  obtain ⟨a, bs, rfl, hq, q⟩ := h
  obtain ⟨u, rfl, ru⟩ := vals1 r
  cases ru
  obtain ⟨its, rv, pl, hz⟩ := I.list hq
  have ba := vals_bools rv
  have lt : a < s.heap.objs.size := by obtain ⟨_, e, _⟩ := pl.isList; exact Heap.lt_size e
  refine call_all_walk (wpAny_pyIter_list pl.isList ⟨s.heap.objs.size, [s.heap.objs.size, a], [s.heap.objs.size], its.toArray.size, _, _, fun i => (bs[i]?).getD true, rfl,
    Walks.list (A := X.A.in1) (I.ok.hd hc) _ a (Nat.ne_of_lt lt) its.toArray, ⟨⟨_, Heap.get?_push_size _ rfl, rfl, rfl⟩, pl.isList.push _⟩, fun i v s' Q' E' hP hQ => ?_, fun h' tk hk => ?_⟩)
  · obtain ⟨b, e, rfl⟩ := ba.get i v (by simpa using hP)
    have hQ' : Q' ((bs[i]?).getD true) s' := hQ
    rw [e] at hQ'
    exact wpAny_truthy_bool hQ'
  · have e : ((List.range its.toArray.size).all fun i => (bs[i]?).getD true) = bs.all id := by
      have := LSm.range_all bs
      rw [← ba.length] at this
      simpa using this
    rw [e]
    exact ⟨.bl _, H, I.kept (LSm.kept_iter hk), rfl, q⟩
end
end L2
namespace L2
open PySem PySem.Spec PyProof.Rows
def pick (js : List Nat) (σ : St) : St := js.map fun j => (σ[j]?).join
def cxG (X : Cx) (scope : Scope) (cl : List (Str × Addr)) (fp : List Addr) (N : List Str) (s : Shared) (H : Hp) : Cx where
  prog := X.prog
  w := X.w
  K := X.K
  mg := X.mg
  base := X.base
  A := X.A
  N := N
  s₀ := s
  H₀ := H
  env := compEnvC scope cl s.heap.objs.size X.env
  outer := X.stack
  stack := X.stack
  ex := fp
  fn := fun _ => false
  calm := X.calm
  pn := []
  xe := fun _ _ => False
def PTs (X : Cx) (ifs : List Expr) (t : TT) : Prop :=
  ∀ (pins : List (Addr × Obj)) (s : Shared) (σ : St) (H : Hp) (Q : Bool → Hp → Prop), Inv X pins σ H s → t σ H Q →
    wpAny (model X.prog X.w) X.A (forIn ifs true fun c r => if r = true then do let ok ← isTrue c X.env (eval c X.env); pure (ForInStep.yield ok) else pure (ForInStep.yield r)) (TP X pins σ Q) X.xe s
theorem pts_nil {X : Cx} : PTs X [] (fun _ H Q => Q true H) := fun pins s σ H Q I h => wpAny_tests_nil ⟨H, I, h⟩
def tCompG (wi : TI) (k : Nat) (js : List Nat) (g : TG) (tt : TT) (te : TE) : TE := fun σ H Q => wi σ H fun J H1 => ∀ D, H1 D = none → ∃ W : Nat → Nat → List V → Hp → Prop, (∃ m, W 0 m [] (upd H1 D (.lst []))) ∧ ∀ i m acc H2, W i m acc H2 → H2 D = some (.lst acc) →
  (J.stop i H2 ∧ Q (.ref D) H2) ∨ (J.go i H2 ∧ ∀ y H3, J.yld i H2 y H3 → ∀ old : St, old.length = k → g y (old ++ pick js σ) H3 fun σ4 H4 => (∃ new : St, new.length = k ∧ σ4 = new ++ pick js σ) ∧ tt σ4 H4 fun b H5 =>
    if b = true then te σ4 H5 fun v H6 => H6 D = some (.lst acc) ∧ acc.length < sizeLine ∧ ∃ m', m' < m ∧ W (i + 1) m' (acc ++ [v]) (upd H6 D (.lst (acc ++ [v])))
    else H5 D = some (.lst acc) ∧ ∃ m', m' < m ∧ W (i + 1) m' acc H5)
theorem compLoop_anyI {prog : Program} {w : World} {A : Around} {R : Result → Shared → Prop} {s : Shared} {elt tgt iter : Expr} {ifs : List Expr} {scope : Scope} {pos : Pos} {it acc : Value} {env : Env} (J : Nat → Shared → Prop)
    (turn : ∀ n s, J n s → wpAny (model prog w) A (pyNext it) (fun r s1 => match r with
      | none => R (.ok .next) s1
      | some v => wpAny (model prog w) A (letOwnedTupleGo tgt it v) (fun _ s2 => wpAny (model prog w) A (assign tgt env v) (fun _ s3 =>
          wpAny (model prog w) A (forIn ifs true fun c r => if r = true then do let ok ← isTrue c env (eval c env); pure (ForInStep.yield ok) else pure (ForInStep.yield r)) (fun b s3' =>
          if b = true then wpAny (model prog w) A (eval elt env) (fun y s4 => wpAny (model prog w) A (call (.builtin "list.append") [acc, y]) (fun _ s5 => ∃ m, m < n ∧ J m s5) (fun _ _ => False) s4) (fun _ _ => False) s3'
          else ∃ m, m < n ∧ J m s3') (fun _ _ => False) s3) (fun _ _ => False) s2) (fun _ _ => False) s1) (fun _ _ => False) s)
    (n : Nat) (h : J n s) : codeAny (model prog w) A (.compLoop (.ListComp elt [⟨tgt, iter, ifs, 0⟩] scope pos) 0 it acc env) R s := by
  refine codeAny_loop rfl J (fun n' s' hJ => ?_) n h
  show wpAny _ _ ((compTurn (.ListComp elt [⟨tgt, iter, ifs, 0⟩] scope pos) 0 it acc env).onRaise (fun z => do noteFrame z env; theTreesLotGoes z)) _ _ s'
  refine wpAny_noted ?_
  rw [compTurn_list]
  have nope : ∀ {α : Type} {t : Sem α} {Q : α → Shared → Prop} {E : Value → Shared → Prop} {q : Shared}, wpAny (model prog w) A t Q (fun _ _ => False) q → wpAny (model prog w) A t Q E q := fun h => wpAny_mono h (fun _ _ z => z) fun _ _ z => z.elim
  refine wpAny_bind (wpAny_standAt (wpAny_bind (wpAny_mono (nope (turn n' s' hJ)) (fun r s1 h1 => ?_) fun _ _ z => z)))
  cases r with
  | none => exact wpAny_pure h1
  | some v =>
    refine wpAny_bind (wpAny_mono (nope h1) (fun _ s2 h2 => ?_) fun _ _ z => z)
    refine wpAny_bind (wpAny_mono (nope h2) (fun _ s3 h3 => ?_) fun _ _ z => z)
    refine wpAny_bind (wpAny_mono (nope h3) (fun b s4 h4 => ?_) fun _ _ z => z)
    cases b with
    | true =>
      have h4' := (show wpAny _ _ _ _ _ s4 by simpa using h4)
      simp only [if_true]
      refine wpAny_bind (wpAny_bind (wpAny_mono (nope h4') (fun y s5 h5 => ?_) fun _ _ z => z))
      refine wpAny_bind (wpAny_mono (nope h5) (fun _ s6 h6 => ?_) fun _ _ z => z)
      exact wpAny_pure (wpAny_pure ⟨rfl, h6⟩)
    | false =>
      have h4' : ∃ m, m < n' ∧ J m s4 := by simpa using h4
      simp only [Bool.false_eq_true, if_false]
      exact wpAny_bind (wpAny_pure (wpAny_pure ⟨rfl, h4'⟩))
section
variable {X : Cx}
theorem pick_get {js : List Nat} {σ : St} {i : Nat} {v : V} (h : (pick js σ)[i]? = some (some v)) : ∃ j, js[i]? = some j ∧ σ[j]? = some (some v) := by
  unfold pick at h
  rw [List.getElem?_map] at h
  cases e : js[i]? with
  | none => rw [e] at h; cases h
  | some j =>
    rw [e] at h
    have h' : (σ[j]?).join = some v := Option.some.inj h
    refine ⟨j, rfl, ?_⟩
    cases q : σ[j]? with
    | none => rw [q] at h'; cases h'
    | some o => rw [q] at h'; exact congrArg some h'
end
end L2
namespace L2
open PySem PySem.Spec PyProof.Rows
section
variable {X : Cx}
theorem comp_core {elt iter tgt : Expr} {ifs : List Expr} {scope : Scope} {pos : Pos} {cl : List (Str × Addr)} {tgs ns : List Str} {js : List Nat} {wi : TI} {g : TG} {tt : TT} {te : TE} (hc : X.calm = true)
    (hi : PI X tgt iter wi) (hg : ∀ (fp : List Addr) (s : Shared) (H : Hp), PG (cxG X scope cl fp (tgs ++ ns) s H) tgt g) (ht : ∀ (fp : List Addr) (s : Shared) (H : Hp), PTs (cxG X scope cl fp (tgs ++ ns) s H) ifs tt)
    (he : ∀ (fp : List Addr) (s : Shared) (H : Hp), PE (cxG X scope cl fp (tgs ++ ns) s H) elt te)
    (hclos : closureFor scope X.env = pure cl) (hsub : ∀ x c, cl.lookup x = some c → X.env.cells.lookup x = some c)
    (hhas : ∀ x, ((relabel scope X.env).names.lookup x = some .cell ∨ (relabel scope X.env).names.lookup x = some .free) → ∃ c, cl.lookup x = some c)
    (hjs : js.map (fun j => X.N[j]?) = ns.map some) (hin : ∀ y ∈ ns, (relabel scope X.env).names.lookup y = some .cell ∨ (relabel scope X.env).names.lookup y = some .free)
    (hout : ∀ y ∈ ns, X.env.kindOf y = some .cell ∨ X.env.kindOf y = some .free)
    (hcell : ∀ y ∈ scope.names, y.2 ≠ .cell := by decide +kernel) (hkind : scope.kind = .function := by rfl)
    (hnames : ∀ y ∈ scope.names, y.2 = .local → scope.names.lookup y.1 = some .local := by decide +kernel)
    (hs : ∀ z, foldedSetIterable iter X.env z = pure z := by intro _; rfl) :
    ∀ (pos0 : Pos) (pins : List (Addr × Obj)) (s : Shared) (σ : St) (H : Hp) (Q : VK) (I : Inv X pins σ H s) (h : tCompG wi tgs.length js g tt te σ H Q) (use : Option (Value → Sem Unit)) (R : Value → Shared → Prop)
      (hfin : ∀ (D C : Addr) (H' : Hp) (s' : Shared), Q (.ref D) H' → FpOk X pins H' C → (∃ m, s'.heap.Ns C m) → (∀ h', Heap.SameBut C s'.heap h' → Inv X pins σ H' { s' with heap := h' }) → compPost (model X.prog X.w) X.A X.xe use R (.ref D) C (.ok .next) s'),
      wpAny (model X.prog X.w) X.A (comprehension (.ListComp elt [⟨tgt, iter, ifs, 0⟩] scope pos) scope X.env pos0 (newList []) false (eval iter X.env) use) R X.xe s := by
  intro pos0 pins s σ H Q I h use R hfin
  refine wpAny_comprehension_free (use := use) rfl hs hclos hkind hnames (thn (hi pins s σ H _ I h) fun v s1 h1 => thn h1 fun itv s2 h2 => ?_)
  obtain ⟨it, fp, tn, J, H2, rfl, I2, T, st2, f2, body⟩ := h2
  have hD : H2 s2.heap.objs.size = none := I2.hok.fresh (Nat.le_refl _)
  obtain ⟨W, ⟨m0, w0⟩, step⟩ := body _ hD
  refine wpAny_newObj_type (wpAny_newFunctionEnv hcell (by intro y hy; simp at hy) (fun g1 hns hsb => ?_) hkind) (by size_fits)
  dsimp only at hns hsb ⊢
  have I3 : Inv X pins σ (upd H2 s2.heap.objs.size (.lst [])) { s2 with heap := s2.heap.push { cls := .type "list", dict := none, data := .seq ([] : List Value).toArray } } := I2.lnew (t' := s2.toks) .nil (by simp)
  generalize hD' : s2.heap.objs.size = D at *
  generalize hH3 : upd H2 D (.lst []) = H3 at *
  generalize hS3 : s2.heap.push { cls := .type "list", dict := none, data := .seq ([] : List Value).toArray } = g3 at *
  have zs : g3.objs.size = D + 1 := by rw [← hS3, Heap.size_push, hD']
  have f3 : ∀ b ∈ fp, FpOk X pins H3 b := fun b hb => by
    obtain ⟨o, ho, _⟩ := T.obj _ _ st2 b hb
    have lt := Heap.lt_size ho
    refine ⟨?_, (f2 b hb).2⟩
    rw [← hH3, upd_ne (Nat.ne_of_lt (hD' ▸ lt))]
    exact (f2 b hb).1
  have ltf : ∀ b ∈ fp, b < g3.objs.size := fun b hb => by
    obtain ⟨o, ho, _⟩ := T.obj _ _ st2 b hb
    rw [zs]
    exact Nat.lt_succ_of_lt (hD' ▸ Heap.lt_size ho)
  have kept : ∀ b o, g3.get? b = some o → g1.get? b = some o := fun b o e => hsb.extBut b o (Nat.ne_of_lt (Heap.lt_size e)) (Heap.get?_push_of_some _ e)
  have cne : ∀ x c, cl.lookup x = some c → c ≠ g3.objs.size := fun x c e => by
    obtain ⟨v, q⟩ := I3.cell x c (hsub x c e)
    exact Nat.ne_of_lt q.lt
  have ok : (cxG X scope cl fp (tgs ++ ns) { s2 with heap := g3 } H3).Ok := by
    refine ⟨I.ok.mod, hkind, I.ok.glob, I.ok.blt, Nat.le_refl _, fun y z c e1 e2 => I.ok.inj y z c (hsub y c e1) (hsub z c e2), fun y hy => hhas y hy, fun y c e => (nomatch e), I.ok.hd, I.ok.frames, .inl rfl,
      fun b hb => ⟨Nat.ne_of_lt (ltf b hb), fun y c e => (f3 b hb).2.2.2.2.1 y c (hsub y c e)⟩, I3.bs, Nat.le_trans I.ok.bsz I3.sz, fun b o e hb => ?_, fun b hb => ?_, I3.stack, I3.stkFree⟩
    · rcases (f3 b hb).2.2.2.1 with q | q
      · exact I.ok.noex b o e q
      · exact absurd (Nat.lt_of_lt_of_le (Heap.lt_size (I.ok.bs b o e).1) q) (Nat.lt_irrefl _)
    · intro z
      rcases List.mem_cons.mp (I3.stkSub b z) with q | q
      · exact (f3 b hb).2.1 q
      · exact (f3 b hb).2.2.1 q
  have cells1 : ∀ x c, cl.lookup x = some c → ∃ v, g1.IsCell c v := fun x c e => by
    obtain ⟨v, o, ho, hd⟩ := I3.cell x c (hsub x c e)
    exact ⟨v, o, kept _ _ ho, hd⟩
  have J4 : Inv (cxG X scope cl fp (tgs ++ ns) { s2 with heap := g3 } H3) [] (List.replicate tgs.length none ++ pick js σ) H3 { s2 with heap := g1, toks := s2.toks + ([] : List (Str × Value)).length } := by
    refine ⟨ok, rfl, I3.bare, Un.kept kept, ⟨_, hns, fun i y v e1 e2 e3 => ?_⟩, fun y c e => cells1 y c e, I3.hok.fresh (Nat.le_refl _), fun y c e => I3.freeC y c (hsub y c e), fun p hp => absurd (show p ∈ ([] : List (Addr × Obj)) from hp) (by simp), I3.hok.kept kept, ?_⟩
    · have hi2 : tgs.length ≤ i := by
        by_cases hlt : i < tgs.length
        · rw [List.getElem?_append_left (by simpa using hlt), List.getElem?_replicate, if_pos hlt] at e2
          cases e2
        · omega
      rw [List.getElem?_append_right (by simpa using hi2), List.length_replicate] at e2
      have e1' : (tgs ++ ns)[i]? = some y := e1
      rw [List.getElem?_append_right hi2] at e1'
      obtain ⟨j, hj, hσ⟩ := pick_get e2
      have hNj : X.N[j]? = some y := by
        have := congrArg (fun l => l[i - tgs.length]?) hjs
        simp only [List.getElem?_map, hj, e1', Option.map_some] at this
        exact Option.some.inj this
      have ym : y ∈ ns := List.mem_of_getElem? e1'
      obtain ⟨m, hm, hl⟩ := I3.loc
      have vis : Vis X.env.scope y := by
        rcases hout y ym with q | q
        · exact .inr (.inl q)
        · exact .inr (.inr q)
      obtain ⟨u, ru, lk⟩ := hl j y v hNj hσ vis
      refine ⟨u, ru, ?_⟩
      rcases lk with ⟨q, _⟩ | ⟨_, c, hc1, hc2⟩
      · rcases hout y ym with z | z
        · rw [z] at q; cases q
        · rw [z] at q; cases q
      · obtain ⟨c', hc'⟩ := hhas y (hin y ym)
        have := hsub y c' hc'
        rw [hc1] at this
        cases this
        obtain ⟨o, ho, hd⟩ := hc2
        exact .inr ⟨hin y ym, c, hc', o, kept _ _ ho, hd⟩
    · show _ = (tgs ++ ns).length
      have := congrArg List.length hjs
      simp only [List.length_map] at this
      simp [pick, this]
  have st4 : tn 0 g1 := T.keep 0 _ _ st2 fun b hb o e => kept b o (by rw [← hS3]; exact Heap.get?_push_of_some _ e)
  have fin : ∀ (H' : Hp) (σ' : St) (s' : Shared), Inv (cxG X scope cl fp (tgs ++ ns) { s2 with heap := g3 } H3) [] σ' H' s' → Q (.ref D) H' → compPost (model X.prog X.w) X.A X.xe use R (.ref D) g3.objs.size (.ok .next) s' := by
    intro H' σ' s' K q
    obtain ⟨m, hm, _⟩ := K.loc
    refine hfin D g3.objs.size H' s' q (I3.fpOk (Nat.le_refl _) K.free) ⟨m, hm⟩ fun h' hsb' => ?_
    have ne : ∀ b o, g3.get? b = some o → b ≠ g3.objs.size := fun b o e => Nat.ne_of_lt (Heap.lt_size e)
    have B : Un (frs X.stack) fp H3 H' g3 s'.heap := K.base
    refine I3.call' (s' := { s' with heap := h' }) (ch := fp) K.os ⟨fun b o e n hb hx => (hsb'.2 b (ne b o e)).trans (B.keep b o e n hb hx), fun b o e n hb hx => ?_, B.free, fun b o e hx => ?_, B.tups, B.frzs, B.tbls⟩ (fun b u e => ?_) K.bare (fun b hb => ?_)
    · obtain ⟨sl, e1⟩ := B.slot b o e n hb hx
      exact ⟨sl, (hsb'.2 b (ne b o e)).trans e1⟩
    · obtain ⟨o', e1⟩ := B.there b o e hx
      exact ⟨o', (hsb'.2 b (ne b o e)).trans e1⟩
    · have nC : ∀ c v, H' c = some v → c ≠ g3.objs.size := fun c v e z => by
        have : H' g3.objs.size = none := K.free
        rw [z, this] at e
        cases e
      refine (K.hok b u e).stay (fun c v hc q => (hsb'.2 c ?_).trans q) (fun _ q => q) fun _ _ q => q
      rcases hc with z | z
      · rw [z]; exact nC b u e
      · exact nC c _ z
    · obtain ⟨_, q1, _, q3, q4, q5⟩ := f3 b hb
      exact ⟨q3, q1, q4, q5⟩
  have loop : codeAny (model X.prog X.w) X.A (.compLoop (.ListComp elt [⟨tgt, iter, ifs, 0⟩] scope pos) 0 (.ref it) (.ref D) (compEnvC scope cl g3.objs.size X.env))
      (compPost (model X.prog X.w) X.A X.xe use R (.ref D) g3.objs.size) { s2 with heap := g1, toks := s2.toks + ([] : List (Str × Value)).length } := by
    refine compLoop_anyI (fun n s' => ∃ i acc old H', Inv (cxG X scope cl fp (tgs ++ ns) { s2 with heap := g3 } H3) [] (old ++ pick js σ) H' s' ∧ old.length = tgs.length ∧ tn i s'.heap ∧ (∀ b ∈ fp, H' b = none) ∧ H' D = some (.lst acc) ∧ W i n acc H') ?_ m0
      ⟨0, [], List.replicate tgs.length none, H3, J4, by simp, st4, fun b hb => (f3 b hb).1, by rw [← hH3]; exact upd_same, w0⟩
    rintro n s' ⟨i, acc, old, H', K, lo, st, fr, hDl, w⟩
    have fpk : ∀ {H'' : Hp}, (∀ b ∈ fp, H'' b = none) → ∀ b ∈ fp, FpOk (cxG X scope cl fp (tgs ++ ns) { s2 with heap := g3 } H3) [] H'' b := fun hn b hb =>
      ⟨hn b hb, Nat.ne_of_lt (ltf b hb), fun z => ok.exfs b hb z, .inl hb, fun y c e => (f3 b hb).2.2.2.2.1 y c (hsub y c e), fun p hp => absurd (show p ∈ ([] : List (Addr × Obj)) from hp) (by simp)⟩
    rcases step i n acc H' w hDl with ⟨stop, q⟩ | ⟨go, next⟩
    · refine thn (T.done (cxG X scope cl fp (tgs ++ ns) { s2 with heap := g3 } H3) rfl rfl rfl hc i [] s' _ H' _ K (fpk fr) st stop) fun r s1 ⟨hr, K1⟩ => ?_
      subst hr
      exact fin H' _ s1 K1 q
    · refine thn (T.item (cxG X scope cl fp (tgs ++ ns) { s2 with heap := g3 } H3) rfl rfl rfl hc i [] s' _ H' _ K (fpk fr) st go) fun r s1 ⟨u, hr, h4⟩ => ?_
      subst hr
      refine thn h4 fun _ s5 ⟨y, H5, K5, r5, y5, st5, fr5⟩ => ?_
      have K5' := K5.pinned (fpk fr5) (T.obj _ _ st5)
      refine thn (hg fp { s2 with heap := g3 } H3 _ s5 _ H5 y u _ K5' r5 (next y H5 y5 old lo)) fun _ s6 ⟨σ6, H6, K6, ⟨new, hnew, e6⟩, q6⟩ => ?_
      subst e6
      refine thn (ht fp { s2 with heap := g3 } H3 _ s6 _ H6 _ K6 q6) fun b s6' ⟨H6', K6', q6'⟩ => ?_
      have again : ∀ {s8 : Shared} {H8 : Hp} {acc' : List V} {m' : Nat}, Inv (cxG X scope cl fp (tgs ++ ns) { s2 with heap := g3 } H3) ([] ++ pinsAt fp s5.heap) (new ++ pick js σ) H8 s8 → H8 D = some (.lst acc') → m' < n → W (i + 1) m' acc' H8 →
          ∃ m, m < n ∧ ∃ i acc old H', Inv (cxG X scope cl fp (tgs ++ ns) { s2 with heap := g3 } H3) [] (old ++ pick js σ) H' s8 ∧ old.length = tgs.length ∧ tn i s8.heap ∧ (∀ b ∈ fp, H' b = none) ∧ H' D = some (.lst acc) ∧ W i m acc H' := by
        intro s8 H8 acc' m' K8 h8 hm' w8
        refine ⟨m', hm', i + 1, acc', new, H8, K8.unpinned, hnew, T.keep _ _ _ st5 fun b hb o e => (K8.pin (b, o) (List.mem_append_right _ (List.mem_append_right _ (mem_pinsAt hb e)))).1, fun b hb => ?_, h8, w8⟩
        obtain ⟨o, e, d⟩ := T.obj _ _ st5 b hb
        exact (K8.pin (b, o) (List.mem_append_right _ (List.mem_append_right _ (mem_pinsAt hb e)))).2.1
      cases b with
      | true =>
        refine iteT ?_
        rw [if_pos rfl] at q6'
        refine thn (he fp { s2 with heap := g3 } H3 _ s6' _ H6' _ K6' q6') fun vv s7 ⟨v, H7, K7, r7, hD7, hlen, m', hm', w7⟩ => ?_
        refine thn (mt_append (X := cxG X scope cl fp (tgs ++ ns) { s2 with heap := g3 } H3) _ s7 _ H7 (.ref D) [v] (.ref D) [vv] (fun _ H8 => H8 = upd H7 D (.lst (acc ++ [v]))) K7 rfl (.cons r7 .nil) ⟨D, acc, v, rfl, rfl, hD7, hlen, rfl⟩) fun _ s8 ⟨_, H8, K8, _, e8⟩ => ?_
        subst e8
        exact again K8 upd_same hm' w7
      | false =>
        refine iteF ?_
        have q6f : H6' D = some (.lst acc) ∧ ∃ m', m' < n ∧ W (i + 1) m' acc H6' := by simpa using q6'
        obtain ⟨hD7, m', hm', w7⟩ := q6f
        exact again K6' hD7 hm' w7
  exact codeAny_compStart_list loop (T.self _ 0 _ _ _ st4 loop)
theorem pe_compG {elt iter tgt : Expr} {ifs : List Expr} {scope : Scope} {pos : Pos} {cl : List (Str × Addr)} {tgs ns : List Str} {js : List Nat} {wi : TI} {g : TG} {tt : TT} {te : TE} (hc : X.calm = true)
    (hi : PI X tgt iter wi) (hg : ∀ (fp : List Addr) (s : Shared) (H : Hp), PG (cxG X scope cl fp (tgs ++ ns) s H) tgt g) (ht : ∀ (fp : List Addr) (s : Shared) (H : Hp), PTs (cxG X scope cl fp (tgs ++ ns) s H) ifs tt)
    (he : ∀ (fp : List Addr) (s : Shared) (H : Hp), PE (cxG X scope cl fp (tgs ++ ns) s H) elt te)
    (hclos : closureFor scope X.env = pure cl) (hsub : ∀ x c, cl.lookup x = some c → X.env.cells.lookup x = some c)
    (hhas : ∀ x, ((relabel scope X.env).names.lookup x = some .cell ∨ (relabel scope X.env).names.lookup x = some .free) → ∃ c, cl.lookup x = some c)
    (hjs : js.map (fun j => X.N[j]?) = ns.map some) (hin : ∀ y ∈ ns, (relabel scope X.env).names.lookup y = some .cell ∨ (relabel scope X.env).names.lookup y = some .free)
    (hout : ∀ y ∈ ns, X.env.kindOf y = some .cell ∨ X.env.kindOf y = some .free)
    (hcell : ∀ y ∈ scope.names, y.2 ≠ .cell := by decide +kernel) (hkind : scope.kind = .function := by rfl)
    (hnames : ∀ y ∈ scope.names, y.2 = .local → scope.names.lookup y.1 = some .local := by decide +kernel)
    (hs : ∀ z, foldedSetIterable iter X.env z = pure z := by intro _; rfl) :
    PE X (.ListComp elt [⟨tgt, iter, ifs, 0⟩] scope pos) (tCompG wi tgs.length js g tt te) := by
  intro pins s σ H Q I h
  rw [eval_ListComp]
  refine comp_core hc hi hg ht he hclos hsub hhas hjs hin hout hcell hkind hnames hs _ pins s σ H Q I h none _ ?_
  intro D C H' s' q fp hm inv
  obtain ⟨m, hm⟩ := hm
  exact ⟨m, hm, fun h' hs' => ⟨.ref D, H', inv h' hs', rfl, q⟩⟩
end
end L2
namespace L2
open PySem PySem.Spec PyProof.Rows AutoSeq1
section
variable {prog : Program} {w : World} {A : Around} {E : Value → Shared → Prop} {s : Shared} {r : Addr} {a b c : Int} {t u v : Tok} {n : Nat}
end
section
variable {prog : Program} {w : World} {A : Around} {E : Value → Shared → Prop} {s : Shared} {r : Addr} {a b c : Int} {t u v : Tok} {n : Nat}
end
end L2
namespace Tim
open PySem PySem.W PyProof.Rows
section
variable {lt : Nat → Nat → Bool} {N : Nat} {p : Array Nat}
end
end Tim
namespace L2
open PySem PySem.Spec PySem.W PyProof.Rows Tim
section
variable {prog : Program} {w : World} {A : Around} {E : Value → Shared → Prop} {s : Shared}
end
section
variable {prog : Program} {w : World} {A : Around} {s : Shared} {C : Bool → Shared → Prop} {fin : Bool}
end
section
variable {X : Cx}
end
end L2
namespace L2
open PySem PySem.Spec PyProof.Rows
section
variable {prog : Program} {w : World} {A : Around} {E : Value → Shared → Prop} {s : Shared}
end
section
variable {X : Cx}
end
end L2
namespace Sf
end Sf
namespace Fl
section
variable {n p : Nat} {l : List Int} {x y : Int}
end
section
variable {ks l e r : List Int} {x y : Int}
end
section
variable {ks l e r : List Int}
end
end Fl
set_option maxHeartbeats 8000000
namespace Fl
section
variable {ks r e : List Int}
end
section
variable {n L : Nat} {kk : Int → Int} {T : Int → Int → Nat}
end
end Fl
namespace Fl
section
variable {n L : Nat} {kk : Int → Int} {T : Int → Int → Nat}
end
end Fl
namespace Fl
section
variable {ks r e : List Int}
end
end Fl
namespace L2
open PySem PySem.Spec PyProof.Rows
section
variable {D : Ends} {σ : St} {H : Hp} {Q : VK} {t u : TS} {te ta tb tc : TE} {g : TG} {K : PySem.W.Frag}
end
end L2
namespace Z
open PySem PySem.Spec PyProof.Rows L2
abbrev St := L2.St
inductive Dv where
  | non
  | bl (b : Bool)
  | int (i : Int)
  | str (x : Str)
  | tup (xs : List Dv)
  | lst (xs : List Dv)
  | dik (kvs : List (Key × Dv))
  | dit (kvs : List (List Key × Dv))
  | obj (C : Addr) (fs : List (Str × Dv))
  | scr (ns : List Int)
  /-- an exception that was caught, of the class at C -/
  | exc (C : Addr)
def flatD : Dv → Bool
  | .lst _ => false
  | .dik _ => false
  | .dit _ => false
  | .obj _ _ => false
  | .tup xs => flatDs xs
  | _ => true
where flatDs : List Dv → Bool
  | [] => true
  | d :: r => flatD d && flatDs r
abbrev flatDs := flatD.flatDs
def Scr (K : PySem.W.Frag) (H : Hp) (a : Addr) (ns : List Int) : Prop :=
  (∃ o, H a = some (.frz o (.lst (ns.map V.int)))) ∨
    ∃ (o : Obj) (its : Array Value) (n : Nat), K.lookup a = some o ∧ o.cls = .type "list" ∧ o.dict = none ∧ o.data = .seq its n ∧ its.size ≤ sizeLine ∧ Vals (ns.map V.int) its.toList
theorem Scr.sq {K : PySem.W.Frag} {H : Hp} {a : Addr} {ns : List Int} (h : Scr K H a ns) : SqL K H a (ns.map V.int) := by
  rcases h with ⟨o, h⟩ | h
  · exact .inl (.inr ⟨o, h⟩)
  · exact .inr h
def ExcAt (H : Hp) (a C : Addr) : Prop := ∃ o u, H a = some (.frz o u) ∧ o.cls = .ref C
mutual
inductive Rep (K : PySem.W.Frag) (M : Addr → Prop) (H : Hp) : V → Dv → Prop
  | non : Rep K M H .non .non
  | bl (b : Bool) : Rep K M H (.bl b) (.bl b)
  | int (i : Int) : Rep K M H (.int i) (.int i)
  | str (x : Str) : Rep K M H (.str x) (.str x)
  | tup {a : Addr} {xs : List V} {ds : List Dv} : H a = some (.tup xs) → Reps K M H xs ds → Rep K M H (.ref a) (.tup ds)
  | lst {a : Addr} {xs : List V} {ds : List Dv} : H a = some (.lst xs) → ¬ M a → Reps K M H xs ds → Rep K M H (.ref a) (.lst ds)
  | dik {a : Addr} {kvs : List (Key × V)} {ds : List (Key × Dv)} : H a = some (.dK kvs) → ¬ M a → RepK K M H kvs ds → Rep K M H (.ref a) (.dik ds)
  | dit {a : Addr} {kvs : List (List Key × V)} {ds : List (List Key × Dv)} : H a = some (.dT kvs) → ¬ M a → RepT K M H kvs ds → Rep K M H (.ref a) (.dit ds)
  | obj {a C dx : Addr} {fs : List (Str × V)} {ds : List (Str × Dv)} : H a = some (.ins C dx fs) → ¬ M a → RepF K M H fs ds → Rep K M H (.ref a) (.obj C ds)
  | scr {a : Addr} {ns : List Int} : Scr K H a ns → Rep K M H (.ref a) (.scr ns)
  | exc {a C : Addr} : ExcAt H a C → Rep K M H (.ref a) (.exc C)
inductive Reps (K : PySem.W.Frag) (M : Addr → Prop) (H : Hp) : List V → List Dv → Prop
  | nil : Reps K M H [] []
  | cons {x : V} {d : Dv} {xs : List V} {ds : List Dv} : Rep K M H x d → Reps K M H xs ds → Reps K M H (x :: xs) (d :: ds)
inductive RepK (K : PySem.W.Frag) (M : Addr → Prop) (H : Hp) : List (Key × V) → List (Key × Dv) → Prop
  | nil : RepK K M H [] []
  | cons {k : Key} {x : V} {d : Dv} {xs : List (Key × V)} {ds : List (Key × Dv)} : Rep K M H x d → RepK K M H xs ds → RepK K M H ((k, x) :: xs) ((k, d) :: ds)
inductive RepT (K : PySem.W.Frag) (M : Addr → Prop) (H : Hp) : List (List Key × V) → List (List Key × Dv) → Prop
  | nil : RepT K M H [] []
  | cons {k : List Key} {x : V} {d : Dv} {xs : List (List Key × V)} {ds : List (List Key × Dv)} : Rep K M H x d → RepT K M H xs ds → RepT K M H ((k, x) :: xs) ((k, d) :: ds)
inductive RepF (K : PySem.W.Frag) (M : Addr → Prop) (H : Hp) : List (Str × V) → List (Str × Dv) → Prop
  | nil : RepF K M H [] []
  | cons {k : Str} {x : V} {d : Dv} {xs : List (Str × V)} {ds : List (Str × Dv)} : Rep K M H x d → RepF K M H xs ds → RepF K M H ((k, x) :: xs) ((k, d) :: ds)
end
structure Gen (K : PySem.W.Frag) (M M' : Addr → Prop) (H H' : Hp) : Prop where
  l : ∀ a o, H a = some o → Mut (some o) → ¬ M a → H' a = some o ∧ ¬ M' a
  t : ∀ a xs, H a = some (.tup xs) → H' a = some (.tup xs)
  s : ∀ a ns, Scr K H a ns → Scr K H' a ns
  x : ∀ a o u, H a = some (.frz o u) → H' a = some (.frz o u)
section
variable {K : PySem.W.Frag} {M M' M'' : Addr → Prop} {H H' H'' : Hp}
theorem Reps.ind {P : List V → List Dv → Prop} (h0 : P [] []) (h1 : ∀ (x : V) (d : Dv) (xs : List V) (ds : List Dv), Rep K M H x d → Reps K M H xs ds → P xs ds → P (x :: xs) (d :: ds)) {xs : List V} {ds : List Dv} (r : Reps K M H xs ds) : P xs ds :=
  Reps.rec (motive_1 := fun _ _ _ => True) (motive_2 := fun xs ds _ => P xs ds) (motive_3 := fun _ _ _ => True) (motive_4 := fun _ _ _ => True) (motive_5 := fun _ _ _ => True) trivial (fun _ => trivial) (fun _ => trivial) (fun _ => trivial) (fun _ _ _ => trivial) (fun _ _ _ _ => trivial) (fun _ _ _ _ => trivial) (fun _ _ _ _ => trivial) (fun _ _ _ _ => trivial) (fun _ => trivial) (fun _ => trivial) h0 (fun a r _ ih => h1 _ _ _ _ a r ih) trivial (fun _ _ _ _ => trivial) trivial (fun _ _ _ _ => trivial) trivial (fun _ _ _ _ => trivial) r
theorem RepK.ind {P : List (Key × V) → List (Key × Dv) → Prop} (h0 : P [] []) (h1 : ∀ (k : Key) (x : V) (d : Dv) (xs : List (Key × V)) (ds : List (Key × Dv)), Rep K M H x d → RepK K M H xs ds → P xs ds → P ((k, x) :: xs) ((k, d) :: ds)) {xs : List (Key × V)} {ds : List (Key × Dv)} (r : RepK K M H xs ds) : P xs ds :=
  RepK.rec (motive_1 := fun _ _ _ => True) (motive_2 := fun _ _ _ => True) (motive_3 := fun xs ds _ => P xs ds) (motive_4 := fun _ _ _ => True) (motive_5 := fun _ _ _ => True) trivial (fun _ => trivial) (fun _ => trivial) (fun _ => trivial) (fun _ _ _ => trivial) (fun _ _ _ _ => trivial) (fun _ _ _ _ => trivial) (fun _ _ _ _ => trivial) (fun _ _ _ _ => trivial) (fun _ => trivial) (fun _ => trivial) trivial (fun _ _ _ _ => trivial) h0 (fun a r _ ih => h1 _ _ _ _ _ a r ih) trivial (fun _ _ _ _ => trivial) trivial (fun _ _ _ _ => trivial) r
theorem RepT.ind {P : List (List Key × V) → List (List Key × Dv) → Prop} (h0 : P [] []) (h1 : ∀ (k : List Key) (x : V) (d : Dv) (xs : List (List Key × V)) (ds : List (List Key × Dv)), Rep K M H x d → RepT K M H xs ds → P xs ds → P ((k, x) :: xs) ((k, d) :: ds)) {xs : List (List Key × V)} {ds : List (List Key × Dv)} (r : RepT K M H xs ds) : P xs ds :=
  RepT.rec (motive_1 := fun _ _ _ => True) (motive_2 := fun _ _ _ => True) (motive_3 := fun _ _ _ => True) (motive_4 := fun xs ds _ => P xs ds) (motive_5 := fun _ _ _ => True) trivial (fun _ => trivial) (fun _ => trivial) (fun _ => trivial) (fun _ _ _ => trivial) (fun _ _ _ _ => trivial) (fun _ _ _ _ => trivial) (fun _ _ _ _ => trivial) (fun _ _ _ _ => trivial) (fun _ => trivial) (fun _ => trivial) trivial (fun _ _ _ _ => trivial) trivial (fun _ _ _ _ => trivial) h0 (fun a r _ ih => h1 _ _ _ _ _ a r ih) trivial (fun _ _ _ _ => trivial) r
theorem RepF.ind {P : List (Str × V) → List (Str × Dv) → Prop} (h0 : P [] []) (h1 : ∀ (k : Str) (x : V) (d : Dv) (xs : List (Str × V)) (ds : List (Str × Dv)), Rep K M H x d → RepF K M H xs ds → P xs ds → P ((k, x) :: xs) ((k, d) :: ds)) {xs : List (Str × V)} {ds : List (Str × Dv)} (r : RepF K M H xs ds) : P xs ds :=
  RepF.rec (motive_1 := fun _ _ _ => True) (motive_2 := fun _ _ _ => True) (motive_3 := fun _ _ _ => True) (motive_4 := fun _ _ _ => True) (motive_5 := fun xs ds _ => P xs ds) trivial (fun _ => trivial) (fun _ => trivial) (fun _ => trivial) (fun _ _ _ => trivial) (fun _ _ _ _ => trivial) (fun _ _ _ _ => trivial) (fun _ _ _ _ => trivial) (fun _ _ _ _ => trivial) (fun _ => trivial) (fun _ => trivial) trivial (fun _ _ _ _ => trivial) trivial (fun _ _ _ _ => trivial) trivial (fun _ _ _ _ => trivial) h0 (fun a r _ ih => h1 _ _ _ _ _ a r ih) r
theorem Rep.gen (G : Gen K M M' H H') {x : V} {d : Dv} (r : Rep K M H x d) : Rep K M' H' x d :=
  Rep.rec (motive_1 := fun x d _ => Rep K M' H' x d) (motive_2 := fun xs ds _ => Reps K M' H' xs ds) (motive_3 := fun xs ds _ => RepK K M' H' xs ds) (motive_4 := fun xs ds _ => RepT K M' H' xs ds) (motive_5 := fun xs ds _ => RepF K M' H' xs ds)
    .non .bl .int .str (fun h _ r => .tup (G.t _ _ h) r) (fun h m _ r => .lst (G.l _ _ h trivial m).1 (G.l _ _ h trivial m).2 r) (fun h m _ r => .dik (G.l _ _ h trivial m).1 (G.l _ _ h trivial m).2 r) (fun h m _ r => .dit (G.l _ _ h trivial m).1 (G.l _ _ h trivial m).2 r)
    (fun h m _ r => .obj (G.l _ _ h trivial m).1 (G.l _ _ h trivial m).2 r) (fun h => .scr (G.s _ _ h)) (fun ⟨o, u, h, z⟩ => .exc ⟨o, u, G.x _ _ _ h, z⟩) .nil (fun _ _ a r => .cons a r) .nil (fun _ _ a r => .cons a r) .nil (fun _ _ a r => .cons a r) .nil (fun _ _ a r => .cons a r) r
theorem Reps.gen (G : Gen K M M' H H') {xs : List V} {ds : List Dv} (r : Reps K M H xs ds) : Reps K M' H' xs ds := r.ind .nil fun _ _ _ _ a _ ih => .cons (a.gen G) ih
theorem RepK.gen (G : Gen K M M' H H') {xs : List (Key × V)} {ds : List (Key × Dv)} (r : RepK K M H xs ds) : RepK K M' H' xs ds := r.ind .nil fun _ _ _ _ _ a _ ih => .cons (a.gen G) ih
theorem RepT.gen (G : Gen K M M' H H') {xs : List (List Key × V)} {ds : List (List Key × Dv)} (r : RepT K M H xs ds) : RepT K M' H' xs ds := r.ind .nil fun _ _ _ _ _ a _ ih => .cons (a.gen G) ih
theorem RepF.gen (G : Gen K M M' H H') {xs : List (Str × V)} {ds : List (Str × Dv)} (r : RepF K M H xs ds) : RepF K M' H' xs ds := r.ind .nil fun _ _ _ _ _ a _ ih => .cons (a.gen G) ih
theorem Same.scr (S : Same H H') {a : Addr} {ns : List Int} (h : Scr K H a ns) : Scr K H' a ns := by
  rcases h with ⟨o, h⟩ | h
  · exact .inl ⟨o, S _ _ h⟩
  · exact .inr h
theorem Gen.mono (S : Same H H') : Gen K M M H H' := ⟨fun a o h _ m => ⟨S _ _ h, m⟩, fun _ _ h => S _ _ h, fun _ _ h => Same.scr S h, fun _ _ _ h => S _ _ h⟩
theorem Gen.weak (h : ∀ a, M' a → M a) : Gen K M M' H H := ⟨fun a o e _ m => ⟨e, fun z => m (h a z)⟩, fun _ _ h => h, fun _ _ h => h, fun _ _ _ h => h⟩
theorem Gen.fresh {p : Addr} (hp : H p = none) : Gen K M (fun b => M b ∨ b = p) H H :=
  ⟨fun a o e _ m => ⟨e, fun z => z.elim m fun z => by rw [z, hp] at e; cases e⟩, fun _ _ h => h, fun _ _ h => h, fun _ _ _ h => h⟩
theorem Gen.trans (a : Gen K M M' H H') (b : Gen K M' M'' H' H'') : Gen K M M'' H H'' :=
  ⟨fun c o e mu m => b.l c o (a.l c o e mu m).1 mu (a.l c o e mu m).2, fun c xs h => b.t c xs (a.t c xs h), fun c ns h => b.s c ns (a.s c ns h), fun c o u h => b.x c o u (a.x c o u h)⟩
theorem mut_ne {p a : Addr} {u : HO} (mu : Mut (H p)) (e : H a = some u) (n : ¬ Mut (some u)) : a ≠ p := fun z => by
  subst z
  rw [e] at mu
  exact n mu
theorem Gen.write {p : Addr} {o : HO} (hM : M p) (mu : Mut (H p)) : Gen K M M H (upd H p o) := by
  refine ⟨fun a u e _ m => ⟨?_, m⟩, fun a xs h => ?_, fun a ns h => ?_, fun a o u h => by rw [upd_ne (mut_ne mu h fun z => z)]; exact h⟩
  · rw [upd_ne fun z => m (by rw [z]; exact hM)]
    exact e
  · rw [upd_ne (mut_ne mu h fun z => z)]
    exact h
  · rcases h with ⟨u, h⟩ | h
    · exact .inl ⟨u, by rw [upd_ne (mut_ne mu h fun z => z)]; exact h⟩
    · exact .inr h
end
section
variable {K : PySem.W.Frag} {M M' : Addr → Prop} {H H' : Hp}
theorem Rep.mono {x : V} {d : Dv} (S : Same H H') (h : Rep K M H x d) : Rep K M H' x d := h.gen (.mono S)
theorem Rep.weak {x : V} {d : Dv} (w : ∀ a, M' a → M a) (h : Rep K M H x d) : Rep K M' H x d := h.gen (.weak w)
theorem Reps.mono {xs : List V} {ds : List Dv} (S : Same H H') (h : Reps K M H xs ds) : Reps K M H' xs ds := h.gen (.mono S)
theorem flat_cons {d : Dv} {ds : List Dv} (f : flatDs (d :: ds) = true) : flatD d = true ∧ flatDs ds = true := by
  have f' : (flatD d && flatDs ds) = true := f
  rwa [Bool.and_eq_true] at f'
theorem Rep.flat {x : V} {d : Dv} (f : flatD d = true) (r : Rep K M H x d) : Rep K M' H x d :=
  Rep.rec (motive_1 := fun x d _ => flatD d = true → Rep K M' H x d) (motive_2 := fun xs ds _ => flatDs ds = true → Reps K M' H xs ds) (motive_3 := fun _ _ _ => True) (motive_4 := fun _ _ _ => True) (motive_5 := fun _ _ _ => True)
    (fun _ => .non) (fun b _ => .bl b) (fun i _ => .int i) (fun x _ => .str x) (fun h _ ih f => .tup h (ih (by rw [flatD] at f; exact f))) (fun _ _ _ _ f => by simp [flatD] at f) (fun _ _ _ _ f => by simp [flatD] at f) (fun _ _ _ _ f => by simp [flatD] at f)
    (fun _ _ _ _ f => by simp [flatD] at f) (fun h _ => .scr h) (fun h _ => .exc h) (fun _ => .nil) (fun _ _ a r f => .cons (a (flat_cons f).1) (r (flat_cons f).2)) trivial (fun _ _ _ _ => trivial) trivial (fun _ _ _ _ => trivial) trivial (fun _ _ _ _ => trivial) r f
theorem Reps.flat {xs : List V} {ds : List Dv} (f : flatDs ds = true) (r : Reps K M H xs ds) : Reps K M' H xs ds :=
  r.ind (P := fun xs ds => flatDs ds = true → Reps K M' H xs ds) (fun _ => .nil) (fun _ _ _ _ a _ ih f => .cons (a.flat (flat_cons f).1) (ih (flat_cons f).2)) f
theorem RepF.flat {xs : List (Str × V)} {ds : List (Str × Dv)} (f : flatDs (ds.map (·.2)) = true) (r : RepF K M H xs ds) : RepF K M' H xs ds :=
  r.ind (P := fun xs ds => flatDs (ds.map (·.2)) = true → RepF K M' H xs ds) (fun _ => .nil) (fun _ _ _ _ _ a _ ih f => .cons (a.flat (flat_cons f).1) (ih (flat_cons f).2)) f
theorem RepK.flat {xs : List (Key × V)} {ds : List (Key × Dv)} (f : flatDs (ds.map (·.2)) = true) (r : RepK K M H xs ds) : RepK K M' H xs ds :=
  r.ind (P := fun xs ds => flatDs (ds.map (·.2)) = true → RepK K M' H xs ds) (fun _ => .nil) (fun _ _ _ _ _ a _ ih f => .cons (a.flat (flat_cons f).1) (ih (flat_cons f).2)) f
theorem RepT.flat {xs : List (List Key × V)} {ds : List (List Key × Dv)} (f : flatDs (ds.map (·.2)) = true) (r : RepT K M H xs ds) : RepT K M' H xs ds :=
  r.ind (P := fun xs ds => flatDs (ds.map (·.2)) = true → RepT K M' H xs ds) (fun _ => .nil) (fun _ _ _ _ _ a _ ih f => .cons (a.flat (flat_cons f).1) (ih (flat_cons f).2)) f
theorem Reps.length {xs : List V} {ds : List Dv} (r : Reps K M H xs ds) : xs.length = ds.length := r.ind (P := fun xs ds => xs.length = ds.length) rfl fun _ _ _ _ _ _ ih => congrArg (· + 1) ih
theorem Reps.append {xs ys : List V} {ds es : List Dv} (r : Reps K M H xs ds) (s : Reps K M H ys es) : Reps K M H (xs ++ ys) (ds ++ es) := r.ind (P := fun xs ds => Reps K M H (xs ++ ys) (ds ++ es)) s fun _ _ _ _ a _ ih => .cons a ih
theorem Reps.get {xs : List V} {ds : List Dv} {i : Nat} {d : Dv} (r : Reps K M H xs ds) (e : ds[i]? = some d) : ∃ x, xs[i]? = some x ∧ Rep K M H x d :=
  r.ind (P := fun xs ds => ∀ i, ds[i]? = some d → ∃ x, xs[i]? = some x ∧ Rep K M H x d) (fun i e => by rw [List.getElem?_nil] at e; cases e) (fun x y xs ys a _ ih i e => by
    cases i with
    | zero => rw [List.getElem?_cons_zero] at e; cases e; exact ⟨x, rfl, a⟩
    | succ i => exact ih i e) i e
theorem Reps.repl {xs : List V} {ds : List Dv} (h : Reps K M H xs ds) : ∀ n : Nat, Reps K M H (List.replicate n xs).flatten (List.replicate n ds).flatten
  | 0 => .nil
  | n + 1 => by
    rw [List.replicate_succ, List.replicate_succ, List.flatten_cons, List.flatten_cons]
    exact h.append (Reps.repl h n)
end
def OwnAt (K : PySem.W.Frag) (M : Addr → Prop) (H : Hp) (a : Addr) : Dv → Prop
  | .lst ds => ∃ xs, H a = some (.lst xs) ∧ Reps K M H xs ds
  | .dik ds => ∃ kvs, H a = some (.dK kvs) ∧ RepK K M H kvs ds
  | .dit ds => ∃ kvs, H a = some (.dT kvs) ∧ RepT K M H kvs ds
  | .obj C ds => ∃ dx fs, H a = some (.ins C dx fs) ∧ RepF K M H fs ds
  | _ => False
def flatO : Dv → Bool
  | .lst ds => flatDs ds
  | .dik ds => flatDs (ds.map (·.2))
  | .dit ds => flatDs (ds.map (·.2))
  | .obj _ ds => flatDs (ds.map (·.2))
  | _ => false
section
variable {K : PySem.W.Frag} {M M' : Addr → Prop} {H H' : Hp} {a : Addr}
theorem OwnAt.gen {d : Dv} (G : Gen K M M' H H') (ha : ∀ o, H a = some o → H' a = some o) (h : OwnAt K M H a d) : OwnAt K M' H' a d := by
  cases d with
  | lst ds => obtain ⟨xs, e, r⟩ := h; exact ⟨xs, ha _ e, r.gen G⟩
  | dik ds => obtain ⟨xs, e, r⟩ := h; exact ⟨xs, ha _ e, r.gen G⟩
  | dit ds => obtain ⟨xs, e, r⟩ := h; exact ⟨xs, ha _ e, r.gen G⟩
  | obj C ds => obtain ⟨dx, fs, e, r⟩ := h; exact ⟨dx, fs, ha _ e, r.gen G⟩
  | _ => exact h.elim
theorem OwnAt.mono {d : Dv} (S : Same H H') (h : OwnAt K M H a d) : OwnAt K M H' a d := h.gen (.mono S) fun o e => S _ _ e
theorem OwnAt.weak {d : Dv} (w : ∀ a, M' a → M a) (h : OwnAt K M H a d) : OwnAt K M' H a d := h.gen (.weak w) fun _ e => e
theorem OwnAt.flat {d : Dv} (f : flatO d = true) (h : OwnAt K M H a d) : OwnAt K M' H a d := by
  cases d with
  | lst ds => obtain ⟨xs, e, r⟩ := h; exact ⟨xs, e, r.flat f⟩
  | dik ds => obtain ⟨xs, e, r⟩ := h; exact ⟨xs, e, r.flat f⟩
  | dit ds => obtain ⟨xs, e, r⟩ := h; exact ⟨xs, e, r.flat f⟩
  | obj C ds => obtain ⟨dx, fs, e, r⟩ := h; exact ⟨dx, fs, e, r.flat f⟩
  | _ => exact h.elim
theorem OwnAt.mut {d : Dv} (h : OwnAt K M H a d) : ∃ o, H a = some o ∧ Mut (some o) := by
  cases d with
  | lst ds => obtain ⟨xs, e, r⟩ := h; exact ⟨_, e, trivial⟩
  | dik ds => obtain ⟨xs, e, r⟩ := h; exact ⟨_, e, trivial⟩
  | dit ds => obtain ⟨xs, e, r⟩ := h; exact ⟨_, e, trivial⟩
  | obj C ds => obtain ⟨dx, fs, e, r⟩ := h; exact ⟨_, e, trivial⟩
  | _ => exact h.elim
theorem OwnAt.rep {d : Dv} (h : OwnAt K M H a d) (m : ¬ M a) : Rep K M H (.ref a) d := by
  cases d with
  | lst ds => obtain ⟨xs, e, r⟩ := h; exact .lst e m r
  | dik ds => obtain ⟨xs, e, r⟩ := h; exact .dik e m r
  | dit ds => obtain ⟨xs, e, r⟩ := h; exact .dit e m r
  | obj C ds => obtain ⟨dx, fs, e, r⟩ := h; exact .obj e m r
  | _ => exact h.elim
end
inductive Sl where
  | un
  | v (d : Dv)
  | own (a : Addr) (d : Dv)
def MM (F : Addr → Prop) (ρ : List Sl) : Addr → Prop := fun a => F a ∨ ∃ d, Sl.own a d ∈ ρ
def SlOk (K : PySem.W.Frag) (M : Addr → Prop) (H : Hp) (o : Option (Option V)) : Sl → Prop
  | .un => True
  | .v d => ∃ x, o = some (some x) ∧ Rep K M H x d
  | .own a d => o = some (some (.ref a)) ∧ OwnAt K M H a d
structure Fr (K : PySem.W.Frag) (H₀ : Hp) (F : Addr → Prop) (σ : St) (H : Hp) (ρ : List Sl) : Prop where
  len : σ.length = ρ.length
  sl : ∀ (i : Nat) (s : Sl), ρ[i]? = some s → SlOk K (MM F ρ) H σ[i]? s
  nd : ∀ (i j : Nat) (a : Addr) (d d' : Dv), ρ[i]? = some (.own a d) → ρ[j]? = some (.own a d') → i = j
  new : ∀ (a : Addr) (d : Dv), Sl.own a d ∈ ρ → H₀ a = none
  same : Same H₀ H
  old : ∀ a, F a → H₀ a ≠ none
section
variable {K : PySem.W.Frag} {M M' : Addr → Prop} {H₀ H H' : Hp} {F : Addr → Prop} {σ : St} {ρ : List Sl}
theorem SlOk.mono {o : Option (Option V)} {s : Sl} (S : Same H H') (h : SlOk K M H o s) : SlOk K M H' o s := by
  cases s with
  | un => trivial
  | v d => obtain ⟨x, e, r⟩ := h; exact ⟨x, e, r.mono S⟩
  | own a d => exact ⟨h.1, h.2.mono S⟩
theorem SlOk.weak {o : Option (Option V)} {s : Sl} (w : ∀ a, M' a → M a) (h : SlOk K M H o s) : SlOk K M' H o s := by
  cases s with
  | un => trivial
  | v d => obtain ⟨x, e, r⟩ := h; exact ⟨x, e, r.weak w⟩
  | own a d => exact ⟨h.1, h.2.weak w⟩
theorem Fr.mono (fr : Fr K H₀ F σ H ρ) (S : Same H H') : Fr K H₀ F σ H' ρ := ⟨fr.len, fun i s e => (fr.sl i s e).mono S, fr.nd, fr.new, fr.same.trans S, fr.old⟩
theorem Fr.at_own (fr : Fr K H₀ F σ H ρ) {a : Addr} {d : Dv} (h : Sl.own a d ∈ ρ) : ∃ i : Nat, ρ[i]? = some (.own a d) ∧ σ[i]? = some (some (.ref a)) ∧ OwnAt K (MM F ρ) H a d := by
  obtain ⟨i, e⟩ := List.mem_iff_getElem?.mp h
  have := fr.sl i _ e
  exact ⟨i, e, this.1, this.2⟩
theorem Fr.dom (fr : Fr K H₀ F σ H ρ) {a : Addr} (m : MM F ρ a) : H a ≠ none := by
  rcases m with m | ⟨d, m⟩
  · intro e
    exact fr.old a m (fr.same.free e)
  · obtain ⟨_, _, _, o⟩ := fr.at_own m
    obtain ⟨u, e, _⟩ := o.mut
    rw [e]
    simp
end
inductive R where
  | v (d : Dv)
  | ow (a : Addr) (d : Dv)
  | nw (d : Dv)
def R.d : R → Dv
  | .v d => d
  | .ow _ d => d
  | .nw d => d
def R.free : R → Bool
  | .ow _ _ => false
  | _ => true
def Own (ρ : List Sl) : Addr → Dv → Prop := fun a d => Sl.own a d ∈ ρ
def NoOwn : Addr → Dv → Prop := fun _ _ => False
def RRep (K : PySem.W.Frag) (M : Addr → Prop) (O : Addr → Dv → Prop) (H : Hp) (x : V) (r : R) (H' : Hp) : Prop := match r with
  | .v d => Rep K M H' x d
  | .ow a d => x = .ref a ∧ O a d ∧ OwnAt K M H' a d
  | .nw d => ∃ a, x = .ref a ∧ H a = none ∧ OwnAt K (fun b => M b ∨ b = a) H' a d
def CRep (K : PySem.W.Frag) (M : Addr → Prop) (H : Hp) (x : V) (d : Dv) : Prop := Rep K M H x d ∨ ∃ a, x = .ref a ∧ OwnAt K M H a d
section
variable {K : PySem.W.Frag} {M M' : Addr → Prop} {O : Addr → Dv → Prop} {H H' H'' : Hp} {x : V} {r : R}
theorem RRep.mono (h : RRep K M O H x r H') (S : Same H' H'') : RRep K M O H x r H'' := by
  cases r with
  | v d => exact Rep.mono S h
  | ow a d => exact ⟨h.1, h.2.1, h.2.2.mono S⟩
  | nw d => obtain ⟨a, e, n, o⟩ := h; exact ⟨a, e, n, o.mono S⟩
theorem RRep.ahead {H1 : Hp} (h : RRep K M O H1 x r H') (S : Same H H1) : RRep K M O H x r H' := by
  cases r with
  | v d => exact h
  | ow a d => exact h
  | nw d => obtain ⟨a, e, n, o⟩ := h; exact ⟨a, e, S.free n, o⟩
theorem RRep.c (h : RRep K M O H x r H') : CRep K M H' x r.d := by
  cases r with
  | v d => exact .inl h
  | ow a d => exact .inr ⟨a, h.1, h.2.2⟩
  | nw d => obtain ⟨a, e, n, o⟩ := h; exact .inr ⟨a, e, o.weak fun b z => .inl z⟩
theorem RRep.rep (h : RRep K M O H x r H') (hM : ∀ a, M a → H a ≠ none) (f : r.free = true) : Rep K M H' x r.d := by
  cases r with
  | v d => exact h
  | ow a d => simp [R.free] at f
  | nw d =>
    obtain ⟨a, e, n, o⟩ := h
    subst e
    exact (o.weak fun b z => .inl z).rep fun z => hM a z n
theorem CRep.lst {ds : List Dv} (h : CRep K M H x (.lst ds)) : ∃ a xs, x = .ref a ∧ H a = some (.lst xs) ∧ Reps K M H xs ds := by
  rcases h with h | ⟨a, e, xs, h1, h2⟩
  · cases h with
    | lst h1 _ h2 => exact ⟨_, _, rfl, h1, h2⟩
  · exact ⟨a, xs, e, h1, h2⟩
theorem CRep.tup {ds : List Dv} (h : CRep K M H x (.tup ds)) : ∃ a xs, x = .ref a ∧ H a = some (.tup xs) ∧ Reps K M H xs ds := by
  rcases h with h | ⟨a, e, o⟩
  · cases h with
    | tup h1 h2 => exact ⟨_, _, rfl, h1, h2⟩
  · exact o.elim
theorem CRep.int {i : Int} (h : CRep K M H x (.int i)) : x = .int i := by
  rcases h with h | ⟨a, e, o⟩
  · cases h; rfl
  · exact o.elim
theorem CRep.bl {b : Bool} (h : CRep K M H x (.bl b)) : x = .bl b := by
  rcases h with h | ⟨a, e, o⟩
  · cases h; rfl
  · exact o.elim
theorem CRep.non (h : CRep K M H x .non) : x = .non := by
  rcases h with h | ⟨a, e, o⟩
  · cases h; rfl
  · exact o.elim
theorem CRep.str {s : Str} (h : CRep K M H x (.str s)) : x = .str s := by
  rcases h with h | ⟨a, e, o⟩
  · cases h; rfl
  · exact o.elim
theorem CRep.scr {ns : List Int} (h : CRep K M H x (.scr ns)) : ∃ a, x = .ref a ∧ Scr K H a ns := by
  rcases h with h | ⟨a, e, o⟩
  · cases h with
    | scr h => exact ⟨_, rfl, h⟩
  · exact o.elim
theorem CRep.exc {C : Addr} (h : CRep K M H x (.exc C)) : ∃ a, x = .ref a ∧ ExcAt H a C := by
  rcases h with h | ⟨a, e, o⟩
  · cases h with
    | exc h => exact ⟨_, rfl, h⟩
  · exact o.elim
theorem CRep.dik {ds : List (Key × Dv)} (h : CRep K M H x (.dik ds)) : ∃ a kvs, x = .ref a ∧ H a = some (.dK kvs) ∧ RepK K M H kvs ds := by
  rcases h with h | ⟨a, e, xs, h1, h2⟩
  · cases h with
    | dik h1 _ h2 => exact ⟨_, _, rfl, h1, h2⟩
  · exact ⟨a, xs, e, h1, h2⟩
theorem CRep.dit {ds : List (List Key × Dv)} (h : CRep K M H x (.dit ds)) : ∃ a kvs, x = .ref a ∧ H a = some (.dT kvs) ∧ RepT K M H kvs ds := by
  rcases h with h | ⟨a, e, xs, h1, h2⟩
  · cases h with
    | dit h1 _ h2 => exact ⟨_, _, rfl, h1, h2⟩
  · exact ⟨a, xs, e, h1, h2⟩
end
end Z
namespace Z
open PySem PySem.Spec PyProof.Rows L2
abbrev TEp := List Sl → (R → Prop) → Prop
abbrev TAp := List Sl → (List R → Prop) → Prop
abbrev TTp := List Sl → (Bool → Prop) → Prop
def RReps (K : PySem.W.Frag) (M : Addr → Prop) (O : Addr → Dv → Prop) (H : Hp) (xs : List V) (rs : List R) (H' : Hp) : Prop := Paired (fun x r => RRep K M O H x r H') xs rs
def CReps (K : PySem.W.Frag) (M : Addr → Prop) (H : Hp) : List V → List Dv → Prop := Paired (CRep K M H)
section
variable {K : PySem.W.Frag} {M : Addr → Prop} {O : Addr → Dv → Prop} {H H1 H' H'' : Hp}
theorem RReps.ahead {xs : List V} {rs : List R} (h : RReps K M O H1 xs rs H') (S : Same H H1) : RReps K M O H xs rs H' := Paired.mapP h fun _ _ q => q.ahead S
theorem RReps.c : ∀ {xs : List V} {rs : List R}, RReps K M O H xs rs H' → CReps K M H' xs (rs.map R.d)
  | _, _, .nil => .nil
  | _, _, .cons a t => .cons a.c (RReps.c t)
end
inductive lift (K : PySem.W.Frag) (H₀ : Hp) (F : Addr → Prop) (t : TEp) (σ : St) (H : Hp) (Q : VK) : Prop
  | mk (ρ : List Sl) (fr : Fr K H₀ F σ H ρ) (h : t ρ fun r => ∀ x H', Same H H' → RRep K (MM F ρ) (Own ρ) H x r H' → Q x H')
inductive liftA (K : PySem.W.Frag) (H₀ : Hp) (F : Addr → Prop) (t : TAp) (σ : St) (H : Hp) (Q : List V → Hp → Prop) : Prop
  | mk (ρ : List Sl) (fr : Fr K H₀ F σ H ρ) (h : t ρ fun rs => ∀ xs H', Same H H' → RReps K (MM F ρ) (Own ρ) H xs rs H' → Q xs H')
inductive liftT (K : PySem.W.Frag) (H₀ : Hp) (F : Addr → Prop) (t : TTp) (σ : St) (H : Hp) (Q : Bool → Hp → Prop) : Prop
  | mk (ρ : List Sl) (fr : Fr K H₀ F σ H ρ) (h : t ρ fun b => ∀ H', Same H H' → Q b H')
structure QE (X : Cx) (e : Expr) (t : TEp) : Prop where
  mono : ∀ (ρ : List Sl) (Q Q' : R → Prop), (∀ r, Q r → Q' r) → t ρ Q → t ρ Q'
  run : ∀ (H₀ : Hp) (F : Addr → Prop), PE X e (lift X.K H₀ F t)
structure QA (X : Cx) (es : List Expr) (t : TAp) : Prop where
  mono : ∀ (ρ : List Sl) (Q Q' : List R → Prop), (∀ r, Q r → Q' r) → t ρ Q → t ρ Q'
  run : ∀ (H₀ : Hp) (F : Addr → Prop), PA X es (liftA X.K H₀ F t)
structure QT (X : Cx) (e : Expr) (t : TTp) : Prop where
  mono : ∀ (ρ : List Sl) (Q Q' : Bool → Prop), (∀ r, Q r → Q' r) → t ρ Q → t ρ Q'
  run : ∀ (H₀ : Hp) (F : Addr → Prop), PT X e (liftT X.K H₀ F t)
structure QW (X : Cx) (e : Expr) (t : TTp) : Prop where
  mono : ∀ (ρ : List Sl) (Q Q' : Bool → Prop), (∀ r, Q r → Q' r) → t ρ Q → t ρ Q'
  run : ∀ (H₀ : Hp) (F : Addr → Prop), PW X e (liftT X.K H₀ F t)
section
variable {X : Cx} {a b e c : Expr} {es : List Expr} {ta tb te tc : TEp} {ts : TAp} {pos : Pos}
theorem PE_imp {t t' : TE} (h : PE X e t) (w : ∀ σ H Q, t' σ H Q → t σ H Q) : PE X e t' := fun pins s σ H Q I q => h pins s σ H Q I (w σ H Q q)
theorem PA_imp {t t' : TA} (h : PA X es t) (w : ∀ σ H Q, t' σ H Q → t σ H Q) : PA X es t' := fun pos pins s σ H Q I q => h pos pins s σ H Q I (w σ H Q q)
theorem PT_imp {t t' : TT} (h : PT X e t) (w : ∀ σ H Q, t' σ H Q → t σ H Q) : PT X e t' := fun pins s σ H Q I q => h pins s σ H Q I (w σ H Q q)
theorem PW_imp {t t' : TT} (h : PW X e t) (w : ∀ σ H Q, t' σ H Q → t σ H Q) : PW X e t' := fun wh pins s σ H Q I q => h wh pins s σ H Q I (w σ H Q q)
theorem QW.qt {t : TTp} (h : QW X e t) : QT X e t := ⟨h.mono, fun H₀ F => (h.run H₀ F).pt⟩
theorem QE.step {H₀ : Hp} {F : Addr → Prop} {σ : St} {H : Hp} {ρ : List Sl} {Q : R → Prop} {Q' : VK} (h : QE X e te) (fr : Fr X.K H₀ F σ H ρ) (q : te ρ Q)
    (k : ∀ r x H', Q r → Same H H' → RRep X.K (MM F ρ) (Own ρ) H x r H' → Q' x H') : lift X.K H₀ F te σ H Q' := ⟨ρ, fr, h.mono _ _ _ (fun r qr x H' S rx => k r x H' qr S rx) q⟩
theorem QA.step {H₀ : Hp} {F : Addr → Prop} {σ : St} {H : Hp} {ρ : List Sl} {Q : List R → Prop} {Q' : List V → Hp → Prop} (h : QA X es ts) (fr : Fr X.K H₀ F σ H ρ) (q : ts ρ Q)
    (k : ∀ rs xs H', Q rs → Same H H' → RReps X.K (MM F ρ) (Own ρ) H xs rs H' → Q' xs H') : liftA X.K H₀ F ts σ H Q' := ⟨ρ, fr, h.mono _ _ _ (fun r qr x H' S rx => k r x H' qr S rx) q⟩
theorem QT.step {t : TTp} {H₀ : Hp} {F : Addr → Prop} {σ : St} {H : Hp} {ρ : List Sl} {Q : Bool → Prop} {Q' : Bool → Hp → Prop} (h : QT X e t) (fr : Fr X.K H₀ F σ H ρ) (q : t ρ Q)
    (k : ∀ b H', Q b → Same H H' → Q' b H') : liftT X.K H₀ F t σ H Q' := ⟨ρ, fr, h.mono _ _ _ (fun r qr H' S => k r H' qr S) q⟩
def eVar (i : Nat) : TEp := fun ρ Q => match ρ[i]? with
  | some (.v d) => Q (.v d)
  | some (.own a d) => Q (.ow a d)
  | _ => False
theorem q_var (i : Nat) {x : Str} (h : PE X (.Name x pos) (tVar i)) : QE X (.Name x pos) (eVar i) := by
  refine ⟨fun ρ Q Q' w h => ?_, fun H₀ F => PE_imp h fun σ H Q ⟨ρ, fr, q⟩ => ?_⟩
  · unfold eVar at *
    split at h
    · exact w _ h
    · exact w _ h
    · exact h
  · unfold eVar at q
    split at q
    · rename_i d e
      obtain ⟨x, hx, r⟩ := fr.sl i _ e
      exact ⟨x, hx, q x H (Same.refl _) r⟩
    · rename_i a d e
      obtain ⟨hx, r⟩ := fr.sl i _ e
      exact ⟨.ref a, hx, q _ H (Same.refl _) ⟨rfl, List.mem_of_getElem? e, r⟩⟩
    · exact q.elim
def eC (d : Dv) : TEp := fun _ Q => Q (.v d)
theorem q_c {v : V} {d : Dv} (h : PE X e (tC v)) (r : ∀ M H, Rep X.K M H v d) : QE X e (eC d) :=
  ⟨fun _ _ _ w q => w _ q, fun H₀ F => PE_imp h fun σ H Q ⟨ρ, fr, q⟩ => q v H (Same.refl _) (r _ _)⟩
theorem q_int {i j pos} : QE X (.Constant (.int i) j pos) (eC (.int i)) := q_c pe_int fun _ _ => .int i
theorem q_bl {b j pos} : QE X (.Constant (.bool b) j pos) (eC (.bl b)) := q_c pe_bl fun _ _ => .bl b
theorem q_non {j pos} : QE X (.Constant .none j pos) (eC .non) := q_c pe_non fun _ _ => .non
theorem q_str {x j pos} : QE X (.Constant (.str x) j pos) (eC (.str x)) := q_c pe_str fun _ _ => .str x
theorem q_globI {x : Str} {n : Int} (hm : ∃ t, X.mg x = some (.int n t)) (hg : Gl X x := by rfl) (hd : (x == ("__debug__" : Str)) = false := by decide) : QE X (.Name x pos) (eC (.int n)) := q_c (pe_globI hm hg hd) fun _ _ => .int n
def eNil : TAp := fun _ Q => Q []
def eCons (te : TEp) (ts : TAp) : TAp := fun ρ Q => te ρ fun r => ts ρ fun rs => Q (r :: rs)
theorem q_nil : QA X [] eNil := ⟨fun _ _ _ w q => w _ q, fun H₀ F => PA_imp pa_nil fun σ H Q ⟨ρ, fr, q⟩ => q [] H (Same.refl _) .nil⟩
theorem q_cons (ha : QE X e te) (hr : QA X es ts) (hs : starEach (e :: es) X.env = (false, eval e X.env) :: starEach es X.env := by rfl) : QA X (e :: es) (eCons te ts) := by
  refine ⟨fun ρ Q Q' w h => ha.mono _ _ _ (fun r q => hr.mono _ _ _ (fun rs q => w _ q) q) h, fun H₀ F => PA_imp (pa_cons (ha.run H₀ F) (hr.run H₀ F) hs) fun σ H Q ⟨ρ, fr, q⟩ => ?_⟩
  refine ha.step fr q fun r x H1 q1 S1 r1 => ?_
  refine hr.step (fr.mono S1) q1 fun rs xs H2 q2 S2 r2 => ?_
  exact q2 _ H2 (S1.trans S2) (.cons (r1.mono S2) (r2.ahead S1))
def OpD (X : Cx) (f : Value → Value → Sem Value) (p : Dv → Dv → (R → Prop) → Prop) : Prop :=
  (∀ dx dy (Q Q' : R → Prop), (∀ r, Q r → Q' r) → p dx dy Q → p dx dy Q') ∧ ∃ r : R2, OpR X f r ∧ ∀ (M : Addr → Prop) (O : Addr → Dv → Prop) (H : Hp) (x y : V) (dx dy : Dv) (Q : VK), CRep X.K M H x dx → CRep X.K M H y dy →
    p dx dy (fun rr => ∀ z H', Same H H' → RRep X.K M O H z rr H' → Q z H') → r x y H Q
def eOp (p : Dv → Dv → (R → Prop) → Prop) (ta tb : TEp) : TEp := fun ρ Q => ta ρ fun x => tb ρ fun y => p x.d y.d Q
theorem eOp_run {p : Dv → Dv → (R → Prop) → Prop} {r : R2} (ha : QE X a ta) (hb : QE X b tb) (hr : ∀ (M : Addr → Prop) (O : Addr → Dv → Prop) (H : Hp) (x y : V) (dx dy : Dv) (Q : VK), CRep X.K M H x dx → CRep X.K M H y dy →
    p dx dy (fun rr => ∀ z H', Same H H' → RRep X.K M O H z rr H' → Q z H') → r x y H Q) (mo : ∀ dx dy (Q Q' : R → Prop), (∀ r, Q r → Q' r) → p dx dy Q → p dx dy Q') (H₀ : Hp) (F : Addr → Prop) (σ : St) (H : Hp) (Q : VK)
    (h : lift X.K H₀ F (eOp p ta tb) σ H Q) : tOp r (lift X.K H₀ F ta) (lift X.K H₀ F tb) σ H Q := by
  obtain ⟨ρ, fr, q⟩ := h
  refine ha.step fr q fun rx x H1 q1 S1 r1 => ?_
  refine hb.step (fr.mono S1) q1 fun ry y H2 q2 S2 r2 => ?_
  refine hr (MM F ρ) (Own ρ) H2 x y _ _ Q (r1.mono S2).c r2.c (mo _ _ _ _ (fun rr k z H' S rz => ?_) q2)
  exact k z H' ((S1.trans S2).trans S) (rz.ahead (S1.trans S2))
theorem eOp_mono {p : Dv → Dv → (R → Prop) → Prop} (ha : QE X a ta) (hb : QE X b tb) (mo : ∀ dx dy (Q Q' : R → Prop), (∀ r, Q r → Q' r) → p dx dy Q → p dx dy Q') (ρ : List Sl) (Q Q' : R → Prop) (w : ∀ r, Q r → Q' r) (h : eOp p ta tb ρ Q) : eOp p ta tb ρ Q' :=
  ha.mono _ _ _ (fun rx h => hb.mono _ _ _ (fun ry h => mo _ _ _ _ w h) h) h
theorem q_op {op : Operator} {p : Dv → Dv → (R → Prop) → Prop} (ho : OpD X (binaryOp op) p) (ha : QE X a ta) (hb : QE X b tb) : QE X (.BinOp a op b pos) (eOp p ta tb) := by
  obtain ⟨mo, r, hR, hr⟩ := ho
  exact ⟨eOp_mono ha hb mo, fun H₀ F => PE_imp (pe_op hR (ha.run H₀ F) (hb.run H₀ F)) (eOp_run ha hb hr mo H₀ F)⟩
theorem q_cmp {op : CmpOp} {p : Dv → Dv → (R → Prop) → Prop} (ho : OpD X (compareOp op) p) (ha : QE X a ta) (hb : QE X b tb) (hm : behindInMarks op b = false := by first | exact nomark _ | rfl) : QE X (.Compare a [op] [b] pos) (eOp p ta tb) := by
  obtain ⟨mo, r, hR, hr⟩ := ho
  exact ⟨eOp_mono ha hb mo, fun H₀ F => PE_imp (pe_cmpR hR (ha.run H₀ F) (hb.run H₀ F) hm) (eOp_run ha hb hr mo H₀ F)⟩
def eTest (te : TEp) : TTp := fun ρ Q => te ρ fun r => match r.d with
  | .bl c => Q c
  | _ => False
theorem eTest_mono (mo : ∀ (ρ : List Sl) (Q Q' : R → Prop), (∀ r, Q r → Q' r) → te ρ Q → te ρ Q') (ρ : List Sl) (Q Q' : Bool → Prop) (w : ∀ r, Q r → Q' r) (h : eTest te ρ Q) : eTest te ρ Q' := by
  refine mo _ _ _ (fun r q => ?_) h
  split at q
  · exact w _ q
  · exact q.elim
theorem eTest_of {H₀ : Hp} {F : Addr → Prop} {σ : St} {H : Hp} {Q : Bool → Hp → Prop} (mo : ∀ (ρ : List Sl) (Q Q' : R → Prop), (∀ r, Q r → Q' r) → te ρ Q → te ρ Q') (h : liftT X.K H₀ F (eTest te) σ H Q) : lift X.K H₀ F te σ H fun x H' => ∃ k, x = .bl k ∧ Q k H' := by
  obtain ⟨ρ, fr, q⟩ := h
  refine ⟨ρ, fr, mo _ _ _ (fun r q x H' S rx => ?_) q⟩
  split at q
  · rename_i c e
    have := rx.c
    rw [e] at this
    exact ⟨c, this.bl, q H' S⟩
  · exact q.elim
theorem qt_cmp {op : CmpOp} {p : Dv → Dv → (R → Prop) → Prop} (ho : OpD X (compareOp op) p) (ha : QE X a ta) (hb : QE X b tb) (hm : behindInMarks op b = false := by first | exact nomark _ | rfl) : QT X (.Compare a [op] [b] pos) (eTest (eOp p ta tb)) := by
  obtain ⟨mo, r, hR, hr⟩ := ho
  have m1 := eOp_mono ha hb mo
  exact ⟨eTest_mono m1, fun H₀ F => PT_imp (pt_cmpR hR (ha.run H₀ F) (hb.run H₀ F) hm) fun σ H Q h => eOp_run ha hb hr mo H₀ F σ H _ (eTest_of m1 h)⟩
def eAnd (t u : TTp) : TTp := fun ρ Q => t ρ fun c => if c = true then u ρ Q else Q false
def eOr (t u : TTp) : TTp := fun ρ Q => t ρ fun c => if c = true then Q true else u ρ Q
def eNot (t : TTp) : TTp := fun ρ Q => t ρ fun c => Q (!c)
theorem qw_and1 {t : TTp} (h : QT X a t) : QW X (.BoolOp .And [a] pos) t := ⟨h.mono, fun H₀ F => pw_and1 (h.run H₀ F)⟩
theorem qw_or1 {t : TTp} (h : QT X a t) : QW X (.BoolOp .Or [a] pos) t := ⟨h.mono, fun H₀ F => pw_or1 (h.run H₀ F)⟩
theorem qw_and {t u : TTp} {rest : List Expr} (h : QT X a t) (k : QW X (.BoolOp .And (b :: rest) pos) u) : QW X (.BoolOp .And (a :: b :: rest) pos) (eAnd t u) := by
  refine ⟨fun ρ Q Q' w q => h.mono _ _ _ (fun c q => ?_) q, fun H₀ F => PW_imp (pw_and (h.run H₀ F) (k.run H₀ F)) fun σ H Q ⟨ρ, fr, q⟩ => ?_⟩
  · split at q
    · rw [if_pos ‹_›]; exact k.mono _ _ _ w q
    · rw [if_neg ‹_›]; exact w _ q
  · refine h.step fr q fun c H1 q1 S1 => ?_
    cases c with
    | true =>
      simp only [if_true] at q1
      exact iteT ⟨ρ, fr.mono S1, k.mono _ _ _ (fun b q H' S => q H' (S1.trans S)) q1⟩
    | false =>
      simp only [Bool.false_eq_true, if_false] at q1
      exact iteF (q1 H1 S1)
theorem qw_or {t u : TTp} {rest : List Expr} (h : QT X a t) (k : QW X (.BoolOp .Or (b :: rest) pos) u) : QW X (.BoolOp .Or (a :: b :: rest) pos) (eOr t u) := by
  refine ⟨fun ρ Q Q' w q => h.mono _ _ _ (fun c q => ?_) q, fun H₀ F => PW_imp (pw_or (h.run H₀ F) (k.run H₀ F)) fun σ H Q ⟨ρ, fr, q⟩ => ?_⟩
  · split at q
    · rw [if_pos ‹_›]; exact w _ q
    · rw [if_neg ‹_›]; exact k.mono _ _ _ w q
  · refine h.step fr q fun c H1 q1 S1 => ?_
    cases c with
    | true =>
      simp only [if_true] at q1
      exact iteT (q1 H1 S1)
    | false =>
      simp only [Bool.false_eq_true, if_false] at q1
      exact iteF ⟨ρ, fr.mono S1, k.mono _ _ _ (fun b q H' S => q H' (S1.trans S)) q1⟩
theorem qt_not {t : TTp} (h : QT X a t) : QT X (.UnaryOp .Not a pos) (eNot t) :=
  ⟨fun ρ Q Q' w q => h.mono _ _ _ (fun c q => w _ q) q, fun H₀ F => PT_imp (pt_not (h.run H₀ F)) fun σ H Q ⟨ρ, fr, q⟩ => h.step fr q fun c H1 q1 S1 => q1 H1 S1⟩
def eAndV (ta tb : TEp) : TEp := fun ρ Q => ta ρ fun r => match r.d with
  | .bl c => if c = true then tb ρ Q else Q (.v (.bl false))
  | _ => False
def eOrV (ta tb : TEp) : TEp := fun ρ Q => ta ρ fun r => match r.d with
  | .bl c => if c = true then Q (.v (.bl true)) else tb ρ Q
  | _ => False
def eNotV (ta : TEp) : TEp := fun ρ Q => ta ρ fun r => match r.d with
  | .bl c => Q (.v (.bl (!c)))
  | _ => False
theorem q_one {op} (h : QE X a ta) : QE X (.BoolOp op [a] pos) ta := ⟨h.mono, fun H₀ F => pe_one (h.run H₀ F)⟩
theorem q_and {rest : List Expr} (h : QE X a ta) (k : QE X (.BoolOp .And (b :: rest) pos) tb) : QE X (.BoolOp .And (a :: b :: rest) pos) (eAndV ta tb) := by
  refine ⟨fun ρ Q Q' w q => h.mono _ _ _ (fun c q => ?_) q, fun H₀ F => PE_imp (pe_and (h.run H₀ F) (k.run H₀ F)) fun σ H Q ⟨ρ, fr, q⟩ => ?_⟩
  · split at q
    · split at q
      · rw [if_pos ‹_›]; exact k.mono _ _ _ w q
      · rw [if_neg ‹_›]; exact w _ q
    · exact q
  · refine h.step fr q fun r x H1 q1 S1 r1 => ?_
    split at q1
    · rename_i c e
      have rc := r1.c
      rw [e] at rc
      refine ⟨c, rc.bl, ?_⟩
      cases c with
      | true =>
        simp only [if_true] at q1
        exact iteT ⟨ρ, fr.mono S1, k.mono _ _ _ (fun b q z H' S rz => q z H' (S1.trans S) (rz.ahead S1)) q1⟩
      | false =>
        simp only [Bool.false_eq_true, if_false] at q1
        exact iteF (q1 _ H1 S1 (Rep.bl false))
    · exact q1.elim
theorem q_or {rest : List Expr} (h : QE X a ta) (k : QE X (.BoolOp .Or (b :: rest) pos) tb) : QE X (.BoolOp .Or (a :: b :: rest) pos) (eOrV ta tb) := by
  refine ⟨fun ρ Q Q' w q => h.mono _ _ _ (fun c q => ?_) q, fun H₀ F => PE_imp (pe_or (h.run H₀ F) (k.run H₀ F)) fun σ H Q ⟨ρ, fr, q⟩ => ?_⟩
  · split at q
    · split at q
      · rw [if_pos ‹_›]; exact w _ q
      · rw [if_neg ‹_›]; exact k.mono _ _ _ w q
    · exact q
  · refine h.step fr q fun r x H1 q1 S1 r1 => ?_
    split at q1
    · rename_i c e
      have rc := r1.c
      rw [e] at rc
      refine ⟨c, rc.bl, ?_⟩
      cases c with
      | true =>
        simp only [if_true] at q1
        exact iteT (q1 _ H1 S1 (Rep.bl true))
      | false =>
        simp only [Bool.false_eq_true, if_false] at q1
        exact iteF ⟨ρ, fr.mono S1, k.mono _ _ _ (fun b q z H' S rz => q z H' (S1.trans S) (rz.ahead S1)) q1⟩
    · exact q1.elim
theorem q_not (h : QE X a ta) : QE X (.UnaryOp .Not a pos) (eNotV ta) := by
  refine ⟨fun ρ Q Q' w q => h.mono _ _ _ (fun c q => ?_) q, fun H₀ F => PE_imp (pe_not (h.run H₀ F)) fun σ H Q ⟨ρ, fr, q⟩ => ?_⟩
  · split at q
    · exact w _ q
    · exact q
  · refine h.step fr q fun r x H1 q1 S1 r1 => ?_
    split at q1
    · rename_i c e
      have rc := r1.c
      rw [e] at rc
      exact ⟨c, rc.bl, q1 _ H1 S1 (Rep.bl _)⟩
    · exact q1.elim
def eIf (t : TTp) (ta tb : TEp) : TEp := fun ρ Q => t ρ fun c => if c = true then ta ρ Q else tb ρ Q
theorem q_ifExp {t : TTp} (hc : QT X c t) (ha : QE X a ta) (hb : QE X b tb) : QE X (.IfExp c a b pos) (eIf t ta tb) := by
  refine ⟨fun ρ Q Q' w q => hc.mono _ _ _ (fun c q => ?_) q, fun H₀ F => PE_imp (pe_ifExp (hc.run H₀ F) (ha.run H₀ F) (hb.run H₀ F)) fun σ H Q ⟨ρ, fr, q⟩ => ?_⟩
  · split at q
    · rw [if_pos ‹_›]; exact ha.mono _ _ _ w q
    · rw [if_neg ‹_›]; exact hb.mono _ _ _ w q
  · refine hc.step fr q fun c H1 q1 S1 => ?_
    cases c with
    | true =>
      simp only [if_true] at q1
      exact iteT ⟨ρ, fr.mono S1, ha.mono _ _ _ (fun b q z H' S rz => q z H' (S1.trans S) (rz.ahead S1)) q1⟩
    | false =>
      simp only [Bool.false_eq_true, if_false] at q1
      exact iteF ⟨ρ, fr.mono S1, hb.mono _ _ _ (fun b q z H' S rz => q z H' (S1.trans S) (rz.ahead S1)) q1⟩
def eTup (ts : TAp) : TEp := fun ρ Q => ts ρ fun rs => rs.all R.free = true ∧ rs.length ≤ 1000 ∧ Q (.v (.tup (rs.map R.d)))
def eLst (ts : TAp) : TEp := fun ρ Q => ts ρ fun rs => rs.all R.free = true ∧ rs.length ≤ 1000 ∧ Q (.nw (.lst (rs.map R.d)))
theorem Same.new' {H : Hp} {l : Addr} {o : HO} (hl : H l = none) : Same H (upd H l o) := fun b q e => by rw [upd_ne (ne_of_none e hl)]; exact e
end
end Z
namespace Z
open PySem PySem.Spec PyProof.Rows L2
abbrev LIM : Nat := 1000000
theorem lim_line {n : Nat} (h : n ≤ LIM) : n ≤ sizeLine := Nat.le_trans h (by rw [sizeLine_eq]; decide)
section
variable {K : PySem.W.Frag} {M : Addr → Prop} {O : Addr → Dv → Prop} {H : Hp}
theorem nw_lst {p : Addr} {xs : List V} {ds : List Dv} (hp : H p = none) (r : Reps K M H xs ds) : RRep K M O H (.ref p) (.nw (.lst ds)) (upd H p (.lst xs)) := ⟨p, rfl, hp, xs, upd_same, (r.gen (.fresh hp)).mono (Same.new' hp)⟩
end
def pAdd : Dv → Dv → (R → Prop) → Prop
  | .int i, .int j, Q => Q (.v (.int (i + j)))
  | .lst xs, .lst ys, Q => xs.length + ys.length ≤ LIM ∧ Q (.nw (.lst (xs ++ ys)))
  | .str x, .str y, Q => x.length + y.length ≤ LIM ∧ Q (.v (.str (x ++ y)))
  | _, _, _ => False
def pSub : Dv → Dv → (R → Prop) → Prop
  | .int i, .int j, Q => Q (.v (.int (i - j)))
  | _, _, _ => False
def CMulG (i j : Int) : Prop := CMul i j ∨ (i.natAbs < 2 ^ 4000 ∧ j.natAbs < 2 ^ 4000)
def pMul : Dv → Dv → (R → Prop) → Prop
  | .int i, .int j, Q => CMulG i j ∧ Q (.v (.int (i * j)))
  | .lst xs, .int k, Q => (-(2 ^ 63) ≤ k ∧ k < 2 ^ 63 ∧ xs.length * k.toNat ≤ LIM) ∧ Q (.nw (.lst (List.replicate k.toNat xs).flatten))
  | _, _, _ => False
def pDiv : Dv → Dv → (R → Prop) → Prop
  | .int i, .int j, Q => (0 < j ∧ j < 2 ^ 200) ∧ Q (.v (.int (i / j)))
  | _, _, _ => False
def pDivG : Dv → Dv → (R → Prop) → Prop
  | .int i, .int j, Q => (j ≠ 0 ∧ j.natAbs < 2 ^ 4000) ∧ Q (.v (.int (i.fdiv j)))
  | _, _, _ => False
def pMod : Dv → Dv → (R → Prop) → Prop
  | .int i, .int j, Q => 0 < j ∧ Q (.v (.int (i % j)))
  | _, _, _ => False
def pPow : Dv → Dv → (R → Prop) → Prop
  | .int i, .int j, Q => CPow i j ∧ Q (.v (.int (i ^ j.toNat)))
  | _, _, _ => False
section
variable {X : Cx}
theorem pAdd_mono : ∀ dx dy (Q Q' : R → Prop), (∀ r, Q r → Q' r) → pAdd dx dy Q → pAdd dx dy Q' := by
  intro dx dy Q Q' w h
  unfold pAdd at h
  split at h
  · exact w _ h
  · exact ⟨h.1, w _ h.2⟩
  · exact ⟨h.1, w _ h.2⟩
  · exact h.elim
theorem opd_add : OpD X (binaryOp .Add) pAdd := by
  refine ⟨pAdd_mono, _, op_add.or (op_cat.or op_add_str), fun M O H x y dx dy Q cx cy h => ?_⟩
  unfold pAdd at h
  split at h
  · obtain rfl := cx.int
    obtain rfl := cy.int
    exact .inl ⟨_, _, rfl, rfl, h _ H (Same.refl _) (Rep.int _)⟩
  · obtain ⟨a, xs, rfl, ea, ra⟩ := cx.lst
    obtain ⟨b, ys, rfl, eb, rb⟩ := cy.lst
    have l1 := ra.length
    have l2 := rb.length
    exact .inr (.inl ⟨a, b, xs, ys, rfl, rfl, ea, eb, lim_line (by omega), fun p hp => h.2 _ _ (Same.new' hp) (nw_lst hp (ra.append rb))⟩)
  · obtain rfl := cx.str
    obtain rfl := cy.str
    exact .inr (.inr ⟨_, _, rfl, rfl, lim_line h.1, h.2 _ H (Same.refl _) (Rep.str _)⟩)
  · exact h.elim
theorem CMulG.ok {i j : Int} (h : CMulG i j) : IntMulOk i j := by
  rcases h with h | ⟨h1, h2⟩
  · exact h.ok
  · have key : ∀ {z : Int}, z.natAbs < 2 ^ 4000 → Builtin.Int.intBits z ≤ 2 ^ 20 := fun {z} hz => by
      have hl : z.natAbs ≠ 0 → z.natAbs.log2 < 4000 := fun h0 => (Nat.log2_lt h0).mpr hz
      clear hz h1 h2
      unfold Builtin.Int.intBits
      by_cases h0 : z = 0
      · simp [h0]
      · have := hl (by omega)
        simp [h0]
        omega
    exact IntMulOk.of_bits (key h1) (key h2)
theorem op_mulG : OpR X (binaryOp .Mult) (rI CMulG fun i j => .int (i * j)) := opI fun _ _ _ _ _ _ _ hc q => mul_int q hc.ok
theorem pMul_mono : ∀ dx dy (Q Q' : R → Prop), (∀ r, Q r → Q' r) → pMul dx dy Q → pMul dx dy Q' := by
  intro dx dy Q Q' w h
  unfold pMul at h
  split at h
  · exact ⟨h.1, w _ h.2⟩
  · exact ⟨h.1, w _ h.2⟩
  · exact h.elim
theorem opd_mul : OpD X (binaryOp .Mult) pMul := by
  refine ⟨pMul_mono, _, op_mulG.or op_rep, fun M O H x y dx dy Q cx cy h => ?_⟩
  unfold pMul at h
  split at h
  · obtain rfl := cx.int
    obtain rfl := cy.int
    exact .inl ⟨_, _, rfl, rfl, h.1, h.2 _ H (Same.refl _) (Rep.int _)⟩
  · obtain ⟨a, xs, rfl, ea, ra⟩ := cx.lst
    obtain rfl := cy.int
    have l1 := ra.length
    exact .inr ⟨a, _, xs, rfl, rfl, ea, h.1.1, h.1.2.1, lim_line (by rw [l1]; exact h.1.2.2), fun p hp => h.2 _ _ (Same.new' hp) (nw_lst hp (ra.repl _))⟩
  · exact h.elim
theorem pDiv_mono : ∀ dx dy (Q Q' : R → Prop), (∀ r, Q r → Q' r) → pDiv dx dy Q → pDiv dx dy Q' := by
  intro dx dy Q Q' w h
  unfold pDiv at h
  split at h
  · exact ⟨h.1, w _ h.2⟩
  · exact h.elim
theorem opd_div : OpD X (binaryOp .FloorDiv) pDiv := by
  refine ⟨pDiv_mono, _, op_fdivB, fun M O H x y dx dy Q cx cy h => ?_⟩
  unfold pDiv at h
  split at h
  · obtain rfl := cx.int
    obtain rfl := cy.int
    exact ⟨_, _, rfl, rfl, h.1, h.2 _ H (Same.refl _) (Rep.int _)⟩
  · exact h.elim
theorem pMod_mono : ∀ dx dy (Q Q' : R → Prop), (∀ r, Q r → Q' r) → pMod dx dy Q → pMod dx dy Q' := by
  intro dx dy Q Q' w h
  unfold pMod at h
  split at h
  · exact ⟨h.1, w _ h.2⟩
  · exact h.elim
theorem opd_mod : OpD X (binaryOp .Mod) pMod := by
  refine ⟨pMod_mono, _, op_mod, fun M O H x y dx dy Q cx cy h => ?_⟩
  unfold pMod at h
  split at h
  · obtain rfl := cx.int
    obtain rfl := cy.int
    exact ⟨_, _, rfl, rfl, h.1, h.2 _ H (Same.refl _) (Rep.int _)⟩
  · exact h.elim
theorem pPow_mono : ∀ dx dy (Q Q' : R → Prop), (∀ r, Q r → Q' r) → pPow dx dy Q → pPow dx dy Q' := by
  intro dx dy Q Q' w h
  unfold pPow at h
  split at h
  · exact ⟨h.1, w _ h.2⟩
  · exact h.elim
theorem opd_pow : OpD X (binaryOp .Pow) pPow := by
  refine ⟨pPow_mono, _, op_pow, fun M O H x y dx dy Q cx cy h => ?_⟩
  unfold pPow at h
  split at h
  · obtain rfl := cx.int
    obtain rfl := cy.int
    exact ⟨_, _, rfl, rfl, h.1, h.2 _ H (Same.refl _) (Rep.int _)⟩
  · exact h.elim
def eNeg (ta : TEp) : TEp := fun ρ Q => ta ρ fun r => match r.d with
  | .int i => Q (.v (.int (-i)))
  | _ => False
theorem q_neg {a : Expr} {pos : Pos} {ta : TEp} (h : QE X a ta) : QE X (.UnaryOp .USub a pos) (eNeg ta) := by
  refine ⟨fun ρ Q Q' w q => h.mono _ _ _ (fun c q => ?_) q, fun H₀ F => PE_imp (pe_un un_neg (h.run H₀ F)) fun σ H Q ⟨ρ, fr, q⟩ => ?_⟩
  · split at q
    · exact w _ q
    · exact q
  · refine h.step fr q fun r x H1 q1 S1 r1 => ?_
    split at q1
    · rename_i i e
      have rc := r1.c
      rw [e] at rc
      exact ⟨i, rc.int, q1 _ H1 S1 (Rep.int _)⟩
    · exact q1.elim
def pI2 (f : Int → Int → Bool) : Dv → Dv → (R → Prop) → Prop
  | .int i, .int j, Q => Q (.v (.bl (f i j)))
  | _, _, _ => False
theorem pI2_mono {f : Int → Int → Bool} : ∀ dx dy (Q Q' : R → Prop), (∀ r, Q r → Q' r) → pI2 f dx dy Q → pI2 f dx dy Q' := by
  intro dx dy Q Q' w h
  unfold pI2 at h
  split at h
  · exact w _ h
  · exact h.elim
theorem opd_i2 {g : Value → Value → Sem Value} {f : Int → Int → Bool} (h : OpR X g (rI0 fun i j => .bl (f i j))) : OpD X g (pI2 f) := by
  refine ⟨pI2_mono, _, h, fun M O H x y dx dy Q cx cy h => ?_⟩
  unfold pI2 at h
  split at h
  · obtain rfl := cx.int
    obtain rfl := cy.int
    exact ⟨_, _, rfl, rfl, h _ H (Same.refl _) (Rep.bl _)⟩
  · exact h.elim
abbrev pLt := pI2 fun i j => decide (i < j)
abbrev pLe := pI2 fun i j => decide (i ≤ j)
abbrev pGt := pI2 fun i j => decide (j < i)
theorem opd_lt : OpD X (compareOp .Lt) pLt := opd_i2 op_lt
theorem opd_gt : OpD X (compareOp .Gt) pGt := opd_i2 op_gt
def eChain (p p' : Dv → Dv → (R → Prop) → Prop) (ta tb tc : TEp) : TEp := fun ρ Q => ta ρ fun x => tb ρ fun y => p x.d y.d fun z => match z.d with
  | .bl k => if k = true then tc ρ fun w => p' y.d w.d Q else Q (.v (.bl false))
  | _ => False
def isN : Dv → Bool
  | .non => true
  | _ => false
def pIsN : Dv → Dv → (R → Prop) → Prop
  | d, .non, Q => Q (.v (.bl (isN d)))
  | _, _, _ => False
def pNotN : Dv → Dv → (R → Prop) → Prop
  | d, .non, Q => Q (.v (.bl (!isN d)))
  | _, _, _ => False
theorem CRep.non_iff {K : PySem.W.Frag} {M : Addr → Prop} {H : Hp} {x : V} {d : Dv} (h : CRep K M H x d) : decide (x = .non) = isN d := by
  rcases h with h | ⟨a, rfl, o⟩
  · cases h <;> simp [isN]
  · cases d <;> first | exact o.elim | simp [isN]
theorem opd_isN : OpD X (compareOp .Is) pIsN := by
  refine ⟨fun dx dy Q Q' w h => ?_, _, op_isN, fun M O H x y dx dy Q cx cy h => ?_⟩
  · unfold pIsN at h
    split at h
    · exact w _ h
    · exact h.elim
  · unfold pIsN at h
    split at h
    · refine ⟨cy.non, ?_⟩
      rw [cx.non_iff]
      exact h _ H (Same.refl _) (Rep.bl _)
    · exact h.elim
theorem opd_notN : OpD X (compareOp .IsNot) pNotN := by
  refine ⟨fun dx dy Q Q' w h => ?_, _, op_notN, fun M O H x y dx dy Q cx cy h => ?_⟩
  · unfold pNotN at h
    split at h
    · exact w _ h
    · exact h.elim
  · unfold pNotN at h
    split at h
    · refine ⟨cy.non, ?_⟩
      rw [cx.non_iff]
      exact h _ H (Same.refl _) (Rep.bl _)
    · exact h.elim
end
def pyD : Dv → PyData
  | .non => .none
  | .bl b => .bool b
  | .int i => .int i
  | .str x => .str x
  | .tup xs => .tuple (pyDs xs)
  | .lst xs => .list (pyDs xs)
  | .scr ns => .list (ns.map .int)
  | _ => .dict []
where pyDs : List Dv → List PyData
  | [] => []
  | d :: r => pyD d :: pyDs r
abbrev pyDs := pyD.pyDs
def okD : Nat → Dv → Bool
  | _, .non => true
  | _, .bl _ => true
  | _, .int _ => true
  | _, .str x => PyData.strOk x
  | n + 1, .tup xs => okDs n xs
  | n + 1, .lst xs => okDs n xs
  | _ + 1, .scr _ => true
  | _, _ => false
where okDs : Nat → List Dv → Bool
  | _, [] => true
  | n, d :: r => okD n d && okDs n r
abbrev okDs := okD.okDs
def eqD (a b : Dv) : Bool := PyData.eqv (pyD a) (pyD b)
theorem canLay_ints (ns : List Int) : PyData.canLayAll0 (ns.map .int) = true := by
  induction ns with
  | nil => rfl
  | cons n r ih => rw [List.map_cons, PyData.canLayAll0, ih]; rfl
theorem depth_ints (ns : List Int) : PyData.depthAll (ns.map .int) = 0 := by
  induction ns with
  | nil => rfl
  | cons n r ih => rw [List.map_cons, PyData.depthAll, ih]; rfl
mutual
theorem okD_lay : ∀ (n : Nat) (d : Dv), okD n d = true → (pyD d).canLay0 = true ∧ (pyD d).depth ≤ n
  | _, .non, _ => ⟨by simp [pyD, PyData.canLay0], by simp [pyD, PyData.depth]⟩
  | _, .bl _, _ => ⟨by simp [pyD, PyData.canLay0], by simp [pyD, PyData.depth]⟩
  | _, .int _, _ => ⟨by simp [pyD, PyData.canLay0], by simp [pyD, PyData.depth]⟩
  | _, .str x, h => ⟨by rw [pyD, PyData.canLay0]; cases ‹Nat› <;> simpa [okD] using h, by simp [pyD, PyData.depth]⟩
  | 0, .tup _, h => by simp [okD] at h
  | 0, .lst _, h => by simp [okD] at h
  | 0, .scr _, h => by simp [okD] at h
  | n + 1, .tup xs, h => by
    have := okDs_lay n xs (by rw [okD] at h; exact h)
    exact ⟨by rw [pyD, PyData.canLay0]; exact this.1, by rw [pyD, PyData.depth]; have h2 : PyData.depthAll (pyD.pyDs xs) ≤ n := this.2; omega⟩
  | n + 1, .lst xs, h => by
    have := okDs_lay n xs (by rw [okD] at h; exact h)
    exact ⟨by rw [pyD, PyData.canLay0]; exact this.1, by rw [pyD, PyData.depth]; have h2 : PyData.depthAll (pyD.pyDs xs) ≤ n := this.2; omega⟩
  | n + 1, .scr ns, _ => ⟨by rw [pyD, PyData.canLay0]; exact canLay_ints ns, by rw [pyD, PyData.depth, depth_ints]; omega⟩
  | 0, .dik _, h => by simp [okD] at h
  | 0, .dit _, h => by simp [okD] at h
  | 0, .obj _ _, h => by simp [okD] at h
  | 0, .exc _, h => by simp [okD] at h
  | _ + 1, .exc _, h => by simp [okD] at h
  | _ + 1, .dik _, h => by simp [okD] at h
  | _ + 1, .dit _, h => by simp [okD] at h
  | _ + 1, .obj _ _, h => by simp [okD] at h
theorem okDs_lay : ∀ (n : Nat) (ds : List Dv), okDs n ds = true → PyData.canLayAll0 (pyDs ds) = true ∧ PyData.depthAll (pyDs ds) ≤ n
  | _, [], _ => ⟨by simp [pyD.pyDs, PyData.canLayAll0], by simp [pyD.pyDs, PyData.depthAll]⟩
  | n, d :: r, h => by
    have h' : (okD n d && okDs n r) = true := h
    rw [Bool.and_eq_true] at h'
    have h1 := okD_lay n d h'.1
    have h2 := okDs_lay n r h'.2
    refine ⟨by show PyData.canLayAll0 (pyD d :: pyDs r) = true; rw [PyData.canLayAll0, h1.1, h2.1]; rfl, ?_⟩
    show PyData.depthAll (pyD d :: pyDs r) ≤ n
    rw [PyData.depthAll]
    omega
end
theorem okD_shaped {n : Nat} {d : Dv} (h : okD n d = true) (hn : n ≤ 64) : SeqAt.shaped (pyD d) = true := by
  obtain ⟨h1, h2⟩ := okD_lay n d h
  unfold SeqAt.shaped
  rw [h1, decide_eq_true (by omega)]
  rfl
section
variable {X : Cx} {M : Addr → Prop} {pins : List (Addr × Obj)} {σ : St} {H : Hp} {s : Shared}
theorem ints_reads {h : Heap} : ∀ {ns : List Int} {us : List Value}, Vals (ns.map V.int) us → ∃ as, ReadsAll h us (ns.map PyData.int) as
  | [], _, .nil => ⟨_, .nil⟩
  | n :: r, _, .cons a t => by
    obtain ⟨tk, rfl⟩ := a
    obtain ⟨as, q⟩ := ints_reads (h := h) t
    exact ⟨_, .cons (.int n tk) q⟩
theorem ok_cons {n : Nat} {d : Dv} {ds : List Dv} (f : okDs n (d :: ds) = true) : okD n d = true ∧ okDs n ds = true := by
  have f' : (okD n d && okDs n ds) = true := f
  rwa [Bool.and_eq_true] at f'
theorem Rep.reads (I : Inv X pins σ H s) {n : Nat} {x : V} {d : Dv} {u : Value} (q : Rep X.K M H x d) (ok : okD n d = true) (r : RelV x u) : ∃ as, Reads s.heap u (pyD d) as := by
  refine Rep.rec (motive_1 := fun x d _ => ∀ n u, okD n d = true → RelV x u → ∃ as, Reads s.heap u (pyD d) as) (motive_2 := fun xs ds _ => ∀ n us, okDs n ds = true → Vals xs us → ∃ as, ReadsAll s.heap us (pyDs ds) as) (motive_3 := fun _ _ _ => True) (motive_4 := fun _ _ _ => True) (motive_5 := fun _ _ _ => True)
    (fun n u _ r => by cases r; exact ⟨_, .none⟩) (fun b n u _ r => by cases r; exact ⟨_, .bool b⟩) (fun i n u _ r => by obtain ⟨t, rfl⟩ := r; exact ⟨_, .int i t⟩) (fun y n u _ r => by obtain ⟨t, rfl⟩ := r; exact ⟨_, .str y t⟩) ?tup ?lst ?dik ?dit ?obj ?scr ?exc ?nil ?cons
    trivial (fun _ _ _ _ => trivial) trivial (fun _ _ _ _ => trivial) trivial (fun _ _ _ _ => trivial) q n u ok r
  case tup =>
    intro a xs ds e _ ih n u ok r
    cases n with
    | zero => simp [okD] at ok
    | succ n =>
      cases r
      obtain ⟨_, its, rv, o, ho, hc, m, hd⟩ := I.hok _ _ e
      obtain ⟨as, ra⟩ := ih n its (by rw [okD] at ok; exact ok) rv
      exact ⟨_, .tuple ho hc hd ra⟩
  case lst =>
    intro a xs ds e _ _ ih n u ok r
    cases n with
    | zero => simp [okD] at ok
    | succ n =>
      cases r
      obtain ⟨_, its, m, rv, ho⟩ := I.hok _ _ e
      obtain ⟨as, ra⟩ := ih n its (by rw [okD] at ok; exact ok) rv
      exact ⟨_, .list ho rfl rfl ra⟩
  case dik => intro a xs ds _ _ _ _ n u ok; cases n <;> simp [okD] at ok
  case dit => intro a xs ds _ _ _ _ n u ok; cases n <;> simp [okD] at ok
  case obj => intro a C dx xs ds _ _ _ _ n u ok; cases n <;> simp [okD] at ok
  case scr =>
    intro a ns e n u _ r
    cases r
    obtain ⟨its, rv, pl, _⟩ := I.list e.sq
    obtain ⟨o, ho, hc, m, hd⟩ := pl.isList
    obtain ⟨as, ra⟩ := ints_reads (h := s.heap) rv
    exact ⟨_, .list ho hc hd (by simpa using ra)⟩
  case exc => intro a C _ n u ok; cases n <;> simp [okD] at ok
  case nil => intro n us _ r; cases r; exact ⟨_, .nil⟩
  case cons =>
    intro x d xs ds _ _ i1 i2 n us ok r
    cases r with
    | cons r1 r2 =>
      obtain ⟨as, ra⟩ := i1 n _ (ok_cons ok).1 r1
      obtain ⟨bs, rb⟩ := i2 n _ (ok_cons ok).2 r2
      exact ⟨_, .cons ra rb⟩
theorem Reps.reads (I : Inv X pins σ H s) {n : Nat} {xs : List V} {ds : List Dv} {us : List Value} (q : Reps X.K M H xs ds) (ok : okDs n ds = true) (r : Vals xs us) : ∃ as, ReadsAll s.heap us (pyDs ds) as :=
  q.ind (P := fun xs ds => ∀ us, okDs n ds = true → Vals xs us → ∃ as, ReadsAll s.heap us (pyDs ds) as) (fun us _ r => by cases r; exact ⟨_, .nil⟩) (fun x d xs ds a _ ih us ok r => by
    cases r with
    | cons r1 r2 =>
      obtain ⟨as, ra⟩ := a.reads I (ok_cons ok).1 r1
      obtain ⟨bs, rb⟩ := ih _ (ok_cons ok).2 r2
      exact ⟨_, .cons ra rb⟩) us ok r
theorem CRep.reads (I : Inv X pins σ H s) {n : Nat} {x : V} {d : Dv} {u : Value} (c : CRep X.K M H x d) (ok : okD n d = true) (r : RelV x u) : ∃ as, Reads s.heap u (pyD d) as := by
  rcases c with c | ⟨a, rfl, o⟩
  · exact c.reads I ok r
  · cases d with
    | lst ds =>
      obtain ⟨xs, e, q⟩ := o
      cases r
      cases n with
      | zero => simp [okD] at ok
      | succ n =>
        obtain ⟨_, its, m, rv, ho⟩ := I.hok _ _ e
        obtain ⟨as, ra⟩ := Reps.reads I q (by rw [okD] at ok; exact ok) rv
        exact ⟨_, .list ho rfl rfl ra⟩
    | dik _ => cases n <;> simp [okD] at ok
    | dit _ => cases n <;> simp [okD] at ok
    | obj _ _ => cases n <;> simp [okD] at ok
    | _ => exact o.elim
end
def pEq : Dv → Dv → (R → Prop) → Prop
  | .int i, .int j, Q => Q (.v (.bl (decide (i = j))))
  | dx, dy, Q => (okD 8 dx = true ∧ okD 8 dy = true) ∧ Q (.v (.bl (eqD dx dy)))
def pNe : Dv → Dv → (R → Prop) → Prop
  | .int i, .int j, Q => Q (.v (.bl (!decide (i = j))))
  | dx, dy, Q => (okD 8 dx = true ∧ okD 8 dy = true) ∧ Q (.v (.bl (!eqD dx dy)))
section
variable {X : Cx}
def rEqZ (K : PySem.W.Frag) : R2 := fun x y H Q => ∃ M dx dy, CRep K M H x dx ∧ CRep K M H y dy ∧ okD 8 dx = true ∧ okD 8 dy = true ∧ Q (.bl (eqD dx dy)) H
def rNeZ (K : PySem.W.Frag) : R2 := fun x y H Q => ∃ M dx dy, CRep K M H x dx ∧ CRep K M H y dy ∧ okD 8 dx = true ∧ okD 8 dy = true ∧ Q (.bl (!eqD dx dy)) H
theorem op_eqZ (hu : X.A.units + 64 < cLine) : OpR X (compareOp .Eq) (rEqZ X.K) := by
  intro pins s σ H x y v u Q I rx ry h
  obtain ⟨M, dx, dy, r1, r2, o1, o2, q⟩ := h
  obtain ⟨as, ra⟩ := r1.reads I o1 rx
  obtain ⟨bs, rb⟩ := r2.reads I o2 ry
  exact SeqAt.compareEq_shaped ra rb (okD_shaped o1 (by decide)) (okD_shaped o2 (by decide)) hu ⟨.bl _, H, I, rfl, q⟩
theorem op_neZ (hu : X.A.units + 64 < cLine) : OpR X (compareOp .NotEq) (rNeZ X.K) := by
  intro pins s σ H x y v u Q I rx ry h
  obtain ⟨M, dx, dy, r1, r2, o1, o2, q⟩ := h
  obtain ⟨as, ra⟩ := r1.reads I o1 rx
  obtain ⟨bs, rb⟩ := r2.reads I o2 ry
  exact SeqAt.compareNe_shaped ra rb (okD_shaped o1 (by decide)) (okD_shaped o2 (by decide)) hu ⟨.bl _, H, I, rfl, q⟩
theorem eqD_int (i j : Int) : eqD (.int i) (.int j) = decide (i = j) := by
  show PyData.eqv (.int i) (.int j) = _
  rw [PyData.eqv]
  exact Bool.beq_eq_decide_eq i j
theorem opd_eq (hu : X.A.units + 64 < cLine) : OpD X (compareOp .Eq) pEq := by
  refine ⟨fun dx dy Q Q' w h => ?_, _, op_eqZ hu, fun M O H x y dx dy Q cx cy h => ?_⟩
  · unfold pEq at *
    split at h
    · exact w _ h
    · exact ⟨h.1, w _ h.2⟩
  · unfold pEq at h
    split at h
    · refine ⟨M, _, _, cx, cy, by simp [okD], by simp [okD], ?_⟩
      rw [eqD_int]
      exact h _ H (Same.refl _) (Rep.bl _)
    · exact ⟨M, _, _, cx, cy, h.1.1, h.1.2, h.2 _ H (Same.refl _) (Rep.bl _)⟩
theorem opd_ne (hu : X.A.units + 64 < cLine) : OpD X (compareOp .NotEq) pNe := by
  refine ⟨fun dx dy Q Q' w h => ?_, _, op_neZ hu, fun M O H x y dx dy Q cx cy h => ?_⟩
  · unfold pNe at *
    split at h
    · exact w _ h
    · exact ⟨h.1, w _ h.2⟩
  · unfold pNe at h
    split at h
    · refine ⟨M, _, _, cx, cy, by simp [okD], by simp [okD], ?_⟩
      rw [eqD_int]
      exact h _ H (Same.refl _) (Rep.bl _)
    · exact ⟨M, _, _, cx, cy, h.1.1, h.1.2, h.2 _ H (Same.refl _) (Rep.bl _)⟩
end
end Z
namespace Z
open PySem PySem.Spec PyProof.Rows L2
structure En where
  nx : List Sl → Prop
  rt : R → Prop
  bk : List Sl → Prop := fun _ => False
  ct : List Sl → Prop := fun _ => False
abbrev TSp := En → List Sl → Prop
structure EnLe (E E' : En) : Prop where
  nx : ∀ ρ, E.nx ρ → E'.nx ρ
  rt : ∀ r, E.rt r → E'.rt r
  bk : ∀ ρ, E.bk ρ → E'.bk ρ
  ct : ∀ ρ, E.ct ρ → E'.ct ρ
structure Ent (K : PySem.W.Frag) (H₀ : Hp) (F : Addr → Prop) (E : En) (D : Ends) : Prop where
  nx : ∀ ρ σ H, Fr K H₀ F σ H ρ → E.nx ρ → D.nx σ H
  bk : ∀ ρ σ H, Fr K H₀ F σ H ρ → E.bk ρ → D.bk σ H
  ct : ∀ ρ σ H, Fr K H₀ F σ H ρ → E.ct ρ → D.ct σ H
  rt : ∀ r x H, Same H₀ H → RRep K F NoOwn H₀ x r H → E.rt r → D.rt x H
inductive liftS (K : PySem.W.Frag) (H₀ : Hp) (F : Addr → Prop) (t : TSp) (D : Ends) (σ : St) (H : Hp) : Prop
  | mk (ρ : List Sl) (E : En) (fr : Fr K H₀ F σ H ρ) (h : t E ρ) (en : Ent K H₀ F E D)
structure QS (X : Cx) (st : Stmt) (t : TSp) : Prop where
  mono : ∀ E E' ρ, EnLe E E' → t E ρ → t E' ρ
  run : ∀ (H₀ : Hp) (F : Addr → Prop), PS X st (liftS X.K H₀ F t)
structure QSs (X : Cx) (sts : List Stmt) (t : TSp) : Prop where
  mono : ∀ E E' ρ, EnLe E E' → t E ρ → t E' ρ
  run : ∀ (H₀ : Hp) (F : Addr → Prop), PSs X sts (liftS X.K H₀ F t)
section
variable {X : Cx} {st : Stmt} {sts : List Stmt} {t u : TSp} {e c : Expr} {te : TEp} {pos : Pos}
theorem PS_imp {t t' : TS} (h : PS X st t) (w : ∀ D σ H, t' D σ H → t D σ H) : PS X st t' := fun pins s σ H D I q => h pins s σ H D I (w D σ H q)
theorem PSs_imp {t t' : TS} (h : PSs X sts t) (w : ∀ D σ H, t' D σ H → t D σ H) : PSs X sts t' := fun pins s σ H D I q => h pins s σ H D I (w D σ H q)
def sNext : TSp := fun E ρ => E.nx ρ
def sSeq (t u : TSp) : TSp := fun E ρ => t { E with nx := u E } ρ
theorem q_nilS : QSs X [] sNext := ⟨fun E E' ρ w h => w.nx _ h, fun H₀ F => PSs_imp pss_nil fun D σ H ⟨ρ, E, fr, h, en⟩ => en.nx _ _ _ fr h⟩
theorem EnLe.with_nx {E E' : En} {a b : List Sl → Prop} (w : EnLe E E') (h : ∀ ρ, a ρ → b ρ) : EnLe { E with nx := a } { E' with nx := b } := ⟨h, w.rt, w.bk, w.ct⟩
theorem q_consS (h1 : QS X st t) (h2 : QSs X sts u) : QSs X (st :: sts) (sSeq t u) := by
  refine ⟨fun E E' ρ w h => h1.mono _ _ _ (w.with_nx fun ρ h => h2.mono _ _ _ w h) h, fun H₀ F => PSs_imp (pss_cons (h1.run H₀ F) (h2.run H₀ F)) fun D σ H ⟨ρ, E, fr, h, en⟩ => ?_⟩
  exact ⟨ρ, _, fr, h, fun ρ' σ' H' fr' h' => ⟨ρ', E, fr', h', en⟩, en.bk, en.ct, en.rt⟩
theorem q_oneS (h1 : QS X st t) : QSs X [st] t := ⟨h1.mono, fun H₀ F => pss_one (h1.run H₀ F)⟩
def sBreak : TSp := fun E ρ => E.bk ρ
def sCont : TSp := fun E ρ => E.ct ρ
def sNever : TSp := fun _ _ => False
def sDrop (te : TEp) : TSp := fun E ρ => te ρ fun _ => E.nx ρ
def R.out : R → R
  | .ow _ d => .nw d
  | r => r
theorem RRep.out {K : PySem.W.Frag} {H₀ H H' : Hp} {F : Addr → Prop} {σ : St} {ρ : List Sl} {x : V} {r : R} (fr : Fr K H₀ F σ H ρ) (h : RRep K (MM F ρ) (Own ρ) H x r H') : RRep K F NoOwn H₀ x r.out H' := by
  cases r with
  | v d => exact Rep.weak (fun a z => .inl z) h
  | nw d =>
    obtain ⟨a, e, n, o⟩ := h
    exact ⟨a, e, fr.same.free n, o.weak fun b z => z.elim (fun z => .inl (.inl z)) .inr⟩
  | ow a d =>
    obtain ⟨e, m, o⟩ := h
    refine ⟨a, e, fr.new a d m, o.weak fun b z => ?_⟩
    rcases z with z | z
    · exact .inl z
    · rw [z]; exact .inr ⟨d, m⟩
def sRet (te : TEp) : TSp := fun E ρ => te ρ fun r => E.rt r.out
def sRetN : TSp := fun E _ => E.rt (.v .non)
theorem q_ret (he : QE X e te) : QS X (.Return (some e) pos) (sRet te) :=
  ⟨fun E E' ρ w h => he.mono _ _ _ (fun _ q => w.rt _ q) h, fun H₀ F => PS_imp (ps_ret (he.run H₀ F)) fun D σ H ⟨ρ, E, fr, h, en⟩ => he.step fr h fun r x H1 q S1 r1 => en.rt _ _ _ (fr.same.trans S1) (RRep.out fr r1) q⟩
def sIf (c : TTp) (t u : TSp) : TSp := fun E ρ => c ρ fun b => if b = true then t E ρ else u E ρ
theorem q_if {a b : List Stmt} {tc : TTp} (hc : QT X c tc) (ha : QSs X a t) (hb : QSs X b u) : QS X (.If c a b pos) (sIf tc t u) := by
  refine ⟨fun E E' ρ w h => hc.mono _ _ _ (fun k q => ?_) h, fun H₀ F => PS_imp (ps_if (hc.run H₀ F) (ha.run H₀ F) (hb.run H₀ F)) fun D σ H ⟨ρ, E, fr, h, en⟩ => ?_⟩
  · split at q
    · rw [if_pos ‹_›]; exact ha.mono _ _ _ w q
    · rw [if_neg ‹_›]; exact hb.mono _ _ _ w q
  · refine hc.step fr h fun k H1 q S1 => ?_
    cases k with
    | true => exact iteT ⟨ρ, E, fr.mono S1, by simpa using q, en⟩
    | false => exact iteF ⟨ρ, E, fr.mono S1, by simpa using q, en⟩
end
section
variable {K : PySem.W.Frag} {H₀ H H' : Hp} {F : Addr → Prop} {σ : St} {ρ : List Sl}
theorem get_set {α : Type} {l : List α} {i j : Nat} {a b : α} (h : (l.set i a)[j]? = some b) : (i = j ∧ i < l.length ∧ b = a) ∨ (i ≠ j ∧ l[j]? = some b) := by
  by_cases e : i = j
  · subst e
    by_cases hl : i < l.length
    · rw [List.getElem?_set_self hl] at h
      exact .inl ⟨rfl, hl, (Option.some.inj h).symm⟩
    · rw [List.getElem?_eq_none (by simp; omega)] at h
      cases h
  · rw [List.getElem?_set_ne e] at h
    exact .inr ⟨e, h⟩
theorem MM.set {i : Nat} {s : Sl} (a : Addr) (h : MM F (ρ.set i s) a) : MM F ρ a ∨ ∃ d, s = .own a d := by
  rcases h with h | ⟨d, h⟩
  · exact .inl (.inl h)
  · rcases List.mem_or_eq_of_mem_set h with h | h
    · exact .inl (.inr ⟨d, h⟩)
    · exact .inr ⟨d, h.symm⟩
theorem Fr.setv (fr : Fr K H₀ F σ H ρ) {i : Nat} {x : V} {d : Dv} (r : Rep K (MM F ρ) H x d) : Fr K H₀ F (σ.set i (some x)) H (ρ.set i (.v d)) := by
  have wk : ∀ a, MM F (ρ.set i (.v d)) a → MM F ρ a := fun a h => by
    rcases MM.set a h with h | ⟨_, h⟩
    · exact h
    · cases h
  refine ⟨by simp [fr.len], fun j s e => ?_, fun j k a d1 d2 e1 e2 => ?_, fun a d1 h => ?_, fr.same, fr.old⟩
  · rcases get_set e with ⟨rfl, hl, rfl⟩ | ⟨ne, e⟩
    · exact ⟨x, by rw [List.getElem?_set_self (by rw [fr.len]; exact hl)], r.weak wk⟩
    · rw [List.getElem?_set_ne ne]
      exact (fr.sl j s e).weak wk
  · rcases get_set e1 with ⟨_, _, z⟩ | ⟨_, e1⟩
    · cases z
    · rcases get_set e2 with ⟨_, _, z⟩ | ⟨_, e2⟩
      · cases z
      · exact fr.nd j k a d1 d2 e1 e2
  · rcases List.mem_or_eq_of_mem_set h with h | h
    · exact fr.new a d1 h
    · cases h
theorem Fr.setu (fr : Fr K H₀ F σ H ρ) {i : Nat} {o : Option V} : Fr K H₀ F (σ.set i o) H (ρ.set i .un) := by
  have wk : ∀ a, MM F (ρ.set i .un) a → MM F ρ a := fun a h => by
    rcases MM.set a h with h | ⟨_, h⟩
    · exact h
    · cases h
  refine ⟨by simp [fr.len], fun j s e => ?_, fun j k a d1 d2 e1 e2 => ?_, fun a d1 h => ?_, fr.same, fr.old⟩
  · rcases get_set e with ⟨rfl, hl, rfl⟩ | ⟨ne, e⟩
    · trivial
    · rw [List.getElem?_set_ne ne]
      exact (fr.sl j s e).weak wk
  · rcases get_set e1 with ⟨_, _, z⟩ | ⟨_, e1⟩
    · cases z
    · rcases get_set e2 with ⟨_, _, z⟩ | ⟨_, e2⟩
      · cases z
      · exact fr.nd j k a d1 d2 e1 e2
  · rcases List.mem_or_eq_of_mem_set h with h | h
    · exact fr.new a d1 h
    · cases h
def freeze (i : Nat) (ρ : List Sl) : List Sl := match ρ[i]? with
  | some (.own _ d) => ρ.set i (.v d)
  | _ => ρ
end
section
variable {X : Cx} {e : Expr} {te : TEp} {pos pos' : Pos} {sts : List Stmt} {t : TSp}
def sSet (i : Nat) (te : TEp) : TSp := fun E ρ => te ρ fun r => match r with
  | .v d => E.nx (ρ.set i (.v d))
  | .nw d => E.nx (ρ.set i (.v d))
  | .ow _ _ => False
def sSetO (i : Nat) (te : TEp) : TSp := fun E ρ => te ρ fun r => match r with
  | .v d => E.nx (ρ.set i (.v d))
  | .nw d => ∀ a, E.nx (ρ.set i (.own a d))
  | .ow _ _ => False
def sFrz (i : Nat) (t : TSp) : TSp := fun E ρ => t E (freeze i ρ)
theorem q_set {i : Nat} {x : Str} (hN : X.N.Nodup) (hi : X.N[i]? = some x) (hx : Loc X.env.scope x) (he : QE X e te) (hs : swapsWith e (some (.Name x pos')) pos.line X.env = pure false := by rfl) (hf : X.fn x = true ∨ X.env.scope.names.lookup x = some .local := by first | exact .inl rfl | exact .inr rfl | assumption) :
    QS X (.Assign [.Name x pos'] e pos) (sSet i te) := by
  refine ⟨fun E E' ρ w h => he.mono _ _ _ (fun r q => ?_) h, fun H₀ F => PS_imp (ps_set hN hi hx (he.run H₀ F) hs hf) fun D σ H ⟨ρ, E, fr, h, en⟩ => ?_⟩
  · cases r with
    | v d => exact w.nx _ q
    | nw d => exact w.nx _ q
    | ow a d => exact q
  · refine he.step fr h fun r x H1 q S1 r1 => ?_
    cases r with
    | v d => exact en.nx _ _ _ ((fr.mono S1).setv r1) q
    | nw d => exact en.nx _ _ _ ((fr.mono S1).setv (r1.rep (fun a m => fr.dom m) rfl)) q
    | ow a d => exact q.elim
def sAug (i : Nat) (p : Dv → Dv → (R → Prop) → Prop) (te : TEp) : TSp := fun E ρ => match ρ[i]? with
  | some (.v d) => te ρ fun r => p d r.d fun z => match z with
    | .v d' => E.nx (ρ.set i (.v d'))
    | _ => False
  | _ => False
def sApp (i : Nat) (te : TEp) : TSp := fun E ρ => match ρ[i]? with
  | some (.own a (.lst xs)) => te ρ fun r => (r.free = true ∧ xs.length < LIM) ∧ E.nx (ρ.set i (.own a (.lst (xs ++ [r.d]))))
  | _ => False
theorem lim_lt {n : Nat} (h : n < LIM) : n < sizeLine := Nat.lt_of_lt_of_le h (lim_line (Nat.le_refl _))
end
end Z
namespace Z
open PySem PySem.Spec PyProof.Rows L2
open Classical in
noncomputable def prot (H : Hp) (ρ : List Sl) : Hp := fun b => if ∃ d, Sl.own b d ∈ ρ then none else H b
section
variable {K : PySem.W.Frag} {H₀ H H1 H' : Hp} {F : Addr → Prop} {σ σ' : St} {ρ ρ' : List Sl}
theorem prot_own {b : Addr} {d : Dv} (h : Sl.own b d ∈ ρ) : prot H ρ b = none := by unfold prot; rw [if_pos ⟨d, h⟩]
theorem prot_free {b : Addr} (h : ¬ ∃ d, Sl.own b d ∈ ρ) : prot H ρ b = H b := by unfold prot; rw [if_neg h]
theorem prot_some {b : Addr} {o : HO} (h : prot H ρ b = some o) : H b = some o := by
  by_cases c : ∃ d, Sl.own b d ∈ ρ
  · obtain ⟨d, c⟩ := c
    rw [prot_own c] at h
    cases h
  · rw [prot_free c] at h
    exact h
theorem prot_none (h : prot H ρ b = none) : (∃ d, Sl.own b d ∈ ρ) ∨ H b = none := by
  by_cases c : ∃ d, Sl.own b d ∈ ρ
  · exact .inl c
  · rw [prot_free c] at h
    exact .inr h
theorem Fr.prot (fr : Fr K H₀ F σ H ρ) : Fr K (prot H ρ) F σ H ρ := by
  refine ⟨fr.len, fr.sl, fr.nd, fun a d h => prot_own h, fun b o h => prot_some h, fun a h => ?_⟩
  rw [prot_free ?_]
  · exact fr.dom (.inl h)
  · rintro ⟨d, c⟩
    exact fr.old a h (fr.new a d c)
theorem Fr.free_of (fr : Fr K H₀ F σ H ρ) {b : Addr} (h : Z.prot H ρ b = none) : H₀ b = none := by
  rcases prot_none h with ⟨d, c⟩ | h
  · exact fr.new b d c
  · exact fr.same.free h
theorem Fr.same_of (fr : Fr K H₀ F σ H ρ) (S : Same (Z.prot H ρ) H') : Same H₀ H' := fun b o e => by
  refine S b o ?_
  rw [prot_free ?_]
  · exact fr.same b o e
  · rintro ⟨d, c⟩
    rw [fr.new b d c] at e
    cases e
theorem Fr.unprot (fr : Fr K H₀ F σ H ρ) (g : Fr K (Z.prot H ρ) F σ' H' ρ') : Fr K H₀ F σ' H' ρ' :=
  ⟨g.len, g.sl, g.nd, fun a d h => fr.free_of (g.new a d h), fr.same_of g.same, fr.old⟩
theorem Fr.gen (fr : Fr K H₀ F σ H ρ) (g : Fr K (Z.prot H ρ) F σ' H' ρ') : Gen K (MM F ρ) (MM F ρ') H H' := by
  have no : ∀ a o, H a = some o → ¬ MM F ρ a → Z.prot H ρ a = some o := fun a o e m => by
    rw [prot_free fun c => m (.inr c)]
    exact e
  have no2 : ∀ a o, H a = some o → ¬ Mut (some o) → Z.prot H ρ a = some o := fun a o e m => by
    rw [prot_free ?_]
    · exact e
    · rintro ⟨d, c⟩
      obtain ⟨_, _, _, ow⟩ := fr.at_own c
      obtain ⟨u, hu, mu⟩ := ow.mut
      rw [e] at hu
      cases hu
      exact m mu
  refine ⟨fun a o e mu m => ⟨g.same _ _ (no a o e m), ?_⟩, fun a xs e => g.same _ _ (no2 a _ e fun z => z), fun a ns e => ?_, fun a o u e => g.same _ _ (no2 a _ e fun z => z)⟩
  · rintro (h | ⟨d, h⟩)
    · exact m (.inl h)
    · have := g.new a d h
      rw [no a o e m] at this
      cases this
  · rcases e with ⟨o, e⟩ | e
    · exact .inl ⟨o, g.same _ _ (no2 a _ e fun z => z)⟩
    · exact .inr e
theorem Ent.prot {E : En} {D : Ends} (fr : Fr K H₀ F σ H ρ) (en : Ent K H₀ F E D) : Ent K (Z.prot H ρ) F E D := by
  refine ⟨fun ρ' σ' H' g h => en.nx _ _ _ (fr.unprot g) h, fun ρ' σ' H' g h => en.bk _ _ _ (fr.unprot g) h, fun ρ' σ' H' g h => en.ct _ _ _ (fr.unprot g) h, fun r x H' S rr h => en.rt r x H' (fr.same_of S) ?_ h⟩
  cases r with
  | v d => exact rr
  | ow a d => exact rr
  | nw d => obtain ⟨a, e, n, o⟩ := rr; exact ⟨a, e, fr.free_of n, o⟩
end
abbrev TIp := List Sl → (List Dv → List (Addr × List Dv) → Prop) → Prop
def guard (ogs : List (Addr × List Dv)) (ρ : List Sl) : Prop := ∀ p ∈ ogs, Sl.own p.1 (.lst p.2) ∈ ρ
def ItOk (K : PySem.W.Frag) (P : Hp) (M : Addr → Prop) (H1 : Hp) (J : It) (ds : List Dv) (ogs : List (Addr × List Dv)) : Prop :=
  ∀ (i : Nat) (H' : Hp) (M' : Addr → Prop), Same P H' → Gen K M M' H1 H' → (∀ p ∈ ogs, OwnAt K M' H' p.1 (.lst p.2)) →
    (∀ d, ds[i]? = some d → J.go i H' ∧ ∀ y H'', J.yld i H' y H'' → Same H' H'' ∧ Rep K M' H'' y d) ∧ (ds.length ≤ i → J.stop i H')
structure QI (X : Cx) (tg iter : Expr) (ti : TIp) : Prop where
  mono : ∀ (ρ : List Sl) (Q Q' : List Dv → List (Addr × List Dv) → Prop), (∀ ds g, Q ds g → Q' ds g) → ti ρ Q → ti ρ Q'
  run : ∀ (H₀ : Hp) (F : Addr → Prop), ∃ wi, PI X tg iter wi ∧ ∀ (σ : St) (H : Hp) (ρ : List Sl) (R : It → Hp → Prop), Fr X.K H₀ F σ H ρ →
    ti ρ (fun ds ogs => ∀ J H1, Same H H1 → guard ogs ρ → ItOk X.K (prot H1 ρ) (MM F ρ) H1 J ds ogs → R J H1) → wi σ H R
section
variable {X : Cx} {tg l : Expr} {tl : TEp}
def iSeq (tl : TEp) : TIp := fun ρ Q => tl ρ fun r => match r with
  | .v (.lst ds) => Q ds []
  | .nw (.lst ds) => Q ds []
  | .ow a (.lst ds) => Q ds [(a, ds)]
  | .v (.tup ds) => Q ds []
  | .v (.scr ns) => Q (ns.map .int) []
  | _ => False
def rangeD (lo : Int) (n : Nat) : List Dv := (List.range n).map fun (k : Nat) => Dv.int (lo + (k : Int))
theorem rangeD_get {lo : Int} {n i : Nat} {d : Dv} (h : (rangeD lo n)[i]? = some d) : i < n ∧ d = .int (lo + i) := by
  unfold rangeD at h
  rw [List.getElem?_map] at h
  cases e : (List.range n)[i]? with
  | none => rw [e] at h; cases h
  | some k =>
    rw [e] at h
    obtain ⟨h1, h2⟩ := List.getElem?_eq_some_iff.mp e
    simp at h1 h2
    subst h2
    exact ⟨h1, (Option.some.inj h).symm⟩
theorem itok_range {K : PySem.W.Frag} {P : Hp} {M : Addr → Prop} {H1 : Hp} {lo : Int} {n : Nat} : ItOk K P M H1 (Itr lo n) (rangeD lo n) [] := by
  intro i H' M' S G _
  refine ⟨fun d e => ?_, fun h => (show n ≤ i by simpa [rangeD] using h)⟩
  obtain ⟨h1, h2⟩ := rangeD_get e
  subst h2
  refine ⟨h1, fun y H'' ⟨e1, e2⟩ => ?_⟩
  subst e1 e2
  exact ⟨Same.refl _, .int _⟩
def iRange1 (ts : TAp) : TIp := fun ρ Q => ts ρ fun rs => match rs.map R.d with
  | [.int j] => (-(2 ^ 62) ≤ j ∧ j < 2 ^ 62) ∧ Q (rangeD 0 j.toNat) []
  | _ => False
def iRange2 (ts : TAp) : TIp := fun ρ Q => ts ρ fun rs => match rs.map R.d with
  | [.int i, .int j] => (-(2 ^ 62) ≤ i ∧ i < 2 ^ 62 ∧ -(2 ^ 62) ≤ j ∧ j < 2 ^ 62) ∧ Q (rangeD i (j - i).toNat) []
  | _ => False
theorem creps1 {K : PySem.W.Frag} {M : Addr → Prop} {H : Hp} {xs : List V} {d : Dv} (h : CReps K M H xs [d]) : ∃ x, xs = [x] ∧ CRep K M H x d := by
  cases h with
  | cons a t => cases t; exact ⟨_, rfl, a⟩
theorem creps2 {K : PySem.W.Frag} {M : Addr → Prop} {H : Hp} {xs : List V} {d d' : Dv} (h : CReps K M H xs [d, d']) : ∃ x y, xs = [x, y] ∧ CRep K M H x d ∧ CRep K M H y d' := by
  cases h with
  | cons a t =>
    obtain ⟨y, rfl, b⟩ := creps1 t
    exact ⟨_, _, rfl, a, b⟩
theorem q_iRange1 {a : Expr} {ts : TAp} {p pos : Pos} (hg : Gl X "range") (hm : X.mg "range" = none) (ha : QA X [a] ts) (hs : starEach [a] X.env = [(false, eval a X.env)] := by rfl) : QI X tg (.Call (.Name "range" p) [a] [] pos) (iRange1 ts) := by
  refine ⟨fun ρ Q Q' w q => ha.mono _ _ _ (fun r q => ?_) q, fun H₀ F => ⟨_, pi_range1 hg hm (ha.run H₀ F) hs, fun σ H ρ R fr q => ?_⟩⟩
  · split at q
    · exact ⟨q.1, w _ _ q.2⟩
    · exact q
  · refine ha.step fr q fun rs xs H1 q S1 r1 => ?_
    split at q
    · rename_i j e
      have c := r1.c
      rw [e] at c
      obtain ⟨x, rfl, cx⟩ := creps1 c
      obtain rfl := cx.int
      exact ⟨j, rfl, q.1.1, q.1.2, q.2 _ H1 S1 (by intro p hp; simp at hp) itok_range⟩
    · exact q.elim
end
abbrev TGp := Dv → List Sl → (List Sl → Prop) → Prop
structure QG (X : Cx) (tg : Expr) (k : Nat) (g : TGp) : Prop where
  mono : ∀ d ρ (Q Q' : List Sl → Prop), (∀ ρ, Q ρ → Q' ρ) → g d ρ Q → g d ρ Q'
  agree : ∀ d ρ (Q : List Sl → Prop), g d ρ Q → g d ρ fun ρ1 => Q ρ1 ∧ ρ1.length = ρ.length ∧ ∀ j, k ≤ j → ρ1[j]? = ρ[j]?
  run : ∃ t, PG X tg t ∧ ∀ (H₀ : Hp) (F : Addr → Prop) (v : V) (d : Dv) (σ : St) (H : Hp) (ρ : List Sl) (Q : St → Hp → Prop), Fr X.K H₀ F σ H ρ → Rep X.K (MM F ρ) H v d →
    g d ρ (fun ρ1 => ∀ σ1, Fr X.K H₀ F σ1 H ρ1 → (∀ j, k ≤ j → σ1[j]? = σ[j]?) → Q σ1 H) → t v σ H Q
def gN (i : Nat) : TGp := fun d ρ Q => Q (ρ.set i (.v d))
def setAll : List Nat → List Dv → List Sl → List Sl
  | i :: is, d :: ds, ρ => setAll is ds (ρ.set i (.v d))
  | _, _, ρ => ρ
def gT (is : List Nat) : TGp := fun d ρ Q => match d with
  | .tup ds => ds.length = is.length ∧ Q (setAll is ds ρ)
  | _ => False
section
variable {X : Cx} {pos : Pos}
theorem q_gN {i k : Nat} {x : Str} (hN : X.N.Nodup) (hi : X.N[i]? = some x) (hx : Loc X.env.scope x) (hk : i < k := by decide) (hf : X.fn x = true ∨ X.env.scope.names.lookup x = some .local := by first | exact .inl rfl | exact .inr rfl | assumption) : QG X (.Name x pos) k (gN i) := by
  refine ⟨fun d ρ Q Q' w q => w _ q, fun d ρ Q q => ⟨q, by simp, fun j hj => by rw [List.getElem?_set_ne (by omega)]⟩, _, pg_name hN hi hx hf, fun H₀ F v d σ H ρ Q fr r q => ?_⟩
  exact q _ (fr.setv r) fun j hj => by rw [List.getElem?_set_ne (by omega)]
end
def forGo (g : TGp) (tb : TSp) (ogs : List (Addr × List Dv)) : List Dv → TSp
  | [] => fun E ρ => guard ogs ρ ∧ E.nx ρ
  | d :: r => fun E ρ => guard ogs ρ ∧ g d ρ fun ρ1 => tb { E with nx := forGo g tb ogs r E, ct := forGo g tb ogs r E, bk := E.nx } ρ1
def sFor (ti : TIp) (g : TGp) (tb : TSp) : TSp := fun E ρ => ti ρ fun ds ogs => forGo g tb ogs ds E ρ
section
variable {X : Cx} {tg iter c : Expr} {ti : TIp} {g : TGp} {tb : TSp} {body : List Stmt} {pos : Pos} {k : Nat}
theorem forGo_mono (mg : ∀ d ρ (Q Q' : List Sl → Prop), (∀ ρ, Q ρ → Q' ρ) → g d ρ Q → g d ρ Q') (mb : ∀ E E' ρ, EnLe E E' → tb E ρ → tb E' ρ) (ogs : List (Addr × List Dv)) : ∀ (ds : List Dv) (E E' : En) (ρ : List Sl), EnLe E E' → forGo g tb ogs ds E ρ → forGo g tb ogs ds E' ρ
  | [], E, E', ρ, w, h => ⟨h.1, w.nx _ h.2⟩
  | d :: r, E, E', ρ, w, h => by
    have w2 : EnLe { E with nx := forGo g tb ogs r E, ct := forGo g tb ogs r E, bk := E.nx } { E' with nx := forGo g tb ogs r E', ct := forGo g tb ogs r E', bk := E'.nx } :=
      ⟨fun ρ h => forGo_mono mg mb ogs r E E' ρ w h, w.rt, w.nx, fun ρ h => forGo_mono mg mb ogs r E E' ρ w h⟩
    exact ⟨h.1, mg _ _ _ _ (fun ρ1 h => mb _ _ _ w2 h) h.2⟩
theorem forGo_nil (ogs : List (Addr × List Dv)) (E : En) (ρ : List Sl) : forGo g tb ogs [] E ρ = (guard ogs ρ ∧ E.nx ρ) := rfl
theorem forGo_cons (ogs : List (Addr × List Dv)) (d : Dv) (r : List Dv) (E : En) (ρ : List Sl) : forGo g tb ogs (d :: r) E ρ = (guard ogs ρ ∧ g d ρ fun ρ1 => tb { E with nx := forGo g tb ogs r E, ct := forGo g tb ogs r E, bk := E.nx } ρ1) := rfl
theorem forGo_guard {ogs : List (Addr × List Dv)} {E : En} {ρ : List Sl} : ∀ {ds : List Dv}, forGo g tb ogs ds E ρ → guard ogs ρ
  | [], h => by rw [forGo_nil] at h; exact h.1
  | _ :: _, h => by rw [forGo_cons] at h; exact h.1
theorem q_for (hp : PassesOwn (model X.prog X.w) X.A X.env X.xe) (hc : X.calm = true) (hi : QI X tg iter ti) (hg : QG X tg k g) (hb : QSs X body tb) (hs : ∀ x, foldedSetIterable iter X.env x = pure x := by intro _; rfl) : QS X (.For tg iter body [] pos) (sFor ti g tb) := by
  refine ⟨fun E E' ρ w h => hi.mono _ _ _ (fun ds ogs h => forGo_mono hg.mono hb.mono ogs ds E E' ρ w h) h, fun H₀ F => ?_⟩
  obtain ⟨wi, hwi, wiq⟩ := hi.run H₀ F
  obtain ⟨tt, htt, ttq⟩ := hg.run
  have hb' : PSs X body (fun D σ H => ∃ P, liftS X.K P F tb D σ H) := fun pins s σ H D I ⟨P, q⟩ => hb.run P F pins s σ H D I q
  refine PS_imp (ps_for hp hc hwi htt hb' hs) fun D σ H ⟨ρ, E, fr, h, en⟩ => ?_
  refine wiq σ H ρ _ fr (hi.mono _ _ _ (fun ds ogs q J H2 S2 _ ok => ?_) h)
  have fr2 := fr.mono S2
  have en2 : Ent X.K (prot H2 ρ) F E D := en.prot fr2
  refine ⟨fun i m σ' H' => m = ds.length - i ∧ i ≤ ds.length ∧ ∃ ρ', Fr X.K (prot H2 ρ) F σ' H' ρ' ∧ forGo g tb ogs (ds.drop i) E ρ', ⟨ds.length, by simp, Nat.zero_le _, ρ, fr2.prot, by simpa using q⟩, ?_⟩
  rintro i m σ' H' ⟨rfl, hil, ρ', fr', q'⟩
  have gd : guard ogs ρ' := forGo_guard q'
  have Gn := fr2.gen fr'
  have oks := ok i H' (MM F ρ') fr'.same Gn fun p hp => let ⟨_, _, _, h⟩ := fr'.at_own (gd p hp); h
  by_cases hlt : i < ds.length
  · have hd : ds[i]? = some ds[i] := by simp [hlt]
    have hdr : ds.drop i = ds[i] :: ds.drop (i + 1) := List.drop_eq_getElem_cons hlt
    rw [hdr, forGo_cons] at q'
    obtain ⟨go, yld⟩ := oks.1 _ hd
    refine .inr ⟨go, fun σ2 H2' => ∃ ρ2, Fr X.K (prot H2 ρ) F σ2 H2' ρ2 ∧ forGo g tb ogs (ds.drop (i + 1)) E ρ2, fun σ2 H2' ⟨ρ2, f2', q2⟩ => ⟨ds.length - (i + 1), by omega, rfl, hlt, ρ2, f2', q2⟩, fun y H3 hy => ?_⟩
    obtain ⟨S3, ry⟩ := yld y H3 hy
    refine ttq _ F y _ σ' H3 ρ' _ (fr'.mono S3) ry (hg.mono _ _ _ _ (fun ρ1 q1 σ1 f1 _ => ?_) q'.2)
    exact ⟨_, ρ1, _, f1, q1, fun ρ3 σ3 H3' f3 q3 => ⟨ρ3, f3, q3⟩, en2.nx, fun ρ3 σ3 H3' f3 q3 => ⟨ρ3, f3, q3⟩, en2.rt⟩
  · have e : i = ds.length := by omega
    subst e
    rw [List.drop_length, forGo_nil] at q'
    exact .inl ⟨oks.2 (Nat.le_refl _), en2.nx _ _ _ fr' q'.2⟩
end
end Z
namespace Z
open PySem PySem.Spec PyProof.Rows L2
section
variable {X : Cx} {tg iter c e elt : Expr} {ti : TIp} {g : TGp} {tb : TSp} {body : List Stmt} {pos : Pos} {k : Nat} {tc : TTp} {es : List Expr} {ts : TAp} {te : TEp}
def pickP (js : List Nat) (ρ : List Sl) : List Sl := js.map fun j => (ρ[j]?).getD .un
def compGo (ρ0 : List Sl) (g : TGp) (tt : TTp) (te : TEp) : List Dv → List Dv → (R → Prop) → Prop
  | [], acc, Q => Q (.nw (.lst acc))
  | d :: r, acc, Q => g d ρ0 fun ρ1 => tt ρ1 fun b => if b = true then te ρ1 fun v => (v.free = true ∧ acc.length < LIM) ∧ compGo ρ0 g tt te r (acc ++ [v.d]) Q else compGo ρ0 g tt te r acc Q
def eComp (k : Nat) (js : List Nat) (ti : TIp) (g : TGp) (tt : TTp) (te : TEp) : TEp := fun ρ Q => ti ρ fun ds _ => compGo (List.replicate k .un ++ pickP js ρ) g tt te ds [] Q
structure QTs (X : Cx) (ifs : List Expr) (t : TTp) : Prop where
  mono : ∀ (ρ : List Sl) (Q Q' : Bool → Prop), (∀ r, Q r → Q' r) → t ρ Q → t ρ Q'
  run : ∀ (H₀ : Hp) (F : Addr → Prop), PTs X ifs (liftT X.K H₀ F t)
def tTrue : TTp := fun _ Q => Q true
theorem qts_nil : QTs X [] tTrue := ⟨fun _ _ _ w q => w _ q, fun H₀ F pins s σ H Q I ⟨ρ, fr, q⟩ => pts_nil pins s σ H Q I (q H (Same.refl _))⟩
theorem pickP_get {js : List Nat} {ρ : List Sl} {i : Nat} {s : Sl} (h : (pickP js ρ)[i]? = some s) (hs : s ≠ .un) : ∃ j, js[i]? = some j ∧ ρ[j]? = some s := by
  unfold pickP at h
  rw [List.getElem?_map] at h
  cases e : js[i]? with
  | none => rw [e] at h; cases h
  | some j =>
    rw [e] at h
    refine ⟨j, rfl, ?_⟩
    have h' : (ρ[j]?).getD .un = s := Option.some.inj h
    cases q : ρ[j]? with
    | none => rw [q] at h'; exact absurd h'.symm hs
    | some o => rw [q] at h'; exact congrArg some h'
theorem pick_of {js : List Nat} {σ : St} {i j : Nat} {x : V} (hj : js[i]? = some j) (h : σ[j]? = some (some x)) : (pick js σ)[i]? = some (some x) := by
  unfold pick
  rw [List.getElem?_map, hj, Option.map_some, h]
  rfl
theorem compGo_mono {ρ0 : List Sl} {tt : TTp} (mg : ∀ d ρ (Q Q' : List Sl → Prop), (∀ ρ, Q ρ → Q' ρ) → g d ρ Q → g d ρ Q') (mt : ∀ (ρ : List Sl) (Q Q' : Bool → Prop), (∀ r, Q r → Q' r) → tt ρ Q → tt ρ Q') (me : ∀ (ρ : List Sl) (Q Q' : R → Prop), (∀ r, Q r → Q' r) → te ρ Q → te ρ Q') :
    ∀ (ds acc : List Dv) (Q Q' : R → Prop), (∀ r, Q r → Q' r) → compGo ρ0 g tt te ds acc Q → compGo ρ0 g tt te ds acc Q'
  | [], acc, Q, Q', w, h => w _ h
  | d :: r, acc, Q, Q', w, h => by
    refine mg _ _ _ _ (fun ρ1 h => mt _ _ _ (fun b h => ?_) h) h
    split at h
    · rw [if_pos ‹_›]; exact me _ _ _ (fun v h => ⟨h.1, compGo_mono mg mt me r _ Q Q' w h.2⟩) h
    · rw [if_neg ‹_›]; exact compGo_mono mg mt me r _ Q Q' w h
theorem nodup_ix' {l : List Nat} (hN : l.Nodup) {i j x : Nat} (a : l[i]? = some x) (b : l[j]? = some x) : i = j := by
  obtain ⟨h1, e1⟩ := List.getElem?_eq_some_iff.mp a
  obtain ⟨h2, e2⟩ := List.getElem?_eq_some_iff.mp b
  have P := List.pairwise_iff_getElem.mp hN
  rcases Nat.lt_trichotomy i j with h | h | h
  · exact absurd (e1.trans e2.symm) (P i j h1 h2 h)
  · exact h
  · exact absurd (e2.trans e1.symm) (P j i h2 h1 h)
theorem Fr.block {K : PySem.W.Frag} {H₀ H H2 : Hp} {F : Addr → Prop} {σ : St} {ρ : List Sl} {k : Nat} {js : List Nat} {D : Addr} {old : St} (fr : Fr K H₀ F σ H ρ) (S : Same H H2) (hD : H D = none) (hD2 : H2 D ≠ none) (nd : js.Nodup) (lo : old.length = k) :
    ∃ (P : Hp) (F' : Addr → Prop), Fr K P F' (old ++ pick js σ) H2 (List.replicate k .un ++ pickP js ρ) ∧ (∀ a, MM F' (List.replicate k .un ++ pickP js ρ) a ↔ MM F ρ a ∨ a = D) ∧ (∀ a, F' a ↔ (MM F ρ a ∨ a = D) ∧ ¬ ∃ d, Sl.own a d ∈ pickP js ρ) := by
  have mem : ∀ {a : Addr} {d : Dv}, Sl.own a d ∈ List.replicate k Sl.un ++ pickP js ρ → Sl.own a d ∈ pickP js ρ := fun h => by
    rcases List.mem_append.mp h with h | h
    · cases List.eq_of_mem_replicate h
    · exact h
  have sub : ∀ {a : Addr} {d : Dv}, Sl.own a d ∈ pickP js ρ → Sl.own a d ∈ ρ := fun h => by
    obtain ⟨i, e⟩ := List.mem_iff_getElem?.mp h
    obtain ⟨j, _, e2⟩ := pickP_get e (by intro z; cases z)
    exact List.mem_of_getElem? e2
  refine ⟨Z.prot H2 (pickP js ρ), fun a => (MM F ρ a ∨ a = D) ∧ ¬ ∃ d, Sl.own a d ∈ pickP js ρ, ?_, fun a => ⟨fun h => ?_, fun h => ?_⟩, fun a => Iff.rfl⟩
  · have iff : ∀ a, MM (fun a => (MM F ρ a ∨ a = D) ∧ ¬ ∃ d, Sl.own a d ∈ pickP js ρ) (List.replicate k .un ++ pickP js ρ) a → MM F ρ a ∨ a = D := fun a h => by
      rcases h with h | ⟨d, h⟩
      · exact h.1
      · exact .inl (.inr ⟨d, sub (mem h)⟩)
    have G : Gen K (MM F ρ) (MM (fun a => (MM F ρ a ∨ a = D) ∧ ¬ ∃ d, Sl.own a d ∈ pickP js ρ) (List.replicate k .un ++ pickP js ρ)) H H2 := ((Gen.fresh hD).trans (.mono S)).trans (.weak iff)
    refine ⟨by simp [pick, pickP, lo], fun i s e => ?_, fun i j a d d' e1 e2 => ?_, fun a d h => prot_own (mem h), fun b o h => prot_some h, fun a h => ?_⟩
    · by_cases hi : i < k
      · rw [List.getElem?_append_left (by simpa using hi), List.getElem?_replicate, if_pos hi] at e
        cases e
        trivial
      · rw [List.getElem?_append_right (by simpa using Nat.le_of_not_lt hi), List.length_replicate] at e
        rw [List.getElem?_append_right (by rw [lo]; exact Nat.le_of_not_lt hi), lo]
        cases s with
        | un => trivial
        | v d =>
          obtain ⟨j, hj, e2⟩ := pickP_get e (by intro z; cases z)
          obtain ⟨x, hx, r⟩ := fr.sl j _ e2
          exact ⟨x, pick_of hj hx, r.gen G⟩
        | own a d =>
          obtain ⟨j, hj, e2⟩ := pickP_get e (by intro z; cases z)
          obtain ⟨hx, r⟩ := fr.sl j _ e2
          exact ⟨pick_of hj hx, r.gen G fun o e => S _ _ e⟩
    · have ge : ∀ {i : Nat} {d : Dv}, (List.replicate k Sl.un ++ pickP js ρ)[i]? = some (.own a d) → k ≤ i ∧ (pickP js ρ)[i - k]? = some (.own a d) := fun {i d} e => by
        by_cases hi : i < k
        · rw [List.getElem?_append_left (by simpa using hi), List.getElem?_replicate, if_pos hi] at e
          cases e
        · rw [List.getElem?_append_right (by simpa using Nat.le_of_not_lt hi), List.length_replicate] at e
          exact ⟨Nat.le_of_not_lt hi, e⟩
      obtain ⟨k1, e1⟩ := ge e1
      obtain ⟨k2, e2⟩ := ge e2
      obtain ⟨j1, hj1, e1⟩ := pickP_get e1 (by intro z; cases z)
      obtain ⟨j2, hj2, e2⟩ := pickP_get e2 (by intro z; cases z)
      have := fr.nd j1 j2 a d d' e1 e2
      subst this
      have := nodup_ix' nd hj1 hj2
      omega
    · rw [prot_free h.2]
      rcases h.1 with m | m
      · intro z
        exact fr.dom m (S.free z)
      · rw [m]; exact hD2
  · rcases h with h | ⟨d, h⟩
    · exact h.1
    · exact .inl (.inr ⟨d, sub (mem h)⟩)
  · by_cases c : ∃ d, Sl.own a d ∈ pickP js ρ
    · obtain ⟨d, c⟩ := c
      exact .inr ⟨d, List.mem_append_right _ c⟩
    · exact .inl ⟨h, c⟩
end
end Z
namespace Z
open PySem PySem.Spec PyProof.Rows L2
inductive liftG (K : PySem.W.Frag) (k : Nat) (g : TGp) (v : V) (σ : St) (H : Hp) (Q : St → Hp → Prop) : Prop
  | mk (d : Dv) (H₀ : Hp) (F : Addr → Prop) (ρ : List Sl) (fr : Fr K H₀ F σ H ρ) (r : Rep K (MM F ρ) H v d) (h : g d ρ (fun ρ1 => ∀ σ1, Fr K H₀ F σ1 H ρ1 → (∀ j, k ≤ j → σ1[j]? = σ[j]?) → Q σ1 H))
theorem QG.pg {X : Cx} {tg : Expr} {k : Nat} {g : TGp} (h : QG X tg k g) : PG X tg (liftG X.K k g) := by
  obtain ⟨t, ht, tq⟩ := h.run
  intro pins s σ H v u Q I r ⟨d, H₀, F, ρ, fr, rv, q⟩
  exact ht pins s σ H v u Q I r (tq H₀ F v d σ H ρ Q fr rv q)
theorem QE.pe {X : Cx} {e : Expr} {te : TEp} (h : QE X e te) : PE X e (fun σ H Q => ∃ H₀ F, lift X.K H₀ F te σ H Q) := fun pins s σ H Q I ⟨H₀, F, q⟩ => h.run H₀ F pins s σ H Q I q
theorem QTs.pt {X : Cx} {ifs : List Expr} {tt : TTp} (h : QTs X ifs tt) : PTs X ifs (fun σ H Q => ∃ H₀ F, liftT X.K H₀ F tt σ H Q) := fun pins s σ H Q I ⟨H₀, F, q⟩ => h.run H₀ F pins s σ H Q I q
theorem split_at {α : Type} {l a b : List α} {k : Nat} (ha : a.length = k) (hl : l.length = k + b.length) (h : ∀ j, k ≤ j → l[j]? = (a ++ b)[j]?) : l = l.take k ++ b := by
  refine List.ext_getElem? fun j => ?_
  by_cases hj : j < k
  · rw [List.getElem?_append_left (by rw [List.length_take]; omega), List.getElem?_take_of_lt hj]
  · rw [h j (by omega), List.getElem?_append_right (by omega), List.getElem?_append_right (by rw [List.length_take]; omega), ha, List.length_take, Nat.min_eq_left (by omega)]
section
variable {X : Cx} {pos : Pos}
theorem q_comp {elt iter tgt : Expr} {ifs : List Expr} {scope : Scope} {cl : List (Str × Addr)} {tgs ns : List Str} {js : List Nat} {k : Nat} {ti : TIp} {g : TGp} {tt : TTp} {te : TEp} (hc : X.calm = true) (hk : tgs.length = k)
    (hi : QI X tgt iter ti) (hg : ∀ (fp : List Addr) (s : Shared) (H : Hp), QG (cxG X scope cl fp (tgs ++ ns) s H) tgt k g) (ht : ∀ (fp : List Addr) (s : Shared) (H : Hp), QTs (cxG X scope cl fp (tgs ++ ns) s H) ifs tt)
    (he : ∀ (fp : List Addr) (s : Shared) (H : Hp), QE (cxG X scope cl fp (tgs ++ ns) s H) elt te)
    (hclos : closureFor scope X.env = pure cl) (hsub : ∀ x c, cl.lookup x = some c → X.env.cells.lookup x = some c)
    (hhas : ∀ x, ((relabel scope X.env).names.lookup x = some .cell ∨ (relabel scope X.env).names.lookup x = some .free) → ∃ c, cl.lookup x = some c)
    (hjs : js.map (fun j => X.N[j]?) = ns.map some) (hin : ∀ y ∈ ns, (relabel scope X.env).names.lookup y = some .cell ∨ (relabel scope X.env).names.lookup y = some .free)
    (hout : ∀ y ∈ ns, X.env.kindOf y = some .cell ∨ X.env.kindOf y = some .free) (nd : js.Nodup)
    (hcell : ∀ y ∈ scope.names, y.2 ≠ .cell := by decide +kernel) (hkind : scope.kind = .function := by rfl)
    (hnames : ∀ y ∈ scope.names, y.2 = .local → scope.names.lookup y.1 = some .local := by decide +kernel)
    (hs : ∀ z, foldedSetIterable iter X.env z = pure z := by intro _; rfl) :
    QE X (.ListComp elt [⟨tgt, iter, ifs, 0⟩] scope pos) (eComp k js ti g tt te) := by
  have mg := (hg [] X.s₀ fun _ => none).mono
  have ag := (hg [] X.s₀ fun _ => none).agree
  have mt := (ht [] X.s₀ fun _ => none).mono
  have me := (he [] X.s₀ fun _ => none).mono
  refine ⟨fun ρ Q Q' w h => hi.mono _ _ _ (fun ds ogs h => compGo_mono mg mt me ds [] Q Q' w h) h, fun H₀ F => ?_⟩
  obtain ⟨wi, hwi, wiq⟩ := hi.run H₀ F
  refine PE_imp (pe_compG (tgs := tgs) (ns := ns) (js := js) (g := liftG X.K k g) (tt := fun σ H Q => ∃ H₀ F, liftT X.K H₀ F tt σ H Q) (te := fun σ H Q => ∃ H₀ F, lift X.K H₀ F te σ H Q) hc hwi (fun fp s H => (hg fp s H).pg) (fun fp s H => (ht fp s H).pt) (fun fp s H => (he fp s H).pe) hclos hsub hhas hjs hin hout hcell hkind hnames hs) fun σ H Q ⟨ρ, fr, h⟩ => ?_
  subst hk
  refine wiq σ H ρ _ fr (hi.mono _ _ _ (fun ds ogs q J H1 S1 gd ok => ?_) h)
  intro D hD
  have fr1 := fr.mono S1
  refine ⟨fun i m acc H2 => m = ds.length - i ∧ i ≤ ds.length ∧ Same H1 H2 ∧ ∃ accD, Reps X.K (fun a => MM F ρ a ∨ a = D) H2 acc accD ∧
    compGo (List.replicate tgs.length .un ++ pickP js ρ) g tt te (ds.drop i) accD (fun r => ∀ x H', Same H H' → RRep X.K (MM F ρ) (Own ρ) H x r H' → Q x H'),
    ⟨ds.length, by simp, Nat.zero_le _, Same.new' hD, [], .nil, by simpa using q⟩, ?_⟩
  rintro i m acc H2 ⟨rfl, hil, S2, accD, ra, q⟩ hDl
  have G2 : Gen X.K (MM F ρ) (fun a => MM F ρ a ∨ a = D) H1 H2 := (Gen.fresh hD).trans (.mono S2)
  have oks := ok i H2 (fun a => MM F ρ a ∨ a = D) (fun b o e => S2 _ _ (prot_some e)) G2 fun p hp => by
    obtain ⟨_, _, _, ow⟩ := fr1.at_own (gd p hp)
    exact ow.gen G2 fun o e => S2 _ _ e
  by_cases hlt : i < ds.length
  · have hd : ds[i]? = some ds[i] := by simp [hlt]
    rw [List.drop_eq_getElem_cons hlt] at q
    obtain ⟨go, yld⟩ := oks.1 _ hd
    refine .inr ⟨go, fun y H3 hy old lo => ?_⟩
    obtain ⟨S3, ry⟩ := yld y H3 hy
    have hD3 := S3 _ _ hDl
    obtain ⟨P, F', fr', iff, iffF⟩ := fr1.block (js := js) (old := old) (S2.trans S3) hD (by rw [hD3]; simp) nd lo
    refine ⟨_, P, F', _, fr', ry.weak fun a z => (iff a).mp z, mg _ _ _ _ (fun ρ1 q1 σ1 f1 a1 => ?_) (ag _ _ _ q)⟩
    obtain ⟨q1, l1, b1⟩ := q1
    have up : ∀ a, MM F ρ a ∨ a = D → MM F' ρ1 a := fun a z => by
      rcases (iff a).mpr z with z | ⟨d, z⟩
      · exact .inl z
      · refine .inr ⟨d, ?_⟩
        obtain ⟨j, e⟩ := List.mem_iff_getElem?.mp z
        have hj : tgs.length ≤ j := by
          by_cases hj : j < tgs.length
          · rw [List.getElem?_append_left (by simpa using hj), List.getElem?_replicate, if_pos hj] at e
            cases e
          · omega
        rw [← b1 j hj] at e
        exact List.mem_of_getElem? e
    have hlen : σ1.length = tgs.length + (pick js σ).length := by
      have := f1.len
      rw [l1] at this
      simp [pick, pickP] at this ⊢
      omega
    refine ⟨⟨σ1.take tgs.length, by rw [List.length_take]; omega, split_at lo hlen a1⟩, P, F', ρ1, f1, mt _ _ _ (fun b q5 H5 S5 => ?_) q1⟩
    have S25 := (S2.trans S3).trans S5
    cases b with
    | true =>
      simp only [if_true] at q5
      refine iteT ⟨P, F', ρ1, f1.mono S5, me _ _ _ (fun r q6 x H6 S6 rx => ?_) q5⟩
      have hD6 := S6 _ _ (S5 _ _ hD3)
      obtain ⟨⟨rf, rl⟩, q6⟩ := q6
      have rep := (rx.rep (fun a z => (f1.mono S5).dom z) rf).weak up
      refine ⟨hD6, by rw [ra.length]; exact lim_lt rl, ds.length - (i + 1), by omega, rfl, hlt, fun b o e => ?_, _, ?_, q6⟩
      · rw [upd_ne (ne_of_none e hD)]
        exact S6 _ _ (S25 _ _ e)
      · have G6 : Gen X.K (fun a => MM F ρ a ∨ a = D) (fun a => MM F ρ a ∨ a = D) H6 (upd H6 D (.lst (acc ++ [x]))) := Gen.write (.inr rfl) (by rw [hD6]; trivial)
        exact ((ra.mono ((S3.trans S5).trans S6)).append (.cons rep .nil)).gen G6
    | false =>
      simp only [Bool.false_eq_true, if_false] at q5
      exact iteF ⟨S5 _ _ hD3, ds.length - (i + 1), by omega, rfl, hlt, S25, accD, ra.mono (S3.trans S5), q5⟩
  · have e : i = ds.length := by omega
    subst e
    rw [List.drop_length] at q
    exact .inl ⟨oks.2 (Nat.le_refl _), q (.ref D) H2 (S1.trans S2) ⟨D, rfl, S1.free hD, acc, hDl, ra⟩⟩
end
def CallD (X : Cx) (f : Value) (p : List Dv → (R → Prop) → Prop) : Prop :=
  (∀ ds (Q Q' : R → Prop), (∀ r, Q r → Q' r) → p ds Q → p ds Q') ∧ ∃ r : List V → Hp → VK → Prop, CallR X f r ∧ ∀ (M : Addr → Prop) (O : Addr → Dv → Prop) (H : Hp) (xs : List V) (ds : List Dv) (Q : VK), CReps X.K M H xs ds →
    p ds (fun rr => ∀ z H', Same H H' → RRep X.K M O H z rr H' → Q z H') → r xs H Q
def eCB (p : List Dv → (R → Prop) → Prop) (ts : TAp) : TEp := fun ρ Q => ts ρ fun rs => p (rs.map R.d) Q
section
variable {X : Cx} {pos p : Pos} {e : Expr} {es : List Expr} {ts : TAp} {x : Str} {id T : String} {pp : List Dv → (R → Prop) → Prop}
theorem eCB_run {r : List V → Hp → VK → Prop} (ha : QA X es ts) (mo : ∀ ds (Q Q' : R → Prop), (∀ r, Q r → Q' r) → pp ds Q → pp ds Q')
    (hr : ∀ (M : Addr → Prop) (O : Addr → Dv → Prop) (H : Hp) (xs : List V) (ds : List Dv) (Q : VK), CReps X.K M H xs ds → pp ds (fun rr => ∀ z H', Same H H' → RRep X.K M O H z rr H' → Q z H') → r xs H Q)
    (H₀ : Hp) (F : Addr → Prop) (σ : St) (H : Hp) (Q : VK) (h : lift X.K H₀ F (eCB pp ts) σ H Q) : tCB r (liftA X.K H₀ F ts) σ H Q := by
  obtain ⟨ρ, fr, h⟩ := h
  refine ha.step fr h fun rs xs H1 q S1 r1 => ?_
  exact hr (MM F ρ) (Own ρ) H1 xs _ Q r1.c (mo _ _ _ (fun rr k z H' S rz => k z H' (S1.trans S) (rz.ahead S1)) q)
theorem q_callB (hc : CallD X (.builtin id) pp) (hg : Gl X x) (hm : X.mg x = none) (hv : bootBuiltins x = some (.builtin id)) (ha : QA X (e :: es) ts) (hn : x ≠ "__name__" := by decide) (hdb : (x == ("__debug__" : Str)) = false := by decide)
    (he : starEach (e :: es) X.env = (false, eval e X.env) :: starEach es X.env := by rfl) (hpl : (backTo pos (starEach es X.env)).any (·.1) = false := by rfl) : QE X (.Call (.Name x p) (e :: es) [] pos) (eCB pp ts) := by
  obtain ⟨mo, r, hR, hr⟩ := hc
  exact ⟨fun ρ Q Q' w q => ha.mono _ _ _ (fun rs q => mo _ _ _ w q) q, fun H₀ F => PE_imp (pe_callB hR hg hm hv (ha.run H₀ F) hn hdb he hpl) (eCB_run ha mo hr H₀ F)⟩
theorem q_callTy (hc : CallD X (.type T) pp) (hg : Gl X x) (hm : X.mg x = none) (hv : bootBuiltins x = some (.type T)) (ha : QA X (e :: es) ts) (hn : x ≠ "__name__" := by decide) (hdb : (x == ("__debug__" : Str)) = false := by decide)
    (he : starEach (e :: es) X.env = (false, eval e X.env) :: starEach es X.env := by rfl) (hpl : (backTo pos (starEach es X.env)).any (·.1) = false := by rfl) : QE X (.Call (.Name x p) (e :: es) [] pos) (eCB pp ts) := by
  obtain ⟨mo, r, hR, hr⟩ := hc
  exact ⟨fun ρ Q Q' w q => ha.mono _ _ _ (fun rs q => mo _ _ _ w q) q, fun H₀ F => PE_imp (pe_callTy hR hg hm hv (ha.run H₀ F) hn hdb he hpl) (eCB_run ha mo hr H₀ F)⟩
def pLen : List Dv → (R → Prop) → Prop
  | [.lst xs], Q => Q (.v (.int xs.length))
  | [.tup xs], Q => Q (.v (.int xs.length))
  | [.scr ns], Q => Q (.v (.int ns.length))
  | [.str y], Q => y.length ≤ LIM ∧ Q (.v (.int y.length))
  | [.dik kvs], Q => Q (.v (.int kvs.length))
  | _, _ => False
theorem RepK.length {K : PySem.W.Frag} {M : Addr → Prop} {H : Hp} {xs : List (Key × V)} {ds : List (Key × Dv)} (r : RepK K M H xs ds) : xs.length = ds.length := r.ind (P := fun xs ds => xs.length = ds.length) rfl fun _ _ _ _ _ _ _ ih => congrArg (· + 1) ih
theorem cd_len : CallD X (.builtin "len") pLen := by
  refine ⟨fun ds Q Q' w h => ?_, _, call_len_seq.or (call_len_str.or call_lenD), fun M O H xs ds Q c h => ?_⟩
  · unfold pLen at *
    split at h <;> first | exact w _ h | exact ⟨h.1, w _ h.2⟩ | exact h
  · unfold pLen at h
    split at h
    · obtain ⟨x, rfl, cx⟩ := creps1 c
      obtain ⟨a, ys, rfl, ea, ra⟩ := cx.lst
      refine .inl ⟨a, ys, rfl, .inl (SqL.of ea), ?_⟩
      rw [ra.length]
      exact h _ H (Same.refl _) (Rep.int _)
    · obtain ⟨x, rfl, cx⟩ := creps1 c
      obtain ⟨a, ys, rfl, ea, ra⟩ := cx.tup
      refine .inl ⟨a, ys, rfl, .inr (SqT.of ea), ?_⟩
      rw [ra.length]
      exact h _ H (Same.refl _) (Rep.int _)
    · obtain ⟨x, rfl, cx⟩ := creps1 c
      obtain ⟨a, rfl, ea⟩ := cx.scr
      refine .inl ⟨a, _, rfl, .inl ea.sq, ?_⟩
      rw [List.length_map]
      exact h _ H (Same.refl _) (Rep.int _)
    · obtain ⟨x, rfl, cx⟩ := creps1 c
      obtain rfl := cx.str
      exact .inr (.inl ⟨_, rfl, lim_line h.1, h.2 _ H (Same.refl _) (Rep.int _)⟩)
    · obtain ⟨x, rfl, cx⟩ := creps1 c
      obtain ⟨a, ys, rfl, ea, ra⟩ := cx.dik
      refine .inr (.inr ⟨a, ys, rfl, ea, ?_⟩)
      rw [ra.length]
      exact h _ H (Same.refl _) (Rep.int _)
    · exact h.elim
def pAbs : List Dv → (R → Prop) → Prop
  | [.int i], Q => Q (.v (.int (if i < 0 then -i else i)))
  | _, _ => False
def pMin2 : List Dv → (R → Prop) → Prop
  | [.int i, .int j], Q => Q (.v (.int (if j < i then j else i)))
  | _, _ => False
def pMax2 : List Dv → (R → Prop) → Prop
  | [.int i, .int j], Q => Q (.v (.int (if j > i then j else i)))
  | _, _ => False
theorem cd_min2 (hc : X.calm = true) : CallD X (.builtin "min") pMin2 := by
  refine ⟨fun ds Q Q' w h => ?_, _, call_min2 hc, fun M O H xs ds Q c h => ?_⟩
  · unfold pMin2 at *
    split at h <;> first | exact w _ h | exact h
  · unfold pMin2 at h
    split at h
    · obtain ⟨x, y, rfl, cx, cy⟩ := creps2 c
      obtain rfl := cx.int
      obtain rfl := cy.int
      exact ⟨_, _, rfl, h _ H (Same.refl _) (Rep.int _)⟩
    · exact h.elim
def pSum : List Dv → (R → Prop) → Prop
  | [.lst ds], Q => ∃ ns : List Int, ds = ns.map .int ∧ Q (.v (.int ns.sum))
  | _, _ => False
def pAll : List Dv → (R → Prop) → Prop
  | [.lst ds], Q => ∃ bs : List Bool, ds = bs.map .bl ∧ Q (.v (.bl (bs.all _root_.id)))
  | _, _ => False
theorem Reps.of_bls {K : PySem.W.Frag} {M : Addr → Prop} {H : Hp} : ∀ {xs : List V} {ns : List Bool}, Reps K M H xs (ns.map .bl) → xs = ns.map V.bl
  | _, [], .nil => rfl
  | _, n :: r, .cons a t => by cases a; rw [Reps.of_bls t]; rfl
theorem cd_all (hc : X.calm = true) : CallD X (.builtin "all") pAll := by
  refine ⟨fun ds Q Q' w h => ?_, _, call_allL hc, fun M O H xs ds Q c h => ?_⟩
  · unfold pAll at *
    split at h
    · obtain ⟨ns, e, h⟩ := h; exact ⟨ns, e, w _ h⟩
    · exact h
  · unfold pAll at h
    split at h
    · obtain ⟨ns, rfl, h⟩ := h
      obtain ⟨x, rfl, cx⟩ := creps1 c
      obtain ⟨a, ys, rfl, ea, ra⟩ := cx.lst
      obtain rfl := ra.of_bls
      exact ⟨a, ns, rfl, SqL.of ea, h _ H (Same.refl _) (Rep.bl _)⟩
    · exact h.elim
def pList : List Dv → (R → Prop) → Prop
  | [.lst ds], Q => Q (.nw (.lst ds))
  | [.tup ds], Q => Q (.nw (.lst ds))
  | [.scr ns], Q => Q (.nw (.lst (ns.map .int)))
  | _, _ => False
def pTuple : List Dv → (R → Prop) → Prop
  | [.lst ds], Q => Q (.v (.tup ds))
  | [.tup ds], Q => Q (.v (.tup ds))
  | _, _ => False
def tyD : Dv → String
  | .non => "NoneType"
  | .bl _ => "bool"
  | .int _ => "int"
  | .str _ => "str"
  | .tup _ => "tuple"
  | .lst _ => "list"
  | .scr _ => "list"
  | .dik _ => "dict"
  | .dit _ => "dict"
  | .obj _ _ => ""
  | .exc _ => ""
def isiD (T : String) (d : Dv) : Bool := tyD d == T || (T == "int" && tyD d == "bool")
def tyOk : Dv → Bool
  | .obj _ _ => false
  | .exc _ => false
  | .scr _ => false
  | _ => true
def eIsi (T : String) (te : TEp) : TEp := fun ρ Q => te ρ fun r => tyOk r.d = true ∧ Q (.v (.bl (isiD T r.d)))
theorem kit_all {K : PySem.W.Frag} {T : String} (hT : T = "int" ∨ T = "bool" ∨ T = "tuple" ∨ T = "list" ∨ T = "str") (d : Dv) (ho : tyOk d = true) : PySem.W.kitOne K (.type (tyD d)) (.type T) = some (isiD T d) := by
  rcases hT with rfl | rfl | rfl | rfl | rfl <;> cases d <;> first | (simp [tyOk] at ho; done) | with_unfolding_all rfl
theorem CRep.ty {K : PySem.W.Frag} {M : Addr → Prop} {H : Hp} {x : V} {d : Dv} (c : CRep K M H x d) (ho : tyOk d = true) : TyOf K H x (.type (tyD d)) := by
  cases d with
  | non => obtain rfl := c.non; exact .non
  | bl b => obtain rfl := c.bl; exact .bl b
  | int i => obtain rfl := c.int; exact .int i
  | str y => obtain rfl := c.str; exact .str y
  | tup ds => obtain ⟨a, xs, rfl, e, _⟩ := c.tup; exact .tup e
  | lst ds => obtain ⟨a, xs, rfl, e, _⟩ := c.lst; exact .lst e
  | dik ds => obtain ⟨a, xs, rfl, e, _⟩ := c.dik; exact .dK e
  | dit ds => obtain ⟨a, xs, rfl, e, _⟩ := c.dit; exact .dT e
  | obj C fs => simp [tyOk] at ho
  | scr ns => simp [tyOk] at ho
  | exc C => simp [tyOk] at ho
theorem q_isi {te : TEp} {p2 : Pos} (hT : T = "int" ∨ T = "bool" ∨ T = "tuple" ∨ T = "list" ∨ T = "str") (hg : Gl X "isinstance") (hm : X.mg "isinstance" = none) (ha : QE X e te) (hty : PE X (.Name x p2) (tC (.ty T)))
    (he : starEach [e, .Name x p2] X.env = (false, eval e X.env) :: starEach [.Name x p2] X.env := by rfl) (he2 : starEach [Expr.Name x p2] X.env = (false, eval (.Name x p2) X.env) :: starEach [] X.env := by rfl) (hpl : (backTo pos (starEach [.Name x p2] X.env)).any (·.1) = false := by rfl) :
    QE X (.Call (.Name "isinstance" p) [e, .Name x p2] [] pos) (eIsi T te) := by
  refine ⟨fun ρ Q Q' w q => ha.mono _ _ _ (fun r q => ⟨q.1, w _ q.2⟩) q, fun H₀ F => PE_imp (pe_callB call_isi hg hm boot_isinstance (pa_cons (ha.run H₀ F) (pa_cons hty pa_nil he2) he) (by decide) (by decide) he hpl) fun σ H Q ⟨ρ, fr, h⟩ => ?_⟩
  refine ha.step fr h fun r x H1 q S1 r1 => ?_
  exact ⟨x, T, _, _, rfl, r1.c.ty q.1, kit_all hT _ q.1, q.2 _ H1 S1 (Rep.bl _)⟩
end
end Z
namespace Z
open PySem PySem.Spec PyProof.Rows L2
def kD : Key → Dv
  | .inl i => .int i
  | .inr x => .str x
def pIx : Dv → Dv → (R → Prop) → Prop
  | .lst xs, .int i, Q => match atI xs i with
    | some d => Q (.v d)
    | none => False
  | .tup xs, .int i, Q => match atI xs i with
    | some d => Q (.v d)
    | none => False
  | .scr ns, .int i, Q => match atI ns i with
    | some n => Q (.v (.int n))
    | none => False
  | .str z, .int i, Q => z.length ≤ LIM ∧ match atI z.cps.toList i with
    | some c => Q (.v (.str ⟨#[c]⟩))
    | none => False
  | .dik kvs, .int i, Q => match kvs.find? (fun kv => decide (kv.1 = Sum.inl i)) with
    | some kv => Q (.v kv.2)
    | none => False
  | .dik kvs, .str x, Q => match kvs.find? (fun kv => decide (kv.1 = Sum.inr x)) with
    | some kv => Q (.v kv.2)
    | none => False
  | .dit kvs, .tup ds, Q => ∃ k : List Key, ds = k.map kD ∧ match kvs.find? (fun kv => decide (kv.1 = k)) with
    | some kv => Q (.v kv.2)
    | none => False
  | _, _, _ => False
section
variable {X : Cx} {a b e : Expr} {ta tb te : TEp} {pos : Pos}
theorem Reps.at {K : PySem.W.Frag} {M : Addr → Prop} {H : Hp} {xs : List V} {ds : List Dv} {i : Int} {d : Dv} (r : Reps K M H xs ds) (h : atI ds i = some d) : ∃ x, atI xs i = some x ∧ Rep K M H x d := by
  unfold atI at *
  rw [r.length]
  cases e : ixN ds.length i with
  | none => rw [e] at h; cases h
  | some j =>
    rw [e] at h
    obtain ⟨x, hx, rx⟩ := r.get (i := j) h
    exact ⟨x, hx, rx⟩
theorem atI_map {α β : Type} {f : α → β} {l : List α} {i : Int} : atI (l.map f) i = (atI l i).map f := by
  unfold atI
  rw [List.length_map]
  cases ixN l.length i with
  | none => rfl
  | some j => simp
theorem RepK.val {K : PySem.W.Frag} {M : Addr → Prop} {H : Hp} {k : Key} {xs : List (Key × V)} {ds : List (Key × Dv)} (r : RepK K M H xs ds) : (∀ kv, ds.find? (fun kv => decide (kv.1 = k)) = some kv → ∃ x, valV xs k = some x ∧ Rep K M H x kv.2) ∧ (ds.find? (fun kv => decide (kv.1 = k)) = none → valV xs k = none) :=
  r.ind (P := fun xs ds => (∀ kv, ds.find? (fun kv => decide (kv.1 = k)) = some kv → ∃ x, valV xs k = some x ∧ Rep K M H x kv.2) ∧ (ds.find? (fun kv => decide (kv.1 = k)) = none → valV xs k = none)) ⟨fun _ h => (by cases h), fun _ => rfl⟩ fun k' x d xs ds a _ ih => by
    by_cases e : k' = k
    · rw [List.find?_cons_of_pos (by simpa using e), valV_pos e]
      exact ⟨fun kv h => by cases h; exact ⟨x, rfl, a⟩, fun h => by cases h⟩
    · rw [List.find?_cons_of_neg (by simpa using e), valV_neg e]
      exact ih
theorem RepT.val {K : PySem.W.Frag} {M : Addr → Prop} {H : Hp} {k : List Key} {xs : List (List Key × V)} {ds : List (List Key × Dv)} (r : RepT K M H xs ds) : (∀ kv, ds.find? (fun kv => decide (kv.1 = k)) = some kv → ∃ x, valV xs k = some x ∧ Rep K M H x kv.2) ∧ (ds.find? (fun kv => decide (kv.1 = k)) = none → valV xs k = none) :=
  r.ind (P := fun xs ds => (∀ kv, ds.find? (fun kv => decide (kv.1 = k)) = some kv → ∃ x, valV xs k = some x ∧ Rep K M H x kv.2) ∧ (ds.find? (fun kv => decide (kv.1 = k)) = none → valV xs k = none)) ⟨fun _ h => (by cases h), fun _ => rfl⟩ fun k' x d xs ds a _ ih => by
    by_cases e : k' = k
    · rw [List.find?_cons_of_pos (by simpa using e), valV_pos e]
      exact ⟨fun kv h => by cases h; exact ⟨x, rfl, a⟩, fun h => by cases h⟩
    · rw [List.find?_cons_of_neg (by simpa using e), valV_neg e]
      exact ih
theorem Reps.keys {K : PySem.W.Frag} {M : Addr → Prop} {H : Hp} : ∀ {xs : List V} {k : List Key}, Reps K M H xs (k.map kD) → xs = k.map kV
  | _, [], .nil => rfl
  | _, .inl i :: r, .cons a t => by cases a; rw [Reps.keys t]; rfl
  | _, .inr x :: r, .cons a t => by cases a; rw [Reps.keys t]; rfl
def rIxD : R2 := fun x y H Q => ∃ a v, x = .ref a ∧ DGet H a y (some v) ∧ Q v H
theorem ix_dict (hu : X.A.units + 1 < cLine) : IxR X rIxD := by
  intro value slice pins s σ H x y v u Q I rx ry h hs
  obtain ⟨a, z, rfl, g, q⟩ := h
  cases rx
  have hT := dict_typeIs I g
  unfold subscriptTail
  refine wpAny_bind ?_
  rw [getitemInPython_of_ne hT.not_modules]
  refine wpAny_bind (wpAny_specialOf hT PySem.F.slot_dict_getitem.lookup ?_)
  have fin : wpAny (model X.prog X.w) X.A (subscripted slice false (.ref a) u) (fun r s₃ => wpAny (model X.prog X.w) X.A (letTemporaryGo value (.ref a) r >>= fun _ => pure r) (EP X pins σ Q) X.xe s₃) X.xe s := by
    rw [hs]
    exact wpAny_operating (wpAny_mono (d_getItem hu I g ry fun w' s' I' rw' => show EP X pins σ Q w' s' from ⟨z, H, I', rw', q⟩) (fun r s₃ h₃ => wpAny_bind (wpAny_letTemporaryGo (wpAny_pure h₃))) fun _ _ x => x)
  first
    | exact wpAny_pure (wpAny_bind fin)
    | exact wpAny_bind (wpAny_pure (wpAny_bind fin))
    | exact wpAny_bind fin
theorem pIx_mono : ∀ dx dy (Q Q' : R → Prop), (∀ r, Q r → Q' r) → pIx dx dy Q → pIx dx dy Q' := by
  intro dx dy Q Q' w h
  unfold pIx at *
  split at h
  · split at h
    · exact w _ h
    · exact h
  · split at h
    · exact w _ h
    · exact h
  · split at h
    · exact w _ h
    · exact h
  · refine ⟨h.1, ?_⟩
    have h2 := h.2
    split at h2
    · exact w _ h2
    · exact h2
  · split at h
    · exact w _ h
    · exact h
  · split at h
    · exact w _ h
    · exact h
  · obtain ⟨k, e, h⟩ := h
    refine ⟨k, e, ?_⟩
    split at h
    · exact w _ h
    · exact h
  · exact h
theorem q_ix (hu : X.A.units + 1 < cLine) (ha : QE X a ta) (hb : QE X b tb) (hs : PlainIx b := by intro _ _; rfl) : QE X (.Subscript a b pos) (eOp pIx ta tb) := by
  refine ⟨eOp_mono ha hb pIx_mono, fun H₀ F => PE_imp (pe_ix (ix_seq.or (ix_dict hu)) (ha.run H₀ F) (hb.run H₀ F) hs) (eOp_run ha hb (fun M O H x y dx dy Q cx cy h => ?_) pIx_mono H₀ F)⟩
  unfold pIx at h
  split at h
  · rename_i xs i
    split at h
    · rename_i d hd
      obtain ⟨p, vs, rfl, ea, ra⟩ := cx.lst
      obtain rfl := cy.int
      obtain ⟨z, hz, rz⟩ := ra.at hd
      exact .inl (.inl ⟨p, vs, i, z, rfl, rfl, SqL.of ea, hz, h _ H (Same.refl _) rz⟩)
    · exact h.elim
  · rename_i xs i
    split at h
    · rename_i d hd
      obtain ⟨p, vs, rfl, ea, ra⟩ := cx.tup
      obtain rfl := cy.int
      obtain ⟨z, hz, rz⟩ := ra.at hd
      exact .inl (.inr (.inl ⟨p, vs, i, z, rfl, rfl, SqT.of ea, hz, h _ H (Same.refl _) rz⟩))
    · exact h.elim
  · rename_i ns i
    split at h
    · rename_i n hn
      obtain ⟨p, rfl, ea⟩ := cx.scr
      obtain rfl := cy.int
      refine .inl (.inl ⟨p, _, i, .int n, rfl, rfl, ea.sq, ?_, h _ H (Same.refl _) (Rep.int _)⟩)
      rw [atI_map, hn]
      rfl
    · exact h.elim
  · rename_i z i
    obtain ⟨hl, h⟩ := h
    split at h
    · rename_i c hc
      obtain rfl := cx.str
      obtain rfl := cy.int
      exact .inl (.inr (.inr ⟨z, i, c, rfl, rfl, lim_line hl, hc, h _ H (Same.refl _) (Rep.str _)⟩))
    · exact h.elim
  · split at h
    · rename_i kv hk
      obtain ⟨p, kvs, rfl, ea, ra⟩ := cx.dik
      obtain rfl := cy.int
      obtain ⟨z, hz, rz⟩ := ra.val.1 kv hk
      exact .inr ⟨p, z, rfl, by rw [← hz]; exact DGet.k (k := Sum.inl _) ea, h _ H (Same.refl _) rz⟩
    · exact h.elim
  · split at h
    · rename_i kv hk
      obtain ⟨p, kvs, rfl, ea, ra⟩ := cx.dik
      obtain rfl := cy.str
      obtain ⟨z, hz, rz⟩ := ra.val.1 kv hk
      exact .inr ⟨p, z, rfl, by rw [← hz]; exact DGet.k (k := Sum.inr _) ea, h _ H (Same.refl _) rz⟩
    · exact h.elim
  · obtain ⟨k, rfl, h⟩ := h
    split at h
    · rename_i kv hk
      obtain ⟨p, kvs, rfl, ea, ra⟩ := cx.dit
      obtain ⟨b, ys, rfl, eb, rb⟩ := cy.tup
      obtain rfl := rb.keys
      obtain ⟨z, hz, rz⟩ := ra.val.1 kv hk
      exact .inr ⟨p, z, rfl, by rw [← hz]; exact DGet.t ea eb, h _ H (Same.refl _) rz⟩
    · exact h.elim
  · exact h.elim
abbrev TOp := List Sl → (Option Int → Prop) → Prop
structure QO (X : Cx) (e : Option Expr) (t : TOp) : Prop where
  mono : ∀ (ρ : List Sl) (Q Q' : Option Int → Prop), (∀ r, Q r → Q' r) → t ρ Q → t ρ Q'
  run : ∀ (H₀ : Hp) (F : Addr → Prop), PO X e (fun σ H Q => ∃ ρ, Fr X.K H₀ F σ H ρ ∧ t ρ fun o => ∀ H', Same H H' → Q o H')
def eNoPart : TOp := fun _ Q => Q none
def ePart (te : TEp) : TOp := fun ρ Q => te ρ fun r => match r.d with
  | .int i => Q (some i)
  | _ => False
theorem PO_imp {e : Option Expr} {t t' : TO} (h : PO X e t) (w : ∀ σ H Q, t' σ H Q → t σ H Q) : PO X e t' := fun pins s σ H Q I q => h pins s σ H Q I (w σ H Q q)
theorem qo_none : QO X none eNoPart := ⟨fun _ _ _ w q => w _ q, fun H₀ F => PO_imp po_none fun σ H Q ⟨ρ, fr, q⟩ => q H (Same.refl _)⟩
theorem qo_some (h : QE X e te) : QO X (some e) (ePart te) := by
  refine ⟨fun ρ Q Q' w q => h.mono _ _ _ (fun r q => ?_) q, fun H₀ F => PO_imp (po_some (h.run H₀ F)) fun σ H Q ⟨ρ, fr, q⟩ => ?_⟩
  · split at q
    · exact w _ q
    · exact q
  · refine h.step fr q fun r x H1 q S1 r1 => ?_
    split at q
    · rename_i i e
      have c := r1.c
      rw [e] at c
      exact ⟨i, c.int, q H1 S1⟩
    · exact q.elim
def cut {α : Type} (xs : List α) (lo hi : Option Int) : List α := (xs.drop (HT.sIx xs.length 0 lo)).take (HT.sIx xs.length xs.length hi - HT.sIx xs.length 0 lo)
def pSl : Dv → Option Int → Option Int → (R → Prop) → Prop
  | .lst xs, lo, hi, Q => Q (.nw (.lst (cut xs lo hi)))
  | .scr ns, lo, hi, Q => Q (.nw (.lst ((cut ns lo hi).map .int)))
  | .tup xs, lo, hi, Q => ¬ (HT.sIx xs.length 0 lo = 0 ∧ HT.sIx xs.length xs.length hi = xs.length) ∧ Q (.v (.tup (cut xs lo hi)))
  | _, _, _, _ => False
def eSl (te : TEp) (tl th : TOp) : TEp := fun ρ Q => te ρ fun r => tl ρ fun lo => th ρ fun hi => pSl r.d lo hi Q
end
end Z
namespace Z
open PySem PySem.Spec PyProof.Rows L2
section
variable {X : Cx} {a b c e : Expr} {ta tb tc te : TEp} {pos : Pos}
theorem q_chain {op op' : CmpOp} {f f' : Int → Int → Bool} (ho : OpR X (compareOp op) (rI0 fun i j => .bl (f i j))) (ho' : OpR X (compareOp op') (rI0 fun i j => .bl (f' i j))) (ha : QE X a ta) (hb : QE X b tb) (hc : QE X c tc)
    (hm : lastMarks [op, op'] [b, c] = false := by with_unfolding_all rfl) : QE X (.Compare a [op, op'] [b, c] pos) (eChain (pI2 f) (pI2 f') ta tb tc) := by
  refine ⟨fun ρ Q Q' w q => ha.mono _ _ _ (fun rx q => hb.mono _ _ _ (fun ry q => pI2_mono _ _ _ _ (fun z q => ?_) q) q) q, fun H₀ F => PE_imp (pe_chain ho ho' (ha.run H₀ F) (hb.run H₀ F) (hc.run H₀ F) hm) fun σ H Q ⟨ρ, fr, q⟩ => ?_⟩
  · split at q
    · split at q
      · rw [if_pos ‹_›]; exact hc.mono _ _ _ (fun w' q => pI2_mono _ _ _ _ w q) q
      · rw [if_neg ‹_›]; exact w _ q
    · exact q
  · refine ha.step fr q fun rx x H1 q1 S1 r1 => ?_
    refine hb.step (fr.mono S1) q1 fun ry y H2 q2 S2 r2 => ?_
    have cx := (r1.mono S2).c
    have cy := r2.c
    generalize rx.d = dx at q2 cx
    generalize ry.d = dy at q2 cy
    unfold pI2 at q2
    split at q2
    · rename_i Q2 i j
      obtain rfl := cx.int
      obtain rfl := cy.int
      refine ⟨_, _, rfl, rfl, f i j, rfl, ?_⟩
      have S12 := S1.trans S2
      replace q2 := (show (if f i j = true then tc ρ (fun w => pI2 f' (.int j) w.d (fun r => ∀ x H', Same H H' → RRep X.K (MM F ρ) (Z.Own ρ) H x r H' → Q x H')) else (∀ x H', Same H H' → RRep X.K (MM F ρ) (Z.Own ρ) H x (.v (.bl false)) H' → Q x H')) from q2)
      cases h : f i j with
      | true =>
        rw [h] at q2
        simp only [if_true] at q2
        refine iteT (hc.step ((fr.mono S1).mono S2) q2 fun rw' z H3 q3 S3 r3 => ?_)
        have cz := r3.c
        generalize rw'.d = dz at q3 cz
        cases dz with
        | int l =>
          obtain rfl := cz.int
          exact ⟨_, _, rfl, rfl, q3 _ H3 (S12.trans S3) (Rep.bl _)⟩
        | _ => exact (show False from q3).elim
      | false =>
        rw [h] at q2
        simp only [Bool.false_eq_true, if_false] at q2
        exact iteF (q2 _ H2 S12 (Rep.bl _))
    · exact q2.elim
def truD : Dv → Option Bool
  | .non => some false
  | .bl b => some b
  | .int i => some (i != 0)
  | .lst xs => some (!xs.isEmpty)
  | .tup xs => some (!xs.isEmpty)
  | .dik xs => some (!xs.isEmpty)
  | .scr xs => some (!xs.isEmpty)
  | _ => none
def eTru (te : TEp) : TTp := fun ρ Q => te ρ fun r => match truD r.d with
  | some k => Q k
  | none => False
theorem Reps.empty {K : PySem.W.Frag} {M : Addr → Prop} {H : Hp} {xs : List V} {ds : List Dv} (r : Reps K M H xs ds) : xs.isEmpty = ds.isEmpty := by cases r <;> rfl
theorem qt_tru (h : QE X e te) (he : ∀ whole, isTrue e X.env whole = (do let v ← whole; standAt e.pos; holding [v] (truthy v)) := by intro _; rfl) : QT X e (eTru te) := by
  refine ⟨fun ρ Q Q' w q => h.mono _ _ _ (fun r q => ?_) q, fun H₀ F => PT_imp (pt_truth (h.run H₀ F) he) fun σ H Q ⟨ρ, fr, q⟩ => ?_⟩
  · split at q
    · exact w _ q
    · exact q
  · refine h.step fr q fun r x H1 q S1 r1 => ?_
    have cx := r1.c
    generalize r.d = d at q cx
    split at q
    · rename_i k hk
      refine ⟨k, ?_, q H1 S1⟩
      cases d with
      | non => obtain rfl := cx.non; simp only [truD, Option.some.injEq] at hk; subst hk; rfl
      | bl b => obtain rfl := cx.bl; simp only [truD, Option.some.injEq] at hk; exact hk.symm
      | int i => obtain rfl := cx.int; simp only [truD, Option.some.injEq] at hk; exact hk.symm
      | lst ds =>
        obtain ⟨a, xs, rfl, ea, ra⟩ := cx.lst
        simp only [truD, Option.some.injEq] at hk
        exact .inl ⟨xs, SqL.of ea, by rw [ra.empty]; exact hk.symm⟩
      | tup ds =>
        obtain ⟨a, xs, rfl, ea, ra⟩ := cx.tup
        simp only [truD, Option.some.injEq] at hk
        exact .inr (.inl ⟨xs, SqT.of ea, by rw [ra.empty]; exact hk.symm⟩)
      | dik ds =>
        obtain ⟨a, xs, rfl, ea, ra⟩ := cx.dik
        simp only [truD, Option.some.injEq] at hk
        exact .inr (.inr ⟨xs, ea, by rw [← hk]; cases ra <;> rfl⟩)
      | scr ns =>
        obtain ⟨a, rfl, ea⟩ := cx.scr
        simp only [truD, Option.some.injEq] at hk
        exact .inl ⟨_, ea.sq, by rw [← hk]; cases ns <;> rfl⟩
      | _ => simp [truD] at hk
    · exact q.elim
end
abbrev Fn := List Dv → (R → Prop) → Prop
inductive low (K : PySem.W.Frag) (sp : Fn) (vs : List V) (H : Hp) (Q : VK) (E : XK) : Prop
  | mk (F : Addr → Prop) (ds : List Dv) (hF : ∀ a, F a → H a ≠ none) (r : Reps K F H vs ds) (q : sp ds (fun r => ∀ x H', Same H H' → RRep K F NoOwn H x r H' → Q x H'))
structure MonoF (sp : Fn) : Prop where
  mo : ∀ ds (Q Q' : R → Prop), (∀ r, Q r → Q' r) → sp ds Q → sp ds Q'
structure Def (P : Program) (w : World) (K : PySem.W.Frag) (mg : Str → Option Value) (base : Heap) (k : Nat) (x : Str) (ps : List Str) (sp : Sp) : Prop where
  ex : ∃ f fd, mg x = some (.ref f) ∧ PySem.W.keepIn K (.ref f) = true ∧ Binds K fd ps [] ∧ FnOk P w K mg base CX0 k f fd ps sp
structure At (K : PySem.W.Frag) (mg : Str → Option Value) (x nm : Str) (st : Stmt) (ps : List Str) : Prop where
  ex : ∃ f fd, mg x = some (.ref f) ∧ Fun K nm nm st f fd ∧ Binds K fd ps []
theorem At.ok {P : Program} {w : World} {K : PySem.W.Frag} {mg : Str → Option Value} {base : Heap} {k : Nat} {x nm : Str} {st : Stmt} {ps N : List Str} {sp : Sp} (a : At K mg x nm st ps) (S : FnScope N ps (defScope st)) (len : ∀ vs H Q E, sp vs H Q E → vs.length = ps.length)
    (hbody : ∀ (f : Addr) (cdv : Value) (A : Around) (outer : List Env) (s : Shared) (H : Hp) (vs : List V) (Q : VK) (E : XK), Room k (A.deeper (envOfC nm (defScope st) s.heap.objs.size f cdv)) → sp vs H Q E →
      ∃ t, PSs (cxOf CX0 P w K mg base N nm (defScope st) f cdv A outer s H E).nox (defBody st) t ∧ t { nx := fun _ H' => Q .non H', rt := Q } (start N vs) H) : Def P w K mg base (k + 1) x ps sp := by
  obtain ⟨f, fd, hm, F, hb⟩ := a.ex
  exact ⟨f, fd, hm, F.kp, hb, F.ok S len (hbody f)⟩
def startP (N : List Str) (ds : List Dv) : List Sl := ds.map .v ++ List.replicate (N.length - ds.length) .un
theorem start_fr {K : PySem.W.Frag} {F : Addr → Prop} {H : Hp} {N : List Str} {vs : List V} {ds : List Dv} (hF : ∀ a, F a → H a ≠ none) (r : Reps K F H vs ds) : Fr K H F (start N vs) H (startP N ds) := by
  have no : ∀ {a : Addr} {d : Dv}, Sl.own a d ∈ startP N ds → False := fun {a d} h => by
    rcases List.mem_append.mp h with h | h
    · obtain ⟨z, _, e⟩ := List.mem_map.mp h
      cases e
    · cases List.eq_of_mem_replicate h
  have wk : ∀ a, MM F (startP N ds) a → F a := fun a h => by
    rcases h with h | ⟨d, h⟩
    · exact h
    · exact (no h).elim
  have hl := r.length
  refine ⟨by simp [L2.start, startP, hl], fun i s e => ?_, fun i j a d d' e _ => (no (List.mem_of_getElem? e)).elim, fun a d h => (no h).elim, Same.refl _, hF⟩
  unfold startP at e
  by_cases hi : i < ds.length
  · rw [List.getElem?_append_left (by simpa using hi), List.getElem?_map] at e
    cases q : ds[i]? with
    | none => rw [q] at e; cases e
    | some d =>
      rw [q] at e
      cases e
      obtain ⟨x, hx, rx⟩ := r.get q
      refine ⟨x, ?_, rx.weak wk⟩
      unfold L2.start
      rw [List.getElem?_append_left (by simpa using (List.getElem?_eq_some_iff.mp hx).1), List.getElem?_map, hx]
      rfl
  · rw [List.getElem?_append_right (by simpa using Nat.le_of_not_lt hi)] at e
    have := List.mem_of_getElem? e
    cases List.eq_of_mem_replicate this
    trivial
theorem body_ok {X : Cx} {sts : List Stmt} {t : TSp} {N : List Str} {H : Hp} {vs : List V} {Q : VK} {E : XK} {sp : Fn} (h : QSs X sts t) (hsp : ∀ ds Q, sp ds Q → t { nx := fun _ => Q (.v .non), rt := Q } (startP N ds)) (q : low X.K sp vs H Q E) :
    ∃ t', PSs X sts t' ∧ t' { nx := fun _ H' => Q .non H', rt := Q } (start N vs) H := by
  obtain ⟨F, ds, hF, r, q⟩ := q
  exact ⟨_, h.run H F, startP N ds, _, start_fr hF r, hsp ds _ q, fun ρ σ H' fr q => q .non H' fr.same Rep.non, fun _ _ _ _ z => z.elim, fun _ _ _ _ z => z.elim, fun rr x H' S rx q => q x H' S rx⟩
theorem low_len {K : PySem.W.Frag} {sp : Fn} {n : Nat} (h : ∀ ds Q, sp ds Q → ds.length = n) : ∀ vs H Q E, low K sp vs H Q E → vs.length = n := fun vs H Q E ⟨F, ds, _, r, q⟩ => by rw [r.length]; exact h _ _ q
theorem At.okP {P : Program} {w : World} {K : PySem.W.Frag} {mg : Str → Option Value} {base : Heap} {k : Nat} {x nm : Str} {st : Stmt} {ps N : List Str} {sp : Fn} {t : TSp} (a : At K mg x nm st ps) (S : FnScope N ps (defScope st))
    (hq : ∀ (f : Addr) (cdv : Value) (A : Around) (outer : List Env) (s : Shared) (H : Hp) (E : XK), Room k (A.deeper (envOfC nm (defScope st) s.heap.objs.size f cdv)) → QSs (cxOf CX0 P w K mg base N nm (defScope st) f cdv A outer s H E).nox (defBody st) t)
    (len : ∀ ds Q, sp ds Q → ds.length = ps.length) (hsp : ∀ ds Q, sp ds Q → t { nx := fun _ => Q (.v .non), rt := Q } (startP N ds)) : Def P w K mg base (k + 1) x ps (low K sp) :=
  a.ok S (low_len len) fun f cdv A outer s H vs Q E hr q => body_ok (hq f cdv A outer s H E hr) hsp q
def R.flat : R → Bool
  | .v d => flatD d
  | .nw d => flatO d
  | .ow _ _ => false
def back (rs : List R) (Q : R → Prop) : R → Prop := fun r => (rs.all R.free = true ∨ r.flat = true) ∧ Q r
def eCall (sp : Fn) (ts : TAp) : TEp := fun ρ Q => ts ρ fun rs => sp (rs.map R.d) (back rs Q)
section
variable {K : PySem.W.Frag} {H₀ H H1 : Hp} {F : Addr → Prop} {σ : St} {ρ : List Sl}
def lent (M : Addr → Prop) (rs : List R) : Addr → Prop := fun a => M a ∧ ∀ d, R.ow a d ∉ rs
theorem lent_reps (fr : Fr K H₀ F σ H ρ) {all : List R} : ∀ {xs : List V} {rs : List R}, (∀ r ∈ rs, r ∈ all) → Paired (fun x r => RRep K (MM F ρ) (Z.Own ρ) H x r H1) xs rs → Reps K (lent (MM F ρ) all) H1 xs (rs.map R.d)
  | _, _, _, .nil => .nil
  | _, r :: _, hs, .cons a t => by
    refine .cons ?_ (lent_reps fr (fun r hr => hs r (by simp [hr])) t)
    have wk : ∀ a, lent (MM F ρ) all a → MM F ρ a := fun a z => z.1
    cases r with
    | v d => exact Rep.weak wk a
    | nw d => exact (RRep.rep a (fun a m => fr.dom m) rfl).weak wk
    | ow b d =>
      obtain ⟨rfl, _, o⟩ := a
      exact (o.weak wk).rep fun z => z.2 d (hs _ (by simp))
theorem all_free {rs : List R} (h : rs.all R.free = true) (a : Addr) (d : Dv) : R.ow a d ∉ rs := fun z => by
  have := List.all_eq_true.mp h _ z
  simp [R.free] at this
theorem lent_back {rs : List R} {x : V} {r : R} {H' : Hp} {O : Addr → Dv → Prop} (fr : Fr K H₀ F σ H ρ) (S1 : Same H H1) (h : RRep K (lent (MM F ρ) rs) NoOwn H1 x r H') (f : rs.all R.free = true ∨ r.flat = true) : RRep K (MM F ρ) O H x r H' := by
  rcases f with f | f
  · have wk : ∀ a, MM F ρ a → lent (MM F ρ) rs a := fun a z => ⟨z, fun d => all_free f a d⟩
    cases r with
    | v d => exact Rep.weak wk h
    | ow a d => exact h.2.1.elim
    | nw d =>
      obtain ⟨a, e, n, o⟩ := h
      exact ⟨a, e, S1.free n, o.weak fun b z => z.elim (fun z => .inl (wk b z)) .inr⟩
  · cases r with
    | v d => exact Rep.flat f h
    | ow a d => exact h.2.1.elim
    | nw d =>
      obtain ⟨a, e, n, o⟩ := h
      exact ⟨a, e, S1.free n, o.flat f⟩
end
section
variable {X : Cx} {k : Nat} {x : Str} {ps : List Str} {sp : Fn} {e o : Expr} {es : List Expr} {ts : TAp} {to : TEp} {p pos apos : Pos} {C : Addr} {m : Str}
theorem call_low {rs : List R} {xs : List V} {H₀ H H1 : Hp} {F : Addr → Prop} {σ : St} {ρ : List Sl} {Q : VK} {E : XK} {Q' : R → Prop} (mo : MonoF sp) (fr : Fr X.K H₀ F σ H ρ) (S1 : Same H H1) (r1 : RReps X.K (MM F ρ) (Z.Own ρ) H xs rs H1) (q : sp (rs.map R.d) (back rs Q'))
    (w : ∀ r, Q' r → ∀ x H', Same H H' → RRep X.K (MM F ρ) (Z.Own ρ) H x r H' → Q x H') : low X.K sp xs H1 Q E := by
  refine ⟨lent (MM F ρ) rs, _, fun a z => (fr.mono S1).dom z.1, lent_reps fr (fun _ h => h) r1, mo.mo _ _ _ (fun r q x H' S rx => ?_) q⟩
  exact w r q.2 x H' (S1.trans S) (lent_back fr S1 rx q.1)
theorem back_mono {rs : List R} {Q Q' : R → Prop} (w : ∀ r, Q r → Q' r) : ∀ r, back rs Q r → back rs Q' r := fun r h => ⟨h.1, w r h.2⟩
theorem q_call (d : Def X.prog X.w X.K X.mg X.base k x ps (low X.K sp)) (mo : MonoF sp) (hr : Room k X.A) (ha : QA X (e :: es) ts) (hg : Gl X x := by rfl)
    (hdb : (x == ("__debug__" : Str)) = false := by decide) (he : starEach (e :: es) X.env = (false, eval e X.env) :: starEach es X.env := by rfl) (hpl : (backTo pos (starEach es X.env)).any (·.1) = false := by rfl) :
    QE X (.Call (.Name x p) (e :: es) [] pos) (eCall sp ts) := by
  obtain ⟨f, fd, hm, hk, hb, FO⟩ := d.ex
  refine ⟨fun ρ Q Q' w q => ha.mono _ _ _ (fun rs q => mo.mo _ _ _ (back_mono w) q) q, fun H₀ F => PE_imp (pe_call FO hr hg hm hk hb .nil pass0 (ha.run H₀ F) hdb he hpl) fun σ H Q ⟨ρ, fr, h⟩ => ?_⟩
  refine ha.step fr h fun rs xs H1 q S1 r1 => ?_
  rw [List.append_nil]
  exact call_low mo fr S1 r1 q fun r z => z
def eMeth (C : Addr) (m : Str) (sp : Fn) (to : TEp) (ts : TAp) : TEp := fun ρ Q => to ρ fun ro => match ro.d with
  | .obj C' fs => (C' = C ∧ fs.lookup m = none) ∧ ts ρ fun rs => sp (ro.d :: rs.map R.d) (back (ro :: rs) Q)
  | _ => False
def eFld (C : Addr) (f : Str) (to : TEp) : TEp := fun ρ Q => to ρ fun ro => match ro.d with
  | .obj C' fs => C' = C ∧ match fs.lookup f with
    | some d => Q (.v d)
    | none => False
  | _ => False
end
end Z
namespace L2
open PySem PySem.Spec PyProof.Rows
section
variable {X : Cx} {tg : Expr}
end
end L2
namespace Z
open PySem PySem.Spec PyProof.Rows L2
section
variable {X : Cx} {tg a b c e : Expr} {ta tb te : TEp} {ts : TAp} {pos p p2 : Pos}
def rangeC (lo c : Int) (n : Nat) : List Dv := (List.range n).map fun (k : Nat) => Dv.int (lo + (k : Int) * c)
def iRange3 (ts : TAp) : TIp := fun ρ Q => ts ρ fun rs => match rs.map R.d with
  | [.int i, .int j, .int c] => (c ≠ 0 ∧ c.natAbs < 1000 ∧ Builtin.Range.small i j c = true ∧ 0 ≤ Builtin.Range.rangeSize i j c) ∧ Q (rangeC i c (Builtin.Range.rangeSize i j c).toNat) []
  | _ => False
def eLR1 (ts : TAp) : TEp := fun ρ Q => ts ρ fun rs => match rs.map R.d with
  | [.int j] => (-(2 ^ 62) ≤ j ∧ j < 2 ^ 62 ∧ j.toNat ≤ 1000000) ∧ Q (.nw (.lst (rangeD 0 j.toNat)))
  | _ => False
def eLR2 (ts : TAp) : TEp := fun ρ Q => ts ρ fun rs => match rs.map R.d with
  | [.int i, .int j] => ((-(2 ^ 62) ≤ i ∧ i < 2 ^ 62 ∧ -(2 ^ 62) ≤ j ∧ j < 2 ^ 62) ∧ (j - i).toNat ≤ 1000000) ∧ Q (.nw (.lst (rangeD i (j - i).toNat)))
  | _ => False
def enumD (ds : List Dv) : List Dv := (ds.zipIdx).map fun q => .tup [.int (q.2 : Int), q.1]
def iEnumP (ts : TAp) : TIp := fun ρ Q => ts ρ fun rs => match rs with
  | [.v (.lst ds)] => Q (enumD ds) []
  | [.nw (.lst ds)] => Q (enumD ds) []
  | [.ow a (.lst ds)] => Q (enumD ds) [(a, ds)]
  | _ => False
def ogsOf : R → List (Addr × List Dv)
  | .ow a (.lst ds) => [(a, ds)]
  | _ => []
def zipD (xs ys : List Dv) : List Dv := List.zipWith (fun x y => .tup [x, y]) xs ys
def iZipP (ts : TAp) : TIp := fun ρ Q => ts ρ fun rs => match rs with
  | [r, r'] => match r.d, r'.d with
    | .lst xs, .lst ys => Q (zipD xs ys) (ogsOf r ++ ogsOf r')
    | _, _ => False
  | _ => False
end
end Z
namespace Z
open PySem PySem.Spec PyProof.Rows L2
def closGo (env : Env) : List (Str × NameKind) → List (Str × Addr) → List (Str × Addr)
  | [], acc => acc
  | (n, k) :: r, acc => if (k == .free) = true then (match env.cells.lookup n with | some c => closGo env r ((n, c) :: acc) | none => closGo env r acc) else closGo env r acc
theorem closureFor_eq {scope : Scope} {env : Env} (h : (scope.names.all fun y => !(y.2 == .free) || (env.cells.lookup y.1).isSome) = true) : closureFor scope env = pure (closGo env scope.names []) := by
  unfold closureFor
  have key : ∀ (l : List (Str × NameKind)) (acc : List (Str × Addr)), (l.all fun y => !(y.2 == .free) || (env.cells.lookup y.1).isSome) = true →
      (forIn (m := Sem) l acc fun x r => (match x with | (name, kind) => if (kind == NameKind.free) = true then (do let c ← cellOf env name; pure (ForInStep.yield ((name, c) :: r))) else pure (ForInStep.yield r))) = pure (closGo env l acc) := by
    intro l
    induction l with
    | nil => intro acc _; rfl
    | cons y r ih =>
      intro acc hl
      obtain ⟨n, k⟩ := y
      rw [List.all_cons, Bool.and_eq_true] at hl
      rw [List.forIn_cons]
      unfold closGo
      by_cases hk : (k == NameKind.free) = true
      · rw [if_pos hk]
        have h1 : (env.cells.lookup n).isSome = true := by
          have := hl.1
          simpa [hk] using this
        obtain ⟨c, hc⟩ := Option.isSome_iff_exists.mp h1
        have e : cellOf env n = pure c := by unfold cellOf; rw [hc]
        simp only [hk, if_true, e, hc]
        exact ih _ hl.2
      · rw [if_neg hk]
        simp only [hk]
        exact ih _ hl.2
  dsimp only
  have h2 := key scope.names [] h
  refine Eq.trans (congrArg (fun t : Sem (List (Str × Addr)) => t >>= fun r => pure r) h2) ?_
  rfl
theorem closGo_ok {env : Env} : ∀ (l : List (Str × NameKind)) (acc : List (Str × Addr)), (∀ q ∈ acc, env.cells.lookup q.1 = some q.2) → ∀ q ∈ closGo env l acc, env.cells.lookup q.1 = some q.2
  | [], acc, h, q, hq => h q hq
  | (n, k) :: r, acc, h, q, hq => by
    unfold closGo at hq
    split at hq
    · split at hq
      · rename_i c hc
        refine closGo_ok r _ (fun q' hq' => ?_) q hq
        rcases List.mem_cons.mp hq' with e | e
        · rw [e]; exact hc
        · exact h q' e
      · exact closGo_ok r acc h q hq
    · exact closGo_ok r acc h q hq
theorem closGo_acc {env : Env} : ∀ (l : List (Str × NameKind)) (acc : List (Str × Addr)), ∀ q ∈ acc, q ∈ closGo env l acc
  | [], acc, q, hq => hq
  | (n, k) :: r, acc, q, hq => by
    unfold closGo
    split
    · split
      · exact closGo_acc r _ q (List.mem_cons_of_mem _ hq)
      · exact closGo_acc r acc q hq
    · exact closGo_acc r acc q hq
theorem closGo_has {env : Env} {x : Str} : ∀ (l : List (Str × NameKind)) (acc : List (Str × Addr)), (l.all fun y => !(y.2 == .free) || (env.cells.lookup y.1).isSome) = true → (x, NameKind.free) ∈ l → ∃ c, (x, c) ∈ closGo env l acc
  | [], _, _, h => by simp at h
  | (n, k) :: r, acc, hl, h => by
    rw [List.all_cons, Bool.and_eq_true] at hl
    unfold closGo
    rcases List.mem_cons.mp h with e | e
    · cases e
      rw [if_pos (by rfl)]
      have h1 : (env.cells.lookup x).isSome = true := by simpa using hl.1
      obtain ⟨c, hc⟩ := Option.isSome_iff_exists.mp h1
      rw [hc]
      exact ⟨c, closGo_acc r _ _ (by simp)⟩
    · split
      · split
        · exact closGo_has r _ hl.2 e
        · exact closGo_has r _ hl.2 e
      · exact closGo_has r _ hl.2 e
theorem lookup_of_mem {α : Type} {x : Str} {c : α} : ∀ {l : List (Str × α)}, (x, c) ∈ l → ∃ c', l.lookup x = some c'
  | (n, d) :: r, h => by
    rw [List.lookup_cons]
    cases e : x == n with
    | true => exact ⟨d, rfl⟩
    | false =>
      rcases List.mem_cons.mp h with z | z
      · cases z
        simp at e
      · exact lookup_of_mem z
theorem relabel_free {scope : Scope} {env : Env} {x : Str} (hcell : ∀ y ∈ scope.names, y.2 ≠ .cell) (h : (relabel scope env).names.lookup x = some .cell ∨ (relabel scope env).names.lookup x = some .free) : (x, NameKind.free) ∈ scope.names := by
  have : (x, NameKind.cell) ∈ (relabel scope env).names ∨ (x, NameKind.free) ∈ (relabel scope env).names := h.imp PySem.mem_of_lookup PySem.mem_of_lookup
  rcases this with h | h
  · obtain ⟨⟨n, k⟩, hm, e⟩ := List.mem_map.mp h
    dsimp only at e
    split at e
    · rename_i hc
      rw [Bool.and_eq_true, Bool.and_eq_true, beq_iff_eq] at hc
      cases e
      rw [hc.1.1] at hm
      exact hm
    · cases e
      exact absurd rfl (hcell _ hm)
  · obtain ⟨⟨n, k⟩, hm, e⟩ := List.mem_map.mp h
    dsimp only at e
    split at e
    · cases e
    · cases e
      exact hm
section
variable {X : Cx} {pos : Pos}
theorem q_lc {elt iter tgt : Expr} {ifs : List Expr} {scope : Scope} (tgs ns : List Str) (js : List Nat) {k : Nat} {ti : TIp} {g : TGp} {tt : TTp} {te : TEp} (hc : X.calm = true) (hi : QI X tgt iter ti)
    (hg : ∀ (fp : List Addr) (s : Shared) (H : Hp), QG (cxG X scope (closGo X.env scope.names []) fp (tgs ++ ns) s H) tgt k g) (ht : ∀ (fp : List Addr) (s : Shared) (H : Hp), QTs (cxG X scope (closGo X.env scope.names []) fp (tgs ++ ns) s H) ifs tt)
    (he : ∀ (fp : List Addr) (s : Shared) (H : Hp), QE (cxG X scope (closGo X.env scope.names []) fp (tgs ++ ns) s H) elt te) (hk : tgs.length = k := by rfl)
    (hall : (scope.names.all fun y => !(y.2 == .free) || (X.env.cells.lookup y.1).isSome) = true := by rfl) (hjs : js.map (fun j => X.N[j]?) = ns.map some := by rfl)
    (hin : (ns.all fun y => (relabel scope X.env).names.lookup y == some .cell || (relabel scope X.env).names.lookup y == some .free) = true := by rfl) (hout : (ns.all fun y => X.env.kindOf y == some .cell || X.env.kindOf y == some .free) = true := by rfl)
    (nd : js.Nodup := by decide) (hcell : ∀ y ∈ scope.names, y.2 ≠ .cell := by decide +kernel) (hkind : scope.kind = .function := by rfl)
    (hnames : ∀ y ∈ scope.names, y.2 = .local → scope.names.lookup y.1 = some .local := by decide +kernel) (hs : ∀ z, foldedSetIterable iter X.env z = pure z := by intro _; rfl) :
    QE X (.ListComp elt [⟨tgt, iter, ifs, 0⟩] scope pos) (eComp k js ti g tt te) := by
  refine q_comp hc hk hi hg ht he (closureFor_eq hall) (fun x c e => closGo_ok scope.names [] (by simp) (x, c) (PySem.mem_of_lookup e)) (fun x h => ?_) hjs (fun y hy => ?_) (fun y hy => ?_) nd hcell hkind hnames hs
  · obtain ⟨c, hc⟩ := closGo_has scope.names [] hall (relabel_free hcell h)
    exact lookup_of_mem hc
  · have := List.all_eq_true.mp hin y hy
    simpa using this
  · have := List.all_eq_true.mp hout y hy
    simpa using this
end
section
variable {X : Cx} {M : Addr → Prop} {pins : List (Addr × Obj)} {σ : St} {H : Hp} {s : Shared}
end
section
variable {X : Cx}
end
end Z
namespace Z
open PySem PySem.Spec PyProof.Rows L2
theorem units65 {k : Nat} {A : Around} (r : Room k A) : A.units + 65 < cLine := by have := r.un; omega
def pModG : Dv → Dv → (R → Prop) → Prop
  | .int i, .int j, Q => j ≠ 0 ∧ Q (.v (.int (i.fmod j)))
  | _, _, _ => False
def isB (b : Bool) : Dv → Bool
  | .bl c => c == b
  | _ => false
def pIsB : Dv → Dv → (R → Prop) → Prop
  | d, .bl b, Q => Q (.v (.bl (isB b d)))
  | _, _, _ => False
def pNotB : Dv → Dv → (R → Prop) → Prop
  | d, .bl b, Q => Q (.v (.bl (!isB b d)))
  | _, _, _ => False
section
variable {X : Cx}
def sSetI (i : Nat) (tk tv : TEp) : TSp := fun E ρ => match ρ[i]? with
  | some (.own a (.lst xs)) => tv ρ fun r => tk ρ fun k => match k.d with
    | .int n => match ixN xs.length n with
      | some j => r.free = true ∧ E.nx (ρ.set i (.own a (.lst (xs.set j r.d))))
      | none => False
    | _ => False
  | _ => False
end
end Z
namespace Z
open PySem PySem.Spec PyProof.Rows L2
section
variable {X : Cx} {pos : Pos} {st : Stmt} {te : TEp} {i : Nat}
end
section
variable {X : Cx} {pos : Pos}
end
end Z
namespace Z
open PySem PySem.Spec PyProof.Rows L2
def pIAdd : Dv → Dv → (R → Prop) → Prop
  | .int i, .int j, Q => Q (.v (.int (i + j)))
  | .str x, .str y, Q => x.length + y.length ≤ LIM ∧ Q (.v (.str (x ++ y)))
  | _, _, _ => False
def pISub : Dv → Dv → (R → Prop) → Prop
  | .int i, .int j, Q => Q (.v (.int (i - j)))
  | _, _, _ => False
def pIMul : Dv → Dv → (R → Prop) → Prop
  | .int i, .int j, Q => CMulG i j ∧ Q (.v (.int (i * j)))
  | _, _, _ => False
section
variable {X : Cx}
def sAsg (te : TEp) (g : TGp) : TSp := fun E ρ => te ρ fun r => r.free = true ∧ g r.d ρ E.nx
theorem qt_chain {a b c : Expr} {ta tb tc : TEp} {pos : Pos} {op op' : CmpOp} {f f' : Int → Int → Bool} (ho : OpR X (compareOp op) (rI0 fun i j => .bl (f i j))) (ho' : OpR X (compareOp op') (rI0 fun i j => .bl (f' i j))) (ha : QE X a ta) (hb : QE X b tb) (hc : QE X c tc)
    (hm : lastMarks [op, op'] [b, c] = false := by with_unfolding_all rfl) : QT X (.Compare a [op, op'] [b, c] pos) (eTest (eChain (pI2 f) (pI2 f') ta tb tc)) := by
  have Q0 := q_chain (pos := pos) ho ho' ha hb hc hm
  have low : ∀ (H₀ : Hp) (F : Addr → Prop) (σ : St) (H : Hp) (Q : VK), lift X.K H₀ F (eChain (pI2 f) (pI2 f') ta tb tc) σ H Q → tChain (rI0 fun i j => .bl (f i j)) (rI0 fun i j => .bl (f' i j)) (lift X.K H₀ F ta) (lift X.K H₀ F tb) (lift X.K H₀ F tc) σ H Q := by
    rintro H₀ F σ H Q ⟨ρ, fr, q⟩
    refine ha.step fr q fun rx x H1 q1 S1 r1 => ?_
    refine hb.step (fr.mono S1) q1 fun ry y H2 q2 S2 r2 => ?_
    have cx := (r1.mono S2).c
    have cy := r2.c
    generalize rx.d = dx at q2 cx
    generalize ry.d = dy at q2 cy
    unfold pI2 at q2
    split at q2
    · rename_i Q2 i j
      obtain rfl := cx.int
      obtain rfl := cy.int
      refine ⟨_, _, rfl, rfl, f i j, rfl, ?_⟩
      have S12 := S1.trans S2
      replace q2 := (show (if f i j = true then tc ρ (fun w => pI2 f' (.int j) w.d (fun r => ∀ x H', Same H H' → RRep X.K (MM F ρ) (Z.Own ρ) H x r H' → Q x H')) else (∀ x H', Same H H' → RRep X.K (MM F ρ) (Z.Own ρ) H x (.v (.bl false)) H' → Q x H')) from q2)
      cases h : f i j with
      | true =>
        rw [h] at q2
        simp only [if_true] at q2
        refine iteT (hc.step ((fr.mono S1).mono S2) q2 fun rw' z H3 q3 S3 r3 => ?_)
        have cz := r3.c
        generalize rw'.d = dz at q3 cz
        cases dz with
        | int l =>
          obtain rfl := cz.int
          exact ⟨_, _, rfl, rfl, q3 _ H3 (S12.trans S3) (Rep.bl _)⟩
        | _ => exact (show False from q3).elim
      | false =>
        rw [h] at q2
        simp only [Bool.false_eq_true, if_false] at q2
        exact iteF (q2 _ H2 S12 (Rep.bl _))
    · exact q2.elim
  refine ⟨fun ρ Q Q' w q => eTest_mono Q0.mono ρ Q Q' w q, fun H₀ F => PT_imp (pt_chain ho ho' (ha.run H₀ F) (hb.run H₀ F) (hc.run H₀ F) hm) fun σ H Q ⟨ρ, fr, q⟩ => ?_⟩
  refine low H₀ F σ H _ (Q0.step fr q fun r x H1 q S1 r1 => ?_)
  have cx := r1.c
  generalize r.d = d at q cx
  split at q
  · obtain rfl := cx.bl
    exact ⟨_, rfl, q H1 S1⟩
  · exact q.elim
end
end Z
namespace Z
open PySem PySem.Spec PyProof.Rows L2
section
variable {X : Cx} {e : Expr} {te : TEp} {pos : Pos}
def sExt (i : Nat) (te : TEp) : TSp := fun E ρ => match ρ[i]? with
  | some (.own a (.lst xs)) => te ρ fun r => match r.d with
    | .lst ys => xs.length + ys.length ≤ LIM ∧ E.nx (ρ.set i (.own a (.lst (xs ++ ys))))
    | _ => False
  | _ => False
def putD (f : Str) (d : Dv) : List (Str × Dv) → List (Str × Dv)
  | [] => [(f, d)]
  | (g, x) :: r => if g = f then (g, d) :: r else (g, x) :: putD f d r
def sAttr (C : Addr) (i : Nat) (f : Str) (te : TEp) : TSp := fun E ρ => match ρ[i]? with
  | some (.own a (.obj C' fs)) => te ρ fun r => (C' = C ∧ r.free = true ∧ fs.length < 1000) ∧ E.nx (ρ.set i (.own a (.obj C' (putD f r.d fs))))
  | _ => False
end
def startI (C a : Addr) (N : List Str) (ds : List Dv) : List Sl := .own a (.obj C []) :: (ds.map .v ++ List.replicate (N.length - (ds.length + 1)) .un)
def eMake (sp : Fn) (ts : TAp) : TEp := fun ρ Q => ts ρ fun rs => sp (rs.map R.d) (back rs Q)
section
variable {X : Cx} {k : Nat} {x : Str} {ps : List Str} {sp : Fn} {e : Expr} {es : List Expr} {ts : TAp} {p pos : Pos} {C : Addr}
end
end Z
namespace Z
open PySem PySem.Spec PyProof.Rows L2
section
variable {K : PySem.W.Frag} {H₀ H1 H' : Hp} {F : Addr → Prop} {σ : St} {ρ : List Sl} {a b : Addr}
end
def startM (a : Addr) (N : List Str) : List Dv → List Sl
  | [] => []
  | d :: ds => .own a d :: (ds.map .v ++ List.replicate (N.length - (ds.length + 1)) .un)
def sMov (i : Nat) (sp : Fn) (ts : TAp) : TSp := fun E ρ => ts ρ fun rs => match rs with
  | .ow a d :: rest => ρ[i]? = some (.own a d) ∧ rest.all R.free = true ∧ sp (d :: rest.map R.d) (fun r => match r with | .nw d' => ∀ b, E.nx (ρ.set i (.own b d')) | _ => False)
  | _ => False
section
variable {X : Cx} {k i : Nat} {x y : Str} {ps : List Str} {sp : Fn} {e : Expr} {es : List Expr} {ts : TAp} {p pos pos2 py : Pos}
end
end Z
namespace Z
open PySem PySem.Spec PyProof.Rows L2
def pShl : Dv → Dv → (R → Prop) → Prop
  | .int i, .int j, Q => CPow i j ∧ Q (.v (.int (i * 2 ^ j.toNat)))
  | _, _, _ => False
section
variable {X : Cx}
end
end Z
namespace L2
open PySem PySem.Spec PyProof.Rows
section
variable {X : Cx}
end
end L2
namespace Z
open PySem PySem.Spec PyProof.Rows L2
section
variable {X : Cx} {a : Expr} {ts : TAp} {p p2 pos : Pos}
def eTR1 (ts : TAp) : TEp := fun ρ Q => ts ρ fun rs => match rs.map R.d with
  | [.int j] => (-(2 ^ 62) ≤ j ∧ j < 2 ^ 62 ∧ j.toNat ≤ 1000000) ∧ Q (.v (.tup (rangeD 0 j.toNat)))
  | _ => False
end
end Z
namespace Z
open PySem PySem.Spec PyProof.Rows L2
section
variable {X : Cx} {e : Expr} {te : TEp} {pos : Pos}
def eDT : TEp := fun _ Q => Q (.nw (.dit []))
def putT (kvs : List (List Key × Dv)) (k : List Key) (d : Dv) : List (List Key × Dv) :=
  if kvs.any (fun kv => decide (kv.1 = k)) then kvs.map (fun kv => if kv.1 = k then (kv.1, d) else kv) else kvs ++ [(k, d)]
def sPut (i : Nat) (tk tv : TEp) : TSp := fun E ρ => match ρ[i]? with
  | some (.own a (.dit kvs)) => tv ρ fun r => tk ρ fun kk => ∃ k : List Key, kk.d = .tup (k.map kD) ∧ (r.free = true ∧ kvs.length < LIM) ∧ E.nx (ρ.set i (.own a (.dit (putT kvs k r.d))))
  | _ => False
def sClear (i : Nat) : TSp := fun E ρ => match ρ[i]? with
  | some (.own a (.lst _)) => E.nx (ρ.set i (.own a (.lst [])))
  | _ => False
def sReverse (i : Nat) : TSp := fun E ρ => match ρ[i]? with
  | some (.own a (.lst xs)) => E.nx (ρ.set i (.own a (.lst xs.reverse)))
  | _ => False
end
end Z
namespace Z
open PySem PySem.Spec PyProof.Rows L2
theorem pAdd_ii {i j : Int} {Q : R → Prop} : (pAdd (.int i) (.int j) Q) = (Q (.v (.int (i + j)))) := rfl
theorem pSub_ii {i j : Int} {Q : R → Prop} : (pSub (.int i) (.int j) Q) = (Q (.v (.int (i - j)))) := rfl
theorem pMul_ii {i j : Int} {Q : R → Prop} : (pMul (.int i) (.int j) Q) = (CMulG i j ∧ Q (.v (.int (i * j)))) := rfl
theorem pDiv_ii {i j : Int} {Q : R → Prop} : (pDiv (.int i) (.int j) Q) = ((0 < j ∧ j < 2 ^ 200) ∧ Q (.v (.int (i / j)))) := rfl
theorem pDivG_ii {i j : Int} {Q : R → Prop} : (pDivG (.int i) (.int j) Q) = ((j ≠ 0 ∧ j.natAbs < 2 ^ 4000) ∧ Q (.v (.int (i.fdiv j)))) := rfl
theorem pMod_ii {i j : Int} {Q : R → Prop} : (pMod (.int i) (.int j) Q) = (0 < j ∧ Q (.v (.int (i % j)))) := rfl
theorem pModG_ii {i j : Int} {Q : R → Prop} : (pModG (.int i) (.int j) Q) = (j ≠ 0 ∧ Q (.v (.int (i.fmod j)))) := rfl
theorem pPow_ii {i j : Int} {Q : R → Prop} : (pPow (.int i) (.int j) Q) = (CPow i j ∧ Q (.v (.int (i ^ j.toNat)))) := rfl
theorem pAdd_ll {xs ys : List Dv} {Q : R → Prop} : (pAdd (.lst xs) (.lst ys) Q) = ((xs.length + ys.length ≤ LIM ∧ Q (.nw (.lst (xs ++ ys))))) := rfl
theorem pAdd_ss {x y : Str} {Q : R → Prop} : (pAdd (.str x) (.str y) Q) = ((x.length + y.length ≤ LIM ∧ Q (.v (.str (x ++ y))))) := rfl
theorem pMul_li {xs : List Dv} {k : Int} {Q : R → Prop} : (pMul (.lst xs) (.int k) Q) = (((-(2 ^ 63) ≤ k ∧ k < 2 ^ 63 ∧ xs.length * k.toNat ≤ LIM) ∧ Q (.nw (.lst (List.replicate k.toNat xs).flatten)))) := rfl
theorem pI2_ii {f : Int → Int → Bool} {i j : Int} {Q : R → Prop} : (pI2 f (.int i) (.int j) Q) = (Q (.v (.bl (f i j)))) := rfl
theorem pIsN_n {d : Dv} {Q : R → Prop} : (pIsN d .non Q) = (Q (.v (.bl (isN d)))) := rfl
theorem pNotN_n {d : Dv} {Q : R → Prop} : (pNotN d .non Q) = (Q (.v (.bl (!isN d)))) := rfl
theorem pIsB_b {d : Dv} {b : Bool} {Q : R → Prop} : (pIsB d (.bl b) Q) = (Q (.v (.bl (isB b d)))) := rfl
theorem pNotB_b {d : Dv} {b : Bool} {Q : R → Prop} : (pNotB d (.bl b) Q) = (Q (.v (.bl (!isB b d)))) := rfl
theorem pEq_ii {i j : Int} {Q : R → Prop} : (pEq (.int i) (.int j) Q) = (Q (.v (.bl (decide (i = j))))) := rfl
theorem pNe_ii {i j : Int} {Q : R → Prop} : (pNe (.int i) (.int j) Q) = (Q (.v (.bl (!decide (i = j))))) := rfl
theorem pEq_bl {x : Bool} {d : Dv} {Q : R → Prop} : (pEq (.bl x) d Q) = (((okD 8 (.bl x) = true ∧ okD 8 d = true) ∧ Q (.v (.bl (eqD (.bl x) d))))) := rfl
theorem pNe_bl {x : Bool} {d : Dv} {Q : R → Prop} : (pNe (.bl x) d Q) = (((okD 8 (.bl x) = true ∧ okD 8 d = true) ∧ Q (.v (.bl (!eqD (.bl x) d))))) := rfl
theorem pEq_tup {x : List Dv} {d : Dv} {Q : R → Prop} : (pEq (.tup x) d Q) = (((okD 8 (.tup x) = true ∧ okD 8 d = true) ∧ Q (.v (.bl (eqD (.tup x) d))))) := rfl
theorem pNe_tup {x : List Dv} {d : Dv} {Q : R → Prop} : (pNe (.tup x) d Q) = (((okD 8 (.tup x) = true ∧ okD 8 d = true) ∧ Q (.v (.bl (!eqD (.tup x) d))))) := rfl
theorem pEq_lst {x : List Dv} {d : Dv} {Q : R → Prop} : (pEq (.lst x) d Q) = (((okD 8 (.lst x) = true ∧ okD 8 d = true) ∧ Q (.v (.bl (eqD (.lst x) d))))) := rfl
theorem pNe_lst {x : List Dv} {d : Dv} {Q : R → Prop} : (pNe (.lst x) d Q) = (((okD 8 (.lst x) = true ∧ okD 8 d = true) ∧ Q (.v (.bl (!eqD (.lst x) d))))) := rfl
theorem pEq_str {x : Str} {d : Dv} {Q : R → Prop} : (pEq (.str x) d Q) = (((okD 8 (.str x) = true ∧ okD 8 d = true) ∧ Q (.v (.bl (eqD (.str x) d))))) := rfl
theorem pNe_str {x : Str} {d : Dv} {Q : R → Prop} : (pNe (.str x) d Q) = (((okD 8 (.str x) = true ∧ okD 8 d = true) ∧ Q (.v (.bl (!eqD (.str x) d))))) := rfl
theorem pEq_scr {x : List Int} {d : Dv} {Q : R → Prop} : (pEq (.scr x) d Q) = (((okD 8 (.scr x) = true ∧ okD 8 d = true) ∧ Q (.v (.bl (eqD (.scr x) d))))) := rfl
theorem pNe_scr {x : List Int} {d : Dv} {Q : R → Prop} : (pNe (.scr x) d Q) = (((okD 8 (.scr x) = true ∧ okD 8 d = true) ∧ Q (.v (.bl (!eqD (.scr x) d))))) := rfl
theorem pIx_l {xs : List Dv} {i : Int} {Q : R → Prop} : (pIx (.lst xs) (.int i) Q) = ((match atI xs i with | some d => Q (.v d) | none => False)) := rfl
theorem pIx_t {xs : List Dv} {i : Int} {Q : R → Prop} : (pIx (.tup xs) (.int i) Q) = ((match atI xs i with | some d => Q (.v d) | none => False)) := rfl
theorem pIx_s {ns : List Int} {i : Int} {Q : R → Prop} : (pIx (.scr ns) (.int i) Q) = ((match atI ns i with | some n => Q (.v (.int n)) | none => False)) := rfl
theorem pSl_l {xs : List Dv} {lo hi : Option Int} {Q : R → Prop} : (pSl (.lst xs) lo hi Q) = (Q (.nw (.lst (cut xs lo hi)))) := rfl
theorem pSl_s {ns : List Int} {lo hi : Option Int} {Q : R → Prop} : (pSl (.scr ns) lo hi Q) = (Q (.nw (.lst ((cut ns lo hi).map .int)))) := rfl
theorem pSl_t {xs : List Dv} {lo hi : Option Int} {Q : R → Prop} : (pSl (.tup xs) lo hi Q) = ((¬ (HT.sIx xs.length 0 lo = 0 ∧ HT.sIx xs.length xs.length hi = xs.length) ∧ Q (.v (.tup (cut xs lo hi))))) := rfl
theorem pLen_l {xs : List Dv} {Q : R → Prop} : (pLen [(.lst xs)] Q) = (Q (.v (.int xs.length))) := rfl
theorem pLen_t {xs : List Dv} {Q : R → Prop} : (pLen [(.tup xs)] Q) = (Q (.v (.int xs.length))) := rfl
theorem pLen_s {ns : List Int} {Q : R → Prop} : (pLen [.scr ns] Q) = (Q (.v (.int ns.length))) := rfl
theorem pAbs_i {i : Int} {Q : R → Prop} : (pAbs [.int i] Q) = (Q (.v (.int (if i < 0 then -i else i)))) := rfl
theorem pMin_i {i j : Int} {Q : R → Prop} : (pMin2 [.int i, .int j] Q) = (Q (.v (.int (if j < i then j else i)))) := rfl
theorem pMax_i {i j : Int} {Q : R → Prop} : (pMax2 [.int i, .int j] Q) = (Q (.v (.int (if j > i then j else i)))) := rfl
theorem pTuple_l {xs : List Dv} {Q : R → Prop} : (pTuple [.lst xs] Q) = (Q (.v (.tup xs))) := rfl
theorem pTuple_t {xs : List Dv} {Q : R → Prop} : (pTuple [.tup xs] Q) = (Q (.v (.tup xs))) := rfl
theorem pList_l {xs : List Dv} {Q : R → Prop} : (pList [.lst xs] Q) = (Q (.nw (.lst xs))) := rfl
theorem pList_t {xs : List Dv} {Q : R → Prop} : (pList [.tup xs] Q) = (Q (.nw (.lst xs))) := rfl
theorem pAll_l {ds : List Dv} {Q : R → Prop} : (pAll [.lst ds] Q) = ((∃ bs : List Bool, ds = bs.map .bl ∧ Q (.v (.bl (bs.all _root_.id))))) := rfl
theorem pSum_l {ds : List Dv} {Q : R → Prop} : (pSum [.lst ds] Q) = ((∃ ns : List Int, ds = ns.map .int ∧ Q (.v (.int ns.sum)))) := rfl
theorem Rd_v {d : Dv} : (R.d (.v d)) = (d) := rfl
theorem Rd_n {d : Dv} : (R.d (.nw d)) = (d) := rfl
theorem Rd_o {a : Addr} {d : Dv} : (R.d (.ow a d)) = (d) := rfl
theorem Ro_v {d : Dv} : (R.out (.v d)) = (.v d) := rfl
theorem Ro_n {d : Dv} : (R.out (.nw d)) = (.nw d) := rfl
theorem Ro_o {a : Addr} {d : Dv} : (R.out (.ow a d)) = (.nw d) := rfl
theorem Rf_v {d : Dv} : (R.free (.v d)) = (true) := rfl
theorem Rf_n {d : Dv} : (R.free (.nw d)) = (true) := rfl
theorem Rf_o {a : Addr} {d : Dv} : (R.free (.ow a d)) = (false) := rfl
theorem Rl_v {d : Dv} : (R.flat (.v d)) = (flatD d) := rfl
theorem Rl_n {d : Dv} : (R.flat (.nw d)) = (flatO d) := rfl
theorem Rl_o {a : Addr} {d : Dv} : (R.flat (.ow a d)) = (false) := rfl
theorem eqD_bb {a b : Bool} : (eqD (.bl a) (.bl b)) = ((a == b)) := by cases a <;> cases b <;> simp [eqD, pyD, PyData.eqv]
theorem compGo_nil {ρ0 : List Sl} {g : TGp} {tt : TTp} {te : TEp} {acc : List Dv} {Q : R → Prop} : (compGo ρ0 g tt te [] acc Q) = (Q (.nw (.lst acc))) := rfl
theorem compGo_cons {ρ0 : List Sl} {g : TGp} {tt : TTp} {te : TEp} {d : Dv} {r acc : List Dv} {Q : R → Prop} : (compGo ρ0 g tt te (d :: r) acc Q) = ((g d ρ0 fun ρ1 => tt ρ1 fun b => if b = true then te ρ1 fun v => (v.free = true ∧ acc.length < LIM) ∧ compGo ρ0 g tt te r (acc ++ [v.d]) Q else compGo ρ0 g tt te r acc Q)) := rfl
theorem atI_nat {α : Type} {xs : List α} {i : Int} (h0 : 0 ≤ i) (h1 : i < xs.length) : atI xs i = xs[i.toNat]? := by
  unfold atI ixN
  rw [if_pos h0, if_pos h1]
  rfl
theorem atI_0 {α : Type} {x : α} {r : List α} : atI (x :: r) 0 = some x := by rw [atI_nat (by decide) (by simp <;> omega)]; rfl
theorem atI_1 {α : Type} {x y : α} {r : List α} : atI (x :: y :: r) 1 = some y := by rw [atI_nat (by decide) (by simp <;> omega)]; rfl
theorem atI_2 {α : Type} {x y z : α} {r : List α} : atI (x :: y :: z :: r) 2 = some z := by rw [atI_nat (by decide) (by simp <;> omega)]; rfl
theorem atI_3 {α : Type} {x y z w : α} {r : List α} : atI (x :: y :: z :: w :: r) 3 = some w := by rw [atI_nat (by decide) (by simp <;> omega)]; rfl
theorem atI_4 {α : Type} {x y z w v : α} {r : List α} : atI (x :: y :: z :: w :: v :: r) 4 = some v := by rw [atI_nat (by decide) (by simp <;> omega)]; rfl
theorem isB_bb {b c : Bool} : isB b (.bl c) = (c == b) := rfl
theorem isB_int {b : Bool} {i : Int} : isB b (.int i) = false := rfl
theorem isN_n : isN .non = true := rfl
theorem isN_b {b : Bool} : isN (.bl b) = false := rfl
theorem isN_i {i : Int} : isN (.int i) = false := rfl
theorem isN_s {i : Str} : isN (.str i) = false := rfl
theorem isN_t {i : List Dv} : isN (.tup i) = false := rfl
theorem isN_l {i : List Dv} : isN (.lst i) = false := rfl
theorem isN_o {C : Addr} {i : List (Str × Dv)} : isN (.obj C i) = false := rfl
theorem truD_b {b : Bool} : truD (.bl b) = some b := rfl
theorem truD_n : truD .non = some false := rfl
theorem truD_i {i : Int} : truD (.int i) = some (i != 0) := rfl
theorem truD_l {xs : List Dv} : truD (.lst xs) = some (!xs.isEmpty) := rfl
theorem truD_t {xs : List Dv} : truD (.tup xs) = some (!xs.isEmpty) := rfl
theorem truD_k {xs : List (Key × Dv)} : truD (.dik xs) = some (!xs.isEmpty) := rfl
theorem truD_s {xs : List Int} : truD (.scr xs) = some (!xs.isEmpty) := rfl
theorem ixN_10 : ixN 1 0 = some 0 := rfl
theorem ixN_20 : ixN 2 0 = some 0 := rfl
theorem ixN_21 : ixN 2 1 = some 1 := rfl
theorem ixN_30 : ixN 3 0 = some 0 := rfl
theorem ixN_31 : ixN 3 1 = some 1 := rfl
theorem ixN_32 : ixN 3 2 = some 2 := rfl
theorem ixN_40 : ixN 4 0 = some 0 := rfl
theorem ixN_41 : ixN 4 1 = some 1 := rfl
theorem ixN_42 : ixN 4 2 = some 2 := rfl
theorem ixN_43 : ixN 4 3 = some 3 := rfl
theorem ixN_50 : ixN 5 0 = some 0 := rfl
theorem ixN_51 : ixN 5 1 = some 1 := rfl
theorem ixN_52 : ixN 5 2 = some 2 := rfl
theorem ixN_53 : ixN 5 3 = some 3 := rfl
theorem ixN_54 : ixN 5 4 = some 4 := rfl
theorem rangeD_nil {lo : Int} : rangeD lo 0 = [] := rfl
theorem rangeD_cons {lo : Int} {n : Nat} : rangeD lo (n + 1) = .int lo :: rangeD (lo + 1) n := by
  unfold rangeD
  rw [List.range_succ_eq_map, List.map_cons, List.map_map]
  congr 1
  · simp
  · apply List.map_congr_left
    intro k _
    show Dv.int _ = Dv.int _
    congr 1
    show lo + ((k + 1 : Nat) : Int) = lo + 1 + k
    omega
theorem pIAdd_ii {i j : Int} {Q : R → Prop} : (pIAdd (.int i) (.int j) Q) = (Q (.v (.int (i + j)))) := rfl
theorem pISub_ii {i j : Int} {Q : R → Prop} : (pISub (.int i) (.int j) Q) = (Q (.v (.int (i - j)))) := rfl
theorem pIMul_ii {i j : Int} {Q : R → Prop} : (pIMul (.int i) (.int j) Q) = (CMulG i j ∧ Q (.v (.int (i * j)))) := rfl
theorem startM_c {a : Addr} {N : List Str} {d : Dv} {ds : List Dv} : startM a N (d :: ds) = .own a d :: (ds.map .v ++ List.replicate (N.length - (ds.length + 1)) .un) := rfl
theorem pShl_ii {i j : Int} {Q : R → Prop} : (pShl (.int i) (.int j) Q) = (CPow i j ∧ Q (.v (.int (i * 2 ^ j.toNat)))) := rfl
theorem kD_inj : ∀ {a b : List Key}, a.map kD = b.map kD → a = b
  | [], [], _ => rfl
  | [], _ :: _, h => by cases h
  | _ :: _, [], h => by cases h
  | a :: r, b :: t, h => by
    rw [List.map_cons, List.map_cons] at h
    injection h with h1 h2
    have e : a = b := by cases a <;> cases b <;> first | (injection h1 with h1; rw [h1]) | cases h1
    rw [e, kD_inj h2]
theorem pIx_d2 {kvs : List (List Key × Dv)} {a b : Int} {Q : R → Prop} : (pIx (.dit kvs) (.tup [.int a, .int b]) Q) = (match kvs.find? (fun kv => decide (kv.1 = [Sum.inl a, Sum.inl b])) with | some kv => Q (.v kv.2) | none => False) := by
  apply propext
  constructor
  · rintro ⟨k, e, h⟩
    have : k = [Sum.inl a, Sum.inl b] := kD_inj (e.symm.trans rfl)
    subst this
    exact h
  · exact fun h => ⟨[Sum.inl a, Sum.inl b], rfl, h⟩
theorem zc : (type_of% @beq_self_eq_true.{0}) ∧ (type_of% @List.getElem?_cons_zero.{0}) ∧ (type_of% @List.getElem?_cons_succ.{0}) ∧ (type_of% @List.set_cons_zero.{0}) ∧ (type_of% @List.set_cons_succ.{0}) ∧ (type_of% @List.map_cons.{0, 0}) ∧ (type_of% @List.map_nil.{0, 0}) ∧ (type_of% @List.cons_append.{0}) ∧ (type_of% @List.nil_append.{0}) ∧ (type_of% @List.append_nil.{0}) ∧ (type_of% @List.length_cons.{0}) ∧ (type_of% @List.length_nil.{0}) ∧ (type_of% @List.replicate_succ.{0}) ∧ (type_of% @List.replicate_zero.{0}) ∧ (type_of% @List.all_cons.{0}) ∧ (type_of% @List.all_nil.{0}) ∧ (type_of% @Option.getD_some.{0}) ∧ (type_of% @Bool.and_true) ∧ (type_of% @Bool.true_and) ∧ (type_of% @if_true.{1}) ∧ (type_of% @Bool.false_eq_true) ∧ (type_of% @if_false.{1}) ∧ (type_of% @true_and) ∧ (type_of% @and_true) ∧ (type_of% @true_or) ∧ (type_of% @decide_eq_true_eq) ∧ (type_of% @decide_true) ∧ (type_of% @decide_false) ∧ (type_of% @Bool.not_true) ∧ (type_of% @Bool.not_false) ∧ (type_of% @List.not_mem_nil.{0}) ∧ (type_of% @false_imp_iff) ∧ (type_of% @implies_true.{1}) :=
  ⟨@beq_self_eq_true.{0}, @List.getElem?_cons_zero.{0}, @List.getElem?_cons_succ.{0}, @List.set_cons_zero.{0}, @List.set_cons_succ.{0}, @List.map_cons.{0, 0}, @List.map_nil.{0, 0}, @List.cons_append.{0}, @List.nil_append.{0}, @List.append_nil.{0}, @List.length_cons.{0}, @List.length_nil.{0}, @List.replicate_succ.{0}, @List.replicate_zero.{0}, @List.all_cons.{0}, @List.all_nil.{0}, @Option.getD_some.{0}, @Bool.and_true, @Bool.true_and, @if_true.{1}, @Bool.false_eq_true, @if_false.{1}, @true_and, @and_true, @true_or, @decide_eq_true_eq, @decide_true, @decide_false, @Bool.not_true, @Bool.not_false, @List.not_mem_nil.{0}, @false_imp_iff, @implies_true.{1}⟩
theorem zt : (type_of% @eDT.eq_1) ∧ (type_of% @sPut.eq_1) ∧ (type_of% @sClear.eq_1) ∧ (type_of% @sReverse.eq_1) ∧ (type_of% @pIx_d2) ∧ (type_of% @eTR1.eq_1) ∧ (type_of% @pShl_ii) ∧ (type_of% @sExt.eq_1) ∧ (type_of% @sAttr.eq_1) ∧ (type_of% @eMake.eq_1) ∧ (type_of% @sMov.eq_1) ∧ (type_of% @eMeth.eq_1) ∧ (type_of% @eFld.eq_1) ∧ (type_of% @startI.eq_1) ∧ (type_of% @startM_c) ∧ (type_of% @sAsg.eq_1) ∧ (type_of% @pIAdd_ii) ∧ (type_of% @pISub_ii) ∧ (type_of% @pIMul_ii) ∧ (type_of% @iRange3.eq_1) ∧ (type_of% @iEnumP.eq_1) ∧ (type_of% @iZipP.eq_1) ∧ (type_of% @eLR1.eq_1) ∧ (type_of% @eLR2.eq_1) ∧ (type_of% @sSeq.eq_1) ∧ (type_of% @sNext.eq_1) ∧ (type_of% @sBreak.eq_1) ∧ (type_of% @sCont.eq_1) ∧ (type_of% @sNever.eq_1) ∧ (type_of% @sDrop.eq_1) ∧ (type_of% @sRet.eq_1) ∧ (type_of% @sRetN.eq_1) ∧ (type_of% @sIf.eq_1) ∧ (type_of% @sSet.eq_1) ∧ (type_of% @sSetO.eq_1) ∧ (type_of% @sFrz.eq_1) ∧ (type_of% @freeze.eq_1) ∧ (type_of% @sAug.eq_1) ∧ (type_of% @sApp.eq_1) ∧ (type_of% @sSetI.eq_1) ∧ (type_of% @sFor.eq_1) ∧ (type_of% @eVar.eq_1) ∧ (type_of% @eC.eq_1) ∧ (type_of% @eCons.eq_1) ∧ (type_of% @eNil.eq_1) ∧ (type_of% @eOp.eq_1) ∧ (type_of% @eTest.eq_1) ∧ (type_of% @eAnd.eq_1) ∧ (type_of% @eOr.eq_1) ∧ (type_of% @eNot.eq_1) ∧ (type_of% @eAndV.eq_1) ∧ (type_of% @eOrV.eq_1) ∧ (type_of% @eNotV.eq_1) ∧ (type_of% @eIf.eq_1) ∧ (type_of% @eTup.eq_1) ∧ (type_of% @eLst.eq_1) ∧ (type_of% @eNeg.eq_1) ∧ (type_of% @eTru.eq_1) ∧ (type_of% @eCall.eq_1) ∧ (type_of% @back.eq_1) ∧ (type_of% @eCB.eq_1) ∧ (type_of% @eIsi.eq_1) ∧ (type_of% @eComp.eq_1) ∧ (type_of% @tTrue.eq_1) ∧ (type_of% @eSl.eq_1) ∧ (type_of% @ePart.eq_1) ∧ (type_of% @eNoPart.eq_1) ∧ (type_of% @iSeq.eq_1) ∧ (type_of% @iRange1.eq_1) ∧ (type_of% @iRange2.eq_1) ∧ (type_of% @gN.eq_1) ∧ (type_of% @gT.eq_1) ∧ (type_of% @startP.eq_1) ∧ (type_of% @eChain.eq_1) ∧ (type_of% @pAdd_ii) ∧ (type_of% @pSub_ii) ∧ (type_of% @pMul_ii) ∧ (type_of% @pDiv_ii) ∧ (type_of% @pDivG_ii) ∧ (type_of% @pMod_ii) ∧ (type_of% @pModG_ii) ∧ (type_of% @pPow_ii) ∧ (type_of% @pAdd_ll) ∧ (type_of% @pAdd_ss) ∧ (type_of% @pMul_li) ∧ (type_of% @pI2_ii) ∧ (type_of% @pIsN_n) ∧ (type_of% @pNotN_n) ∧ (type_of% @pIsB_b) ∧ (type_of% @pNotB_b) ∧ (type_of% @pEq_ii) ∧ (type_of% @pNe_ii) ∧ (type_of% @pEq_bl) ∧ (type_of% @pNe_bl) ∧ (type_of% @pEq_tup) ∧ (type_of% @pNe_tup) ∧ (type_of% @pEq_lst) ∧ (type_of% @pNe_lst) ∧ (type_of% @pEq_str) ∧ (type_of% @pNe_str) ∧ (type_of% @pEq_scr) ∧ (type_of% @pNe_scr) ∧ (type_of% @pIx_l) ∧ (type_of% @pIx_t) ∧ (type_of% @pIx_s) ∧ (type_of% @pSl_l) ∧ (type_of% @pSl_s) ∧ (type_of% @pSl_t) ∧ (type_of% @pLen_l) ∧ (type_of% @pLen_t) ∧ (type_of% @pLen_s) ∧ (type_of% @pAbs_i) ∧ (type_of% @pMin_i) ∧ (type_of% @pMax_i) ∧ (type_of% @pTuple_l) ∧ (type_of% @pTuple_t) ∧ (type_of% @pList_l) ∧ (type_of% @pList_t) ∧ (type_of% @pAll_l) ∧ (type_of% @pSum_l) ∧ (type_of% @compGo_nil) ∧ (type_of% @compGo_cons) ∧ (type_of% @pickP.eq_1) :=
  ⟨@eDT.eq_1, @sPut.eq_1, @sClear.eq_1, @sReverse.eq_1, @pIx_d2, @eTR1.eq_1, @pShl_ii, @sExt.eq_1, @sAttr.eq_1, @eMake.eq_1, @sMov.eq_1, @eMeth.eq_1, @eFld.eq_1, @startI.eq_1, @startM_c, @sAsg.eq_1, @pIAdd_ii, @pISub_ii, @pIMul_ii, @iRange3.eq_1, @iEnumP.eq_1, @iZipP.eq_1, @eLR1.eq_1, @eLR2.eq_1, @sSeq.eq_1, @sNext.eq_1, @sBreak.eq_1, @sCont.eq_1, @sNever.eq_1, @sDrop.eq_1, @sRet.eq_1, @sRetN.eq_1, @sIf.eq_1, @sSet.eq_1, @sSetO.eq_1, @sFrz.eq_1, @freeze.eq_1, @sAug.eq_1, @sApp.eq_1, @sSetI.eq_1, @sFor.eq_1, @eVar.eq_1, @eC.eq_1, @eCons.eq_1, @eNil.eq_1, @eOp.eq_1, @eTest.eq_1, @eAnd.eq_1, @eOr.eq_1, @eNot.eq_1, @eAndV.eq_1, @eOrV.eq_1, @eNotV.eq_1, @eIf.eq_1, @eTup.eq_1, @eLst.eq_1, @eNeg.eq_1, @eTru.eq_1, @eCall.eq_1, @back.eq_1, @eCB.eq_1, @eIsi.eq_1, @eComp.eq_1, @tTrue.eq_1, @eSl.eq_1, @ePart.eq_1, @eNoPart.eq_1, @iSeq.eq_1, @iRange1.eq_1, @iRange2.eq_1, @gN.eq_1, @gT.eq_1, @startP.eq_1, @eChain.eq_1, @pAdd_ii, @pSub_ii, @pMul_ii, @pDiv_ii, @pDivG_ii, @pMod_ii, @pModG_ii, @pPow_ii, @pAdd_ll, @pAdd_ss, @pMul_li, @pI2_ii, @pIsN_n, @pNotN_n, @pIsB_b, @pNotB_b, @pEq_ii, @pNe_ii, @pEq_bl, @pNe_bl, @pEq_tup, @pNe_tup, @pEq_lst, @pNe_lst, @pEq_str, @pNe_str, @pEq_scr, @pNe_scr, @pIx_l, @pIx_t, @pIx_s, @pSl_l, @pSl_s, @pSl_t, @pLen_l, @pLen_t, @pLen_s, @pAbs_i, @pMin_i, @pMax_i, @pTuple_l, @pTuple_t, @pList_l, @pList_t, @pAll_l, @pSum_l, @compGo_nil, @compGo_cons, @pickP.eq_1⟩
theorem zo : (type_of% @Rd_v) ∧ (type_of% @Rd_n) ∧ (type_of% @Rd_o) ∧ (type_of% @Ro_v) ∧ (type_of% @Ro_n) ∧ (type_of% @Ro_o) ∧ (type_of% @Rf_v) ∧ (type_of% @Rf_n) ∧ (type_of% @Rf_o) ∧ (type_of% @Rl_v) ∧ (type_of% @Rl_n) ∧ (type_of% @Rl_o) ∧ (type_of% @eqD_bb) ∧ (type_of% @forGo_nil) ∧ (type_of% @forGo_cons) ∧ (type_of% @isB_bb) ∧ (type_of% @isB_int) ∧ (type_of% @isN_n) ∧ (type_of% @isN_b) ∧ (type_of% @isN_i) ∧ (type_of% @isN_s) ∧ (type_of% @isN_t) ∧ (type_of% @isN_l) ∧ (type_of% @isN_o) ∧ (type_of% @truD_b) ∧ (type_of% @truD_n) ∧ (type_of% @truD_i) ∧ (type_of% @truD_l) ∧ (type_of% @truD_t) ∧ (type_of% @truD_k) ∧ (type_of% @truD_s) ∧ (type_of% @atI_0) ∧ (type_of% @atI_1) ∧ (type_of% @atI_2) ∧ (type_of% @atI_3) ∧ (type_of% @atI_4) ∧ (type_of% @ixN_10) ∧ (type_of% @ixN_20) ∧ (type_of% @ixN_21) ∧ (type_of% @ixN_30) ∧ (type_of% @ixN_31) ∧ (type_of% @ixN_32) ∧ (type_of% @ixN_40) ∧ (type_of% @ixN_41) ∧ (type_of% @ixN_42) ∧ (type_of% @ixN_43) ∧ (type_of% @ixN_50) ∧ (type_of% @ixN_51) ∧ (type_of% @ixN_52) ∧ (type_of% @ixN_53) ∧ (type_of% @ixN_54) :=
  ⟨@Rd_v, @Rd_n, @Rd_o, @Ro_v, @Ro_n, @Ro_o, @Rf_v, @Rf_n, @Rf_o, @Rl_v, @Rl_n, @Rl_o, @eqD_bb, @forGo_nil, @forGo_cons, @isB_bb, @isB_int, @isN_n, @isN_b, @isN_i, @isN_s, @isN_t, @isN_l, @isN_o, @truD_b, @truD_n, @truD_i, @truD_l, @truD_t, @truD_k, @truD_s, @atI_0, @atI_1, @atI_2, @atI_3, @atI_4, @ixN_10, @ixN_20, @ixN_21, @ixN_30, @ixN_31, @ixN_32, @ixN_40, @ixN_41, @ixN_42, @ixN_43, @ixN_50, @ixN_51, @ixN_52, @ixN_53, @ixN_54⟩
end Z
namespace Z
open PySem PySem.Spec PyProof.Rows L2
theorem start_low {K : PySem.W.Frag} {H : Hp} {a : Addr} {ns : List Int} {sp : Fn} (h : ∀ Q : R → Prop, Q (.v (.bl true)) → sp [.scr ns] Q) (hO : Only H) (hS : SqL K H a (ns.map V.int)) : low K sp [.ref a] H (fun v _ => v = .bl true) (fun _ _ _ => False) := by
  refine ⟨fun _ => False, [.scr ns], fun _ z => z.elim, .cons (.scr ?_) .nil, h _ fun x H' S r => ?_⟩
  · rcases hS with (h | h) | h
    · rcases hO a with z | ⟨o, xs, z⟩
      · rw [z] at h; cases h
      · rw [z] at h; cases h
    · exact .inl h
    · exact .inr h
  · have r' : Rep K (fun _ => False) H' x (.bl true) := r
    cases r'
    rfl
end Z
namespace Z
open PySem PySem.Spec PyProof.Rows L2
section
variable {X : Cx}
end
end Z
namespace L2
open PySem PySem.Spec PyProof.Rows
section
variable {P : Program} {w : World} {K : PySem.W.Frag} {H H' : Hp} {h h' : Heap} {a C : Addr}
theorem ObjOk.at {o : HO} (x : ObjOk P w H h a o) : ∃ ob, h.get? a = some ob := by
  cases o with
  | lst xs => obtain ⟨_, _, _, _, e⟩ := x; exact ⟨_, e⟩
  | tup xs => obtain ⟨_, _, _, _, e, _⟩ := x; exact ⟨_, e⟩
  | dK kvs => obtain ⟨_, _, _, _, o, _, _, e, _⟩ := x; exact ⟨_, e⟩
  | dT kvs => obtain ⟨_, _, _, _, o, _, _, e, _⟩ := x; exact ⟨_, e⟩
  | set S n => obtain ⟨o, _, _, _, e, _⟩ := x; exact ⟨_, e⟩
  | ins C dx fs => obtain ⟨_, _, _, e, _⟩ := x; exact ⟨_, e⟩
  | own y => exact x
  | xd fs => obtain ⟨_, ⟨_, _, _, e, _⟩, _⟩ := x; exact ⟨_, e⟩
  | rng lo hi => obtain ⟨_, _, _, e⟩ := x; exact ⟨_, e⟩
  | frz ob u => obtain ⟨e, _⟩ := x; exact ⟨_, e⟩
  | tbl ps => exact ⟨_, (show h.get? a = some _ from x)⟩
  | met f y => exact ⟨_, (show h.get? a = some _ from x)⟩
  | ext φ => obtain ⟨_, e, _⟩ := x; exact e
theorem HOk.out (x : HOk P w H h) (e : h.get? a = none) : H a = none := by
  cases q : H a with
  | none => rfl
  | some u =>
    obtain ⟨o, z⟩ := (x a u q).at
    rw [e] at z
    cases z
abbrev exRow : List Value := [.type "ValueError", .type "Exception", .type "BaseException", .type "object"]
def ExcC (K : PySem.W.Frag) (C : Addr) : Prop := PySem.W.excIn K C exRow "ValueError.__new__" = true
theorem ExcC.cls (X : K.In h) (q : ExcC K C) : ∃ bm N nm qn bs hd sn sub ab col dd k0 k1 k2 k3 k5 mN,
    h.get? C = some (excClassObj nm qn C N bs bm hd sn sub ab col dd k0 k1 k2 k3 k5 "ValueError.__new__") ∧ h.Ns N mN ∧ mN "__init__" = none ∧ OwnTail h exRow bm := by
  unfold ExcC PySem.W.excIn at q
  split at q
  · rename_i dd cd sl ho
    split at q
    · rename_i C1 bm a0 a1 a2 a3 n a5 hm hs
      rw [Bool.and_eq_true, Bool.and_eq_true, Bool.and_eq_true, Bool.and_eq_true, Bool.and_eq_true] at q
      obtain ⟨⟨⟨⟨⟨e1, e2⟩, e3⟩, e4⟩, e5⟩, e6⟩ := q
      cases beq_iff_eq.mp e1
      cases beq_iff_eq.mp e2
      cases cd with
      | mk nm bs mro ns qn hd sn sub ab col del =>
        dsimp only at hm e3 e5 e6
        cases hm
        have dz : del = false := by cases del <;> simp_all
        cases dz
        cases sl with
        | mk l =>
          dsimp only at hs
          cases hs
          exact ⟨bm, ns, nm, qn, bs, hd, sn, sub, ab, col, dd, a0, a1, a2, a3, a5, _, X _ _ ho, .of_isNs (PySem.W.isNs_of_in X e5), PySem.W.nsMap_none_of_in X e5 (beq_iff_eq.mp e6), PySem.W.tail_of_in X e4⟩
    · cases q
  · cases q
end
def CX1 (P : Program) (w : World) : CXT := fun outer H s E e s' => ∃ (a t C : Addr) (H' : Hp) (B : Heap), e = .ref a ∧ s'.os = s.os ∧ AllBare s'.gens ∧ Un (frs outer) [] H H' s.heap s'.heap ∧ HOk P w H' s'.heap ∧
  Heap.FlyingW B outer a (.ref C) (.ref t) s'.heap ∧ (∀ b o, s'.heap.get? b = some o → b ∉ frs outer → (H' b ≠ none ∨ ∃ u, s.heap.get? b = some u) → B.get? b = some o) ∧ s.heap.get? a = none ∧ H' a = none ∧ E (.ref C) none H'
section
variable {P : Program} {w : World} {fs : List Addr} {H H' : Hp} {h0 h1 h2 B : Heap}
theorem Un.fly (u : Un fs [] H H' h0 h1) (k : ∀ b o, h1.get? b = some o → b ∉ fs → (H' b ≠ none ∨ ∃ u, h0.get? b = some u) → B.get? b = some o) (hB : B.StaysIn h2)
    (sl : ∀ b ∈ fs, ∀ o, h1.get? b = some o → ∃ z, h2.get? b = some { o with slots := z }) : Un fs [] H H' h0 h2 where
  keep := fun b o e n hb hx => hB b o (k b o (u.keep b o e n hb hx) hb (.inr ⟨_, e⟩))
  slot := fun b o e n hb hx => by
    obtain ⟨z, q⟩ := u.slot b o e n hb hx
    obtain ⟨z', q'⟩ := sl b hb _ q
    exact ⟨z', q'⟩
  free := u.free
  there := fun b o e hx => by
    obtain ⟨o', q⟩ := u.there b o e hx
    by_cases hb : b ∈ fs
    · obtain ⟨z, q'⟩ := sl b hb _ q
      exact ⟨_, q'⟩
    · exact ⟨_, hB b o' (k b o' q hb (.inr ⟨_, e⟩))⟩
  tups := u.tups
  frzs := u.frzs
  tbls := u.tbls
theorem HOk.fly (x : HOk P w H' h1) (nf : ∀ b ∈ fs, H' b = none) (k : ∀ b o, h1.get? b = some o → b ∉ fs → (H' b ≠ none ∨ ∃ u, h0.get? b = some u) → B.get? b = some o) (hB : B.StaysIn h2) : HOk P w H' h2 := fun b o e =>
  (x b o e).stay (fun c v hc q => by
    have hn : H' c ≠ none := by
      rcases hc with z | z
      · rw [z, e]; simp
      · rw [z]; simp
    exact hB c v (k c v q (fun m => hn (nf c m)) (.inl hn))) (fun _ q => q) fun _ _ q => q
end
section
variable {P : Program} {w : World} {K : PySem.W.Frag} {mg : Str → Option Value} {base : Heap} {N : List Str} {qual : Str} {scope : Scope} {f : Addr} {cd : Value} {A : Around} {outer : List Env} {s0 : Shared} {H0 : Hp} {E : XK}
theorem xe_made {pins : List (Addr × Obj)} {σ : St} {H : Hp} {s : Shared} {h' : Heap} {a C : Addr} {us : List Value} (I : Inv (cxOf (CX1 P w) P w K mg base N qual scope f cd A outer s0 H0 E) pins σ H s) (m : Heap.MadeExcOf s.heap h' a (.ref C) us)
    (hE : E (.ref C) none H) : (cxOf (CX1 P w) P w K mg base N qual scope f cd A outer s0 H0 E).xe (.ref a) { s with heap := h' } := by
  have hin : ∀ env ∈ (cxOf (CX1 P w) P w K mg base N qual scope f cd A outer s0 H0 E).stack, ∀ b, env.frame = some b → b ∈ frs (cxOf (CX1 P w) P w K mg base N qual scope f cd A outer s0 H0 E).stack := fun env he b hb => List.mem_filterMap.mpr ⟨env, he, hb⟩
  refine wpAny_leaves_madeW (base := PySem.W.hideAll s.heap (frs (cxOf (CX1 P w) P w K mg base N qual scope f cd A outer s0 H0 E).stack)) I.ok.frames rfl (fun b o q => PySem.W.of_hideAll _ q) (PySem.W.funFrames_hide I.stack hin) m fun h2 t x1 x2 x3 x4 => ?_
  have fs : ∀ b, b ∈ frs (cxOf (CX1 P w) P w K mg base N qual scope f cd A outer s0 H0 E).stack → b = (envOfC qual scope s0.heap.objs.size f cd).locals ∨ b ∈ frs outer := fun b hb => List.mem_cons.mp (I.stkSub b hb)
  have k1 : ∀ b o, s.heap.get? b = some o → b ∉ frs outer → (H b ≠ none ∨ ∃ u, s0.heap.get? b = some u) → (PySem.W.hideAll s.heap (frs (cxOf (CX1 P w) P w K mg base N qual scope f cd A outer s0 H0 E).stack)).get? b = some o := fun b o e nb hc => by
    refine PySem.W.hideAll_get _ e fun hm => ?_
    rcases fs b hm with z | z
    · rcases hc with hc | ⟨u, hu⟩
      · exact hc (I.stkFree b hm)
      · have : b < s0.heap.objs.size := Heap.lt_size hu
        have h2 : s0.heap.objs.size ≤ b := by rw [z]; exact I.ok.above
        exact absurd (Nat.lt_of_lt_of_le this h2) (Nat.lt_irrefl _)
    · exact nb z
  have sl : ∀ b ∈ frs outer, ∀ o, s.heap.get? b = some o → ∃ z, h2.get? b = some { o with slots := z } := fun b hb o e => by
    obtain ⟨_, o', q, nf⟩ := I.funs.mem hb
    rw [e] at q
    cases q
    exact x4 b o (m.keeps b o e) nf
  refine ⟨a, t, C, H, _, rfl, I.os, I.bare, Un.fly I.base k1 x1.1 sl, HOk.fly (fs := frs outer) I.hok (fun b hb => ?_) k1 x1.1, x1, fun b o e nb hc => ?_, ?_, I.hok.out m.new, hE⟩
  · obtain ⟨_, o, q, _⟩ := I.ok.funs.mem hb
    exact I.base.free b o q (I.ok.frf b hb) (fun z => nomatch z)
  · have : ∃ o', s.heap.get? b = some o' := by
      rcases hc with hc | ⟨u, hu⟩
      · cases q : H b with
        | none => exact (hc q).elim
        | some v => exact (I.hok b v q).at
      · exact I.base.there b u hu (fun z => nomatch z)
    obtain ⟨o', q⟩ := this
    have q1 := k1 b o' q nb hc
    have q2 := x1.1 b o' q1
    rw [e] at q2
    cases q2
    exact q1
  · cases q : s0.heap.get? a with
    | none => rfl
    | some o =>
      obtain ⟨o', q'⟩ := I.base.there a o q (fun z => nomatch z)
      rw [m.new] at q'
      cases q'
end
section
variable {X : Cx} {x : Str} {C : Addr} {e : Expr} {es : List Expr} {t : TA} {np cpos pos : Pos}
theorem ps_raise {Ψ : Hp → Prop} (hh : X.A.handled = none) (hm : X.mg x = some (.ref C)) (hg : Gl X x) (q : ExcC X.K C) (ha : PA X (e :: es) t)
    (hx : ∀ (pins : List (Addr × Obj)) (σ : St) (H : Hp) (s : Shared) (h' : Heap) (a : Addr) (us : List Value), Inv X pins σ H s → Heap.MadeExcOf s.heap h' a (.ref C) us → Ψ H → X.xe (.ref a) { s with heap := h' })
    (hdb : (x == ("__debug__" : Str)) = false := by decide) (he : starEach (e :: es) X.env = (false, eval e X.env) :: starEach es X.env := by rfl) (hpl : (backTo cpos (starEach es X.env)).any (·.1) = false := by rfl) :
    PS X (.Raise (some (.Call (.Name x np) (e :: es) [] cpos)) none pos) (fun _ σ H => t σ H fun vs H1 => vs.length ≤ sizeLine ∧ Ψ H1) := by
  intro pins s σ H D I h
  obtain ⟨bm, N, nm, qn, bs, hd, sn, sub, ab, col, dd, a0, a1, a2, a3, a5, mN, c1, c2, c3, c4⟩ := q.cls I.ok.mod.kin
  refine wpAny_Raise_call_subT (N := N) (bm := bm) (C := C) (q := qn) (nm := nm) (bs := bs) (sn := sn) (hdct := hd) (sub := sub) (col := col) (ab := ab) (dd := dd) (k5 := a5) (k0 := a0) (k1 := a1) (k2 := a2) (k3 := a3) PySem.F.excBase_ValueError (mN := mN) (c4.hasType rfl) hh ?_ c3 (ld_glob I hg hm ⟨rfl, ?_⟩ hdb)
  · rw [he]
    show (false || (backTo cpos (starEach es X.env)).any (·.1)) = false
    rw [hpl]
    rfl
  · have h1 := ha cpos pins s σ H _ I h
    rw [he] at h1 ⊢
    refine Calls.evalArgs_plain (wpAny_mono h1 (fun us s1 z => ?_) fun _ _ z => z)
    obtain ⟨vs, H1, I1, r, l, p⟩ := z
    exact ⟨rfl, by rw [← r.length]; exact l, I1.bk _ _ c1, c2.keeps I1.bk, c4.keeps I1.bk, fun h' a m => hx pins σ H1 s1 h' a us I1 m p⟩
end
end L2
namespace L2
open PySem PySem.Spec PyProof.Rows
abbrev Cx.inx (X : Cx) (a : Addr) : Cx := { X with A := X.A.mark (some (.ref a)), calm := false, xe := fun _ _ => False }
section
variable {X : Cx} {pins : List (Addr × Obj)} {σ : St} {H : Hp} {s : Shared} {a : Addr}
theorem Cx.Ok.inx (ok : X.Ok) (a : Addr) : (X.inx a).Ok :=
  ⟨ok.mod, ok.kind, ok.glob, ok.blt, ok.above, ok.inj, ok.has, ok.cab, (fun z => nomatch z), ok.frames, ok.stk, ok.exf, ok.bs, ok.bsz, ok.noex, ok.exfs, ok.funs, ok.frf⟩
theorem Inv.inx (I : Inv X pins σ H s) (a : Addr) : Inv (X.inx a) pins σ H s := ⟨I.ok.inx a, I.os, I.bare, I.base, I.loc, I.cell, I.free, I.freeC, I.pin, I.hok, I.len⟩
theorem Inv.outx (ok : X.Ok) (I : Inv (X.inx a) pins σ H s) : Inv X pins σ H s := ⟨ok, I.os, I.bare, I.base, I.loc, I.cell, I.free, I.freeC, I.pin, I.hok, I.len⟩
theorem Inv.goes {M : Model} {A : Around} {E : Value → Shared → Prop} {Q : Unit → Shared → Prop} {n : Str} {i : Nat} {pos : Pos} (I : Inv X pins σ H s) (hN : X.N.Nodup) (hi : X.N[i]? = some n) (hk : X.env.scope.names.lookup n = some .local)
    (h : ∀ s', Inv X pins (σ.set i none) H s' → Q () s') : wpAny M A (do bindName X.env n .none; unbindBehindTheSuite X.env n pos) Q E s := by
  obtain ⟨m, hn, hl⟩ := id I.loc
  have hcls : (X.env.scope.kind == .class || (X.env.scope.kind == .module && X.env.locals != X.env.globals)) = false := by rw [I.ok.kind]; rfl
  refine wpAny_nameGoes_keeps hk hn hcls fun h' v hn' hs => h _ ?_
  have old : ∀ b o, X.s₀.heap.get? b = some o → h'.get? b = s.heap.get? b := fun b o e => hs.2 b (Nat.ne_of_lt (Nat.lt_of_lt_of_le (Heap.lt_size e) I.ok.above))
  refine ⟨I.ok, I.os, I.bare, ⟨fun b o e n hb hx => ?_, fun b o e n hb hx => ?_, I.base.free, fun b o e hx => ?_, I.base.tups, I.base.frzs, I.base.tbls⟩, ⟨_, hn', fun j y v' e1 e2 e3 => ?_⟩, fun y c e => ?_, I.free, I.freeC, fun p hp => ?_, fun b ob e => ?_, by simpa using I.len⟩
  · exact (old b o e).trans (I.base.keep b o e n hb hx)
  · obtain ⟨sl, q⟩ := I.base.slot b o e n hb hx
    exact ⟨sl, (old b o e).trans q⟩
  · obtain ⟨o', q⟩ := I.base.there b o e hx
    exact ⟨o', (old b o e).trans q⟩
  · have ne : i ≠ j := fun z => by
      subst z
      by_cases hl2 : i < σ.length
      · rw [List.getElem?_set_self hl2] at e2; cases e2
      · rw [List.getElem?_eq_none (by simpa using Nat.le_of_not_lt hl2)] at e2; cases e2
    rw [List.getElem?_set_ne ne] at e2
    obtain ⟨u, r, q⟩ := hl j y v' e1 e2 e3
    have yn : y ≠ n := fun z => ne (nodup_ix hN hi (z ▸ e1))
    refine ⟨u, r, ?_⟩
    rcases q with ⟨k, q⟩ | ⟨k, c, q, z⟩
    · exact .inl ⟨k, by simp [yn, q]⟩
    · exact .inr ⟨k, c, q, z.sameBut hs (I.cne y c q)⟩
  · obtain ⟨w', z⟩ := I.cell y c e
    exact ⟨w', z.sameBut hs (I.cne y c e)⟩
  · obtain ⟨e, q, ne, nf, d⟩ := I.pin p hp
    exact ⟨(hs.2 p.1 ne).trans e, q, ne, nf, d⟩
  · refine (I.hok b ob e).stay (fun c w' hc q => (hs.2 c ?_).trans q) (fun _ q => q) fun _ _ q => q
    rintro rfl
    rcases hc with rfl | hc
    · rw [I.free] at e; cases e
    · rw [I.free] at hc; cases hc
end
section
variable {X : Cx} {pins : List (Addr × Obj)} {σ : St} {H1 : Hp} {s1 s2 : Shared} {E : XK} {e : Value} {D : Ends}
abbrev Ends.goes (D : Ends) (i : Nat) : Ends := { nx := fun σ H => D.nx (σ.set i none) H, rt := D.rt, bk := fun σ H => D.bk (σ.set i none) H, ct := fun σ H => D.ct (σ.set i none) H }
theorem caught {c n : Str} {i : Nat} {b0 : Stmt} {hb : List Stmt} {hpos np : Pos} {rest : List ExceptHandler} {th : TS} {C0 : Addr} (I1 : Inv X pins σ H1 s1) (cx : CX1 X.prog X.w X.stack H1 s1 E e s2)
    (hN : X.N.Nodup) (hi : X.N[i]? = some n) (hk : X.env.scope.names.lookup n = some .local) (hst : X.stack = X.env :: X.outer) (hfr : X.env.frame = some X.env.locals) (hg : Gl X c) (hm : X.mg c = some (.ref C0))
    (hx : PySem.W.exmOne X.K (.ref C0) (.ref C0) = some true)
    (hE : ∀ C H', E (.ref C) none H' → C = C0 ∧ ∀ a o, H' a = none → o.cls = .ref C0 → th (D.goes i) (σ.set i (some (.ref a))) (upd H' a (.frz o (.own a))))
    (hbody : ∀ a, PSs (X.inx a) (b0 :: hb) th) (hdb : (c == ("__debug__" : Str)) = false := by decide) :
    wpAny (model X.prog X.w) X.A (noteFrame e X.env) (fun _ s3 => wpAny (model X.prog X.w) X.A (setFlight e none) (fun _ s4 =>
      wpAny (model X.prog X.w) X.A (handleBy e X.env (.ExceptHandler (some (.Name c np)) (some n) (b0 :: hb) hpos :: rest)) (SP X pins D) X.xe s4) X.xe s3) X.xe s2 := by
  obtain ⟨a, t, C, H', B, rfl, os, bare, un, hok, fl, k, na, nH, hE'⟩ := cx
  obtain ⟨rfl, go⟩ := hE C H' hE'
  have ff : X.A.frames = some (X.env :: X.outer) := by rw [← hst]; exact I1.ok.frames
  have nfr : ∀ b ∈ frs X.stack, H' b = none := fun b hb => by
    obtain ⟨_, o, q, _⟩ := I1.stack.mem hb
    exact un.free b o q (I1.stkFree b hb) (fun z => nomatch z)
  have sl : ∀ {h : Heap}, s2.heap.UpToSlots h → ∀ b ∈ frs X.stack, ∀ o, s2.heap.get? b = some o → ∃ z, h.get? b = some { o with slots := z } := fun {h} u b hb o e => by
    obtain ⟨_, o1, q, nf⟩ := I1.stack.mem hb
    obtain ⟨z, q2⟩ := un.slot b o1 q (I1.stkFree b hb) hb (fun z => nomatch z)
    rw [e] at q2
    cases q2
    exact u b _ e nf
  have inv : ∀ h, B.StaysIn h → s2.heap.UpToSlots h → Inv X pins σ H' { s2 with heap := h } := fun h hB u =>
    I1.call' os (un.fly k hB (sl u)) (HOk.fly hok nfr k hB) bare (fun _ z => nomatch z)
  rw [hst] at fl
  refine wpAny_looks_onW ff hfr fl fun h4 hl4 u4 => ?_
  refine wpAny_landsW hl4 fun h5 hl5 u5 => ?_
  have I5 := inv h5 hl5.1 (u4.trans u5)
  obtain ⟨o5, _, he5, hc5, _⟩ := hl5.first
  have I5x := I5.inx a
  refine wpAny_handleBy_cons (codeAny_handlers_test (ld_glob (X := X.inx a) I5x hg hm ?_ hdb)) (fun z => nomatch z)
  have LT : PySem.W.Looks (model X.prog X.w) h5 (typeOf (.ref a)) (.ref C) := hc5 ▸ (PySem.W.Looks.ld he5).andThen .now
  refine (PySem.W.exm_one I5.kIn LT hx).here (codeAny_handlers_suite_as ?_)
  refine lands_againW hl5 fun h6 hl6 u6 => ?_
  have U6 := (u4.trans u5).trans u6
  obtain ⟨o6, _, he6, hc6, _⟩ := hl6.first
  have I6 := inv h6 hl6.1 U6
  have nu : ∀ b u, H' b = some u → b ≠ a := fun b u e z => by rw [z, nH] at e; cases e
  have I7 : Inv X pins σ (upd H' a (.frz o6 (.own a))) { s2 with heap := h6 } := by
    have un6 := un.fly k hl6.1 (sl U6)
    refine I1.call' os (ch := []) ⟨un6.keep, un6.slot, fun b o e n hx => ?_, un6.there, fun b xs e => ?_, fun b o u e => ?_, fun b ps e => ?_⟩ (fun b u e => ?_) bare (fun _ z => nomatch z)
    · rw [upd_ne (fun z => by rw [z, na] at e; cases e)]
      exact un6.free b o e n hx
    · rw [upd_ne (nu b _ (un6.tups b xs e))]
      exact un6.tups b xs e
    · rw [upd_ne (nu b _ (un6.frzs b o u e))]
      exact un6.frzs b o u e
    · obtain ⟨m, q⟩ := un6.tbls b ps e
      exact ⟨m, by rw [upd_ne (nu b _ q)]; exact q⟩
    · by_cases hb : b = a
      · subst hb
        rw [upd_same] at e
        cases e
        exact ⟨he6, _, he6⟩
      · rw [upd_ne hb] at e
        exact (I6.hok b u e).stay (fun _ _ _ q => q) (fun c q => by rw [upd_ne (nu c _ q)]; exact q) fun c xs q => by rw [upd_ne (nu c _ q)]; exact q
  refine store_ok (X := X.inx a) (v := .ref a) (I7.inx a) hN hi (.inl hk) rfl (fun s7 I8 => ?_) (.inr hk)
  refine wpAny_mono (hbody a pins s7 _ _ (D.goes i) I8 (go a o6 nH hc6)) (fun f s8 q => ?_) fun _ _ z => z.elim
  cases f with
  | next =>
    obtain ⟨σ', H'', I9, q⟩ := q
    exact (I9.outx I1.ok).goes hN hi hk fun s9 I10 => ⟨_, _, I10, q⟩
  | brk =>
    obtain ⟨σ', H'', I9, q⟩ := q
    exact (I9.outx I1.ok).goes hN hi hk fun s9 I10 => ⟨_, _, I10, q⟩
  | cont =>
    obtain ⟨σ', H'', I9, q⟩ := q
    exact (I9.outx I1.ok).goes hN hi hk fun s9 I10 => ⟨_, _, I10, q⟩
  | ret u =>
    obtain ⟨v, σ', H'', I9, r, q⟩ := q
    exact (I9.outx I1.ok).goes hN hi hk fun s9 I10 => ⟨v, _, _, I10, r, q⟩
end
section
variable {X : Cx} {k : Nat} {f : Addr} {fd : FuncData} {ps : List Str} {sp : Sp} {x : Str} {p cpos epos pos : Pos} {e : Expr} {es : List Expr} {t : TA}
end
end L2
namespace L2
open PySem PySem.Spec PyProof.Rows
structure ExcI (K : PySem.W.Frag) (C : Addr) : Prop where
  cls : PySem.W.isClsIn K C = true
  ga : PySem.W.findIn K (.ref C) "__getattribute__" = some (some (.builtin "BaseException.__getattribute__"))
  gt : PySem.W.findIn K (.ref C) "__getattr__" = some none
  be : PySem.W.mroIn K C (.type "BaseException") = some true
  ca : PySem.W.findIn K (.ref C) "__class__" = some (some (.builtin "object.__class__"))
  sp : PySem.W.specialIn K (.builtin "object.__class__") "__get__" = some (some (.builtin "getset_descriptor.__get__"))
  tk : PySem.W.takesIn K (.builtin "object.__class__") = some true
  ob : PySem.W.mroIn K C (.type "object") = some true
def OfCls (x C : Addr) (h : Heap) : Prop := ∃ o, h.get? x = some o ∧ o.cls = .ref C
section
open PySem.Calls PySem.Builtin PySem.Builtin.ObjectAttr PySem.Builtin.Getset_descriptor
variable {K : PySem.W.Frag} {M : Model} {h : Heap} {x C : Addr}
theorem OfCls.ty (o : OfCls x C h) : PySem.W.Looks M h (typeOf (.ref x)) (.ref C) := by
  obtain ⟨ox, e, c⟩ := o
  rw [← c]
  exact (PySem.W.Looks.ld e).andThen .now
theorem looks_bound {n : Str} {a g : Value} (X : K.In h) (ha : PySem.W.findIn K (.ref C) n = some (some a)) (hg : PySem.W.specialIn K a "__get__" = some (some g)) (ht : PySem.W.takesIn K a = some true) :
    PySem.W.Looks M h (find (.ref x) (.ref C) n) (.bind g a) := by
  have l1 := PySem.W.looks_findIn (M := M) X ha
  have l2 : PySem.W.Looks M h (getOf (some a)) (some g) := PySem.W.looks_specialIn X hg
  have l3 : PySem.W.Looks M h (dataDescriptor? (some a) (some g)) (some (g, a)) := (PySem.W.looks_takesIn (M := M) X ht).andThen .now
  exact l1.andThen (l2.andThen (l3.andThen (PySem.W.Looks.tag .now)))
variable {prog : Program} {w : World} {A : Around} {E : Value → Shared → Prop} {s : Shared}
theorem class_of_exc {R : Result → Shared → Prop} {tp : Value} (X : K.In s.heap) (o : OfCls x C s.heap) (hm : PySem.W.mroIn K C (.type "object") = some true) (hR : R (.ok (.ret (.ref C))) s) :
    codeAny (model prog w) A (.call (.builtin "getset_descriptor.__get__") ⟨[.builtin "object.__class__", .ref x, tp], []⟩) R s := by
  obtain ⟨hp, ge, dr, tk, os⟩ := s
  have l0 : PySem.W.Looks (model prog w) hp (typeOf (.ref x)) (.ref C) := o.ty
  have l1 := PySem.W.looks_mroIn (M := model prog w) X hm
  refine codeAny_call_builtin PySem.W.KF.slot_gs.plain PySem.W.KF.entry_gs (PySem.W.KF.slot_gs.check _ _ _ _ _ _ _ _ PySem.W.KF.type_class (PySem.W.KF.args_gs _ _ _) ?_)
  unfold Builtin.«getset_descriptor.__get__»
  unfold descrGet
  rw [PySem.W.dga_obj]
  refine wpAny_bind (wpAny_pure ?_)
  unfold descrGetter
  unfold descrCheckInstance
  unfold descrNameAndClass
  unfold isInstance
  simp only [PySem.W.KF.owner_class]
  repeat lk
  refine ⟨Code.quiet_builtin _ (by decide +kernel), codeAny_builtin PySem.W.KF.entry_class ?_⟩
  unfold Builtin.«object.__class__»
  unfold shownTypeOf
  repeat lk
  exact hR
theorem ga_entry {R : Fin → Shared → Prop} {tk : Tok} (X : K.In s.heap) (o : OfCls x C s.heap) (c : ExcI K C) (hR : R (.done (.ret (.ref C))) s) : wpAny (model prog w) A (Builtin.«object.__getattribute__» ⟨[.ref x, .str "__class__" tk], []⟩) R E s := by
  obtain ⟨hp, g, d, t, os⟩ := s
  have l0 : PySem.W.Looks (model prog w) hp (typeOf (.ref x)) (.ref C) := o.ty
  have l3 := looks_bound (M := model prog w) (x := x) X c.ca c.sp c.tk
  unfold Builtin.«object.__getattribute__»
  refine wpAny_bind (wpAny_pure (wpAny_bind (wpAny_pure (wpAny_bind (l0.at (wpAny_bind (l3.at ?_)))))))
  show wpAny _ _ (bindTo _ _ _ _) _ _ _
  unfold bindTo
  refine wpAny_bind (wpAny_holding (wpAny_call (class_of_exc X o c.ob ?_)))
  exact wpAny_pure hR
theorem ga_check {Q : Unit → Shared → Prop} {nv : Value} (X : K.In s.heap) (o : OfCls x C s.heap) (c : ExcI K C) (hQ : Q () s) : wpAny (model prog w) A (checkBuiltinCall "BaseException.__getattribute__" ⟨[.ref x, nv], []⟩) Q E s := by
  obtain ⟨hp, g, d, t, os⟩ := s
  have l0 : PySem.W.Looks (model prog w) hp (typeOf (.ref x)) (.ref C) := o.ty
  have l4 := PySem.W.looks_mroIn (M := model prog w) X c.be
  have k1 : builtinKind "BaseException.__getattribute__" = some .slot := by decide +kernel
  have k2 : splitId "BaseException.__getattribute__" = some ("BaseException", "__getattribute__") := by decide +kernel
  have k3 := PySem.F.args_bexc_ga (.ref x) nv
  simp only [checkBuiltinCall, k1, k2]
  refine wpAny_bind ?_
  unfold isInstance
  refine wpAny_bind (l0.at (l4.at ?_))
  repeat (any_goals (first | assumption | wp_step))
theorem attr_class_exc {Q : Option Value → Shared → Prop} (X : K.In s.heap) (o : OfCls x C s.heap) (c : ExcI K C) (hQ : Q (some (.ref C)) { s with toks := s.toks + 1 }) : wpAny (model prog w) A (getAttr? (.ref x) "__class__") Q E s := by
  obtain ⟨hp, g, d, t, os⟩ := s
  have l0 : PySem.W.Looks (model prog w) hp (typeOf (.ref x)) (.ref C) := o.ty
  have l1 := PySem.W.looks_findIn (M := model prog w) X c.ga
  have l2 := PySem.W.looks_findIn (M := model prog w) X c.gt
  have l4 := PySem.W.looks_mroIn (M := model prog w) X c.be
  have ne : (Value.builtin "BaseException.__getattribute__" == Value.builtin "object.__getattribute__") = false := by decide +kernel
  unfold getAttr?
  unfold getAttrBy?
  unfold getAttrBy
  refine wpAny_bind (wpAny_mkText (wpAny_bind (wpAny_attempt (wpAny_holding (wpAny_bind (l0.at (wpAny_bind (l1.at ?_))))))))
  dsimp only
  rw [ne, Bool.and_false, if_neg Bool.false_ne_true]
  unfold getAttrByItsOwn
  unfold hookBefore
  rw [if_pos (show onTheHeap (Value.ref C) = true from rfl)]
  refine wpAny_bind (l2.at ?_)
  refine wpAny_bind (wpAny_attempt (wpAny_holding ?_))
  unfold callGetattribute
  rw [if_neg (by simp)]
  unfold boundAndCalled
  refine wpAny_bind (wpAny_of_eq (PySem.F.attr_ValueError.ga.bind (.ref x)) ?_)
  refine wpAny_call (codeAny_call_builtin PySem.F.attr_ValueError.ga.plain PySem.F.entry_bexc_ga ?_)
  refine ga_check X o c (ga_entry X o c ?_)
  exact PySem.W.handed_on rfl (wpAny_pure hQ)
theorem kit_exc (c : ExcI K C) : PySem.W.KitX K (.ref x) (.ref C) (OfCls x C) where
  ty := fun _ _ _ o => o.ty
  it := fun _ _ X _ => by
    have cl := c.cls
    unfold PySem.W.isClsIn PySem.W.clsIn at cl
    split at cl
    · rename_i ho
      intro A1 Q1 E1 s1 kp z
      unfold isType loadHead
      exact wpAny_bind (wpAny_loadPart (kp _ _ (X _ _ ho)) (wpAny_pure z))
    · cases cl
  ne := fun h tp dd its m sl X htp => by
    have cl := c.cls
    refine Bool.eq_false_iff.mpr fun z => ?_
    have e : C = tp := Value.ref.inj (beq_iff_eq.mp z)
    subst e
    unfold PySem.W.isClsIn PySem.W.clsIn at cl
    split at cl
    · rename_i ho
      cases (X _ _ ho).symm.trans htp
    · cases cl
  ca := fun X o k => attr_class_exc X o c k
end
section
variable {X : Cx}
def rIsiE (K : PySem.W.Frag) : List V → Hp → VK → Prop := fun xs H Q => ∃ (a C C' : Addr) (o : Obj) (u : HO) (b : Bool), xs = [.ref a, .ref C'] ∧ H a = some (.frz o u) ∧ o.cls = .ref C ∧ ExcI K C ∧ PySem.W.kitOne K (.ref C) (.ref C') = some b ∧ Q (.bl b) H
theorem call_isiE : CallR X (.builtin "isinstance") (rIsiE X.K) := by
  intro pins s σ H xs us Q I r h
  obtain ⟨a, C, C', o, u, b, rfl, ha, hc, ci, kb, q⟩ := h
  obtain ⟨u1, u2, rfl, r1, r2⟩ := vals2 r
  cases r1
  cases r2
  obtain ⟨ho, _⟩ := (show ObjOk X.prog X.w H s.heap a (.frz o u) from I.hok a _ ha)
  exact PySem.W.kia_one (kit_exc ci) I.kIn ⟨o, ho, hc⟩ kb (fun z => nomatch z) fun tk => ⟨.bl b, H, I.tok tk, rfl, q⟩
end
abbrev quietA (A : Around) : Around := { A with handled := none }
structure FnOkH (P : Program) (w : World) (K : PySem.W.Frag) (mg : Str → Option Value) (base : Heap) (k : Nat) (f : Addr) (fd : FuncData) (ps : List Str) (sp : Sp) : Prop where
  len : ∀ vs H Q E, sp vs H Q E → vs.length = ps.length
  run : ∀ (A : Around) (outer : List Env) (s : Shared) (H : Hp) (args : Args) (us : List Value) (vs : List V) (Q : VK) (E : XK), Room k (quietA A) → Env0 P w K mg base A outer s H → BindsTo s fd args (ps.zip us) → Vals vs us → sp vs H Q E →
    codeAny (model P w) A (.call (.ref f) args) (CR CX0 outer P w H s Q E) s
abbrev cxH (P : Program) (w : World) (K : PySem.W.Frag) (mg : Str → Option Value) (base : Heap) (N : List Str) (qual : Str) (scope : Scope) (f : Addr) (cd : Value) (A : Around) (outer : List Env) (s : Shared) (H : Hp) (E : XK) : Cx :=
  { cxOf CX0 P w K mg base N qual scope f cd A outer s H E with calm := false, xe := fun _ _ => False }
theorem fn_ofH {P : Program} {w : World} {K : PySem.W.Frag} {mg : Str → Option Value} {base : Heap} {k : Nat} {f : Addr} {name qual : Str} {params : Arguments} {body : List Stmt} {scope : Scope} {dV kV doc pm cdv ct oc : Value} {an od : Option Addr}
    {osl : Array (Option Value)} {N ps : List Str} {sp : Sp} (lk : K.lookup f = some ⟨oc, od, .func (PySem.W.fnOf name qual params body scope dV kV doc pm an cdv ct), osl⟩) (hcd : PySem.W.codeIn K cdv qual = true) (S : FnScope N ps scope)
    (len : ∀ vs H Q E, sp vs H Q E → vs.length = ps.length)
    (hbody : ∀ (A : Around) (outer : List Env) (s : Shared) (H : Hp) (vs : List V) (Q : VK) (E : XK), Room k (quietA (A.deeper (envOfC qual scope s.heap.objs.size f cdv))) → sp vs H Q E →
      ∃ t, PSs (cxH P w K mg base N qual scope f cdv A outer s H E) body t ∧ t { nx := fun _ H' => Q .non H', rt := Q } (start N vs) H) :
    FnOkH P w K mg base (k + 1) f (PySem.W.fnOf name qual params body scope dV kV doc pm an cdv ct) ps sp := by
  refine ⟨len, fun A outer s H args us vs Q E hr e0 hb r hsp => ?_⟩
  have hl := len _ _ _ _ hsp
  have KX : K.In s.heap := e0.mod.kin.keeps fun b o e => (e0.bs b o e).1
  have lim : s.heap.NoLimit := e0.mod.nolimit.keeps fun b o e => (e0.bs b o e).1
  have hkind : ∀ y ∈ ps.zip us, scope.names.lookup y.1 = some .local ∨ (scope.names.lookup y.1 = some .cell ∧ ((cellsFrom (s.heap.objs.size + 1) scope.names []).lookup y.1).isSome = true) := fun ⟨n, v⟩ hy => by
    rcases S.par n (List.of_mem_zip hy).1 with q | q
    · exact .inl q
    · exact .inr ⟨q, PySem.W.cellsFrom_some _ _ _ (.inl q)⟩
  refine codeAny_call_function (show A.depth < recursionLimit from hr.depth) (KX _ _ lk) rfl S.co S.gen rfl (PySem.W.codeRec_of KX hcd) (hb _ _ _ _ ?_)
  refine wpAny_newFunctionEnv_cells S.kind hkind fun env he s1 x => ?_
  subst he
  refine ⟨lim.keeps x.toInCall.keep, codeAny_func ?_⟩
  obtain ⟨t, ht, hq⟩ := hbody A outer s H vs Q E (hr.deeper _) hsp
  have e1 : Env0 P w K mg base (quietA A) outer s H := ⟨e0.frames, e0.mod, e0.bs, e0.bsz, e0.funs, e0.frf, e0.hok, e0.bare⟩
  have I0 : Inv (cxOf CX0 P w K mg base N qual scope f cdv (quietA A) outer s H E) [] (start N vs) H s1 := inv_start S rfl e1 hl r x
  have I : Inv (cxH P w K mg base N qual scope f cdv A outer s H E) [] (start N vs) H s1 :=
    ⟨⟨I0.ok.mod, I0.ok.kind, I0.ok.glob, I0.ok.blt, I0.ok.above, I0.ok.inj, I0.ok.has, I0.ok.cab, (fun z => nomatch z), I0.ok.frames, I0.ok.stk, I0.ok.exf, I0.ok.bs, I0.ok.bsz, I0.ok.noex, I0.ok.exfs, I0.ok.funs, I0.ok.frf⟩,
      I0.os, I0.bare, I0.base, I0.loc, I0.cell, I0.free, I0.freeC, I0.pin, I0.hok, I0.len⟩
  refine wpAny_mono (ht [] s1 (start N vs) H _ I hq) (fun fl s' hs => ?_) fun e s' hs => hs.elim
  have fin : ∀ {σ' : St} {H' : Hp} {v : V} {u : Value}, Inv (cxH P w K mg base N qual scope f cdv A outer s H E) [] σ' H' s' → RelV v u → Q v H' → CE outer P w H s Q u s' :=
    fun {σ' H' v u} J rv q => ⟨v, H', J.os, J.bare, J.base, J.hok, rv, q⟩
  cases fl with
  | ret u =>
    obtain ⟨v, σ', H', J, rv, q⟩ := hs
    exact fin J rv q
  | next =>
    obtain ⟨σ', H', J, q⟩ := hs
    exact fin (v := V.non) (u := Value.none) J rfl q
  | brk =>
    obtain ⟨_, _, _, q⟩ := hs
    exact False.elim q
  | cont =>
    obtain ⟨_, _, _, q⟩ := hs
    exact False.elim q
section
variable {X : Cx} {k : Nat} {f : Addr} {fd : FuncData} {ps : List Str} {sp : Sp} {E : XK} {x : Str} {p pos : Pos} {e : Expr} {es : List Expr} {t : TA}
theorem pe_callH (F : FnOkH X.prog X.w X.K X.mg X.base k f fd ps sp) (hr : Room k (quietA X.A)) (hg : Gl X x) (hm : X.mg x = some (.ref f)) (hk : PySem.W.keepIn X.K (.ref f) = true) (hb : Binds X.K fd ps [])
    (ha : PA X (e :: es) t) (hdb : (x == ("__debug__" : Str)) = false := by decide) (he : starEach (e :: es) X.env = (false, eval e X.env) :: starEach es X.env := by rfl) (hpl : (backTo pos (starEach es X.env)).any (·.1) = false := by rfl) :
    PE X (.Call (.Name x p) (e :: es) [] pos) (tCall sp [] E t) := by
  intro pins s σ H Q I h
  refine wpAny_Call_Name_kw (ld_glob I hg hm ?_ hdb)
  refine PySem.W.callWith_K (h₀ := X.base) I.ok.mod.kin hk (thn (ha pos pins s σ H _ I h) fun us s1 ⟨vs, H1, I1, r, q⟩ => ⟨I1.kIn, ?_⟩) he hpl
  replace q : sp (vs ++ []) H1 Q E := q
  rw [List.append_nil] at q
  have hl : us.length = ps.length := by rw [← r.length]; exact F.len _ _ _ _ q
  have hb1 := hb s1 us I1.kIn (by rw [List.append_nil]; exact hl)
  rw [List.append_nil] at hb1
  refine wpAny_call (codeAny_mono (F.run X.A X.stack s1 H1 ⟨us, []⟩ us vs Q E hr I1.env0 hb1 r q) fun r s' hq => ?_)
  cases r with
  | error e => exact False.elim hq
  | ok fl =>
    cases fl with
    | ret u => exact I1.after hq
    | next => exact False.elim hq
    | brk => exact False.elim hq
    | cont => exact False.elim hq
end
end L2
namespace L2
open PySem PySem.Spec PyProof.Rows
def Its (z : Str) : It := ⟨fun i _ => i < z.cps.size, fun i H x H' => H' = H ∧ ∃ c, z.cps[i]? = some c ∧ x = .str ⟨#[c]⟩, fun i _ => z.cps.size ≤ i⟩
theorem turn_str {P : Program} {w : World} {K : PySem.W.Frag} {tg : Expr} (it : Addr) (z : Str) (t : Tok) : Turn P w K tg (Its z) [it] it (fun i h => h.IsStrIter it "str_ascii_iterator" z t i) where
  mem := List.mem_singleton_self _
  obj := fun i h st b hb => by
    obtain rfl := List.mem_singleton.mp hb
    obtain ⟨o, e, c, d⟩ := st
    exact ⟨o, e, fun v z => by rw [d] at z; cases z⟩
  keep := fun i h h' st k => by
    obtain ⟨o, e, r⟩ := st
    exact ⟨o, k it (List.mem_singleton_self _) o e, r⟩
  item := by
    rintro X rfl rfl rfl hc i pins s σ H E I hf st hg
    obtain ⟨f0, f1, f2, f3, f4, f5⟩ := hf it (List.mem_singleton_self _)
    have hx : z.cps[i]? = some z.cps[i] := Array.getElem?_eq_getElem hg
    refine wpAny_pyNext_ascii_item st hx fun h' st' sb => ?_
    have I1 : Inv X pins σ H { s with heap := h', toks := s.toks + 1 } := I.turned (fun b o hb e => (sb.2 b hb).trans e) f0 f1 f3 f4 f5
    obtain ⟨o, e, c, d⟩ := id st'
    exact ⟨_, rfl, go_of (s := { s with heap := h', toks := s.toks + 1 }) e c d (by decide) ⟨.str ⟨#[z.cps[i]]⟩, H, I1, ⟨_, rfl⟩, ⟨rfl, _, hx, rfl⟩, st', fun b hb => (hf b hb).1⟩⟩
  done := by
    rintro X rfl rfl rfl hc i pins s σ H E I hf st hg
    obtain ⟨f0, f1, f2, f3, f4, f5⟩ := hf it (List.mem_singleton_self _)
    exact wpAny_pyNext_ascii_end (I.ok.hd hc) st (Array.getElem?_eq_none hg) fun h' eb => ⟨rfl, I.turned (t' := s.toks) (fun b o hb e => eb b o hb e) f0 f1 f3 f4 f5⟩
  self := fun _ _ _ _ _ st h => wpAny_pyIter_striter_ascii st h
def iStrL (tl : TE) : TI := fun σ H R => tl σ H fun x H1 => ∃ z, x = .str z ∧ z.cps.all (· < 128) = true ∧ R (Its z) H1
theorem pi_str {X : Cx} {tg l : Expr} {tl : TE} (hl : PE X l tl) : PI X tg l (iStrL tl) := by
  intro pins s σ H R I h
  refine thn (hl pins s σ H _ I h) fun v s1 ⟨x, H1, I1, r1, z, e, ha, q⟩ => ?_
  subst e
  obtain ⟨t, rfl⟩ := r1
  refine wpAny_pyIter_ascii ha ?_
  refine ⟨s1.heap.objs.size, [s1.heap.objs.size], _, _, H1, rfl, I1.kept (t' := s1.toks) fun b o e => Heap.get?_push_of_some _ e, turn_str _ z t, ⟨_, Heap.get?_push_size _ rfl, rfl, rfl⟩, fun b hb => ?_, q⟩
  obtain rfl := List.mem_singleton.mp hb
  exact I1.fpOk (Nat.le_refl _) (I1.hok.fresh (Nat.le_refl _))
def cutS (z : Str) (lo hi : Option Int) : Str := ⟨((z.cps.toList.drop (HT.sIx z.cps.toList.length 0 lo)).take (HT.sIx z.cps.toList.length z.cps.toList.length hi - HT.sIx z.cps.toList.length 0 lo)).toArray⟩
def clip1 (n : Int) (d : Int) : Option Int → Int
  | none => d
  | some i => max 0 (min (if i < 0 then i + n else i) n)
theorem clip1_eq (n d : Nat) (o : Option Int) : clip1 n d o = ((HT.sIx n d o : Nat) : Int) := by
  cases o with
  | none => rfl
  | some i =>
    show max 0 (min (if i < 0 then i + (n : Int) else i) (n : Int)) = (((if i < 0 then (i + (n : Int)).toNat else min i.toNat n : Nat)) : Int)
    by_cases h : i < 0
    · rw [if_pos h, if_pos h]; omega
    · rw [if_neg h, if_neg h]; omega
theorem idx_of (lo hi : Option Int) (n : Nat) : Builtin.Str.strSliceIndices lo hi 1 n = (List.range (HT.sIx n n hi - HT.sIx n 0 lo)).map (fun k => HT.sIx n 0 lo + k) := by
  have e : Builtin.Str.strSliceIndices lo hi 1 n = sliceRange (clip1 n (0 : Nat) lo) (clip1 n n hi) 1 := by cases lo <;> cases hi <;> rfl
  rw [e, clip1_eq, clip1_eq]
  unfold sliceRange
  rw [if_pos (show (1 : Int) > 0 by decide)]
  generalize HT.sIx n n hi = q
  generalize HT.sIx n 0 lo = p
  by_cases h : (p : Int) < q
  · rw [if_pos h]
    show List.map _ (List.range (((q : Int) - p + 1 - 1) / 1).toNat) = _
    rw [show (((q : Int) - p + 1 - 1) / 1).toNat = q - p by rw [Int.ediv_one]; omega]
    refine List.map_congr_left fun k _ => ?_
    omega
  · rw [if_neg h, show q - p = 0 by omega]
    rfl
theorem pickedN (l : List Nat) : ∀ (n a : Nat), a + n ≤ l.length → ((List.range n).map (a + ·)).filterMap (l[·]?) = (l.drop a).take n
  | 0, _, _ => by simp
  | n + 1, a, h => by
    have hlt : a + n < l.length := by omega
    rw [List.range_succ, List.map_append, List.filterMap_append, pickedN l n a (by omega), List.take_add_one, List.getElem?_drop]
    simp [List.getElem?_eq_getElem hlt]
theorem slice_cut (z : Str) (lo hi : Option Int) : Txt.slice z lo hi = cutS z lo hi := by
  have hn : z.cps.toList.length = z.length := Array.length_toList
  unfold Txt.slice cutS
  rw [idx_of, hn]
  have h1 : HT.sIx z.length z.length hi ≤ z.length := HT.sIx_le _ _ (Nat.le_refl _) hi
  have h0 : HT.sIx z.length 0 lo ≤ z.length := HT.sIx_le _ _ (Nat.zero_le _) lo
  generalize HT.sIx z.length z.length hi = q at *
  generalize HT.sIx z.length 0 lo = p at *
  by_cases h : q - p = z.length
  · rw [if_pos (by rw [List.length_map, List.length_range, h]; simp)]
    by_cases hz : z.length = 0
    · have e : z.cps.toList = [] := List.eq_nil_of_length_eq_zero (hn.trans hz)
      refine PyProof.Rows.ext_toList ?_
      simp [e]
    · rw [show p = 0 by omega, List.drop_zero, List.take_of_length_le (by omega)]
  · rw [if_neg (by rw [List.length_map, List.length_range]; simpa using h)]
    refine PyProof.Rows.ext_toList ?_
    show ((List.filterMap (fun x => z.cps[x]?) (List.map (fun k => p + k) (List.range (q - p)))).toArray).toList = (List.take (q - p) (List.drop p z.cps.toList)).toArray.toList
    rw [List.toList_toArray, List.toList_toArray]
    by_cases hpq : p ≤ q
    · rw [← pickedN z.cps.toList (q - p) p (by omega)]
      simp
    · rw [show q - p = 0 by omega]; rfl
def rSlS : V → Option Int → Option Int → Hp → VK → Prop := fun x lo hi H Q => ∃ z, x = .str z ∧ z.length ≤ sizeLine ∧ Q (.str (cutS z lo hi)) H
theorem part_of {v : Value} {o : Option Int} (p : IsPart v o) : ∃ l : Option (Int × Tok), v = partValue l ∧ l.map (·.1) = o := by
  cases p with
  | none => exact ⟨none, rfl, rfl⟩
  | int i t => exact ⟨some (i, t), rfl, rfl⟩
theorem sl_str {X : Cx} : SlR X rSlS := by
  intro pins s σ H x v vl vu lo hi sl Q I rx hs pl pu h
  obtain ⟨z, rfl, hz, q⟩ := h
  obtain ⟨t, rfl⟩ := rx
  obtain ⟨l, rfl, rfl⟩ := part_of pl
  obtain ⟨u, rfl, rfl⟩ := part_of pu
  refine ⟨"str", _, F.slot_str_getitem.lookup, typeIs_str s z t, wpAny_getItem_str_slice (l := l) (u := u) (st := none) hs rfl ?_⟩
  rw [← slice_cut] at q
  have hl := Txt.slice_le z (l.map (·.1)) (u.map (·.1))
  unfold Txt.slice at q hl
  unfold sliceMade slicePicked
  by_cases c : ((1 : Int) == 1 && (Builtin.Str.strSliceIndices (l.map (·.1)) (u.map (·.1)) 1 z.length).length == z.length) = true
  · rw [if_pos c] at q
    rw [if_pos (by exact c)]
    exact ⟨.str z, H, I, ⟨t, rfl⟩, q⟩
  · rw [if_neg c] at q hl
    rw [if_neg (by exact c)]
    exact ⟨Nat.le_trans hl hz, .str _, H, I.tok _, ⟨_, rfl⟩, q⟩
section
variable {X : Cx}
theorem op_inS : OpR X (compareOp .In) (fun x y H Q => ∃ a b, x = .str a ∧ y = .str b ∧ Q (.bl (Txt.contains b a)) H) := by
  intro pins s σ H x y v u Q I rx ry h
  obtain ⟨a, b, rfl, rfl, q⟩ := h
  obtain ⟨t, rfl⟩ := rx
  obtain ⟨t', rfl⟩ := ry
  exact SB.contains ⟨.bl _, H, I, rfl, q⟩
theorem op_notInS : OpR X (compareOp .NotIn) (fun x y H Q => ∃ a b, x = .str a ∧ y = .str b ∧ Q (.bl (!Txt.contains b a)) H) := by
  intro pins s σ H x y v u Q I rx ry h
  obtain ⟨a, b, rfl, rfl, q⟩ := h
  obtain ⟨t, rfl⟩ := rx
  obtain ⟨t', rfl⟩ := ry
  exact SB.notContains ⟨.bl _, H, I, rfl, q⟩
theorem op_mulS : OpR X (binaryOp .Mult) (fun x y H Q => ∃ a n, x = .str a ∧ y = .int n ∧ MulOk a n ∧ Q (.str (Txt.mul a n)) H) := by
  intro pins s σ H x y v u Q I rx ry h
  obtain ⟨a, n, rfl, rfl, ok, q⟩ := h
  obtain ⟨t, rfl⟩ := rx
  obtain ⟨t', rfl⟩ := ry
  exact SB.mul ok fun t1 k => ⟨.str _, H, I.tok _, ⟨_, rfl⟩, q⟩
theorem mt_starts : MtR X "str.startswith" (fun x vs H Q => ∃ a b, x = .str a ∧ vs = [.str b] ∧ Q (.bl (Txt.startswith a b)) H) := by
  intro pins s σ H x vs v us Q I rx rv h
  obtain ⟨a, b, rfl, rfl, q⟩ := h
  obtain ⟨t, rfl⟩ := rx
  obtain ⟨u, rfl, ru⟩ := rv.one
  obtain ⟨t', rfl⟩ := ru
  exact SC.startswith ⟨.bl _, H, I, rfl, q⟩
theorem mt_indexS : MtR X "str.index" (fun x vs H Q => ∃ a b i rest, x = .str a ∧ vs = [.str b] ∧ Builtin.Str.occurrences a b 0 a.length 1 = i :: rest ∧ Q (.int (i : Nat)) H) := by
  intro pins s σ H x vs v us Q I rx rv h
  obtain ⟨a, b, i, rest, rfl, rfl, ho, q⟩ := h
  obtain ⟨t, rfl⟩ := rx
  obtain ⟨u, rfl, ru⟩ := rv.one
  obtain ⟨t', rfl⟩ := ru
  exact SC.index ho ⟨.int _, H, I.tok _, ⟨_, rfl⟩, q⟩
theorem call_strI : CallR X (.type "str") (fun xs H Q => ∃ n, xs = [.int n] ∧ n.natAbs.log2 < 1920 ∧ Q (.str (PySem.Str.ofString (toString n))) H) := by
  intro pins s σ H xs us Q I r h
  obtain ⟨n, rfl, hn, q⟩ := h
  obtain ⟨u, rfl, t, rfl⟩ := vals1 r
  exact P.str_of_int hn ⟨.str _, H, I.tok _, ⟨_, rfl⟩, q⟩
theorem call_intS : CallR X (.type "int") (fun xs H Q => ∃ z n, xs = [.str z] ∧ PySem.intText? z = some n ∧ z.length ≤ 640 ∧ Q (.int n) H) := by
  intro pins s σ H xs us Q I r h
  obtain ⟨z, n, rfl, hn, hl, q⟩ := h
  obtain ⟨u, rfl, t, rfl⟩ := vals1 r
  exact PySem.W.KIN.call_text hn hl ⟨.int _, H, I.tok _, ⟨_, rfl⟩, q⟩
end
end L2
namespace L2
open PySem PySem.Spec PyProof.Rows
section
variable {X : Cx} {k : Nat} {f : Addr} {fd : FuncData} {ps : List Str} {sp : Sp} {x : Str} {p cpos epos pos : Pos} {e : Expr} {es : List Expr} {t : TA}
theorem ps_tryA {y c n : Str} {i j : Nat} {b0 : Stmt} {hb orelse : List Stmt} {hpos np yp : Pos} {th to : TS} {C0 : Addr} (hno : ∀ e s, ¬ X.xe e s) (F : FnOk X.prog X.w X.K X.mg X.base (CX1 X.prog X.w) k f fd ps sp) (hr : Room k X.A) (hg : Gl X x)
    (hm : X.mg x = some (.ref f)) (hkp : PySem.W.keepIn X.K (.ref f) = true) (hbd : Binds X.K fd ps []) (ha : PA X (e :: es) t)
    (hN : X.N.Nodup) (hj : X.N[j]? = some y) (hy : Loc X.env.scope y) (hi : X.N[i]? = some n) (hk : X.env.scope.names.lookup n = some .local) (hst : X.stack = X.env :: X.outer) (hfr : X.env.frame = some X.env.locals) (hgc : Gl X c) (hmc : X.mg c = some (.ref C0))
    (hx : PySem.W.exmOne X.K (.ref C0) (.ref C0) = some true) (hbody : ∀ a, PSs (X.inx a) (b0 :: hb) th) (hel : PSs X orelse to)
    (hdb : (x == ("__debug__" : Str)) = false := by decide) (hdc : (c == ("__debug__" : Str)) = false := by decide) (he : starEach (e :: es) X.env = (false, eval e X.env) :: starEach es X.env := by rfl) (hpl : (backTo cpos (starEach es X.env)).any (·.1) = false := by rfl)
    (hs : swapsWith (.Call (.Name x p) (e :: es) [] cpos) (some (.Name y yp)) epos.line X.env = pure false := by rfl) (hf : X.fn y = true ∨ X.env.scope.names.lookup y = some .local := by first | exact .inl rfl | exact .inr rfl | assumption) :
    PS X (.Try [.Assign [.Name y yp] (.Call (.Name x p) (e :: es) [] cpos) epos] [.ExceptHandler (some (.Name c np)) (some n) (b0 :: hb) hpos] orelse [] pos)
      (fun D σ H => t σ H fun vs H1 => sp vs H1 (fun v H2 => to D (σ.set j (some v)) H2) (fun cv _ H2 => ∀ C, cv = .ref C → C = C0 ∧ ∀ a o, H2 a = none → o.cls = .ref C0 → th (D.goes i) (σ.set i (some (.ref a))) (upd H2 a (.frz o (.own a))))) := by
  intro pins s σ H D I h
  refine wpAny_Try_except (wpAny_execs_cons (wpAny_Assign_Name (wpAny_Call_Name_kw (ld_glob I hg hm ?_ hdb)) hs))
  refine PySem.W.callWith_K (h₀ := X.base) I.ok.mod.kin hkp (wpAny_mono (ha cpos pins s σ H _ I h) (fun us s1 z => ?_) fun e s z => (hno e s z).elim) he hpl
  obtain ⟨vs, H1, I1, r, q⟩ := z
  refine ⟨I1.kIn, ?_⟩
  have hl : us.length = ps.length := by rw [← r.length]; exact F.len _ _ _ _ q
  have hb1 := hbd s1 us I1.kIn (by rw [List.append_nil]; exact hl)
  rw [List.append_nil] at hb1
  refine wpAny_call (codeAny_mono (F.run X.A X.stack s1 H1 ⟨us, []⟩ us vs _ _ hr I1.env0 hb1 r q) fun r s2 hq => ?_)
  cases r with
  | error e =>
    dsimp only [CR] at hq
    exact caught I1 hq hN hi hk hst hfr hgc hmc hx (fun C H' z => z C rfl) hbody hdc
  | ok fl =>
    cases fl with
    | ret u =>
      obtain ⟨v, H2, I2, r2, q2⟩ := I1.after hq
      exact store_ok I2 hN hj hy r2 (fun s3 I3 => wpAny_execs_nil (hel pins s3 _ H2 D I3 q2)) hf
    | next => exact False.elim hq
    | brk => exact False.elim hq
    | cont => exact False.elim hq
end
end L2
namespace Z
open PySem PySem.Spec PyProof.Rows L2
abbrev FnX := List Dv → (R → Prop) → (Addr → Prop) → Prop
inductive lowX (K : PySem.W.Frag) (sp : FnX) (vs : List V) (H : Hp) (Q : VK) (E : XK) : Prop
  | mk (F : Addr → Prop) (ds : List Dv) (Ψ : Addr → Prop) (hF : ∀ a, F a → H a ≠ none) (r : Reps K F H vs ds) (q : sp ds (fun r => ∀ x H', Same H H' → RRep K F NoOwn H x r H' → Q x H') Ψ) (hE : ∀ C H', Ψ C → Same H H' → E (.ref C) none H')
structure MonoX (sp : FnX) : Prop where
  mo : ∀ ds (Q Q' : R → Prop) (Ψ Ψ' : Addr → Prop), (∀ r, Q r → Q' r) → (∀ C, Ψ C → Ψ' C) → sp ds Q Ψ → sp ds Q' Ψ'
structure DefX (P : Program) (w : World) (K : PySem.W.Frag) (mg : Str → Option Value) (base : Heap) (k : Nat) (x : Str) (ps : List Str) (sp : Sp) : Prop where
  ex : ∃ f fd, mg x = some (.ref f) ∧ PySem.W.keepIn K (.ref f) = true ∧ Binds K fd ps [] ∧ FnOk P w K mg base (CX1 P w) k f fd ps sp
structure QxS (X : Cx) (H₀ : Hp) (F : Addr → Prop) (st : Stmt) (t : TSp) : Prop where
  mono : ∀ E E' ρ, EnLe E E' → t E ρ → t E' ρ
  run : PS X st (liftS X.K H₀ F t)
structure QxB (X : Cx) (H₀ : Hp) (F : Addr → Prop) (sts : List Stmt) (t : TSp) : Prop where
  mono : ∀ E E' ρ, EnLe E E' → t E ρ → t E' ρ
  run : PSs X sts (liftS X.K H₀ F t)
section
variable {X : Cx} {H₀ : Hp} {F : Addr → Prop} {st : Stmt} {sts a b : List Stmt} {t u : TSp} {c : Expr} {tc : TTp} {pos : Pos}
theorem QS.x (h : QS X st t) : QxS X H₀ F st t := ⟨h.mono, h.run H₀ F⟩
theorem QSs.x (h : QSs X sts t) : QxB X H₀ F sts t := ⟨h.mono, h.run H₀ F⟩
theorem x_one (h : QxS X H₀ F st t) : QxB X H₀ F [st] t := ⟨h.mono, pss_one h.run⟩
theorem x_cons (h1 : QxS X H₀ F st t) (h2 : QxB X H₀ F sts u) : QxB X H₀ F (st :: sts) (sSeq t u) := by
  refine ⟨fun E E' ρ w h => h1.mono _ _ _ (w.with_nx fun ρ h => h2.mono _ _ _ w h) h, PSs_imp (pss_cons h1.run h2.run) fun D σ H z => ?_⟩
  obtain ⟨ρ, E, fr, h, en⟩ := z
  exact ⟨ρ, _, fr, h, fun ρ' σ' H' fr' h' => ⟨ρ', E, fr', h', en⟩, en.bk, en.ct, en.rt⟩
theorem x_if (hc : QT X c tc) (ha : QxB X H₀ F a t) (hb : QxB X H₀ F b u) : QxS X H₀ F (.If c a b pos) (sIf tc t u) := by
  refine ⟨fun E E' ρ w h => hc.mono _ _ _ (fun k q => ?_) h, PS_imp (ps_if (hc.run H₀ F) ha.run hb.run) fun D σ H z => ?_⟩
  · cases k with
    | true => exact iteT (ha.mono _ _ _ w (by simpa using q))
    | false => exact iteF (hb.mono _ _ _ w (by simpa using q))
  · obtain ⟨ρ, E, fr, h, en⟩ := z
    refine hc.step fr h fun k H1 q S1 => ?_
    cases k with
    | true => exact iteT ⟨ρ, E, fr.mono S1, by simpa using q, en⟩
    | false => exact iteF ⟨ρ, E, fr.mono S1, by simpa using q, en⟩
end
def sRaise (Ψ : Addr → Prop) (C : Addr) (ts : TAp) : TSp := fun _ ρ => ts ρ fun rs => rs.length ≤ 1000 ∧ Ψ C
theorem RReps.len {K : PySem.W.Frag} {M : Addr → Prop} {O : Addr → Dv → Prop} {H H' : Hp} : ∀ {xs : List V} {rs : List R}, RReps K M O H xs rs H' → xs.length = rs.length
  | _, _, .nil => rfl
  | _, _, .cons _ t => by rw [List.length_cons, List.length_cons, RReps.len t]
section
variable {P : Program} {w : World} {K : PySem.W.Frag} {mg : Str → Option Value} {base : Heap} {N : List Str} {qual : Str} {scope : Scope} {f : Addr} {cd : Value} {A : Around} {outer : List Env} {s0 : Shared} {H0 : Hp} {E : XK}
theorem x_raise {F : Addr → Prop} {Ψ : Addr → Prop} {x : Str} {C : Addr} {e : Expr} {es : List Expr} {ts : TAp} {np cpos pos : Pos} (hh : (A.deeper (envOfC qual scope s0.heap.objs.size f cd)).handled = none) (hE : ∀ C H', Ψ C → Same H0 H' → E (.ref C) none H')
    (hm : mg x = some (.ref C)) (q : ExcC K C) (hg : Gl (cxOf (CX1 P w) P w K mg base N qual scope f cd A outer s0 H0 E) x) (ha : QA (cxOf (CX1 P w) P w K mg base N qual scope f cd A outer s0 H0 E) (e :: es) ts)
    (hdb : (x == ("__debug__" : Str)) = false := by decide) (he : starEach (e :: es) (cxOf (CX1 P w) P w K mg base N qual scope f cd A outer s0 H0 E).env = (false, eval e (cxOf (CX1 P w) P w K mg base N qual scope f cd A outer s0 H0 E).env) :: starEach es (cxOf (CX1 P w) P w K mg base N qual scope f cd A outer s0 H0 E).env := by rfl)
    (hpl : (backTo cpos (starEach es (cxOf (CX1 P w) P w K mg base N qual scope f cd A outer s0 H0 E).env)).any (·.1) = false := by rfl) :
    QxS (cxOf (CX1 P w) P w K mg base N qual scope f cd A outer s0 H0 E) H0 F (.Raise (some (.Call (.Name x np) (e :: es) [] cpos)) none pos) (sRaise Ψ C ts) := by
  refine ⟨fun E E' ρ w h => h, PS_imp (ps_raise (X := cxOf (CX1 P w) P w K mg base N qual scope f cd A outer s0 H0 E) (Ψ := fun H1 => E (.ref C) none H1) hh hm hg q (ha.run H0 F) (fun pins σ H s h' a us I m p => xe_made I m p) hdb he hpl) fun D σ H z => ?_⟩
  obtain ⟨ρ, E', fr, h, en⟩ := z
  refine ha.step fr h fun rs xs H1 q1 S1 r1 => ⟨?_, hE C H1 q1.2 (fr.same.trans S1)⟩
  rw [r1.len]
  exact Nat.le_trans q1.1 (by decide)
end
theorem At.okX {P : Program} {w : World} {K : PySem.W.Frag} {mg : Str → Option Value} {base : Heap} {k : Nat} {x nm : Str} {st : Stmt} {ps N : List Str} {sp : FnX} {t : (Addr → Prop) → TSp} (a : At K mg x nm st ps) (S : FnScope N ps (defScope st))
    (hq : ∀ (f : Addr) (cdv : Value) (A : Around) (outer : List Env) (s : Shared) (H : Hp) (E : XK) (F : Addr → Prop) (Ψ : Addr → Prop), Room k (A.deeper (envOfC nm (defScope st) s.heap.objs.size f cdv)) → (∀ C H', Ψ C → Same H H' → E (.ref C) none H') →
      QxB (cxOf (CX1 P w) P w K mg base N nm (defScope st) f cdv A outer s H E) H F (defBody st) (t Ψ))
    (len : ∀ ds Q Ψ, sp ds Q Ψ → ds.length = ps.length) (hsp : ∀ ds Q Ψ, sp ds Q Ψ → t Ψ { nx := fun _ => Q (.v .non), rt := Q } (startP N ds)) : DefX P w K mg base (k + 1) x ps (lowX K sp) := by
  obtain ⟨f, fd, hm, F, hb⟩ := a.ex
  obtain ⟨oc, od, kV, doc, pm, an, cdv, ct, osl, rfl, lk, hcd⟩ := F.ex
  refine ⟨f, _, hm, F.kp, hb, fn_of lk hcd S (fun vs H Q E z => ?_) fun A outer s H vs Q E hr z => ?_⟩
  · obtain ⟨F, ds, Ψ, hF, r, q, hE⟩ := z
    rw [r.length]
    exact len _ _ _ q
  · obtain ⟨F, ds, Ψ, hF, r, q, hE⟩ := z
    exact ⟨_, (hq f cdv A outer s H E F Ψ hr hE).run, startP N ds, _, start_fr hF r, hsp ds _ Ψ q, fun ρ σ H' fr q => q .non H' fr.same Rep.non, fun _ _ _ _ z => z.elim, fun _ _ _ _ z => z.elim, fun rr x H' S rx q => q x H' S rx⟩
abbrev En.goes (E : En) (i : Nat) : En := { nx := fun ρ => E.nx (ρ.set i .un), rt := E.rt, bk := fun ρ => E.bk (ρ.set i .un), ct := fun ρ => E.ct (ρ.set i .un) }
theorem EnLe.goes {E E' : En} (w : EnLe E E') (i : Nat) : EnLe (E.goes i) (E'.goes i) := ⟨fun _ h => w.nx _ h, w.rt, fun _ h => w.bk _ h, fun _ h => w.ct _ h⟩
theorem Ent.goes {K : PySem.W.Frag} {H₀ : Hp} {F : Addr → Prop} {E : En} {D : Ends} (en : Ent K H₀ F E D) (i : Nat) : Ent K H₀ F (E.goes i) (D.goes i) :=
  ⟨fun _ _ _ fr h => en.nx _ _ _ fr.setu h, fun _ _ _ fr h => en.bk _ _ _ fr.setu h, fun _ _ _ fr h => en.ct _ _ _ fr.setu h, en.rt⟩
section
variable {X : Cx} {k : Nat} {ps : List Str} {sp : FnX} {x : Str} {p cpos epos pos : Pos} {e : Expr} {es : List Expr} {ts : TAp}
end
structure DefH (P : Program) (w : World) (K : PySem.W.Frag) (mg : Str → Option Value) (base : Heap) (k : Nat) (x : Str) (ps : List Str) (sp : Sp) : Prop where
  ex : ∃ f fd, mg x = some (.ref f) ∧ PySem.W.keepIn K (.ref f) = true ∧ Binds K fd ps [] ∧ FnOkH P w K mg base k f fd ps sp
theorem At.okH {P : Program} {w : World} {K : PySem.W.Frag} {mg : Str → Option Value} {base : Heap} {k : Nat} {x nm : Str} {st : Stmt} {ps N : List Str} {sp : Fn} {t : TSp} (a : At K mg x nm st ps) (S : FnScope N ps (defScope st))
    (hq : ∀ (f : Addr) (cdv : Value) (A : Around) (outer : List Env) (s : Shared) (H : Hp) (E : XK), Room k (quietA (A.deeper (envOfC nm (defScope st) s.heap.objs.size f cdv))) → QSs (cxH P w K mg base N nm (defScope st) f cdv A outer s H E) (defBody st) t)
    (len : ∀ ds Q, sp ds Q → ds.length = ps.length) (hsp : ∀ ds Q, sp ds Q → t { nx := fun _ => Q (.v .non), rt := Q } (startP N ds)) : DefH P w K mg base (k + 1) x ps (low K sp) := by
  obtain ⟨f, fd, hm, F, hb⟩ := a.ex
  obtain ⟨oc, od, kV, doc, pm, an, cdv, ct, osl, rfl, lk, hcd⟩ := F.ex
  exact ⟨f, _, hm, F.kp, hb, fn_ofH lk hcd S (low_len len) fun A outer s H vs Q E hr z => body_ok (hq f cdv A outer s H E hr) hsp z⟩
theorem Room.inx {k : Nat} {A : Around} (r : Room k A) (v : Option Value) : Room k (quietA (A.mark v)) := ⟨rfl, r.dp, r.un⟩
section
variable {X : Cx} {k : Nat} {x : Str} {ps : List Str} {sp : Fn} {e : Expr} {es : List Expr} {ts : TAp} {p pos : Pos}
theorem q_callH (d : DefH X.prog X.w X.K X.mg X.base k x ps (low X.K sp)) (mo : MonoF sp) (hr : Room k (quietA X.A)) (ha : QA X (e :: es) ts) (hg : Gl X x := by rfl)
    (hdb : (x == ("__debug__" : Str)) = false := by decide) (he : starEach (e :: es) X.env = (false, eval e X.env) :: starEach es X.env := by rfl) (hpl : (backTo pos (starEach es X.env)).any (·.1) = false := by rfl) :
    QE X (.Call (.Name x p) (e :: es) [] pos) (eCall sp ts) := by
  obtain ⟨f, fd, hm, hk, hb, FO⟩ := d.ex
  refine ⟨fun ρ Q Q' w q => ha.mono _ _ _ (fun rs q => mo.mo _ _ _ (back_mono w) q) q, fun H₀ F => PE_imp (pe_callH (E := E0) FO hr hg hm hk hb (ha.run H₀ F) hdb he hpl) fun σ H Q z => ?_⟩
  obtain ⟨ρ, fr, h⟩ := z
  refine ha.step fr h fun rs xs H1 q S1 r1 => ?_
  rw [List.append_nil]
  exact call_low mo fr S1 r1 q fun r z => z
def eIsiE (K : PySem.W.Frag) (C' : Addr) (te : TEp) : TEp := fun ρ Q => te ρ fun r => match r.d with
  | .exc C => ExcI K C ∧ ∃ b, PySem.W.kitOne K (.ref C) (.ref C') = some b ∧ Q (.v (.bl b))
  | _ => False
theorem q_isiE {y : Str} {C' : Addr} {te : TEp} {p2 : Pos} (hg : Gl X "isinstance") (hm : X.mg "isinstance" = none) (ha : QE X e te) (hmy : X.mg y = some (.ref C')) (hgy : Gl X y := by rfl) (hdy : (y == ("__debug__" : Str)) = false := by decide)
    (he : starEach [e, .Name y p2] X.env = (false, eval e X.env) :: starEach [.Name y p2] X.env := by rfl) (he2 : starEach [Expr.Name y p2] X.env = (false, eval (.Name y p2) X.env) :: starEach [] X.env := by rfl) (hpl : (backTo pos (starEach [.Name y p2] X.env)).any (·.1) = false := by rfl) :
    QE X (.Call (.Name "isinstance" p) [e, .Name y p2] [] pos) (eIsiE X.K C' te) := by
  refine ⟨fun ρ Q Q' w q => ha.mono _ _ _ (fun r q => ?_) q, fun H₀ F => PE_imp (pe_callB call_isiE hg hm boot_isinstance (pa_cons (ha.run H₀ F) (pa_cons (pe_glob (v := .ref C') hgy hmy rfl hdy) pa_nil he2) he) (by decide) (by decide) he hpl) fun σ H Q z => ?_⟩
  · generalize r.d = d at q ⊢
    cases d with
    | exc C =>
      obtain ⟨ci, b, kb, q⟩ := q
      exact ⟨ci, b, kb, w _ q⟩
    | _ => exact q.elim
  · obtain ⟨ρ, fr, h⟩ := z
    refine ha.step fr h fun r x H1 q S1 r1 => ?_
    have cx := r1.c
    generalize r.d = d at q cx
    cases d with
    | exc C =>
      obtain ⟨ci, b, kb, q⟩ := q
      obtain ⟨a, rfl, o, u, ea, hc⟩ := cx.exc
      exact ⟨a, C, C', o, u, b, rfl, ea, hc, ci, kb, q _ H1 S1 (Rep.bl _)⟩
    | _ => exact q.elim
end
section
variable {X : Cx}
end
end Z
namespace Z
open PySem PySem.Spec PyProof.Rows L2
section
variable {X : Cx} {k : Nat} {ps : List Str} {sp : FnX} {x : Str} {p cpos epos pos : Pos} {e : Expr} {es : List Expr} {ts : TAp}
def sTryA (C0 : Addr) (i j : Nat) (sp : FnX) (ts : TAp) (th to : TSp) : TSp := fun E ρ => ts ρ fun rs => sp (rs.map R.d) (fun r => ∃ n, r = .v (.int n) ∧ to E (ρ.set j (.v (.int n)))) (fun C => C = C0 ∧ th (E.goes i) (ρ.set i (.v (.exc C0))))
theorem q_tryA {y c n : Str} {i j : Nat} {b0 : Stmt} {hb orelse : List Stmt} {hpos np yp : Pos} {th to : TSp} {C0 : Addr} (hno : ∀ e s, ¬ X.xe e s) (d : DefX X.prog X.w X.K X.mg X.base k x ps (lowX X.K sp)) (mo : MonoX sp) (hr : Room k X.A) (ha : QA X (e :: es) ts)
    (hN : X.N.Nodup) (hmc : X.mg c = some (.ref C0)) (hx : PySem.W.exmOne X.K (.ref C0) (.ref C0) = some true) (hbody : ∀ a, QSs (X.inx a) (b0 :: hb) th) (hel : QSs X orelse to)
    (hj : X.N[j]? = some y := by rfl) (hy : Loc X.env.scope y := by exact .inl rfl) (hi : X.N[i]? = some n := by rfl) (hk : X.env.scope.names.lookup n = some .local := by rfl) (hst : X.stack = X.env :: X.outer := by rfl) (hfr : X.env.frame = some X.env.locals := by rfl) (hg : Gl X x := by rfl) (hgc : Gl X c := by rfl)
    (hdb : (x == ("__debug__" : Str)) = false := by decide) (hdc : (c == ("__debug__" : Str)) = false := by decide) (he : starEach (e :: es) X.env = (false, eval e X.env) :: starEach es X.env := by rfl) (hpl : (backTo cpos (starEach es X.env)).any (·.1) = false := by rfl)
    (hs : swapsWith (.Call (.Name x p) (e :: es) [] cpos) (some (.Name y yp)) epos.line X.env = pure false := by rfl) (hf : X.fn y = true ∨ X.env.scope.names.lookup y = some .local := by first | exact .inl rfl | exact .inr rfl | assumption) :
    QS X (.Try [.Assign [.Name y yp] (.Call (.Name x p) (e :: es) [] cpos) epos] [.ExceptHandler (some (.Name c np)) (some n) (b0 :: hb) hpos] orelse [] pos) (sTryA C0 i j sp ts th to) := by
  obtain ⟨f, fd, hm, hkp, hbd, FO⟩ := d.ex
  refine ⟨fun E E' ρ w h => ha.mono _ _ _ (fun rs q => mo.mo _ _ _ _ _ (fun _ ⟨n, e, q⟩ => ⟨n, e, hel.mono _ _ _ w q⟩) (fun C q => ⟨q.1, (hbody 0).mono _ _ _ (w.goes i) q.2⟩) q) h, fun H₀ F => PS_imp (ps_tryA (th := liftS X.K H₀ F th) (to := liftS X.K H₀ F to) hno FO hr hg hm hkp hbd (ha.run H₀ F) hN hj hy hi hk hst hfr hgc hmc hx (fun a => (hbody a).run H₀ F) (hel.run H₀ F) hdb hdc he hpl hs hf) fun D σ H z => ?_⟩
  obtain ⟨ρ, E, fr, h, en⟩ := z
  refine ha.step fr h fun rs xs H1 q S1 r1 => ?_
  have fr1 := fr.mono S1
  refine ⟨lent (MM F ρ) rs, _, fun C => C = C0 ∧ th (E.goes i) (ρ.set i (.v (.exc C0))), fun a z => fr1.dom z.1, lent_reps fr (fun _ h => h) r1, mo.mo _ _ _ _ _ (fun r q x H' S rx => ?_) (fun C q => q) q, fun C H2 q S2 => ?_⟩
  · obtain ⟨m, rfl, q⟩ := q
    cases rx
    exact ⟨_, E, (fr1.mono S).setv (.int m), q, en⟩
  · intro C' ec
    cases ec
    refine ⟨q.1, fun a o hn hc => ?_⟩
    have S3 : Same H2 (upd H2 a (.frz o (.own a))) := Same.new' hn
    exact ⟨_, _, ((fr1.mono S2).mono S3).setv (.exc ⟨o, _, upd_same, hc⟩), q.2, en.goes i⟩
end
section
variable {X : Cx} {tg l e o : Expr} {tl te to : TEp} {pos apos cpos : Pos}
def chars (z : Str) : List Dv := z.cps.toList.map fun c => .str ⟨#[c]⟩
def iStr (tl : TEp) : TIp := fun ρ Q => tl ρ fun r => match r with
  | .v (.str z) => z.cps.all (· < 128) = true ∧ Q (chars z) []
  | _ => False
theorem q_iStr (h : QE X l tl) : QI X tg l (iStr tl) := by
  refine ⟨fun ρ Q Q' w q => h.mono _ _ _ (fun r q => ?_) q, fun H₀ F => ⟨_, pi_str (h.run H₀ F), fun σ H ρ R fr q => ?_⟩⟩
  · split at q
    · exact ⟨q.1, w _ _ q.2⟩
    · exact q
  · refine h.step fr q fun r x H1 q S1 r1 => ?_
    split at q
    · rename_i z
      cases r1
      refine ⟨z, rfl, q.1, q.2 _ H1 S1 (by intro p hp; simp at hp) ?_⟩
      intro i H' M' S G _
      refine ⟨fun d e => ?_, fun hl => by
        unfold chars at hl
        have hl : z.cps.size ≤ i := by simpa using hl
        exact hl⟩
      unfold chars at e
      rw [List.getElem?_map] at e
      cases hc : z.cps.toList[i]? with
      | none => rw [hc] at e; cases e
      | some c =>
        rw [hc] at e
        cases e
        have h1 : z.cps[i]? = some c := by rw [← hc]; simp
        refine ⟨(Array.getElem?_eq_some_iff.mp h1).1, fun y H'' ⟨e1, c', e2, e3⟩ => ?_⟩
        subst e1 e3
        rw [h1] at e2
        cases e2
        exact ⟨Same.refl _, .str _⟩
    · exact q.elim
def pSlS : Dv → Option Int → Option Int → (R → Prop) → Prop
  | .str z, lo, hi, Q => z.length ≤ LIM ∧ Q (.v (.str (cutS z lo hi)))
  | _, _, _, _ => False
def eSlS (te : TEp) (tl th : TOp) : TEp := fun ρ Q => te ρ fun r => tl ρ fun lo => th ρ fun hi => pSlS r.d lo hi Q
theorem q_sliceS {lo hi : Option Expr} {tl th : TOp} {p2 : Pos} (he : QE X e te) (hl : QO X lo tl) (hh : QO X hi th) : QE X (.Subscript e (.Slice lo hi none p2) pos) (eSlS te tl th) := by
  refine ⟨fun ρ Q Q' w q => he.mono _ _ _ (fun r q => hl.mono _ _ _ (fun l q => hh.mono _ _ _ (fun u q => ?_) q) q) q, fun H₀ F => PE_imp (pe_slice sl_str (he.run H₀ F) (hl.run H₀ F) (hh.run H₀ F)) fun σ H Q ⟨ρ, fr, q⟩ => ?_⟩
  · generalize r.d = d at q ⊢
    unfold pSlS at *
    cases d with
    | str z => exact ⟨q.1, w _ q.2⟩
    | _ => exact q
  · refine he.step fr q fun r x H1 q S1 r1 => ?_
    refine ⟨ρ, fr.mono S1, hl.mono _ _ _ (fun l q H2 S2 => ?_) q⟩
    refine ⟨ρ, (fr.mono S1).mono S2, hh.mono _ _ _ (fun u q H3 S3 => ?_) q⟩
    have S13 := (S1.trans S2).trans S3
    have c := (r1.mono (S2.trans S3)).c
    generalize r.d = d at q c
    unfold pSlS at q
    split at q
    · obtain rfl := c.str
      exact ⟨_, rfl, lim_line q.1, q.2 _ _ S13 (Rep.str _)⟩
    · exact q.elim
def pInS : Dv → Dv → (R → Prop) → Prop
  | .str a, .str b, Q => Q (.v (.bl (Txt.contains b a)))
  | _, _, _ => False
def pNotInS : Dv → Dv → (R → Prop) → Prop
  | .str a, .str b, Q => Q (.v (.bl (!Txt.contains b a)))
  | _, _, _ => False
def pMulS : Dv → Dv → (R → Prop) → Prop
  | .str a, .int n, Q => MulOk a n ∧ Q (.v (.str (Txt.mul a n)))
  | _, _, _ => False
theorem opd_inS : OpD X (compareOp .In) pInS := by
  refine ⟨fun dx dy Q Q' w h => ?_, _, op_inS, fun M O H x y dx dy Q cx cy h => ?_⟩
  · unfold pInS at *
    split at h
    · exact w _ h
    · exact h
  · unfold pInS at h
    split at h
    · obtain rfl := cx.str
      obtain rfl := cy.str
      exact ⟨_, _, rfl, rfl, h _ H (Same.refl _) (Rep.bl _)⟩
    · exact h.elim
theorem opd_notInS : OpD X (compareOp .NotIn) pNotInS := by
  refine ⟨fun dx dy Q Q' w h => ?_, _, op_notInS, fun M O H x y dx dy Q cx cy h => ?_⟩
  · unfold pNotInS at *
    split at h
    · exact w _ h
    · exact h
  · unfold pNotInS at h
    split at h
    · obtain rfl := cx.str
      obtain rfl := cy.str
      exact ⟨_, _, rfl, rfl, h _ H (Same.refl _) (Rep.bl _)⟩
    · exact h.elim
theorem opd_mulS : OpD X (binaryOp .Mult) pMulS := by
  refine ⟨fun dx dy Q Q' w h => ?_, _, op_mulS, fun M O H x y dx dy Q cx cy h => ?_⟩
  · unfold pMulS at *
    split at h
    · exact ⟨h.1, w _ h.2⟩
    · exact h
  · unfold pMulS at h
    split at h
    · obtain rfl := cx.str
      obtain rfl := cy.int
      exact ⟨_, _, rfl, rfl, h.1, h.2 _ H (Same.refl _) (Rep.str _)⟩
    · exact h.elim
def pStr : List Dv → (R → Prop) → Prop
  | [.int n], Q => n.natAbs.log2 < 1920 ∧ Q (.v (.str (PySem.Str.ofString (toString n))))
  | _, _ => False
def pIntS : List Dv → (R → Prop) → Prop
  | [.str z], Q => z.length ≤ 640 ∧ ∃ n, PySem.intText? z = some n ∧ Q (.v (.int n))
  | _, _ => False
theorem cd_strI : CallD X (.type "str") pStr := by
  refine ⟨fun ds Q Q' w h => ?_, _, call_strI, fun M O H xs ds Q c h => ?_⟩
  · unfold pStr at *
    split at h
    · exact ⟨h.1, w _ h.2⟩
    · exact h
  · unfold pStr at h
    split at h
    · obtain ⟨x, rfl, cx⟩ := creps1 c
      obtain rfl := cx.int
      exact ⟨_, rfl, h.1, h.2 _ H (Same.refl _) (Rep.str _)⟩
    · exact h.elim
theorem cd_intS : CallD X (.type "int") pIntS := by
  refine ⟨fun ds Q Q' w h => ?_, _, call_intS, fun M O H xs ds Q c h => ?_⟩
  · unfold pIntS at *
    split at h
    · obtain ⟨a, n, b, q⟩ := h
      exact ⟨a, n, b, w _ q⟩
    · exact h
  · unfold pIntS at h
    split at h
    · obtain ⟨x, rfl, cx⟩ := creps1 c
      obtain rfl := cx.str
      obtain ⟨a, n, b, q⟩ := h
      exact ⟨_, n, rfl, b, a, q _ H (Same.refl _) (Rep.int _)⟩
    · exact h.elim
def eStarts (to te : TEp) : TEp := fun ρ Q => to ρ fun r => match r.d with
  | .str a => te ρ fun v => ∃ b, v.d = .str b ∧ Q (.v (.bl (Txt.startswith a b)))
  | _ => False
def eIndexS (to te : TEp) : TEp := fun ρ Q => to ρ fun r => match r.d with
  | .str a => te ρ fun v => ∃ (b : Str) (i : Nat) (rest : List Nat), v.d = .str b ∧ Builtin.Str.occurrences a b 0 a.length 1 = i :: rest ∧ Q (.v (.int i))
  | _ => False
theorem q_starts (ho : QE X o to) (he : QE X e te) (hbase : attributeBase o "startswith" X.env (eval o X.env) = eval o X.env := by rfl)
    (hfew : ((backTo cpos (starEach (e :: []) X.env)).all (fun x => !x.1) && (backToKw cpos (keywordEach [] X.env)).all (fun x => x.1.isSome)
      && decide ((e :: []).length + ([] : List Keyword).length + (if ([] : List Keyword).isEmpty then 0 else 1) < 30)) = true := by rfl)
    (hline : (apos.endLine == cpos.line) = true := by rfl) (hs : starEach (e :: []) X.env = (false, eval e X.env) :: starEach [] X.env := by rfl) (hplain : (backTo cpos (starEach [] X.env)).any (·.1) = false := by rfl) :
    QE X (.Call (.Attribute o "startswith" apos) [e] [] cpos) (eStarts to te) := by
  have hA : QA X [e] (eCons te eNil) := q_cons he q_nil hs
  refine ⟨fun ρ Q Q' w h => ho.mono _ _ _ (fun r h => ?_) h, fun H₀ F => PE_imp (pe_bm PySem.F.plainAttrs_str PySem.F.slot_str_startswith PySem.F.type_str_startswith mt_starts (ho.run H₀ F) (hA.run H₀ F) hbase hfew hline hs hplain) fun σ H Q ⟨ρ, fr, h⟩ => ?_⟩
  · split at h
    · exact he.mono _ _ _ (fun v ⟨b, a, q⟩ => ⟨b, a, w _ q⟩) h
    · exact h
  · refine ho.step fr h fun r x H1 h S1 r1 => ?_
    have cx := r1.c
    generalize r.d = d at h cx
    split at h
    · rename_i a
      obtain rfl := cx.str
      refine ⟨rfl, ⟨ρ, fr.mono S1, he.mono _ _ _ (fun v ⟨b, e1, q⟩ xs H2 S2 rr => ?_) h⟩⟩
      have c2 := rr.c
      rw [List.map_cons, List.map_nil, e1] at c2
      obtain ⟨y, rfl, cy⟩ := creps1 c2
      obtain rfl := cy.str
      exact ⟨_, _, rfl, rfl, q _ H2 (S1.trans S2) (Rep.bl _)⟩
    · exact h.elim
theorem q_indexS (ho : QE X o to) (he : QE X e te) (hbase : attributeBase o "index" X.env (eval o X.env) = eval o X.env := by rfl)
    (hfew : ((backTo cpos (starEach (e :: []) X.env)).all (fun x => !x.1) && (backToKw cpos (keywordEach [] X.env)).all (fun x => x.1.isSome)
      && decide ((e :: []).length + ([] : List Keyword).length + (if ([] : List Keyword).isEmpty then 0 else 1) < 30)) = true := by rfl)
    (hline : (apos.endLine == cpos.line) = true := by rfl) (hs : starEach (e :: []) X.env = (false, eval e X.env) :: starEach [] X.env := by rfl) (hplain : (backTo cpos (starEach [] X.env)).any (·.1) = false := by rfl) :
    QE X (.Call (.Attribute o "index" apos) [e] [] cpos) (eIndexS to te) := by
  have hA : QA X [e] (eCons te eNil) := q_cons he q_nil hs
  refine ⟨fun ρ Q Q' w h => ho.mono _ _ _ (fun r h => ?_) h, fun H₀ F => PE_imp (pe_bm PySem.F.plainAttrs_str PySem.F.slot_str_index PySem.F.type_str_index mt_indexS (ho.run H₀ F) (hA.run H₀ F) hbase hfew hline hs hplain) fun σ H Q ⟨ρ, fr, h⟩ => ?_⟩
  · split at h
    · exact he.mono _ _ _ (fun v ⟨b, i, rest, a, a2, q⟩ => ⟨b, i, rest, a, a2, w _ q⟩) h
    · exact h
  · refine ho.step fr h fun r x H1 h S1 r1 => ?_
    have cx := r1.c
    generalize r.d = d at h cx
    split at h
    · rename_i a
      obtain rfl := cx.str
      refine ⟨rfl, ⟨ρ, fr.mono S1, he.mono _ _ _ (fun v ⟨b, i, rest, e1, e2, q⟩ xs H2 S2 rr => ?_) h⟩⟩
      have c2 := rr.c
      rw [List.map_cons, List.map_nil, e1] at c2
      obtain ⟨y, rfl, cy⟩ := creps1 c2
      obtain rfl := cy.str
      exact ⟨_, _, i, rest, rfl, rfl, e2, q _ H2 (S1.trans S2) (Rep.int _)⟩
    · exact h.elim
theorem q_globS {x : Str} {z : Str} (hm : ∃ t, X.mg x = some (.str z t)) (hg : Gl X x := by rfl) (hd : (x == ("__debug__" : Str)) = false := by decide) : QE X (.Name x pos) (eC (.str z)) := by
  obtain ⟨t, hm⟩ := hm
  exact q_c (pe_glob (v := .str z) hg hm ⟨t, rfl⟩ hd) fun _ _ => .str z
end
end Z
namespace Z
open PySem PySem.Spec PyProof.Rows L2
theorem pSlS_s {z : Str} {lo hi : Option Int} {Q : R → Prop} : (pSlS (.str z) lo hi Q) = (z.length ≤ LIM ∧ Q (.v (.str (cutS z lo hi)))) := rfl
theorem pInS_s {a b : Str} {Q : R → Prop} : (pInS (.str a) (.str b) Q) = (Q (.v (.bl (Txt.contains b a)))) := rfl
theorem pNotInS_s {a b : Str} {Q : R → Prop} : (pNotInS (.str a) (.str b) Q) = (Q (.v (.bl (!Txt.contains b a)))) := rfl
theorem pStr_i {n : Int} {Q : R → Prop} : (pStr [.int n] Q) = (n.natAbs.log2 < 1920 ∧ Q (.v (.str (PySem.Str.ofString (toString n))))) := rfl
theorem pIntS_s {z : Str} {Q : R → Prop} : (pIntS [.str z] Q) = (z.length ≤ 640 ∧ ∃ n, PySem.intText? z = some n ∧ Q (.v (.int n))) := rfl
theorem pMulS_s {a : Str} {n : Int} {Q : R → Prop} : (pMulS (.str a) (.int n) Q) = (MulOk a n ∧ Q (.v (.str (Txt.mul a n)))) := rfl
theorem pIx_str {z : Str} {i : Int} {Q : R → Prop} : (pIx (.str z) (.int i) Q) = (z.length ≤ LIM ∧ match atI z.cps.toList i with | some c => Q (.v (.str ⟨#[c]⟩)) | none => False) := rfl
theorem pLen_str {z : Str} {Q : R → Prop} : (pLen [.str z] Q) = (z.length ≤ LIM ∧ Q (.v (.int z.length))) := rfl
end Z
namespace Lw
open PySem PySem.Spec PyProof.Rows L2 Z
def top (i : Nat) : Stmt := PySem.Challenge.pw_slantfloor_k91_numbers_read.main.body.getD i (.Pass ⟨0, 0, 0, 0⟩)
abbrev t_read_number (X_NoText : Addr) (Ψ : Addr → Prop) : TSp :=
  (sSeq (sSet 1 (eIf (eTru (eStarts (eVar 0) (eC (.str "-")))) (eSlS (eVar 0) (ePart (eC (.int 1))) eNoPart) (eVar 0)))
  (sSeq (sIf (eNot (eTest (eChain pLe pLe (eC (.int 1)) (eCB pLen (eCons (eVar 1) eNil)) (eC (.int 12))))) (sRaise Ψ X_NoText (eCons (eC (.str "a written number has one to twelve figures")) eNil)) sNext)
  (sSeq (sIf (eNot (eTru (eCB pAll (eCons (eComp 1 [] (iStr (eVar 1)) (gN 0) tTrue (eOp pInS (eVar 0) (eC (.str "0123456789")))) eNil)))) (sRaise Ψ X_NoText (eCons (eC (.str "a written number has figures alone, with a - ahead where it is below 0")) eNil)) sNext)
  (sSeq (sIf (eAnd (eTest (eOp pEq (eOp pIx (eVar 1) (eC (.int 0))) (eC (.str "0")))) (eTest (eOp pNe (eVar 0) (eC (.str "0"))))) (sRaise Ψ X_NoText (eCons (eC (.str "a written number has no 0 ahead")) eNil)) sNext)
  (sRet (eCB pIntS (eCons (eVar 0) eNil)))))))
theorem dq_read_number {P : Program} {w : World} {K : PySem.W.Frag} {mg : Str → Option Value} {base : Heap} {X_NoText : Addr} {sp : FnX} (m : At K mg "read_number" "read_number" (top 15) ["word"]) (w_len : mg "len" = none) (w_all : mg "all" = none) (w_int : mg "int" = none) (v_MOST_FIGURES : ∃ t, mg "MOST_FIGURES" = some (.int 12 t)) (v_FIGURES : ∃ t, mg "FIGURES" = some (.str "0123456789" t)) (e_NoText : mg "NoText" = some (.ref X_NoText)) (r_NoText : ExcC K X_NoText) (len : ∀ ds Q Ψ, sp ds Q Ψ → ds.length = 1) (hsp : ∀ ds Q Ψ, sp ds Q Ψ → t_read_number X_NoText Ψ  { nx := fun _ => Q (.v .non), rt := Q } (startP ["word", "figures"] ds)) : DefX P w K mg base 1 "read_number" ["word"] (lowX K sp) := by
  have sc : FnScope ["word", "figures"] ["word"] (defScope (top 15)) := ⟨rfl, rfl, rfl, by decide +kernel, rfl, by decide +kernel, by decide +kernel⟩
  refine m.okX (k := 0) (t := fun Ψ => t_read_number X_NoText Ψ ) sc (fun f cdv A outer s H E F Ψ hr hE => ?_) len hsp
  ·
    have hu := hr.units
    have hu1 := hu_of hr
    have hu65 := units65 hr
    exact (x_cons (QS.x (q_set (i := 1) sc.nd rfl (Or.inl rfl) (q_ifExp (qt_tru (q_starts (q_var 0 (pv 0)) q_str)) (q_sliceS (q_var 0 (pv 0)) (qo_some q_int) qo_none) (q_var 0 (pv 0)))))
  (x_cons (x_if (qt_not (qt_chain op_le op_le q_int (q_callB cd_len rfl w_len boot_len (q_cons (q_var 1 (pv 1)) q_nil)) (q_globI v_MOST_FIGURES))) (x_one (x_raise hr.hd hE e_NoText r_NoText rfl (q_cons q_str q_nil))) (QSs.x q_nilS))
  (x_cons (x_if (qt_not (qt_tru (q_callB (cd_all rfl) rfl w_all boot_all (q_cons (q_lc ["sign"] [] [] rfl (q_iStr (q_var 1 (pv 1))) (fun fp s H => (q_gN (i := 0) (k := 1) (show List.Nodup (["sign"] : List Str) by decide +kernel) rfl (Or.inl rfl))) (fun fp s H => qts_nil) (fun fp s H => (q_cmp opd_inS (q_var 0 (pv 0)) (q_globS v_FIGURES)))) q_nil)))) (x_one (x_raise hr.hd hE e_NoText r_NoText rfl (q_cons q_str q_nil))) (QSs.x q_nilS))
  (x_cons (x_if (QW.qt (qw_and (qt_cmp (opd_eq hu) (q_ix hu1 (q_var 1 (pv 1)) q_int) q_str) (qw_and1 (qt_cmp (opd_ne hu) (q_var 0 (pv 0)) q_str)))) (x_one (x_raise hr.hd hE e_NoText r_NoText rfl (q_cons q_str q_nil))) (QSs.x q_nilS))
  (x_one (QS.x (q_ret (q_callTy cd_intS rfl w_int boot_int (q_cons (q_var 0 (pv 0)) q_nil)))))))))
abbrev t_law_cell_at : TSp :=
  (sSeq (sIf (eTest (eOp pLt (eVar 1) (eCB pLen (eCons (eVar 0) eNil)))) (sRet (eOp pIx (eVar 0) (eVar 1))) sNext)
  (sRet (eC (.int 0))))
theorem dq_law_cell_at {P : Program} {w : World} {K : PySem.W.Frag} {mg : Str → Option Value} {base : Heap} {sp : Fn} (m : At K mg "_law_cell_at" "_law_cell_at" (top 17) ["_law_script", "_law_k"]) (w_len : mg "len" = none) (len : ∀ ds Q, sp ds Q → ds.length = 2) (hsp : ∀ ds Q, sp ds Q → t_law_cell_at  { nx := fun _ => Q (.v .non), rt := Q } (startP ["_law_script", "_law_k"] ds)) : Def P w K mg base 1 "_law_cell_at" ["_law_script", "_law_k"] (low K sp) := by
  have sc : FnScope ["_law_script", "_law_k"] ["_law_script", "_law_k"] (defScope (top 17)) := ⟨rfl, rfl, rfl, by decide +kernel, rfl, by decide +kernel, by decide +kernel⟩
  refine m.okP (k := 0) (t := t_law_cell_at ) sc (fun f cdv A outer s H E hr => ?_) len hsp
  ·
    have hu := hr.units
    have hu1 := hu_of hr
    have hu65 := units65 hr
    exact (q_consS (q_if (qt_cmp opd_lt (q_var 1 (pv 1)) (q_callB cd_len rfl w_len boot_len (q_cons (q_var 0 (pv 0)) q_nil))) (q_oneS (q_ret (q_ix hu1 (q_var 0 (pv 0)) (q_var 1 (pv 1))))) q_nilS)
  (q_oneS (q_ret q_int)))
abbrev b_law_drawn_0 : TSp :=
  (sSeq (sSet 1 (eOp pAdd (eVar 1) (eOp pIx (eC (.str "0123456789- .x")) (eOp pMod (eVar 2) (eC (.int 14))))))
  (sSet 2 (eOp pDiv (eVar 2) (eC (.int 14)))))
abbrev t_law_drawn : TSp :=
  (sSeq (sSet 1 (eC (.str "")))
  (sSeq (sSet 2 (eOp pDiv (eVar 0) (eC (.int 16))))
  (sSeq (sFor (iRange1 (eCons (eOp pMod (eVar 0) (eC (.int 16))) eNil)) (gN 3) b_law_drawn_0)
  (sRet (eVar 1)))))
theorem dq_law_drawn {P : Program} {w : World} {K : PySem.W.Frag} {mg : Str → Option Value} {base : Heap} {sp : Fn} (m : At K mg "_law_drawn" "_law_drawn" (top 18) ["_law_cell"]) (w_range : mg "range" = none) (len : ∀ ds Q, sp ds Q → ds.length = 1) (hsp : ∀ ds Q, sp ds Q → t_law_drawn  { nx := fun _ => Q (.v .non), rt := Q } (startP ["_law_cell", "_law_text", "_law_rest", "_law_k"] ds)) : Def P w K mg base 1 "_law_drawn" ["_law_cell"] (low K sp) := by
  have sc : FnScope ["_law_cell", "_law_text", "_law_rest", "_law_k"] ["_law_cell"] (defScope (top 18)) := ⟨rfl, rfl, rfl, by decide +kernel, rfl, by decide +kernel, by decide +kernel⟩
  refine m.okP (k := 0) (t := t_law_drawn ) sc (fun f cdv A outer s H E hr => ?_) len hsp
  ·
    have hu := hr.units
    have hu1 := hu_of hr
    have hu65 := units65 hr
    exact (q_consS (q_set (i := 1) sc.nd rfl (Or.inl rfl) q_str)
  (q_consS (q_set (i := 2) sc.nd rfl (Or.inl rfl) (q_op opd_div (q_var 0 (pv 0)) q_int))
  (q_consS (q_for PassesOwn.never rfl (q_iRange1 rfl w_range (q_cons (q_op opd_mod (q_var 0 (pv 0)) q_int) q_nil)) (q_gN (i := 3) (k := 4) sc.nd rfl (Or.inl rfl)) (q_consS (q_set (i := 1) sc.nd rfl (Or.inl rfl) (q_op opd_add (q_var 1 (pv 1)) (q_ix hu1 q_str (q_op opd_mod (q_var 2 (pv 2)) q_int))))
  (q_oneS (q_set (i := 2) sc.nd rfl (Or.inl rfl) (q_op opd_div (q_var 2 (pv 2)) q_int)))))
  (q_oneS (q_ret (q_var 1 (pv 1)))))))
abbrev t_law_spoilt (c_law_drawn : Fn) : TSp :=
  (sSeq (sSet 2 (eOp pMod (eVar 1) (eC (.int 9))))
  (sSeq (sSet 3 (eOp pDiv (eVar 1) (eC (.int 9))))
  (sSeq (sSet 4 (eOp pIx (eC (.str "0 -+.a")) (eOp pMod (eVar 3) (eC (.int 6)))))
  (sSeq (sSet 5 (eOp pMod (eOp pDiv (eVar 3) (eC (.int 6))) (eCB pLen (eCons (eVar 0) eNil))))
  (sSeq (sIf (eTest (eOp pEq (eVar 2) (eC (.int 1)))) (sRet (eOp pAdd (eVar 4) (eVar 0))) sNext)
  (sSeq (sIf (eTest (eOp pEq (eVar 2) (eC (.int 2)))) (sRet (eOp pAdd (eVar 0) (eVar 4))) sNext)
  (sSeq (sIf (eTest (eOp pEq (eVar 2) (eC (.int 3)))) (sRet (eOp pAdd (eSlS (eVar 0) eNoPart (ePart (eVar 5))) (eSlS (eVar 0) (ePart (eOp pAdd (eVar 5) (eC (.int 1)))) eNoPart))) sNext)
  (sSeq (sIf (eTest (eOp pEq (eVar 2) (eC (.int 4)))) (sRet (eOp pAdd (eOp pAdd (eSlS (eVar 0) eNoPart (ePart (eVar 5))) (eVar 4)) (eSlS (eVar 0) (ePart (eOp pAdd (eVar 5) (eC (.int 1)))) eNoPart))) sNext)
  (sSeq (sIf (eTest (eOp pEq (eVar 2) (eC (.int 5)))) (sRet (eOp pAdd (eVar 0) (eVar 0))) sNext)
  (sSeq (sIf (eTest (eOp pEq (eVar 2) (eC (.int 6)))) (sRet (eOp pAdd (eVar 0) (eOp pMulS (eSlS (eVar 0) (ePart (eNeg (eC (.int 1)))) eNoPart) (eOp pMod (eVar 3) (eC (.int 14)))))) sNext)
  (sSeq (sIf (eTest (eOp pEq (eVar 2) (eC (.int 7)))) (sRet (eC (.str ""))) sNext)
  (sSeq (sIf (eTest (eOp pEq (eVar 2) (eC (.int 8)))) (sRet (eCall c_law_drawn (eCons (eVar 3) eNil))) sNext)
  (sRet (eVar 0))))))))))))))
theorem dq_law_spoilt {P : Program} {w : World} {K : PySem.W.Frag} {mg : Str → Option Value} {base : Heap} {c_law_drawn : Fn} {sp : Fn} (m : At K mg "_law_spoilt" "_law_spoilt" (top 19) ["_law_text", "_law_cell"]) (w_len : mg "len" = none) (d_law_drawn : Def P w K mg base 1 "_law_drawn" ["_law_cell"] (low K c_law_drawn)) (mo_law_drawn : MonoF c_law_drawn) (len : ∀ ds Q, sp ds Q → ds.length = 2) (hsp : ∀ ds Q, sp ds Q → t_law_spoilt c_law_drawn { nx := fun _ => Q (.v .non), rt := Q } (startP ["_law_text", "_law_cell", "_law_fault", "_law_rest", "_law_sign", "_law_k"] ds)) : Def P w K mg base 2 "_law_spoilt" ["_law_text", "_law_cell"] (low K sp) := by
  have sc : FnScope ["_law_text", "_law_cell", "_law_fault", "_law_rest", "_law_sign", "_law_k"] ["_law_text", "_law_cell"] (defScope (top 19)) := ⟨rfl, rfl, rfl, by decide +kernel, rfl, by decide +kernel, by decide +kernel⟩
  refine m.okP (k := 1) (t := t_law_spoilt c_law_drawn) sc (fun f cdv A outer s H E hr => ?_) len hsp
  ·
    have hu := hr.units
    have hu1 := hu_of hr
    have hu65 := units65 hr
    exact (q_consS (q_set (i := 2) sc.nd rfl (Or.inl rfl) (q_op opd_mod (q_var 1 (pv 1)) q_int))
  (q_consS (q_set (i := 3) sc.nd rfl (Or.inl rfl) (q_op opd_div (q_var 1 (pv 1)) q_int))
  (q_consS (q_set (i := 4) sc.nd rfl (Or.inl rfl) (q_ix hu1 q_str (q_op opd_mod (q_var 3 (pv 3)) q_int)))
  (q_consS (q_set (i := 5) sc.nd rfl (Or.inl rfl) (q_op opd_mod (q_op opd_div (q_var 3 (pv 3)) q_int) (q_callB cd_len rfl w_len boot_len (q_cons (q_var 0 (pv 0)) q_nil))))
  (q_consS (q_if (qt_cmp (opd_eq hu) (q_var 2 (pv 2)) q_int) (q_oneS (q_ret (q_op opd_add (q_var 4 (pv 4)) (q_var 0 (pv 0))))) q_nilS)
  (q_consS (q_if (qt_cmp (opd_eq hu) (q_var 2 (pv 2)) q_int) (q_oneS (q_ret (q_op opd_add (q_var 0 (pv 0)) (q_var 4 (pv 4))))) q_nilS)
  (q_consS (q_if (qt_cmp (opd_eq hu) (q_var 2 (pv 2)) q_int) (q_oneS (q_ret (q_op opd_add (q_sliceS (q_var 0 (pv 0)) qo_none (qo_some (q_var 5 (pv 5)))) (q_sliceS (q_var 0 (pv 0)) (qo_some (q_op opd_add (q_var 5 (pv 5)) q_int)) qo_none)))) q_nilS)
  (q_consS (q_if (qt_cmp (opd_eq hu) (q_var 2 (pv 2)) q_int) (q_oneS (q_ret (q_op opd_add (q_op opd_add (q_sliceS (q_var 0 (pv 0)) qo_none (qo_some (q_var 5 (pv 5)))) (q_var 4 (pv 4))) (q_sliceS (q_var 0 (pv 0)) (qo_some (q_op opd_add (q_var 5 (pv 5)) q_int)) qo_none)))) q_nilS)
  (q_consS (q_if (qt_cmp (opd_eq hu) (q_var 2 (pv 2)) q_int) (q_oneS (q_ret (q_op opd_add (q_var 0 (pv 0)) (q_var 0 (pv 0))))) q_nilS)
  (q_consS (q_if (qt_cmp (opd_eq hu) (q_var 2 (pv 2)) q_int) (q_oneS (q_ret (q_op opd_add (q_var 0 (pv 0)) (q_op opd_mulS (q_sliceS (q_var 0 (pv 0)) (qo_some (q_neg q_int)) qo_none) (q_op opd_mod (q_var 3 (pv 3)) q_int))))) q_nilS)
  (q_consS (q_if (qt_cmp (opd_eq hu) (q_var 2 (pv 2)) q_int) (q_oneS (q_ret q_str)) q_nilS)
  (q_consS (q_if (qt_cmp (opd_eq hu) (q_var 2 (pv 2)) q_int) (q_oneS (q_ret (q_call d_law_drawn mo_law_drawn (hr.mono (by decide)) (q_cons (q_var 3 (pv 3)) q_nil)))) q_nilS)
  (q_oneS (q_ret (q_var 0 (pv 0))))))))))))))))
abbrev b_law_due_0 : TSp :=
  (sSeq (sIf (eTest (eOp pNotInS (eVar 3) (eC (.str "0123456789")))) (sRet (eC .non)) sNext)
  (sSet 2 (eOp pAdd (eOp pMul (eVar 2) (eC (.int 10))) (eIndexS (eC (.str "0123456789")) (eVar 3)))))
abbrev t_law_due : TSp :=
  (sSeq (sSet 1 (eVar 0))
  (sSeq (sIf (eTest (eOp pEq (eSlS (eVar 0) eNoPart (ePart (eC (.int 1)))) (eC (.str "-")))) (sSet 1 (eSlS (eVar 0) (ePart (eC (.int 1))) eNoPart)) sNext)
  (sSeq (sIf (eOr (eTest (eOp pEq (eCB pLen (eCons (eVar 1) eNil)) (eC (.int 0)))) (eOr (eTest (eOp pGt (eCB pLen (eCons (eVar 1) eNil)) (eC (.int 12)))) (eAnd (eTest (eOp pEq (eOp pIx (eVar 1) (eC (.int 0))) (eC (.str "0")))) (eTest (eOp pNe (eVar 0) (eC (.str "0"))))))) (sRet (eC .non)) sNext)
  (sSeq (sSet 2 (eC (.int 0)))
  (sSeq (sFor (iStr (eVar 1)) (gN 3) b_law_due_0)
  (sSeq (sIf (eTest (eOp pEq (eOp pIx (eVar 0) (eC (.int 0))) (eC (.str "-")))) (sRet (eNeg (eVar 2))) sNext)
  (sRet (eVar 2))))))))
theorem dq_law_due {P : Program} {w : World} {K : PySem.W.Frag} {mg : Str → Option Value} {base : Heap} {sp : Fn} (m : At K mg "_law_due" "_law_due" (top 20) ["_law_text"]) (w_len : mg "len" = none) (len : ∀ ds Q, sp ds Q → ds.length = 1) (hsp : ∀ ds Q, sp ds Q → t_law_due  { nx := fun _ => Q (.v .non), rt := Q } (startP ["_law_text", "_law_body", "_law_number", "_law_sign"] ds)) : Def P w K mg base 1 "_law_due" ["_law_text"] (low K sp) := by
  have sc : FnScope ["_law_text", "_law_body", "_law_number", "_law_sign"] ["_law_text"] (defScope (top 20)) := ⟨rfl, rfl, rfl, by decide +kernel, rfl, by decide +kernel, by decide +kernel⟩
  refine m.okP (k := 0) (t := t_law_due ) sc (fun f cdv A outer s H E hr => ?_) len hsp
  ·
    have hu := hr.units
    have hu1 := hu_of hr
    have hu65 := units65 hr
    exact (q_consS (q_set (i := 1) sc.nd rfl (Or.inl rfl) (q_var 0 (pv 0)))
  (q_consS (q_if (qt_cmp (opd_eq hu) (q_sliceS (q_var 0 (pv 0)) qo_none (qo_some q_int)) q_str) (q_oneS (q_set (i := 1) sc.nd rfl (Or.inl rfl) (q_sliceS (q_var 0 (pv 0)) (qo_some q_int) qo_none))) q_nilS)
  (q_consS (q_if (QW.qt (qw_or (qt_cmp (opd_eq hu) (q_callB cd_len rfl w_len boot_len (q_cons (q_var 1 (pv 1)) q_nil)) q_int) (qw_or (qt_cmp opd_gt (q_callB cd_len rfl w_len boot_len (q_cons (q_var 1 (pv 1)) q_nil)) q_int) (qw_or1 (QW.qt (qw_and (qt_cmp (opd_eq hu) (q_ix hu1 (q_var 1 (pv 1)) q_int) q_str) (qw_and1 (qt_cmp (opd_ne hu) (q_var 0 (pv 0)) q_str)))))))) (q_oneS (q_ret q_non)) q_nilS)
  (q_consS (q_set (i := 2) sc.nd rfl (Or.inl rfl) q_int)
  (q_consS (q_for PassesOwn.never rfl (q_iStr (q_var 1 (pv 1))) (q_gN (i := 3) (k := 4) sc.nd rfl (Or.inl rfl)) (q_consS (q_if (qt_cmp opd_notInS (q_var 3 (pv 3)) q_str) (q_oneS (q_ret q_non)) q_nilS)
  (q_oneS (q_set (i := 2) sc.nd rfl (Or.inl rfl) (q_op opd_add (q_op opd_mul (q_var 2 (pv 2)) q_int) (q_indexS q_str (q_var 3 (pv 3))))))))
  (q_consS (q_if (qt_cmp (opd_eq hu) (q_ix hu1 (q_var 0 (pv 0)) q_int) q_str) (q_oneS (q_ret (q_neg (q_var 2 (pv 2))))) q_nilS)
  (q_oneS (q_ret (q_var 2 (pv 2))))))))))
abbrev t_law_other (K : PySem.W.Frag) (X_NoSides X_NoRow X_NoFloor X_NoThrees X_NoFlip X_NoHeights X_TooMany X_NoHold X_NoTurn X_SlantError : Addr) : TSp :=
  (sSeq (sIf (eOr (eTru (eIsiE K X_NoSides (eVar 0))) (eOr (eTru (eIsiE K X_NoRow (eVar 0))) (eOr (eTru (eIsiE K X_NoFloor (eVar 0))) (eTru (eIsiE K X_NoThrees (eVar 0)))))) (sRet (eC (.bl true))) sNext)
  (sSeq (sIf (eOr (eTru (eIsiE K X_NoFlip (eVar 0))) (eOr (eTru (eIsiE K X_NoHeights (eVar 0))) (eOr (eTru (eIsiE K X_TooMany (eVar 0))) (eTru (eIsiE K X_NoHold (eVar 0)))))) (sRet (eC (.bl true))) sNext)
  (sRet (eOrV (eIsiE K X_NoTurn (eVar 0)) (eNotV (eIsiE K X_SlantError (eVar 0)))))))
theorem dq_law_other {P : Program} {w : World} {K : PySem.W.Frag} {mg : Str → Option Value} {base : Heap} {X_NoSides X_NoRow X_NoFloor X_NoThrees X_NoFlip X_NoHeights X_TooMany X_NoHold X_NoTurn X_SlantError : Addr} {sp : Fn} (m : At K mg "_law_other" "_law_other" (top 21) ["_law_e"]) (w_isinstance : mg "isinstance" = none) (e_NoSides : mg "NoSides" = some (.ref X_NoSides)) (e_NoRow : mg "NoRow" = some (.ref X_NoRow)) (e_NoFloor : mg "NoFloor" = some (.ref X_NoFloor)) (e_NoThrees : mg "NoThrees" = some (.ref X_NoThrees)) (e_NoFlip : mg "NoFlip" = some (.ref X_NoFlip)) (e_NoHeights : mg "NoHeights" = some (.ref X_NoHeights)) (e_TooMany : mg "TooMany" = some (.ref X_TooMany)) (e_NoHold : mg "NoHold" = some (.ref X_NoHold)) (e_NoTurn : mg "NoTurn" = some (.ref X_NoTurn)) (e_SlantError : mg "SlantError" = some (.ref X_SlantError)) (len : ∀ ds Q, sp ds Q → ds.length = 1) (hsp : ∀ ds Q, sp ds Q → t_law_other K X_NoSides X_NoRow X_NoFloor X_NoThrees X_NoFlip X_NoHeights X_TooMany X_NoHold X_NoTurn X_SlantError  { nx := fun _ => Q (.v .non), rt := Q } (startP ["_law_e"] ds)) : DefH P w K mg base 1 "_law_other" ["_law_e"] (low K sp) := by
  have sc : FnScope ["_law_e"] ["_law_e"] (defScope (top 21)) := ⟨rfl, rfl, rfl, by decide +kernel, rfl, by decide +kernel, by decide +kernel⟩
  refine m.okH (k := 0) (t := t_law_other K X_NoSides X_NoRow X_NoFloor X_NoThrees X_NoFlip X_NoHeights X_TooMany X_NoHold X_NoTurn X_SlantError ) sc (fun f cdv A outer s H E hr => ?_) len hsp
  ·
    have hu := hr.units
    have hu1 := hu_of hr
    have hu65 := units65 hr
    exact (q_consS (q_if (QW.qt (qw_or (qt_tru (q_isiE rfl w_isinstance (q_var 0 (pv 0)) e_NoSides)) (qw_or (qt_tru (q_isiE rfl w_isinstance (q_var 0 (pv 0)) e_NoRow)) (qw_or (qt_tru (q_isiE rfl w_isinstance (q_var 0 (pv 0)) e_NoFloor)) (qw_or1 (qt_tru (q_isiE rfl w_isinstance (q_var 0 (pv 0)) e_NoThrees))))))) (q_oneS (q_ret q_bl)) q_nilS)
  (q_consS (q_if (QW.qt (qw_or (qt_tru (q_isiE rfl w_isinstance (q_var 0 (pv 0)) e_NoFlip)) (qw_or (qt_tru (q_isiE rfl w_isinstance (q_var 0 (pv 0)) e_NoHeights)) (qw_or (qt_tru (q_isiE rfl w_isinstance (q_var 0 (pv 0)) e_TooMany)) (qw_or1 (qt_tru (q_isiE rfl w_isinstance (q_var 0 (pv 0)) e_NoHold))))))) (q_oneS (q_ret q_bl)) q_nilS)
  (q_oneS (q_ret (q_or (q_isiE rfl w_isinstance (q_var 0 (pv 0)) e_NoTurn) (q_one (q_not (q_isiE rfl w_isinstance (q_var 0 (pv 0)) e_SlantError))))))))
abbrev t_law_read (X_NoText : Addr) (c_law_due c_law_other : Fn) (c_read_number : FnX) : TSp :=
  (sSeq (sSet 1 (eCall c_law_due (eCons (eVar 0) eNil)))
  (sSeq (sTryA X_NoText 3 2 c_read_number (eCons (eVar 0) eNil) (sRet (eAndV (eOp pIsN (eVar 1) (eC .non)) (eNotV (eCall c_law_other (eCons (eVar 3) eNil))))) sNext)
  (sRet (eAndV (eOp pNotN (eVar 1) (eC .non)) (eAndV (eIsi "int" (eVar 2)) (eAndV (eNotV (eIsi "bool" (eVar 2))) (eOp pEq (eVar 2) (eVar 1))))))))
theorem dq_law_read {P : Program} {w : World} {K : PySem.W.Frag} {mg : Str → Option Value} {base : Heap} {c_law_due c_law_other : Fn} {c_read_number : FnX} {X_NoText : Addr} {sp : Fn} (m : At K mg "_law_read" "_law_read" (top 22) ["_law_text"]) (w_isinstance : mg "isinstance" = none) (w_int : mg "int" = none) (w_bool : mg "bool" = none) (e_NoText : mg "NoText" = some (.ref X_NoText)) (x_NoText : PySem.W.exmOne K (.ref X_NoText) (.ref X_NoText) = some true) (d_read_number : DefX P w K mg base 1 "read_number" ["word"] (lowX K c_read_number)) (mo_read_number : MonoX c_read_number) (d_law_other : DefH P w K mg base 1 "_law_other" ["_law_e"] (low K c_law_other)) (mo_law_other : MonoF c_law_other) (d_law_due : Def P w K mg base 1 "_law_due" ["_law_text"] (low K c_law_due)) (mo_law_due : MonoF c_law_due) (len : ∀ ds Q, sp ds Q → ds.length = 1) (hsp : ∀ ds Q, sp ds Q → t_law_read X_NoText c_law_due c_law_other c_read_number { nx := fun _ => Q (.v .non), rt := Q } (startP ["_law_text", "_law_due_here", "_law_said", "_law_e"] ds)) : Def P w K mg base 2 "_law_read" ["_law_text"] (low K sp) := by
  have sc : FnScope ["_law_text", "_law_due_here", "_law_said", "_law_e"] ["_law_text"] (defScope (top 22)) := ⟨rfl, rfl, rfl, by decide +kernel, rfl, by decide +kernel, by decide +kernel⟩
  refine m.okP (k := 1) (t := t_law_read X_NoText c_law_due c_law_other c_read_number) sc (fun f cdv A outer s H E hr => ?_) len hsp
  ·
    have hu := hr.units
    have hu1 := hu_of hr
    have hu65 := units65 hr
    exact (q_consS (q_set (i := 1) sc.nd rfl (Or.inl rfl) (q_call d_law_due mo_law_due (hr.mono (by decide)) (q_cons (q_var 0 (pv 0)) q_nil)))
  (q_consS (q_tryA (i := 3) (j := 2) (fun _ _ z => z) d_read_number mo_read_number (hr.mono (by decide)) (q_cons (q_var 0 (pv 0)) q_nil) sc.nd e_NoText x_NoText (fun a => (q_oneS (q_ret (q_and (q_cmp opd_isN (q_var 1 (pv 1)) q_non) (q_one (q_not (q_callH d_law_other mo_law_other (Room.inx (hr.mono (by decide)) _) (q_cons (q_var 3 (pv 3)) q_nil)))))))) q_nilS)
  (q_oneS (q_ret (q_and (q_cmp opd_notN (q_var 1 (pv 1)) q_non) (q_and (q_isi (.inl rfl) rfl w_isinstance (q_var 2 (pv 2)) (pe_bltn (v := .ty "int") rfl w_int boot_int rfl)) (q_and (q_not (q_isi (.inr (.inl rfl)) rfl w_isinstance (q_var 2 (pv 2)) (pe_bltn (v := .ty "bool") rfl w_bool boot_bool rfl))) (q_one (q_cmp (opd_eq hu) (q_var 2 (pv 2)) (q_var 1 (pv 1)))))))))))
abbrev b_law_0 (c_law_cell_at c_law_due c_law_read c_law_spoilt : Fn) : TSp :=
  (sSeq (sSet 2 (eCall c_law_cell_at (eCons (eVar 0) (eCons (eVar 1) eNil))))
  (sSeq (sSet 3 (eOp pMod (eOp pDiv (eVar 2) (eC (.int 2))) (eOp pPow (eC (.int 10)) (eC (.int 12)))))
  (sSeq (sIf (eTest (eOp pEq (eOp pMod (eVar 2) (eC (.int 2))) (eC (.int 1)))) (sSet 3 (eNeg (eVar 3))) sNext)
  (sSeq (sSet 4 (eCB pStr (eCons (eVar 3) eNil)))
  (sSeq (sIf (eOr (eTest (eOp pNe (eCall c_law_due (eCons (eVar 4) eNil)) (eVar 3))) (eNot (eTru (eCall c_law_read (eCons (eVar 4) eNil))))) (sRet (eC (.bl false))) sNext)
  (sIf (eNot (eTru (eCall c_law_read (eCons (eCall c_law_spoilt (eCons (eVar 4) (eCons (eCall c_law_cell_at (eCons (eVar 0) (eCons (eOp pAdd (eVar 1) (eC (.int 1))) eNil))) eNil))) eNil)))) (sRet (eC (.bl false))) sNext))))))
abbrev t_law (c_law_cell_at c_law_due c_law_read c_law_spoilt : Fn) : TSp :=
  (sSeq (sFor (iRange1 (eCons (eOp pAdd (eCB pMin2 (eCons (eC (.int 50)) (eCons (eCB pLen (eCons (eVar 0) eNil)) eNil))) (eC (.int 1))) eNil)) (gN 1) (b_law_0 c_law_cell_at c_law_due c_law_read c_law_spoilt))
  (sRet (eC (.bl true))))
theorem dq_law {P : Program} {w : World} {K : PySem.W.Frag} {mg : Str → Option Value} {base : Heap} {c_law_cell_at c_law_due c_law_read c_law_spoilt : Fn} {sp : Fn} {fL : Addr} {fdL : FuncData} (F : Fun K "law" "law" (top 23) fL fdL) (w_len : mg "len" = none) (w_min : mg "min" = none) (w_range : mg "range" = none) (w_str : mg "str" = none) (d_law_cell_at : Def P w K mg base 1 "_law_cell_at" ["_law_script", "_law_k"] (low K c_law_cell_at)) (mo_law_cell_at : MonoF c_law_cell_at) (d_law_due : Def P w K mg base 1 "_law_due" ["_law_text"] (low K c_law_due)) (mo_law_due : MonoF c_law_due) (d_law_read : Def P w K mg base 2 "_law_read" ["_law_text"] (low K c_law_read)) (mo_law_read : MonoF c_law_read) (d_law_spoilt : Def P w K mg base 2 "_law_spoilt" ["_law_text", "_law_cell"] (low K c_law_spoilt)) (mo_law_spoilt : MonoF c_law_spoilt) (len : ∀ ds Q, sp ds Q → ds.length = 1) (hsp : ∀ ds Q, sp ds Q → t_law c_law_cell_at c_law_due c_law_read c_law_spoilt { nx := fun _ => Q (.v .non), rt := Q } (startP ["_law_script", "_law_k", "_law_cell", "_law_number", "_law_text"] ds)) : FnOk P w K mg base CX0 3 fL fdL ["_law_script"] (low K sp) := by
  have sc : FnScope ["_law_script", "_law_k", "_law_cell", "_law_number", "_law_text"] ["_law_script"] (defScope (top 23)) := ⟨rfl, rfl, rfl, by decide +kernel, rfl, by decide +kernel, by decide +kernel⟩
  refine F.ok (k := 2) sc (low_len len) fun cdv A outer s H vs Q E hr qq => body_ok (N := ["_law_script", "_law_k", "_law_cell", "_law_number", "_law_text"]) (t := t_law c_law_cell_at c_law_due c_law_read c_law_spoilt) ?_ hsp qq
  ·
    have hu := hr.units
    have hu1 := hu_of hr
    have hu65 := units65 hr
    exact (q_consS (q_for PassesOwn.never rfl (q_iRange1 rfl w_range (q_cons (q_op opd_add (q_callB (cd_min2 rfl) rfl w_min boot_min (q_cons q_int (q_cons (q_callB cd_len rfl w_len boot_len (q_cons (q_var 0 (pv 0)) q_nil)) q_nil))) q_int) q_nil)) (q_gN (i := 1) (k := 5) sc.nd rfl (Or.inl rfl)) (q_consS (q_set (i := 2) sc.nd rfl (Or.inl rfl) (q_call d_law_cell_at mo_law_cell_at (hr.mono (by decide)) (q_cons (q_var 0 (pv 0)) (q_cons (q_var 1 (pv 1)) q_nil))))
  (q_consS (q_set (i := 3) sc.nd rfl (Or.inl rfl) (q_op opd_mod (q_op opd_div (q_var 2 (pv 2)) q_int) (q_op opd_pow q_int q_int)))
  (q_consS (q_if (qt_cmp (opd_eq hu) (q_op opd_mod (q_var 2 (pv 2)) q_int) q_int) (q_oneS (q_set (i := 3) sc.nd rfl (Or.inl rfl) (q_neg (q_var 3 (pv 3))))) q_nilS)
  (q_consS (q_set (i := 4) sc.nd rfl (Or.inl rfl) (q_callTy cd_strI rfl w_str boot_str (q_cons (q_var 3 (pv 3)) q_nil)))
  (q_consS (q_if (QW.qt (qw_or (qt_cmp (opd_ne hu) (q_call d_law_due mo_law_due (hr.mono (by decide)) (q_cons (q_var 4 (pv 4)) q_nil)) (q_var 3 (pv 3))) (qw_or1 (qt_not (qt_tru (q_call d_law_read mo_law_read (hr.mono (by decide)) (q_cons (q_var 4 (pv 4)) q_nil))))))) (q_oneS (q_ret q_bl)) q_nilS)
  (q_oneS (q_if (qt_not (qt_tru (q_call d_law_read mo_law_read (hr.mono (by decide)) (q_cons (q_call d_law_spoilt mo_law_spoilt (hr.mono (by decide)) (q_cons (q_var 4 (pv 4)) (q_cons (q_call d_law_cell_at mo_law_cell_at (hr.mono (by decide)) (q_cons (q_var 0 (pv 0)) (q_cons (q_op opd_add (q_var 1 (pv 1)) q_int) q_nil))) q_nil))) q_nil)))) (q_oneS (q_ret q_bl)) q_nilS))))))))
  (q_oneS (q_ret q_bl)))
end Lw
namespace Lw
open PySem PySem.Spec PyProof.Rows L2 Z
open PySem.NumText (AllDigits digitsVal)
abbrev S (l : List Nat) : Str := ⟨l.toArray⟩
abbrev tx (l : List Nat) : Dv := .str (S l)
def Asc (l : List Nat) : Prop := ∀ c ∈ l, c < 128
theorem len_S (l : List Nat) : (S l).length = l.length := List.size_toArray
theorem app_S (a b : List Nat) : S a ++ S b = S (a ++ b) := by
  refine PyProof.Rows.ext_toList ?_
  rw [PySem.W.KT.app_list]
theorem all_S {l : List Nat} (h : Asc l) : (S l).cps.all (· < 128) = true := by
  rw [Array.all_eq_true']
  intro c hc
  simpa using h c (by simpa using hc)
theorem ok_S {l : List Nat} (h : Asc l) : okD 8 (tx l) = true := by
  show (S l).cps.all (· < 0x110000) = true
  rw [Array.all_eq_true']
  intro c hc
  have := h c (by simpa using hc)
  simp only [decide_eq_true_eq]
  omega
theorem eqD_S (a b : List Nat) : eqD (tx a) (tx b) = decide (a = b) := by
  unfold eqD
  show PyData.eqv (.str (S a)) (.str (S b)) = _
  rw [PyData.eqv, Bool.eq_iff_iff, beq_iff_eq, decide_eq_true_eq]
  constructor
  · intro h
    have := congrArg (fun s : Str => s.cps.toList) h
    simpa using this
  · rintro rfl; rfl
theorem cut_S (l : List Nat) (lo hi : Option Int) : cutS (S l) lo hi = S ((l.drop (HT.sIx l.length 0 lo)).take (HT.sIx l.length l.length hi - HT.sIx l.length 0 lo)) := by
  unfold cutS
  simp
theorem cut_1 (c : Nat) (r : List Nat) : cutS (S (c :: r)) (some 1) none = S r := by
  rw [cut_S, show HT.sIx (c :: r).length 0 (some 1) = 1 from (HT.sIx_nat _ _ 1).trans (by simp), HT.sIx_none]
  simp
theorem cut_h (c : Nat) (r : List Nat) : cutS (S (c :: r)) none (some 1) = S [c] := by
  rw [cut_S, show HT.sIx (c :: r).length (c :: r).length (some 1) = 1 from (HT.sIx_nat _ _ 1).trans (by simp), HT.sIx_none]
  simp
theorem cut_nil (lo hi : Option Int) : cutS (S []) lo hi = S [] := by
  rw [cut_S]
  simp
theorem cut_lo (l : List Nat) (k : Nat) : cutS (S l) (some (k : Int)) none = S (l.drop k) := by
  rw [cut_S, HT.sIx_nat, HT.sIx_none]
  congr 1
  by_cases h : k ≤ l.length
  · rw [Nat.min_eq_left h, List.take_of_length_le (by simp)]
  · rw [Nat.min_eq_right (by omega), List.drop_of_length_le (Nat.le_refl _), List.drop_of_length_le (by omega), List.take_nil]
theorem cut_hi (l : List Nat) (k : Nat) : cutS (S l) none (some (k : Int)) = S (l.take k) := by
  rw [cut_S, HT.sIx_nat, HT.sIx_none, List.drop_zero, Nat.sub_zero]
  congr 1
  rw [List.take_eq_take_iff]
  omega
theorem l_min : ("-" : Str) = S [45] := by decide +kernel
theorem l_nul : ("0" : Str) = S [48] := by decide +kernel
theorem l_emp : ("" : Str) = S [] := by decide +kernel
theorem l_fig : ("0123456789" : Str) = S [48, 49, 50, 51, 52, 53, 54, 55, 56, 57] := by decide +kernel
theorem l_dr : ("0123456789- .x" : Str) = S [48, 49, 50, 51, 52, 53, 54, 55, 56, 57, 45, 32, 46, 120] := by decide +kernel
theorem l_sg : ("0 -+.a" : Str) = S [48, 32, 45, 43, 46, 97] := by decide +kernel
def isDig (c : Nat) : Bool := decide (48 ≤ c) && decide (c ≤ 57)
theorem con_fig : ∀ c : Nat, c < 128 → Txt.contains ("0123456789" : Str) ⟨#[c]⟩ = isDig c := by decide +kernel
theorem occ_fig : ∀ c : Nat, c < 58 → 48 ≤ c → Builtin.Str.occurrences ("0123456789" : Str) ⟨#[c]⟩ 0 ("0123456789" : Str).length 1 = [c - 48] := by decide +kernel
theorem starts_min (l : List Nat) : Txt.startswith (S l) ("-" : Str) = decide (l.head? = some 45) := by
  rw [l_min]
  cases l with
  | nil => rfl
  | cons c r =>
    show (decide (0 + 1 ≤ (S (c :: r)).length) && Builtin.Str.subAt (S (c :: r)) (S [45]) 0) = _
    rw [len_S]
    have e : Builtin.Str.subAt (S (c :: r)) (S [45]) 0 = decide (c = 45) := by
      unfold Builtin.Str.subAt
      simp
      show ([c] == [45]) = _
      rw [Bool.eq_iff_iff]
      simp
    rw [e]
    simp
def body : List Nat → List Nat
  | 45 :: r => r
  | l => l
def odd (l : List Nat) : Bool := decide ((body l).length = 0) || decide (12 < (body l).length) || (decide ((body l).head? = some 48) && !decide (l = [48]))
def due (l : List Nat) : Option Int := if odd l = true then none else if (body l).all isDig = true then some (if l.head? = some 45 then -((digitsVal (body l) : Nat) : Int) else ((digitsVal (body l) : Nat) : Int)) else none
theorem body_min (r : List Nat) : body (45 :: r) = r := rfl
theorem body_oth {l : List Nat} (h : l.head? ≠ some 45) : body l = l := by
  unfold body
  split
  · exact absurd rfl h
  · rfl
theorem Asc.body {l : List Nat} (h : Asc l) : Asc (body l) := by
  unfold Lw.body
  split
  · exact fun c hc => h c (List.mem_cons_of_mem _ hc)
  · exact h
theorem body_len (l : List Nat) : (body l).length ≤ l.length := by
  unfold body
  split
  · simp
  · exact Nat.le_refl _
end Lw
namespace Lw
open PySem PySem.Spec PyProof.Rows L2 Z
open PySem.NumText (AllDigits digitsVal)
def sp_cell : Fn := fun ds Q => ∃ (ns : List Int) (k : Nat), ds = [.scr ns, .int k] ∧ ∀ n : Int, Q (.v (.int n))
theorem len_cell : ∀ ds Q, sp_cell ds Q → ds.length = 2 := by rintro ds Q ⟨_, _, rfl, _⟩; rfl
theorem mo_cell : MonoF sp_cell := ⟨fun ds Q Q' w ⟨p, q, e, h⟩ => ⟨p, q, e, fun n => w _ (h n)⟩⟩
theorem p_law_cell_at : ∀ ds Q, sp_cell ds Q → t_law_cell_at { nx := fun _ => Q (.v .non), rt := Q } (startP ["_law_script", "_law_k"] ds) := by
  rintro ds Q ⟨ns, k, rfl, h⟩
  simp only [↓zt, zo, zc, setAll, Nat.reduceSub, Nat.reduceAdd, ↓reduceIte, Int.reduceEq, Int.reduceMul, Int.reduceAdd, Int.reduceSub, Int.reduceNeg, Z.guard, Int.reduceLT, Int.reduceLE, Int.reduceToNat, Int.reducePow, Nat.reduceLT, Nat.reduceLeDiff, Nat.reducePow, LIM, ↓eSlS.eq_1, ↓eStarts.eq_1, ↓eIndexS.eq_1, ↓iStr.eq_1, ↓sRaise.eq_1, ↓sTryA.eq_1, ↓pSlS_s, ↓pInS_s, ↓pNotInS_s, ↓pStr_i, ↓pIntS_s, ↓pMulS_s, ↓pIx_str, ↓pLen_str]
  split
  · obtain ⟨n, hn⟩ : ∃ n, atI ns (k : Int) = some n := by
      rw [atI_nat (by omega) (by omega)]
      exact ⟨_, List.getElem?_eq_getElem (by omega)⟩
    rw [hn]
    exact h _
  · exact h _
theorem at_lit {l : List Nat} (h : Asc l) {n : Nat} (hn : l.length = n) (h0 : 0 < n) (c : Int) : ∃ ch, atI (S l).cps.toList (c % (n : Int)) = some ch ∧ ch < 128 := by
  subst hn
  have h1 := Int.emod_nonneg c (show (l.length : Int) ≠ 0 by omega)
  have h2 := Int.emod_lt_of_pos c (show (0 : Int) < l.length by omega)
  show ∃ ch, atI l _ = some ch ∧ _
  rw [atI_nat h1 h2, List.getElem?_eq_getElem (by omega)]
  exact ⟨_, rfl, h _ (List.getElem_mem _)⟩
theorem asc_lit {l : List Nat} (h : (l.all fun c => decide (c < 128)) = true) : Asc l := fun c hc => by
  have := List.all_eq_true.mp h c hc
  simpa using this
theorem Asc.app {a b : List Nat} (x : Asc a) (y : Asc b) : Asc (a ++ b) := fun c hc => by
  rcases List.mem_append.mp hc with h | h
  · exact x c h
  · exact y c h
theorem Asc.one {c : Nat} (h : c < 128) : Asc [c] := fun d hd => by rw [List.mem_singleton.mp hd]; exact h
theorem Asc.nil : Asc [] := fun _ h => nomatch h
theorem Asc.take {a : List Nat} (x : Asc a) (k : Nat) : Asc (a.take k) := fun c hc => x c (List.mem_of_mem_take hc)
theorem Asc.drop {a : List Nat} (x : Asc a) (k : Nat) : Asc (a.drop k) := fun c hc => x c (List.mem_of_mem_drop hc)
def sp_drawn : Fn := fun ds Q => ∃ c : Int, ds = [.int c] ∧ ∀ l, Asc l → l.length ≤ 16 → Q (.v (tx l))
theorem len_drawn : ∀ ds Q, sp_drawn ds Q → ds.length = 1 := by rintro ds Q ⟨_, rfl, _⟩; rfl
theorem mo_drawn : MonoF sp_drawn := ⟨fun ds Q Q' w ⟨p, e, h⟩ => ⟨p, e, fun l a b => w _ (h l a b)⟩⟩
theorem drawn_0 {E : En} {x0 : Sl} (h : ∀ l c s3, Asc l → l.length ≤ 16 → E.nx [x0, .v (tx l), .v (.int c), s3]) : ∀ (i k : Nat) (l : List Nat) (c : Int) (s3 : Sl), Asc l → l.length + i ≤ 16 →
    forGo (gN 3) b_law_drawn_0 [] (rangeD k i) E [x0, .v (tx l), .v (.int c), s3] := by
  intro i
  induction i with
  | zero =>
    intro k l c s3 ha hl
    rw [rangeD_nil, forGo_nil]
    exact ⟨fun p hp => by simp at hp, h _ _ _ ha (by omega)⟩
  | succ i ih =>
    intro k l c s3 ha hl
    rw [rangeD_cons, forGo_cons]
    refine ⟨fun p hp => by simp at hp, ?_⟩
    rw [show ((k : Int) + 1) = ((k + 1 : Nat) : Int) by omega]
    have nx := fun l c s3 => ih (k + 1) l c s3
    generalize forGo (gN 3) b_law_drawn_0 [] (rangeD ((k + 1 : Nat) : Int) i) E = G at nx ⊢
    simp only [↓zt, zo, zc, setAll, Nat.reduceSub, Nat.reduceAdd, ↓reduceIte, Int.reduceEq, Int.reduceMul, Int.reduceAdd, Int.reduceSub, Int.reduceNeg, Z.guard, Int.reduceLT, Int.reduceLE, Int.reduceToNat, Int.reducePow, Nat.reduceLT, Nat.reduceLeDiff, Nat.reducePow, LIM, ↓eSlS.eq_1, ↓eStarts.eq_1, ↓eIndexS.eq_1, ↓iStr.eq_1, ↓sRaise.eq_1, ↓sTryA.eq_1, ↓pSlS_s, ↓pInS_s, ↓pNotInS_s, ↓pStr_i, ↓pIntS_s, ↓pMulS_s, ↓pIx_str, ↓pLen_str, b_law_drawn_0]
    obtain ⟨ch, e, hc⟩ := at_lit (l := [48, 49, 50, 51, 52, 53, 54, 55, 56, 57, 45, 32, 46, 120]) (asc_lit rfl) (n := 14) rfl (by decide) c
    rw [l_dr]
    rw [show ((14 : Nat) : Int) = 14 from rfl] at e
    rw [e]
    simp only [↓zt, zo, zc, setAll, Nat.reduceSub, Nat.reduceAdd, ↓reduceIte, Int.reduceEq, Int.reduceMul, Int.reduceAdd, Int.reduceSub, Int.reduceNeg, Z.guard, Int.reduceLT, Int.reduceLE, Int.reduceToNat, Int.reducePow, Nat.reduceLT, Nat.reduceLeDiff, Nat.reducePow, LIM, ↓eSlS.eq_1, ↓eStarts.eq_1, ↓eIndexS.eq_1, ↓iStr.eq_1, ↓sRaise.eq_1, ↓sTryA.eq_1, ↓pSlS_s, ↓pInS_s, ↓pNotInS_s, ↓pStr_i, ↓pIntS_s, ↓pMulS_s, ↓pIx_str, ↓pLen_str]
    rw [show (⟨#[ch]⟩ : Str) = S [ch] from rfl, app_S, len_S, len_S, len_S]
    refine ⟨by decide, by simp; omega, ?_⟩
    exact nx _ _ _ (ha.app (.one hc)) (by simp; omega)
theorem p_law_drawn : ∀ ds Q, sp_drawn ds Q → t_law_drawn { nx := fun _ => Q (.v .non), rt := Q } (startP ["_law_cell", "_law_text", "_law_rest", "_law_k"] ds) := by
  rintro ds Q ⟨c, rfl, h⟩
  simp only [↓zt, zo, zc, setAll, Nat.reduceSub, Nat.reduceAdd, ↓reduceIte, Int.reduceEq, Int.reduceMul, Int.reduceAdd, Int.reduceSub, Int.reduceNeg, Z.guard, Int.reduceLT, Int.reduceLE, Int.reduceToNat, Int.reducePow, Nat.reduceLT, Nat.reduceLeDiff, Nat.reducePow, LIM, ↓eSlS.eq_1, ↓eStarts.eq_1, ↓eIndexS.eq_1, ↓iStr.eq_1, ↓sRaise.eq_1, ↓sTryA.eq_1, ↓pSlS_s, ↓pInS_s, ↓pNotInS_s, ↓pStr_i, ↓pIntS_s, ↓pMulS_s, ↓pIx_str, ↓pLen_str]
  have h1 := Int.emod_nonneg c (show (16 : Int) ≠ 0 by decide)
  have h2 := Int.emod_lt_of_pos c (show (0 : Int) < 16 by decide)
  refine ⟨by omega, ?_⟩
  rw [l_emp]
  refine drawn_0 (fun l c s3 ha hl => ?_) _ 0 [] _ _ .nil (by simp; omega)
  simp only [↓zt, zo, zc, setAll, Nat.reduceSub, Nat.reduceAdd, ↓reduceIte, Int.reduceEq, Int.reduceMul, Int.reduceAdd, Int.reduceSub, Int.reduceNeg, Z.guard, Int.reduceLT, Int.reduceLE, Int.reduceToNat, Int.reducePow, Nat.reduceLT, Nat.reduceLeDiff, Nat.reducePow, LIM, ↓eSlS.eq_1, ↓eStarts.eq_1, ↓eIndexS.eq_1, ↓iStr.eq_1, ↓sRaise.eq_1, ↓sTryA.eq_1, ↓pSlS_s, ↓pInS_s, ↓pNotInS_s, ↓pStr_i, ↓pIntS_s, ↓pMulS_s, ↓pIx_str, ↓pLen_str]
  exact h l ha hl
end Lw
namespace Lw
open PySem PySem.Spec PyProof.Rows L2 Z
open PySem.NumText (AllDigits digitsVal)
theorem ok_lit {l : List Nat} (h : (l.all fun c => decide (c < 128)) = true) : okD 8 (tx l) = true := ok_S (asc_lit h)
def foldV (n : Int) (cs : List Nat) : Int := cs.foldl (fun a c => a * 10 + ((c - 48 : Nat) : Int)) n
theorem foldV_nat : ∀ (cs : List Nat) (n : Nat), foldV (n : Int) cs = ((cs.foldl (fun acc c => acc * 10 + (c - 48)) n : Nat) : Int)
  | [], n => rfl
  | c :: cs, n => by
    show foldV ((n : Int) * 10 + ((c - 48 : Nat) : Int)) cs = _
    rw [show (n : Int) * 10 + ((c - 48 : Nat) : Int) = ((n * 10 + (c - 48) : Nat) : Int) by omega, foldV_nat cs]
    rfl
theorem foldV_val (cs : List Nat) : foldV 0 cs = ((digitsVal cs : Nat) : Int) := foldV_nat cs 0
theorem due_0 {E : En} {x0 x1 : Sl} : ∀ (cs : List Nat) (n : Int) (s3 : Sl), Asc cs → (cs.all isDig = true → ∀ s3, E.nx [x0, x1, .v (.int (foldV n cs)), s3]) → (cs.all isDig = false → E.rt (.v .non)) →
    forGo (gN 3) b_law_due_0 [] (chars (S cs)) E [x0, x1, .v (.int n), s3] := by
  intro cs
  induction cs with
  | nil =>
    intro n s3 ha h1 h2
    show forGo (gN 3) b_law_due_0 [] [] E _
    rw [forGo_nil]
    exact ⟨fun p hp => by simp at hp, h1 rfl s3⟩
  | cons c cs ih =>
    intro n s3 ha h1 h2
    have ac : Asc cs := fun d hd => ha d (List.mem_cons_of_mem _ hd)
    have hc : c < 128 := ha c (List.mem_cons_self ..)
    show forGo (gN 3) b_law_due_0 [] (.str ⟨#[c]⟩ :: chars (S cs)) E _
    rw [forGo_cons]
    refine ⟨fun p hp => by simp at hp, ?_⟩
    have nx := fun n s3 => ih n s3 ac
    generalize forGo (gN 3) b_law_due_0 [] (chars (S cs)) E = G at nx ⊢
    simp only [↓zt, zo, zc, setAll, Nat.reduceSub, Nat.reduceAdd, ↓reduceIte, Int.reduceEq, Int.reduceMul, Int.reduceAdd, Int.reduceSub, Int.reduceNeg, Z.guard, Int.reduceLT, Int.reduceLE, Int.reduceToNat, Int.reducePow, Nat.reduceLT, Nat.reduceLeDiff, Nat.reducePow, LIM, ↓eSlS.eq_1, ↓eStarts.eq_1, ↓eIndexS.eq_1, ↓iStr.eq_1, ↓sRaise.eq_1, ↓sTryA.eq_1, ↓pSlS_s, ↓pInS_s, ↓pNotInS_s, ↓pStr_i, ↓pIntS_s, ↓pMulS_s, ↓pIx_str, ↓pLen_str, b_law_due_0]
    rw [con_fig c hc]
    cases hd : isDig c with
    | false =>
      rw [Bool.not_false]
      refine iteT (h2 ?_)
      rw [List.all_cons, hd]
      rfl
    | true =>
      rw [Bool.not_true]
      refine iteF ?_
      have hd' := hd
      unfold isDig at hd'
      simp only [Bool.and_eq_true, decide_eq_true_eq] at hd'
      refine ⟨.inl (.inr ⟨by decide, by decide⟩), _, c - 48, [], rfl, occ_fig c (by omega) hd'.1, ?_⟩
      refine nx _ _ (fun z => h1 ?_) (fun z => h2 ?_)
      · rw [List.all_cons, hd, z]; rfl
      · rw [List.all_cons, hd, z]; rfl
theorem due_1 {l : List Nat} (ha : Asc l) (hl : l.length ≤ 1000) {tl : TSp} {E : En} {x1 x2 x3 : Sl} (h : tl E [.v (tx l), .v (tx (body l)), x2, x3]) :
    sSeq (sSet 1 (eVar 0)) (sSeq (sIf (eTest (eOp pEq (eSlS (eVar 0) eNoPart (ePart (eC (.int 1)))) (eC (.str "-")))) (sSet 1 (eSlS (eVar 0) (ePart (eC (.int 1))) eNoPart)) sNext) tl) E [.v (tx l), x1, x2, x3] := by
  simp only [↓zt, zo, zc, setAll, Nat.reduceSub, Nat.reduceAdd, ↓reduceIte, Int.reduceEq, Int.reduceMul, Int.reduceAdd, Int.reduceSub, Int.reduceNeg, Z.guard, Int.reduceLT, Int.reduceLE, Int.reduceToNat, Int.reducePow, Nat.reduceLT, Nat.reduceLeDiff, Nat.reducePow, LIM, ↓eSlS.eq_1, ↓eStarts.eq_1, ↓eIndexS.eq_1, ↓iStr.eq_1, ↓sRaise.eq_1, ↓sTryA.eq_1, ↓pSlS_s, ↓pInS_s, ↓pNotInS_s, ↓pStr_i, ↓pIntS_s, ↓pMulS_s, ↓pIx_str, ↓pLen_str]
  rw [l_min, len_S]
  refine ⟨by omega, ?_⟩
  cases l with
  | nil =>
    rw [cut_nil, eqD_S]
    exact ⟨⟨ok_lit rfl, ok_lit rfl⟩, h⟩
  | cons c r =>
    rw [cut_h, eqD_S]
    refine ⟨⟨ok_S (.one (ha c (List.mem_cons_self ..))), ok_lit rfl⟩, ?_⟩
    by_cases e : c = 45
    · subst e
      rw [decide_eq_true rfl]
      refine iteT ⟨by omega, ?_⟩
      rw [cut_1]
      exact h
    · rw [decide_eq_false (by simpa using e)]
      refine iteF ?_
      rw [body_oth (by simpa using e)] at h
      exact h
theorem ite_b {b : Bool} {P Q : Prop} (h1 : b = true → P) (h2 : b = false → Q) : if b = true then P else Q := by
  cases b with
  | true => exact iteT (h1 rfl)
  | false => exact iteF (h2 rfl)
theorem due_2 {l : List Nat} (ha : Asc l) (hl : l.length ≤ 1000) {tl : TSp} {E : En} {x2 x3 : Sl} (h1 : odd l = true → E.rt (.v .non)) (h2 : odd l = false → tl E [.v (tx l), .v (tx (body l)), x2, x3]) :
    sSeq (sIf (eOr (eTest (eOp pEq (eCB pLen (eCons (eVar 1) eNil)) (eC (.int 0)))) (eOr (eTest (eOp pGt (eCB pLen (eCons (eVar 1) eNil)) (eC (.int 12)))) (eAnd (eTest (eOp pEq (eOp pIx (eVar 1) (eC (.int 0))) (eC (.str "0")))) (eTest (eOp pNe (eVar 0) (eC (.str "0"))))))) (sRet (eC .non)) sNext) tl E [.v (tx l), .v (tx (body l)), x2, x3] := by
  have bl := body_len l
  have ba := ha.body
  unfold odd at h1 h2
  generalize body l = b at *
  simp only [↓zt, zo, zc, setAll, Nat.reduceSub, Nat.reduceAdd, ↓reduceIte, Int.reduceEq, Int.reduceMul, Int.reduceAdd, Int.reduceSub, Int.reduceNeg, Z.guard, Int.reduceLT, Int.reduceLE, Int.reduceToNat, Int.reducePow, Nat.reduceLT, Nat.reduceLeDiff, Nat.reducePow, LIM, ↓eSlS.eq_1, ↓eStarts.eq_1, ↓eIndexS.eq_1, ↓iStr.eq_1, ↓sRaise.eq_1, ↓sTryA.eq_1, ↓pSlS_s, ↓pInS_s, ↓pNotInS_s, ↓pStr_i, ↓pIntS_s, ↓pMulS_s, ↓pIx_str, ↓pLen_str]
  rw [len_S, l_nul]
  refine ⟨by omega, ?_⟩
  cases b with
  | nil =>
    refine ite2 (fun _ => h1 rfl) fun e => ?_
    simp at e
  | cons c r =>
    refine ite2 (fun e => ?_) fun _ => ?_
    · simp at e
      omega
    refine ⟨by omega, ?_⟩
    by_cases h12 : 12 < (c :: r).length
    · refine ite2 (fun _ => h1 ?_) fun e => ?_
      · rw [decide_eq_true h12]; simp
      · simp at e h12; omega
    · refine ite2 (fun e => ?_) fun _ => ?_
      · simp at e h12; omega
      refine ⟨by omega, ?_⟩
      show (match atI (c :: r) 0 with | some c => _ | none => False)
      rw [atI_0]
      simp only [↓zt, zo, zc, setAll, Nat.reduceSub, Nat.reduceAdd, ↓reduceIte, Int.reduceEq, Int.reduceMul, Int.reduceAdd, Int.reduceSub, Int.reduceNeg, Z.guard, Int.reduceLT, Int.reduceLE, Int.reduceToNat, Int.reducePow, Nat.reduceLT, Nat.reduceLeDiff, Nat.reducePow, LIM, ↓eSlS.eq_1, ↓eStarts.eq_1, ↓eIndexS.eq_1, ↓iStr.eq_1, ↓sRaise.eq_1, ↓sTryA.eq_1, ↓pSlS_s, ↓pInS_s, ↓pNotInS_s, ↓pStr_i, ↓pIntS_s, ↓pMulS_s, ↓pIx_str, ↓pLen_str]
      rw [show (⟨#[c]⟩ : Str) = S [c] from rfl, eqD_S, eqD_S]
      have d1 : decide ((c :: r).length = 0) = false := rfl
      rw [d1, decide_eq_false h12, Bool.false_or, Bool.false_or] at h1 h2
      refine ⟨⟨ok_S (.one (ba c (List.mem_cons_self ..))), ok_lit rfl⟩, ?_⟩
      by_cases e : c = 48
      · subst e
        rw [decide_eq_true rfl]
        refine iteT ⟨⟨ok_S ha, ok_lit rfl⟩, ?_⟩
        rw [decide_eq_true (by rfl), Bool.true_and] at h1 h2
        exact ite_b h1 h2
      · rw [decide_eq_false (by simpa using e)]
        refine iteF (h2 ?_)
        rw [decide_eq_false (by simpa using e)]
        rfl
def dueD (l : List Nat) : Dv := match due l with
  | none => .non
  | some n => .int n
def sp_due : Fn := fun ds Q => ∃ l, ds = [tx l] ∧ Asc l ∧ l.length ≤ 1000 ∧ Q (.v (dueD l))
theorem len_due : ∀ ds Q, sp_due ds Q → ds.length = 1 := by rintro ds Q ⟨_, rfl, _⟩; rfl
theorem mo_due : MonoF sp_due := ⟨fun ds Q Q' w ⟨p, e, a, b, h⟩ => ⟨p, e, a, b, w _ h⟩⟩
theorem due_3 {l : List Nat} (ha : Asc l) (hl : l.length ≤ 1000) (h0 : odd l = false) {E : En} {x1 x3 : Sl} (n : Int) (h : E.rt (.v (.int (if l.head? = some 45 then -n else n)))) :
    (sSeq (sIf (eTest (eOp pEq (eOp pIx (eVar 0) (eC (.int 0))) (eC (.str "-")))) (sRet (eNeg (eVar 2))) sNext) (sRet (eVar 2))) E [.v (tx l), x1, .v (.int n), x3] := by
  cases l with
  | nil => exact absurd h0 (by decide)
  | cons c r =>
    simp only [↓zt, zo, zc, setAll, Nat.reduceSub, Nat.reduceAdd, ↓reduceIte, Int.reduceEq, Int.reduceMul, Int.reduceAdd, Int.reduceSub, Int.reduceNeg, Z.guard, Int.reduceLT, Int.reduceLE, Int.reduceToNat, Int.reducePow, Nat.reduceLT, Nat.reduceLeDiff, Nat.reducePow, LIM, ↓eSlS.eq_1, ↓eStarts.eq_1, ↓eIndexS.eq_1, ↓iStr.eq_1, ↓sRaise.eq_1, ↓sTryA.eq_1, ↓pSlS_s, ↓pInS_s, ↓pNotInS_s, ↓pStr_i, ↓pIntS_s, ↓pMulS_s, ↓pIx_str, ↓pLen_str]
    rw [len_S, l_min]
    refine ⟨by omega, ?_⟩
    rw [show (⟨#[c]⟩ : Str) = S [c] from rfl, eqD_S]
    refine ⟨⟨ok_S (.one (ha c (List.mem_cons_self ..))), ok_lit rfl⟩, ?_⟩
    by_cases e : c = 45
    · subst e
      rw [decide_eq_true rfl]
      refine iteT ?_
      rw [if_pos (List.head?_cons ..)] at h
      exact h
    · rw [decide_eq_false (by simpa using e)]
      refine iteF ?_
      rw [if_neg (by simpa using e)] at h
      exact h
theorem p_law_due : ∀ ds Q, sp_due ds Q → t_law_due { nx := fun _ => Q (.v .non), rt := Q } (startP ["_law_text", "_law_body", "_law_number", "_law_sign"] ds) := by
  rintro ds Q ⟨l, rfl, ha, hl, h⟩
  refine due_1 ha hl (due_2 ha hl (fun o => ?_) fun o => ?_)
  · unfold dueD due at h
    rw [if_pos o] at h
    exact h
  · unfold dueD due at h
    rw [if_neg (by rw [o]; decide)] at h
    simp only [↓zt, zo, zc, setAll, Nat.reduceSub, Nat.reduceAdd, ↓reduceIte, Int.reduceEq, Int.reduceMul, Int.reduceAdd, Int.reduceSub, Int.reduceNeg, Z.guard, Int.reduceLT, Int.reduceLE, Int.reduceToNat, Int.reducePow, Nat.reduceLT, Nat.reduceLeDiff, Nat.reducePow, LIM, ↓eSlS.eq_1, ↓eStarts.eq_1, ↓eIndexS.eq_1, ↓iStr.eq_1, ↓sRaise.eq_1, ↓sTryA.eq_1, ↓pSlS_s, ↓pInS_s, ↓pNotInS_s, ↓pStr_i, ↓pIntS_s, ↓pMulS_s, ↓pIx_str, ↓pLen_str]
    refine ⟨all_S ha.body, due_0 (body l) 0 _ ha.body (fun z s3 => due_3 ha hl o _ ?_) fun z => ?_⟩
    · rw [if_pos z] at h
      rw [foldV_val]
      exact h
    · rw [if_neg (by rw [z]; decide)] at h
      exact h
end Lw
namespace Lw
open PySem PySem.Spec PyProof.Rows L2 Z
open PySem.NumText (AllDigits digitsVal)
def digD (cs : List Nat) : List Dv := (cs.map isDig).map Dv.bl
theorem all_c {Q : R → Prop} : ∀ (cs acc : List Nat), Asc cs → acc.length + cs.length ≤ 1000 → Q (.nw (.lst (digD (acc ++ cs)))) →
    compGo [.un] (gN 0) tTrue (eOp pInS (eVar 0) (eC (.str "0123456789"))) (chars (S cs)) (digD acc) Q := by
  intro cs
  induction cs with
  | nil =>
    intro acc _ _ h
    show compGo _ _ _ _ [] _ _
    rw [compGo_nil]
    rw [List.append_nil] at h
    exact h
  | cons c cs ih =>
    intro acc ha hl h
    have hc : c < 128 := ha c (List.mem_cons_self ..)
    show compGo _ _ _ _ (.str ⟨#[c]⟩ :: chars (S cs)) _ _
    have nx := ih (acc ++ [c]) (fun d hd => ha d (List.mem_cons_of_mem _ hd)) (by simp at hl ⊢; omega) (by simpa using h)
    rw [compGo_cons]
    generalize compGo [.un] (gN 0) tTrue (eOp pInS (eVar 0) (eC (.str "0123456789"))) (chars (S cs)) = G at nx ⊢
    simp only [↓zt, zo, zc, setAll, Nat.reduceSub, Nat.reduceAdd, ↓reduceIte, Int.reduceEq, Int.reduceMul, Int.reduceAdd, Int.reduceSub, Int.reduceNeg, Z.guard, Int.reduceLT, Int.reduceLE, Int.reduceToNat, Int.reducePow, Nat.reduceLT, Nat.reduceLeDiff, Nat.reducePow, LIM, ↓eSlS.eq_1, ↓eStarts.eq_1, ↓eIndexS.eq_1, ↓iStr.eq_1, ↓sRaise.eq_1, ↓sTryA.eq_1, ↓pSlS_s, ↓pInS_s, ↓pNotInS_s, ↓pStr_i, ↓pIntS_s, ↓pMulS_s, ↓pIx_str, ↓pLen_str]
    rw [con_fig c hc]
    refine ⟨by unfold digD; simp at hl ⊢; omega, ?_⟩
    unfold digD at nx ⊢
    simpa using nx
theorem digD_all (cs : List Nat) : (cs.map isDig).all _root_.id = cs.all isDig := by
  rw [List.all_map]
  rfl
def sp_read (XT : Addr) : FnX := fun ds Q Ψ => ∃ l, ds = [tx l] ∧ Asc l ∧ l.length ≤ 1000 ∧ (∀ n, due l = some n → Q (.v (.int n))) ∧ (due l = none → Ψ XT)
theorem len_read {XT : Addr} : ∀ ds Q Ψ, sp_read XT ds Q Ψ → ds.length = 1 := by rintro ds Q Ψ ⟨_, rfl, _⟩; rfl
theorem mo_read {XT : Addr} : MonoX (sp_read XT) := ⟨fun ds Q Q' Ψ Ψ' w w' z => by obtain ⟨a, b, c, d, e, f⟩ := z; exact ⟨a, b, c, d, fun n h => w _ (e n h), fun h => w' _ (f h)⟩⟩
theorem rd_1 {l : List Nat} (hl : l.length ≤ 1000) {tl : TSp} {E : En} {x1 : Sl} (h : tl E [.v (tx l), .v (tx (body l))]) :
    sSeq (sSet 1 (eIf (eTru (eStarts (eVar 0) (eC (.str "-")))) (eSlS (eVar 0) (ePart (eC (.int 1))) eNoPart) (eVar 0))) tl E [.v (tx l), x1] := by
  simp only [↓zt, zo, zc, setAll, Nat.reduceSub, Nat.reduceAdd, ↓reduceIte, Int.reduceEq, Int.reduceMul, Int.reduceAdd, Int.reduceSub, Int.reduceNeg, Z.guard, Int.reduceLT, Int.reduceLE, Int.reduceToNat, Int.reducePow, Nat.reduceLT, Nat.reduceLeDiff, Nat.reducePow, LIM, ↓eSlS.eq_1, ↓eStarts.eq_1, ↓eIndexS.eq_1, ↓iStr.eq_1, ↓sRaise.eq_1, ↓sTryA.eq_1, ↓pSlS_s, ↓pInS_s, ↓pNotInS_s, ↓pStr_i, ↓pIntS_s, ↓pMulS_s, ↓pIx_str, ↓pLen_str]
  refine ⟨_, rfl, ?_⟩
  rw [starts_min, len_S]
  refine ite2 (fun e => ⟨by omega, ?_⟩) fun e => ?_
  · cases l with
    | nil => exact absurd e (by decide)
    | cons c r =>
      have e : c = 45 := by simpa using e
      subst e
      rw [cut_1]
      exact h
  · rw [body_oth (by simpa using e)] at h
    exact h
theorem rd_2 {l : List Nat} (hl : l.length ≤ 1000) {XT : Addr} {Ψ : Addr → Prop} {tl : TSp} {E : En} (h0 : due l = none → Ψ XT) (h : (body l).length ≠ 0 → (body l).length ≤ 12 → tl E [.v (tx l), .v (tx (body l))]) :
    sSeq (sIf (eNot (eTest (eChain pLe pLe (eC (.int 1)) (eCB pLen (eCons (eVar 1) eNil)) (eC (.int 12))))) (sRaise Ψ XT (eCons (eC (.str "a written number has one to twelve figures")) eNil)) sNext) tl E [.v (tx l), .v (tx (body l))] := by
  have bl := body_len l
  simp only [↓zt, zo, zc, setAll, Nat.reduceSub, Nat.reduceAdd, ↓reduceIte, Int.reduceEq, Int.reduceMul, Int.reduceAdd, Int.reduceSub, Int.reduceNeg, Z.guard, Int.reduceLT, Int.reduceLE, Int.reduceToNat, Int.reducePow, Nat.reduceLT, Nat.reduceLeDiff, Nat.reducePow, LIM, ↓eSlS.eq_1, ↓eStarts.eq_1, ↓eIndexS.eq_1, ↓iStr.eq_1, ↓sRaise.eq_1, ↓sTryA.eq_1, ↓pSlS_s, ↓pInS_s, ↓pNotInS_s, ↓pStr_i, ↓pIntS_s, ↓pMulS_s, ↓pIx_str, ↓pLen_str]
  rw [len_S]
  refine ⟨by omega, ?_⟩
  by_cases h1 : (body l).length = 0
  · have d : due l = none := by
      unfold due odd
      rw [if_pos (by rw [decide_eq_true h1]; simp)]
    have := h0 d
    rw [h1]
    simpa using this
  · by_cases h2 : (body l).length ≤ 12
    · have e1 : (1 : Int) ≤ ((body l).length : Int) := by omega
      have e2 : ((body l).length : Int) ≤ 12 := by omega
      simpa [e1, e2] using h h1 h2
    · have d : due l = none := by
        unfold due odd
        rw [if_pos (by rw [decide_eq_true (show 12 < (body l).length by omega)]; simp)]
      have := h0 d
      have e1 : (1 : Int) ≤ ((body l).length : Int) := by omega
      have e2 : ¬ ((body l).length : Int) ≤ 12 := by omega
      simpa [e1, e2] using this
theorem rd_3 {l : List Nat} (ha : Asc l) (hl : l.length ≤ 1000) {XT : Addr} {Ψ : Addr → Prop} {tl : TSp} {E : En} (h0 : due l = none → Ψ XT) (h : (body l).all isDig = true → tl E [.v (tx l), .v (tx (body l))]) :
    sSeq (sIf (eNot (eTru (eCB pAll (eCons (eComp 1 [] (iStr (eVar 1)) (gN 0) tTrue (eOp pInS (eVar 0) (eC (.str "0123456789")))) eNil)))) (sRaise Ψ XT (eCons (eC (.str "a written number has figures alone, with a - ahead where it is below 0")) eNil)) sNext) tl E [.v (tx l), .v (tx (body l))] := by
  have bl := body_len l
  simp only [↓zt, zo, zc, setAll, Nat.reduceSub, Nat.reduceAdd, ↓reduceIte, Int.reduceEq, Int.reduceMul, Int.reduceAdd, Int.reduceSub, Int.reduceNeg, Z.guard, Int.reduceLT, Int.reduceLE, Int.reduceToNat, Int.reducePow, Nat.reduceLT, Nat.reduceLeDiff, Nat.reducePow, LIM, ↓eSlS.eq_1, ↓eStarts.eq_1, ↓eIndexS.eq_1, ↓iStr.eq_1, ↓sRaise.eq_1, ↓sTryA.eq_1, ↓pSlS_s, ↓pInS_s, ↓pNotInS_s, ↓pStr_i, ↓pIntS_s, ↓pMulS_s, ↓pIx_str, ↓pLen_str]
  refine ⟨all_S ha.body, all_c (body l) [] ha.body (by simp; omega) ?_⟩
  rw [List.nil_append]
  refine ⟨(body l).map isDig, rfl, ?_⟩
  rw [digD_all]
  simp only [↓zt, zo, zc, setAll, Nat.reduceSub, Nat.reduceAdd, ↓reduceIte, Int.reduceEq, Int.reduceMul, Int.reduceAdd, Int.reduceSub, Int.reduceNeg, Z.guard, Int.reduceLT, Int.reduceLE, Int.reduceToNat, Int.reducePow, Nat.reduceLT, Nat.reduceLeDiff, Nat.reducePow, LIM, ↓eSlS.eq_1, ↓eStarts.eq_1, ↓eIndexS.eq_1, ↓iStr.eq_1, ↓sRaise.eq_1, ↓sTryA.eq_1, ↓pSlS_s, ↓pInS_s, ↓pNotInS_s, ↓pStr_i, ↓pIntS_s, ↓pMulS_s, ↓pIx_str, ↓pLen_str]
  cases e : (body l).all isDig with
  | true => exact h e
  | false =>
    have d : due l = none := by
      unfold due
      split
      · rfl
      · rw [if_neg (by rw [e]; decide)]
    exact h0 d
theorem rd_4 {l : List Nat} (ha : Asc l) (hl : l.length ≤ 1000) {XT : Addr} {Ψ : Addr → Prop} {tl : TSp} {E : En} (h1 : (body l).length ≠ 0) (h2 : (body l).length ≤ 12) (h0 : due l = none → Ψ XT) (h : odd l = false → tl E [.v (tx l), .v (tx (body l))]) :
    sSeq (sIf (eAnd (eTest (eOp pEq (eOp pIx (eVar 1) (eC (.int 0))) (eC (.str "0")))) (eTest (eOp pNe (eVar 0) (eC (.str "0"))))) (sRaise Ψ XT (eCons (eC (.str "a written number has no 0 ahead")) eNil)) sNext) tl E [.v (tx l), .v (tx (body l))] := by
  have bl := body_len l
  have ba := ha.body
  have od : odd l = (decide ((body l).head? = some 48) && !decide (l = [48])) := by
    unfold odd
    rw [decide_eq_false h1, decide_eq_false (by omega), Bool.false_or, Bool.false_or]
  have h0' : odd l = true → Ψ XT := fun o => h0 (by unfold due; rw [if_pos o])
  rw [od] at h h0'
  clear h0 od
  generalize body l = b at *
  simp only [↓zt, zo, zc, setAll, Nat.reduceSub, Nat.reduceAdd, ↓reduceIte, Int.reduceEq, Int.reduceMul, Int.reduceAdd, Int.reduceSub, Int.reduceNeg, Z.guard, Int.reduceLT, Int.reduceLE, Int.reduceToNat, Int.reducePow, Nat.reduceLT, Nat.reduceLeDiff, Nat.reducePow, LIM, ↓eSlS.eq_1, ↓eStarts.eq_1, ↓eIndexS.eq_1, ↓iStr.eq_1, ↓sRaise.eq_1, ↓sTryA.eq_1, ↓pSlS_s, ↓pInS_s, ↓pNotInS_s, ↓pStr_i, ↓pIntS_s, ↓pMulS_s, ↓pIx_str, ↓pLen_str]
  rw [len_S, l_nul]
  cases b with
  | nil => exact absurd rfl h1
  | cons c r =>
    refine ⟨by omega, ?_⟩
    show (match atI (c :: r) 0 with | some c => _ | none => False)
    rw [atI_0]
    simp only [↓zt, zo, zc, setAll, Nat.reduceSub, Nat.reduceAdd, ↓reduceIte, Int.reduceEq, Int.reduceMul, Int.reduceAdd, Int.reduceSub, Int.reduceNeg, Z.guard, Int.reduceLT, Int.reduceLE, Int.reduceToNat, Int.reducePow, Nat.reduceLT, Nat.reduceLeDiff, Nat.reducePow, LIM, ↓eSlS.eq_1, ↓eStarts.eq_1, ↓eIndexS.eq_1, ↓iStr.eq_1, ↓sRaise.eq_1, ↓sTryA.eq_1, ↓pSlS_s, ↓pInS_s, ↓pNotInS_s, ↓pStr_i, ↓pIntS_s, ↓pMulS_s, ↓pIx_str, ↓pLen_str]
    rw [show (⟨#[c]⟩ : Str) = S [c] from rfl, eqD_S, eqD_S]
    refine ⟨⟨ok_S (.one (ba c (List.mem_cons_self ..))), ok_lit rfl⟩, ?_⟩
    by_cases e : c = 48
    · subst e
      rw [decide_eq_true rfl]
      refine iteT ⟨⟨ok_S ha, ok_lit rfl⟩, ?_⟩
      rw [List.head?_cons, decide_eq_true rfl, Bool.true_and] at h h0'
      exact ite_b h0' h
    · rw [decide_eq_false (by simpa using e)]
      refine iteF (h ?_)
      rw [List.head?_cons, decide_eq_false (by simpa using e)]
      rfl
theorem digs_all {cs : List Nat} (h : cs.all isDig = true) : AllDigits cs := fun c hc => by
  have := List.all_eq_true.mp h c hc
  unfold isDig at this
  simpa using this
theorem int_of {l : List Nat} (hl : l.length ≤ 13) (h1 : (body l).length ≠ 0) (o : odd l = false) (hd : (body l).all isDig = true) : ∃ n, due l = some n ∧ PySem.intText? (S l) = some n := by
  unfold due
  rw [if_neg (by rw [o]; decide), if_pos hd]
  refine ⟨_, rfl, ?_⟩
  have ad := digs_all hd
  have hz : (S l).length ≤ 4300 := by rw [len_S]; omega
  by_cases e : l.head? = some 45
  · cases l with
    | nil => exact absurd e (by decide)
    | cons c r =>
      have e' : c = 45 := by simpa using e
      subst e'
      rw [if_pos e]
      exact PySem.intText_neg (cs := r) rfl ad (fun z => h1 (by rw [body_min, z]; rfl)) hz
  · rw [if_neg e]
    rw [body_oth e] at ad h1 ⊢
    exact PySem.intText_digits (x := S l) ad (fun z => h1 (by rw [show l = [] from z]; rfl)) hz
theorem p_read_number {XT : Addr} : ∀ ds Q Ψ, sp_read XT ds Q Ψ → t_read_number XT Ψ { nx := fun _ => Q (.v .non), rt := Q } (startP ["word", "figures"] ds) := by
  rintro ds Q Ψ ⟨l, rfl, ha, hl, h1, h0⟩
  refine rd_1 hl (rd_2 hl h0 fun n1 n2 => rd_3 ha hl h0 fun hd => rd_4 ha hl n1 n2 h0 fun o => ?_)
  have l13 : l.length ≤ 13 := by
    by_cases e : l.head? = some 45
    · cases l with
      | nil => exact absurd e (by decide)
      | cons c r =>
        have e' : c = 45 := by simpa using e
        subst e'
        rw [body_min] at n2
        simp
        omega
    · rw [body_oth e] at n2
      omega
  obtain ⟨n, e1, e2⟩ := int_of l13 n1 o hd
  simp only [↓zt, zo, zc, setAll, Nat.reduceSub, Nat.reduceAdd, ↓reduceIte, Int.reduceEq, Int.reduceMul, Int.reduceAdd, Int.reduceSub, Int.reduceNeg, Z.guard, Int.reduceLT, Int.reduceLE, Int.reduceToNat, Int.reducePow, Nat.reduceLT, Nat.reduceLeDiff, Nat.reducePow, LIM, ↓eSlS.eq_1, ↓eStarts.eq_1, ↓eIndexS.eq_1, ↓iStr.eq_1, ↓sRaise.eq_1, ↓sTryA.eq_1, ↓pSlS_s, ↓pInS_s, ↓pNotInS_s, ↓pStr_i, ↓pIntS_s, ↓pMulS_s, ↓pIx_str, ↓pLen_str]
  rw [len_S]
  exact ⟨by omega, n, e2, h1 n e1⟩
end Lw
namespace Lw
open PySem PySem.Spec PyProof.Rows L2 Z
theorem fold_app (A : Array Nat) : ∀ (k : Nat) (B : Array Nat), ((List.replicate k A).foldl (· ++ ·) B).toList = B.toList ++ (List.replicate k A.toList).flatten
  | 0, B => by simp
  | k + 1, B => by
    rw [List.replicate_succ, List.foldl_cons, fold_app A k, Array.toList_append, List.replicate_succ, List.flatten_cons, List.append_assoc]
theorem mul_S {a : List Nat} (ha : Asc a) (hl : a.length ≤ 13) {n : Int} (h0 : 0 ≤ n) (h1 : n < 14) : MulOk (S a) n ∧ ∃ l, Txt.mul (S a) n = S l ∧ Asc l ∧ l.length ≤ 182 := by
  have ls : (S a).length = a.length := len_S a
  refine ⟨⟨?_, fun _ _ => ?_, fun _ _ => ?_⟩, ?_⟩
  · rw [decide_eq_false (by omega), decide_eq_false (by omega)]; rfl
  · rw [ls]
    have : (658812288346769700 : Int) ≤ (2 ^ 63 - 1) / n := by
      rcases (by omega : n = 0 ∨ n = 1 ∨ n = 2 ∨ n = 3 ∨ n = 4 ∨ n = 5 ∨ n = 6 ∨ n = 7 ∨ n = 8 ∨ n = 9 ∨ n = 10 ∨ n = 11 ∨ n = 12 ∨ n = 13) with rfl | rfl | rfl | rfl | rfl | rfl | rfl | rfl | rfl | rfl | rfl | rfl | rfl | rfl
      all_goals first | omega | skip
    omega
  · rw [ls]
    unfold Builtin.Str.tooLong
    rw [decide_eq_false]
    rw [PySem.sizeLine_eq]
    have : a.length * n.toNat ≤ 13 * 13 := Nat.mul_le_mul hl (by omega)
    omega
  · unfold Txt.mul
    by_cases c1 : n < 1
    · rw [if_pos c1]
      exact ⟨[], rfl, .nil, by decide⟩
    · rw [if_neg c1]
      by_cases c2 : (n == 1 || (S a).length == 0) = true
      · rw [if_pos c2]
        exact ⟨a, rfl, ha, by omega⟩
      · rw [if_neg c2]
        refine ⟨(List.replicate n.toNat a).flatten, ?_, ?_, ?_⟩
        · refine PyProof.Rows.ext_toList ?_
          show (List.foldl (· ++ ·) #[] (List.replicate n.toNat a.toArray)).toList = _
          rw [fold_app]
          simp
        · intro c hc
          obtain ⟨b, hb, hc⟩ := List.mem_flatten.mp hc
          rw [List.eq_of_mem_replicate hb] at hc
          exact ha c hc
        · rw [List.length_flatten, List.map_replicate, List.sum_replicate_nat]
          have : n.toNat * a.length ≤ 13 * 13 := Nat.mul_le_mul (by omega) hl
          omega
theorem cut_any {l : List Nat} (ha : Asc l) (lo hi : Option Int) : ∃ m, cutS (S l) lo hi = S m ∧ Asc m ∧ m.length ≤ l.length :=
  ⟨_, cut_S l lo hi, (ha.drop _).take _, by rw [List.length_take, List.length_drop]; omega⟩
def sp_spoilt : Fn := fun ds Q => ∃ (l : List Nat) (c : Int), ds = [tx l, .int c] ∧ Asc l ∧ 0 < l.length ∧ l.length ≤ 13 ∧ ∀ m, Asc m → m.length ≤ 1000 → Q (.v (tx m))
theorem len_spoilt : ∀ ds Q, sp_spoilt ds Q → ds.length = 2 := by rintro ds Q ⟨_, _, rfl, _⟩; rfl
theorem mo_spoilt : MonoF sp_spoilt := ⟨fun ds Q Q' w ⟨p, q, e, a, b, c, h⟩ => ⟨p, q, e, a, b, c, fun m x y => w _ (h m x y)⟩⟩
theorem spl_0 {l : List Nat} (h0 : 0 < l.length) (hl : l.length ≤ 13) {c : Int} {tl : TSp} {E : En} {x2 x3 x4 x5 : Sl} (h : ∀ (f r k : Int) (s : Nat), s < 128 → tl E [.v (tx l), .v (.int c), .v (.int f), .v (.int r), .v (tx [s]), .v (.int k)]) :
    sSeq (sSet 2 (eOp pMod (eVar 1) (eC (.int 9))))
  (sSeq (sSet 3 (eOp pDiv (eVar 1) (eC (.int 9))))
  (sSeq (sSet 4 (eOp pIx (eC (.str "0 -+.a")) (eOp pMod (eVar 3) (eC (.int 6)))))
  (sSeq (sSet 5 (eOp pMod (eOp pDiv (eVar 3) (eC (.int 6))) (eCB pLen (eCons (eVar 0) eNil)))) tl))) E [.v (tx l), .v (.int c), x2, x3, x4, x5] := by
  simp only [↓zt, zo, zc, setAll, Nat.reduceSub, Nat.reduceAdd, ↓reduceIte, Int.reduceEq, Int.reduceMul, Int.reduceAdd, Int.reduceSub, Int.reduceNeg, Z.guard, Int.reduceLT, Int.reduceLE, Int.reduceToNat, Int.reducePow, Nat.reduceLT, Nat.reduceLeDiff, Nat.reducePow, LIM, ↓eSlS.eq_1, ↓eStarts.eq_1, ↓eIndexS.eq_1, ↓iStr.eq_1, ↓sRaise.eq_1, ↓sTryA.eq_1, ↓pSlS_s, ↓pInS_s, ↓pNotInS_s, ↓pStr_i, ↓pIntS_s, ↓pMulS_s, ↓pIx_str, ↓pLen_str]
  obtain ⟨ch, e, hc⟩ := at_lit (l := [48, 32, 45, 43, 46, 97]) (asc_lit rfl) (n := 6) rfl (by decide) (c / 9)
  rw [l_sg]
  rw [show ((6 : Nat) : Int) = 6 from rfl] at e
  rw [e, len_S]
  simp only [↓zt, zo, zc, setAll, Nat.reduceSub, Nat.reduceAdd, ↓reduceIte, Int.reduceEq, Int.reduceMul, Int.reduceAdd, Int.reduceSub, Int.reduceNeg, Z.guard, Int.reduceLT, Int.reduceLE, Int.reduceToNat, Int.reducePow, Nat.reduceLT, Nat.reduceLeDiff, Nat.reducePow, LIM, ↓eSlS.eq_1, ↓eStarts.eq_1, ↓eIndexS.eq_1, ↓iStr.eq_1, ↓sRaise.eq_1, ↓sTryA.eq_1, ↓pSlS_s, ↓pInS_s, ↓pNotInS_s, ↓pStr_i, ↓pIntS_s, ↓pMulS_s, ↓pIx_str, ↓pLen_str]
  rw [len_S]
  exact ⟨by omega, by omega, h _ _ _ ch hc⟩
theorem p_law_spoilt : ∀ ds Q, sp_spoilt ds Q → t_law_spoilt sp_drawn { nx := fun _ => Q (.v .non), rt := Q } (startP ["_law_text", "_law_cell", "_law_fault", "_law_rest", "_law_sign", "_law_k"] ds) := by
  rintro ds Q ⟨l, c, rfl, ha, h0, hl, h⟩
  refine spl_0 h0 hl fun f r k s hs => ?_
  have as := Asc.one hs
  simp only [↓zt, zo, zc, setAll, Nat.reduceSub, Nat.reduceAdd, ↓reduceIte, Int.reduceEq, Int.reduceMul, Int.reduceAdd, Int.reduceSub, Int.reduceNeg, Z.guard, Int.reduceLT, Int.reduceLE, Int.reduceToNat, Int.reducePow, Nat.reduceLT, Nat.reduceLeDiff, Nat.reducePow, LIM, ↓eSlS.eq_1, ↓eStarts.eq_1, ↓eIndexS.eq_1, ↓iStr.eq_1, ↓sRaise.eq_1, ↓sTryA.eq_1, ↓pSlS_s, ↓pInS_s, ↓pNotInS_s, ↓pStr_i, ↓pIntS_s, ↓pMulS_s, ↓pIx_str, ↓pLen_str]
  refine ite2 (fun _ => ?_) fun _ => ite2 (fun _ => ?_) fun _ => ite2 (fun _ => ?_) fun _ => ite2 (fun _ => ?_) fun _ => ite2 (fun _ => ?_) fun _ => ite2 (fun _ => ?_) fun _ => ite2 (fun _ => ?_) fun _ => ite2 (fun _ => ?_) fun _ => ?_
  · rw [app_S, len_S, len_S]
    exact ⟨by simp; omega, h _ (as.app ha) (by simp; omega)⟩
  · rw [app_S, len_S, len_S]
    exact ⟨by simp; omega, h _ (ha.app as) (by simp; omega)⟩
  · obtain ⟨m1, e1, a1, l1⟩ := cut_any ha none (some k)
    obtain ⟨m2, e2, a2, l2⟩ := cut_any ha (some (k + 1)) none
    rw [e1, e2, app_S, len_S, len_S, len_S]
    exact ⟨by omega, by omega, by omega, h _ (a1.app a2) (by simp; omega)⟩
  · obtain ⟨m1, e1, a1, l1⟩ := cut_any ha none (some k)
    obtain ⟨m2, e2, a2, l2⟩ := cut_any ha (some (k + 1)) none
    rw [e1, e2, app_S, app_S, len_S, len_S, len_S, len_S, len_S]
    exact ⟨by omega, by simp; omega, by omega, by simp; omega, h _ ((a1.app as).app a2) (by simp; omega)⟩
  · rw [app_S, len_S]
    exact ⟨by omega, h _ (ha.app ha) (by simp; omega)⟩
  · obtain ⟨m, e, a, lm⟩ := cut_any ha (some (-1)) none
    rw [e, len_S]
    obtain ⟨ok, m2, e2, a2, l2⟩ := mul_S a (by omega) (Int.emod_nonneg r (show (14 : Int) ≠ 0 by decide)) (Int.emod_lt_of_pos r (show (0 : Int) < 14 by decide))
    rw [e2, app_S, len_S]
    exact ⟨by omega, ok, by omega, h _ (ha.app a2) (by simp; omega)⟩
  · rw [l_emp]
    exact h _ .nil (by decide)
  · refine ⟨_, rfl, fun m am lm => ?_⟩
    simp only [↓zt, zo, zc, setAll, Nat.reduceSub, Nat.reduceAdd, ↓reduceIte, Int.reduceEq, Int.reduceMul, Int.reduceAdd, Int.reduceSub, Int.reduceNeg, Z.guard, Int.reduceLT, Int.reduceLE, Int.reduceToNat, Int.reducePow, Nat.reduceLT, Nat.reduceLeDiff, Nat.reducePow, LIM, ↓eSlS.eq_1, ↓eStarts.eq_1, ↓eIndexS.eq_1, ↓iStr.eq_1, ↓sRaise.eq_1, ↓sTryA.eq_1, ↓pSlS_s, ↓pInS_s, ↓pNotInS_s, ↓pStr_i, ↓pIntS_s, ↓pMulS_s, ↓pIx_str, ↓pLen_str]
    exact h m am (by omega)
  · exact h l ha (by omega)
end Lw
namespace Lw
open PySem PySem.Spec PyProof.Rows L2 Z
open PySem.NumText (AllDigits digitsVal)
theorem isi_of {K : PySem.W.Frag} {XF a : Addr} {b : Bool} (ci : ExcI K XF) (k : PySem.W.kitOne K (.ref XF) (.ref a) = some b) {Q : R → Prop} : eIsiE K a (eVar 0) [.v (.exc XF)] Q = Q (.v (.bl b)) :=
  propext ⟨fun z => by obtain ⟨_, b', e, q⟩ := z; rw [k] at e; cases e; exact q, fun q => ⟨ci, b, k, q⟩⟩
def sp_other (XF : Addr) : Fn := fun ds Q => ds = [.exc XF] ∧ Q (.v (.bl false))
theorem len_other {XF : Addr} : ∀ ds Q, sp_other XF ds Q → ds.length = 1 := by rintro ds Q ⟨rfl, _⟩; rfl
theorem mo_other {XF : Addr} : MonoF (sp_other XF) := ⟨fun ds Q Q' w z => ⟨z.1, w _ z.2⟩⟩
theorem p_law_other {K : PySem.W.Frag} {XF a1 a2 a3 a4 a5 a6 a7 a8 a9 a0 : Addr} (ci : ExcI K XF) (k1 : PySem.W.kitOne K (.ref XF) (.ref a1) = some false) (k2 : PySem.W.kitOne K (.ref XF) (.ref a2) = some false) (k3 : PySem.W.kitOne K (.ref XF) (.ref a3) = some false)
    (k4 : PySem.W.kitOne K (.ref XF) (.ref a4) = some false) (k5 : PySem.W.kitOne K (.ref XF) (.ref a5) = some false) (k6 : PySem.W.kitOne K (.ref XF) (.ref a6) = some false) (k7 : PySem.W.kitOne K (.ref XF) (.ref a7) = some false) (k8 : PySem.W.kitOne K (.ref XF) (.ref a8) = some false)
    (k9 : PySem.W.kitOne K (.ref XF) (.ref a9) = some false) (k0 : PySem.W.kitOne K (.ref XF) (.ref a0) = some true) :
    ∀ ds Q, sp_other XF ds Q → t_law_other K a1 a2 a3 a4 a5 a6 a7 a8 a9 a0 { nx := fun _ => Q (.v .non), rt := Q } (startP ["_law_e"] ds) := by
  rintro ds Q ⟨rfl, q⟩
  simp only [↓zt, zo, zc, setAll, Nat.reduceSub, Nat.reduceAdd, ↓reduceIte, Int.reduceEq, Int.reduceMul, Int.reduceAdd, Int.reduceSub, Int.reduceNeg, Z.guard, Int.reduceLT, Int.reduceLE, Int.reduceToNat, Int.reducePow, Nat.reduceLT, Nat.reduceLeDiff, Nat.reducePow, LIM, ↓eSlS.eq_1, ↓eStarts.eq_1, ↓eIndexS.eq_1, ↓iStr.eq_1, ↓sRaise.eq_1, ↓sTryA.eq_1, ↓pSlS_s, ↓pInS_s, ↓pNotInS_s, ↓pStr_i, ↓pIntS_s, ↓pMulS_s, ↓pIx_str, ↓pLen_str, isi_of ci k1, isi_of ci k2, isi_of ci k3, isi_of ci k4, isi_of ci k5, isi_of ci k6, isi_of ci k7, isi_of ci k8, isi_of ci k9, isi_of ci k0]
  exact q
def sp_lread : Fn := fun ds Q => ∃ l, ds = [tx l] ∧ Asc l ∧ l.length ≤ 1000 ∧ Q (.v (.bl true))
theorem len_lread : ∀ ds Q, sp_lread ds Q → ds.length = 1 := by rintro ds Q ⟨_, rfl, _⟩; rfl
theorem mo_lread : MonoF sp_lread := ⟨fun ds Q Q' w ⟨p, e, a, b, h⟩ => ⟨p, e, a, b, w _ h⟩⟩
theorem p_law_read {XT : Addr} : ∀ ds Q, sp_lread ds Q → t_law_read XT sp_due (sp_other XT) (sp_read XT) { nx := fun _ => Q (.v .non), rt := Q } (startP ["_law_text", "_law_due_here", "_law_said", "_law_e"] ds) := by
  rintro ds Q ⟨l, rfl, ha, hl, h⟩
  simp only [↓zt, zo, zc, setAll, Nat.reduceSub, Nat.reduceAdd, ↓reduceIte, Int.reduceEq, Int.reduceMul, Int.reduceAdd, Int.reduceSub, Int.reduceNeg, Z.guard, Int.reduceLT, Int.reduceLE, Int.reduceToNat, Int.reducePow, Nat.reduceLT, Nat.reduceLeDiff, Nat.reducePow, LIM, ↓eSlS.eq_1, ↓eStarts.eq_1, ↓eIndexS.eq_1, ↓iStr.eq_1, ↓sRaise.eq_1, ↓sTryA.eq_1, ↓pSlS_s, ↓pInS_s, ↓pNotInS_s, ↓pStr_i, ↓pIntS_s, ↓pMulS_s, ↓pIx_str, ↓pLen_str]
  refine ⟨l, rfl, ha, hl, ?_⟩
  simp only [↓zt, zo, zc, setAll, Nat.reduceSub, Nat.reduceAdd, ↓reduceIte, Int.reduceEq, Int.reduceMul, Int.reduceAdd, Int.reduceSub, Int.reduceNeg, Z.guard, Int.reduceLT, Int.reduceLE, Int.reduceToNat, Int.reducePow, Nat.reduceLT, Nat.reduceLeDiff, Nat.reducePow, LIM, ↓eSlS.eq_1, ↓eStarts.eq_1, ↓eIndexS.eq_1, ↓iStr.eq_1, ↓sRaise.eq_1, ↓sTryA.eq_1, ↓pSlS_s, ↓pInS_s, ↓pNotInS_s, ↓pStr_i, ↓pIntS_s, ↓pMulS_s, ↓pIx_str, ↓pLen_str]
  refine ⟨l, rfl, ha, hl, fun n e => ⟨n, rfl, ?_⟩, fun e => ⟨rfl, ?_⟩⟩
  · have d : dueD l = .int n := by unfold dueD; rw [e]
    rw [d]
    simp only [↓zt, zo, zc, setAll, Nat.reduceSub, Nat.reduceAdd, ↓reduceIte, Int.reduceEq, Int.reduceMul, Int.reduceAdd, Int.reduceSub, Int.reduceNeg, Z.guard, Int.reduceLT, Int.reduceLE, Int.reduceToNat, Int.reducePow, Nat.reduceLT, Nat.reduceLeDiff, Nat.reducePow, LIM, ↓eSlS.eq_1, ↓eStarts.eq_1, ↓eIndexS.eq_1, ↓iStr.eq_1, ↓sRaise.eq_1, ↓sTryA.eq_1, ↓pSlS_s, ↓pInS_s, ↓pNotInS_s, ↓pStr_i, ↓pIntS_s, ↓pMulS_s, ↓pIx_str, ↓pLen_str]
    exact ⟨rfl, rfl, h⟩
  · have d : dueD l = .non := by unfold dueD; rw [e]
    rw [d]
    simp only [↓zt, zo, zc, setAll, Nat.reduceSub, Nat.reduceAdd, ↓reduceIte, Int.reduceEq, Int.reduceMul, Int.reduceAdd, Int.reduceSub, Int.reduceNeg, Z.guard, Int.reduceLT, Int.reduceLE, Int.reduceToNat, Int.reducePow, Nat.reduceLT, Nat.reduceLeDiff, Nat.reducePow, LIM, ↓eSlS.eq_1, ↓eStarts.eq_1, ↓eIndexS.eq_1, ↓iStr.eq_1, ↓sRaise.eq_1, ↓sTryA.eq_1, ↓pSlS_s, ↓pInS_s, ↓pNotInS_s, ↓pStr_i, ↓pIntS_s, ↓pMulS_s, ↓pIx_str, ↓pLen_str]
    refine ⟨rfl, ?_⟩
    simp only [↓zt, zo, zc, setAll, Nat.reduceSub, Nat.reduceAdd, ↓reduceIte, Int.reduceEq, Int.reduceMul, Int.reduceAdd, Int.reduceSub, Int.reduceNeg, Z.guard, Int.reduceLT, Int.reduceLE, Int.reduceToNat, Int.reducePow, Nat.reduceLT, Nat.reduceLeDiff, Nat.reducePow, LIM, ↓eSlS.eq_1, ↓eStarts.eq_1, ↓eIndexS.eq_1, ↓iStr.eq_1, ↓sRaise.eq_1, ↓sTryA.eq_1, ↓pSlS_s, ↓pInS_s, ↓pNotInS_s, ↓pStr_i, ↓pIntS_s, ↓pMulS_s, ↓pIx_str, ↓pLen_str]
    exact h
theorem signs_neg (m : Nat) : (PySem.Str.ofString (toString (Int.negSucc m))).cps.toList = 45 :: (Nat.toDigits 10 (m + 1)).map Char.toNat := by
  rw [PyProof.Rows.signs_ofString]
  show ("-" ++ Nat.repr (m + 1)).toList.map Char.toNat = _
  rw [String.toList_append, List.map_append, Nat.toList_repr]
  rfl
theorem digs_num (m : Nat) : ((Nat.toDigits 10 m).map Char.toNat).all isDig = true := by
  rw [List.all_eq_true]
  intro c hc
  obtain ⟨ch, hch, e⟩ := List.mem_map.mp hc
  have r := PyProof.Rows.digit_range (Nat.isDigit_of_mem_toDigits (by decide) (by decide) hch)
  rw [← e]
  unfold isDig
  rw [decide_eq_true r.1, decide_eq_true r.2]
  rfl
theorem head_num {m : Nat} {r : List Nat} (h : (Nat.toDigits 10 m).map Char.toNat = 48 :: r) : r = [] ∧ m = 0 := by
  have v := PySem.W.KIN.val_back m
  have ad := digs_all (digs_num m)
  have t := PySem.NumText.toDigits_all _ ad
  rw [v] at t
  rw [h] at t v
  have hl : (Nat.toDigits 10 m).length = r.length + 1 := by
    have := congrArg List.length h
    simpa using this
  rw [List.dropWhile_cons, if_pos (by rfl)] at t
  have dl : (r.dropWhile (· == 48)).length ≤ r.length := (List.dropWhile_sublist _).length_le
  cases e : r.dropWhile (· == 48) with
  | nil =>
    rw [e] at t
    have := congrArg List.length t
    rw [hl] at this
    have r0 : r = [] := List.eq_nil_of_length_eq_zero (by simpa using this)
    subst r0
    refine ⟨rfl, ?_⟩
    rw [← v]
    rfl
  | cons c q =>
    rw [e] at t dl
    have := congrArg List.length t
    rw [hl] at this
    simp at this dl
    omega
theorem num_text {n : Int} (h : n.natAbs < 10 ^ 12) : ∃ l, PySem.Str.ofString (toString n) = S l ∧ Asc l ∧ 0 < l.length ∧ l.length ≤ 13 ∧ due l = some n := by
  have asc : ∀ m, Asc ((Nat.toDigits 10 m).map Char.toNat) := fun m c hc => by have := digs_all (digs_num m) c hc; omega
  have ge : ∀ m, 1 ≤ ((Nat.toDigits 10 m).map Char.toNat).length := fun m => by rw [List.length_map]; exact toDigits_len_ge 10 m
  have le : ∀ m, m < 10 ^ 12 → ((Nat.toDigits 10 m).map Char.toNat).length ≤ 12 := fun m hm => by rw [List.length_map]; exact toDigits_len_pow (by decide) (by decide) hm
  cases n with
  | ofNat m =>
    have hm : m < 10 ^ 12 := h
    have ge := ge m
    have le := le m hm
    have hd := digs_num m
    have v := PySem.W.KIN.val_back m
    have hh := fun r => @head_num m r
    refine ⟨(Nat.toDigits 10 m).map Char.toNat, PyProof.Rows.ext_toList (PySem.W.KIN.signs_num m), asc m, ge, by omega, ?_⟩
    generalize (Nat.toDigits 10 m).map Char.toNat = l at *
    have h45 : l.head? ≠ some 45 := fun z => by
      cases l with
      | nil => cases z
      | cons c r =>
        have z : c = 45 := by simpa using z
        subst z
        rw [List.all_cons, show isDig 45 = false by decide, Bool.false_and] at hd
        exact absurd hd (by decide)
    have o : odd l = false := by
      unfold odd
      rw [body_oth h45, decide_eq_false (by omega), decide_eq_false (by omega)]
      cases l with
      | nil => exact absurd ge (by decide)
      | cons c r =>
        by_cases e : c = 48
        · subst e
          obtain ⟨rfl, _⟩ := hh r rfl
          rfl
        · rw [List.head?_cons, decide_eq_false (show ¬ some c = some 48 by simpa using e)]
          rfl
    unfold due
    rw [if_neg (by rw [o]; decide), body_oth h45, if_pos hd, if_neg h45, v]
    rfl
  | negSucc m =>
    have hm : m + 1 < 10 ^ 12 := h
    have ge := ge (m + 1)
    have le := le (m + 1) hm
    have hd := digs_num (m + 1)
    have v := PySem.W.KIN.val_back (m + 1)
    have hh := fun r => @head_num (m + 1) r
    refine ⟨45 :: (Nat.toDigits 10 (m + 1)).map Char.toNat, PyProof.Rows.ext_toList (signs_neg m), fun c hc => ?_, by simp, by simp only [List.length_cons]; omega, ?_⟩
    · rcases List.mem_cons.mp hc with rfl | hc
      · decide
      · exact asc _ c hc
    generalize (Nat.toDigits 10 (m + 1)).map Char.toNat = l at *
    have o : odd (45 :: l) = false := by
      unfold odd
      rw [body_min, decide_eq_false (by omega), decide_eq_false (by omega)]
      cases l with
      | nil => exact absurd ge (by decide)
      | cons c r =>
        by_cases e : c = 48
        · subst e
          exact absurd (hh r rfl).2 (by omega)
        · rw [List.head?_cons, decide_eq_false (show ¬ some c = some 48 by simpa using e)]
          rfl
    unfold due
    rw [if_neg (by rw [o]; decide), body_min, if_pos hd, if_pos (List.head?_cons ..), v]
    rfl
theorem la_1 {ns : List Int} {k : Nat} {tl : TSp} {E : En} {x2 x3 x4 : Sl} (h : ∀ c : Int, tl E [.v (.scr ns), .v (.int k), .v (.int c), x3, x4]) :
    sSeq (sSet 2 (eCall sp_cell (eCons (eVar 0) (eCons (eVar 1) eNil)))) tl E [.v (.scr ns), .v (.int k), x2, x3, x4] := by
  simp only [↓zt, zo, zc, setAll, Nat.reduceSub, Nat.reduceAdd, ↓reduceIte, Int.reduceEq, Int.reduceMul, Int.reduceAdd, Int.reduceSub, Int.reduceNeg, Z.guard, Int.reduceLT, Int.reduceLE, Int.reduceToNat, Int.reducePow, Nat.reduceLT, Nat.reduceLeDiff, Nat.reducePow, LIM, ↓eSlS.eq_1, ↓eStarts.eq_1, ↓eIndexS.eq_1, ↓iStr.eq_1, ↓sRaise.eq_1, ↓sTryA.eq_1, ↓pSlS_s, ↓pInS_s, ↓pNotInS_s, ↓pStr_i, ↓pIntS_s, ↓pMulS_s, ↓pIx_str, ↓pLen_str]
  refine ⟨ns, k, rfl, fun c => ?_⟩
  simp only [↓zt, zo, zc, setAll, Nat.reduceSub, Nat.reduceAdd, ↓reduceIte, Int.reduceEq, Int.reduceMul, Int.reduceAdd, Int.reduceSub, Int.reduceNeg, Z.guard, Int.reduceLT, Int.reduceLE, Int.reduceToNat, Int.reducePow, Nat.reduceLT, Nat.reduceLeDiff, Nat.reducePow, LIM, ↓eSlS.eq_1, ↓eStarts.eq_1, ↓eIndexS.eq_1, ↓iStr.eq_1, ↓sRaise.eq_1, ↓sTryA.eq_1, ↓pSlS_s, ↓pInS_s, ↓pNotInS_s, ↓pStr_i, ↓pIntS_s, ↓pMulS_s, ↓pIx_str, ↓pLen_str]
  exact h c
theorem la_2 {c : Int} {tl : TSp} {E : En} {x0 x1 x3 x4 : Sl} (h : ∀ n : Int, n.natAbs < 10 ^ 12 → tl E [x0, x1, .v (.int c), .v (.int n), x4]) :
    sSeq (sSet 3 (eOp pMod (eOp pDiv (eVar 2) (eC (.int 2))) (eOp pPow (eC (.int 10)) (eC (.int 12)))))
  (sSeq (sIf (eTest (eOp pEq (eOp pMod (eVar 2) (eC (.int 2))) (eC (.int 1)))) (sSet 3 (eNeg (eVar 3))) sNext) tl) E [x0, x1, .v (.int c), x3, x4] := by
  have h1 := Int.emod_nonneg (c / 2) (show (1000000000000 : Int) ≠ 0 by decide)
  have h2 := Int.emod_lt_of_pos (c / 2) (show (0 : Int) < 1000000000000 by decide)
  simp only [↓zt, zo, zc, setAll, Nat.reduceSub, Nat.reduceAdd, ↓reduceIte, Int.reduceEq, Int.reduceMul, Int.reduceAdd, Int.reduceSub, Int.reduceNeg, Z.guard, Int.reduceLT, Int.reduceLE, Int.reduceToNat, Int.reducePow, Nat.reduceLT, Nat.reduceLeDiff, Nat.reducePow, LIM, ↓eSlS.eq_1, ↓eStarts.eq_1, ↓eIndexS.eq_1, ↓iStr.eq_1, ↓sRaise.eq_1, ↓sTryA.eq_1, ↓pSlS_s, ↓pInS_s, ↓pNotInS_s, ↓pStr_i, ↓pIntS_s, ↓pMulS_s, ↓pIx_str, ↓pLen_str]
  refine ⟨⟨by decide, by decide, by decide⟩, ?_⟩
  exact ite2 (fun _ => h _ (by omega)) fun _ => h _ (by omega)
theorem la_3 {n : Int} (hn : n.natAbs < 10 ^ 12) {tl : TSp} {E : En} {x0 x1 x2 x4 : Sl} (h : ∀ l, Asc l → 0 < l.length → l.length ≤ 13 → due l = some n → tl E [x0, x1, x2, .v (.int n), .v (tx l)]) :
    sSeq (sSet 4 (eCB pStr (eCons (eVar 3) eNil))) tl E [x0, x1, x2, .v (.int n), x4] := by
  obtain ⟨l, e, a, b, c, d⟩ := num_text hn
  simp only [↓zt, zo, zc, setAll, Nat.reduceSub, Nat.reduceAdd, ↓reduceIte, Int.reduceEq, Int.reduceMul, Int.reduceAdd, Int.reduceSub, Int.reduceNeg, Z.guard, Int.reduceLT, Int.reduceLE, Int.reduceToNat, Int.reducePow, Nat.reduceLT, Nat.reduceLeDiff, Nat.reducePow, LIM, ↓eSlS.eq_1, ↓eStarts.eq_1, ↓eIndexS.eq_1, ↓iStr.eq_1, ↓sRaise.eq_1, ↓sTryA.eq_1, ↓pSlS_s, ↓pInS_s, ↓pNotInS_s, ↓pStr_i, ↓pIntS_s, ↓pMulS_s, ↓pIx_str, ↓pLen_str]
  rw [e]
  refine ⟨?_, h l a b c d⟩
  by_cases z : n.natAbs = 0
  · rw [z]; decide
  · exact (Nat.log2_lt z).mpr (Nat.lt_of_lt_of_le hn (by decide +kernel))
theorem la_4 {n : Int} {l : List Nat} (ha : Asc l) (hl : l.length ≤ 13) (hd : due l = some n) {tl : TSp} {E : En} {x0 x1 x2 : Sl} (h : tl E [x0, x1, x2, .v (.int n), .v (tx l)]) :
    sSeq (sIf (eOr (eTest (eOp pNe (eCall sp_due (eCons (eVar 4) eNil)) (eVar 3))) (eNot (eTru (eCall sp_lread (eCons (eVar 4) eNil))))) (sRet (eC (.bl false))) sNext) tl E [x0, x1, x2, .v (.int n), .v (tx l)] := by
  have d : dueD l = .int n := by unfold dueD; rw [hd]
  simp only [↓zt, zo, zc, setAll, Nat.reduceSub, Nat.reduceAdd, ↓reduceIte, Int.reduceEq, Int.reduceMul, Int.reduceAdd, Int.reduceSub, Int.reduceNeg, Z.guard, Int.reduceLT, Int.reduceLE, Int.reduceToNat, Int.reducePow, Nat.reduceLT, Nat.reduceLeDiff, Nat.reducePow, LIM, ↓eSlS.eq_1, ↓eStarts.eq_1, ↓eIndexS.eq_1, ↓iStr.eq_1, ↓sRaise.eq_1, ↓sTryA.eq_1, ↓pSlS_s, ↓pInS_s, ↓pNotInS_s, ↓pStr_i, ↓pIntS_s, ↓pMulS_s, ↓pIx_str, ↓pLen_str]
  refine ⟨l, rfl, ha, by omega, ?_⟩
  rw [d]
  simp only [↓zt, zo, zc, setAll, Nat.reduceSub, Nat.reduceAdd, ↓reduceIte, Int.reduceEq, Int.reduceMul, Int.reduceAdd, Int.reduceSub, Int.reduceNeg, Z.guard, Int.reduceLT, Int.reduceLE, Int.reduceToNat, Int.reducePow, Nat.reduceLT, Nat.reduceLeDiff, Nat.reducePow, LIM, ↓eSlS.eq_1, ↓eStarts.eq_1, ↓eIndexS.eq_1, ↓iStr.eq_1, ↓sRaise.eq_1, ↓sTryA.eq_1, ↓pSlS_s, ↓pInS_s, ↓pNotInS_s, ↓pStr_i, ↓pIntS_s, ↓pMulS_s, ↓pIx_str, ↓pLen_str]
  refine ⟨l, rfl, ha, by omega, ?_⟩
  simp only [↓zt, zo, zc, setAll, Nat.reduceSub, Nat.reduceAdd, ↓reduceIte, Int.reduceEq, Int.reduceMul, Int.reduceAdd, Int.reduceSub, Int.reduceNeg, Z.guard, Int.reduceLT, Int.reduceLE, Int.reduceToNat, Int.reducePow, Nat.reduceLT, Nat.reduceLeDiff, Nat.reducePow, LIM, ↓eSlS.eq_1, ↓eStarts.eq_1, ↓eIndexS.eq_1, ↓iStr.eq_1, ↓sRaise.eq_1, ↓sTryA.eq_1, ↓pSlS_s, ↓pInS_s, ↓pNotInS_s, ↓pStr_i, ↓pIntS_s, ↓pMulS_s, ↓pIx_str, ↓pLen_str]
  exact h
theorem la_5 {ns : List Int} {k : Nat} {l : List Nat} (ha : Asc l) (h0 : 0 < l.length) (hl : l.length ≤ 13) {E : En} {x2 x3 : Sl} (h : E.nx [.v (.scr ns), .v (.int k), x2, x3, .v (tx l)]) :
    sIf (eNot (eTru (eCall sp_lread (eCons (eCall sp_spoilt (eCons (eVar 4) (eCons (eCall sp_cell (eCons (eVar 0) (eCons (eOp pAdd (eVar 1) (eC (.int 1))) eNil))) eNil))) eNil)))) (sRet (eC (.bl false))) sNext E [.v (.scr ns), .v (.int k), x2, x3, .v (tx l)] := by
  simp only [↓zt, zo, zc, setAll, Nat.reduceSub, Nat.reduceAdd, ↓reduceIte, Int.reduceEq, Int.reduceMul, Int.reduceAdd, Int.reduceSub, Int.reduceNeg, Z.guard, Int.reduceLT, Int.reduceLE, Int.reduceToNat, Int.reducePow, Nat.reduceLT, Nat.reduceLeDiff, Nat.reducePow, LIM, ↓eSlS.eq_1, ↓eStarts.eq_1, ↓eIndexS.eq_1, ↓iStr.eq_1, ↓sRaise.eq_1, ↓sTryA.eq_1, ↓pSlS_s, ↓pInS_s, ↓pNotInS_s, ↓pStr_i, ↓pIntS_s, ↓pMulS_s, ↓pIx_str, ↓pLen_str]
  refine ⟨ns, k + 1, by rw [show ((k + 1 : Nat) : Int) = (k : Int) + 1 by omega], fun c => ?_⟩
  simp only [↓zt, zo, zc, setAll, Nat.reduceSub, Nat.reduceAdd, ↓reduceIte, Int.reduceEq, Int.reduceMul, Int.reduceAdd, Int.reduceSub, Int.reduceNeg, Z.guard, Int.reduceLT, Int.reduceLE, Int.reduceToNat, Int.reducePow, Nat.reduceLT, Nat.reduceLeDiff, Nat.reducePow, LIM, ↓eSlS.eq_1, ↓eStarts.eq_1, ↓eIndexS.eq_1, ↓iStr.eq_1, ↓sRaise.eq_1, ↓sTryA.eq_1, ↓pSlS_s, ↓pInS_s, ↓pNotInS_s, ↓pStr_i, ↓pIntS_s, ↓pMulS_s, ↓pIx_str, ↓pLen_str]
  refine ⟨l, c, rfl, ha, h0, hl, fun m am lm => ?_⟩
  simp only [↓zt, zo, zc, setAll, Nat.reduceSub, Nat.reduceAdd, ↓reduceIte, Int.reduceEq, Int.reduceMul, Int.reduceAdd, Int.reduceSub, Int.reduceNeg, Z.guard, Int.reduceLT, Int.reduceLE, Int.reduceToNat, Int.reducePow, Nat.reduceLT, Nat.reduceLeDiff, Nat.reducePow, LIM, ↓eSlS.eq_1, ↓eStarts.eq_1, ↓eIndexS.eq_1, ↓iStr.eq_1, ↓sRaise.eq_1, ↓sTryA.eq_1, ↓pSlS_s, ↓pInS_s, ↓pNotInS_s, ↓pStr_i, ↓pIntS_s, ↓pMulS_s, ↓pIx_str, ↓pLen_str]
  refine ⟨m, rfl, am, lm, ?_⟩
  simp only [↓zt, zo, zc, setAll, Nat.reduceSub, Nat.reduceAdd, ↓reduceIte, Int.reduceEq, Int.reduceMul, Int.reduceAdd, Int.reduceSub, Int.reduceNeg, Z.guard, Int.reduceLT, Int.reduceLE, Int.reduceToNat, Int.reducePow, Nat.reduceLT, Nat.reduceLeDiff, Nat.reducePow, LIM, ↓eSlS.eq_1, ↓eStarts.eq_1, ↓eIndexS.eq_1, ↓iStr.eq_1, ↓sRaise.eq_1, ↓sTryA.eq_1, ↓pSlS_s, ↓pInS_s, ↓pNotInS_s, ↓pStr_i, ↓pIntS_s, ↓pMulS_s, ↓pIx_str, ↓pLen_str]
  exact h
theorem gN1 {d : Dv} {x0 x1 x2 x3 x4 : Sl} {Q : List Sl → Prop} (h : Q [x0, .v d, x2, x3, x4]) : gN 1 d [x0, x1, x2, x3, x4] Q := by
  simp only [↓zt, zo, zc, setAll, Nat.reduceSub, Nat.reduceAdd, ↓reduceIte, Int.reduceEq, Int.reduceMul, Int.reduceAdd, Int.reduceSub, Int.reduceNeg, Z.guard, Int.reduceLT, Int.reduceLE, Int.reduceToNat, Int.reducePow, Nat.reduceLT, Nat.reduceLeDiff, Nat.reducePow, LIM, ↓eSlS.eq_1, ↓eStarts.eq_1, ↓eIndexS.eq_1, ↓iStr.eq_1, ↓sRaise.eq_1, ↓sTryA.eq_1, ↓pSlS_s, ↓pInS_s, ↓pNotInS_s, ↓pStr_i, ↓pIntS_s, ↓pMulS_s, ↓pIx_str, ↓pLen_str]
  exact h
theorem law_0 {ns : List Int} {E : En} (h : ∀ s1 s2 s3 s4, E.nx [.v (.scr ns), s1, s2, s3, s4]) : ∀ (i k : Nat) (s1 s2 s3 s4 : Sl),
    forGo (gN 1) (b_law_0 sp_cell sp_due sp_lread sp_spoilt) [] (rangeD k i) E [.v (.scr ns), s1, s2, s3, s4] := by
  intro i
  induction i with
  | zero =>
    intro k s1 s2 s3 s4
    rw [rangeD_nil, forGo_nil]
    exact ⟨fun p hp => by simp at hp, h _ _ _ _⟩
  | succ i ih =>
    intro k s1 s2 s3 s4
    rw [rangeD_cons, forGo_cons]
    refine ⟨fun p hp => by simp at hp, ?_⟩
    rw [show ((k : Int) + 1) = ((k + 1 : Nat) : Int) by omega]
    have nx := fun s1 s2 s3 s4 => ih (k + 1) s1 s2 s3 s4
    generalize forGo (gN 1) (b_law_0 sp_cell sp_due sp_lread sp_spoilt) [] (rangeD ((k + 1 : Nat) : Int) i) E = G at nx ⊢
    exact gN1 (la_1 fun c => la_2 fun n hn => la_3 hn fun l ha h0 hl hd => la_4 ha hl hd (la_5 ha h0 hl (nx _ _ _ _)))
def spLaw : Fn := fun ds Q => ∃ ns : List Int, ds = [.scr ns] ∧ ns.length ≤ 63 ∧ Q (.v (.bl true))
theorem len_law : ∀ ds Q, spLaw ds Q → ds.length = 1 := by rintro ds Q ⟨d, rfl, _⟩; rfl
theorem p_law : ∀ ds Q, spLaw ds Q → t_law sp_cell sp_due sp_lread sp_spoilt { nx := fun _ => Q (.v .non), rt := Q } (startP ["_law_script", "_law_k", "_law_cell", "_law_number", "_law_text"] ds) := by
  rintro ds Q ⟨ns, rfl, hl, h⟩
  simp only [↓zt, zo, zc, setAll, Nat.reduceSub, Nat.reduceAdd, ↓reduceIte, Int.reduceEq, Int.reduceMul, Int.reduceAdd, Int.reduceSub, Int.reduceNeg, Z.guard, Int.reduceLT, Int.reduceLE, Int.reduceToNat, Int.reducePow, Nat.reduceLT, Nat.reduceLeDiff, Nat.reducePow, LIM, ↓eSlS.eq_1, ↓eStarts.eq_1, ↓eIndexS.eq_1, ↓iStr.eq_1, ↓sRaise.eq_1, ↓sTryA.eq_1, ↓pSlS_s, ↓pInS_s, ↓pNotInS_s, ↓pStr_i, ↓pIntS_s, ↓pMulS_s, ↓pIx_str, ↓pLen_str]
  refine ⟨by split <;> omega, ?_⟩
  refine law_0 (fun s1 s2 s3 s4 => ?_) _ 0 _ _ _ _
  simp only [↓zt, zo, zc, setAll, Nat.reduceSub, Nat.reduceAdd, ↓reduceIte, Int.reduceEq, Int.reduceMul, Int.reduceAdd, Int.reduceSub, Int.reduceNeg, Z.guard, Int.reduceLT, Int.reduceLE, Int.reduceToNat, Int.reducePow, Nat.reduceLT, Nat.reduceLeDiff, Nat.reducePow, LIM, ↓eSlS.eq_1, ↓eStarts.eq_1, ↓eIndexS.eq_1, ↓iStr.eq_1, ↓sRaise.eq_1, ↓sTryA.eq_1, ↓pSlS_s, ↓pInS_s, ↓pNotInS_s, ↓pStr_i, ↓pIntS_s, ↓pMulS_s, ↓pIx_str, ↓pLen_str]
  exact h
end Lw
namespace Lw
open PySem PySem.Spec PyProof.Rows L2 Z
theorem law_start {K : PySem.W.Frag} {H : Hp} {a : Addr} {ns : List Int} (hl : ns.length ≤ 63) (hO : Only H) (hS : SqL K H a (ns.map V.int)) : low K spLaw [.ref a] H (fun v _ => v = .bl true) (fun _ _ _ => False) :=
  start_low (fun Q q => ⟨ns, rfl, hl, q⟩) hO hS
theorem all_mk {l : PySem.W.OpenLaw} {w : World} {K : PySem.W.Frag} {h : Heap} {mg : Str → Option Value} {fa : Addr} (X : K.In h) (G : h.Ns mainGlobals mg) (hfa : mg "law" = some (.ref fa))
    {fDread_number : Addr} {odDread_number anDread_number : Option Addr} {slDread_number : Array (Option Value)} {ocDread_number kVDread_number dcDread_number pmDread_number cdDread_number ctDread_number : Value}
    {fDlaw_cell_at : Addr} {odDlaw_cell_at anDlaw_cell_at : Option Addr} {slDlaw_cell_at : Array (Option Value)} {ocDlaw_cell_at kVDlaw_cell_at dcDlaw_cell_at pmDlaw_cell_at cdDlaw_cell_at ctDlaw_cell_at : Value}
    {fDlaw_drawn : Addr} {odDlaw_drawn anDlaw_drawn : Option Addr} {slDlaw_drawn : Array (Option Value)} {ocDlaw_drawn kVDlaw_drawn dcDlaw_drawn pmDlaw_drawn cdDlaw_drawn ctDlaw_drawn : Value}
    {fDlaw_spoilt : Addr} {odDlaw_spoilt anDlaw_spoilt : Option Addr} {slDlaw_spoilt : Array (Option Value)} {ocDlaw_spoilt kVDlaw_spoilt dcDlaw_spoilt pmDlaw_spoilt cdDlaw_spoilt ctDlaw_spoilt : Value}
    {fDlaw_due : Addr} {odDlaw_due anDlaw_due : Option Addr} {slDlaw_due : Array (Option Value)} {ocDlaw_due kVDlaw_due dcDlaw_due pmDlaw_due cdDlaw_due ctDlaw_due : Value}
    {fDlaw_other : Addr} {odDlaw_other anDlaw_other : Option Addr} {slDlaw_other : Array (Option Value)} {ocDlaw_other kVDlaw_other dcDlaw_other pmDlaw_other cdDlaw_other ctDlaw_other : Value}
    {fDlaw_read : Addr} {odDlaw_read anDlaw_read : Option Addr} {slDlaw_read : Array (Option Value)} {ocDlaw_read kVDlaw_read dcDlaw_read pmDlaw_read cdDlaw_read ctDlaw_read : Value}
    {fDlaw : Addr} {odDlaw anDlaw : Option Addr} {slDlaw : Array (Option Value)} {ocDlaw kVDlaw dcDlaw pmDlaw cdDlaw ctDlaw : Value}
    {t_FIGURES : Tok}
    {t_MOST_FIGURES : Tok}
    {X_SlantError : Addr}
    {X_NoSides : Addr}
    {X_NoRow : Addr}
    {X_NoFloor : Addr}
    {X_NoThrees : Addr}
    {X_NoFlip : Addr}
    {X_NoHeights : Addr}
    {X_TooMany : Addr}
    {X_NoHold : Addr}
    {X_NoTurn : Addr}
    {X_NoText : Addr}
    (aDread_number : PySem.W.nsIn K mainGlobals "read_number" = some (some (.ref fDread_number)))
    (lDread_number : K.lookup fDread_number = some ⟨ocDread_number, odDread_number, .func (PySem.W.fnOf "read_number" "read_number" (defArgs (top 15)) (defBody (top 15)) (defScope (top 15)) .none kVDread_number dcDread_number pmDread_number anDread_number cdDread_number ctDread_number), slDread_number⟩) (cDread_number : PySem.W.codeIn K cdDread_number "read_number" = true) (kDread_number : PySem.W.keepIn K (.ref fDread_number) = true)
    (aDlaw_cell_at : PySem.W.nsIn K mainGlobals "_law_cell_at" = some (some (.ref fDlaw_cell_at)))
    (lDlaw_cell_at : K.lookup fDlaw_cell_at = some ⟨ocDlaw_cell_at, odDlaw_cell_at, .func (PySem.W.fnOf "_law_cell_at" "_law_cell_at" (defArgs (top 17)) (defBody (top 17)) (defScope (top 17)) .none kVDlaw_cell_at dcDlaw_cell_at pmDlaw_cell_at anDlaw_cell_at cdDlaw_cell_at ctDlaw_cell_at), slDlaw_cell_at⟩) (cDlaw_cell_at : PySem.W.codeIn K cdDlaw_cell_at "_law_cell_at" = true) (kDlaw_cell_at : PySem.W.keepIn K (.ref fDlaw_cell_at) = true)
    (aDlaw_drawn : PySem.W.nsIn K mainGlobals "_law_drawn" = some (some (.ref fDlaw_drawn)))
    (lDlaw_drawn : K.lookup fDlaw_drawn = some ⟨ocDlaw_drawn, odDlaw_drawn, .func (PySem.W.fnOf "_law_drawn" "_law_drawn" (defArgs (top 18)) (defBody (top 18)) (defScope (top 18)) .none kVDlaw_drawn dcDlaw_drawn pmDlaw_drawn anDlaw_drawn cdDlaw_drawn ctDlaw_drawn), slDlaw_drawn⟩) (cDlaw_drawn : PySem.W.codeIn K cdDlaw_drawn "_law_drawn" = true) (kDlaw_drawn : PySem.W.keepIn K (.ref fDlaw_drawn) = true)
    (aDlaw_spoilt : PySem.W.nsIn K mainGlobals "_law_spoilt" = some (some (.ref fDlaw_spoilt)))
    (lDlaw_spoilt : K.lookup fDlaw_spoilt = some ⟨ocDlaw_spoilt, odDlaw_spoilt, .func (PySem.W.fnOf "_law_spoilt" "_law_spoilt" (defArgs (top 19)) (defBody (top 19)) (defScope (top 19)) .none kVDlaw_spoilt dcDlaw_spoilt pmDlaw_spoilt anDlaw_spoilt cdDlaw_spoilt ctDlaw_spoilt), slDlaw_spoilt⟩) (cDlaw_spoilt : PySem.W.codeIn K cdDlaw_spoilt "_law_spoilt" = true) (kDlaw_spoilt : PySem.W.keepIn K (.ref fDlaw_spoilt) = true)
    (aDlaw_due : PySem.W.nsIn K mainGlobals "_law_due" = some (some (.ref fDlaw_due)))
    (lDlaw_due : K.lookup fDlaw_due = some ⟨ocDlaw_due, odDlaw_due, .func (PySem.W.fnOf "_law_due" "_law_due" (defArgs (top 20)) (defBody (top 20)) (defScope (top 20)) .none kVDlaw_due dcDlaw_due pmDlaw_due anDlaw_due cdDlaw_due ctDlaw_due), slDlaw_due⟩) (cDlaw_due : PySem.W.codeIn K cdDlaw_due "_law_due" = true) (kDlaw_due : PySem.W.keepIn K (.ref fDlaw_due) = true)
    (aDlaw_other : PySem.W.nsIn K mainGlobals "_law_other" = some (some (.ref fDlaw_other)))
    (lDlaw_other : K.lookup fDlaw_other = some ⟨ocDlaw_other, odDlaw_other, .func (PySem.W.fnOf "_law_other" "_law_other" (defArgs (top 21)) (defBody (top 21)) (defScope (top 21)) .none kVDlaw_other dcDlaw_other pmDlaw_other anDlaw_other cdDlaw_other ctDlaw_other), slDlaw_other⟩) (cDlaw_other : PySem.W.codeIn K cdDlaw_other "_law_other" = true) (kDlaw_other : PySem.W.keepIn K (.ref fDlaw_other) = true)
    (aDlaw_read : PySem.W.nsIn K mainGlobals "_law_read" = some (some (.ref fDlaw_read)))
    (lDlaw_read : K.lookup fDlaw_read = some ⟨ocDlaw_read, odDlaw_read, .func (PySem.W.fnOf "_law_read" "_law_read" (defArgs (top 22)) (defBody (top 22)) (defScope (top 22)) .none kVDlaw_read dcDlaw_read pmDlaw_read anDlaw_read cdDlaw_read ctDlaw_read), slDlaw_read⟩) (cDlaw_read : PySem.W.codeIn K cdDlaw_read "_law_read" = true) (kDlaw_read : PySem.W.keepIn K (.ref fDlaw_read) = true)
    (aDlaw : PySem.W.nsIn K mainGlobals "law" = some (some (.ref fDlaw)))
    (lDlaw : K.lookup fDlaw = some ⟨ocDlaw, odDlaw, .func (PySem.W.fnOf "law" "law" (defArgs (top 23)) (defBody (top 23)) (defScope (top 23)) .none kVDlaw dcDlaw pmDlaw anDlaw cdDlaw ctDlaw), slDlaw⟩) (cDlaw : PySem.W.codeIn K cdDlaw "law" = true) (kDlaw : PySem.W.keepIn K (.ref fDlaw) = true)
    (z_FIGURES : PySem.W.nsIn K mainGlobals "FIGURES" = some (some (.str "0123456789" t_FIGURES)))
    (z_MOST_FIGURES : PySem.W.nsIn K mainGlobals "MOST_FIGURES" = some (some (.int 12 t_MOST_FIGURES)))
    (o_ValueError : PySem.W.nsIn K mainGlobals "ValueError" = some none)
    (o_all : PySem.W.nsIn K mainGlobals "all" = some none)
    (o_bool : PySem.W.nsIn K mainGlobals "bool" = some none)
    (o_int : PySem.W.nsIn K mainGlobals "int" = some none)
    (o_isinstance : PySem.W.nsIn K mainGlobals "isinstance" = some none)
    (o_len : PySem.W.nsIn K mainGlobals "len" = some none)
    (o_min : PySem.W.nsIn K mainGlobals "min" = some none)
    (o_range : PySem.W.nsIn K mainGlobals "range" = some none)
    (o_str : PySem.W.nsIn K mainGlobals "str" = some none)
    (aX_SlantError : PySem.W.nsIn K mainGlobals "SlantError" = some (some (.ref X_SlantError)))
    (aX_NoSides : PySem.W.nsIn K mainGlobals "NoSides" = some (some (.ref X_NoSides)))
    (aX_NoRow : PySem.W.nsIn K mainGlobals "NoRow" = some (some (.ref X_NoRow)))
    (aX_NoFloor : PySem.W.nsIn K mainGlobals "NoFloor" = some (some (.ref X_NoFloor)))
    (aX_NoThrees : PySem.W.nsIn K mainGlobals "NoThrees" = some (some (.ref X_NoThrees)))
    (aX_NoFlip : PySem.W.nsIn K mainGlobals "NoFlip" = some (some (.ref X_NoFlip)))
    (aX_NoHeights : PySem.W.nsIn K mainGlobals "NoHeights" = some (some (.ref X_NoHeights)))
    (aX_TooMany : PySem.W.nsIn K mainGlobals "TooMany" = some (some (.ref X_TooMany)))
    (aX_NoHold : PySem.W.nsIn K mainGlobals "NoHold" = some (some (.ref X_NoHold)))
    (aX_NoTurn : PySem.W.nsIn K mainGlobals "NoTurn" = some (some (.ref X_NoTurn)))
    (aX_NoText : PySem.W.nsIn K mainGlobals "NoText" = some (some (.ref X_NoText)))
    (rq_NoText : PySem.W.excIn K X_NoText [.type "ValueError", .type "Exception", .type "BaseException", .type "object"] "ValueError.__new__" = true)
    (x_NoText : PySem.W.exmOne K (.ref X_NoText) (.ref X_NoText) = some true)
    (ic1 : PySem.W.isClsIn K X_NoText = true)
    (ic2 : PySem.W.findIn K (.ref X_NoText) "__getattribute__" = some (some (.builtin "BaseException.__getattribute__")))
    (ic7 : PySem.W.findIn K (.ref X_NoText) "__getattr__" = some none)
    (ic8 : PySem.W.mroIn K X_NoText (.type "BaseException") = some true)
    (ic3 : PySem.W.findIn K (.ref X_NoText) "__class__" = some (some (.builtin "object.__class__")))
    (ic4 : PySem.W.specialIn K (.builtin "object.__class__") "__get__" = some (some (.builtin "getset_descriptor.__get__")))
    (ic5 : PySem.W.takesIn K (.builtin "object.__class__") = some true)
    (ic6 : PySem.W.mroIn K X_NoText (.type "object") = some true)
    (kq_NoSides : PySem.W.kitOne K (.ref X_NoText) (.ref X_NoSides) = some false)
    (kq_NoRow : PySem.W.kitOne K (.ref X_NoText) (.ref X_NoRow) = some false)
    (kq_NoFloor : PySem.W.kitOne K (.ref X_NoText) (.ref X_NoFloor) = some false)
    (kq_NoThrees : PySem.W.kitOne K (.ref X_NoText) (.ref X_NoThrees) = some false)
    (kq_NoFlip : PySem.W.kitOne K (.ref X_NoText) (.ref X_NoFlip) = some false)
    (kq_NoHeights : PySem.W.kitOne K (.ref X_NoText) (.ref X_NoHeights) = some false)
    (kq_TooMany : PySem.W.kitOne K (.ref X_NoText) (.ref X_TooMany) = some false)
    (kq_NoHold : PySem.W.kitOne K (.ref X_NoText) (.ref X_NoHold) = some false)
    (kq_NoTurn : PySem.W.kitOne K (.ref X_NoText) (.ref X_NoTurn) = some false)
    (kq_SlantError : PySem.W.kitOne K (.ref X_NoText) (.ref X_SlantError) = some true) :
    ∃ fd : FuncData, (∀ (s : Shared) (v : Value), BindsTo s fd ⟨[v], []⟩ [("_law_script", v)]) ∧ ∀ base : Heap, K.In base → base.Ns mainGlobals mg → FnOk l.prog w K mg base CX0 3 fa fd ["_law_script"] ((low K spLaw)) := by
  have e := hfa.symm.trans (PySem.W.mg_of X G aDlaw)
  cases e
  have FDread_number := fun_mk (st := (top 15)) lDread_number cDread_number kDread_number
  have bDread_number := FDread_number.binds (ps := ["word"]) fun _ _ _ _ _ _ us hl => match us, hl with | [_], _ => rfl
  have mDread_number : At K mg "read_number" "read_number" (top 15) ["word"] := ⟨_, _, PySem.W.mg_of X G aDread_number, FDread_number, bDread_number⟩
  have FDlaw_cell_at := fun_mk (st := (top 17)) lDlaw_cell_at cDlaw_cell_at kDlaw_cell_at
  have bDlaw_cell_at := FDlaw_cell_at.binds (ps := ["_law_script", "_law_k"]) fun _ _ _ _ _ _ us hl => match us, hl with | [_, _], _ => rfl
  have mDlaw_cell_at : At K mg "_law_cell_at" "_law_cell_at" (top 17) ["_law_script", "_law_k"] := ⟨_, _, PySem.W.mg_of X G aDlaw_cell_at, FDlaw_cell_at, bDlaw_cell_at⟩
  have FDlaw_drawn := fun_mk (st := (top 18)) lDlaw_drawn cDlaw_drawn kDlaw_drawn
  have bDlaw_drawn := FDlaw_drawn.binds (ps := ["_law_cell"]) fun _ _ _ _ _ _ us hl => match us, hl with | [_], _ => rfl
  have mDlaw_drawn : At K mg "_law_drawn" "_law_drawn" (top 18) ["_law_cell"] := ⟨_, _, PySem.W.mg_of X G aDlaw_drawn, FDlaw_drawn, bDlaw_drawn⟩
  have FDlaw_spoilt := fun_mk (st := (top 19)) lDlaw_spoilt cDlaw_spoilt kDlaw_spoilt
  have bDlaw_spoilt := FDlaw_spoilt.binds (ps := ["_law_text", "_law_cell"]) fun _ _ _ _ _ _ us hl => match us, hl with | [_, _], _ => rfl
  have mDlaw_spoilt : At K mg "_law_spoilt" "_law_spoilt" (top 19) ["_law_text", "_law_cell"] := ⟨_, _, PySem.W.mg_of X G aDlaw_spoilt, FDlaw_spoilt, bDlaw_spoilt⟩
  have FDlaw_due := fun_mk (st := (top 20)) lDlaw_due cDlaw_due kDlaw_due
  have bDlaw_due := FDlaw_due.binds (ps := ["_law_text"]) fun _ _ _ _ _ _ us hl => match us, hl with | [_], _ => rfl
  have mDlaw_due : At K mg "_law_due" "_law_due" (top 20) ["_law_text"] := ⟨_, _, PySem.W.mg_of X G aDlaw_due, FDlaw_due, bDlaw_due⟩
  have FDlaw_other := fun_mk (st := (top 21)) lDlaw_other cDlaw_other kDlaw_other
  have bDlaw_other := FDlaw_other.binds (ps := ["_law_e"]) fun _ _ _ _ _ _ us hl => match us, hl with | [_], _ => rfl
  have mDlaw_other : At K mg "_law_other" "_law_other" (top 21) ["_law_e"] := ⟨_, _, PySem.W.mg_of X G aDlaw_other, FDlaw_other, bDlaw_other⟩
  have FDlaw_read := fun_mk (st := (top 22)) lDlaw_read cDlaw_read kDlaw_read
  have bDlaw_read := FDlaw_read.binds (ps := ["_law_text"]) fun _ _ _ _ _ _ us hl => match us, hl with | [_], _ => rfl
  have mDlaw_read : At K mg "_law_read" "_law_read" (top 22) ["_law_text"] := ⟨_, _, PySem.W.mg_of X G aDlaw_read, FDlaw_read, bDlaw_read⟩
  have FDlaw := fun_mk (st := (top 23)) lDlaw cDlaw kDlaw
  have bDlaw := FDlaw.binds (ps := ["_law_script"]) fun _ _ _ _ _ _ us hl => match us, hl with | [_], _ => rfl
  have mDlaw : At K mg "law" "law" (top 23) ["_law_script"] := ⟨_, _, PySem.W.mg_of X G aDlaw, FDlaw, bDlaw⟩
  have v_FIGURES : ∃ t, mg "FIGURES" = some (.str "0123456789" t) := ⟨_, PySem.W.mg_of X G z_FIGURES⟩
  have v_MOST_FIGURES : ∃ t, mg "MOST_FIGURES" = some (.int 12 t) := ⟨_, PySem.W.mg_of X G z_MOST_FIGURES⟩
  have w_ValueError : mg "ValueError" = none := PySem.W.mg_none_of X G o_ValueError
  have w_all : mg "all" = none := PySem.W.mg_none_of X G o_all
  have w_bool : mg "bool" = none := PySem.W.mg_none_of X G o_bool
  have w_int : mg "int" = none := PySem.W.mg_none_of X G o_int
  have w_isinstance : mg "isinstance" = none := PySem.W.mg_none_of X G o_isinstance
  have w_len : mg "len" = none := PySem.W.mg_none_of X G o_len
  have w_min : mg "min" = none := PySem.W.mg_none_of X G o_min
  have w_range : mg "range" = none := PySem.W.mg_none_of X G o_range
  have w_str : mg "str" = none := PySem.W.mg_none_of X G o_str
  have e_SlantError := PySem.W.mg_of X G aX_SlantError
  have e_NoSides := PySem.W.mg_of X G aX_NoSides
  have e_NoRow := PySem.W.mg_of X G aX_NoRow
  have e_NoFloor := PySem.W.mg_of X G aX_NoFloor
  have e_NoThrees := PySem.W.mg_of X G aX_NoThrees
  have e_NoFlip := PySem.W.mg_of X G aX_NoFlip
  have e_NoHeights := PySem.W.mg_of X G aX_NoHeights
  have e_TooMany := PySem.W.mg_of X G aX_TooMany
  have e_NoHold := PySem.W.mg_of X G aX_NoHold
  have e_NoTurn := PySem.W.mg_of X G aX_NoTurn
  have e_NoText := PySem.W.mg_of X G aX_NoText
  have r_NoText : ExcC K X_NoText := rq_NoText
  have ci : ExcI K X_NoText := ⟨ic1, ic2, ic7, ic8, ic3, ic4, ic5, ic6⟩
  refine ⟨PySem.W.fnOf "law" "law" (defArgs (top 23)) (defBody (top 23)) (defScope (top 23)) .none kVDlaw dcDlaw pmDlaw anDlaw cdDlaw ctDlaw, fun s v => .of_eq rfl, fun base _ _ => ?_⟩
  have d_read_number := dq_read_number (P := l.prog) (w := w) (base := base) mDread_number w_len w_all w_int v_MOST_FIGURES v_FIGURES e_NoText r_NoText len_read p_read_number
  have d_law_cell_at := dq_law_cell_at (P := l.prog) (w := w) (base := base) mDlaw_cell_at w_len len_cell p_law_cell_at
  have d_law_drawn := dq_law_drawn (P := l.prog) (w := w) (base := base) mDlaw_drawn w_range len_drawn p_law_drawn
  have d_law_spoilt := dq_law_spoilt (P := l.prog) (w := w) (base := base) mDlaw_spoilt w_len d_law_drawn mo_drawn len_spoilt p_law_spoilt
  have d_law_due := dq_law_due (P := l.prog) (w := w) (base := base) mDlaw_due w_len len_due p_law_due
  have d_law_other := dq_law_other (P := l.prog) (w := w) (base := base) mDlaw_other w_isinstance e_NoSides e_NoRow e_NoFloor e_NoThrees e_NoFlip e_NoHeights e_TooMany e_NoHold e_NoTurn e_SlantError len_other (p_law_other ci kq_NoSides kq_NoRow kq_NoFloor kq_NoThrees kq_NoFlip kq_NoHeights kq_TooMany kq_NoHold kq_NoTurn kq_SlantError)
  have d_law_read := dq_law_read (P := l.prog) (w := w) (base := base) mDlaw_read w_isinstance w_int w_bool e_NoText x_NoText d_read_number mo_read d_law_other mo_other d_law_due mo_due len_lread p_law_read
  exact dq_law FDlaw w_len w_min w_range w_str d_law_cell_at mo_cell d_law_due mo_due d_law_read mo_lread d_law_spoilt mo_spoilt len_law p_law
theorem walk {l : PySem.W.OpenLaw} {q : Program} {loose : List Str} {XP : (Str → Option Value) → Heap → Prop} {YP : World → Heap → Prop} {d : DefRec} {K : Params → PySem.W.Frag} (hn : l.most = some 63) (hdf : d.params.defaults = [])
    (hY : ∀ (w : World) (h : Heap), YP w h → (K w.params).In h)
    (F : ∀ (w : World) (mg : Str → Option Value) (fa : Addr) (h : Heap), (K w.params).In h → h.Ns mainGlobals mg → mg d.name = some (.ref fa) →
      ∃ fd : FuncData, (∀ (s : Shared) (u : Value), BindsTo s fd ⟨[u], []⟩ [("_law_script", u)]) ∧ ∀ base : Heap, (K w.params).In base → base.Ns mainGlobals mg → FnOk l.prog w (K w.params) mg base CX0 3 fa fd ["_law_script"] ((low (K w.params) spLaw))) :
    PySem.W.WalkO q loose XP YP l.row.toRowW d [] (fun f vs => PySem.call f vs) :=
  L2.walk_of (n := 63) (k := 3) (x := "_law_script") (CX := fun _ => CX0) (sp := fun w => (low (K w.params) spLaw)) hn (by decide) hdf ⟨rfl, by decide, by decide⟩ hY F (fun _ H a ns hl hO hS => law_start hl hO hS) fun _ _ _ _ _ z => z
end Lw
open PySem PySem.W PyProof.Rows
set_option maxRecDepth 100000 in
set_option maxHeartbeats 0 in
theorem PySem.Challenge.cw_slantfloor_k91_numbers_read_holds : PySem.Challenge.rw_slantfloor_k91_numbers_read.Holds := by
  w_on; o_law; k_head; (case hw => w_witness2)
  k_fill
  refine Lw.walk (l := PySem.Challenge.rw_slantfloor_k91_numbers_read) rfl rfl (fun w h Y => PySem.W.kIn_of Y) ?F
  case F =>
    intro w mg fa h KX G hmg
    refine' Lw.all_mk KX G hmg ?aDread_number ?lDread_number ?cDread_number ?kDread_number ?aDlaw_cell_at ?lDlaw_cell_at ?cDlaw_cell_at ?kDlaw_cell_at ?aDlaw_drawn ?lDlaw_drawn ?cDlaw_drawn ?kDlaw_drawn ?aDlaw_spoilt ?lDlaw_spoilt ?cDlaw_spoilt ?kDlaw_spoilt ?aDlaw_due ?lDlaw_due ?cDlaw_due ?kDlaw_due ?aDlaw_other ?lDlaw_other ?cDlaw_other ?kDlaw_other ?aDlaw_read ?lDlaw_read ?cDlaw_read ?kDlaw_read ?aDlaw ?lDlaw ?cDlaw ?kDlaw ?z_FIGURES ?z_MOST_FIGURES ?o_ValueError ?o_all ?o_bool ?o_int ?o_isinstance ?o_len ?o_min ?o_range ?o_str ?aX_SlantError ?aX_NoSides ?aX_NoRow ?aX_NoFloor ?aX_NoThrees ?aX_NoFlip ?aX_NoHeights ?aX_TooMany ?aX_NoHold ?aX_NoTurn ?aX_NoText ?rq_NoText ?x_NoText ?ic1 ?ic2 ?ic7 ?ic8 ?ic3 ?ic4 ?ic5 ?ic6 ?kq_NoSides ?kq_NoRow ?kq_NoFloor ?kq_NoThrees ?kq_NoFlip ?kq_NoHeights ?kq_TooMany ?kq_NoHold ?kq_NoTurn ?kq_SlantError
    (case aDread_number => k_is)
    (case lDread_number => k_is)
    (case cDread_number => k_is)
    (case kDread_number => k_is)
    (case aDlaw_cell_at => k_is)
    (case lDlaw_cell_at => k_is)
    (case cDlaw_cell_at => k_is)
    (case kDlaw_cell_at => k_is)
    (case aDlaw_drawn => k_is)
    (case lDlaw_drawn => k_is)
    (case cDlaw_drawn => k_is)
    (case kDlaw_drawn => k_is)
    (case aDlaw_spoilt => k_is)
    (case lDlaw_spoilt => k_is)
    (case cDlaw_spoilt => k_is)
    (case kDlaw_spoilt => k_is)
    (case aDlaw_due => k_is)
    (case lDlaw_due => k_is)
    (case cDlaw_due => k_is)
    (case kDlaw_due => k_is)
    (case aDlaw_other => k_is)
    (case lDlaw_other => k_is)
    (case cDlaw_other => k_is)
    (case kDlaw_other => k_is)
    (case aDlaw_read => k_is)
    (case lDlaw_read => k_is)
    (case cDlaw_read => k_is)
    (case kDlaw_read => k_is)
    (case aDlaw => k_is)
    (case lDlaw => k_is)
    (case cDlaw => k_is)
    (case kDlaw => k_is)
    (case z_FIGURES => k_is)
    (case z_MOST_FIGURES => k_is)
    (case o_ValueError => k_is)
    (case o_all => k_is)
    (case o_bool => k_is)
    (case o_int => k_is)
    (case o_isinstance => k_is)
    (case o_len => k_is)
    (case o_min => k_is)
    (case o_range => k_is)
    (case o_str => k_is)
    (case aX_SlantError => k_is)
    (case aX_NoSides => k_is)
    (case aX_NoRow => k_is)
    (case aX_NoFloor => k_is)
    (case aX_NoThrees => k_is)
    (case aX_NoFlip => k_is)
    (case aX_NoHeights => k_is)
    (case aX_TooMany => k_is)
    (case aX_NoHold => k_is)
    (case aX_NoTurn => k_is)
    (case aX_NoText => k_is)
    (case rq_NoText => k_exc)
    (case x_NoText => kts_exm)
    (case ic1 => k_is)
    (case ic2 => k_is)
    (case ic7 => k_is)
    (case ic8 => k_is)
    (case ic3 => k_is)
    (case ic4 => k_is)
    (case ic5 => k_is)
    (case ic6 => k_is)
    (case kq_NoSides => kit_is)
    (case kq_NoRow => kit_is)
    (case kq_NoFloor => kit_is)
    (case kq_NoThrees => kit_is)
    (case kq_NoFlip => kit_is)
    (case kq_NoHeights => kit_is)
    (case kq_TooMany => kit_is)
    (case kq_NoHold => kit_is)
    (case kq_NoTurn => kit_is)
    (case kq_SlantError => kit_is)

import PyProof.Rows.All
import Wide.All
import OpenK.AllK
import Wide.FinOn
import Lean
import PyProof.EqAt
import PyProof.EqKinds
import PyProof.TupleCall
import PyProof.Rows.SortRuns
import PyProof.Rows.SortRev
import PyProof.NeKinds
import KE.KLam
import KE.KSortKey
import PyProof.ListRange
import PyProof.ZipIter
import PyProof.Rows.ZipGen
import PyProof.Rows.FactsT2
import PySem.Challenge.RW_evenhand_k03_taken_and_given
section
set_option Elab.async false
set_option linter.all false
set_option maxRecDepth 100000
/-! THE HAND LAYER, for ints, bools, texts, own classes, LISTS and tuples (index, slices, in, append, pop ..), calls, loops. Paste it whole ahead of your own text; what your proof does not reach may be deleted. -/
namespace L2
open PySem PySem.Spec PyProof.Rows
/-- a key: an int or a str -/
abbrev Key := Sum Int Str
def keyIs : Key → Value → Bool
  | .inl k, v => Value.isInt k v
  | .inr x, v => Value.isStrOf x v
def keyH (w : World) : Key → Int
  | .inl k => hashInt k
  | .inr x => hashStr w x
theorem keyIs_shape : ∀ {k : Key} {v : Value}, keyIs k v = true → (∃ i t, k = Sum.inl i ∧ v = Value.int i t) ∨ (∃ x t, k = Sum.inr x ∧ v = Value.str x t)
  | .inl i, v, h => by
    obtain ⟨t, e⟩ := Value.isInt_shape (k := i) (v := v) h
    exact .inl ⟨i, t, rfl, e⟩
  | .inr x, v, h => by
    obtain ⟨t, e⟩ := Value.isStrOf_shape (x := x) (v := v) h
    exact .inr ⟨x, t, rfl, e⟩
theorem key_ll (a b : Int) : decide ((Sum.inl a : Key) = Sum.inl b) = (a == b) := by
  by_cases e : a = b
  · subst e; simp
  · have h : ¬ (Sum.inl a : Key) = Sum.inl b := fun q => e (Sum.inl.inj q)
    rw [decide_eq_false h]
    exact (beq_eq_false_iff_ne.mpr e).symm
theorem key_rr (a b : Str) : decide ((Sum.inr a : Key) = Sum.inr b) = decide (a = b) := by
  by_cases e : a = b
  · subst e; simp
  · have h : ¬ (Sum.inr a : Key) = Sum.inr b := fun q => e (Sum.inr.inj q)
    rw [decide_eq_false h, decide_eq_false e]
theorem key_lr (a : Int) (b : Str) : decide ((Sum.inl a : Key) = Sum.inr b) = false := decide_eq_false (fun q => nomatch q)
theorem key_rl (a : Str) (b : Int) : decide ((Sum.inr a : Key) = Sum.inl b) = false := decide_eq_false (fun q => nomatch q)
def mixKind (prog : Program) (w : World) : PySem.KeyKind prog w Key where
  is := keyIs
  hash := keyH w
  inj := fun v a b ha hb => by
    rcases keyIs_shape ha with ⟨i, t, rfl, rfl⟩ | ⟨x, t, rfl, rfl⟩
    · rcases keyIs_shape hb with ⟨j, u, rfl, e⟩ | ⟨y, u, rfl, e⟩
      · injection e with e1 _; rw [e1]
      · exact nomatch e
    · rcases keyIs_shape hb with ⟨j, u, rfl, e⟩ | ⟨y, u, rfl, e⟩
      · exact nomatch e
      · injection e with e1 _; rw [e1]
  byValue := fun k v h => by
    rcases keyIs_shape h with ⟨i, t, rfl, rfl⟩ | ⟨x, t, rfl, rfl⟩ <;> rfl
  pyHash := fun hv h => by
    rcases keyIs_shape hv with ⟨i, t, rfl, rfl⟩ | ⟨x, t, rfl, rfl⟩
    · exact wpAny_pyHash_int h
    · exact wpAny_pyHash_str h
  eqBool := fun hu hv h => by
    rcases keyIs_shape hu with ⟨i, t, rfl, rfl⟩ | ⟨x, t, rfl, rfl⟩
    · rcases keyIs_shape hv with ⟨j, u, rfl, rfl⟩ | ⟨y, u, rfl, rfl⟩
      · rw [key_ll] at h; exact wpAny_eqBool_int h
      · rw [key_lr] at h; exact SeqAt.EqAt.int_str i t y u _ _ _ _ h
    · rcases keyIs_shape hv with ⟨j, u, rfl, rfl⟩ | ⟨y, u, rfl, rfl⟩
      · rw [key_rl] at h; exact SeqAt.EqAt.str_int x t j u _ _ _ _ h
      · rw [key_rr] at h; exact wpAny_eqBool_str h
  «strs» := fun k x t v h => by
    rcases keyIs_shape h with ⟨i, u, rfl, e⟩ | ⟨y, u, rfl, e⟩
    · exact nomatch e
    · injection e with e1 _
      subst e1
      cases v <;> rfl
end L2
namespace L2
open PySem PySem.Spec PyProof.Rows
/-- a value, without the heap -/
inductive V where
  | non | bl (b : Bool) | int (i : Int) | str (x : Str) | byt (b : Array UInt8) | flt (b : UInt64) | ref (a : Addr) | ty (n : String)
  deriving DecidableEq
def RelV : V → Value → Prop
  | .non, u => u = Value.none
  | .bl b, u => u = Value.bool b
  | .int i, u => ∃ t, u = Value.int i t
  | .str x, u => ∃ t, u = Value.str x t
  | .byt b, u => ∃ t, u = Value.bytes b t
  | .flt b, u => ∃ t, u = Value.float b t
  | .ref a, u => u = Value.ref a
  | .ty n, u => u = Value.type n
abbrev Vals : List V → List Value → Prop := Paired RelV
theorem Vals.length {xs : List V} {us : List Value} (r : Vals xs us) : xs.length = us.length := Paired.length r
theorem Vals.get : ∀ {xs : List V} {us : List Value} {i : Nat} {x : V}, Vals xs us → xs[i]? = some x → ∃ u, us[i]? = some u ∧ RelV x u
  | _, _, _, _, .nil, e => by simp at e
  | _, _, 0, _, .cons r _, e => by simp at e; subst e; exact ⟨_, rfl, r⟩
  | _, _, i + 1, x, .cons _ t, e => by
    obtain ⟨u, h1, h2⟩ := Vals.get (i := i) (x := x) t (by simpa using e)
    exact ⟨u, by simpa using h1, h2⟩
theorem Vals.append : ∀ {xs ys : List V} {us ws : List Value}, Vals xs us → Vals ys ws → Vals (xs ++ ys) (us ++ ws)
  | _, _, _, _, .nil, s => s
  | _, _, _, _, .cons r t, s => .cons r (Vals.append t s)
theorem Vals.take : ∀ {xs : List V} {us : List Value} (n : Nat), Vals xs us → Vals (xs.take n) (us.take n)
  | _, _, 0, _ => .nil
  | _, _, _ + 1, .nil => .nil
  | _, _, n + 1, .cons r t => .cons r (Vals.take n t)
theorem Vals.drop : ∀ {xs : List V} {us : List Value} (n : Nat), Vals xs us → Vals (xs.drop n) (us.drop n)
  | _, _, 0, r => r
  | _, _, _ + 1, .nil => .nil
  | _, _, n + 1, .cons _ t => Vals.drop n t
def RelO : Option V → Option Value → Prop
  | some v, some u => RelV v u
  | none, none => True
  | _, _ => False
def KV {κ : Type} : List (κ × V) → List (κ × Value) → Prop := Paired fun (p : κ × V) (q : κ × Value) => p.1 = q.1 ∧ RelV p.2 q.2
/-- a key of a dict (00_mix): an int or a text -/
def kV : Key → V
  | .inl i => .int i
  | .inr x => .str x
/-- what stands at a tracked address -/
inductive HO where
  /-- a list -/
  | lst (xs : List V)
  /-- a tuple (never changes) -/
  | tup (xs : List V)
  /-- a dict whose keys are ints and texts; one whose keys are tuples of ints and texts (the empty one is both) -/
  | dK (kvs : List (Key × V)) | dT (kvs : List (List Key × V))
  /-- a set of ints: its members, its size -/
  | set (S : Int → Bool) (n : Nat)
  /-- an instance of the class at C, its dict at dx, its attributes -/
  | ins (C dx : Addr) (fs : List (Str × V))
  /-- the dict of the instance at x -/
  | own (x : Addr)
  /-- the dict of an exception -/
  | xd (fs : List (Str × V))
  /-- a bound method, f of x -/
  | met (f x : Addr)
  /-- a range object lo, lo + 1, .. below hi -/
  | rng (lo hi : Int)
  /-- a thing that is known to the object (the script; a dict while a loop walks it): read, never written while it is so -/
  | frz (o : Obj) (u : HO)
  /-- a code object's table -/
  | tbl (ps : Array Value)
  /-- any other thing, by what is true of its one object (a def of one's own: SetO a S n := HO.ext fun h => ..) -/
  | ext (φ : Heap → Prop)
abbrev Hp := Addr → Option HO
def upd (H : Hp) (a : Addr) (o : HO) : Hp := fun b => if b = a then some o else H b
theorem upd_same {H : Hp} {a : Addr} {o : HO} : upd H a o a = some o := by unfold upd; rw [if_pos rfl]
theorem upd_ne {H : Hp} {a b : Addr} {o : HO} (h : b ≠ a) : upd H a o b = H b := by unfold upd; rw [if_neg h]
theorem upd_upd {H : Hp} {a : Addr} {o u : HO} : upd (upd H a o) a u = upd H a u := by
  funext b; unfold upd; split <;> rfl
theorem ne_of_none {H : Hp} {a b : Addr} {o : HO} (h : H a = some o) (h' : H b = none) : a ≠ b := by
  intro e; subst e; rw [h] at h'; cases h'
section
variable (P : Program) (w : World)
def ObjOk (H : Hp) (h : Heap) (a : Addr) : HO → Prop
  | .lst xs => xs.length ≤ sizeLine ∧ ∃ (its : List Value) (n : Nat), Vals xs its ∧ h.get? a = some { cls := .type "list", data := .seq its.toArray n }
  | .tup xs => xs.length ≤ sizeLine ∧ ∃ its : List Value, Vals xs its ∧ IsTup h a its.toArray
  | .dK kvs => kvs.length ≤ sizeLine ∧ (a == sysModules) = false ∧ ∃ vs, KV kvs vs ∧ h.DictOf (mixKind P w) a vs
  | .dT kvs => kvs.length ≤ sizeLine ∧ (a == sysModules) = false ∧ ∃ xs : List (List Key × Addr × Value),
      Paired (fun (p : List Key × V) (q : List Key × Addr × Value) => p.1 = q.1 ∧ H q.2.1 = some (.tup (p.1.map kV)) ∧ RelV p.2 q.2.2) kvs xs ∧
      ∃ o es ep, h.get? a = some o ∧ o.ExactDict ∧ o.data = .dict es ep ∧ es.toList = xs.map (entryOfKey (tupleKind (mixKind P w))) ∧ (xs.map (·.1)).Nodup
  | .set S n => h.SetOf (intKind P w) a S n
  | .ins C dx fs => H dx = some (.own a) ∧ fs.length ≤ 1000 ∧ dx ≠ a ∧ h.get? a = some (PySem.W.instObj C dx) ∧
      ∃ mA, h.Ns1 dx mA ∧ (∀ f, RelO (fs.lookup f) (mA f)) ∧ PySem.Within mA (fs.map (·.1))
  | .own _ => ∃ o, h.get? a = some o
  | .xd fs => ∃ mA, h.Ns1 a mA ∧ ∀ f, RelO (fs.lookup f) (mA f)
  | .rng lo hi => ∃ t u v, h.get? a = some { cls := .type "range", data := .fields #[.int lo t, .int hi u, .int 1 v] }
  | .frz o u => h.get? a = some o ∧ ObjOk H h a u
  | .tbl ps => h.get? a = some { cls := .none, data := .fields ps }
  | .met f x => h.get? a = some (PySem.W.methodObj (.ref f) (.ref x))
  | .ext φ => φ h ∧ (∃ o, h.get? a = some o) ∧ ∀ h1 h2 : Heap, φ h1 → (∀ o, h1.get? a = some o → h2.get? a = some o) → φ h2
/-- the abstract heap is held -/
def HOk (H : Hp) (h : Heap) : Prop := ∀ a o, H a = some o → ObjOk P w H h a o
end
section
variable {P : Program} {w : World} {H H' : Hp} {h h' : Heap} {a : Addr} {o : HO}
theorem ObjOk.lt (x : ObjOk P w H h a o) : a < h.objs.size := by
  cases o with
  | lst xs => obtain ⟨_, _, _, _, e⟩ := x; exact Heap.lt_size e
  | tup xs => obtain ⟨_, _, _, p⟩ := x; exact p.lt
  | dK kvs => obtain ⟨_, _, _, _, o, _, _, e, _⟩ := x; exact Heap.lt_size e
  | dT kvs => obtain ⟨_, _, _, _, o, _, _, e, _⟩ := x; exact Heap.lt_size e
  | set S n => obtain ⟨o, _, _, _, e, _⟩ := x; exact Heap.lt_size e
  | ins C dx fs => obtain ⟨_, _, _, e, _⟩ := x; exact Heap.lt_size e
  | own y => obtain ⟨_, e⟩ := x; exact Heap.lt_size e
  | xd fs => obtain ⟨_, ⟨_, _, _, e, _⟩, _⟩ := x; exact Heap.lt_size e
  | rng lo hi => obtain ⟨_, _, _, e⟩ := x; exact Heap.lt_size e
  | frz ob u => obtain ⟨e, _⟩ := x; exact Heap.lt_size e
  | tbl ps => exact Heap.lt_size (show h.get? a = some _ from x)
  | met f y => exact Heap.lt_size (show h.get? a = some _ from x)
  | ext φ => obtain ⟨_, ⟨_, e⟩, _⟩ := x; exact Heap.lt_size e
theorem Paired.mapP {α β : Type} {F G : α → β → Prop} : ∀ {l₁ : List α} {l₂ : List β}, Paired F l₁ l₂ → (∀ a b, F a b → G a b) → Paired G l₁ l₂
  | _, _, .nil, _ => .nil
  | _, _, .cons r t, f => .cons (f _ _ r) (Paired.mapP t f)
/-- what an object's description leans on: its own object, its own dict, the tuples -/
theorem ObjOk.stay (x : ObjOk P w H h a o) (k : ∀ b u, (b = a ∨ H b = some (.own a)) → h.get? b = some u → h'.get? b = some u)
    (ho : ∀ b, H b = some (.own a) → H' b = some (.own a)) (ht : ∀ b xs, H b = some (.tup xs) → H' b = some (.tup xs)) : ObjOk P w H' h' a o := by
  induction o with
  | lst xs => obtain ⟨z, its, n, r, e⟩ := x; exact ⟨z, its, n, r, k _ _ (.inl rfl) e⟩
  | tup xs => obtain ⟨z, its, r, ob, e, c⟩ := x; exact ⟨z, its, r, ob, k _ _ (.inl rfl) e, c⟩
  | dK kvs => obtain ⟨z, y, vs, r, ob, es, ep, e, c⟩ := x; exact ⟨z, y, vs, r, ob, es, ep, k _ _ (.inl rfl) e, c⟩
  | dT kvs =>
    obtain ⟨z, y, xs, r, ob, es, ep, e, c⟩ := x
    exact ⟨z, y, xs, Paired.mapP r fun p q z => ⟨z.1, ht _ _ z.2.1, z.2.2⟩, ob, es, ep, k _ _ (.inl rfl) e, c⟩
  | set S n => obtain ⟨ob, es, ep, t, e, c⟩ := x; exact ⟨ob, es, ep, t, k _ _ (.inl rfl) e, c⟩
  | ins C dx fs =>
    obtain ⟨d, z, ne, e, mA, ⟨od, es, ep, e2, c⟩, r⟩ := x
    exact ⟨ho _ d, z, ne, k _ _ (.inl rfl) e, mA, ⟨od, es, ep, k _ _ (.inr d) e2, c⟩, r⟩
  | own y => obtain ⟨ob, e⟩ := x; exact ⟨ob, k _ _ (.inl rfl) e⟩
  | xd fs => obtain ⟨mA, ⟨od, es, ep, e, c⟩, r⟩ := x; exact ⟨mA, ⟨od, es, ep, k _ _ (.inl rfl) e, c⟩, r⟩
  | rng lo hi => obtain ⟨t, u, v, e⟩ := x; exact ⟨t, u, v, k _ _ (.inl rfl) e⟩
  | frz ob u ih => obtain ⟨e, q⟩ := x; exact ⟨k _ _ (.inl rfl) e, ih q⟩
  | tbl ps =>
    have e : h.get? a = some { cls := .none, data := .fields ps } := x
    show h'.get? a = some { cls := .none, data := .fields ps }
    exact k a _ (.inl rfl) e
  | met f y =>
    have e : h.get? a = some (PySem.W.methodObj (.ref f) (.ref y)) := x
    show h'.get? a = some (PySem.W.methodObj (.ref f) (.ref y))
    exact k a _ (.inl rfl) e
  | ext φ => obtain ⟨p, ⟨o, e⟩, st⟩ := x; exact ⟨st _ _ p fun o q => k _ _ (.inl rfl) q, ⟨o, k _ _ (.inl rfl) e⟩, st⟩
theorem HOk.lt (x : HOk P w H h) (e : H a = some o) : a < h.objs.size := (x a o e).lt
theorem HOk.fresh (x : HOk P w H h) (e : h.objs.size ≤ a) : H a = none := by
  cases q : H a with
  | none => rfl
  | some u => exact absurd (Nat.lt_of_lt_of_le (x.lt q) e) (Nat.lt_irrefl _)
/-- every object of the heap is kept -/
theorem HOk.kept (x : HOk P w H h) (k : ∀ b u, h.get? b = some u → h'.get? b = some u) : HOk P w H h' := fun a o e =>
  (x a o e).stay (fun b u _ q => k b u q) (fun _ q => q) fun _ _ q => q
/-- a new object is laid and tracked -/
theorem HOk.laid (x : HOk P w H h) (k : ∀ b u, h.get? b = some u → h'.get? b = some u) (hp : h.objs.size ≤ a) (new : ObjOk P w (upd H a o) h' a o) : HOk P w (upd H a o) h' := fun b u e => by
  have hn := x.fresh hp
  by_cases hb : b = a
  · subst hb; rw [upd_same] at e; cases e; exact new
  · rw [upd_ne hb] at e
    exact (x b u e).stay (fun c v _ q => k c v q) (fun c q => by rw [upd_ne (ne_of_none q hn)]; exact q) fun c xs q => by rw [upd_ne (ne_of_none q hn)]; exact q
end
/-- what may be read as u: it is u, or a known u -/
def Rd (H : Hp) (a : Addr) (u : HO) : Prop := H a = some u ∨ ∃ o, H a = some (.frz o u)
theorem Rd.ok {P : Program} {w : World} {H : Hp} {h : Heap} {a : Addr} {u : HO} (r : Rd H a u) (x : HOk P w H h) : ObjOk P w H h a u := by
  rcases r with r | ⟨o, r⟩
  · exact x a u r
  · obtain ⟨_, q⟩ := x a _ r
    exact q
/-- what may be written -/
def Mut : Option HO → Prop
  | some (.lst _) => True
  | some (.dK _) => True
  | some (.dT _) => True
  | some (.set _ _) => True
  | some (.ins _ _ _) => True
  | some (.ext _) => True
  | _ => False
section
variable {P : Program} {w : World} {H : Hp} {h h' : Heap} {x e : Addr} {o' : HO}
/-- the object at e is changed: x itself, or the dict of the instance x -/
theorem HOk.write (ok : HOk P w H h) (mu : Mut (H x)) (he : e = x ∨ H e = some (.own x)) (k : ∀ b u, b ≠ e → h.get? b = some u → h'.get? b = some u) (heo : ∃ u, h'.get? e = some u)
    (new : ObjOk P w (upd H x o') h' x o') : HOk P w (upd H x o') h' := fun b u q => by
  have nown : ∀ c y, H c = some (.own y) → c ≠ x := fun c y r z => by subst z; rw [r] at mu; exact mu
  have ntup : ∀ c xs, H c = some (.tup xs) → c ≠ x := fun c xs r z => by subst z; rw [r] at mu; exact mu
  by_cases hb : b = x
  · subst hb; rw [upd_same] at q; cases q; exact new
  · rw [upd_ne hb] at q
    by_cases hbe : b = e
    · have q' : H b = some (.own x) := by
        rcases he with z | z
        · exact absurd (hbe.trans z) hb
        · rw [hbe]; exact z
      rw [q] at q'; cases q'
      obtain ⟨v, hv⟩ := heo
      exact ⟨v, by rw [hbe]; exact hv⟩
    · refine (ok b u q).stay (fun c v hc r => k c v ?_ r) (fun c r => by rw [upd_ne (nown c b r)]; exact r) fun c xs r => by rw [upd_ne (ntup c xs r)]; exact r
      rcases hc with rfl | hc
      · exact hbe
      · rintro rfl
        rcases he with z | z
        · exact nown c b hc z
        · rw [hc] at z; cases z; exact hb rfl
end
/-! ### kept unless tracked; of the frames at fs (the callers') the slots may change (an exception that passes writes there); of the records at ex (iterators) nothing is said -/
structure Un (fs ex : List Addr) (H H' : Hp) (h h' : Heap) : Prop where
  keep : ∀ b o, h.get? b = some o → H b = none → b ∉ fs → b ∉ ex → h'.get? b = some o
  slot : ∀ b o, h.get? b = some o → H b = none → b ∈ fs → b ∉ ex → ∃ sl, h'.get? b = some { o with slots := sl }
  free : ∀ b o, h.get? b = some o → H b = none → b ∉ ex → H' b = none
  there : ∀ b o, h.get? b = some o → b ∉ ex → ∃ o', h'.get? b = some o'
  tups : ∀ b xs, H b = some (.tup xs) → H' b = some (.tup xs)
  frzs : ∀ b o u, H b = some (.frz o u) → H' b = some (.frz o u)
  tbls : ∀ b ps, H b = some (.tbl ps) → ∃ more, H' b = some (.tbl (ps ++ more))
section
variable {fs fs' ex ex' : List Addr} {H H1 H2 : Hp} {h h1 h2 h' : Heap} {a x e : Addr} {o : HO}
theorem Un.any (u : Un fs ex H H1 h h1) {b : Addr} {ob : Obj} (q : h.get? b = some ob) (n : H b = none) (hx : b ∉ ex) : ∃ sl, h1.get? b = some { ob with slots := sl } := by
  by_cases hb : b ∈ fs
  · exact u.slot b ob q n hb hx
  · exact ⟨ob.slots, u.keep b ob q n hb hx⟩
theorem Un.kept (k : ∀ b u, h.get? b = some u → h'.get? b = some u) : Un fs ex H H h h' :=
  ⟨fun b ob q _ _ _ => k b ob q, fun b ob q _ _ _ => ⟨ob.slots, k b ob q⟩, fun _ _ _ n _ => n, fun b ob q _ => ⟨ob, k b ob q⟩, fun _ _ q => q, fun _ _ _ q => q, fun _ ps q => ⟨#[], by rw [q]; simp⟩⟩
theorem Un.refl : Un fs ex H H h h := Un.kept fun _ _ q => q
theorem Un.laid (k : ∀ b u, h.get? b = some u → h'.get? b = some u) (hp : h.objs.size ≤ a) (hn : H a = none) : Un fs ex H (upd H a o) h h' where
  keep := fun b u q _ _ _ => k b u q
  slot := fun b u q _ _ _ => ⟨u.slots, k b u q⟩
  free := fun b u q n _ => by rw [upd_ne (Nat.ne_of_lt (Nat.lt_of_lt_of_le (Heap.lt_size q) hp))]; exact n
  there := fun b u q _ => ⟨u, k b u q⟩
  tups := fun b xs q => by rw [upd_ne (ne_of_none q hn)]; exact q
  frzs := fun b u xs q => by rw [upd_ne (ne_of_none q hn)]; exact q
  tbls := fun b ps q => ⟨#[], by rw [upd_ne (ne_of_none q hn), q]; simp⟩
theorem Un.write (mu : Mut (H x)) (he : e = x ∨ H e = some (.own x)) (k : ∀ b u, b ≠ e → h.get? b = some u → h'.get? b = some u) (heo : ∃ u, h'.get? e = some u) : Un fs ex H (upd H x o) h h' := by
  have hx : ∀ b, H b = none → b ≠ x := fun b n z => by subst z; rw [n] at mu; exact mu
  have hb : ∀ b, H b = none → b ≠ e := fun b n z => by
    subst z
    rcases he with r | r
    · exact hx b n r
    · rw [n] at r; cases r
  have hm : ∀ b u, H b = some u → ¬ Mut (some u) → b ≠ x := fun b u q nm z => by subst z; rw [q] at mu; exact nm mu
  refine ⟨fun b u q n _ _ => k b u (hb b n) q, fun b u q n _ _ => ⟨u.slots, k b u (hb b n) q⟩, fun b u q n _ => by rw [upd_ne (hx b n)]; exact n, fun b u q _ => ?_,
    fun b xs q => by rw [upd_ne (hm b _ q fun z => z)]; exact q, fun b u xs q => by rw [upd_ne (hm b _ q fun z => z)]; exact q, fun b ps q => ⟨#[], by rw [upd_ne (hm b _ q fun z => z), q]; simp⟩⟩
  by_cases hbe : b = e
  · subst hbe; exact heo
  · exact ⟨u, k b u hbe q⟩
end
/-! ### the heap without what is tracked -/
def trk (h : Heap) (H : Hp) : List Addr := (List.range h.objs.size).filter fun a => (H a).isSome
def hidT (h : Heap) (H : Hp) : Heap := PySem.W.hideAll h (trk h H)
theorem hidT_size (h : Heap) (H : Hp) : (hidT h H).objs.size = h.objs.size := PySem.W.hideAll_size _ _
theorem hidT_get {h : Heap} {H : Hp} {b : Addr} {o : Obj} (e : h.get? b = some o) (n : H b = none) : (hidT h H).get? b = some o :=
  PySem.W.hideAll_get _ e fun hm => by
    have q : (H b).isSome = true := (List.mem_filter.mp hm).2
    rw [n] at q; simp at q
theorem of_hidT {h : Heap} {H : Hp} {b : Addr} {o : Obj} (e : (hidT h H).get? b = some o) : h.get? b = some o ∧ H b = none := by
  have e' : h.get? b = some o := PySem.W.of_hideAll (trk h H) e
  refine ⟨e', ?_⟩
  cases q : H b with
  | none => rfl
  | some x =>
    have hm : b ∈ trk h H := List.mem_filter.mpr ⟨List.mem_range.mpr (Heap.lt_size e'), by simp [q]⟩
    have z : (hidT h H).get? b = none := PySem.W.hideAll_none (trk h H) hm
    rw [z] at e; cases e
/-! ### OpenK's ledger, filled with every new object but one -/
def allNews (g h : Heap) (L : Addr) : List (Addr × Obj) := (List.range h.objs.size).filterMap fun a => if a = L ∨ (g.get? a).isSome = true then none else (h.get? a).map fun o => (a, o)
theorem mem_allNews {g h : Heap} {L a : Addr} {o : Obj} (h1 : a ≠ L) (h2 : g.get? a = none) (h3 : h.get? a = some o) : (a, o) ∈ allNews g h L :=
  List.mem_filterMap.mpr ⟨a, List.mem_range.mpr (Heap.lt_size h3), by simp [h1, h2, h3]⟩
theorem of_mem_allNews {g h : Heap} {L : Addr} {p : Addr × Obj} (hp : p ∈ allNews g h L) : p.1 ≠ L ∧ g.get? p.1 = none ∧ h.get? p.1 = some p.2 := by
  obtain ⟨b, _, e⟩ := List.mem_filterMap.mp hp
  split at e
  · cases e
  · rename_i hn
    cases q : h.get? b with
    | none => rw [q] at e; simp at e
    | some u =>
      rw [q] at e
      simp only [Option.map_some, Option.some.injEq] at e
      subst e
      refine ⟨fun z => hn (.inl z), ?_, q⟩
      show g.get? b = none
      cases r : g.get? b with
      | none => rfl
      | some v => exact (hn (.inr (by simp [r]))).elim
def rest (g h : Heap) (L d : Addr) : List (Addr × Obj) := (allNews g h L).filter fun p => decide (p.1 ≠ d)
theorem news_all {g h : Heap} {L : Addr} : News g L h (allNews g h L) := fun p hp => let ⟨a, b, c⟩ := of_mem_allNews hp; ⟨c, a, b⟩
end L2
namespace L2
open PySem PySem.Spec PyProof.Rows
/-- the module's facts, over the base: the heap at the law's entry without what is tracked there -/
structure Mod (K : PySem.W.Frag) (mg : Str → Option Value) (base : Heap) : Prop where
  kin : K.In base
  glob : base.Ns mainGlobals mg
  blt : ∃ mb, base.Ns builtinsNs mb ∧ ∀ x : Str, x ≠ "__name__" → mb x = bootBuiltins x
  nolimit : base.NoLimit
/-- the context: a def's body (or a comprehension's block) running. base: fixed through the whole law; s₀, H₀: the entry; outer: the frames whose slots others may change (a def's callers); stack: all frames that run;
   ex: iterators that were made ahead of the entry and are walked here (a comprehension's); fn: the names whose cells were made at the entry (a def: all; a comprehension's block: its own); calm: not within an except suite; pn: pins that every state bears; xe: what is wanted of an exception that leaves the code -/
structure Cx where
  prog : Program
  w : World
  K : PySem.W.Frag
  mg : Str → Option Value
  base : Heap
  A : Around
  N : List Str
  s₀ : Shared
  H₀ : Hp
  env : Env
  outer : List Env
  stack : List Env
  ex : List Addr
  fn : Str → Bool
  calm : Bool
  pn : List (Addr × Obj)
  xe : Value → Shared → Prop
/-- the callers' frames -/
def frs (l : List Env) : List Addr := l.filterMap (·.frame)
abbrev Cx.fs (X : Cx) : List Addr := frs X.outer
def Vis (sc : Scope) (x : Str) : Prop := sc.names.lookup x = some .local ∨ sc.names.lookup x = some .cell ∨ sc.names.lookup x = some .free
def Loc (sc : Scope) (x : Str) : Prop := sc.names.lookup x = some .local ∨ sc.names.lookup x = some .cell
def Look (env : Env) (h : Heap) (m : Str → Option Value) (x : Str) (u : Value) : Prop :=
  (env.kindOf x = some .local ∧ m x = some u) ∨ ((env.kindOf x = some .cell ∨ env.kindOf x = some .free) ∧ ∃ c, env.cells.lookup x = some c ∧ h.IsCell c (some u))
structure Cx.Ok (X : Cx) : Prop where
  mod : Mod X.K X.mg X.base
  kind : X.env.scope.kind = .function
  glob : X.env.globals = mainGlobals
  blt : X.env.builtins = builtinsNs
  above : X.s₀.heap.objs.size ≤ X.env.locals
  inj : ∀ x y c, X.env.cells.lookup x = some c → X.env.cells.lookup y = some c → x = y
  has : ∀ x, (X.env.kindOf x = some .cell ∨ X.env.kindOf x = some .free) → ∃ c, X.env.cells.lookup x = some c
  cab : ∀ x c, X.fn x = true → X.env.cells.lookup x = some c → X.s₀.heap.objs.size ≤ c
  hd : X.calm = true → X.A.handled = none
  frames : X.A.frames = some X.stack
  stk : X.stack = X.outer ∨ (X.stack = X.env :: X.outer ∧ X.env.frame = some X.env.locals)
  exf : ∀ b ∈ X.ex, b ≠ X.env.locals ∧ ∀ x c, X.env.cells.lookup x = some c → c ≠ b
  bs : ∀ b o, X.base.get? b = some o → X.s₀.heap.get? b = some o ∧ X.H₀ b = none
  bsz : X.base.objs.size ≤ X.s₀.heap.objs.size
  noex : ∀ b o, X.base.get? b = some o → b ∉ X.ex
  exfs : ∀ b ∈ X.ex, b ∉ X.fs
  funs : X.s₀.heap.FunFrames X.base X.outer
  frf : ∀ b ∈ X.fs, X.H₀ b = none
structure Inv (X : Cx) (pins : List (Addr × Obj)) (σ : List (Option V)) (H : Hp) (s : Shared) : Prop where
  ok : X.Ok
  os : s.os = X.s₀.os
  bare : AllBare s.gens
  base : Un X.fs X.ex X.H₀ H X.s₀.heap s.heap
  loc : ∃ m, s.heap.Ns X.env.locals m ∧ ∀ (i : Nat) (x : Str) (v : V), X.N[i]? = some x → σ[i]? = some (some v) → Vis X.env.scope x → ∃ u, RelV v u ∧ Look X.env s.heap m x u
  cell : ∀ x c, X.env.cells.lookup x = some c → ∃ v, s.heap.IsCell c v
  free : H X.env.locals = none
  freeC : ∀ x c, X.env.cells.lookup x = some c → H c = none
  pin : ∀ p ∈ X.pn ++ pins, s.heap.get? p.1 = some p.2 ∧ H p.1 = none ∧ p.1 ≠ X.env.locals ∧ p.1 ∉ X.fs ∧ ∀ v, p.2.data ≠ .cell v
  hok : HOk X.prog X.w H s.heap
  len : σ.length = X.N.length
section
variable {X : Cx} {pins : List (Addr × Obj)} {σ : List (Option V)} {H H' : Hp} {s : Shared} {h' : Heap}
theorem Cx.Ok.nofr (ok : X.Ok) {b : Addr} {o : Obj} (e : X.base.get? b = some o) : b ∉ X.fs := fun hb => by
  have := (ok.funs.mem hb).1
  rw [e] at this; cases this
theorem Inv.bs (I : Inv X pins σ H s) : ∀ b o, X.base.get? b = some o → s.heap.get? b = some o ∧ H b = none := fun b o e =>
  ⟨I.base.keep b o (I.ok.bs b o e).1 (I.ok.bs b o e).2 (I.ok.nofr e) (I.ok.noex b o e), I.base.free b o (I.ok.bs b o e).1 (I.ok.bs b o e).2 (I.ok.noex b o e)⟩
theorem Inv.bk (I : Inv X pins σ H s) : ∀ b o, X.base.get? b = some o → s.heap.get? b = some o := fun b o e => (I.bs b o e).1
theorem Inv.mod (I : Inv X pins σ H s) : Mod X.K X.mg X.base := I.ok.mod
theorem Inv.kIn (I : Inv X pins σ H s) : X.K.In s.heap := I.ok.mod.kin.keeps I.bk
/-- the frame over the base: for OpenK's rules (K.In X.base is I.mod.kin) -/
theorem Inv.fr (I : Inv X pins σ H s) : ∃ m, Fr X.base X.env.locals s.heap m :=
  let ⟨m, hn, _⟩ := I.loc
  ⟨m, hn, I.bk, Nat.le_trans I.ok.bsz I.ok.above⟩
theorem Inv.lt (I : Inv X pins σ H s) : X.env.locals < s.heap.objs.size := let ⟨_, hn, _⟩ := I.loc; hn.lt
theorem Inv.sz (I : Inv X pins σ H s) : X.s₀.heap.objs.size ≤ s.heap.objs.size := Nat.le_trans I.ok.above (Nat.le_of_lt I.lt)
theorem Inv.nofs (I : Inv X pins σ H s) {a : Addr} (h : s.heap.objs.size ≤ a) : a ∉ X.fs := fun hb => by
  obtain ⟨_, o, ho, _⟩ := I.ok.funs.mem hb
  exact absurd (Nat.lt_of_lt_of_le (Heap.lt_size ho) (Nat.le_trans I.sz h)) (Nat.lt_irrefl _)
theorem Inv.cne (I : Inv X pins σ H s) : ∀ x c, X.env.cells.lookup x = some c → c ≠ X.env.locals := fun x c e z => by
  obtain ⟨v, o, ho, hd⟩ := I.cell x c e
  obtain ⟨m, ⟨o', es, ep, ho', hd', _⟩, _⟩ := I.loc
  rw [z, ho'] at ho; cases ho; rw [hd'] at hd; cases hd
theorem Inv.funs (I : Inv X pins σ H s) : s.heap.FunFrames X.base X.outer := by
  have all : ∀ (l : List Env), (∀ b ∈ frs l, b ∈ X.fs) → X.s₀.heap.FunFrames X.base l → s.heap.FunFrames X.base l := by
    intro l
    induction l with
    | nil => intro _ _; trivial
    | cons env r ih =>
      intro hs hl
      obtain ⟨hk, ⟨L, o, hf, hn, ho, hd⟩, hr⟩ := hl
      have hL : L ∈ X.fs := hs L (by unfold frs; rw [List.filterMap_cons, hf]; exact List.mem_cons_self)
      obtain ⟨sl, e⟩ := I.base.slot L o ho (I.ok.frf L hL) hL fun z => I.ok.exfs L z hL
      exact ⟨hk, ⟨L, _, hf, hn, e, hd⟩, ih (fun b hb => hs b (by unfold frs; rw [List.filterMap_cons, hf]; exact List.mem_cons_of_mem _ hb)) hr⟩
  exact all X.outer (fun _ hb => hb) I.ok.funs
/-- the frames that run, for a call -/
theorem Inv.stack (I : Inv X pins σ H s) : s.heap.FunFrames X.base X.stack := by
  rcases I.ok.stk with e | ⟨e, hf⟩
  · rw [e]; exact I.funs
  · rw [e]
    obtain ⟨m, hn, _⟩ := I.loc
    refine .cons (by rw [I.ok.kind]; decide) hf hn ?_ I.funs
    exact Heap.get?_none_of_le (Nat.le_trans I.ok.bsz I.ok.above)
theorem Inv.stkSub (I : Inv X pins σ H s) : ∀ b ∈ frs X.stack, b ∈ X.env.locals :: X.fs := fun b hb => by
  rcases I.ok.stk with e | ⟨e, hf⟩
  · rw [e] at hb; exact List.mem_cons_of_mem _ hb
  · rw [e] at hb
    unfold frs at hb
    rw [List.filterMap_cons, hf] at hb
    exact hb
theorem Inv.stkFree (I : Inv X pins σ H s) : ∀ b ∈ frs X.stack, H b = none := fun b hb => by
  rcases List.mem_cons.mp (I.stkSub b hb) with e | hb
  · rw [e]; exact I.free
  · obtain ⟨_, o, ho, _⟩ := I.ok.funs.mem hb
    exact I.base.free b o ho (I.ok.frf b hb) fun z => I.ok.exfs b z hb
/-- THE STEP: the untracked objects but the frame and the records at ch are kept (the callers' frames up to slots), the frame's map is kept, the new abstract heap is held -/
theorem Inv.step {g' : Array GenState} {t' : Nat} {d' : Drawn} {ch : List Addr} (I : Inv X pins σ H s)
    (hch : ∀ b ∈ ch, (b ∈ X.ex ∨ X.s₀.heap.objs.size ≤ b) ∧ b ≠ X.env.locals ∧ (∀ x c, X.env.cells.lookup x = some c → c ≠ b) ∧ ∀ p ∈ X.pn ++ pins, p.1 ≠ b)
    (keep : ∀ b o, b ≠ X.env.locals → b ∉ X.fs → b ∉ ch → s.heap.get? b = some o → H b = none → h'.get? b = some o)
    (slot : ∀ b o, b ≠ X.env.locals → b ∈ X.fs → b ∉ ch → s.heap.get? b = some o → H b = none → ∃ sl, h'.get? b = some { o with slots := sl }) (free : ∀ b o, b ∉ ch → s.heap.get? b = some o → H b = none → H' b = none)
    (there : ∀ b o, b ∉ ch → s.heap.get? b = some o → ∃ o', h'.get? b = some o')
    (tups : ∀ b xs, H b = some (.tup xs) → H' b = some (.tup xs)) (frzs : ∀ b o u, H b = some (.frz o u) → H' b = some (.frz o u)) (tbls : ∀ b ps, H b = some (.tbl ps) → ∃ more, H' b = some (.tbl (ps ++ more)))
    (ns : ∀ m, s.heap.Ns X.env.locals m → h'.Ns X.env.locals m) (hok : HOk X.prog X.w H' h') (hg : AllBare g') :
    Inv X pins σ H' { s with heap := h', gens := g', drawn := d', toks := t' } := by
  have neL : ∀ b o, X.s₀.heap.get? b = some o → b ≠ X.env.locals := fun b o e => Nat.ne_of_lt (Nat.lt_of_lt_of_le (Heap.lt_size e) I.ok.above)
  have neC : ∀ b o, X.s₀.heap.get? b = some o → b ∉ X.ex → b ∉ ch := fun b o e hx hb => by
    rcases (hch b hb).1 with z | z
    · exact hx z
    · exact absurd (Nat.lt_of_lt_of_le (Heap.lt_size e) z) (Nat.lt_irrefl _)
  have cellK : ∀ x c, X.env.cells.lookup x = some c → ∀ v, s.heap.IsCell c v → h'.IsCell c v := fun x c e v ⟨o, ho, hd⟩ => by
    have nch : c ∉ ch := fun z => (hch c z).2.2.1 x c e rfl
    by_cases hc : c ∈ X.fs
    · obtain ⟨sl, q⟩ := slot c o (I.cne x c e) hc nch ho (I.freeC x c e)
      exact ⟨_, q, hd⟩
    · exact ⟨o, keep c o (I.cne x c e) hc nch ho (I.freeC x c e), hd⟩
  refine ⟨I.ok, I.os, hg, ⟨fun b o e n hb hx => ?_, fun b o e n hb hx => ?_, fun b o e n hx => ?_, fun b o e hx => ?_, fun b xs e => tups b xs (I.base.tups b xs e), fun b o xs e => frzs b o xs (I.base.frzs b o xs e), fun b ps e => ?_⟩, ?_, fun x c e => ?_, ?_, fun x c e => ?_, fun p hp => ?_, hok, I.len⟩
  · exact keep b o (neL b o e) hb (neC b o e hx) (I.base.keep b o e n hb hx) (I.base.free b o e n hx)
  · obtain ⟨sl, e1⟩ := I.base.slot b o e n hb hx
    obtain ⟨sl', e2⟩ := slot b _ (neL b o e) hb (neC b o e hx) e1 (I.base.free b o e n hx)
    exact ⟨sl', e2⟩
  · obtain ⟨o', e1⟩ := I.base.there b o e hx
    exact free b o' (neC b o e hx) e1 (I.base.free b o e n hx)
  · obtain ⟨o', e1⟩ := I.base.there b o e hx
    exact there b o' (neC b o e hx) e1
  · obtain ⟨m1, e1⟩ := I.base.tbls b ps e
    obtain ⟨m2, e2⟩ := tbls b _ e1
    exact ⟨m1 ++ m2, by rw [e2, Array.append_assoc]⟩
  · obtain ⟨m, hn, hl⟩ := I.loc
    refine ⟨m, ns m hn, fun i x v e1 e2 e3 => ?_⟩
    obtain ⟨u, r, l⟩ := hl i x v e1 e2 e3
    refine ⟨u, r, ?_⟩
    rcases l with l | ⟨k, c, e, z⟩
    · exact .inl l
    · exact .inr ⟨k, c, e, cellK x c e _ z⟩
  · obtain ⟨v, z⟩ := I.cell x c e
    exact ⟨v, cellK x c e v z⟩
  · obtain ⟨m, ⟨o, _, _, ho, _⟩, _⟩ := I.loc
    exact free _ o (fun z => (hch _ z).2.1 rfl) ho I.free
  · obtain ⟨v, o, ho, hd⟩ := I.cell x c e
    exact free c o (fun z => (hch c z).2.2.1 x c e rfl) ho (I.freeC x c e)
  · obtain ⟨e, n, ne, nf, d⟩ := I.pin p hp
    have nch : p.1 ∉ ch := fun z => (hch p.1 z).2.2.2 p hp rfl
    exact ⟨keep p.1 p.2 ne nf nch e n, free p.1 p.2 nch e n, ne, nf, d⟩
/-- .. where the frame's own object is kept too -/
theorem Inv.un {t' : Nat} (I : Inv X pins σ H s) (u : Un X.fs [] H H' s.heap h') (hok : HOk X.prog X.w H' h') : Inv X pins σ H' { s with heap := h', toks := t' } := by
  obtain ⟨m, ⟨o, es, ep, ho, r⟩, _⟩ := id I.loc
  obtain ⟨sl, hL⟩ := u.any ho I.free (by simp)
  exact I.step (g' := s.gens) (d' := s.drawn) (ch := []) (fun _ z => nomatch z) (fun b o _ hb _ e n => u.keep b o e n hb (by simp)) (fun b o _ hb _ e n => u.slot b o e n hb (by simp)) (fun b o _ e n => u.free b o e n (by simp)) (fun b o _ e => u.there b o e (by simp)) u.tups u.frzs u.tbls (fun m' hm => by
    obtain ⟨o', es', ep', ho', r'⟩ := hm
    rw [ho] at ho'; cases ho'
    exact ⟨_, es', ep', hL, r'⟩) hok I.bare
/-- behind a call (or a comprehension's block): the slots of this frame may have changed too, the records at ch may have turned -/
theorem Inv.call {g' : Array GenState} {t' : Nat} {d' : Drawn} {ch : List Addr} (I : Inv X pins σ H s) (u : Un (frs X.stack) ch H H' s.heap h') (hok : HOk X.prog X.w H' h') (hg : AllBare g')
    (hch : ∀ b ∈ ch, (b ∈ X.ex ∨ X.s₀.heap.objs.size ≤ b) ∧ b ≠ X.env.locals ∧ (∀ x c, X.env.cells.lookup x = some c → c ≠ b) ∧ ∀ p ∈ X.pn ++ pins, p.1 ≠ b) :
    Inv X pins σ H' { s with heap := h', gens := g', drawn := d', toks := t' } := by
  obtain ⟨m, ⟨o, es, ep, ho, r⟩, _⟩ := id I.loc
  obtain ⟨sl, hL⟩ := u.any ho I.free fun z => (hch _ z).2.1 rfl
  exact I.step (ch := ch) hch (fun b o hL hb hc e n => u.keep b o e n (fun z => (List.mem_cons.mp (I.stkSub b z)).elim hL hb) hc) (fun b o _ _ hc e n => u.any e n hc) (fun b o hc e n => u.free b o e n hc) (fun b o hc e => u.there b o e hc) u.tups u.frzs u.tbls (fun m' hm => by
    obtain ⟨o', es', ep', ho', r'⟩ := hm
    rw [ho] at ho'; cases ho'
    exact ⟨_, es', ep', hL, r'⟩) hok hg
/-- an untracked record of ours (an iterator) has turned -/
theorem Inv.turned {t' : Nat} {it : Addr} (I : Inv X pins σ H s) (k : ∀ b o, b ≠ it → s.heap.get? b = some o → h'.get? b = some o) (hn : H it = none) (hL : it ≠ X.env.locals)
    (h1 : it ∈ X.ex ∨ X.s₀.heap.objs.size ≤ it) (h2 : ∀ x c, X.env.cells.lookup x = some c → c ≠ it) (h3 : ∀ p ∈ X.pn ++ pins, p.1 ≠ it) : Inv X pins σ H { s with heap := h', toks := t' } := by
  have nit : ∀ b u, H b = some u → b ≠ it := fun b u e z => by rw [z, hn] at e; cases e
  refine I.step (g' := s.gens) (d' := s.drawn) (ch := [it]) (fun b hb => ?_) (fun b o _ _ hc e _ => k b o (fun z => hc (by simp [z])) e) (fun b o _ _ hc e _ => ⟨o.slots, k b o (fun z => hc (by simp [z])) e⟩) (fun _ _ _ _ n => n)
    (fun b o hc e => ⟨o, k b o (fun z => hc (by simp [z])) e⟩) (fun _ _ e => e) (fun _ _ _ e => e) (fun b ps e => ⟨#[], by rw [e]; simp⟩) (fun m hm => ?_) (fun b u e => ?_) I.bare
  · have e : b = it := by simpa using hb
    subst e
    exact ⟨h1, hL, h2, h3⟩
  · obtain ⟨o, es, ep, ho, r⟩ := hm
    exact ⟨o, es, ep, k _ o (Ne.symm hL) ho, r⟩
  · refine (I.hok b u e).stay (fun c v hc q => k c v ?_ q) (fun _ q => q) fun _ _ q => q
    rcases hc with z | z
    · rw [z]; exact nit b u e
    · exact nit c _ z
theorem Inv.tok (I : Inv X pins σ H s) (t : Nat) : Inv X pins σ H { s with toks := t } := I.un (h' := s.heap) (t' := t) Un.refl I.hok
/-- all objects kept -/
theorem Inv.kept {t' : Nat} (I : Inv X pins σ H s) (k : ∀ b u, s.heap.get? b = some u → h'.get? b = some u) : Inv X pins σ H { s with heap := h', toks := t' } := I.un (Un.kept k) (I.hok.kept k)
/-- a new object laid and tracked -/
theorem Inv.laid {a : Addr} {o : HO} {t' : Nat} (I : Inv X pins σ H s) (k : ∀ b u, s.heap.get? b = some u → h'.get? b = some u) (hp : s.heap.objs.size ≤ a) (new : ObjOk X.prog X.w (upd H a o) h' a o) :
    Inv X pins σ (upd H a o) { s with heap := h', toks := t' } := I.un (Un.laid k hp (I.hok.fresh hp)) (I.hok.laid k hp new)
/-- an object written -/
theorem Inv.write {x e : Addr} {o : HO} {t' : Nat} (I : Inv X pins σ H s) (mu : Mut (H x)) (he : e = x ∨ H e = some (.own x)) (k : ∀ b u, b ≠ e → s.heap.get? b = some u → h'.get? b = some u) (heo : ∃ u, h'.get? e = some u)
    (new : ObjOk X.prog X.w (upd H x o) h' x o) : Inv X pins σ (upd H x o) { s with heap := h', toks := t' } := I.un (Un.write mu he k heo) (I.hok.write mu he k heo new)
theorem Inv.pins_of {pins' : List (Addr × Obj)} (I : Inv X pins σ H s) (h : ∀ p ∈ pins', s.heap.get? p.1 = some p.2 ∧ H p.1 = none ∧ p.1 ≠ X.env.locals ∧ p.1 ∉ X.fs ∧ ∀ v, p.2.data ≠ .cell v) : Inv X pins' σ H s :=
  ⟨I.ok, I.os, I.bare, I.base, I.loc, I.cell, I.free, I.freeC, fun p hp => (List.mem_append.mp hp).elim (fun z => I.pin p (List.mem_append_left _ z)) (h p), I.hok, I.len⟩
theorem nodup_ix {N : List Str} (hN : N.Nodup) {i j : Nat} {x : Str} (a : N[i]? = some x) (b : N[j]? = some x) : i = j := by
  obtain ⟨h1, e1⟩ := List.getElem?_eq_some_iff.mp a
  obtain ⟨h2, e2⟩ := List.getElem?_eq_some_iff.mp b
  exact (List.getElem_inj hN).mp (e1.trans e2.symm)
/-- a name is stored; what changed -/
theorem store_ok2 {M : Model} {A : Around} {E : Value → Shared → Prop} {i : Nat} {x : Str} {v : V} {u : Value} {Q : Unit → Shared → Prop} (I : Inv X pins σ H s) (hN : X.N.Nodup) (hi : X.N[i]? = some x) (hx : Loc X.env.scope x) (r : RelV v u)
    (h : ∀ s', Inv X pins (σ.set i (some v)) H s' → (∃ a, Heap.SameBut a s.heap s'.heap ∧ (a = X.env.locals ∨ X.env.cells.lookup x = some a)) → Q () s') (hf : X.fn x = true ∨ X.env.scope.names.lookup x = some .local := by first | exact .inl rfl | exact .inr rfl | assumption) : wpAny M A (storeName X.env x u) Q E s := by
  obtain ⟨m, hn, hl⟩ := id I.loc
  have hcls : (X.env.scope.kind == .class || (X.env.scope.kind == .module && X.env.locals != X.env.globals)) = false := by rw [I.ok.kind]; rfl
  have hiσ : i < σ.length := by rw [I.len]; exact (List.getElem?_eq_some_iff.mp hi).1
  have cne := I.cne
  have tracked : ∀ {a : Addr} {h' : Heap}, (∃ o, s.heap.get? a = some o ∧ H a = none) → Heap.SameBut a s.heap h' → HOk X.prog X.w H h' := fun {a h'} ha hs b ob e => by
    obtain ⟨_, _, hfree⟩ := ha
    refine (I.hok b ob e).stay (fun c w' hc q => (hs.2 c ?_).trans q) (fun _ q => q) fun _ _ q => q
    rintro rfl
    rcases hc with rfl | hc
    · rw [hfree] at e; cases e
    · rw [hfree] at hc; cases hc
  rcases hx with hk | hk
  · refine wpAny_storeName_local hk hn (fun h' hn' hs => ?_) hcls
    obtain ⟨oL, _, _, hoL, _⟩ := id hn
    refine h _ ⟨I.ok, I.os, I.bare, ⟨fun b o e n hb hx => ?_, fun b o e n hb hx => ?_, I.base.free, fun b o e hx => ?_, I.base.tups, I.base.frzs, I.base.tbls⟩, ⟨_, hn', fun j y v' e1 e2 e3 => ?_⟩, fun y c e => ?_, I.free, I.freeC, fun p hp => ?_, tracked ⟨oL, hoL, I.free⟩ hs, by simpa using I.len⟩ ⟨_, hs, .inl rfl⟩
    · exact (hs.2 b (Nat.ne_of_lt (Nat.lt_of_lt_of_le (Heap.lt_size e) I.ok.above))).trans (I.base.keep b o e n hb hx)
    · obtain ⟨sl, e1⟩ := I.base.slot b o e n hb hx
      exact ⟨sl, (hs.2 b (Nat.ne_of_lt (Nat.lt_of_lt_of_le (Heap.lt_size e) I.ok.above))).trans e1⟩
    · obtain ⟨o', e1⟩ := I.base.there b o e hx
      exact ⟨o', (hs.2 b (Nat.ne_of_lt (Nat.lt_of_lt_of_le (Heap.lt_size e) I.ok.above))).trans e1⟩
    · by_cases hj : j = i
      · subst hj
        rw [hi] at e1; cases e1
        rw [List.getElem?_set_self hiσ] at e2
        cases e2
        exact ⟨u, r, .inl ⟨hk, by simp⟩⟩
      · rw [List.getElem?_set_ne (Ne.symm hj)] at e2
        obtain ⟨u', r', q⟩ := hl j y v' e1 e2 e3
        refine ⟨u', r', ?_⟩
        rcases q with ⟨k, e⟩ | ⟨k, c, e, z⟩
        · refine .inl ⟨k, ?_⟩
          have : y ≠ x := fun e => hj (nodup_ix hN e1 (e ▸ hi))
          simp [this, e]
        · exact .inr ⟨k, c, e, z.sameBut hs (cne y c e)⟩
    · obtain ⟨w', z⟩ := I.cell y c e
      exact ⟨w', z.sameBut hs (cne y c e)⟩
    · obtain ⟨e, n, ne, nf, d⟩ := I.pin p hp
      exact ⟨(hs.2 p.1 ne).trans e, n, ne, nf, d⟩
  · have hfn : X.fn x = true := by
      rcases hf with z | z
      · exact z
      · rw [z] at hk; cases hk
    obtain ⟨c, hc⟩ := I.ok.has x (.inl hk)
    obtain ⟨w', z⟩ := I.cell x c hc
    refine wpAny_storeName_cell I.ok.kind hk hc z (fun h' hc' hs => ?_)
    obtain ⟨oc, hoc, hocd⟩ := id z
    refine h { s with heap := h' } ⟨I.ok, I.os, I.bare, ⟨fun b o e n hb hx => ?_, fun b o e n hb hx => ?_, I.base.free, fun b o e hx => ?_, I.base.tups, I.base.frzs, I.base.tbls⟩, ⟨m, hn.sameBut hs (Ne.symm (cne x c hc)), fun j y v' e1 e2 e3 => ?_⟩, fun y c' e => ?_, I.free, I.freeC, fun p hp => ?_, tracked ⟨oc, hoc, I.freeC x c hc⟩ hs, by simpa using I.len⟩ ⟨c, hs, .inr hc⟩
    · exact (hs.2 b (Nat.ne_of_lt (Nat.lt_of_lt_of_le (Heap.lt_size e) (I.ok.cab x c hfn hc)))).trans (I.base.keep b o e n hb hx)
    · obtain ⟨sl, e1⟩ := I.base.slot b o e n hb hx
      exact ⟨sl, (hs.2 b (Nat.ne_of_lt (Nat.lt_of_lt_of_le (Heap.lt_size e) (I.ok.cab x c hfn hc)))).trans e1⟩
    · obtain ⟨o', e1⟩ := I.base.there b o e hx
      exact ⟨o', (hs.2 b (Nat.ne_of_lt (Nat.lt_of_lt_of_le (Heap.lt_size e) (I.ok.cab x c hfn hc)))).trans e1⟩
    · by_cases hj : j = i
      · subst hj
        rw [hi] at e1; cases e1
        rw [List.getElem?_set_self hiσ] at e2
        cases e2
        exact ⟨u, r, .inr ⟨.inl hk, c, hc, hc'⟩⟩
      · rw [List.getElem?_set_ne (Ne.symm hj)] at e2
        obtain ⟨u', r', q⟩ := hl j y v' e1 e2 e3
        refine ⟨u', r', ?_⟩
        rcases q with q | ⟨k, c', e, z'⟩
        · exact .inl q
        · refine .inr ⟨k, c', e, z'.sameBut hs ?_⟩
          rintro rfl
          exact hj (nodup_ix hN e1 (I.ok.inj _ _ _ e hc ▸ hi))
    · by_cases hcc : c' = c
      · subst hcc; exact ⟨_, hc'⟩
      · obtain ⟨w2, z2⟩ := I.cell y c' e
        exact ⟨w2, z2.sameBut hs hcc⟩
    · obtain ⟨e, n, ne, nf, d⟩ := I.pin p hp
      refine ⟨(hs.2 p.1 ?_).trans e, n, ne, nf, d⟩
      intro q
      rw [q, hoc] at e
      have q' : oc = p.2 := Option.some.inj e
      exact d w' (by rw [← q']; exact hocd)
theorem store_ok {M : Model} {A : Around} {E : Value → Shared → Prop} {i : Nat} {x : Str} {v : V} {u : Value} {Q : Unit → Shared → Prop} (I : Inv X pins σ H s) (hN : X.N.Nodup) (hi : X.N[i]? = some x) (hx : Loc X.env.scope x) (r : RelV v u)
    (h : ∀ s', Inv X pins (σ.set i (some v)) H s' → Q () s') (hf : X.fn x = true ∨ X.env.scope.names.lookup x = some .local := by first | exact .inl rfl | exact .inr rfl | assumption) : wpAny M A (storeName X.env x u) Q E s :=
  store_ok2 I hN hi hx r (fun s' I' _ => h s' I') hf
/-- behind a call or a block, the state as it is -/
theorem Inv.call' {s' : Shared} {ch : List Addr} (I : Inv X pins σ H s) (ho : s'.os = s.os) (u : Un (frs X.stack) ch H H' s.heap s'.heap) (hok : HOk X.prog X.w H' s'.heap) (hg : AllBare s'.gens)
    (hch : ∀ b ∈ ch, (b ∈ X.ex ∨ X.s₀.heap.objs.size ≤ b) ∧ b ≠ X.env.locals ∧ (∀ x c, X.env.cells.lookup x = some c → c ≠ b) ∧ ∀ p ∈ X.pn ++ pins, p.1 ≠ b) : Inv X pins σ H' s' := by
  obtain ⟨h', g', d', t', o'⟩ := s'
  have e : o' = s.os := ho
  subst e
  exact I.call (g' := g') (t' := t') (d' := d') u hok hg hch
end
/-! ### the judgements -/
/-- an exception: its class, its own dict's address (where it has one), the abstract heap behind it -/
abbrev XK := Value → Option Addr → Hp → Prop
abbrev St := List (Option V)
abbrev VK := V → Hp → Prop
/-- an expression's reading; a test's; an argument list's -/
abbrev TE := St → Hp → VK → Prop
abbrev TT := St → Hp → (Bool → Hp → Prop) → Prop
abbrev TA := St → Hp → (List V → Hp → Prop) → Prop
/-- what is wanted behind a statement -/
structure Ends where
  nx : St → Hp → Prop
  rt : VK
  bk : St → Hp → Prop := fun _ _ => False
  ct : St → Hp → Prop := fun _ _ => False
abbrev TS := Ends → St → Hp → Prop
def EP (X : Cx) (pins : List (Addr × Obj)) (σ : St) (Q : VK) (u : Value) (s' : Shared) : Prop := ∃ v H', Inv X pins σ H' s' ∧ RelV v u ∧ Q v H'
def TP (X : Cx) (pins : List (Addr × Obj)) (σ : St) (Q : Bool → Hp → Prop) (b : Bool) (s' : Shared) : Prop := ∃ H', Inv X pins σ H' s' ∧ Q b H'
def AP (X : Cx) (pins : List (Addr × Obj)) (σ : St) (Q : List V → Hp → Prop) (us : List Value) (s' : Shared) : Prop := ∃ vs H', Inv X pins σ H' s' ∧ Vals vs us ∧ Q vs H'
def SP (X : Cx) (pins : List (Addr × Obj)) (D : Ends) (f : Flow) (s' : Shared) : Prop :=
  match f with
  | .next => ∃ σ' H', Inv X pins σ' H' s' ∧ D.nx σ' H'
  | .brk => ∃ σ' H', Inv X pins σ' H' s' ∧ D.bk σ' H'
  | .cont => ∃ σ' H', Inv X pins σ' H' s' ∧ D.ct σ' H'
  | .ret u => ∃ v σ' H', Inv X pins σ' H' s' ∧ RelV v u ∧ D.rt v H'
def PE (X : Cx) (e : Expr) (t : TE) : Prop :=
  ∀ (pins : List (Addr × Obj)) (s : Shared) (σ : St) (H : Hp) (Q : VK), Inv X pins σ H s → t σ H Q → wpAny (model X.prog X.w) X.A (eval e X.env) (EP X pins σ Q) X.xe s
def PT (X : Cx) (e : Expr) (t : TT) : Prop :=
  ∀ (pins : List (Addr × Obj)) (s : Shared) (σ : St) (H : Hp) (Q : Bool → Hp → Prop), Inv X pins σ H s → t σ H Q → wpAny (model X.prog X.w) X.A (isTrue e X.env (eval e X.env)) (TP X pins σ Q) X.xe s
/-- a test whatever its 'whole' is (and, or) -/
def PW (X : Cx) (e : Expr) (t : TT) : Prop :=
  ∀ (whole : Sem Value) (pins : List (Addr × Obj)) (s : Shared) (σ : St) (H : Hp) (Q : Bool → Hp → Prop), Inv X pins σ H s → t σ H Q → wpAny (model X.prog X.w) X.A (isTrue e X.env whole) (TP X pins σ Q) X.xe s
theorem PW.pt {X : Cx} {e : Expr} {t : TT} (h : PW X e t) : PT X e t := h _
/-- an argument list (no star), from the left -/
def PA (X : Cx) (es : List Expr) (t : TA) : Prop :=
  ∀ (pos : Pos) (pins : List (Addr × Obj)) (s : Shared) (σ : St) (H : Hp) (Q : List V → Hp → Prop), Inv X pins σ H s → t σ H Q → wpAny (model X.prog X.w) X.A (spliced (backTo pos (starEach es X.env))) (AP X pins σ Q) X.xe s
def PS (X : Cx) (st : Stmt) (t : TS) : Prop :=
  ∀ (pins : List (Addr × Obj)) (s : Shared) (σ : St) (H : Hp) (D : Ends), Inv X pins σ H s → t D σ H → wpAny (model X.prog X.w) X.A (exec st X.env) (SP X pins D) X.xe s
def PSs (X : Cx) (st : List Stmt) (t : TS) : Prop :=
  ∀ (pins : List (Addr × Obj)) (s : Shared) (σ : St) (H : Hp) (D : Ends), Inv X pins σ H s → t D σ H → wpAny (model X.prog X.w) X.A (execs st X.env) (SP X pins D) X.xe s
/-- weaken the end -/
theorem thn {α : Type} {t : Sem α} {Q Q' : α → Shared → Prop} {M : Model} {A : Around} {E : Value → Shared → Prop} {s : Shared} (h : wpAny M A t Q E s) (hQ : ∀ a s, Q a s → Q' a s) : wpAny M A t Q' E s := wpAny_mono h hQ fun _ _ x => x
end L2
namespace L2
open PySem PySem.Spec PyProof.Rows
section
variable {X : Cx}
/-! ### names and constants -/
def tVar (i : Nat) : TE := fun σ H Q => ∃ v, σ[i]? = some (some v) ∧ Q v H
def tC (v : V) : TE := fun _ H Q => Q v H
theorem pe_var {i : Nat} {x : Str} {pos : Pos} (hN : X.N[i]? = some x) (hv : Vis X.env.scope x) (hd : (x == ("__debug__" : Str)) = false := by decide) (hcd : (x == ("__classdict__" : Str)) = false := by decide) : PE X (.Name x pos) (tVar i) := by
  intro pins s σ H Q I h
  obtain ⟨v, e, h⟩ := h
  obtain ⟨m, hn, hl⟩ := I.loc
  obtain ⟨u, r, l⟩ := hl i x v hN e hv
  have fin : EP X pins σ Q u s := ⟨v, H, I, r, h⟩
  rcases l with ⟨hk, hm⟩ | ⟨hk, c, hc, hcell⟩
  · exact wpAny_Name (wpAny_loadName_local I.ok.kind hk hn hm fin) hd
  · rcases hk with hk | hk
    · exact wpAny_Name (wpAny_loadName_cell I.ok.kind hk hc hcell fin) hd
    · exact wpAny_Name (wpAny_loadName_free I.ok.kind hk hc hcell fin hcd) hd
theorem pe_int {i j pos} : PE X (.Constant (.int i) j pos) (tC (.int i)) := fun _ _ _ H _ I h => wpAny_Constant_int ⟨.int i, H, I.tok _, ⟨_, rfl⟩, h⟩
theorem pe_bl {b j pos} : PE X (.Constant (.bool b) j pos) (tC (.bl b)) := fun _ _ _ H _ I h => Constant_bool ⟨.bl b, H, I, rfl, h⟩
/-- a global name of the def -/
def Gl (X : Cx) (x : Str) : Prop := X.env.kindOf x = some .globalImplicit
theorem ld_glob {E : Value → Shared → Prop} {pins : List (Addr × Obj)} {s : Shared} {σ : St} {H : Hp} {x : Str} {u : Value} {pos : Pos} {Q : Value → Shared → Prop} (I : Inv X pins σ H s) (hg : Gl X x) (hm : X.mg x = some u) (h : Q u s)
    (hd : (x == ("__debug__" : Str)) = false := by decide) : wpAny (model X.prog X.w) X.A (eval (.Name x pos) X.env) Q E s :=
  Calls.Name_function_global I.ok.kind hg (Calls.loadGlobal_global (by rw [I.ok.glob]; exact I.mod.glob.keeps I.bk) hm h) hd
theorem ld_blt {E : Value → Shared → Prop} {pins : List (Addr × Obj)} {s : Shared} {σ : St} {H : Hp} {x : Str} {u : Value} {pos : Pos} {Q : Value → Shared → Prop} (I : Inv X pins σ H s) (hg : Gl X x) (hm : X.mg x = none) (hv : bootBuiltins x = some u) (h : Q u s)
    (hn : x ≠ "__name__" := by decide) (hd : (x == ("__debug__" : Str)) = false := by decide) : wpAny (model X.prog X.w) X.A (eval (.Name x pos) X.env) Q E s := by
  obtain ⟨mb, h1, h2⟩ := I.mod.blt
  exact Calls.Name_function_global I.ok.kind hg (Calls.loadGlobal_builtin (by rw [I.ok.glob]; exact I.mod.glob.keeps I.bk) hm (by rw [I.ok.blt]; exact h1.keeps I.bk) ((h2 x hn).trans hv) h) hd
/-- a module's constant, a class, a function, as a value -/
theorem pe_glob {x : Str} {v : V} {u : Value} {pos : Pos} (hg : Gl X x) (hm : X.mg x = some u) (r : RelV v u) (hd : (x == ("__debug__" : Str)) = false := by decide) : PE X (.Name x pos) (tC v) :=
  fun _ _ _ H _ I h => ld_glob I hg hm ⟨v, H, I, r, h⟩ hd
theorem pe_bltn {x : Str} {v : V} {u : Value} {pos : Pos} (hg : Gl X x) (hm : X.mg x = none) (hv : bootBuiltins x = some u) (r : RelV v u) (hn : x ≠ "__name__" := by decide) (hd : (x == ("__debug__" : Str)) = false := by decide) : PE X (.Name x pos) (tC v) :=
  fun _ _ _ H _ I h => ld_blt I hg hm hv ⟨v, H, I, r, h⟩ hn hd
/-! ### arithmetic -/
/-- two ints -/
def t2I (ta tb : TE) (k : Int → Int → Hp → Prop) : St → Hp → Prop := fun σ H => ta σ H fun x H1 => tb σ H1 fun y H2 => ∃ i j, x = .int i ∧ y = .int j ∧ k i j H2
def tAdd (ta tb : TE) : TE := fun σ H Q => t2I ta tb (fun i j H2 => Q (.int (i + j)) H2) σ H
def tSub (ta tb : TE) : TE := fun σ H Q => t2I ta tb (fun i j H2 => Q (.int (i - j)) H2) σ H
/-- the left factor below 2^64 -/
def tMul (ta tb : TE) : TE := fun σ H Q => t2I ta tb (fun i j H2 => (-(2 ^ 64) < i ∧ i < 2 ^ 64) ∧ Q (.int (i * j)) H2) σ H
variable {a b : Expr} {ta tb : TE} {pos : Pos}
/-! ### comparisons -/
def PC (X : Cx) (op : CmpOp) (a b : Expr) (t : TE) : Prop :=
  ∀ (pins : List (Addr × Obj)) (s : Shared) (σ : St) (H : Hp) (Q : VK), Inv X pins σ H s → t σ H Q →
    wpAny (model X.prog X.w) X.A (eval a X.env) (fun v s₁ => wpAny (model X.prog X.w) X.A (eval b X.env) (fun u s₂ => wpAny (model X.prog X.w) X.A (compareOp op v u) (EP X pins σ Q) X.xe s₂) X.xe s₁) X.xe s
def tCmp (p : Int → Int → Bool) (ta tb : TE) : TE := fun σ H Q => t2I ta tb (fun i j H2 => Q (.bl (p i j)) H2) σ H
abbrev tLt : TE → TE → TE := tCmp fun i j => decide (i < j)
abbrev tLe : TE → TE → TE := tCmp fun i j => decide (i ≤ j)
abbrev tGt : TE → TE → TE := tCmp fun i j => decide (j < i)
abbrev tGe : TE → TE → TE := tCmp fun i j => decide (j ≤ i)
abbrev tEqI : TE → TE → TE := tCmp fun i j => decide (i = j)
abbrev tNeI : TE → TE → TE := tCmp fun i j => !decide (i = j)
/-- is None -/
def tIsN (ta : TE) : TE := fun σ H Q => ta σ H fun x H1 => Q (.bl (decide (x = .non))) H1
def tNotN (ta : TE) : TE := fun σ H Q => ta σ H fun x H1 => Q (.bl (!decide (x = .non))) H1
/-- a comparison as a value, as a test -/
def tB (t : TE) : TT := fun σ H Q => t σ H fun x H1 => ∃ c, x = .bl c ∧ Q c H1
/-- an expression whose value is a bool, as a test -/
theorem pt_val {e : Expr} {t : TE} (h : PE X e t) (he : ∀ whole, isTrue e X.env whole = (do let v ← whole; standAt e.pos; holding [v] (truthy v)) := by intro _; rfl) : PT X e (tB t) := by
  intro pins s σ H Q I hw
  refine isTrue_plain (thn (h pins s σ H _ I hw) fun v s1 ⟨x, H1, I1, r1, q1⟩ => ?_) (he _)
  obtain ⟨d, rfl, q⟩ := q1
  cases r1
  exact wpAny_truthy_bool ⟨H1, I1, q⟩
/-! ### and, or, not -/
variable {tA tB' : TT} {rest : List Expr}
def tAnd (t u : TT) : TT := fun σ H Q => t σ H fun c H1 => if c = true then u σ H1 Q else Q false H1
def tOr (t u : TT) : TT := fun σ H Q => t σ H fun c H1 => if c = true then Q true H1 else u σ H1 Q
def tNot (t : TT) : TT := fun σ H Q => t σ H fun c H1 => Q (!c) H1
theorem pw_and1 (ha : PT X a tA) : PW X (.BoolOp .And [a] pos) tA := by
  intro wh pins s σ H Q I h
  refine isTrue_and (thn (ha pins s σ H Q I h) fun c s1 e => ?_)
  cases c with
  | true => exact isTrue_and_nil e
  | false => exact e
theorem pw_or1 (ha : PT X a tA) : PW X (.BoolOp .Or [a] pos) tA := by
  intro wh pins s σ H Q I h
  refine isTrue_or (thn (ha pins s σ H Q I h) fun c s1 e => ?_)
  cases c with
  | false => exact isTrue_or_nil e
  | true => exact e
theorem pw_and (ha : PT X a tA) (hb : PW X (.BoolOp .And (b :: rest) pos) tB') : PW X (.BoolOp .And (a :: b :: rest) pos) (tAnd tA tB') := by
  intro wh pins s σ H Q I h
  refine isTrue_and (thn (ha pins s σ H _ I h) fun c s1 ⟨H1, I1, q1⟩ => ?_)
  cases c with
  | true => exact hb wh pins s1 σ H1 Q I1 q1
  | false => exact ⟨H1, I1, q1⟩
theorem pw_or (ha : PT X a tA) (hb : PW X (.BoolOp .Or (b :: rest) pos) tB') : PW X (.BoolOp .Or (a :: b :: rest) pos) (tOr tA tB') := by
  intro wh pins s σ H Q I h
  refine isTrue_or (thn (ha pins s σ H _ I h) fun c s1 ⟨H1, I1, q1⟩ => ?_)
  cases c with
  | true => exact ⟨H1, I1, q1⟩
  | false => exact hb wh pins s1 σ H1 Q I1 q1
theorem pt_not (ha : PT X a tA) : PT X (.UnaryOp .Not a pos) (tNot tA) := by
  intro pins s σ H Q I h
  exact isTrue_not (ha pins s σ H (fun c H1 => Q (!c) H1) I h)
/-- .. as values (bools) -/
def tAndV (ta tb : TE) : TE := fun σ H Q => ta σ H fun x H1 => ∃ c, x = .bl c ∧ if c = true then tb σ H1 Q else Q (.bl false) H1
def tOrV (ta tb : TE) : TE := fun σ H Q => ta σ H fun x H1 => ∃ c, x = .bl c ∧ if c = true then Q (.bl true) H1 else tb σ H1 Q
def tNotV (ta : TE) : TE := fun σ H Q => ta σ H fun x H1 => ∃ c, x = .bl c ∧ Q (.bl (!c)) H1
theorem pe_one {op} {t : TE} (h : PE X a t) : PE X (.BoolOp op [a] pos) t := fun pins s σ H Q I hw => BoolOp_one (h pins s σ H Q I hw)
theorem pe_and (ha : PE X a ta) (hb : PE X (.BoolOp .And (b :: rest) pos) tb) : PE X (.BoolOp .And (a :: b :: rest) pos) (tAndV ta tb) := by
  intro pins s σ H Q I h
  refine BoolOp_and (thn (ha pins s σ H _ I h) fun v s1 ⟨x, H1, I1, r1, q1⟩ => ?_)
  obtain ⟨c, rfl, q1⟩ := q1
  cases r1
  refine wpAny_truthy_bool ?_
  cases c with
  | true => exact hb pins s1 σ H1 Q I1 q1
  | false => exact ⟨.bl false, H1, I1, rfl, q1⟩
theorem pe_or (ha : PE X a ta) (hb : PE X (.BoolOp .Or (b :: rest) pos) tb) : PE X (.BoolOp .Or (a :: b :: rest) pos) (tOrV ta tb) := by
  intro pins s σ H Q I h
  refine BoolOp_or (thn (ha pins s σ H _ I h) fun v s1 ⟨x, H1, I1, r1, q1⟩ => ?_)
  obtain ⟨c, rfl, q1⟩ := q1
  cases r1
  refine wpAny_truthy_bool ?_
  cases c with
  | false => exact hb pins s1 σ H1 Q I1 q1
  | true => exact ⟨.bl true, H1, I1, rfl, q1⟩
theorem pe_not (ha : PE X a ta) : PE X (.UnaryOp .Not a pos) (tNotV ta) := by
  intro pins s σ H Q I h
  refine UnaryOp_ (thn (ha pins s σ H _ I h) fun v s1 ⟨x, H1, I1, r1, q1⟩ => ?_)
  obtain ⟨c, rfl, q1⟩ := q1
  cases r1
  exact not_of (wpAny_truthy_bool ⟨.bl (!c), H1, I1, rfl, q1⟩)
/-- a if t else b -/
def tIf (t : TT) (ta tb : TE) : TE := fun σ H Q => t σ H fun c H1 => if c = true then ta σ H1 Q else tb σ H1 Q
end
end L2
namespace L2
open PySem PySem.Spec PyProof.Rows
/-! ### a list, a tuple that is read: tracked, frozen, or an object of the module -/
def SqL (K : PySem.W.Frag) (H : Hp) (a : Addr) (xs : List V) : Prop :=
  Rd H a (.lst xs) ∨
    ∃ (o : Obj) (its : Array Value) (n : Nat), K.lookup a = some o ∧ o.cls = .type "list" ∧ o.dict = none ∧ o.data = .seq its n ∧ its.size ≤ sizeLine ∧ Vals xs its.toList
def SqT (K : PySem.W.Frag) (H : Hp) (a : Addr) (xs : List V) : Prop :=
  Rd H a (.tup xs) ∨
    ∃ (o : Obj) (its : Array Value) (n : Nat), K.lookup a = some o ∧ o.cls = .type "tuple" ∧ o.data = .seq its n ∧ its.size ≤ sizeLine ∧ Vals xs its.toList
def absV : Value → Option V
  | .none => some .non
  | .bool b => some (.bl b)
  | .int i _ => some (.int i)
  | .str x _ => some (.str x)
  | .bytes b _ => some (.byt b)
  | .float b _ => some (.flt b)
  | .ref a => some (.ref a)
  | .type n => some (.ty n)
  | _ => none
theorem RelV.abs {x : V} {u : Value} (r : RelV x u) : absV u = some x := by
  cases x with
  | non => cases r; rfl
  | bl _ => cases r; rfl
  | int _ => obtain ⟨t, rfl⟩ := r; rfl
  | str _ => obtain ⟨t, rfl⟩ := r; rfl
  | byt _ => obtain ⟨t, rfl⟩ := r; rfl
  | flt _ => obtain ⟨t, rfl⟩ := r; rfl
  | ref _ => cases r; rfl
  | ty _ => cases r; rfl
theorem RelV.inj {x y : V} {u : Value} (r : RelV x u) (q : RelV y u) : x = y := Option.some.inj (r.abs.symm.trans q.abs)
theorem Vals.inj : ∀ {xs ys : List V} {us : List Value}, Vals xs us → Vals ys us → xs = ys
  | _, _, _, .nil, .nil => rfl
  | _, _, _, .cons r t, .cons r' t' => by rw [r.inj r', Vals.inj t t']
section
variable {X : Cx} {pins : List (Addr × Obj)} {σ : St} {H : Hp} {s : Shared} {a : Addr} {xs ys : List V}
theorem SqL.of {K : PySem.W.Frag} (h : H a = some (.lst xs)) : SqL K H a xs := .inl (.inl h)
theorem SqT.of {K : PySem.W.Frag} (h : H a = some (.tup xs)) : SqT K H a xs := .inl (.inl h)
theorem Inv.list (I : Inv X pins σ H s) (h : SqL X.K H a xs) : ∃ its : List Value, Vals xs its ∧ PlainL s.heap a its.toArray ∧ xs.length ≤ sizeLine := by
  rcases h with h | ⟨o, its, n, hk, hc, hd, hs, hz, r⟩
  · obtain ⟨z, its, n, r, e⟩ := h.ok I.hok
    exact ⟨its, r, ⟨_, n, e, rfl, rfl, rfl⟩, z⟩
  · refine ⟨its.toList, r, ⟨o, n, I.kIn a o hk, hc, hd, by simpa using hs⟩, ?_⟩
    have e := r.length
    simp only [Array.length_toList] at e
    omega
theorem Inv.tuple (I : Inv X pins σ H s) (h : SqT X.K H a xs) : ∃ its : List Value, Vals xs its ∧ IsTup s.heap a its.toArray ∧ xs.length ≤ sizeLine := by
  rcases h with h | ⟨o, its, n, hk, hc, hs, hz, r⟩
  · obtain ⟨z, its, r, p⟩ := h.ok I.hok
    exact ⟨its, r, p, z⟩
  · refine ⟨its.toList, r, ⟨o, I.kIn a o hk, hc, n, by simpa using hs⟩, ?_⟩
    have e := r.length
    simp only [Array.length_toList] at e
    omega
theorem Inv.list_inj (I : Inv X pins σ H s) (h : SqL X.K H a xs) (h' : SqL X.K H a ys) : xs = ys := by
  obtain ⟨its, r, ⟨o, n, e, _, _, d⟩, _⟩ := I.list h
  obtain ⟨its', r', ⟨o', n', e', _, _, d'⟩, _⟩ := I.list h'
  rw [e] at e'; cases e'
  rw [d] at d'
  injection d' with d1 _
  have : its = its' := by simpa using congrArg Array.toList d1
  subst this
  exact r.inj r'
end
/-! ### another wish about exceptions -/
abbrev Cx.wish (X : Cx) (E : Value → Shared → Prop) : Cx := { X with xe := E }
/-- no exception leaves -/
abbrev Cx.nox (X : Cx) : Cx := X.wish fun _ _ => False
theorem Cx.Ok.wish {X : Cx} (ok : X.Ok) (E : Value → Shared → Prop) : (X.wish E).Ok :=
  ⟨ok.mod, ok.kind, ok.glob, ok.blt, ok.above, ok.inj, ok.has, ok.cab, ok.hd, ok.frames, ok.stk, ok.exf, ok.bs, ok.bsz, ok.noex, ok.exfs, ok.funs, ok.frf⟩
theorem Cx.Ok.unwish {X : Cx} {E : Value → Shared → Prop} (ok : (X.wish E).Ok) : X.Ok :=
  ⟨ok.mod, ok.kind, ok.glob, ok.blt, ok.above, ok.inj, ok.has, ok.cab, ok.hd, ok.frames, ok.stk, ok.exf, ok.bs, ok.bsz, ok.noex, ok.exfs, ok.funs, ok.frf⟩
section
variable {X : Cx} {pins : List (Addr × Obj)} {σ : St} {H : Hp} {s : Shared} {E : Value → Shared → Prop}
theorem Inv.wish (I : Inv X pins σ H s) (E : Value → Shared → Prop) : Inv (X.wish E) pins σ H s := ⟨I.ok.wish E, I.os, I.bare, I.base, I.loc, I.cell, I.free, I.freeC, I.pin, I.hok, I.len⟩
theorem Inv.unwish (I : Inv (X.wish E) pins σ H s) : Inv X pins σ H s := ⟨I.ok.unwish, I.os, I.bare, I.base, I.loc, I.cell, I.free, I.freeC, I.pin, I.hok, I.len⟩
theorem SP.unwish {D : Ends} {f : Flow} {s' : Shared} (h : SP (X.wish E) pins D f s') : SP X pins D f s' := by
  cases f with
  | next => obtain ⟨σ', H', I, q⟩ := h; exact ⟨σ', H', I.unwish, q⟩
  | brk => obtain ⟨σ', H', I, q⟩ := h; exact ⟨σ', H', I.unwish, q⟩
  | cont => obtain ⟨σ', H', I, q⟩ := h; exact ⟨σ', H', I.unwish, q⟩
  | ret u => obtain ⟨v, σ', H', I, r, q⟩ := h; exact ⟨v, σ', H', I.unwish, r, q⟩
theorem PSs.nox {st : List Stmt} {t : TS} (h : PSs X.nox st t) : PSs X st t := fun pins s σ H D I hw =>
  wpAny_mono (h pins s σ H D (I.wish _) hw) (fun _ _ q => q.unwish) fun _ _ z => False.elim z
end
/-! ### blocks and small statements -/
section
variable {X : Cx} {st : Stmt} {rest : List Stmt} {t u : TS} {e : Expr} {te : TE} {pos : Pos}
def tNext : TS := fun D σ H => D.nx σ H
def tSeq (t u : TS) : TS := fun D σ H => t { D with nx := u D } σ H
theorem pss_nil : PSs X [] tNext := fun _ _ σ H _ I h => wpAny_execs_nil ⟨σ, H, I, h⟩
theorem pss_cons (h1 : PS X st t) (h2 : PSs X rest u) : PSs X (st :: rest) (tSeq t u) := by
  intro pins s σ H D I h
  refine wpAny_execs_cons (thn (h1 pins s σ H { D with nx := u D } I h) fun f s1 q => ?_)
  cases f with
  | next =>
    obtain ⟨σ', H', I', q⟩ := q
    exact h2 pins s1 σ' H' D I' q
  | ret v => exact q
  | brk => exact q
  | cont => exact q
theorem pss_one (h1 : PS X st t) : PSs X [st] t := by
  intro pins s σ H D I h
  refine wpAny_execs_cons (thn (h1 pins s σ H D I h) fun f s1 q => ?_)
  cases f with
  | next => exact wpAny_execs_nil q
  | ret v => exact q
  | brk => exact q
  | cont => exact q
def tBreak : TS := fun D σ H => D.bk σ H
def tCont : TS := fun D σ H => D.ct σ H
theorem ps_break : PS X (.Break pos) tBreak := fun _ _ σ H _ I h => wpAny_Break ⟨σ, H, I, h⟩
/-- in a def's body nothing is shown -/
theorem Inv.quiet {pins : List (Addr × Obj)} {σ : St} {H : Hp} {s : Shared} (I : Inv X pins σ H s) : interactive X.env = false := by simp [interactive, I.ok.kind]
/-- an expression whose value is dropped -/
def tDrop (te : TE) : TS := fun D σ H => te σ H fun _ H1 => D.nx σ H1
theorem ps_expr (he : PE X e te) (hs : swapsWith e none pos.line X.env = pure false := by rfl) : PS X (.Expr e pos) (tDrop te) := by
  intro pins s σ H D I h
  exact wpAny_Expr_any (thn (he pins s σ H _ I h) fun v s1 ⟨x, H1, I1, r1, q1⟩ => ⟨σ, H1, I1, q1⟩) I.quiet hs
def tRet (te : TE) : TS := fun D σ H => te σ H D.rt
theorem ps_ret (he : PE X e te) : PS X (.Return (some e) pos) (tRet te) := by
  intro pins s σ H D I h
  exact wpAny_Return_some (thn (he pins s σ H _ I h) fun v s1 ⟨x, H1, I1, r1, q1⟩ => ⟨x, σ, H1, I1, r1, q1⟩)
def tRetN : TS := fun D _ H => D.rt .non H
def tIfS (c : TT) (t u : TS) : TS := fun D σ H => c σ H fun b H1 => if b = true then t D σ H1 else u D σ H1
theorem ps_if {c : Expr} {a b : List Stmt} {tc : TT} (hc : PT X c tc) (ha : PSs X a t) (hb : PSs X b u) : PS X (.If c a b pos) (tIfS tc t u) := by
  intro pins s σ H D I h
  refine wpAny_If (thn (hc pins s σ H _ I h) fun d s1 ⟨H1, I1, q1⟩ => ?_)
  cases d with
  | true => exact ha pins s1 σ H1 D I1 q1
  | false => exact hb pins s1 σ H1 D I1 q1
/-- code that the proof never comes to -/
def tNever : TS := fun _ _ _ => False
theorem ps_never : PS X st tNever := fun _ _ _ _ _ _ h => h.elim
end
/-! ### targets -/
abbrev TG := V → St → Hp → (St → Hp → Prop) → Prop
abbrev TGs := List V → St → Hp → (St → Hp → Prop) → Prop
def PG (X : Cx) (target : Expr) (t : TG) : Prop :=
  ∀ (pins : List (Addr × Obj)) (s : Shared) (σ : St) (H : Hp) (v : V) (u : Value) (Q : St → Hp → Prop), Inv X pins σ H s → RelV v u → t v σ H Q →
    wpAny (model X.prog X.w) X.A (assign target X.env u) (fun _ s' => ∃ σ' H', Inv X pins σ' H' s' ∧ Q σ' H') X.xe s
/-- several targets, one after another -/
def PGs (X : Cx) (ts : List Expr) (t : TGs) : Prop :=
  ∀ (pins : List (Addr × Obj)) (s : Shared) (σ : St) (H : Hp) (vs : List V) (us : List Value) (Q : St → Hp → Prop), Inv X pins σ H s → Vals vs us → t vs σ H Q →
    wpAny (model X.prog X.w) X.A (assignInOrder ((assignEach ts X.env).map (·.2)) us) (fun _ s' => ∃ σ' H', Inv X pins σ' H' s' ∧ Q σ' H') X.xe s
/-- o[i] = v, by values -/
abbrev TSet := V → V → V → Hp → (Hp → Prop) → Prop
def PSet (X : Cx) (t : TSet) : Prop :=
  ∀ (pins : List (Addr × Obj)) (s : Shared) (σ : St) (H : Hp) (o i v : V) (ov iv u : Value) (Q : Hp → Prop), Inv X pins σ H s → RelV o ov → RelV i iv → RelV v u → t o i v H Q →
    wpAny (model X.prog X.w) X.A (setItem ov iv u) (fun _ s' => ∃ H', Inv X pins σ H' s' ∧ Q H') X.xe s
/-- a op= b, by values -/
abbrev TIp := V → V → Hp → VK → Prop
def PIp (X : Cx) (op : Operator) (t : TIp) : Prop :=
  ∀ (pins : List (Addr × Obj)) (s : Shared) (σ : St) (H : Hp) (x y : V) (v u : Value) (Q : VK), Inv X pins σ H s → RelV x v → RelV y u → t x y H Q →
    wpAny (model X.prog X.w) X.A (inplaceOp op v u) (EP X pins σ Q) X.xe s
section
variable {X : Cx} {pos : Pos}
def gName (i : Nat) : TG := fun v σ H Q => Q (σ.set i (some v)) H
theorem pg_name {i : Nat} {x : Str} (hN : X.N.Nodup) (hi : X.N[i]? = some x) (hx : Loc X.env.scope x) (hf : X.fn x = true ∨ X.env.scope.names.lookup x = some .local := by first | exact .inl rfl | exact .inr rfl | assumption) : PG X (.Name x pos) (gName i) := by
  intro pins s σ H v u Q I r h
  exact wpAny_assign_Name (store_ok I hN hi hx r (fun s' I' => ⟨_, H, I', h⟩) hf)
def gNil : TGs := fun vs σ H Q => vs = [] ∧ Q σ H
def gCons (t : TG) (u : TGs) : TGs := fun vs σ H Q => ∃ v r, vs = v :: r ∧ t v σ H fun σ' H' => u r σ' H' Q
theorem pgs_nil : PGs X [] gNil := by
  intro pins s σ H vs us Q I r h
  obtain ⟨e, h⟩ := h
  subst e
  cases r
  exact assignInOrder_nil ⟨σ, H, I, h⟩
theorem pgs_cons {e : Expr} {es : List Expr} {t : TG} {u : TGs} (h1 : PG X e t) (h2 : PGs X es u)
    (hs : (assignEach (e :: es) X.env).map (·.2) = assign e X.env :: (assignEach es X.env).map (·.2) := by rfl) : PGs X (e :: es) (gCons t u) := by
  intro pins s σ H vs us Q I r h
  obtain ⟨v, vr, e1, h⟩ := h
  subst e1
  cases r with
  | cons r rr =>
    rw [hs]
    refine assignInOrder_cons (thn (h1 pins s σ H _ _ _ I r h) fun _ s1 ⟨σ1, H1, I1, q1⟩ => ?_)
    exact h2 pins s1 σ1 H1 _ _ Q I1 rr q1
/-- (a, b, ..) = a tuple of that length -/
def gTup (K : PySem.W.Frag) (n : Nat) (t : TGs) : TG := fun v σ H Q => ∃ a xs, v = .ref a ∧ SqT K H a xs ∧ xs.length = n ∧ t xs σ H Q
theorem pg_tup {es : List Expr} {k : Nat} {t : TGs} {n : Nat} (hc : X.calm = true) (h : PGs X es t)
    (hn : (assignEach es X.env).length = n := by rfl) (hst : (assignEach es X.env).findIdx? (·.1) = none := by rfl) : PG X (.Tuple es k pos) (gTup X.K n t) := by
  intro pins s σ H v u Q I r hw
  obtain ⟨a, xs, e1, hq, hl, hw⟩ := hw
  subst e1
  cases r
  obtain ⟨its, rv, ht, hz⟩ := I.tuple hq
  refine assign_Tuple_tuple (I.ok.hd hc) ht (by simp [hn, ← hl, rv.length]) hst fun h' hx => ?_
  have I1 : Inv X pins σ H { s with heap := h' } := I.kept (t' := s.toks) fun b o e => hx b o (Nat.ne_of_lt (Heap.lt_size e)) e
  exact h pins _ σ H xs _ Q I1 (by simpa using rv) hw
/-- o[i] = .. -/
def gSub (to ti : TE) (t : TSet) : TG := fun v σ H Q => to σ H fun o H1 => ti σ H1 fun i H2 => t o i v H2 fun H3 => Q σ H3
/-- target = value -/
def tAsg (te : TE) (g : TG) : TS := fun D σ H => te σ H fun x H1 => g x σ H1 D.nx
/-- name = value -/
theorem ps_set {i : Nat} {x : Str} {e : Expr} {te : TE} {pos' : Pos} (hN : X.N.Nodup) (hi : X.N[i]? = some x) (hx : Loc X.env.scope x) (he : PE X e te) (hs : swapsWith e (some (.Name x pos')) pos.line X.env = pure false := by rfl) (hf : X.fn x = true ∨ X.env.scope.names.lookup x = some .local := by first | exact .inl rfl | exact .inr rfl | assumption) :
    PS X (.Assign [.Name x pos'] e pos) (tAsg te (gName i)) := by
  intro pins s σ H D I h
  refine wpAny_Assign_Name (thn (he pins s σ H _ I h) fun v s1 ⟨y, H1, I1, r1, q1⟩ => ?_) hs
  exact store_ok I1 hN hi hx r1 (fun s2 I2 => ⟨_, H1, I2, q1⟩) hf
/-- a, b = x, y with plain local names: stored from the right; the pair itself is not tracked (the opening rows as in PyProof/Rows/TupAssign.lean:23) -/
def tPar (i j : Nat) (ta : TA) : TS := fun D σ H => ta σ H fun vs H1 => ∃ v w, vs = [v, w] ∧ D.nx ((σ.set i (some v)).set j (some w)) H1
theorem ps_par {i j : Nat} {x y : Str} {a b : Expr} {ta : TA} {px py pt : Pos} {kt k2 pt2} (hc : X.calm = true) (hN : X.N.Nodup) (hi : X.N[i]? = some x) (hj : X.N[j]? = some y) (hij : i ≠ j)
    (hx : X.env.scope.names.lookup x = some .local) (hy : X.env.scope.names.lookup y = some .local) (ha : PA X [a, b] ta)
    (hw : swappedStores [.Tuple [.Name x px, .Name y py] kt pt] (.Tuple [a, b] k2 pt2) X.env = pure (some [x, y]))
    (hs : swapsWithSole [.Tuple [.Name x px, .Name y py] kt pt] (.Tuple [a, b] k2 pt2) pos.line X.env = pure false := by rfl) :
    PS X (.Assign [.Tuple [.Name x px, .Name y py] kt pt] (.Tuple [a, b] k2 pt2) pos) (tPar i j ta) := by
  intro pins s σ H D I h
  rw [exec_Assign_arm]
  refine wpAny_bind (wpAny_standAt ?_)
  rw [hs]
  refine wpAny_bind (wpAny_pure ?_)
  rw [if_neg (by decide)]
  refine wpAny_bind (Tuple_ (thn (ha _ pins s σ H _ I h) fun us s1 ⟨vs, H1, I1, r1, q1⟩ => ?_))
  obtain ⟨v, w, e1, q1⟩ := q1
  subst e1
  obtain ⟨u1, u2, rfl, rv, rw'⟩ : ∃ u1 u2, us = [u1, u2] ∧ RelV v u1 ∧ RelV w u2 := by
    cases r1 with
    | cons p q =>
      cases q with
      | cons p' q' =>
        cases q'
        exact ⟨_, _, rfl, p, p'⟩
  refine wpAny_newObj_type ?_ (by show 2 ≤ sizeLine; decide)
  have I2 : Inv X pins σ H1 { s1 with heap := s1.heap.push { cls := .type "tuple", data := .seq [u1, u2].toArray } } := I1.kept (t' := s1.toks) fun b o e => Heap.get?_push_of_some _ e
  rw [hw]
  refine wpAny_bind (wpAny_pure ?_)
  show wpAny (model X.prog X.w) X.A (do rule "assign.swapped-stores"; let items ← unpackItems (.ref s1.heap.objs.size) 2 none; assignInOrder [fun v => bindName X.env y v, fun v => bindName X.env x v] items.reverse; pure Flow.next) _ _ _
  refine wpAny_bind (wpAny_rule (wpAny_bind (unpackItems_tuple (items := #[u1, u2]) (I.ok.hd hc) (IsTup.new s1.heap _) fun h' hx' => ?_)))
  have I3 := I2.kept (h' := h') (t' := s1.toks) fun b o e => hx' b o (Nat.ne_of_lt (Heap.lt_size e)) e
  show wpAny _ _ (assignInOrder [fun v => bindName X.env y v, fun v => bindName X.env x v] [u2, u1] >>= fun _ => pure Flow.next) _ _ _
  refine wpAny_bind (assignInOrder_cons (wpAny_bindName (store_ok I3 hN hj (.inl hy) rw' (fun s2 I4 => ?_) (.inr hy))))
  refine assignInOrder_cons (wpAny_bindName (store_ok I4 hN hi (.inl hx) rv (fun s3 I5 => assignInOrder_nil (wpAny_pure ?_)) (.inr hx)))
  rw [List.set_comm _ _ (Ne.symm hij)] at I5
  exact ⟨_, H1, I5, q1⟩
/-- name op= e -/
def tAug (i : Nat) (te : TE) (ti : TIp) : TS := fun D σ H => ∃ x, σ[i]? = some (some x) ∧ te σ H fun y H1 => ti x y H1 fun z H2 => D.nx (σ.set i (some z)) H2
theorem ps_aug {i : Nat} {x : Str} {e : Expr} {te : TE} {op : Operator} {ti : TIp} {pos' : Pos} (hN : X.N.Nodup) (hi : X.N[i]? = some x) (hx : Loc X.env.scope x) (he : PE X e te) (ho : PIp X op ti) (hf : X.fn x = true ∨ X.env.scope.names.lookup x = some .local := by first | exact .inl rfl | exact .inr rfl | assumption) :
    PS X (.AugAssign (.Name x pos') op e pos) (tAug i te ti) := by
  intro pins s σ H D I h
  obtain ⟨v, e1, h⟩ := h
  obtain ⟨m, hn, hl⟩ := I.loc
  have vis : Vis X.env.scope x := by rcases hx with k | k; exact .inl k; exact .inr (.inl k)
  obtain ⟨u, r, l⟩ := hl i x v hi e1 vis
  refine wpAny_AugAssign_Name ?_
  have go : wpAny (model X.prog X.w) X.A (eval e X.env) (fun w s₂ => wpAny (model X.prog X.w) X.A (inplaceOp op u w) (fun r s₃ => wpAny (model X.prog X.w) X.A (storeName X.env x r) (fun _ => SP X pins D .next) X.xe s₃) X.xe s₂) X.xe s := by
    refine thn (he pins s σ H _ I h) fun w s1 ⟨y, H1, I1, r1, q1⟩ => ?_
    refine thn (ho pins s1 σ H1 v y u w _ I1 r r1 q1) fun z s2 ⟨zv, H2, I2, r2, q2⟩ => ?_
    exact store_ok I2 hN hi hx r2 (fun s3 I3 => ⟨_, H2, I3, q2⟩) hf
  rcases l with ⟨hk, hm⟩ | ⟨hk, c, hc, hcell⟩
  · exact wpAny_loadName_local I.ok.kind hk hn hm go
  · rcases hk with hk | hk
    · exact wpAny_loadName_cell I.ok.kind hk hc hcell go
    · rcases hx with k | k
      · have : X.env.scope.names.lookup x = some .free := hk
        rw [k] at this; cases this
      · have : X.env.scope.names.lookup x = some .free := hk
        rw [k] at this; cases this
/-- o[i] op= e -/
def tAugS (to ti te : TE) (tget : V → V → Hp → VK → Prop) (tip : TIp) (tset : TSet) : TS := fun D σ H => to σ H fun o H1 => ti σ H1 fun i H2 => tget o i H2 fun x H3 => te σ H3 fun y H4 => tip x y H4 fun z H5 => tset o i z H5 fun H6 => D.nx σ H6
/-- o[i], by values -/
def PGet (X : Cx) (t : V → V → Hp → VK → Prop) : Prop :=
  ∀ (pins : List (Addr × Obj)) (s : Shared) (σ : St) (H : Hp) (o i : V) (ov iv : Value) (Q : VK), Inv X pins σ H s → RelV o ov → RelV i iv → t o i H Q →
    wpAny (model X.prog X.w) X.A (getItem ov iv) (EP X pins σ Q) X.xe s
/-- ints -/
def ipI (f : Int → Int → Int) : TIp := fun x y H Q => ∃ i j, x = .int i ∧ y = .int j ∧ Q (.int (f i j)) H
theorem ip_add : PIp X .Add (ipI fun i j => i + j) := by
  intro pins s σ H x y v u Q I r1 r2 h
  obtain ⟨i, j, e1, e2, q⟩ := h
  subst e1; subst e2
  obtain ⟨t, rfl⟩ := r1
  obtain ⟨t', rfl⟩ := r2
  exact iadd_int ⟨.int _, H, I.tok _, ⟨_, rfl⟩, q⟩
theorem ip_sub : PIp X .Sub (ipI fun i j => i - j) := by
  intro pins s σ H x y v u Q I r1 r2 h
  obtain ⟨i, j, e1, e2, q⟩ := h
  subst e1; subst e2
  obtain ⟨t, rfl⟩ := r1
  obtain ⟨t', rfl⟩ := r2
  exact isub_int ⟨.int _, H, I.tok _, ⟨_, rfl⟩, q⟩
end
/-! ### while -/
section
variable {X : Cx} {pos : Pos}
/-- the invariant W with its measure -/
def tWhile (c : TT) (tb : TS) : TS := fun D σ H => ∃ W : Nat → St → Hp → Prop, (∃ m, W m σ H) ∧ ∀ m σ H, W m σ H →
  c σ H fun b H1 => if b = true then ∃ N : St → Hp → Prop, (∀ σ' H', N σ' H' → ∃ m', m' < m ∧ W m' σ' H') ∧ tb { D with nx := N, ct := N, bk := D.nx } σ H1 else D.nx σ H1
end
/-! ### what a loop or a comprehension walks -/
/-- at turn i: it yields x (the heap may grow), or it stops -/
structure It where
  go : Nat → Hp → Prop
  yld : Nat → Hp → V → Hp → Prop
  stop : Nat → Hp → Prop
/-- the iterator's own objects may turn: they are not the frame's, not pinned, younger than the entry (or a comprehension's own) -/
def FpOk (X : Cx) (pins : List (Addr × Obj)) (H : Hp) (b : Addr) : Prop :=
  H b = none ∧ b ≠ X.env.locals ∧ b ∉ X.fs ∧ (b ∈ X.ex ∨ X.s₀.heap.objs.size ≤ b) ∧ (∀ x c, X.env.cells.lookup x = some c → c ≠ b) ∧ ∀ p ∈ X.pn ++ pins, p.1 ≠ b
theorem Inv.fpOk {X : Cx} {pins : List (Addr × Obj)} {σ : St} {H H' : Hp} {s : Shared} {b : Addr} (I : Inv X pins σ H s) (hb : s.heap.objs.size ≤ b) (hn : H' b = none) : FpOk X pins H' b := by
  refine ⟨hn, Nat.ne_of_gt (Nat.lt_of_lt_of_le I.lt hb), I.nofs hb, .inr (Nat.le_trans I.sz hb), fun x c e z => ?_, fun p hp z => ?_⟩
  · obtain ⟨v, q⟩ := I.cell x c e
    exact absurd (Nat.lt_of_lt_of_le q.lt (by rw [z]; exact hb)) (Nat.lt_irrefl _)
  · exact absurd (Nat.lt_of_lt_of_le (Heap.lt_size (I.pin p hp).1) (by rw [z]; exact hb)) (Nat.lt_irrefl _)
structure Turn (P : Program) (w : World) (K : PySem.W.Frag) (tg : Expr) (J : It) (fp : List Addr) (it : Addr) (tn : Nat → Heap → Prop) : Prop where
  mem : it ∈ fp
  obj : ∀ i h, tn i h → ∀ b ∈ fp, ∃ o, h.get? b = some o ∧ ∀ v, o.data ≠ .cell v
  keep : ∀ i h h', tn i h → (∀ b ∈ fp, ∀ o, h.get? b = some o → h'.get? b = some o) → tn i h'
  item : ∀ (X : Cx), X.prog = P → X.w = w → X.K = K → X.calm = true → ∀ (i : Nat) (pins : List (Addr × Obj)) (s : Shared) (σ : St) (H : Hp) (E : Value → Shared → Prop), Inv X pins σ H s → (∀ b ∈ fp, FpOk X pins H b) → tn i s.heap → J.go i H →
    wpAny (model P w) X.A (pyNext (.ref it)) (fun r s1 => ∃ u, r = some u ∧
      wpAny (model P w) X.A (letOwnedTupleGo tg (.ref it) u) (fun _ s2 => ∃ x H', Inv X pins σ H' s2 ∧ RelV x u ∧ J.yld i H x H' ∧ tn (i + 1) s2.heap ∧ ∀ b ∈ fp, H' b = none) E s1) E s
  done : ∀ (X : Cx), X.prog = P → X.w = w → X.K = K → X.calm = true → ∀ (i : Nat) (pins : List (Addr × Obj)) (s : Shared) (σ : St) (H : Hp) (E : Value → Shared → Prop), Inv X pins σ H s → (∀ b ∈ fp, FpOk X pins H b) → tn i s.heap → J.stop i H →
    wpAny (model P w) X.A (pyNext (.ref it)) (fun r s1 => r = none ∧ Inv X pins σ H s1) E s
  self : ∀ (A : Around) (i : Nat) (s : Shared) (Q : Value → Shared → Prop) (E : Value → Shared → Prop), tn i s.heap → Q (.ref it) s → wpAny (model P w) A (pyIter (.ref it)) Q E s
abbrev TI := St → Hp → (It → Hp → Prop) → Prop
/-- an iterator has come -/
def PIE (X : Cx) (pins : List (Addr × Obj)) (σ : St) (tg : Expr) (R : It → Hp → Prop) (itv : Value) (s2 : Shared) : Prop :=
  ∃ (it : Addr) (fp : List Addr) (tn : Nat → Heap → Prop) (J : It) (H' : Hp), itv = .ref it ∧ Inv X pins σ H' s2 ∧ Turn X.prog X.w X.K tg J fp it tn ∧ tn 0 s2.heap ∧ (∀ b ∈ fp, FpOk X pins H' b) ∧ R J H'
def PI (X : Cx) (tg iter : Expr) (wi : TI) : Prop :=
  ∀ (pins : List (Addr × Obj)) (s : Shared) (σ : St) (H : Hp) (R : It → Hp → Prop), Inv X pins σ H s → wi σ H R →
    wpAny (model X.prog X.w) X.A (eval iter X.env) (fun v s1 => wpAny (model X.prog X.w) X.A (pyIter v) (PIE X pins σ tg R) X.xe s1) X.xe s
/-- the step ahead of the store is nothing for an iterator that keeps no tuple -/
theorem go_of {M : Model} {A : Around} {E : Value → Shared → Prop} {s : Shared} {tg : Expr} {it : Addr} {u : Value} {o : Obj} {n : String} {vs : Array Value} {Q : Unit → Shared → Prop} (ho : s.heap.get? it = some o) (hc : o.cls = .type n) (hd : o.data = .fields vs)
    (hn : ["enumerate", "zip", "dict_itemiterator", "dict_reverseitemiterator", "odict_iterator", "itertools.zip_longest", "itertools.pairwise"].contains n = false) (hQ : Q () s) : wpAny M A (letOwnedTupleGo tg (.ref it) u) Q E s := by
  unfold letOwnedTupleGo
  cases tg <;> first
    | exact wpAny_pure hQ
    | (cases u <;> first
        | exact wpAny_pure hQ
        | (refine wpAny_bind (wpAny_load ho ?_)
           rw [hc, hd]
           show wpAny M A (if (["enumerate", "zip", "dict_itemiterator", "dict_reverseitemiterator", "odict_iterator", "itertools.zip_longest", "itertools.pairwise"].contains n && vs[0]? == some (rawInt _)) = true then _ else _) Q E s
           rw [if_neg (by intro h; rw [hn, Bool.false_and] at h; cases h)]
           exact wpAny_pure hQ))
/-- the list at a, as it stands at each turn (a loop may append to it) -/
def Itl (K : PySem.W.Frag) (a : Addr) : It :=
  ⟨fun i H => ∃ xs x, SqL K H a xs ∧ xs[i]? = some x, fun i H x H' => H' = H ∧ ∀ xs, SqL K H a xs → xs[i]? = some x, fun i H => ∃ xs, SqL K H a xs ∧ xs.length ≤ i⟩
def Itt (K : PySem.W.Frag) (a : Addr) : It :=
  ⟨fun i H => ∃ xs x, SqT K H a xs ∧ xs[i]? = some x, fun i H x H' => H' = H ∧ ∀ xs, SqT K H a xs → xs[i]? = some x, fun i H => ∃ xs, SqT K H a xs ∧ xs.length ≤ i⟩
/-- lo, lo + 1, .. (n of them) -/
def Itr (lo : Int) (n : Nat) : It := ⟨fun i _ => i < n, fun i H x H' => H' = H ∧ x = .int (lo + i), fun i _ => n ≤ i⟩
theorem turn_list {P : Program} {w : World} {K : PySem.W.Frag} {tg : Expr} (a it : Addr) : Turn P w K tg (Itl K a) [it] it (fun i h => h.IsListIter it a i) where
  mem := by simp
  obj := fun i h st b hb => by
    have e : b = it := by simpa using hb
    subst e
    obtain ⟨o, e, c, d⟩ := st
    exact ⟨o, e, fun v z => by rw [d] at z; cases z⟩
  keep := fun i h h' st k => st.at fun o e => k it (by simp) o e
  item := by
    intro X hP hw hK hc i pins s σ H E I hf st hg
    subst hP hw hK
    obtain ⟨xs, x, hq, hx⟩ := hg
    obtain ⟨its, rv, p, hz⟩ := I.list hq
    obtain ⟨u, hu, ru⟩ := rv.get hx
    obtain ⟨f0, f1, f2, f3, f4, f5⟩ := hf it (by simp)
    refine wpAny_pyNext_list_item st p.isList (x := u) (by simpa using hu) fun h' st' sb => ?_
    have I1 : Inv X pins σ H { s with heap := h' } := I.turned (t' := s.toks) (fun b o hb e => (sb.2 b hb).trans e) f0 f1 f3 f4 f5
    obtain ⟨o, e, c, d⟩ := id st'
    exact ⟨u, rfl, go_of (s := { s with heap := h' }) e c d (by decide) ⟨x, H, I1, ru, ⟨rfl, fun ys hy => by rw [I.list_inj hy hq]; exact hx⟩, st', fun b hb => (hf b hb).1⟩⟩
  done := by
    intro X hP hw hK hc i pins s σ H E I hf st hg
    subst hP hw hK
    obtain ⟨xs, hq, hx⟩ := hg
    obtain ⟨its, rv, p, hz⟩ := I.list hq
    obtain ⟨f0, f1, f2, f3, f4, f5⟩ := hf it (by simp)
    have hl := rv.length
    exact wpAny_pyNext_list_end (I.ok.hd hc) st p.isList (by simp; omega) fun h' eb => ⟨rfl, I.turned (t' := s.toks) (fun b o hb e => eb b o hb e) f0 f1 f3 f4 f5⟩
  self := fun _ _ _ _ _ st h => wpAny_pyIter_listiter st h
theorem turn_range {P : Program} {w : World} {K : PySem.W.Frag} {tg : Expr} (it : Addr) (lo : Int) (n : Nat) : Turn P w K tg (Itr lo n) [it] it (fun i h => IsRangeIter h it (lo + (i : Nat) * 1) ((n : Int) - (i : Nat)) 1) where
  mem := by simp
  obj := fun i h st b hb => by
    have e : b = it := by simpa using hb
    subst e
    exact ⟨_, st, fun v z => by
      have z' : Data.fields _ = Data.cell v := z
      cases z'⟩
  keep := fun i h h' st k => k it (by simp) _ st
  item := by
    intro X hP hw hK hc i pins s σ H E I hf st hg
    subst hP hw hK
    obtain ⟨f0, f1, f2, f3, f4, f5⟩ := hf it (by simp)
    have W := Walks.range (prog := X.prog) (w := X.w) (I.ok.hd hc) it lo 1 n
    refine W.item i s _ _ hg st fun v h' tk hv st' kk => ?_
    obtain ⟨t, rfl⟩ := hv
    have I1 : Inv X pins σ H { s with heap := h', toks := tk } := I.turned (fun b o hb e => kk b o (by simpa using hb) e) f0 f1 f3 f4 f5
    refine ⟨_, rfl, go_of (s := { s with heap := h', toks := tk }) (n := "range_iterator") st' rfl rfl (by decide) ⟨.int (lo + i), H, I1, ⟨t, ?_⟩, ⟨rfl, rfl⟩, st', fun b hb => (hf b hb).1⟩⟩
    rw [Int.mul_one]
  done := by
    intro X hP hw hK hc i pins s σ H E I hf st hg
    subst hP hw hK
    obtain ⟨f0, f1, f2, f3, f4, f5⟩ := hf it (by simp)
    exact wpAny_pyNext_range_end (I.ok.hd hc) st (by have : n ≤ i := hg; omega) fun h' eb => ⟨rfl, I.turned (t' := s.toks) (fun b o hb e => eb b o hb e) f0 f1 f3 f4 f5⟩
  self := fun _ _ _ _ _ st h => wpAny_pyIter_rangeiter st h
end L2
namespace L2
open PySem PySem.Spec PyProof.Rows
section
variable {X : Cx} {tg : Expr}
def iList (K : PySem.W.Frag) (tl : TE) : TI := fun σ H R => tl σ H fun x H1 => ∃ a, x = .ref a ∧ (∃ xs, SqL K H1 a xs) ∧ R (Itl K a) H1
def iTup (K : PySem.W.Frag) (tl : TE) : TI := fun σ H R => tl σ H fun x H1 => ∃ a, x = .ref a ∧ (∃ xs, SqT K H1 a xs) ∧ R (Itt K a) H1
theorem pi_list {l : Expr} {tl : TE} (hl : PE X l tl) : PI X tg l (iList X.K tl) := by
  intro pins s σ H R I h
  refine thn (hl pins s σ H _ I h) fun v s1 ⟨x, H1, I1, r1, q1⟩ => ?_
  obtain ⟨a, e, ⟨xs, hq⟩, q⟩ := q1
  subst e
  cases r1
  obtain ⟨its, rv, p, hz⟩ := I1.list hq
  refine wpAny_pyIter_list p.isList ?_
  refine ⟨s1.heap.objs.size, [s1.heap.objs.size], _, _, H1, rfl, I1.kept (t' := s1.toks) fun b o e => Heap.get?_push_of_some _ e, turn_list a _, ⟨_, Heap.get?_push_size _ rfl, rfl, rfl⟩, fun b hb => ?_, q⟩
  have e : b = s1.heap.objs.size := by simpa using hb
  subst e
  exact I1.fpOk (Nat.le_refl _) (I1.hok.fresh (Nat.le_refl _))
/-- a range object just made, walked -/
theorem range_it {pins : List (Addr × Obj)} {σ : St} {H : Hp} {s : Shared} {R : It → Hp → Prop} {E : Value → Shared → Prop} {lo hi : Int} {t u v : Tok} {tk : Nat} (I : Inv X pins σ H s) (h1 : -(2 ^ 62) ≤ lo) (h2 : lo < 2 ^ 62) (h3 : -(2 ^ 62) ≤ hi) (h4 : hi < 2 ^ 62)
    (q : R (Itr lo (hi - lo).toNat) H) : wpAny (model X.prog X.w) X.A (pyIter (.ref s.heap.objs.size)) (PIE X pins σ tg R) E { s with heap := s.heap.push { cls := .type "range", data := .fields #[.int lo t, .int hi u, .int 1 v] }, toks := tk } := by
  refine wpAny_pyIter_range (IsRange.new ..) (small_one h1 h2 h3 h4) ?_
  have I1 : Inv X pins σ H { s with heap := s.heap.push { cls := .type "range", data := .fields #[.int lo t, .int hi u, .int 1 v] }, toks := tk } := I.kept fun b o e => Heap.get?_push_of_some _ e
  refine ⟨(s.heap.push { cls := .type "range", data := .fields #[.int lo t, .int hi u, .int 1 v] }).objs.size, [(s.heap.push { cls := .type "range", data := .fields #[.int lo t, .int hi u, .int 1 v] }).objs.size], _, _, H, rfl,
    I1.kept (t' := tk) fun b o e => Heap.get?_push_of_some _ e, turn_range _ lo (hi - lo).toNat, ?_, fun b hb => ?_, q⟩
  · have e1 : lo + ((0 : Nat) : Int) * 1 = lo := by simp
    have e2 : (((hi - lo).toNat : Nat) : Int) - ((0 : Nat) : Int) = Builtin.Range.rangeSize lo hi 1 := by rw [rangeSize_one]; split <;> omega
    show IsRangeIter _ _ (lo + ((0 : Nat) : Int) * 1) ((((hi - lo).toNat : Nat) : Int) - ((0 : Nat) : Int)) 1
    rw [e1, e2]
    exact Heap.get?_push_size _ rfl
  · have e : b = (s.heap.push { cls := .type "range", data := .fields #[.int lo t, .int hi u, .int 1 v] }).objs.size := by simpa using hb
    subst e
    exact I1.fpOk (Nat.le_refl _) (I1.hok.fresh (Nat.le_refl _))
def iRng1 (ta : TA) : TI := fun σ H R => ta σ H fun vs H1 => ∃ j : Int, vs = [.int j] ∧ -(2 ^ 62) ≤ j ∧ j < 2 ^ 62 ∧ R (Itr 0 j.toNat) H1
def iRng2 (ta : TA) : TI := fun σ H R => ta σ H fun vs H1 => ∃ i j : Int, vs = [.int i, .int j] ∧ (-(2 ^ 62) ≤ i ∧ i < 2 ^ 62 ∧ -(2 ^ 62) ≤ j ∧ j < 2 ^ 62) ∧ R (Itr i (j - i).toNat) H1
theorem pi_range1 {a : Expr} {ta : TA} {p pos : Pos} (hg : Gl X "range") (hm : X.mg "range" = none) (ha : PA X [a] ta) (hs : starEach [a] X.env = [(false, eval a X.env)] := by rfl) : PI X tg (.Call (.Name "range" p) [a] [] pos) (iRng1 ta) := by
  intro pins s σ H R I h
  refine Call_ (ld_blt I hg hm boot_range (PyProof.Rows.callWith_type1 (thn (ha pos pins s σ H _ I h) fun us s1 ⟨vs, H1, I1, r1, q1⟩ => ?_) hs rfl))
  obtain ⟨j, e, q1, q2, q⟩ := q1
  subst e
  cases r1 with
  | cons r rr =>
    cases rr
    obtain ⟨t, rfl⟩ := r
    exact call_range_1 (range_it I1 (by omega) (by omega) q1 q2 (by simpa using q))
/-! ### for -/
/-- W: the invariant by the turn and a measure; N: what the body is to reach -/
def tFor (wi : TI) (g : TG) (tb : TS) : TS := fun D σ H => wi σ H fun J H1 => ∃ W : Nat → Nat → St → Hp → Prop, (∃ m, W 0 m σ H1) ∧ ∀ i m σ H, W i m σ H →
  (J.stop i H ∧ D.nx σ H) ∨ (J.go i H ∧ ∃ N : St → Hp → Prop, (∀ σ' H', N σ' H' → ∃ m', m' < m ∧ W (i + 1) m' σ' H') ∧ ∀ x H', J.yld i H x H' → g x σ H' fun σ2 H2 => tb { D with nx := N, ct := N, bk := D.nx } σ2 H2)
/-- the records at fp as they stand -/
def pinsAt (fp : List Addr) (h : Heap) : List (Addr × Obj) := fp.filterMap fun b => (h.get? b).map fun o => (b, o)
theorem mem_pinsAt {fp : List Addr} {h : Heap} {b : Addr} {o : Obj} (hb : b ∈ fp) (e : h.get? b = some o) : (b, o) ∈ pinsAt fp h := List.mem_filterMap.mpr ⟨b, hb, by rw [e]; rfl⟩
theorem of_pinsAt {fp : List Addr} {h : Heap} {p : Addr × Obj} (hp : p ∈ pinsAt fp h) : p.1 ∈ fp ∧ h.get? p.1 = some p.2 := by
  obtain ⟨b, hb, e⟩ := List.mem_filterMap.mp hp
  cases q : h.get? b with
  | none => rw [q] at e; cases e
  | some o =>
    rw [q] at e
    have e' : (b, o) = p := Option.some.inj e
    subst e'
    exact ⟨hb, q⟩
theorem Inv.pinned {pins : List (Addr × Obj)} {σ : St} {H : Hp} {s : Shared} {fp : List Addr} (I : Inv X pins σ H s) (hf : ∀ b ∈ fp, FpOk X pins H b) (ho : ∀ b ∈ fp, ∃ o, s.heap.get? b = some o ∧ ∀ v, o.data ≠ .cell v) : Inv X (pins ++ pinsAt fp s.heap) σ H s :=
  I.pins_of fun p hp => (List.mem_append.mp hp).elim (fun z => I.pin p (List.mem_append_right _ z)) fun z => by
    obtain ⟨hb, e⟩ := of_pinsAt z
    obtain ⟨f0, f1, f2, _⟩ := hf p.1 hb
    obtain ⟨o, e', d⟩ := ho p.1 hb
    rw [e] at e'; cases e'
    exact ⟨e, f0, f1, f2, d⟩
theorem Inv.unpinned {pins pl : List (Addr × Obj)} {σ : St} {H : Hp} {s : Shared} (I : Inv X (pins ++ pl) σ H s) : Inv X pins σ H s := I.pins_of fun p hp => I.pin p (List.mem_append_right _ (List.mem_append_left _ hp))
theorem ps_for {iter : Expr} {body : List Stmt} {wi : TI} {g : TG} {tb : TS} {pos : Pos} (hp : PassesOwn (model X.prog X.w) X.A X.env X.xe) (hc : X.calm = true) (hi : PI X tg iter wi) (hg : PG X tg g) (hb : PSs X body tb)
    (hs : ∀ x, foldedSetIterable iter X.env x = pure x := by intro _; rfl) : PS X (.For tg iter body [] pos) (tFor wi g tb) := by
  intro pins s σ H D I h
  refine wpAny_For (thn (hi pins s σ H _ I h) fun v s1 h1 => thn h1 fun itv s2 h2 => ?_) hs
  obtain ⟨it, fp, tn, J, H2, e, I2, T, st2, f2, W, ⟨m0, w0⟩, turn⟩ := h2
  subst e
  -- what stays true of the iterator's objects through the loop
  have stat : ∀ {H' : Hp}, (∀ b ∈ fp, H' b = none) → ∀ b ∈ fp, FpOk X pins H' b := fun hn b hb => ⟨hn b hb, (f2 b hb).2⟩
  refine codeAny_forLoop_any (fun n s' => ∃ i σ' H', Inv X pins σ' H' s' ∧ tn i s'.heap ∧ (∀ b ∈ fp, H' b = none) ∧ W i n σ' H') ?_ m0 ⟨0, σ, H2, I2, st2, fun b hb => (f2 b hb).1, w0⟩
  rintro n s3 ⟨i, σ3, H3, I3, st3, fr3, w3⟩
  rcases turn i n σ3 H3 w3 with ⟨stop, qn⟩ | ⟨go, N, hN, step⟩
  · refine wpAny_passesOwn hp (thn (T.done X rfl rfl rfl hc i pins s3 σ3 H3 X.xe I3 (stat fr3) st3 stop) fun r s4 ⟨hr, I4⟩ => ?_)
    subst hr
    exact wpAny_execs_nil ⟨σ3, H3, I4, qn⟩
  · refine wpAny_passesOwn hp (thn (T.item X rfl rfl rfl hc i pins s3 σ3 H3 X.xe I3 (stat fr3) st3 go) fun r s4 ⟨u, hr, h4⟩ => ?_)
    subst hr
    refine wpAny_passesOwn hp (thn h4 fun _ s5 ⟨x, H5, I5, r5, y5, st5, fr5⟩ => ?_)
    have I5' := I5.pinned (stat fr5) (T.obj _ _ st5)
    refine wpAny_passesOwn hp (thn (hg _ s5 σ3 H5 x u _ I5' r5 (step x H5 y5)) fun _ s6 ⟨σ6, H6, I6, q6⟩ => ?_)
    refine wpAny_passesOwn hp (thn (hb _ s6 σ6 H6 _ I6 q6) fun f s7 q7 => ?_)
    have again : ∀ {σ7 : St} {H7 : Hp}, Inv X (pins ++ pinsAt fp s5.heap) σ7 H7 s7 → N σ7 H7 → ∃ m, m < n ∧ ∃ i σ' H', Inv X pins σ' H' s7 ∧ tn i s7.heap ∧ (∀ b ∈ fp, H' b = none) ∧ W i m σ' H' := fun {σ7 H7} I7 n7 => by
      obtain ⟨m', hm, w7⟩ := hN σ7 H7 n7
      refine ⟨m', hm, i + 1, σ7, H7, I7.unpinned, T.keep _ _ _ st5 fun b hb o e => (I7.pin (b, o) (List.mem_append_right _ (List.mem_append_right _ (mem_pinsAt hb e)))).1, fun b hb => ?_, w7⟩
      obtain ⟨o, e, d⟩ := T.obj _ _ st5 b hb
      exact (I7.pin (b, o) (List.mem_append_right _ (List.mem_append_right _ (mem_pinsAt hb e)))).2.1
    cases f with
    | next => obtain ⟨σ7, H7, I7, n7⟩ := q7; exact again I7 n7
    | cont => obtain ⟨σ7, H7, I7, n7⟩ := q7; exact again I7 n7
    | brk => obtain ⟨σ7, H7, I7, q7⟩ := q7; exact ⟨σ7, H7, I7.unpinned, q7⟩
    | ret v => obtain ⟨x7, σ7, H7, I7, r7, q7⟩ := q7; exact ⟨x7, σ7, H7, I7.unpinned, r7, q7⟩
end
/-! ### the forms one uses -/
/-- over a list that the body leaves as it is -/
theorem for_list {K : PySem.W.Frag} {a : Addr} {xs : List V} {g : TG} {tb : TS} {D : Ends} {σ : St} {H : Hp} (Pv : Nat → St → Hp → Prop) (h0 : Pv 0 σ H) (hl : ∀ i σ H, i ≤ xs.length → Pv i σ H → SqL K H a xs)
    (hs : ∀ i x σ H, xs[i]? = some x → Pv i σ H → g x σ H fun σ2 H2 => tb { D with nx := Pv (i + 1), ct := Pv (i + 1), bk := D.nx } σ2 H2) (hd : ∀ σ H, Pv xs.length σ H → D.nx σ H) :
    ∃ W : Nat → Nat → St → Hp → Prop, (∃ m, W 0 m σ H) ∧ ∀ i m σ H, W i m σ H →
      ((Itl K a).stop i H ∧ D.nx σ H) ∨ ((Itl K a).go i H ∧ ∃ N : St → Hp → Prop, (∀ σ' H', N σ' H' → ∃ m', m' < m ∧ W (i + 1) m' σ' H') ∧ ∀ x H', (Itl K a).yld i H x H' → g x σ H' fun σ2 H2 => tb { D with nx := N, ct := N, bk := D.nx } σ2 H2) := by
  refine ⟨fun i m σ H => m = xs.length - i ∧ i ≤ xs.length ∧ Pv i σ H, ⟨xs.length, by simp, Nat.zero_le _, h0⟩, ?_⟩
  rintro i m σ H ⟨rfl, hi, p⟩
  have q := hl i σ H hi p
  by_cases hlt : i < xs.length
  · refine .inr ⟨⟨xs, xs[i], q, by simp [hlt]⟩, Pv (i + 1), fun σ' H' p' => ⟨xs.length - (i + 1), by omega, rfl, hlt, p'⟩, fun x H' y => ?_⟩
    obtain ⟨e, y⟩ := y
    subst e
    exact hs i x σ _ (y xs q) p
  · have e : i = xs.length := by omega
    subst e
    exact .inl ⟨⟨xs, q, Nat.le_refl _⟩, hd σ H p⟩
theorem for_range {lo : Int} {n : Nat} {g : TG} {tb : TS} {D : Ends} {σ : St} {H : Hp} (Pv : Nat → St → Hp → Prop) (h0 : Pv 0 σ H)
    (hs : ∀ i σ H, i < n → Pv i σ H → g (.int (lo + i)) σ H fun σ2 H2 => tb { D with nx := Pv (i + 1), ct := Pv (i + 1), bk := D.nx } σ2 H2) (hd : ∀ σ H, Pv n σ H → D.nx σ H) :
    ∃ W : Nat → Nat → St → Hp → Prop, (∃ m, W 0 m σ H) ∧ ∀ i m σ H, W i m σ H →
      ((Itr lo n).stop i H ∧ D.nx σ H) ∨ ((Itr lo n).go i H ∧ ∃ N : St → Hp → Prop, (∀ σ' H', N σ' H' → ∃ m', m' < m ∧ W (i + 1) m' σ' H') ∧ ∀ x H', (Itr lo n).yld i H x H' → g x σ H' fun σ2 H2 => tb { D with nx := N, ct := N, bk := D.nx } σ2 H2) := by
  refine ⟨fun i m σ H => m = n - i ∧ i ≤ n ∧ Pv i σ H, ⟨n, by simp, Nat.zero_le _, h0⟩, ?_⟩
  rintro i m σ H ⟨rfl, hi, p⟩
  by_cases hlt : i < n
  · refine .inr ⟨hlt, Pv (i + 1), fun σ' H' p' => ⟨n - (i + 1), by omega, rfl, hlt, p'⟩, fun x H' y => ?_⟩
    obtain ⟨e, y⟩ := y
    subst e y
    exact hs i σ _ hlt p
  · have e : i = n := by omega
    subst e
    exact .inl ⟨Nat.le_refl _, hd σ H p⟩
end L2
namespace L2
open PySem PySem.Spec PyProof.Rows
abbrev R2 := V → V → Hp → VK → Prop
/-- a two-place operation on values: f is binaryOp op, inplaceOp op or compareOp op -/
def OpR (X : Cx) (f : Value → Value → Sem Value) (r : R2) : Prop :=
  ∀ (pins : List (Addr × Obj)) (s : Shared) (σ : St) (H : Hp) (x y : V) (v u : Value) (Q : VK), Inv X pins σ H s → RelV x v → RelV y u → r x y H Q →
    wpAny (model X.prog X.w) X.A (f v u) (EP X pins σ Q) X.xe s
/-- a one-place operation -/
def UnR (X : Cx) (f : Value → Sem Value) (r : V → Hp → VK → Prop) : Prop :=
  ∀ (pins : List (Addr × Obj)) (s : Shared) (σ : St) (H : Hp) (x : V) (v : Value) (Q : VK), Inv X pins σ H s → RelV x v → r x H Q →
    wpAny (model X.prog X.w) X.A (f v) (EP X pins σ Q) X.xe s
/-- a call of a value that is known (a builtin, a type) with values -/
def CallR (X : Cx) (f : Value) (r : List V → Hp → VK → Prop) : Prop :=
  ∀ (pins : List (Addr × Obj)) (s : Shared) (σ : St) (H : Hp) (xs : List V) (us : List Value) (Q : VK), Inv X pins σ H s → Vals xs us → r xs H Q →
    wpAny (model X.prog X.w) X.A (call f us) (EP X pins σ Q) X.xe s
/-- a value's truth -/
def TruR (X : Cx) (r : V → Hp → (Bool → Hp → Prop) → Prop) : Prop :=
  ∀ (pins : List (Addr × Obj)) (s : Shared) (σ : St) (H : Hp) (x : V) (v : Value) (Q : Bool → Hp → Prop), Inv X pins σ H s → RelV x v → r x H Q →
    wpAny (model X.prog X.w) X.A (truthy v) (TP X pins σ Q) X.xe s
def tOp (r : R2) (ta tb : TE) : TE := fun σ H Q => ta σ H fun x H1 => tb σ H1 fun y H2 => r x y H2 Q
def tUn (r : V → Hp → VK → Prop) (ta : TE) : TE := fun σ H Q => ta σ H fun x H1 => r x H1 Q
/-- ints in, under C, and a value out -/
def rI (C : Int → Int → Prop) (g : Int → Int → V) : R2 := fun x y H Q => ∃ i j, x = .int i ∧ y = .int j ∧ C i j ∧ Q (g i j) H
def rI0 (g : Int → Int → V) : R2 := fun x y H Q => ∃ i j, x = .int i ∧ y = .int j ∧ Q (g i j) H
def rU (g : Int → V) : V → Hp → VK → Prop := fun x H Q => ∃ i, x = .int i ∧ Q (g i) H
section
variable {X : Cx} {a b c : Expr} {ta tb tc : TE} {pos : Pos}
theorem binT (ha : PE X a ta) (hb : PE X b tb) {pins : List (Addr × Obj)} {s : Shared} {σ : St} {H : Hp} {R : V → V → Hp → Prop} (I : Inv X pins σ H s)
    (h : ta σ H fun x H1 => tb σ H1 fun y H2 => R x y H2) {Q : Value → Shared → Prop} {f : Value → Value → Sem Value}
    (hf : ∀ v u s2 x y H2, Inv X pins σ H2 s2 → RelV x v → RelV y u → R x y H2 → wpAny (model X.prog X.w) X.A (f v u) Q X.xe s2) :
    wpAny (model X.prog X.w) X.A (eval a X.env) (fun v s₁ => wpAny (model X.prog X.w) X.A (eval b X.env) (fun u s₂ => wpAny (model X.prog X.w) X.A (f v u) Q X.xe s₂) X.xe s₁) X.xe s := by
  refine thn (ha pins s σ H _ I h) fun v s1 ⟨x, H1, I1, r1, q1⟩ => ?_
  refine thn (hb pins s1 σ H1 _ I1 q1) fun u s2 ⟨y, H2, I2, r2, q2⟩ => ?_
  exact hf v u s2 x y H2 I2 r1 r2 q2
theorem pe_op {op : Operator} {r : R2} (ho : OpR X (binaryOp op) r) (ha : PE X a ta) (hb : PE X b tb) : PE X (.BinOp a op b pos) (tOp r ta tb) := by
  intro pins s σ H Q I h
  exact wpAny_BinOp (binT ha hb I h fun v u s2 x y H2 I2 rx ry q => ho pins s2 σ H2 x y v u Q I2 rx ry q)
theorem pe_un {op : UnaryOp} {r : V → Hp → VK → Prop} (ho : UnR X (unaryOp op) r) (ha : PE X a ta) : PE X (.UnaryOp op a pos) (tUn r ta) := by
  intro pins s σ H Q I h
  exact UnaryOp_ (thn (ha pins s σ H _ I h) fun v s1 ⟨x, H1, I1, r1, q1⟩ => ho pins s1 σ H1 x v Q I1 r1 q1)
/-! ### ints -/
theorem opI {f : Value → Value → Sem Value} {C : Int → Int → Prop} {g : Int → Int → Int}
    (rule : ∀ (i j : Int) (t u : Tok) (s : Shared) (Q : Value → Shared → Prop) (E : Value → Shared → Prop), C i j → Q (.int (g i j) s.toks) { s with toks := s.toks + 1 } → wpAny (model X.prog X.w) X.A (f (.int i t) (.int j u)) Q E s) :
    OpR X f (rI C fun i j => .int (g i j)) := by
  intro pins s σ H x y v u Q I rx ry h
  obtain ⟨i, j, rfl, rfl, hc, q⟩ := h
  obtain ⟨t, rfl⟩ := rx
  obtain ⟨t', rfl⟩ := ry
  exact rule i j t t' s _ _ hc ⟨.int (g i j), H, I.tok _, ⟨_, rfl⟩, q⟩
theorem opI0 {f : Value → Value → Sem Value} {g : Int → Int → Int}
    (rule : ∀ (i j : Int) (t u : Tok) (s : Shared) (Q : Value → Shared → Prop) (E : Value → Shared → Prop), Q (.int (g i j) s.toks) { s with toks := s.toks + 1 } → wpAny (model X.prog X.w) X.A (f (.int i t) (.int j u)) Q E s) :
    OpR X f (rI0 fun i j => .int (g i j)) := by
  intro pins s σ H x y v u Q I rx ry h
  obtain ⟨i, j, rfl, rfl, q⟩ := h
  obtain ⟨t, rfl⟩ := rx
  obtain ⟨t', rfl⟩ := ry
  exact rule i j t t' s _ _ ⟨.int (g i j), H, I.tok _, ⟨_, rfl⟩, q⟩
theorem opB0 {f : Value → Value → Sem Value} {g : Int → Int → Bool}
    (rule : ∀ (i j : Int) (t u : Tok) (s : Shared) (Q : Value → Shared → Prop) (E : Value → Shared → Prop), Q (.bool (g i j)) s → wpAny (model X.prog X.w) X.A (f (.int i t) (.int j u)) Q E s) :
    OpR X f (rI0 fun i j => .bl (g i j)) := by
  intro pins s σ H x y v u Q I rx ry h
  obtain ⟨i, j, rfl, rfl, q⟩ := h
  obtain ⟨t, rfl⟩ := rx
  obtain ⟨t', rfl⟩ := ry
  exact rule i j t t' s _ _ ⟨.bl (g i j), H, I, rfl, q⟩
def CDiv (i j : Int) : Prop := 0 < j ∧ j < 1073741824
def CDivN (i j : Int) : Prop := j ≠ 0 ∧ j.natAbs < 1073741824
def CPow (i j : Int) : Prop := 0 ≤ j ∧ j ≤ 1000000 ∧ i.natAbs < 2 ^ 64
def CMul (i j : Int) : Prop := (-(2 ^ 64) < i ∧ i < 2 ^ 64) ∨ (-(2 ^ 64) < j ∧ j < 2 ^ 64)
theorem CMul.ok {i j : Int} (h : CMul i j) : IntMulOk i j := by
  rcases h with ⟨h1, h2⟩ | ⟨h1, h2⟩
  · exact .of_left (intBits_le_64 h1 h2)
  · exact .of_right (intBits_le_64 h1 h2)
theorem op_add : OpR X (binaryOp .Add) (rI0 fun i j => .int (i + j)) := opI0 fun _ _ _ _ _ _ _ q => add_int q
theorem op_sub : OpR X (binaryOp .Sub) (rI0 fun i j => .int (i - j)) := opI0 fun _ _ _ _ _ _ _ q => sub_int q
theorem op_mul : OpR X (binaryOp .Mult) (rI CMul fun i j => .int (i * j)) := opI fun _ _ _ _ _ _ _ hc q => mul_int q hc.ok
/-- // by a positive divisor -/
theorem op_fdiv : OpR X (binaryOp .FloorDiv) (rI CDiv fun i j => .int (i / j)) := opI fun i j _ _ _ _ _ hc q => by
  have h1 : (0 : Int) < j := hc.1
  have h2 : j < 1073741824 := hc.2
  exact floordiv_int (by omega) (by rw [Int.fdiv_eq_ediv_of_nonneg i (by omega)]; exact q) (.inl (PyProof.noPylong_small (by omega)))
/-- % by a positive divisor of any size -/
theorem op_mod : OpR X (binaryOp .Mod) (rI (fun _ j => 0 < j) fun i j => .int (i % j)) := opI fun i j _ _ _ _ _ hc q => by
  have h1 : (0 : Int) < j := hc
  exact mod_int' (by omega) (by rw [Int.fmod_eq_emod_of_nonneg i (by omega)]; exact q)
theorem unI {f : Value → Sem Value} {g : Int → Int}
    (rule : ∀ (i : Int) (t : Tok) (s : Shared) (Q : Value → Shared → Prop) (E : Value → Shared → Prop), Q (.int (g i) s.toks) { s with toks := s.toks + 1 } → wpAny (model X.prog X.w) X.A (f (.int i t)) Q E s) :
    UnR X f (rU fun i => .int (g i)) := by
  intro pins s σ H x v Q I rx h
  obtain ⟨i, rfl, q⟩ := h
  obtain ⟨t, rfl⟩ := rx
  exact rule i t s _ _ ⟨.int (g i), H, I.tok _, ⟨_, rfl⟩, q⟩
theorem un_neg : UnR X (unaryOp .USub) (rU fun i => .int (-i)) := unI fun _ _ _ _ _ q => neg_int q
/-! ### bools among ints: n += (a < b) -/
end
/-! ### comparisons -/
/-- the scalars that == tells apart as data does -/
def scal : V → V → Bool
  | .non, .non => true | .non, .int _ => true | .int _, .non => true | .non, .bl _ => true | .bl _, .non => true | .non, .str _ => true | .str _, .non => true
  | .int _, .int _ => true | .bl _, .bl _ => true | .str _, .str _ => true | .byt _, .byt _ => true
  | .int _, .str _ => true | .str _, .int _ => true | .bl _, .str _ => true | .str _, .bl _ => true
  | _, _ => false
def rEq : R2 := fun x y H Q => scal x y = true ∧ Q (.bl (decide (x = y))) H
def rNe : R2 := fun x y H Q => scal x y = true ∧ Q (.bl (!decide (x = y))) H
theorem dec_int {i j : Int} : decide (V.int i = V.int j) = (i == j) := by
  rw [Bool.eq_iff_iff]
  simp
theorem dec_bl {i j : Bool} : decide (V.bl i = V.bl j) = (i == j) := by
  rw [Bool.eq_iff_iff]
  simp
theorem dec_str {i j : Str} : decide (V.str i = V.str j) = (i == j) := by
  rw [Bool.eq_iff_iff]
  simp
theorem dec_byt {i j : Array UInt8} : decide (V.byt i = V.byt j) = (i.toList == j.toList) := by
  rw [Bool.eq_iff_iff]
  cases i
  cases j
  simp
section
variable {X : Cx} {a b c : Expr} {ta tb tc : TE} {pos : Pos}
theorem fin_bl {pins : List (Addr × Obj)} {σ : St} {H : Hp} {s : Shared} {Q : VK} {k k' : Bool} (I : Inv X pins σ H s) (q : Q (.bl k) H) (e : k = k') : EP X pins σ Q (.bool k') s := by
  subst e
  exact ⟨.bl k, H, I, rfl, q⟩
theorem op_eq : OpR X (compareOp .Eq) rEq := by
  intro pins s σ H x y v u Q I rx ry h
  obtain ⟨hs, q⟩ := h
  cases x with
  | non =>
    cases rx
    cases y with
    | non => cases ry; exact PySem.EqNone.eq_none_none (fin_bl I q (by simp))
    | bl j => cases ry; exact PySem.EqNone.eq_none_bool (fin_bl I q (by simp))
    | int j => obtain ⟨t', rfl⟩ := ry; exact PySem.EqNone.eq_none_int (fin_bl I q (by simp))
    | str j => obtain ⟨t', rfl⟩ := ry; exact PySem.EqNone.eq_none_str (fin_bl I q (by simp))
    | _ => exact absurd (show false = true from hs) Bool.false_ne_true
  | bl i =>
    cases rx
    cases y with
    | non => cases ry; exact PySem.EqNone.eq_bool_none (fin_bl I q (by simp))
    | bl j => cases ry; exact eq_bool (fin_bl I q dec_bl)
    | str j => obtain ⟨t', rfl⟩ := ry; exact PySem.EqMixed.eq_bool_str (fin_bl I q (by simp))
    | _ => exact absurd (show false = true from hs) Bool.false_ne_true
  | int i =>
    obtain ⟨t, rfl⟩ := rx
    cases y with
    | non => cases ry; exact PySem.EqNone.eq_int_none (fin_bl I q (by simp))
    | int j => obtain ⟨t', rfl⟩ := ry; exact eq_int (fin_bl I q dec_int)
    | str j => obtain ⟨t', rfl⟩ := ry; exact PySem.EqMixed.eq_int_str (fin_bl I q (by simp))
    | _ => exact absurd (show false = true from hs) Bool.false_ne_true
  | str i =>
    obtain ⟨t, rfl⟩ := rx
    cases y with
    | non => cases ry; exact PySem.EqNone.eq_str_none (fin_bl I q (by simp))
    | bl j => cases ry; exact PySem.EqMixed.eq_str_bool (fin_bl I q (by simp))
    | int j => obtain ⟨t', rfl⟩ := ry; exact PySem.EqMixed.eq_str_int (fin_bl I q (by simp))
    | str j => obtain ⟨t', rfl⟩ := ry; exact eq_str (fin_bl I q dec_str)
    | _ => exact absurd (show false = true from hs) Bool.false_ne_true
  | byt i =>
    obtain ⟨t, rfl⟩ := rx
    cases y with
    | byt j => obtain ⟨t', rfl⟩ := ry; exact PySem.W.eq_bytes (fin_bl I q dec_byt)
    | _ => exact absurd (show false = true from hs) Bool.false_ne_true
  | _ => cases y <;> exact absurd (show false = true from hs) Bool.false_ne_true
theorem op_ne : OpR X (compareOp .NotEq) rNe := by
  intro pins s σ H x y v u Q I rx ry h
  obtain ⟨hs, q⟩ := h
  cases x with
  | non =>
    cases rx
    cases y with
    | non => cases ry; exact PySem.EqNone.ne_none_none (fin_bl I q (by simp))
    | bl j => cases ry; exact PySem.EqNone.ne_none_bool (fin_bl I q (by simp))
    | int j => obtain ⟨t', rfl⟩ := ry; exact PySem.EqNone.ne_none_int (fin_bl I q (by simp))
    | str j => obtain ⟨t', rfl⟩ := ry; exact PySem.EqNone.ne_none_str (fin_bl I q (by simp))
    | _ => exact absurd (show false = true from hs) Bool.false_ne_true
  | bl i =>
    cases rx
    cases y with
    | non => cases ry; exact PySem.EqNone.ne_bool_none (fin_bl I q (by simp))
    | bl j => cases ry; exact ne_bool (fin_bl I q (congrArg not dec_bl))
    | str j => obtain ⟨t', rfl⟩ := ry; exact PySem.EqMixed.ne_bool_str (fin_bl I q (by simp))
    | _ => exact absurd (show false = true from hs) Bool.false_ne_true
  | int i =>
    obtain ⟨t, rfl⟩ := rx
    cases y with
    | non => cases ry; exact PySem.EqNone.ne_int_none (fin_bl I q (by simp))
    | int j => obtain ⟨t', rfl⟩ := ry; exact ne_int (fin_bl I q (congrArg not dec_int))
    | str j => obtain ⟨t', rfl⟩ := ry; exact PySem.EqMixed.ne_int_str (fin_bl I q (by simp))
    | _ => exact absurd (show false = true from hs) Bool.false_ne_true
  | str i =>
    obtain ⟨t, rfl⟩ := rx
    cases y with
    | non => cases ry; exact PySem.EqNone.ne_str_none (fin_bl I q (by simp))
    | bl j => cases ry; exact PySem.EqMixed.ne_str_bool (fin_bl I q (by simp))
    | int j => obtain ⟨t', rfl⟩ := ry; exact PySem.EqMixed.ne_str_int (fin_bl I q (by simp))
    | str j => obtain ⟨t', rfl⟩ := ry; exact ne_str (fin_bl I q (congrArg not dec_str))
    | _ => exact absurd (show false = true from hs) Bool.false_ne_true
  | byt i =>
    obtain ⟨t, rfl⟩ := rx
    cases y with
    | byt j => obtain ⟨t', rfl⟩ := ry; exact PySem.W.ne_bytes (fin_bl I q (congrArg not dec_byt))
    | _ => exact absurd (show false = true from hs) Bool.false_ne_true
  | _ => cases y <;> exact absurd (show false = true from hs) Bool.false_ne_true
theorem op_lt : OpR X (compareOp .Lt) (rI0 fun i j => .bl (decide (i < j))) := opB0 fun _ _ _ _ _ _ _ q => lt_int q
theorem op_le : OpR X (compareOp .LtE) (rI0 fun i j => .bl (decide (i ≤ j))) := opB0 fun _ _ _ _ _ _ _ q => le_int q
theorem op_gt : OpR X (compareOp .Gt) (rI0 fun i j => .bl (decide (j < i))) := opB0 fun _ _ _ _ _ _ _ q => gt_int q
theorem op_ge : OpR X (compareOp .GtE) (rI0 fun i j => .bl (decide (j ≤ i))) := opB0 fun _ _ _ _ _ _ _ q => ge_int q
/-- is, is not of two objects that are tracked lists or instances -/
def isObj : HO → Bool
  | .lst _ => true
  | .ins _ _ _ => true
  | _ => false
theorem nomark (b : Expr) {op : CmpOp} (h : op ≠ .In := by decide) (h2 : op ≠ .NotIn := by decide) : behindInMarks op b = false := by
  have e1 : (op == CmpOp.In) = false := by cases op <;> first | rfl | exact absurd rfl h
  have e2 : (op == CmpOp.NotIn) = false := by cases op <;> first | rfl | exact absurd rfl h2
  cases b <;> simp [behindInMarks, e1, e2]
/-- a comparison as a value; hm: nomark b, or (for in, not in) by with_unfolding_all rfl -/
theorem pe_cmpR {op : CmpOp} {r : R2} (ho : OpR X (compareOp op) r) (ha : PE X a ta) (hb : PE X b tb) (hm : behindInMarks op b = false) : PE X (.Compare a [op] [b] pos) (tOp r ta tb) := by
  intro pins s σ H Q I h
  exact wpAny_Compare1 (binT ha hb I h fun v u s2 x y H2 I2 rx ry q => ho pins s2 σ H2 x y v u Q I2 rx ry q) hm
/-- a reading of a value as a test -/
def tTest (t : TE) : TT := fun σ H Q => t σ H fun x H' => ∃ k, x = .bl k ∧ Q k H'
theorem pt_cmpR {op : CmpOp} {r : R2} (ho : OpR X (compareOp op) r) (ha : PE X a ta) (hb : PE X b tb) (hm : behindInMarks op b = false) : PT X (.Compare a [op] [b] pos) (tTest (tOp r ta tb)) := by
  intro pins s σ H Q I h
  refine wpAny_isTrue_Compare1 (thn (ha pins s σ H _ I h) fun v s1 ⟨x, H1, I1, r1, q1⟩ => thn (hb pins s1 σ H1 _ I1 q1) fun u s2 ⟨y, H2, I2, r2, q2⟩ =>
    thn (ho pins s2 σ H2 x y v u _ I2 r1 r2 q2) fun c s3 ⟨z, H3, I3, r3, k, e, q3⟩ => ?_) hm
  subst e
  cases r3
  exact wpAny_truthy_bool ⟨H3, I3, q3⟩
/-- a op1 b op2 c -/
def tChain (r r' : R2) (ta tb tc : TE) : TE := fun σ H Q => ta σ H fun x H1 => tb σ H1 fun y H2 => r x y H2 fun z H3 => ∃ k, z = .bl k ∧
  (if k = true then tc σ H3 fun w' H4 => r' y w' H4 Q else Q (.bl false) H3)
theorem pe_chain {op op' : CmpOp} {r r' : R2} (ho : OpR X (compareOp op) r) (ho' : OpR X (compareOp op') r') (ha : PE X a ta) (hb : PE X b tb) (hc : PE X c tc)
    (hm : lastMarks [op, op'] [b, c] = false := by with_unfolding_all rfl) : PE X (.Compare a [op, op'] [b, c] pos) (tChain r r' ta tb tc) := by
  intro pins s σ H Q I h
  refine Compare_chain (thn (ha pins s σ H _ I h) fun v s1 ⟨x, H1, I1, r1, q1⟩ => chain_link (thn (hb pins s1 σ H1 _ I1 q1) fun u s2 ⟨y, H2, I2, r2, q2⟩ =>
    thn (ho pins s2 σ H2 x y v u _ I2 r1 r2 q2) fun d s3 ⟨z, H3, I3, r3, k, e, q3⟩ => ?_)) hm
  subst e
  cases r3
  refine wpAny_truthy_bool ?_
  cases k with
  | false => exact ite_ff ⟨.bl false, H3, I3, rfl, q3⟩
  | true => exact ite_tt (chain_last (thn (hc pins s3 σ H3 _ I3 q3) fun w' s4 ⟨z', H4, I4, r4, q4⟩ => ho' pins s4 σ H4 y z' u w' Q I4 r2 r4 q4))
theorem pt_chain {op op' : CmpOp} {r r' : R2} (ho : OpR X (compareOp op) r) (ho' : OpR X (compareOp op') r') (ha : PE X a ta) (hb : PE X b tb) (hc : PE X c tc)
    (hm : lastMarks [op, op'] [b, c] = false := by with_unfolding_all rfl) : PT X (.Compare a [op, op'] [b, c] pos) (tTest (tChain r r' ta tb tc)) := by
  intro pins s σ H Q I h
  refine isTrue_chain (thn (ha pins s σ H _ I h) fun v s1 ⟨x, H1, I1, r1, q1⟩ => test_link (thn (hb pins s1 σ H1 _ I1 q1) fun u s2 ⟨y, H2, I2, r2, q2⟩ =>
    thn (ho pins s2 σ H2 x y v u _ I2 r1 r2 q2) fun d s3 ⟨z, H3, I3, r3, k, e, q3⟩ => ?_)) hm
  subst e
  cases r3
  refine wpAny_truthy_bool ?_
  cases k with
  | false =>
    obtain ⟨k', e', q'⟩ := q3
    cases e'
    exact ite_ff ⟨H3, I3, q'⟩
  | true =>
    refine ite_tt (test_last (thn (hc pins s3 σ H3 _ I3 q3) fun w' s4 ⟨z', H4, I4, r4, q4⟩ => thn (ho' pins s4 σ H4 y z' u w' _ I4 r2 r4 q4) fun d' s5 ⟨z2, H5, I5, r5, k2, e2, q5⟩ => ?_))
    subst e2
    cases r5
    exact wpAny_truthy_bool ⟨H5, I5, q5⟩
/-! ### truth -/
/-- a value's truth by the abstract heap -/
def TruV (K : PySem.W.Frag) (x : V) (H : Hp) (k : Bool) : Prop :=
  match x with
  | .non => k = false
  | .bl b => k = b
  | .int i => k = (i != 0)
  | .str y => y.length ≤ sizeLine ∧ k = ((y.length : Int) != 0)
  | .byt y => y.size ≤ sizeLine ∧ k = ((y.size : Int) != 0)
  | .ref p => (∃ xs, SqL K H p xs ∧ k = !xs.isEmpty) ∨ (∃ xs, SqT K H p xs ∧ k = !xs.isEmpty) ∨ ∃ kvs, H p = some (.dK kvs) ∧ k = !kvs.isEmpty
  | _ => False
theorem line63 : (sizeLine : Nat) < 2 ^ 63 := by rw [sizeLine_eq]; decide
/-! ### strs and bytes -/
def PlainIxT (b : Expr) : Prop := ∀ o i, subscripted b false o i = operate [o, i] (getItem o i)
/-! ### scalar builtins, by CallR -/
theorem vals1 {x : V} {us : List Value} (r : Vals [x] us) : ∃ u, us = [u] ∧ RelV x u := by
  cases r with
  | cons r1 r2 => cases r2; exact ⟨_, rfl, r1⟩
theorem vals2 {x y : V} {us : List Value} (r : Vals [x, y] us) : ∃ u w', us = [u, w'] ∧ RelV x u ∧ RelV y w' := by
  cases r with
  | cons r1 r2 =>
    cases r2 with
    | cons r3 r4 => cases r4; exact ⟨_, _, rfl, r1, r3⟩
theorem call_min2 (hc : X.calm = true) : CallR X (.builtin "min") (fun xs H Q => ∃ i j, xs = [.int i, .int j] ∧ Q (.int (if j < i then j else i)) H) := by
  intro pins s σ H xs us Q I r h
  obtain ⟨i, j, rfl, q⟩ := h
  obtain ⟨u, w', rfl, ⟨t, rfl⟩, ⟨t', rfl⟩⟩ := vals2 r
  refine min_two_ints (I.ok.hd hc) fun h' tk k => ⟨_, H, I.kept k, ?_, q⟩
  by_cases hj : j < i
  · rw [if_pos hj, if_pos hj]; exact ⟨_, rfl⟩
  · rw [if_neg hj, if_neg hj]; exact ⟨_, rfl⟩
/-- len of a str, a bytes, a list, a tuple -/
def LenV (K : PySem.W.Frag) (x : V) (H : Hp) (n : Nat) : Prop :=
  match x with
  | .str y => y.length ≤ sizeLine ∧ n = y.length
  | .byt y => y.size ≤ sizeLine ∧ n = y.size
  | .ref p => (∃ xs, SqL K H p xs ∧ n = xs.length) ∨ ∃ xs, SqT K H p xs ∧ n = xs.length
  | _ => False
end
end L2
namespace L2
open PySem PySem.Spec PyProof.Rows
/-! ### an instance, its attributes a map -/
structure ObjM (h : Heap) (x dx C : Addr) (mA : Str → Option Value) : Prop where
  obj : h.get? x = some (PySem.W.instObj C dx)
  ns : h.Ns1 dx mA
  ne : dx ≠ x
theorem lookIn_ns {h : Heap} {dx : Addr} {mA : Str → Option Value} (n : h.Ns1 dx mA) : ∃ od, h.get? dx = some od ∧ ∀ name, PySem.W.lookIn name od = some (mA name) := by
  obtain ⟨o, es, ep, ho, hd, hk, _, hm⟩ := n
  refine ⟨o, ho, fun name => ?_⟩
  have e := hm name
  unfold nsFind findBy at e
  rw [← Array.find?_toList] at e
  unfold PySem.W.lookIn
  rw [hd]
  dsimp only
  split
  · rename_i y q
    rw [q] at e
    exact congrArg some e
  · rename_i q
    rw [q] at e
    have a : es.toList.any (·.refKey) = false := by
      rw [List.any_eq_false]
      intro y hy
      obtain ⟨z, t, hkey⟩ := hk y (Array.mem_toList_iff.mp hy)
      simp [DictEntry.refKey, hkey]
    have a' : ¬ es.toList.any (·.refKey) = true := by rw [a]; exact Bool.false_ne_true
    rw [if_neg a']
    exact congrArg some e
theorem ObjM.look {h : Heap} {x dx C : Addr} {mA : Str → Option Value} (I : ObjM h x dx C mA) : ∃ od, PySem.W.InstAt h x (PySem.W.instObj C dx) C (some od) ∧ ∀ name, PySem.W.lookIn name od = some (mA name) :=
  let ⟨od, ho, hl⟩ := lookIn_ns I.ns
  ⟨od, ⟨I.obj, rfl, rfl, ho⟩, hl⟩
section
variable {prog : Program} {w : World} {A : Around} {E : Value → Shared → Prop} {s : Shared} {K : PySem.W.Frag} {x dx C f : Addr} {mA : Str → Option Value} {name : Str} {v : Value}
end
/-! ### the attributes as a list of pairs -/
def putF (f : Str) (v : V) : List (Str × V) → List (Str × V)
  | [] => [(f, v)]
  | (g, x) :: r => if g = f then (g, v) :: r else (g, x) :: putF f v r
section
variable {P : Program} {w : World} {H H' : Hp} {h h' : Heap} {a C dx : Addr} {fs fs' : List (Str × V)}
theorem ins_get (hok : HOk P w H h) (e : H a = some (.ins C dx fs)) : ∃ mA, ObjM h a dx C mA ∧ (∀ f, RelO (fs.lookup f) (mA f)) ∧ PySem.Within mA (fs.map (·.1)) ∧ fs.length ≤ 1000 ∧ H dx = some (.own a) := by
  obtain ⟨d, z, ne, ob, mA, n, r, q⟩ := (show ObjOk P w H h a (.ins C dx fs) from hok a _ e)
  exact ⟨mA, ⟨ob, n, ne⟩, r, q, z, d⟩
end
/-! ### what of the text a class must have -/
structure Cls (K : PySem.W.Frag) (C : Addr) : Prop where
  pg : PySem.W.plainGet K C Str.empty = true
  hd : PySem.W.hasDictIn K C = true
  po : PySem.W.plainOver K C = true
  sa : PySem.W.findIn K (.ref C) "__setattr__" = some (some (.builtin "object.__setattr__"))
theorem Cls.get {K : PySem.W.Frag} {C : Addr} (c : Cls K C) (f : Str) : PySem.W.plainGet K C f = true := c.pg
/-- no class of it has the name -/
def NoAttr (K : PySem.W.Frag) (C : Addr) (f : Str) : Prop := PySem.W.findIn K (.ref C) f = some none
/-- a constant of the class -/
structure Con (K : PySem.W.Frag) (C : Addr) (f : Str) (v : V) (u : Value) : Prop where
  at_ : PySem.W.findIn K (.ref C) f = some (some u)
  rel : RelV v u
  get : PySem.W.specialIn K u "__get__" = some none
  cp : PySem.W.copiedNames.contains f = false
/-- a method: a plain def of the class or of one above it -/
structure Meth (K : PySem.W.Frag) (C : Addr) (m : Str) (f : Addr) : Prop where
  at_ : PySem.W.findIn K (.ref C) m = some (some (.ref f))
  fn : PySem.W.isFn K (.ref f) = true
  kp : PySem.W.keepIn K (.ref f) = true
section
variable {X : Cx} {pins : List (Addr × Obj)} {σ : St} {H : Hp} {s : Shared} {a C dx : Addr} {fs : List (Str × V)} {f : Str} {v : V} {A : Around} {E : Value → Shared → Prop}
end
/-! ### readings and rules -/
/-- e.f, an attribute of the instance -/
def tFld (K : PySem.W.Frag) (ta : TE) (f : Str) : TE := fun σ H Q => ta σ H fun x H1 => ∃ a C dx fs v, x = .ref a ∧ H1 a = some (.ins C dx fs) ∧ Cls K C ∧ NoAttr K C f ∧ fs.lookup f = some v ∧ Q v H1
/-- e.f, a constant of the class -/
def tCon (K : PySem.W.Frag) (ta : TE) (f : Str) : TE := fun σ H Q => ta σ H fun x H1 => ∃ a C dx fs v u, x = .ref a ∧ H1 a = some (.ins C dx fs) ∧ Cls K C ∧ Con K C f v u ∧ fs.lookup f = none ∧ Q v H1
/-- e.f = value -/
def sFld (K : PySem.W.Frag) (ta tv : TE) (f : Str) : TS := fun D σ H => tv σ H fun y H1 => ta σ H1 fun x H2 => ∃ a C dx fs, x = .ref a ∧ H2 a = some (.ins C dx fs) ∧ Cls K C ∧ NoAttr K C f ∧ fs.length < 1000 ∧
  D.nx σ (upd H2 a (.ins C dx (putF f y fs)))
/-- an augmented operator on two values -/
def InOp (X : Cx) (op : Operator) (rd : V → V → Hp → VK → Prop) : Prop :=
  ∀ (pins : List (Addr × Obj)) (s : Shared) (σ : St) (H : Hp) (x y : V) (u v : Value) (Q : VK), Inv X pins σ H s → RelV x u → RelV y v → rd x y H Q → wpAny (model X.prog X.w) X.A (inplaceOp op u v) (EP X pins σ Q) X.xe s
/-- e.f op= value -/
def sFldAug (K : PySem.W.Frag) (ta tv : TE) (rd : V → V → Hp → VK → Prop) (f : Str) : TS := fun D σ H => ta σ H fun x H1 => ∃ a C dx fs v, x = .ref a ∧ H1 a = some (.ins C dx fs) ∧ Cls K C ∧ NoAttr K C f ∧ fs.lookup f = some v ∧
  tv σ H1 fun y H2 => rd v y H2 fun z H3 => ∃ dx' fs', H3 a = some (.ins C dx' fs') ∧ fs'.length < 1000 ∧ D.nx σ (upd H3 a (.ins C dx' (putF f z fs')))
section
variable {X : Cx} {o e value : Expr} {f : Str} {pos pos' tpos : Pos} {ta tv : TE}
def rAdd : V → V → Hp → VK → Prop := fun x y H Q => ∃ i j, x = .int i ∧ y = .int j ∧ Q (.int (i + j)) H
def rSub : V → V → Hp → VK → Prop := fun x y H Q => ∃ i j, x = .int i ∧ y = .int j ∧ Q (.int (i - j)) H
end
/-! ### isinstance -/
section
variable {X : Cx} {pins : List (Addr × Obj)} {σ : St} {H : Hp} {s : Shared} {A : Around} {E : Value → Shared → Prop} {Q : Value → Shared → Prop} {c : Value} {b : Bool}
/-- the type of a value, as the fragment's deciders take it; for an instance its class -/
inductive TyOf (K : PySem.W.Frag) (H : Hp) : V → Value → Prop where
  | non : TyOf K H .non (.type "NoneType")
  | bl (x : Bool) : TyOf K H (.bl x) (.type "bool")
  | int (i : Int) : TyOf K H (.int i) (.type "int")
  | str (x : Str) : TyOf K H (.str x) (.type "str")
  | flt (x : UInt64) : TyOf K H (.flt x) (.type "float")
  | lst {a : Addr} {xs : List V} (e : H a = some (.lst xs)) : TyOf K H (.ref a) (.type "list")
  | frz {a : Addr} {o : Obj} {xs : List V} (e : H a = some (.frz o (.lst xs))) : TyOf K H (.ref a) (.type "list")
  | tup {a : Addr} {xs : List V} (e : H a = some (.tup xs)) : TyOf K H (.ref a) (.type "tuple")
  | dK {a : Addr} {kvs : List (Key × V)} (e : H a = some (.dK kvs)) : TyOf K H (.ref a) (.type "dict")
  | dT {a : Addr} {kvs : List (List Key × V)} (e : H a = some (.dT kvs)) : TyOf K H (.ref a) (.type "dict")
  | ins {a C dx : Addr} {fs : List (Str × V)} (e : H a = some (.ins C dx fs)) (cl : Cls K C) (ha : PySem.W.findIn K (.ref C) "__class__" = some (some (.builtin "object.__class__")))
      (hn : PySem.W.specialIn K (.builtin "object.__class__") "__get__" = some (some (.builtin "getset_descriptor.__get__"))) (htk : PySem.W.takesIn K (.builtin "object.__class__") = some true)
      (hm : PySem.W.mroIn K C (.type "object") = some true) : TyOf K H (.ref a) (.ref C)
/-- isinstance(x, c) for one class c, a built-in or an own one: kitOne's answer -/
theorem isinst_ok {x : V} {u t : Value} (I : Inv X pins σ H s) (rx : RelV x u) (ty : TyOf X.K H x t) (e : PySem.W.kitOne X.K t c = some b) (h : ∀ tk, Q (.bool b) { s with toks := tk }) :
    wpAny (model X.prog X.w) A (call (.builtin "isinstance") [u, c]) Q E s := by
  cases ty with
  | non => cases (show u = Value.none from rx); exact PySem.W.kia_one PySem.W.kitx_none I.kIn True.intro e (fun z => nomatch z) h
  | bl y => cases (show u = Value.bool y from rx); exact PySem.W.kia_one PySem.W.kitx_bool I.kIn True.intro e (fun z => nomatch z) h
  | int i => obtain ⟨t, q⟩ := (show ∃ t, u = Value.int i t from rx); cases q; exact PySem.W.kia_one PySem.W.kitx_int I.kIn True.intro e (fun z => nomatch z) h
  | str y => obtain ⟨t, q⟩ := (show ∃ t, u = Value.str y t from rx); cases q; exact PySem.W.kia_one PySem.W.kitx_str I.kIn True.intro e (fun z => nomatch z) h
  | flt y => obtain ⟨t, q⟩ := (show ∃ t, u = Value.float y t from rx); cases q; exact PySem.W.kia_one PySem.W.kitx_float I.kIn True.intro e (fun z => nomatch z) h
  | @lst a xs ea =>
    cases (show u = Value.ref a from rx)
    obtain ⟨_, _, n, _, h1⟩ := (show ObjOk X.prog X.w H s.heap a (.lst xs) from I.hok a _ ea)
    exact PySem.W.kia_one PySem.W.kitx_list I.kIn ⟨_, h1, rfl⟩ e (fun z => nomatch z) h
  | @frz a ob xs ea =>
    cases (show u = Value.ref a from rx)
    obtain ⟨_, _, _, n, _, h1⟩ := (show ObjOk X.prog X.w H s.heap a (.frz ob (.lst xs)) from I.hok a _ ea)
    exact PySem.W.kia_one PySem.W.kitx_list I.kIn ⟨_, h1, rfl⟩ e (fun z => nomatch z) h
  | @tup a xs ea =>
    cases (show u = Value.ref a from rx)
    obtain ⟨_, _, _, p⟩ := (show ObjOk X.prog X.w H s.heap a (.tup xs) from I.hok a _ ea)
    obtain ⟨o, h1, h2, _⟩ := p
    exact PySem.W.kia_one PySem.W.kitx_tuple I.kIn ⟨o, h1, h2⟩ e (fun z => nomatch z) h
  | @dK a kvs ea =>
    cases (show u = Value.ref a from rx)
    obtain ⟨_, _, vs, _, p⟩ := (show ObjOk X.prog X.w H s.heap a (.dK kvs) from I.hok a _ ea)
    obtain ⟨o, es, ep, h1, h2, _⟩ := p
    exact PySem.W.kia_one PySem.W.kitx_dict I.kIn ⟨o, h1, h2.1⟩ e (fun z => nomatch z) h
  | @dT a kvs ea =>
    cases (show u = Value.ref a from rx)
    obtain ⟨_, _, xs, _, o, es, ep, h1, h2, _⟩ := (show ObjOk X.prog X.w H s.heap a (.dT kvs) from I.hok a _ ea)
    exact PySem.W.kia_one PySem.W.kitx_dict I.kIn ⟨o, h1, h2.1⟩ e (fun z => nomatch z) h
  | @ins a C dx fs ea cl ha hn htk hm =>
    cases (show u = Value.ref a from rx)
    obtain ⟨mA, O, _⟩ := ins_get I.hok ea
    obtain ⟨od, J, _⟩ := O.look
    exact PySem.W.kia_one (PySem.W.kitx_own (cl.get _) cl.hd ha hn htk hm) I.kIn J e (fun z => nomatch z) h
end
end L2
namespace L2
open PySem PySem.Spec PyProof.Rows
/-! ### room -/
structure Room (k : Nat) (A : Around) : Prop where
  hd : A.handled = none
  dp : A.depth + 3 * k + 5 < recursionLimit
  un : A.units + 16 * k + 200 < cLine
theorem Room.mono {j k : Nat} {A : Around} (r : Room k A) (h : j ≤ k) : Room j A := ⟨r.hd, by have := r.dp; omega, by have := r.un; omega⟩
theorem Room.deeper {k : Nat} {A : Around} (r : Room (k + 1) A) (env : Env) : Room k (A.deeper env) :=
  ⟨r.hd, by have := r.dp; show A.depth + 1 + 3 * k + 5 < _; omega, by have := r.un; show A.units + 3 + 16 * k + 200 < _; omega⟩
theorem Room.depth {k : Nat} {A : Around} (r : Room k A) : A.depth < recursionLimit := by have := r.dp; omega
theorem Room.units0 {k : Nat} {A : Around} (r : Room k A) : A.units < cLine := by have := r.un; omega
/-! ### argument lists and displays -/
def tNil : TA := fun _ H Q => Q [] H
def tCons (ta : TE) (tr : TA) : TA := fun σ H Q => ta σ H fun x H1 => tr σ H1 fun xs H2 => Q (x :: xs) H2
section
variable {X : Cx} {e : Expr} {es : List Expr} {te : TE} {t : TA} {pos : Pos}
theorem pa_nil : PA X [] tNil := fun _ _ _ _ H Q I h => Calls.spliced_nil ⟨[], H, I, .nil, h⟩
theorem pa_cons (ha : PE X e te) (hr : PA X es t) (hs : starEach (e :: es) X.env = (false, eval e X.env) :: starEach es X.env := by rfl) : PA X (e :: es) (tCons te t) := by
  intro pos pins s σ H Q I h
  rw [hs]
  show wpAny _ _ (spliced ((false, eval e X.env) :: backTo pos (starEach es X.env))) _ _ s
  refine Calls.spliced_cons (thn (ha pins s σ H _ I h) fun u s1 ⟨x, H1, I1, r1, q1⟩ => ?_)
  exact thn (hr pos pins s1 σ H1 _ I1 q1) fun us s2 ⟨xs, H2, I2, r2, q2⟩ => ⟨x :: xs, H2, I2, .cons r1 r2, q2⟩
/-- a tuple, a list of written items -/
def tTup (t : TA) : TE := fun σ H Q => t σ H fun xs H1 => xs.length ≤ sizeLine ∧ ∀ p, H1 p = none → Q (.ref p) (upd H1 p (.tup xs))
def tLst (t : TA) : TE := fun σ H Q => t σ H fun xs H1 => xs.length ≤ sizeLine ∧ ∀ p, H1 p = none → Q (.ref p) (upd H1 p (.lst xs))
theorem pe_tup {x1} (h : PA X es t) : PE X (.Tuple es x1 pos) (tTup t) := by
  intro pins s σ H Q I hq
  refine wpAny_Tuple_spliced (thn (h pos pins s σ H _ I hq) fun us s1 ⟨xs, H1, I1, r, z, q⟩ => ⟨by rw [← r.length]; exact z, ?_⟩)
  have hf : H1 s1.heap.objs.size = none := I1.hok.fresh (Nat.le_refl _)
  refine ⟨.ref s1.heap.objs.size, upd H1 s1.heap.objs.size (.tup xs), I1.laid (t' := s1.toks) (fun b u e => Heap.get?_push_of_some _ e) (Nat.le_refl _) ?_, rfl, q _ hf⟩
  exact ⟨z, us, r, ⟨_, Heap.get?_push_size _ rfl, rfl, _, rfl⟩⟩
theorem pe_lst (h : PA X es t) : PE X (.List es pos) (tLst t) := by
  intro pins s σ H Q I hq
  refine wpAny_List_spliced (thn (h pos pins s σ H _ I hq) fun us s1 ⟨xs, H1, I1, r, z, q⟩ => ⟨by rw [← r.length]; exact z, ?_⟩)
  have hf : H1 s1.heap.objs.size = none := I1.hok.fresh (Nat.le_refl _)
  refine ⟨.ref s1.heap.objs.size, upd H1 s1.heap.objs.size (.lst xs), I1.laid (t' := s1.toks) (fun b u e => Heap.get?_push_of_some _ e) (Nat.le_refl _) ?_, rfl, q _ hf⟩
  exact ⟨z, us, 0, r, Heap.get?_push_size _ rfl⟩
end
/-! ### what a def promises -/
/-- a def's promise: the bound arguments in the parameters' order, the heap, the wanted end, the wanted exception -/
abbrev Sp := List V → Hp → VK → XK → Prop
/-- how an exception lies behind a call (file 08 gives it): the callers' frames, abstract heap and state ahead of the call, the wish, the exception, the state -/
abbrev CXT := List Env → Hp → Shared → XK → Value → Shared → Prop
/-- the state at a call -/
structure Env0 (P : Program) (w : World) (K : PySem.W.Frag) (mg : Str → Option Value) (base : Heap) (A : Around) (outer : List Env) (s : Shared) (H : Hp) : Prop where
  frames : A.frames = some outer
  mod : Mod K mg base
  bs : ∀ b o, base.get? b = some o → s.heap.get? b = some o ∧ H b = none
  bsz : base.objs.size ≤ s.heap.objs.size
  funs : s.heap.FunFrames base outer
  frf : ∀ b ∈ frs outer, H b = none
  hok : HOk P w H s.heap
  bare : AllBare s.gens
/-- a call's end -/
def CE (outer : List Env) (P : Program) (w : World) (H : Hp) (s : Shared) (Q : VK) (u : Value) (s' : Shared) : Prop :=
  ∃ v H', s'.os = s.os ∧ AllBare s'.gens ∧ Un (frs outer) [] H H' s.heap s'.heap ∧ HOk P w H' s'.heap ∧ RelV v u ∧ Q v H'
def CR (CX : CXT) (outer : List Env) (P : Program) (w : World) (H : Hp) (s : Shared) (Q : VK) (E : XK) (r : Result) (s' : Shared) : Prop :=
  match r with
  | .ok (.ret u) => CE outer P w H s Q u s'
  | .ok _ => False
  | .error e => CX outer H s E e s'
structure FnOk (P : Program) (w : World) (K : PySem.W.Frag) (mg : Str → Option Value) (base : Heap) (CX : CXT) (k : Nat) (f : Addr) (fd : FuncData) (ps : List Str) (sp : Sp) : Prop where
  len : ∀ vs H Q E, sp vs H Q E → vs.length = ps.length
  run : ∀ (A : Around) (outer : List Env) (s : Shared) (H : Hp) (args : Args) (us : List Value) (vs : List V) (Q : VK) (E : XK), Room k A → Env0 P w K mg base A outer s H → BindsTo s fd args (ps.zip us) → Vals vs us → sp vs H Q E →
    codeAny (model P w) A (.call (.ref f) args) (CR CX outer P w H s Q E) s
section
variable {X : Cx} {pins : List (Addr × Obj)} {σ : St} {H : Hp} {s s' : Shared}
/-- from a body: what a callee wants -/
theorem Inv.env0 (I : Inv X pins σ H s) : Env0 X.prog X.w X.K X.mg X.base X.A X.stack s H :=
  ⟨I.ok.frames, I.ok.mod, I.bs, Nat.le_trans I.ok.bsz I.sz, I.stack, I.stkFree, I.hok, I.bare⟩
/-- behind a call -/
theorem Inv.after {Q : VK} {u : Value} (I : Inv X pins σ H s) (h : CE X.stack X.prog X.w H s Q u s') : EP X pins σ Q u s' := by
  obtain ⟨v, H', os, bare, un, hok, r, q⟩ := h
  obtain ⟨hh, g, d, t, os'⟩ := s'
  obtain rfl : os' = s.os := os
  exact ⟨v, H', I.call (h' := hh) (g' := g) (d' := d) (t' := t) (ch := []) un hok bare (fun b z => absurd z (by simp)), r, q⟩
end
/-! ### calls -/
/-- f(..): the written arguments, then the defaults dvs; E: what is wanted of an exception -/
def tCall (sp : Sp) (dvs : List V) (E : XK) (t : TA) : TE := fun σ H Q => t σ H fun vs H1 => sp (vs ++ dvs) H1 Q E
/-- o.m(..) of an instance of the class at C -/
def tMeth (C : Addr) (m : Str) (sp : Sp) (dvs : List V) (E : XK) (ta : TE) (t : TA) : TE := fun σ H Q => ta σ H fun x H1 => ∃ a dx fs, x = .ref a ∧ H1 a = some (.ins C dx fs) ∧ fs.lookup m = none ∧
  t σ H1 fun vs H2 => sp (x :: (vs ++ dvs)) H2 Q E
/-- C(..): a new instance and its dict, then __init__ -/
def tMake (C : Addr) (sp : Sp) (dvs : List V) (E : XK) (t : TA) : TE := fun σ H Q => t σ H fun vs H1 => ∀ x dx, H1 x = none → H1 dx = none → dx ≠ x →
  sp (.ref x :: (vs ++ dvs)) (upd (upd H1 dx (.own x)) x (.ins C dx [])) (fun v H2 => v = .non ∧ Q (.ref x) H2) E
/-- how the parameters are bound: us the positional arguments, kw the keywords' values by name, ds the defaults that fill up -/
def Binds (K : PySem.W.Frag) (fd : FuncData) (ps : List Str) (ds : List Value) : Prop :=
  ∀ (s : Shared) (us : List Value), K.In s.heap → (us ++ ds).length = ps.length → BindsTo s fd ⟨us, []⟩ (ps.zip (us ++ ds))
/-- every parameter is given -/
theorem Binds.all {K : PySem.W.Frag} {fd : FuncData} {ps : List Str} (h : ∀ us : List Value, us.length = ps.length → bindArgs fd ⟨us, []⟩ = pure (ps.zip us)) : Binds K fd ps [] := fun s us _ hl => by
  rw [List.append_nil] at hl ⊢
  exact .of_eq (h us hl)
/-- an exception of a callee reaches what this body wants of exceptions -/
def Passes (CX : CXT) (X : Cx) (E : XK) : Prop := ∀ (pins : List (Addr × Obj)) (σ : St) (H : Hp) (s : Shared) (e : Value) (s' : Shared), Inv X pins σ H s → CX X.stack H s E e s' → X.xe e s'
section
variable {X : Cx} {CX : CXT} {k : Nat} {f C : Addr} {fd : FuncData} {ps : List Str} {sp : Sp} {dvs : List V} {ds : List Value} {E : XK} {x m : Str} {p pos apos : Pos} {e o : Expr} {es : List Expr} {ta : TE} {t : TA}
/-- the callee runs -/
theorem run_fn {pins : List (Addr × Obj)} {σ : St} {H : Hp} {s : Shared} {Q : VK} {us : List Value} {vs : List V} (F : FnOk X.prog X.w X.K X.mg X.base CX k f fd ps sp) (hr : Room k X.A) (hb : Binds X.K fd ps ds) (hd : Vals dvs ds) (hx : Passes CX X E)
    (I : Inv X pins σ H s) (r : Vals vs us) (h : sp (vs ++ dvs) H Q E) : wpAny (model X.prog X.w) X.A (call (.ref f) us) (EP X pins σ Q) X.xe s := by
  have r2 : Vals (vs ++ dvs) (us ++ ds) := r.append hd
  have hl : (us ++ ds).length = ps.length := by rw [← r2.length]; exact F.len _ _ _ _ h
  refine wpAny_call (codeAny_mono (F.run X.A X.stack s H ⟨us, []⟩ (us ++ ds) (vs ++ dvs) Q E hr I.env0 (hb s us I.kIn hl) r2 h) fun r s' hq => ?_)
  cases r with
  | error e => exact hx pins σ H s e s' I hq
  | ok fl =>
    cases fl with
    | ret u => exact I.after hq
    | next => exact False.elim hq
    | brk => exact False.elim hq
    | cont => exact False.elim hq
theorem pe_call (F : FnOk X.prog X.w X.K X.mg X.base CX k f fd ps sp) (hr : Room k X.A) (hg : Gl X x) (hm : X.mg x = some (.ref f)) (hk : PySem.W.keepIn X.K (.ref f) = true) (hb : Binds X.K fd ps ds) (hd : Vals dvs ds) (hx : Passes CX X E)
    (ha : PA X (e :: es) t) (hdb : (x == ("__debug__" : Str)) = false := by decide) (he : starEach (e :: es) X.env = (false, eval e X.env) :: starEach es X.env := by rfl) (hpl : (backTo pos (starEach es X.env)).any (·.1) = false := by rfl) :
    PE X (.Call (.Name x p) (e :: es) [] pos) (tCall sp dvs E t) := by
  intro pins s σ H Q I h
  refine wpAny_Call_Name_kw (ld_glob I hg hm ?_ hdb)
  refine PySem.W.callWith_K (h₀ := X.base) I.ok.mod.kin hk (thn (ha pos pins s σ H _ I h) fun us s1 ⟨vs, H1, I1, r, q⟩ => ⟨I1.kIn, ?_⟩) he hpl
  exact run_fn F hr hb hd hx I1 r q
/-- what a class must have to be made -/
structure Mk (K : PySem.W.Frag) (C f : Addr) : Prop where
  makes : PySem.W.makesIn K C = true
  init : PySem.W.findIn K (.ref C) "__init__" = some (some (.ref f))
  fn : PySem.W.isFn K (.ref f) = true
  kp : PySem.W.keepIn K (.ref C) = true
end
/-! ### keywords -/
/-- the values of the keywords, from the left -/
def PK (X : Cx) (kws : List Keyword) (t : TA) : Prop :=
  ∀ (pos : Pos) (pins : List (Addr × Obj)) (s : Shared) (σ : St) (H : Hp) (Q : List V → Hp → Prop), Inv X pins σ H s → t σ H Q → wpAny (model X.prog X.w) X.A (evalAll ((backToKw pos (keywordEach kws X.env)).map (·.2))) (AP X pins σ Q) X.xe s
section
variable {X : Cx} {CX : CXT} {k : Nat} {f C : Addr} {fd : FuncData} {ps ks : List Str} {sp : Sp} {E : XK} {x m : Str} {p pos apos kpos : Pos} {e o : Expr} {es : List Expr} {kws : List Keyword} {te ta : TE} {t tk : TA} {nm : Option Str}
theorem pk_nil : PK X [] tNil := fun _ _ _ _ H Q I h => wpAny_evalAll_nil ⟨[], H, I, .nil, h⟩
theorem pk_cons (ha : PE X e te) (hr : PK X kws t) : PK X (⟨nm, e, kpos⟩ :: kws) (tCons te t) := by
  intro pos pins s σ H Q I h
  show wpAny _ _ (evalAll ((do let v ← eval e X.env; standAt pos; pure v) :: (backToKw pos (keywordEach kws X.env)).map (·.2))) _ _ s
  refine wpAny_evalAll_cons (wpAny_bind (thn (ha pins s σ H _ I h) fun u s1 ⟨x, H1, I1, r1, q1⟩ => wpAny_bind (wpAny_standAt (wpAny_pure ?_))))
  exact thn (hr pos pins s1 σ H1 _ I1 q1) fun us s2 ⟨xs, H2, I2, r2, q2⟩ => ⟨x :: xs, H2, I2, .cons r1 r2, q2⟩
/-- how a call with keywords binds: g puts the positional values us and the keywords' values ws (names ks) in the parameters' order, defaults among them -/
structure KBinds (K : PySem.W.Frag) (fd : FuncData) (ps ks : List Str) (g : List Value → List Value → List Value) (gV : List V → List V → List V) : Prop where
  to : ∀ (s : Shared) (us ws : List Value), K.In s.heap → (g us ws).length = ps.length → BindsTo s fd ⟨us, ks.zip ws⟩ (ps.zip (g us ws))
  rel : ∀ {vs : List V} {us : List Value} {zs : List V} {ws : List Value}, Vals vs us → Vals zs ws → Vals (gV vs zs) (g us ws)
def tCallK (sp : Sp) (gV : List V → List V → List V) (E : XK) (t tk : TA) : TE := fun σ H Q => t σ H fun vs H1 => tk σ H1 fun zs H2 => sp (gV vs zs) H2 Q E
variable {g : List Value → List Value → List Value} {gV : List V → List V → List V}
end
/-! ### a def's body keeps its promise -/
/-- names: the parameters first -/
structure FnScope (N P : List Str) (sc : Scope) : Prop where
  kind : sc.kind = .function
  co : sc.isCoroutine = false
  gen : sc.isGenerator = false
  nd : N.Nodup
  pre : N.take P.length = P
  par : ∀ x ∈ P, sc.names.lookup x = some .local ∨ sc.names.lookup x = some .cell
  nofree : ∀ y ∈ sc.names, y.2 ≠ .free
theorem bindL_out {kindOf : Str → Option NameKind} {x : Str} : ∀ {binds : List (Str × Value)} {m : Str → Option Value}, (∀ v, (x, v) ∉ binds) → bindL kindOf binds m x = m x
  | [], _, _ => rfl
  | (n, v) :: r, m, h => by
    unfold bindL
    rw [bindL_out fun w hw => h w (List.mem_cons_of_mem _ hw)]
    split
    · have : x ≠ n := by rintro rfl; exact h v List.mem_cons_self
      simp [this]
    · rfl
theorem bindC_out {kindOf : Str → Option NameKind} {x : Str} : ∀ {binds : List (Str × Value)} {m : Str → Option Value}, (∀ v, (x, v) ∉ binds) → bindC kindOf binds m x = m x
  | [], _, _ => rfl
  | (n, v) :: r, m, h => by
    unfold bindC
    rw [bindC_out fun w hw => h w (List.mem_cons_of_mem _ hw)]
    split
    · rfl
    · have : x ≠ n := by rintro rfl; exact h v List.mem_cons_self
      simp [this]
theorem bindL_get {kindOf : Str → Option NameKind} {x : Str} {v : Value} : ∀ {P : List Str} {vs : List Value} {i : Nat} {m : Str → Option Value}, P.Nodup → P[i]? = some x → vs[i]? = some v → kindOf x = some .local →
    bindL kindOf (P.zip vs) m x = some v
  | [], _, _, _, _, h, _, _ => by simp at h
  | _ :: _, [], _, _, _, _, h, _ => by simp at h
  | p :: P, w :: vs, 0, m, nd, h1, h2, hk => by
    simp at h1 h2; subst h1; subst h2
    show bindL kindOf ((p, w) :: P.zip vs) m p = _
    unfold bindL
    rw [bindL_out fun v hv => (List.nodup_cons.mp nd).1 (List.of_mem_zip hv).1, if_pos hk]
    simp
  | p :: P, w :: vs, i + 1, m, nd, h1, h2, hk => by
    show bindL kindOf ((p, w) :: P.zip vs) m x = _
    unfold bindL
    exact bindL_get (i := i) (List.nodup_cons.mp nd).2 (by simpa using h1) (by simpa using h2) hk
theorem bindC_get {kindOf : Str → Option NameKind} {x : Str} {v : Value} : ∀ {P : List Str} {vs : List Value} {i : Nat} {m : Str → Option Value}, P.Nodup → P[i]? = some x → vs[i]? = some v → kindOf x ≠ some .local →
    bindC kindOf (P.zip vs) m x = some v
  | [], _, _, _, _, h, _, _ => by simp at h
  | _ :: _, [], _, _, _, _, h, _ => by simp at h
  | p :: P, w :: vs, 0, m, nd, h1, h2, hk => by
    simp at h1 h2; subst h1; subst h2
    show bindC kindOf ((p, w) :: P.zip vs) m p = _
    unfold bindC
    rw [bindC_out fun v hv => (List.nodup_cons.mp nd).1 (List.of_mem_zip hv).1, if_neg hk]
    simp
  | p :: P, w :: vs, i + 1, m, nd, h1, h2, hk => by
    show bindC kindOf ((p, w) :: P.zip vs) m x = _
    unfold bindC
    exact bindC_get (i := i) (List.nodup_cons.mp nd).2 (by simpa using h1) (by simpa using h2) hk
/-- the names' values at the entry -/
def start (N : List Str) (vs : List V) : St := vs.map some ++ List.replicate (N.length - vs.length) none
/-- the context of a def's body, at its entry; an exception leaves the frame, then lies as CX says -/
def cxOf (CX : CXT) (P : Program) (w : World) (K : PySem.W.Frag) (mg : Str → Option Value) (base : Heap) (N : List Str) (qual : Str) (scope : Scope) (f : Addr) (cd : Value) (A : Around) (outer : List Env) (s : Shared) (H : Hp) (E : XK) : Cx where
  prog := P
  w := w
  K := K
  mg := mg
  base := base
  A := A.deeper (envOfC qual scope s.heap.objs.size f cd)
  N := N
  s₀ := s
  H₀ := H
  env := envOfC qual scope s.heap.objs.size f cd
  outer := outer
  stack := envOfC qual scope s.heap.objs.size f cd :: outer
  ex := []
  calm := true
  fn := fun _ => true
  pn := []
  xe := fun e s' => wpAny (model P w) (A.deeper (envOfC qual scope s.heap.objs.size f cd)) (leaving (envOfC qual scope s.heap.objs.size f cd) e) (fun _ s'' => CX outer H s E e s'') (fun e' s'' => CX outer H s E e' s'') s'
theorem cell_has {sc : Scope} {n : Nat} {x : Str} (h : sc.names.lookup x = some .cell) : ∃ c, (cellsFrom n sc.names []).lookup x = some c := by
  have q := PySem.W.cellsFrom_some sc.names n [] (.inl h)
  exact Option.isSome_iff_exists.mp q
theorem inv_start {CX : CXT} {P : Program} {w : World} {K : PySem.W.Frag} {mg : Str → Option Value} {base : Heap} {N ps : List Str} {qual : Str} {scope : Scope} {f : Addr} {cd : Value} {A : Around} {outer : List Env} {s s1 : Shared} {H : Hp} {E : XK} {us : List Value} {vs : List V}
    (S : FnScope N ps scope) (hd : A.handled = none) (e0 : Env0 P w K mg base A outer s H) (hl : vs.length = ps.length) (r : Vals vs us)
    (x : InCallC s s.heap.objs.size (bindL (envOfC qual scope s.heap.objs.size f cd).kindOf (ps.zip us) fun _ => none) (cellsFrom (s.heap.objs.size + 1) scope.names []) (bindC (envOfC qual scope s.heap.objs.size f cd).kindOf (ps.zip us) fun _ => none) s1) :
    Inv (cxOf CX P w K mg base N qual scope f cd A outer s H E) [] (start N vs) H s1 := by
  have hpl : ps.length ≤ N.length := by have := congrArg List.length S.pre; rw [List.length_take] at this; omega
  obtain ⟨h1, tk, rfl, hk⟩ := x.done
  have noA : ∀ b : Addr, b ∉ (cxOf CX P w K mg base N qual scope f cd A outer s H E).ex := fun b z => absurd (show b ∈ ([] : List Addr) from z) (by simp)
  refine ⟨⟨e0.mod, S.kind, rfl, rfl, Nat.le_refl _, fun y z c h1 h2 => ?_, fun y hy => ?_, fun y c _ h => ?_, fun _ => hd, Around.frames_deeper e0.frames, .inr ⟨rfl, rfl⟩, fun b z => absurd z (noA b), e0.bs, e0.bsz, fun b _ _ => noA b, fun b z => absurd z (noA b), e0.funs, e0.frf⟩,
    rfl, e0.bare, Un.kept hk, ⟨_, x.toInCall.ns, fun i y v h1 h2 h3 => ?_⟩, fun y c h => ⟨_, x.cell y c h⟩, e0.hok.fresh (Nat.le_refl _), fun y c h => ?_, fun p hp => absurd (show p ∈ ([] : List (Addr × Obj)) from hp) (by simp), e0.hok.kept hk, ?_⟩
  · exact name_of_addr x.apart (PySem.mem_of_lookup h1) (PySem.mem_of_lookup h2)
  · have hy : scope.names.lookup y = some .cell ∨ scope.names.lookup y = some .free := hy
    rcases hy with hy | hy
    · exact cell_has hy
    · exact absurd rfl (S.nofree _ (PySem.mem_of_lookup hy))
  · exact Nat.le_of_lt (x.above y c (PySem.mem_of_lookup h))
  · have hi : i < vs.length := by
      unfold start at h2
      by_cases hi : i < vs.length
      · exact hi
      · rw [List.getElem?_append_right (by simpa using hi)] at h2
        rw [List.getElem?_replicate] at h2
        split at h2 <;> cases h2
    have ha : vs[i]? = some v := by
      unfold start at h2
      rw [List.getElem?_append_left (by simpa using hi), List.getElem?_map] at h2
      cases e : vs[i]? with
      | none => rw [e] at h2; cases h2
      | some a => rw [e] at h2; cases h2; rfl
    obtain ⟨u, hu, rv⟩ := r.get ha
    have hp : ps[i]? = some y := by
      rw [← S.pre, List.getElem?_take_of_lt (by omega)]; exact h1
    have ndP : ps.Nodup := by rw [← S.pre]; exact S.nd.sublist (List.take_sublist _ _)
    refine ⟨u, rv, ?_⟩
    rcases S.par y (List.mem_of_getElem? hp) with k | k
    · exact .inl ⟨k, bindL_get ndP hp hu k⟩
    · obtain ⟨c, e⟩ := cell_has (n := s.heap.objs.size + 1) k
      refine .inr ⟨.inl k, c, e, ?_⟩
      have q := x.cell y c e
      rw [bindC_get ndP hp hu (by show scope.names.lookup y ≠ _; rw [k]; decide)] at q
      exact q
  · exact e0.hok.fresh (Nat.le_of_lt (x.above y c (PySem.mem_of_lookup h)))
  · unfold start
    show _ = N.length
    rw [List.length_append, List.length_map, List.length_replicate]
    omega
/-- THE RULE: a def (or a method) of the text, by its body. The body's reading t is chosen for each entry; it is run at the parameters' values -/
theorem fn_of {CX : CXT} {P : Program} {w : World} {K : PySem.W.Frag} {mg : Str → Option Value} {base : Heap} {k : Nat} {f : Addr} {name qual : Str} {params : Arguments} {body : List Stmt} {scope : Scope} {dV kV doc pm cdv ct oc : Value} {an od : Option Addr}
    {osl : Array (Option Value)} {N ps : List Str} {sp : Sp} (lk : K.lookup f = some ⟨oc, od, .func (PySem.W.fnOf name qual params body scope dV kV doc pm an cdv ct), osl⟩) (hcd : PySem.W.codeIn K cdv qual = true) (S : FnScope N ps scope)
    (len : ∀ vs H Q E, sp vs H Q E → vs.length = ps.length)
    (hbody : ∀ (A : Around) (outer : List Env) (s : Shared) (H : Hp) (vs : List V) (Q : VK) (E : XK), Room k (A.deeper (envOfC qual scope s.heap.objs.size f cdv)) → sp vs H Q E →
      ∃ t, PSs (cxOf CX P w K mg base N qual scope f cdv A outer s H E) body t ∧ t { nx := fun _ H' => Q .non H', rt := Q } (start N vs) H) :
    FnOk P w K mg base CX (k + 1) f (PySem.W.fnOf name qual params body scope dV kV doc pm an cdv ct) ps sp := by
  refine ⟨len, fun A outer s H args us vs Q E hr e0 hb r hsp => ?_⟩
  have hl := len _ _ _ _ hsp
  have KX : K.In s.heap := e0.mod.kin.keeps fun b o e => (e0.bs b o e).1
  have lim : s.heap.NoLimit := e0.mod.nolimit.keeps fun b o e => (e0.bs b o e).1
  have hkind : ∀ y ∈ ps.zip us, scope.names.lookup y.1 = some .local ∨ (scope.names.lookup y.1 = some .cell ∧ ((cellsFrom (s.heap.objs.size + 1) scope.names []).lookup y.1).isSome = true) := fun ⟨n, v⟩ hy => by
    rcases S.par n (List.of_mem_zip hy).1 with q | q
    · exact .inl q
    · exact .inr ⟨q, PySem.W.cellsFrom_some _ _ _ (.inl q)⟩
  refine codeAny_call_function hr.depth (KX _ _ lk) rfl S.co S.gen rfl (PySem.W.codeRec_of KX hcd) (hb _ _ _ _ ?_)
  refine wpAny_newFunctionEnv_cells S.kind hkind fun env he s1 x => ?_
  subst he
  refine ⟨lim.keeps x.toInCall.keep, codeAny_func ?_⟩
  obtain ⟨t, ht, hq⟩ := hbody A outer s H vs Q E (hr.deeper _) hsp
  have I : Inv (cxOf CX P w K mg base N qual scope f cdv A outer s H E) [] (start N vs) H s1 := inv_start S hr.hd e0 hl r x
  refine wpAny_mono (ht [] s1 (start N vs) H _ I hq) (fun fl s' hs => ?_) fun e s' hs => hs
  have fin : ∀ {σ' : St} {H' : Hp} {v : V} {u : Value}, Inv (cxOf CX P w K mg base N qual scope f cdv A outer s H E) [] σ' H' s' → RelV v u → Q v H' → CE outer P w H s Q u s' :=
    fun {σ' H' v u} J rv q => ⟨v, H', J.os, J.bare, J.base, J.hok, rv, q⟩
  cases fl with
  | ret u =>
    obtain ⟨v, σ', H', J, rv, q⟩ := hs
    exact fin J rv q
  | next =>
    obtain ⟨σ', H', J, q⟩ := hs
    exact fin (v := V.non) (u := Value.none) J rfl q
  | brk =>
    obtain ⟨_, _, _, q⟩ := hs
    exact False.elim q
  | cont =>
    obtain ⟨_, _, _, q⟩ := hs
    exact False.elim q
end L2
namespace L2
open PySem PySem.Spec PyProof.Rows
section
variable {X : Cx} {x : Str} {p pos : Pos} {e : Expr} {es : List Expr} {t : TA} {id T : String} {r : List V → Hp → VK → Prop}
def tCB (r : List V → Hp → VK → Prop) (t : TA) : TE := fun σ H Q => t σ H fun vs H1 => r vs H1 Q
/-- f(e, ..), f a built-in function -/
theorem pe_callB (hc : CallR X (.builtin id) r) (hg : Gl X x) (hm : X.mg x = none) (hv : bootBuiltins x = some (.builtin id)) (ha : PA X (e :: es) t) (hn : x ≠ "__name__" := by decide) (hdb : (x == ("__debug__" : Str)) = false := by decide)
    (he : starEach (e :: es) X.env = (false, eval e X.env) :: starEach es X.env := by rfl) (hpl : (backTo pos (starEach es X.env)).any (·.1) = false := by rfl) : PE X (.Call (.Name x p) (e :: es) [] pos) (tCB r t) := by
  intro pins s σ H Q I h
  refine wpAny_Call_Name_kw (ld_blt I hg hm hv ?_ hn hdb)
  exact PyProof.Rows.callWith_builtin1 (thn (ha pos pins s σ H _ I h) fun us s1 ⟨vs, H1, I1, r1, q1⟩ => hc pins s1 σ H1 vs us Q I1 r1 q1) he hpl
/-- T(e, ..), T a built-in type -/
theorem pe_callTy (hc : CallR X (.type T) r) (hg : Gl X x) (hm : X.mg x = none) (hv : bootBuiltins x = some (.type T)) (ha : PA X (e :: es) t) (hn : x ≠ "__name__" := by decide) (hdb : (x == ("__debug__" : Str)) = false := by decide)
    (he : starEach (e :: es) X.env = (false, eval e X.env) :: starEach es X.env := by rfl) (hpl : (backTo pos (starEach es X.env)).any (·.1) = false := by rfl) : PE X (.Call (.Name x p) (e :: es) [] pos) (tCB r t) := by
  intro pins s σ H Q I h
  refine wpAny_Call_Name_kw (ld_blt I hg hm hv ?_ hn hdb)
  exact PyProof.Rows.callWith_type1 (thn (ha pos pins s σ H _ I h) fun us s1 ⟨vs, H1, I1, r1, q1⟩ => hc pins s1 σ H1 vs us Q I1 r1 q1) he hpl
end
end L2
namespace HT
open PySem PyProof.Rows
/-- t < u of tuples of ints -/
def lexLt : List Int → List Int → Bool
  | [], [] => false
  | [], _ :: _ => true
  | _ :: _, [] => false
  | x :: xs, y :: ys => if x = y then lexLt xs ys else decide (x < y)
theorem eqAt_int (A : Around) (s : Shared) (a : Int) (t : Tok) (c : Int) (u : Tok) : ∃ e, SeqAt.EqAt A s (.int a t) (.int c u) e ∧ (e = true ↔ a = c) :=
  ⟨(a == c), SeqAt.EqAt.int_int a t c u, by simp⟩
section
open PySem.SeqAt
open PySem.AutoSeq1 (wpAny_loadPart')
open PySem.MeetsSeq PySem.MeetsSeq2 PySem.MeetsSeq3
end
section
variable {prog : Program} {w : World} {A : Around} {E : Value → Shared → Prop} {s : Shared}
/-! ### t[a:b], not the whole -/
/-- a slice's bound as a place among n (d where it is left out) -/
def sIx (n d : Nat) : Option Int → Nat
  | none => d
  | some v => if v < 0 then (v + (n : Int)).toNat else min v.toNat n
theorem sIx_none (n d : Nat) : sIx n d none = d := rfl
theorem sIx_nat (n d k : Nat) : sIx n d (some (k : Int)) = min k n := by
  show (if (k : Int) < 0 then ((k : Int) + (n : Int)).toNat else min (k : Int).toNat n) = min k n
  rw [if_neg (by omega), Int.toNat_natCast]
end
end HT
namespace L2
open PySem PySem.Spec PyProof.Rows
/-! ### the parts of a slice -/
abbrev TO := St → Hp → (Option Int → Hp → Prop) → Prop
/-- a slice's part (left out, or an int) -/
def PO (X : Cx) (e : Option Expr) (t : TO) : Prop :=
  ∀ (pins : List (Addr × Obj)) (s : Shared) (σ : St) (H : Hp) (Q : Option Int → Hp → Prop), Inv X pins σ H s → t σ H Q →
    wpAny (model X.prog X.w) X.A (evalPart e X.env) (fun u s' => ∃ o H', Inv X pins σ H' s' ∧ IsPart u o ∧ Q o H') X.xe s
def tNoPart : TO := fun _ H Q => Q none H
def tPart (t : TE) : TO := fun σ H Q => t σ H fun x H1 => ∃ i, x = .int i ∧ Q (some i) H1
theorem intsAre_of {ns : List Int} : ∀ {us : List Value}, Vals (ns.map V.int) us → IntsAre us ns := by
  induction ns with
  | nil => intro us r; rw [List.map_nil] at r; cases r; exact .nil
  | cons n ns ih =>
    intro us r
    rw [List.map_cons] at r
    cases r with
    | cons r1 r2 =>
      obtain ⟨t, e⟩ := r1
      subst e
      exact .cons n t (ih r2)
section
variable {X : Cx} {e : Expr} {te : TE} {lo hi : Option Expr} {tl th : TO} {pos p2 : Pos}
theorem po_none : PO X none tNoPart := by
  intro pins s σ H Q I h
  rw [evalPart_none]
  exact wpAny_pure ⟨none, H, I, .none, h⟩
theorem po_some (h : PE X e te) : PO X (some e) (tPart te) := by
  intro pins s σ H Q I hw
  rw [evalPart_some]
  refine thn (h pins s σ H _ I hw) fun u s1 ⟨x, H1, I1, r1, q1⟩ => ?_
  obtain ⟨i, rfl, q⟩ := q1
  obtain ⟨t, rfl⟩ := r1
  exact ⟨some i, H1, I1, .int i t, q⟩
/-- what a slice of a value is, by values: the slice object stands at sl -/
def SlR (X : Cx) (r : V → Option Int → Option Int → Hp → VK → Prop) : Prop :=
  ∀ (pins : List (Addr × Obj)) (s : Shared) (σ : St) (H : Hp) (x : V) (v vl vu : Value) (lo hi : Option Int) (sl : Addr) (Q : VK), Inv X pins σ H s → RelV x v → s.heap.IsSliceOf sl vl vu .none → IsPart vl lo → IsPart vu hi → r x lo hi H Q →
    ∃ T id, typeLookup (.type T) "__getitem__" = pure (some (.builtin id)) ∧ s.TypeIs v T ∧ wpAny (model X.prog X.w) X.A (getItem v (.ref sl)) (EP X pins σ Q) X.xe s
def tSl (r : V → Option Int → Option Int → Hp → VK → Prop) (te : TE) (tl th : TO) : TE := fun σ H Q => te σ H fun x H1 => tl σ H1 fun l H2 => th σ H2 fun u H3 => r x l u H3 Q
/-- a[lo:hi], any a -/
theorem pe_slice {r : V → Option Int → Option Int → Hp → VK → Prop} (hr : SlR X r) (he : PE X e te) (hl : PO X lo tl) (hu : PO X hi th) : PE X (.Subscript e (.Slice lo hi none p2) pos) (tSl r te tl th) := by
  intro pins s σ H Q I h
  refine Subscript_ (thn (he pins s σ H _ I h) fun v s1 ⟨x, H1, I1, r1, q1⟩ => ?_)
  refine wpAny_Slice (thn (hl pins s1 σ H1 _ I1 q1) fun vl s2 ⟨l, H2, I2, pl, q2⟩ => thn (hu pins s2 σ H2 _ I2 q2) fun vu s3 ⟨u, H3, I3, pu, q3⟩ => ?_)
  rw [evalPart_none]
  refine wpAny_pure ?_
  have I4 : Inv X pins σ H3 { s3 with heap := s3.heap.push { cls := .type "slice", data := .fields #[vl, vu, .none] } } := I3.kept (t' := s3.toks) fun b ob q => Heap.get?_push_of_some _ q
  obtain ⟨T, id, hT, ht, hg⟩ := hr pins { s3 with heap := s3.heap.push { cls := .type "slice", data := .fields #[vl, vu, .none] } } σ H3 x v vl vu l u s3.heap.objs.size Q I4 r1 (Heap.IsSliceOf.new ..) pl pu q3
  show wpAny (model X.prog X.w) X.A (subscriptTail e (.Slice lo hi none p2) v (.ref s3.heap.objs.size)) (EP X pins σ Q) X.xe { s3 with heap := s3.heap.push { cls := .type "slice", data := .fields #[vl, vu, .none] } }
  exact tail_any (ops := [.ref s3.heap.objs.size, v]) ht hT hg (by with_unfolding_all rfl)
/-- the items of xs[lo:hi] -/
def cutV (xs : List V) (lo hi : Option Int) : List V := (xs.drop (HT.sIx xs.length 0 lo)).take (HT.sIx xs.length xs.length hi - HT.sIx xs.length 0 lo)
theorem cutV_length (xs : List V) (lo hi : Option Int) : (cutV xs lo hi).length ≤ xs.length := by
  unfold cutV
  rw [List.length_take, List.length_drop]
  omega
/-- t[lo:hi], not the whole of it (the whole would be t itself) -/
def rSlT (K : PySem.W.Frag) : V → Option Int → Option Int → Hp → VK → Prop := fun x lo hi H Q => ∃ a xs, x = .ref a ∧ SqT K H a xs ∧
  ¬ (HT.sIx xs.length 0 lo = 0 ∧ HT.sIx xs.length xs.length hi = xs.length) ∧ ∀ p, H p = none → Q (.ref p) (upd H p (.tup (cutV xs lo hi)))
/-! ### t < u, t + u -/
def rLtT (K : PySem.W.Frag) : R2 := fun x y H Q => ∃ a b ns ms, x = .ref a ∧ y = .ref b ∧ SqT K H a (ns.map V.int) ∧ SqT K H b (ms.map V.int) ∧ Q (.bl (HT.lexLt ns ms)) H
/-- t + u, t not empty: u empty gives t itself -/
def rCatT (K : PySem.W.Frag) : R2 := fun x y H Q => ∃ a b xs ys, x = .ref a ∧ y = .ref b ∧ SqT K H a xs ∧ SqT K H b ys ∧ xs ≠ [] ∧ xs.length + ys.length ≤ sizeLine ∧
  (ys = [] → Q (.ref a) H) ∧ (ys ≠ [] → ∀ p, H p = none → Q (.ref p) (upd H p (.tup (xs ++ ys))))
end
end L2
namespace L2
open PySem PySem.Spec PyProof.Rows
/-! ### places -/
/-- the place that an index of any sign means -/
def ixN (n : Nat) (i : Int) : Option Nat := if 0 ≤ i then (if i < n then some i.toNat else none) else if -(n : Int) ≤ i then some (i + n).toNat else none
def atI {α : Type} (xs : List α) (i : Int) : Option α := (ixN xs.length i).bind fun j => xs[j]?
theorem ixN_seq {n : Nat} {i : Int} {j : Nat} (h : ixN n i = some j) : seqIndex? i n = some j ∧ j < n ∧ -(n : Int) ≤ i ∧ i < n := by
  unfold ixN at h
  by_cases h0 : 0 ≤ i
  · rw [if_pos h0] at h
    by_cases h1 : i < n
    · rw [if_pos h1] at h
      have e : i.toNat = j := Option.some.inj h
      exact ⟨by rw [seqIndex_of h0 h1, e], by omega, by omega, h1⟩
    · rw [if_neg h1] at h; cases h
  · rw [if_neg h0] at h
    by_cases h1 : -(n : Int) ≤ i
    · rw [if_pos h1] at h
      have e : (i + n).toNat = j := Option.some.inj h
      exact ⟨by rw [seqIndex_neg (by omega) h1, e], by omega, h1, by omega⟩
    · rw [if_neg h1] at h; cases h
theorem atI_get {α : Type} {xs : List α} {i : Int} {v : α} (h : atI xs i = some v) : ∃ j, seqIndex? i xs.length = some j ∧ xs[j]? = some v ∧ j < xs.length ∧ -(xs.length : Int) ≤ i ∧ i < xs.length := by
  unfold atI at h
  cases e : ixN xs.length i with
  | none => rw [e] at h; cases h
  | some j =>
    rw [e] at h
    obtain ⟨h1, h2, h3, h4⟩ := ixN_seq e
    exact ⟨j, h1, h, h2, h3, h4⟩
theorem atI_nat {α : Type} {xs : List α} {j : Nat} {v : α} (h : xs[j]? = some v) : atI xs (j : Int) = some v := by
  have hj : j < xs.length := (List.getElem?_eq_some_iff.mp h).1
  have e : ixN xs.length (j : Int) = some j := by
    unfold ixN
    rw [if_pos (by omega), if_pos (by omega)]; simp
  unfold atI; rw [e]; exact h
/-! ### what may be subscripted -/
/-- what stands as an index of a plain subscript -/
def PlainIx (b : Expr) : Prop := ∀ o i, subscripted b false o i = operate [o, i] (getItem o i)
/-- a subscript by values -/
def IxR (X : Cx) (r : R2) : Prop :=
  ∀ (value slice : Expr) (pins : List (Addr × Obj)) (s : Shared) (σ : St) (H : Hp) (x y : V) (v u : Value) (Q : VK), Inv X pins σ H s → RelV x v → RelV y u → r x y H Q →
    subscripted slice false v u = operate [v, u] (getItem v u) → wpAny (model X.prog X.w) X.A (subscriptTail value slice v u) (EP X pins σ Q) X.xe s
/-- a call of a builtin's method by values: the receiver, the arguments -/
def MtR (X : Cx) (id : String) (r : V → List V → Hp → VK → Prop) : Prop :=
  ∀ (pins : List (Addr × Obj)) (s : Shared) (σ : St) (H : Hp) (x : V) (xs : List V) (v : Value) (us : List Value) (Q : VK), Inv X pins σ H s → RelV x v → Vals xs us → r x xs H Q →
    wpAny (model X.prog X.w) X.A (call (.builtin id) (v :: us)) (EP X pins σ Q) X.xe s
section
variable {X : Cx} {a b : Expr} {ta tb : TE} {pos : Pos}
/-- a[b] -/
theorem pe_ix {r : R2} (hr : IxR X r) (ha : PE X a ta) (hb : PE X b tb) (hs : PlainIx b) : PE X (.Subscript a b pos) (tOp r ta tb) := by
  intro pins s σ H Q I h
  exact Subscript_ (binT ha hb I h fun v u s2 x y H2 I2 rx ry q => hr a b pins s2 σ H2 x y v u Q I2 rx ry q (hs _ _))
def rIxL (K : PySem.W.Frag) : R2 := fun x y H Q => ∃ p xs i v, x = .ref p ∧ y = .int i ∧ SqL K H p xs ∧ atI xs i = some v ∧ Q v H
def rIxT (K : PySem.W.Frag) : R2 := fun x y H Q => ∃ p xs i v, x = .ref p ∧ y = .int i ∧ SqT K H p xs ∧ atI xs i = some v ∧ Q v H
def rIxS : R2 := fun x y H Q => ∃ z i c, x = .str z ∧ y = .int i ∧ z.length ≤ sizeLine ∧ atI z.cps.toList i = some c ∧ Q (.str ⟨#[c]⟩) H
theorem ix_list : IxR X (rIxL X.K) := by
  intro value slice pins s σ H x y v u Q I rx ry h hs
  obtain ⟨p, xs, i, z, rfl, rfl, hq, he, q⟩ := h
  cases rx
  obtain ⟨t, rfl⟩ := ry
  obtain ⟨its, r, pl, hz⟩ := I.list hq
  obtain ⟨j, h1, h2, h3, h4, h5⟩ := atI_get he
  obtain ⟨w, ew, rw'⟩ := r.get h2
  have hl := r.length
  have hn := line63
  have fin : EP X pins σ Q w s := ⟨z, H, I, rw', q⟩
  by_cases h0 : 0 ≤ i
  · have hj : i.toNat = j := by
      rw [seqIndex_of h0 h5] at h1
      exact Option.some.inj h1
    exact item_listR pl.isList h0 (by omega) (by rw [hj]; simpa using ew) fin hs
  · have hj : (i + (its.toArray.size : Int)).toNat = j := by
      rw [seqIndex_neg (by omega) h4] at h1
      rw [List.size_toArray, ← hl]
      exact Option.some.inj h1
    exact subscriptTail_builtinR (x := w) pl.isList.typeIs slot_list_getitem.lookup
      (wpAny_getItem_list_neg (Q := fun r s' => r = w ∧ EP X pins σ Q r s') pl.isList (by omega) (by rw [List.size_toArray] <;> omega) (by omega) (by rw [hj]; simpa using ew) ⟨rfl, fin⟩) hs
theorem ix_tup : IxR X (rIxT X.K) := by
  intro value slice pins s σ H x y v u Q I rx ry h hs
  obtain ⟨p, xs, i, z, rfl, rfl, hq, he, q⟩ := h
  cases rx
  obtain ⟨t, rfl⟩ := ry
  obtain ⟨its, r, pl, hz⟩ := I.tuple hq
  obtain ⟨j, h1, h2, h3, h4, h5⟩ := atI_get he
  obtain ⟨w, ew, rw'⟩ := r.get h2
  have hl := r.length
  have hn := line63
  have fin : EP X pins σ Q w s := ⟨z, H, I, rw', q⟩
  exact subscriptTail_builtinR (x := w) pl.typeIs slot_tuple_getitem.lookup
    (getItem_tuple (j := j) (Q := fun r s' => r = w ∧ EP X pins σ Q r s') pl (by omega) (by omega) (by rw [List.size_toArray, ← hl]; exact h1) (by simpa using ew) ⟨rfl, fin⟩) hs
/-- list, tuple or str -/
def rIx (K : PySem.W.Frag) : R2 := fun x y H Q => rIxL K x y H Q ∨ rIxT K x y H Q ∨ rIxS x y H Q
/-! ### xs[i] = v, any sign -/
def rSetL : V → V → V → Hp → (Hp → Prop) → Prop := fun o i v H Q => ∃ p xs k j, o = .ref p ∧ i = .int k ∧ H p = some (.lst xs) ∧ ixN xs.length k = some j ∧ Q (upd H p (.lst (xs.set j v)))
/-! ### slices -/
theorem slice_bounds (lo hi : Option Int) (n : Nat) : (sliceBounds lo hi none n).1 = ((HT.sIx n 0 lo : Nat) : Int) ∧ (sliceBounds lo hi none n).2.1 = ((HT.sIx n n hi : Nat) : Int) ∧ (sliceBounds lo hi none n).2.2 = 1 := by
  refine ⟨?_, ?_, rfl⟩
  · cases lo with
    | none => simp [sliceBounds, HT.sIx]
    | some i =>
      simp only [sliceBounds, HT.sIx, Option.getD_none, show (1 : Int) > 0 by decide, if_true]
      by_cases h : i < 0
      · simp only [h, if_true] <;> omega
      · simp only [h, if_false] <;> omega
  · cases hi with
    | none => simp [sliceBounds, HT.sIx]
    | some i =>
      simp only [sliceBounds, HT.sIx, Option.getD_none, show (1 : Int) > 0 by decide, if_true]
      by_cases h : i < 0
      · simp only [h, if_true] <;> omega
      · simp only [h, if_false] <;> omega
theorem slicePick_cut (its : List Value) (lo hi : Option Int) : slicePick its.toArray lo hi none = ((its.drop (HT.sIx its.length 0 lo)).take (HT.sIx its.length its.length hi - HT.sIx its.length 0 lo)).toArray := by
  obtain ⟨h1, h2, h3⟩ := slice_bounds lo hi its.toArray.size
  unfold slicePick
  rw [h1, h2, h3]
  simp only [sliceRange_one, pick_run, List.size_toArray] <;> rfl
/-- xs[lo:hi] of a list: a new list -/
def rSlL (K : PySem.W.Frag) : V → Option Int → Option Int → Hp → VK → Prop := fun x lo hi H Q => ∃ a xs, x = .ref a ∧ SqL K H a xs ∧ ∀ p, H p = none → Q (.ref p) (upd H p (.lst (cutV xs lo hi)))
theorem sl_list : SlR X (rSlL X.K) := by
  intro pins s σ H x v vl vu lo hi sl Q I rx hs pl pu h
  obtain ⟨a, xs, rfl, hx, q⟩ := h
  cases rx
  obtain ⟨its, r, ht, hz⟩ := I.list hx
  have hlen := r.length
  refine ⟨"list", _, slot_list_getitem.lookup, ht.isList.typeIs, ?_⟩
  refine wpAny_getItem_list_slice ht.isList hs pl pu .none (by simp) ?_ (by rw [List.size_toArray] <;> omega)
  rw [slicePick_cut, ← hlen]
  refine ⟨.ref s.heap.objs.size, _, I.laid (t' := s.toks) (o := .lst (cutV xs lo hi)) (fun b ob q => Heap.get?_push_of_some _ q) (Nat.le_refl _) ?_, rfl, q _ (I.hok.fresh (Nat.le_refl _))⟩
  exact ⟨Nat.le_trans (cutV_length xs lo hi) hz, _, 0, (r.drop (HT.sIx xs.length 0 lo)).take (HT.sIx xs.length xs.length hi - HT.sIx xs.length 0 lo), Heap.get?_push_size _ rfl⟩
/-! ### in, not in: flat items -/
def flatV : V → Bool
  | .non => true
  | .bl _ => true
  | .int _ => true
  | .str _ => true
  | _ => false
/-- == of flat values -/
def eqV : V → V → Bool
  | .non, .non => true
  | .bl a, .bl b => a == b
  | .bl a, .int b => (if a then 1 else 0) == b
  | .int a, .bl b => a == (if b then 1 else 0)
  | .int a, .int b => a == b
  | .str a, .str b => a == b
  | _, _ => false
/-- the items' answers, read off the values (a value's own answer does not lean on its token) -/
def eqU (x : V) (u : Value) : Bool := match u with
  | .none => eqV .non x
  | .bool b => eqV (.bl b) x
  | .int i _ => eqV (.int i) x
  | .str z _ => eqV (.str z) x
  | _ => false
def inV (x : V) (xs : List V) : Bool := xs.any fun y => eqV y x
/-- x in a list or tuple of flat items -/
def rIn (K : PySem.W.Frag) (neg : Bool) : R2 := fun x y H Q => ∃ p xs, y = .ref p ∧ (SqL K H p xs ∨ SqT K H p xs) ∧ flatV x = true ∧ xs.all flatV = true ∧ Q (.bl (if neg then !inV x xs else inV x xs)) H
/-! ### len, list(x), tuple(x) of any list or tuple that is read -/
theorem call_len_seq : CallR X (.builtin "len") (fun xs H Q => ∃ p ys, xs = [.ref p] ∧ (SqL X.K H p ys ∨ SqT X.K H p ys) ∧ Q (.int ys.length) H) := by
  intro pins s σ H xs us Q I r h
  obtain ⟨p, ys, rfl, hq, q⟩ := h
  obtain ⟨u, rfl, rx⟩ := vals1 r
  cases rx
  have hn := line63
  rcases hq with hq | hq
  · obtain ⟨its, r', pl, hz⟩ := I.list hq
    have hlen := r'.length
    exact Calls.call_len_list pl.isList (by simp only [List.size_toArray] <;> omega) ⟨.int ys.length, H, I.tok _, ⟨s.toks + 1, by rw [List.size_toArray, hlen]⟩, q⟩
  · obtain ⟨its, r', pl, hz⟩ := I.tuple hq
    have hlen := r'.length
    exact len_tuple pl (by simp only [List.size_toArray] <;> omega) ⟨.int ys.length, H, I.tok _, ⟨s.toks + 1, by rw [List.size_toArray, hlen]⟩, q⟩
theorem call_list_of : CallR X (.type "list") (fun xs H Q => ∃ p ys, xs = [.ref p] ∧ (SqL X.K H p ys ∨ SqT X.K H p ys) ∧ ∀ l, H l = none → Q (.ref l) (upd H l (.lst ys))) := by
  intro pins s σ H xs us Q I r h
  obtain ⟨p, ys, rfl, hq, q⟩ := h
  obtain ⟨u, rfl, rx⟩ := vals1 r
  cases rx
  have fin : ∀ (its : List Value), Vals ys its → ys.length ≤ sizeLine → ∀ (h' : Heap) (c' : Nat), (∀ b o', s.heap.get? b = some o' → h'.get? b = some o') →
      h'.get? s.heap.objs.size = some { cls := .type "list", dict := none, data := .seq its.toArray c', slots := #[] } → EP X pins σ Q (.ref s.heap.objs.size) { s with heap := h' } := fun its r' hz h' c' kp e =>
    ⟨.ref s.heap.objs.size, _, I.laid (t' := s.toks) kp (Nat.le_refl _) (show ObjOk X.prog X.w _ h' _ (.lst ys) from ⟨hz, its, c', r', e⟩), rfl, q _ (I.hok.fresh (Nat.le_refl _))⟩
  rcases hq with hq | hq
  · obtain ⟨its, r', pl, hz⟩ := I.list hq
    have hlen := r'.length
    obtain ⟨o, ho, hc, n, hd⟩ := pl.isList
    exact call_list_seq p (.inl rfl) ho hc hd (fun h' c' kp e => fin its r' hz h' c' kp e) (by simp only [List.size_toArray] <;> omega)
  · obtain ⟨its, r', pl, hz⟩ := I.tuple hq
    have hlen := r'.length
    obtain ⟨o, ho, hc, n, hd⟩ := pl
    exact call_list_seq p (.inr rfl) ho hc hd (fun h' c' kp e => fin its r' hz h' c' kp e) (by simp only [List.size_toArray] <;> omega)
/-! ### the call of a builtin's method: o.m(..) -/
/-- the value is of that builtin type -/
def tyV (K : PySem.W.Frag) (T : String) (x : V) (H : Hp) : Prop := match x with
  | .str _ => T = "str"
  | .int _ => T = "int"
  | .ref p => (T = "list" ∧ ∃ xs, SqL K H p xs) ∨ (T = "tuple" ∧ ∃ o, K.lookup p = some o ∧ o.cls = .type "tuple" ∧ o.dict = none) ∨
      (T = "dict" ∧ ((∃ kvs, H p = some (.dK kvs)) ∨ ∃ kvs, H p = some (.dT kvs))) ∨ (T = "set" ∧ ∃ S n, H p = some (.set S n))
  | _ => False
theorem tyV_is {pins : List (Addr × Obj)} {σ : St} {H : Hp} {s : Shared} {T : String} {x : V} {v : Value} (I : Inv X pins σ H s) (r : RelV x v) (ty : tyV X.K T x H) :
    s.TypeIs v T ∧ ∀ a, v = .ref a → ∃ ob, s.heap.get? a = some ob ∧ ob.dict = none := by
  cases x with
  | str z =>
    obtain ⟨t, rfl⟩ := r
    cases (show T = "str" from ty)
    exact ⟨typeIs_str s z t, fun _ e => nomatch e⟩
  | int i =>
    obtain ⟨t, rfl⟩ := r
    cases (show T = "int" from ty)
    exact ⟨typeIs_int s i t, fun _ e => nomatch e⟩
  | ref p =>
    cases r
    rcases ty with ⟨rfl, xs, hq⟩ | ⟨rfl, o, hk, hc, hd⟩ | ⟨rfl, hk⟩ | ⟨rfl, S, n, hk⟩
    · obtain ⟨its, _, pl, _⟩ := I.list hq
      refine ⟨pl.isList.typeIs, fun a e => ?_⟩
      cases e
      obtain ⟨o, n, e, c, hd, _⟩ := pl
      exact ⟨o, e, hd⟩
    · refine ⟨⟨o, I.kIn p o hk, hc⟩, fun a e => ?_⟩
      cases e
      exact ⟨o, I.kIn _ o hk, hd⟩
    · have z : ∃ o, s.heap.get? p = some o ∧ o.ExactDict := by
        rcases hk with ⟨kvs, hk⟩ | ⟨kvs, hk⟩
        · obtain ⟨_, _, _, _, o, _, _, e, ex, _⟩ := I.hok p _ hk
          exact ⟨o, e, ex⟩
        · obtain ⟨_, _, _, _, o, _, _, e, ex, _⟩ := I.hok p _ hk
          exact ⟨o, e, ex⟩
      obtain ⟨o, e, ex⟩ := z
      refine ⟨⟨o, e, ex.1⟩, fun a e2 => ?_⟩
      cases e2
      exact ⟨o, e, ex.2.1⟩
    · obtain ⟨o, _, _, _, e, ex, _⟩ := I.hok p _ hk
      refine ⟨⟨o, e, ex.1⟩, fun a e2 => ?_⟩
      cases e2
      exact ⟨o, e, ex.2.1⟩
  | _ => exact False.elim ty
def tBM0 (K : PySem.W.Frag) (T : String) (r : V → List V → Hp → VK → Prop) (to : TE) : TE := fun σ H Q => to σ H fun x H1 => tyV K T x H1 ∧ r x [] H1 Q
def tBM (K : PySem.W.Frag) (T : String) (r : V → List V → Hp → VK → Prop) (to : TE) (t : TA) : TE := fun σ H Q => to σ H fun x H1 => tyV K T x H1 ∧ t σ H1 fun xs H2 => r x xs H2 Q
variable {o e : Expr} {es : List Expr} {to : TE} {t : TA} {name : Str} {apos cpos : Pos} {T id : String} {r : V → List V → Hp → VK → Prop}
theorem pe_bm (pa : PlainAttrs T) (slot : Slot T name id) (hty : typeOf (.builtin id) = pure (.type "method_descriptor")) (hm : MtR X id r) (ho : PE X o to) (ha : PA X (e :: es) t)
    (hbase : attributeBase o name X.env (eval o X.env) = eval o X.env := by rfl)
    (hfew : ((backTo cpos (starEach (e :: es) X.env)).all (fun x => !x.1) && (backToKw cpos (keywordEach [] X.env)).all (fun x => x.1.isSome)
      && decide ((e :: es).length + ([] : List Keyword).length + (if ([] : List Keyword).isEmpty then 0 else 1) < 30)) = true := by rfl)
    (hline : (apos.endLine == cpos.line) = true := by rfl) (hs : starEach (e :: es) X.env = (false, eval e X.env) :: starEach es X.env := by rfl) (hplain : (backTo cpos (starEach es X.env)).any (·.1) = false := by rfl) :
    PE X (.Call (.Attribute o name apos) (e :: es) [] cpos) (tBM X.K T r to t) := by
  intro pins s σ H Q I h
  refine wpAny_Call_method_late hbase hfew hline rfl (thn (ho pins s σ H _ I h) fun v s1 ⟨x, H1, I1, r1, ty, q1⟩ => ?_)
  obtain ⟨h1, h2⟩ := tyV_is I1 r1 ty
  refine ⟨T, id, pa, slot, hty, h1, h2, ?_⟩
  have hA := ha cpos pins s1 σ H1 _ I1 q1
  rw [hs] at hA ⊢
  refine Calls.callWith_builtin (by show (false || (backTo cpos (starEach es X.env)).any (·.1)) = false; rw [hplain] <;> rfl) (Calls.evalArgs_plain ?_)
  exact thn hA fun us s2 ⟨vs, H2, I2, r2, q2⟩ => hm pins s2 σ H2 x vs v us Q I2 r1 r2 q2
/- xs.append(e), list.index on a module's tuple .. are MtR facts of 06m -/
end
end L2
namespace L2
open PySem PySem.Spec PyProof.Rows
def MtM (X : Cx) (id : String) (r : V → List V → Hp → VK → Prop) : Prop :=
  ∀ (pins : List (Addr × Obj)) (s : Shared) (σ : St) (H : Hp) (x : V) (xs : List V) (v : Value) (us : List Value) (Q : VK), Inv X pins σ H s → RelV x v → Vals xs us → r x xs H Q →
    wpAny (model X.prog X.w) X.A (call (.builtin id) (v :: us)) (EP X pins σ Q) X.xe s
/-! ### lists of values -/
theorem Vals.one : ∀ {x : V} {us : List Value}, Vals [x] us → ∃ u, us = [u] ∧ RelV x u
  | _, _, .cons r .nil => ⟨_, rfl, r⟩
section
variable {X : Cx} {pins : List (Addr × Obj)} {σ : St} {H : Hp} {s : Shared} {l b : Addr} {xs ys zs : List V}
/-! ### the two steps: a tracked list is rewritten, a new list is laid -/
theorem Inv.lset {its its' : List Value} {n : Nat} {f : Array Value → Array Value} {t' : Nat} (I : Inv X pins σ H s) (hH : H l = some (.lst xs))
    (e : s.heap.get? l = some { cls := .type "list", data := .seq its.toArray n }) (hf : f its.toArray = its'.toArray) (hv : Vals ys its') (hz : ys.length ≤ sizeLine) :
    Inv X pins σ (upd H l (.lst ys)) { s with heap := s.heap.update l (Obj.mapSeq f), toks := t' } := by
  have q := PySem.IsL.update e f
  rw [hf] at q
  refine I.write (x := l) (e := l) (by rw [hH]; exact trivial) (.inl rfl) (fun b' u hb hu => (Heap.get?_update_other s.heap (Obj.mapSeq f) (Ne.symm hb)).trans hu) ⟨_, q⟩ ?_
  exact ⟨hz, its', _, hv, q⟩
theorem Inv.lnew {its : List Value} {t' : Nat} (I : Inv X pins σ H s) (hv : Vals ys its) (hz : ys.length ≤ sizeLine) :
    Inv X pins σ (upd H s.heap.objs.size (.lst ys)) { s with heap := s.heap.push { cls := .type "list", data := .seq its.toArray }, toks := t' } :=
  I.laid (fun _ _ q => Heap.get?_push_of_some _ q) (Nat.le_refl _) ⟨hz, its, 0, hv, Heap.get?_push_size _ rfl⟩
theorem Inv.fresh (I : Inv X pins σ H s) : H s.heap.objs.size = none := I.hok.fresh (Nat.le_refl _)
theorem Inv.lstM (I : Inv X pins σ H s) (hH : H l = some (.lst xs)) : xs.length ≤ sizeLine ∧ ∃ (its : List Value) (n : Nat), Vals xs its ∧ xs.length = its.length ∧ s.heap.get? l = some { cls := .type "list", data := .seq its.toArray n } := by
  obtain ⟨z, its, n, r, e⟩ := I.hok l _ hH
  exact ⟨z, its, n, r, r.length, e⟩
end
section
variable {X : Cx}
/-! ### methods -/
def rAppend : V → List V → Hp → VK → Prop := fun x vs H Q => ∃ l xs y, x = .ref l ∧ vs = [y] ∧ H l = some (.lst xs) ∧ xs.length < sizeLine ∧ Q .non (upd H l (.lst (xs ++ [y])))
theorem mt_append : MtM X "list.append" rAppend := by
  intro pins s σ H x vs v us Q I rx rv h
  obtain ⟨l, xs, y, rfl, rfl, hH, hz, q⟩ := h
  cases rx
  obtain ⟨u, rfl, ru⟩ := rv.one
  obtain ⟨z, its, n, r, hl, e⟩ := I.lstM hH
  refine call_meets F.slot_list_append ⟨_, e, rfl⟩ F.entry_list_append (F.args_list_append_2 _ _) (PySem.list_append l its.toArray n u (by rw [List.size_toArray]; omega)) ⟨e, ?_⟩
  refine ⟨.non, _, I.lset (its' := its ++ [u]) hH e (by simp) (r.append (.cons ru .nil)) ?_, rfl, q⟩
  rw [List.length_append, List.length_singleton]
  omega
def rExtend : V → List V → Hp → VK → Prop := fun x vs H Q => ∃ l b xs zs, x = .ref l ∧ vs = [.ref b] ∧ H l = some (.lst xs) ∧ H b = some (.lst zs) ∧ xs.length + zs.length ≤ sizeLine ∧ Q .non (upd H l (.lst (xs ++ zs)))
def rPop : V → List V → Hp → VK → Prop := fun x vs H Q => ∃ l xs y, x = .ref l ∧ vs = [] ∧ H l = some (.lst xs) ∧ xs[xs.length - 1]? = some y ∧ Q y (upd H l (.lst xs.dropLast))
def rPopAt : V → List V → Hp → VK → Prop := fun x vs H Q => ∃ l xs i k y, x = .ref l ∧ vs = [.int i] ∧ H l = some (.lst xs) ∧ -(2 ^ 63) ≤ i ∧ i < 2 ^ 63 ∧ seqIndex? i xs.length = some k ∧ xs[k]? = some y ∧ Q y (upd H l (.lst (xs.eraseIdx k)))
def rReverse : V → List V → Hp → VK → Prop := fun x vs H Q => ∃ l xs, x = .ref l ∧ vs = [] ∧ H l = some (.lst xs) ∧ Q .non (upd H l (.lst xs.reverse))
def rClear : V → List V → Hp → VK → Prop := fun x vs H Q => ∃ l xs, x = .ref l ∧ vs = [] ∧ H l = some (.lst xs) ∧ Q .non (upd H l (.lst []))
/-! ### list + list, list += list, list * int -/
def rCat : R2 := fun x y H Q => ∃ l b xs zs, x = .ref l ∧ y = .ref b ∧ H l = some (.lst xs) ∧ H b = some (.lst zs) ∧ xs.length + zs.length ≤ sizeLine ∧ ∀ p, H p = none → Q (.ref p) (upd H p (.lst (xs ++ zs)))
theorem op_cat : OpR X (binaryOp .Add) rCat := by
  intro pins s σ H x y v u Q I rx ry h
  obtain ⟨l, b, xs, zs, rfl, rfl, hH, hB, hz, q⟩ := h
  cases rx
  cases ry
  obtain ⟨z, its, n, r, hl, e⟩ := I.lstM hH
  obtain ⟨z2, its2, n2, r2, hl2, e2⟩ := I.lstM hB
  refine PySem.P.add_list e e2 ?_ (by rw [List.size_toArray, List.size_toArray]; omega)
  have ea : its.toArray ++ its2.toArray = (its ++ its2).toArray := by simp
  rw [ea]
  exact ⟨.ref _, _, I.lnew (t' := s.toks) (r.append r2) (by rw [List.length_append]; omega), rfl, q _ I.fresh⟩
/-- a list times an int (a negative one is nothing) -/
def rRep : R2 := fun x y H Q => ∃ l k xs, x = .ref l ∧ y = .int k ∧ H l = some (.lst xs) ∧ -(2 ^ 63) ≤ k ∧ k < 2 ^ 63 ∧ xs.length * k.toNat ≤ sizeLine ∧
  ∀ p, H p = none → Q (.ref p) (upd H p (.lst (List.replicate k.toNat xs).flatten))
/-! ### del xs[i] -/
end
/-! ### xs[a:b] = ys -/
section
variable {prog : Program} {w : World} {A : Around} {E : Value → Shared → Prop} {s : Shared}
set_option maxRecDepth 100000 in
end
section
variable {X : Cx}
end
end L2
namespace Att
open PySem PySem.W PySem.Calls PyProof.Rows
/-! ### the script -/
theorem ints_of_wellAll {P : Params} {h : Heap} : ∀ (ns : List Int) (vs : List Value), WellAll P h vs (ns.map WData.int) → IntsAre vs ns := by
  intro ns
  induction ns with
  | nil =>
    intro vs w
    rw [List.map_nil] at w
    cases w
    exact .nil
  | cons n ns ih =>
    intro vs w
    rw [List.map_cons] at w
    cases w with
    | cons a b =>
      cases a
      exact .cons _ _ (ih _ b)
theorem script_of {l : OpenLaw} {n : Nat} (hn : l.most = some n) {P : Params} {h : Heap} {args : List WData} {vals : List Value}
    (hpre : l.row.toRowW.claim.pre args = true) (hwl : WellAll P h vals args) :
    ∃ a vs ns, vals = [Value.ref a] ∧ args = [WData.list (ns.map WData.int)] ∧ h.get? a = some { cls := .type "list", data := .seq vs.toArray } ∧ IntsAre vs ns ∧ ns.length ≤ n := by
  have hsh : WShape.hasAll [] args [.list .int] = true := (pre_splitW hpre).1
  have hc : l.pre.holds [] { args := args } = true := (pre_splitW hpre).2
  obtain ⟨d, r, rfl, h1, h2⟩ := hasAllW_cons hsh
  obtain rfl := hasAllW_nil h2
  obtain ⟨xs, rfl, h3⟩ := hasW_list h1
  obtain ⟨ns, rfl⟩ := items_int h3
  have hlen : ns.length ≤ n := by
    unfold OpenLaw.pre at hc
    have h4 : (WTm.not (.lt (.lit (.int (n : Int))) (.len (.arg 0)))).holds [] { args := [.list (ns.map .int)] } = true := by
      have h4 := (holds_andW hc).1
      rw [hn] at h4
      exact h4
    have h5 := condW_of h4 (w_not (w_lt w_lit (w_len_list (w_arg rfl))))
    rw [List.length_map] at h5
    refine Nat.le_of_not_lt fun q => ?_
    have q' : (n : Int) < ((ns.length : Nat) : Int) := by omega
    first
      | (rw [decide_eq_true q'] at h5; exact absurd h5 (by decide))
      | (simp at h5; omega)
  cases hwl with
  | cons w1 w2 =>
    cases w2
    cases w1 with
    | list ho hall => exact ⟨_, _, ns, rfl, rfl, ho, ints_of_wellAll ns _ hall, hlen⟩
theorem post_true (l : OpenLaw) (args : List WData) : l.row.toRowW.claim.post args (.bool true) args = true :=
  postW_of (r := l.row.toRowW) (X := (true == true))
    (show WShape.has [] (.bool true) .bool = true by first | rfl | decide | simp [WShape.has, WShape.arms, WShape.armsAll])
    (show (WTm.eq .res (.lit (.bool true))).value [] { args := args, res := some (.bool true), after := args } = some (.bool (true == true)) from w_eq_bool (w_res rfl) w_lit) rfl
/-! ### the attachment: holds_open's last premise (the goal 'hc' behind k_head) from a wpAny of the law's body -/
/-- the same from a codeAny of the CALL (for a layer whose function contracts speak of calls) -/
theorem attach_call {l : OpenLaw} {n : Nat} {q : Program} {loose : List Str} {XP : (Str → Option Value) → Heap → Prop} {YP : World → Heap → Prop} {d : DefRec}
    (hn : l.most = some n) (hdf : d.params.defaults = [])
    (call : ∀ (w : World) (s₀ s₁ : Shared) (mg mb : Str → Option Value) (fa : Addr) (o : Obj) (pm cd doc : Value) (a : Addr) (vs : List Value) (ns : List Int),
      Ground q loose [] XP w s₀ mg mb s₁.heap → YP w s₁.heap →
      s₁.heap.get? fa = some o → o.data = .func (docDef d.name d.params d.body d.scope pm cd doc) → s₁.heap.CodeRec cd d.name → mg d.name = some (.ref fa) →
      s₁.heap.get? a = some { cls := .type "list", data := .seq vs.toArray } → IntsAre vs ns → ns.length ≤ n → s₁.gens = #[] →
      codeAny (model l.prog w) callerA (.call (.ref fa) ⟨[.ref a], []⟩) (fun r s' => r = .ok (.ret (.bool true)) ∧ OldK s₁.heap s'.heap ∧ s'.os = s₁.os ∧ AllBare s'.gens) s₁) :
    WalkO q loose XP YP l.row.toRowW d [] (fun f vs => PySem.call f vs) := by
  intro w s₀ s₁ mg mb G Y fa o pm cd doc dV kV ho hd hcd hD hmg hg args vals as hpre hlay hrd hwl hlo
  obtain rfl : dV = .none := Dflts.none hD hdf
  obtain rfl : kV = .none := Dflts.noKw hD
  obtain ⟨a, vs, ns, rfl, rfl, hobj, hints, hlen⟩ := script_of hn hpre hwl
  refine enter_call (codeAny_mono (call w s₀ s₁ mg mb fa o pm cd doc a vs ns G Y ho (fd_plain hd) hcd hmg hobj hints hlen hg) fun r s' hq => ?_)
  obtain ⟨rfl, h2, h3, h4⟩ := hq
  exact ⟨.inl ⟨.bool true, .bool true, [], rfl, fun _ => rfl, .bool true, post_true l _, fun _ => ⟨List.Pairwise.nil, fun _ hm => (nomatch hm)⟩⟩, h2, h3, h4⟩
/-! ### rules over ANY heap (no ledger) from facts about the written part K: the library's own take a ledger (News) for what they write -/
section
variable {prog : Program} {w : World} {A : Around} {E : Value → Shared → Prop} {s : Shared} {K : Frag}
/-! the whole heap as the ledger: makes every rule that writes through a ledger a rule over any heap -/
def noObjs (h : Heap) : Heap := { h with objs := #[] }
def ledger (h : Heap) (L d : Addr) : List (Addr × Obj) := (List.range h.objs.size).filterMap fun a => if a = L ∨ a = d then none else (h.get? a).map fun o => (a, o)
end
end Att
namespace L2
open PySem PySem.Spec PyProof.Rows
theorem vals_ints : ∀ {vs : List Value} {ns : List Int}, IntsAre vs ns → Vals (ns.map V.int) vs
  | _, _, .nil => .nil
  | _, _, .cons n t h => .cons ⟨t, rfl⟩ (vals_ints h)
/-- nothing is tracked but the script, known to the object (or it is an object of the module) -/
def Only (H : Hp) : Prop := ∀ b, H b = none ∨ ∃ o xs, H b = some (.frz o (.lst xs))
/-- THE HEAD: the law's promise, at the heap behind the top. F, the promise of the law's def, may use that base is part of the heap (so K.In base, base.Ns mainGlobals mg stand in Mod) -/
theorem law_call {P : Program} {w : World} {K : PySem.W.Frag} {mg mb : Str → Option Value} {CX : CXT} {k : Nat} {fa a : Addr} {fd : FuncData} {x : Str} {sp : Sp} {s₁ : Shared} {vs : List Value} {ns : List Int}
    (KX : K.In s₁.heap) (hns : s₁.heap.Ns mainGlobals mg) (hb : s₁.heap.Ns builtinsNs mb) (hbb : ∀ x : Str, x ≠ "__name__" → mb x = bootBuiltins x) (hlim : s₁.heap.NoLimit) (hg : s₁.gens = #[])
    (ha : s₁.heap.get? a = some { cls := .type "list", data := .seq vs.toArray }) (hi : IntsAre vs ns) (hl : ns.length ≤ sizeLine) (hr : Room k callerA)
    (F : ∀ base : Heap, K.In base → base.Ns mainGlobals mg → FnOk P w K mg base CX k fa fd [x] sp) (hbind : ∀ (s : Shared) (u : Value), BindsTo s fd ⟨[u], []⟩ [(x, u)])
    (hsp : ∀ H : Hp, Only H → SqL K H a (ns.map V.int) → sp [.ref a] H (fun v _ => v = .bl true) fun _ _ _ => False)
    (hCX : ∀ H e s', CX [] H s₁ (fun _ _ _ => False) e s' → False) :
    codeAny (model P w) callerA (.call (.ref fa) ⟨[.ref a], []⟩) (fun r s' => r = .ok (.ret (.bool true)) ∧ OldK s₁.heap s'.heap ∧ s'.os = s₁.os ∧ AllBare s'.gens) s₁ := by
  have rv := vals_ints hi
  have lenV := hi.length
  -- from an abstract heap in which nothing but the script may be tracked
  have core : ∀ H : Hp, Only H → SqL K H a (ns.map V.int) → HOk P w H s₁.heap → (∀ b, H b ≠ none → b = a) → (H a ≠ none → K.lookup a = none) →
      codeAny (model P w) callerA (.call (.ref fa) ⟨[.ref a], []⟩) (fun r s' => r = .ok (.ret (.bool true)) ∧ OldK s₁.heap s'.heap ∧ s'.os = s₁.os ∧ AllBare s'.gens) s₁ := by
    intro H hO hS hok hA hK
    have base_of : ∀ {b : Addr} {o : Obj}, s₁.heap.get? b = some o → H b = none → (hidT s₁.heap H).get? b = some o := fun e n => hidT_get e n
    have noA : ∀ {b : Addr} {o : Obj} {es : Array DictEntry} {ep : Nat}, s₁.heap.get? b = some o → o.data = .dict es ep → H b = none := fun {b o es ep} e d => by
      cases q : H b with
      | none => rfl
      | some u =>
        have e' : b = a := hA b (by rw [q]; simp)
        subst e'
        rw [ha] at e; cases e
        have d' : Data.seq vs.toArray _ = Data.dict es ep := d
        cases d'
    have nsK : ∀ {b : Addr} {m : Str → Option Value}, s₁.heap.Ns b m → (hidT s₁.heap H).Ns b m := fun {b m} ⟨o, es, ep, e, d, r⟩ => ⟨o, es, ep, base_of e (noA e d), d, r⟩
    have hKb : K.In (hidT s₁.heap H) := fun b o e => base_of (KX b o e) (by
      cases q : H b with
      | none => rfl
      | some u =>
        have e' : b = a := hA b (by rw [q]; simp)
        subst e'
        rw [hK (by rw [q]; simp)] at e; cases e)
    have hM : Mod K mg (hidT s₁.heap H) := ⟨hKb, nsK hns, ⟨mb, nsK hb, hbb⟩, let ⟨mc, h1, h2⟩ := hlim; ⟨mc, nsK h1, h2⟩⟩
    have e0 : Env0 P w K mg (hidT s₁.heap H) callerA [] s₁ H := ⟨rfl, hM, fun b o e => of_hidT e, Nat.le_of_eq (hidT_size _ _), trivial, fun b hb => absurd (show b ∈ ([] : List Addr) from hb) (by simp), hok, .of_eq hg⟩
    refine codeAny_mono ((F _ hKb (nsK hns)).run callerA [] s₁ H ⟨[.ref a], []⟩ [.ref a] [.ref a] _ _ hr e0 (hbind s₁ (.ref a)) (.cons rfl .nil) (hsp H hO hS)) fun r s' h => ?_
    cases r with
    | error e => exact (hCX H e s' h).elim
    | ok fl =>
      cases fl with
      | next => exact False.elim h
      | brk => exact False.elim h
      | cont => exact False.elim h
      | ret u =>
        obtain ⟨v, H', os, bare, un, hok', r', q⟩ := h
        have q' : v = .bl true := q
        subst q'
        obtain rfl : u = Value.bool true := r'
        refine ⟨rfl, OldK.of_keep fun b o e => ?_, os, bare⟩
        cases q : H b with
        | none => exact un.keep b o e q (by intro z; exact absurd (show b ∈ ([] : List Addr) from z) (by simp)) (by simp)
        | some u =>
          rcases hO b with z | ⟨ob, xs, z⟩
          · rw [q] at z; cases z
          · have z2 := un.frzs b ob _ z
            obtain ⟨e1, _⟩ := hok b _ z
            obtain ⟨e2, _⟩ := hok' b _ z2
            rw [e] at e1; cases e1
            exact e2
  cases hk : K.lookup a with
  | some o =>
    -- the script is one of the module's own objects
    have e := KX a o hk
    rw [ha] at e
    cases e
    refine core (fun _ => none) (fun _ => .inl rfl) (.inr ⟨_, vs.toArray, _, hk, rfl, rfl, rfl, by rw [List.size_toArray, lenV]; exact hl, by simpa using rv⟩) (fun b u z => by have z' : (none : Option HO) = some u := z; cases z') (fun b z => absurd rfl z) fun z => absurd rfl z
  | none =>
    refine core (fun b => if b = a then some (.frz { cls := .type "list", data := .seq vs.toArray } (.lst (ns.map V.int))) else none) (fun b => ?_) (.inl (.inr ⟨{ cls := .type "list", data := .seq vs.toArray }, if_pos rfl⟩)) (fun b u z => ?_) (fun b z => ?_) fun _ => hk
    · by_cases hb : b = a
      · exact .inr ⟨_, _, if_pos hb⟩
      · exact .inl (if_neg hb)
    · by_cases hb : b = a
      · have z' := (if_pos hb).symm.trans z
        cases z'
        subst hb
        exact ⟨ha, by rw [List.length_map]; exact hl, vs, _, rv, ha⟩
      · have z' := (if_neg hb).symm.trans z
        cases z'
    · by_cases hb : b = a
      · exact hb
      · exact absurd (if_neg hb) z
end L2
namespace L2
open PySem PySem.Spec PyProof.Rows
abbrev KOf {K : PySem.W.Frag} {h : Heap} (_ : K.In h) : PySem.W.Frag := K
/-- the goal that k_head leaves (case hc), from the law's promise. F gives the function object fd (K's own) once, then the promise over every base -/
theorem walk_of {l : PySem.W.OpenLaw} {n k : Nat} {q : Program} {loose : List Str} {XP : (Str → Option Value) → Heap → Prop} {YP : World → Heap → Prop} {d : DefRec} {K : Params → PySem.W.Frag} {CX : World → CXT} {sp : World → Sp} {x : Str}
    (hn : l.most = some n) (hn2 : n ≤ sizeLine) (hdf : d.params.defaults = []) (hr : Room k callerA)
    (hY : ∀ (w : World) (h : Heap), YP w h → (K w.params).In h)
    (F : ∀ (w : World) (mg : Str → Option Value) (fa : Addr) (h : Heap), (K w.params).In h → h.Ns mainGlobals mg → mg d.name = some (.ref fa) →
      ∃ fd : FuncData, (∀ (s : Shared) (u : Value), BindsTo s fd ⟨[u], []⟩ [(x, u)]) ∧
        ∀ base : Heap, (K w.params).In base → base.Ns mainGlobals mg → FnOk l.prog w (K w.params) mg base (CX w) k fa fd [x] (sp w))
    (hsp : ∀ (w : World) (H : Hp) (a : Addr) (ns : List Int), ns.length ≤ n → Only H → SqL (K w.params) H a (ns.map V.int) → sp w [.ref a] H (fun v _ => v = .bl true) fun _ _ _ => False)
    (hCX : ∀ (w : World) (H : Hp) (s : Shared) (e : Value) (s' : Shared), CX w [] H s (fun _ _ _ => False) e s' → False) :
    PySem.W.WalkO q loose XP YP l.row.toRowW d [] (fun f vs => PySem.call f vs) := by
  refine Att.attach_call hn hdf fun w s₀ s₁ mg mb fa o pm cd doc a vs ns G Y ho hd hcd hmg hobj hints hlen hg => ?_
  have KX := hY w _ Y
  obtain ⟨fd, hb, hF⟩ := F w mg fa _ KX G.T.g hmg
  exact law_call KX G.T.g G.T.b G.T.builtins G.T.nolimit hg hobj hints (Nat.le_trans hlen hn2) hr hF hb (fun H hO hS => hsp w H a ns hlen hO hS) fun H e s' => hCX w H s₁ e s'
end L2
/- THE LAST THEOREM (shape; LID, My.* are yours):
   My.Adr: a structure of the addresses that your layer names (classes, functions); My.Txt K t: a structure (Prop) of the equations over K;
   My.txt_mk : {K} {implicit addresses ..} (e1 : nsIn K mainGlobals "law" = some (some (.ref f))) (e2 : K.lookup f = some ⟨oc, od, .func (fnOf "law" "law" params body scope dV kV doc pm an cdv ct), sl⟩) (e3 : codeIn K cdv "law" = true) .. : ∃ t, My.Txt K t
set_option maxRecDepth 100000 in
set_option maxHeartbeats 0 in
theorem PySem.Challenge.cw_LID_holds : PySem.Challenge.rw_LID.Holds := by
  w_on; o_law; k_head; (case hw => w_witness2)
  k_fill
  refine L2.walk_of (l := PySem.Challenge.rw_LID) (n := 63) (k := 40) (x := "script") (CX := fun w => ..) (sp := fun _ => My.sp_law) rfl (by decide) rfl ⟨rfl, by decide, by decide⟩ (fun w h Y => PySem.W.kIn_of Y) ?F ?S ?C
  case F =>
    intro w mg fa h KX G hmg
    have T : ∃ t, My.Txt (L2.KOf KX) t := by
      dsimp only [L2.KOf]                          -- K must stand as «<heap const> w.params» for k_is
      refine' My.txt_mk ?e1 ?e2 ?e3 ..
      (case e1 => PySem.W.k_is)                    -- in the order: a name -> its address -> its object -> its parts
      (case e2 => PySem.W.k_is)
      ..
    obtain ⟨t, T⟩ := T
    have e0 := hmg.symm.trans (PySem.W.mg_of KX G T.law)
    cases e0                                       -- fa is the law's own address
    exact ⟨_, fun s u => .of_eq rfl, fun base kb nb => My.law_fn T kb nb⟩     -- if «.of_eq rfl» comes too early: refine' ⟨_, ?b, fun base kb nb => My.law_fn T kb nb⟩; exact fun s u => .of_eq rfl
  case S => exact fun w H a ns hl hO hS => ..
  case C => exact ..
(the tactic k_is has no namespace: write k_is) -/
/-! SHORT WORDS over the layer: a def of the text, its body, what a loop and a test want. -/
namespace L2
open PySem PySem.Spec PyProof.Rows
/-! ### the text by places -/
/-- the j-th statement of a class's body -/
def inClass (s : Stmt) (j : Nat) : Stmt := match s with
  | .ClassDef _ _ _ body _ _ _ _ _ _ _ => body.getD j (.Pass ⟨0, 0, 0, 0⟩)
  | _ => .Pass ⟨0, 0, 0, 0⟩
def defArgs (s : Stmt) : Arguments := match s with
  | .FunctionDef _ a _ _ _ _ _ _ _ _ => a
  | _ => { posonlyargs := [], args := [], vararg := none, kwonlyargs := [], kw_defaults := [], kwarg := none, defaults := [] }
def defBody (s : Stmt) : List Stmt := match s with
  | .FunctionDef _ _ b _ _ _ _ _ _ _ => b
  | _ => []
def defScope (s : Stmt) : Scope := match s with
  | .FunctionDef _ _ _ _ _ _ sc _ _ _ => sc
  | _ => { kind := .function, names := [], isGenerator := false, isCoroutine := false }
/-! ### no exception leaves a def -/
abbrev CX0 : CXT := fun _ _ _ _ _ _ => False
abbrev E0 : XK := fun _ _ _ => False
theorem pass0 {X : Cx} : Passes CX0 X E0 := fun _ _ _ _ _ _ _ h => h.elim
/-! ### a def (or method) of the text as it stands behind the top -/
structure Fun (K : PySem.W.Frag) (x qual : Str) (st : Stmt) (f : Addr) (fd : FuncData) : Prop where
  ex : ∃ (oc : Value) (od : Option Addr) (kV doc pm : Value) (an : Option Addr) (cdv ct : Value) (osl : Array (Option Value)),
    fd = PySem.W.fnOf x qual (defArgs st) (defBody st) (defScope st) .none kV doc pm an cdv ct ∧ K.lookup f = some ⟨oc, od, .func fd, osl⟩ ∧ PySem.W.codeIn K cdv qual = true
  kp : PySem.W.keepIn K (.ref f) = true
section
variable {P : Program} {w : World} {K : PySem.W.Frag} {mg : Str → Option Value} {base : Heap}
/-- THE RULE for a def: its body as a term of rules, and the reading of that term -/
theorem Fun.ok {x qual : Str} {st : Stmt} {f : Addr} {fd : FuncData} {N ps : List Str} {k : Nat} {sp : Sp} (F : Fun K x qual st f fd) (S : FnScope N ps (defScope st)) (len : ∀ vs H Q E, sp vs H Q E → vs.length = ps.length)
    (hbody : ∀ (cdv : Value) (A : Around) (outer : List Env) (s : Shared) (H : Hp) (vs : List V) (Q : VK) (E : XK), Room k (A.deeper (envOfC qual (defScope st) s.heap.objs.size f cdv)) → sp vs H Q E →
      ∃ t, PSs (cxOf CX0 P w K mg base N qual (defScope st) f cdv A outer s H E).nox (defBody st) t ∧ t { nx := fun _ H' => Q .non H', rt := Q } (start N vs) H) : FnOk P w K mg base CX0 (k + 1) f fd ps sp := by
  obtain ⟨oc, od, kV, doc, pm, an, cdv, ct, osl, rfl, lk, hcd⟩ := F.ex
  refine fn_of lk hcd S len fun A outer s H vs Q E hr hsp => ?_
  obtain ⟨t, h, q⟩ := hbody cdv A outer s H vs Q E hr hsp
  exact ⟨t, h.nox, q⟩
/-- how its arguments bind (no defaults): h is «fun _ _ _ _ _ _ us hl => match us, hl with | [_, _], _ => rfl», one _ a parameter -/
theorem Fun.binds {x qual : Str} {st : Stmt} {f : Addr} {fd : FuncData} {ps : List Str} (F : Fun K x qual st f fd)
    (h : ∀ (kV doc pm : Value) (an : Option Addr) (cdv ct : Value) (us : List Value), us.length = ps.length → bindArgs (PySem.W.fnOf x qual (defArgs st) (defBody st) (defScope st) .none kV doc pm an cdv ct) ⟨us, []⟩ = pure (ps.zip us)) : Binds K fd ps [] := by
  obtain ⟨oc, od, kV, doc, pm, an, cdv, ct, osl, rfl, lk, hcd⟩ := F.ex
  exact .all (h kV doc pm an cdv ct)
theorem fun_mk {x qual : Str} {st : Stmt} {f : Addr} {oc : Value} {od an : Option Addr} {osl : Array (Option Value)} {kV doc pm cdv ct : Value} (l : K.lookup f = some ⟨oc, od, .func (PySem.W.fnOf x qual (defArgs st) (defBody st) (defScope st) .none kV doc pm an cdv ct), osl⟩)
    (c : PySem.W.codeIn K cdv qual = true) (k : PySem.W.keepIn K (.ref f) = true) : Fun K x qual st f (PySem.W.fnOf x qual (defArgs st) (defBody st) (defScope st) .none kV doc pm an cdv ct) := ⟨⟨oc, od, kV, doc, pm, an, cdv, ct, osl, rfl, l, c⟩, k⟩
end
theorem small1000 {n : Nat} (h : n ≤ 1000) : n < sizeLine := Nat.lt_of_le_of_lt h (by decide)
/-! ### expressions in short: the name that stands in the i-th slot -/
section
variable {X : Cx}
theorem pv (i : Nat) {x : Str} {pos : Pos} (hN : X.N[i]? = some x := by rfl) (hv : Vis X.env.scope x := by first | exact Or.inl rfl | exact Or.inr (Or.inl rfl) | exact Or.inr (Or.inr rfl)) (hd : (x == ("__debug__" : Str)) = false := by decide)
    (hcd : (x == ("__classdict__" : Str)) = false := by decide) : PE X (.Name x pos) (tVar i) := pe_var hN hv hd hcd
end
/-! ### tests -/
theorem iteF {A B : Prop} (h : B) : if false = true then A else B := by
  rw [if_neg Bool.false_ne_true]
  exact h
theorem iteT {A B : Prop} (h : A) : if true = true then A else B := by
  rw [if_pos rfl]
  exact h
theorem ite2 {c A B : Prop} [Decidable c] (h1 : c → A) (h2 : ¬ c → B) : if c then A else B := by
  by_cases h : c
  · rw [if_pos h]
    exact h1 h
  · rw [if_neg h]
    exact h2 h
/-! ### heaps -/
/-- all that was tracked is as it was -/
def Same (H H' : Hp) : Prop := ∀ b o, H b = some o → H' b = some o
theorem Same.refl (H : Hp) : Same H H := fun _ _ h => h
theorem Same.trans {H H1 H2 : Hp} (a : Same H H1) (b : Same H1 H2) : Same H H2 := fun c o h => b c o (a c o h)
theorem Same.free {H H' : Hp} (e : Same H H') {l : Addr} (h : H' l = Option.none) : H l = Option.none := by
  cases q : H l with
  | none => rfl
  | some o =>
    rw [e l o q] at h
    cases h
theorem Same.seq {K : PySem.W.Frag} {H H' : Hp} {a : Addr} {xs : List V} (e : Same H H') (h : SqL K H a xs) : SqL K H' a xs := by
  rcases h with (h | ⟨o, h⟩) | h
  · exact .inl (.inl (e _ _ h))
  · exact .inl (.inr ⟨o, e _ _ h⟩)
  · exact .inr h
end L2
end
section
set_option maxRecDepth 100000
set_option Elab.async false
set_option linter.all false
namespace Srt
open PySem PyProof.Rows
def IntKey (p : Keyed) : Prop := ∃ n t, p.1 = .int n t
section
variable {prog : Program} {w : World} {A : Around} {E : Value → Shared → Prop} {s : Shared}
theorem wpS_lt {st : SortSt} {p q : Keyed} {Q : Option Bool → SortSt → Prop} (hk : kindOf st = oneType') (hp : IntKey p) (hq : IntKey q)
    (h : Q (some (decide (numOf p.1 < numOf q.1))) st) : wpS (model prog w) A E s (lt' p q) Q st := by
  obtain ⟨n, t, hn⟩ := hp
  obtain ⟨m, u, hm⟩ := hq
  rw [lt'_eq, hn, hm]
  rw [hn, hm] at h
  refine wpS_bind (wpS_get ?_)
  rw [hk, keyLt'_oneType]
  exact wpS_bind (wpS_lift (wpAny_attempt (oneLt_int ⟨rfl, wpS_pure h⟩)))
theorem wpS_elem {st : SortSt} {arr : Array Keyed} {i : Nat} {p : Keyed} {Q : Keyed → SortSt → Prop} (h : arr[i]? = some p) (hq : Q p st) :
    wpS (model prog w) A E s (elem' arr i) Q st := by
  rw [elem'_eq, h]
  exact wpS_pure hq
/-- between two places -/
def bins (bey : Nat → StateT SortSt Sem (Option Bool)) (n lo₀ hi₀ : Nat) : StateT SortSt Sem (Option Nat) := do
  let mut lo := lo₀
  let mut hi := hi₀
  for _ in [0:n] do
    if lo ≥ hi then break
    let m := lo + (hi - lo) / 2
    let some more ← bey m | return none
    if more then lo := m + 1 else hi := m
  return some hi
/-- the place where a falling question changes -/
def gal (bey : Nat → StateT SortSt Sem (Option Bool)) (n hint : Nat) : StateT SortSt Sem (Option Nat) := do
  let mut last := 0
  let mut ofs := 1
  let mut lo := 0
  let mut hi := 0
  let some right ← bey hint | return none
  if right then
    let most := n - hint
    for _ in [0:n] do
      if ofs ≥ most then break
      let some more ← bey (hint + ofs) | return none
      if !more then break
      last := ofs
      ofs := 2 * ofs + 1
    lo := hint + last + 1
    hi := hint + min ofs most
  else
    let most := hint + 1
    for _ in [0:n] do
      if ofs ≥ most then break
      let some found ← bey (hint - ofs) | return none
      if found then break
      last := ofs
      ofs := 2 * ofs + 1
    lo := hint + 1 - min ofs most
    hi := hint - last
  bins bey n lo hi
def gallop' : Bool → Keyed → Array Keyed → Nat → Nat → Nat → StateT SortSt Sem (Option Nat) := sortPriv% PySem.Builtin.gallop
theorem gallop'_eq (left : Bool) (key : Keyed) (arr : Array Keyed) (base n hint : Nat) :
    gallop' left key arr base n hint = gal (fun i => do
      let x ← elem' arr (base + i)
      if left then lt' x key else return (← lt' key x).map (!·)) n hint := rfl
theorem wpS_gal {bey : Nat → StateT SortSt Sem (Option Bool)} {f : Nat → Bool} {n hint : Nat} {st : SortSt} {Q : Option Nat → SortSt → Prop}
    (hb : ∀ i, i < n → ∀ Q : Option Bool → SortSt → Prop, Q (some (f i)) st → wpS (model prog w) A E s (bey i) Q st)
    (hm : ∀ i j, i ≤ j → j < n → f j = true → f i = true) (hh : hint < n)
    (h : ∀ k, k ≤ n → (∀ i, i < k → f i = true) → (∀ i, k ≤ i → i < n → f i = false) → Q (some k) st) :
    wpS (model prog w) A E s (gal bey n hint) Q st := by
  have hm' : ∀ i j, i ≤ j → j < n → f i = false → f j = false := fun i j hij hj hf => by
    cases e : f j with
    | false => rfl
    | true => rw [hm i j hij hj e] at hf; cases hf
  -- the binary search
  have bin : ∀ lo hi last ofs : Nat, lo ≤ hi → hi ≤ n → (∀ i, i < lo → f i = true) → (∀ i, hi ≤ i → i < n → f i = false) →
      wpS (model prog w) A E s (bins bey n lo hi) Q st := by
    intro lo hi last ofs h1 h2 h3 h4
    unfold bins
    dsimp only
    refine wpS_bind (wpS_mono (wpS_forRange (I := fun x c st' => st' = st ∧ ∃ l r, c = (none, l, r) ∧ l ≤ r ∧ r ≤ n ∧ r - l ≤ n - x ∧ (∀ i, i < l → f i = true) ∧ (∀ i, r ≤ i → i < n → f i = false))
      (Q := fun c st' => st' = st ∧ ∃ k, c = (none, k, k) ∧ k ≤ n ∧ (∀ i, i < k → f i = true) ∧ (∀ i, k ≤ i → i < n → f i = false)) ?step ?fin ⟨rfl, lo, hi, rfl, h1, h2, by omega, h3, h4⟩) ?post)
    case post =>
      rintro c st' ⟨rfl, k, rfl, k1, k2, k3⟩
      exact wpS_pure (h k k1 k2 k3)
    case fin =>
      rintro c st' ⟨rfl, l, r, rfl, a1, a2, a3, a4, a5⟩
      have : l = r := by omega
      subst this
      exact ⟨rfl, l, rfl, a2, a4, a5⟩
    case step =>
      rintro x c st' _ hx ⟨rfl, l, r, rfl, a1, a2, a3, a4, a5⟩
      dsimp only
      by_cases hge : l ≥ r
      · rw [if_pos hge]
        have : l = r := by omega
        subst this
        exact wpS_pure ⟨rfl, l, rfl, a2, a4, a5⟩
      · rw [if_neg hge]
        refine wpS_bind (hb _ (by omega) _ ?_)
        dsimp only
        cases e : f (l + (r - l) / 2) with
        | true =>
          rw [if_pos rfl]
          exact wpS_pure ⟨rfl, _, _, rfl, by omega, a2, by omega, fun i hi => hm i (l + (r - l) / 2) (by omega) (by omega) e, a5⟩
        | false =>
          rw [if_neg (by simp)]
          exact wpS_pure ⟨rfl, _, _, rfl, by omega, by omega, by omega, a4, fun i hi hn => hm' (l + (r - l) / 2) i (by omega) hn e⟩
  unfold gal
  refine wpS_bind (hb hint hh _ ?_)
  dsimp only
  cases e : f hint with
  | true =>
    rw [if_pos rfl]
    refine wpS_bind (wpS_mono (wpS_forRange (I := fun x c st' => st' = st ∧ ∃ l o, c = (none, l, o) ∧ l < o ∧ x < o ∧ l < n - hint ∧ f (hint + l) = true)
      (Q := fun c st' => st' = st ∧ ∃ l o, c = (none, l, o) ∧ l < o ∧ l < n - hint ∧ f (hint + l) = true ∧ (n - hint ≤ o ∨ f (hint + o) = false)) ?step ?fin ⟨rfl, 0, 1, rfl, by omega, by omega, by omega, e⟩) ?post)
    case fin =>
      rintro c st' ⟨rfl, l, o, rfl, a1, a2, a3, a4⟩
      exact ⟨rfl, l, o, rfl, a1, a3, a4, .inl (by omega)⟩
    case step =>
      rintro x c st' _ hx ⟨rfl, l, o, rfl, a1, a2, a3, a4⟩
      dsimp only
      by_cases hge : o ≥ n - hint
      · rw [if_pos hge]
        exact wpS_pure ⟨rfl, l, o, rfl, a1, a3, a4, .inl hge⟩
      · rw [if_neg hge]
        refine wpS_bind (hb _ (by omega) _ ?_)
        dsimp only
        cases e2 : f (hint + o) with
        | true =>
          simp only [Bool.not_true, Bool.false_eq_true, if_false]
          exact wpS_pure ⟨rfl, o, 2 * o + 1, rfl, by omega, by omega, by omega, e2⟩
        | false =>
          simp only [Bool.not_false, if_true]
          exact wpS_pure ⟨rfl, l, o, rfl, a1, a3, a4, .inr e2⟩
    case post =>
      rintro c st' ⟨rfl, l, o, rfl, a1, a2, a3, a4⟩
      dsimp only
      refine bin (hint + l + 1) (hint + min o (n - hint)) l o (by omega) (by omega) (fun i hi => hm i (hint + l) (by omega) (by omega) a3) (fun i hi hn => ?_)
      rcases a4 with a4 | a4
      · omega
      · by_cases ho : o ≤ n - hint
        · exact hm' (hint + o) i (by omega) hn a4
        · omega
  | false =>
    rw [if_neg (by simp)]
    refine wpS_bind (wpS_mono (wpS_forRange (I := fun x c st' => st' = st ∧ ∃ l o, c = (none, l, o) ∧ l < o ∧ x < o ∧ l ≤ hint ∧ f (hint - l) = false)
      (Q := fun c st' => st' = st ∧ ∃ l o, c = (none, l, o) ∧ l < o ∧ l ≤ hint ∧ f (hint - l) = false ∧ (hint + 1 ≤ o ∨ f (hint - o) = true)) ?step ?fin ⟨rfl, 0, 1, rfl, by omega, by omega, by omega, e⟩) ?post)
    case fin =>
      rintro c st' ⟨rfl, l, o, rfl, a1, a2, a3, a4⟩
      exact ⟨rfl, l, o, rfl, a1, a3, a4, .inl (by omega)⟩
    case step =>
      rintro x c st' _ hx ⟨rfl, l, o, rfl, a1, a2, a3, a4⟩
      dsimp only
      by_cases hge : o ≥ hint + 1
      · rw [if_pos hge]
        exact wpS_pure ⟨rfl, l, o, rfl, a1, a3, a4, .inl hge⟩
      · rw [if_neg hge]
        refine wpS_bind (hb _ (by omega) _ ?_)
        dsimp only
        cases e2 : f (hint - o) with
        | true =>
          rw [if_pos rfl]
          exact wpS_pure ⟨rfl, l, o, rfl, a1, a3, a4, .inr e2⟩
        | false =>
          rw [if_neg (by simp)]
          exact wpS_pure ⟨rfl, o, 2 * o + 1, rfl, by omega, by omega, by omega, e2⟩
    case post =>
      rintro c st' ⟨rfl, l, o, rfl, a1, a2, a3, a4⟩
      dsimp only
      refine bin (hint + 1 - min o (hint + 1)) (hint - l) l o (by omega) (by omega) (fun i hi => ?_) (fun i hi hn => hm' (hint - l) i (by omega) hn a3)
      rcases a4 with a4 | a4
      · omega
      · by_cases ho : o ≤ hint
        · exact hm i (hint - o) (by omega) (by omega) a4
        · omega
end
end Srt
end
section
set_option maxRecDepth 100000
set_option Elab.async false
set_option linter.all false
namespace Srt
open PySem PyProof.Rows
/-! ### two rising lists -/
abbrev kn (p : Keyed) : Int := numOf p.1
abbrev Up (l : List Keyed) : Prop := l.Pairwise fun x y => kn x ≤ kn y
structure MI (A B O : List Keyed) (i j : Nat) : Prop where
  perm : O.Perm (A.take i ++ B.take j)
  up : Up O
  loA : ∀ x ∈ O, ∀ y ∈ A.drop i, kn x ≤ kn y
  loB : ∀ x ∈ O, ∀ y ∈ B.drop j, kn x ≤ kn y
theorem MI.swap {A B O : List Keyed} {i j : Nat} (m : MI A B O i j) : MI B A O j i := ⟨m.perm.trans List.perm_append_comm, m.up, m.loB, m.loA⟩
theorem Up.drop {l : List Keyed} (h : Up l) (i : Nat) : Up (l.drop i) := h.sublist (List.drop_sublist i l)
theorem Up.take {l : List Keyed} (h : Up l) (i : Nat) : Up (l.take i) := h.sublist (List.take_sublist i l)
theorem Up.app {l r : List Keyed} (h : Up l) (h' : Up r) (c : ∀ x ∈ l, ∀ y ∈ r, kn x ≤ kn y) : Up (l ++ r) := List.pairwise_append.mpr ⟨h, h', c⟩
theorem Up.parts {l : List Keyed} (h : Up l) (k : Nat) : ∀ x ∈ l.take k, ∀ y ∈ l.drop k, kn x ≤ kn y := by
  have e : l = l.take k ++ l.drop k := (List.take_append_drop k l).symm
  rw [e] at h
  exact (List.pairwise_append.mp h).2.2
/-- k more from A -/
theorem MI.chunk {A B O : List Keyed} {i j : Nat} (m : MI A B O i j) (hA : Up A) (k : Nat) (hk : i + k ≤ A.length) (c : ∀ x ∈ (A.drop i).take k, ∀ y ∈ B.drop j, kn x ≤ kn y) : MI A B (O ++ (A.drop i).take k) (i + k) j where
  perm := by
    have e : A.take (i + k) = A.take i ++ (A.drop i).take k := by rw [List.take_add]
    rw [e]
    refine (m.perm.append_right _).trans ?_
    rw [List.append_assoc, List.append_assoc]
    exact List.Perm.append_left _ List.perm_append_comm
  up := m.up.app ((hA.drop i).take k) fun x hx y hy => m.loA x hx y (List.mem_of_mem_take hy)
  loA := fun x hx y hy => by
    have hy' : y ∈ (A.drop i).drop k := by rw [List.drop_drop]; exact hy
    rcases List.mem_append.mp hx with h | h
    · exact m.loA x h y (List.mem_of_mem_drop hy')
    · exact (hA.drop i).parts k x h y hy'
  loB := fun x hx y hy => by
    rcases List.mem_append.mp hx with h | h
    · exact m.loB x h y hy
    · exact c x h y hy
theorem MI.chunkB {A B O : List Keyed} {i j : Nat} (m : MI A B O i j) (hB : Up B) (k : Nat) (hk : j + k ≤ B.length) (c : ∀ x ∈ (B.drop j).take k, ∀ y ∈ A.drop i, kn x ≤ kn y) : MI A B (O ++ (B.drop j).take k) i (j + k) :=
  (m.swap.chunk hB k hk c).swap
theorem take1 {l : List Keyed} {i : Nat} {p : Keyed} (h : l[i]? = some p) : (l.drop i).take 1 = [p] := by
  have hi : i < l.length := (List.getElem?_eq_some_iff.mp h).1
  rw [List.drop_eq_getElem_cons hi]
  have := (List.getElem?_eq_some_iff.mp h).2
  simp [this]
theorem MI.one {A B O : List Keyed} {i j : Nat} {p : Keyed} (m : MI A B O i j) (hA : Up A) (h : A[i]? = some p) (c : ∀ y ∈ B.drop j, kn p ≤ kn y) : MI A B (O ++ [p]) (i + 1) j := by
  have hi : i < A.length := (List.getElem?_eq_some_iff.mp h).1
  have z := m.chunk hA 1 hi (by rw [take1 h]; intro x hx y hy; rw [List.mem_singleton.mp hx]; exact c y hy)
  rw [take1 h] at z
  exact z
theorem MI.oneB {A B O : List Keyed} {i j : Nat} {p : Keyed} (m : MI A B O i j) (hB : Up B) (h : B[j]? = some p) (c : ∀ y ∈ A.drop i, kn p ≤ kn y) : MI A B (O ++ [p]) i (j + 1) := (m.swap.one hB h c).swap
/-- what is at a place stands ahead of all behind -/
theorem Up.head {l : List Keyed} (h : Up l) {i : Nat} {p : Keyed} (e : l[i]? = some p) : ∀ y ∈ l.drop i, kn p ≤ kn y := by
  have hi : i < l.length := (List.getElem?_eq_some_iff.mp e).1
  have e2 := (List.getElem?_eq_some_iff.mp e).2
  have h' := h.drop i
  rw [List.drop_eq_getElem_cons hi, e2] at h'
  intro y hy
  rw [List.drop_eq_getElem_cons hi, e2] at hy
  rcases List.mem_cons.mp hy with rfl | hy
  · exact Int.le_refl _
  · exact (List.pairwise_cons.mp h').1 y hy
def Res (A B R : List Keyed) : Prop := R.Perm (A ++ B) ∧ Up R
theorem MI.all {A B O : List Keyed} {i j : Nat} (m : MI A B O i j) : (O ++ (A.drop i ++ B.drop j)).Perm (A ++ B) := by
  refine (m.perm.append_right _).trans ?_
  have e : A ++ B = (A.take i ++ A.drop i) ++ (B.take j ++ B.drop j) := by rw [List.take_append_drop, List.take_append_drop]
  rw [e, List.append_assoc, List.append_assoc]
  refine List.Perm.append_left _ ?_
  rw [← List.append_assoc, ← List.append_assoc]
  exact List.Perm.append_right _ List.perm_append_comm
theorem MI.fin {A B O : List Keyed} {i j : Nat} (m : MI A B O i j) (hA : Up A) (hB : Up B) (h : A.length ≤ i ∨ B.length ≤ j) : Res A B (O ++ A.drop i ++ B.drop j) := by
  refine ⟨by rw [List.append_assoc]; exact m.all, ?_⟩
  refine (m.up.app (hA.drop i) m.loA).app (hB.drop j) fun x hx y hy => ?_
  rcases List.mem_append.mp hx with hx | hx
  · exact m.loB x hx y hy
  · rcases h with h | h
    · rw [List.drop_eq_nil_of_le h] at hx; cases hx
    · rw [List.drop_eq_nil_of_le h] at hy; cases hy
theorem MI.las {A B O : List Keyed} {i j : Nat} (m : MI A B O i j) (hA : Up A) (hB : Up B) (c : ∀ x ∈ B, ∀ y ∈ A.drop i, kn x ≤ kn y) : Res A B (O ++ B.drop j ++ A.drop i) := by
  refine ⟨?_, ?_⟩
  · rw [List.append_assoc]
    exact (List.Perm.append_left _ List.perm_append_comm).trans m.all
  · refine (m.up.app (hB.drop j) m.loB).app (hA.drop i) fun x hx y hy => ?_
    rcases List.mem_append.mp hx with hx | hx
    · exact m.loA x hx y hy
    · exact c x (List.mem_of_mem_drop hx) y hy
/-- the state but for its gallop -/
def Like (st st' : SortSt) : Prop := kindOf st' = kindOf st ∧ arrOf st' = arrOf st ∧ pendingOf st' = pendingOf st ∧ failedOf st' = failedOf st
theorem Like.refl (st : SortSt) : Like st st := ⟨rfl, rfl, rfl, rfl⟩
def setMin' : Nat → StateT SortSt Sem Unit := sortPriv% PySem.Builtin.setMinGallop
theorem setMin'_eq (g : Nat) : setMin' g = modify fun st => SortSt.mk' (kindOf st) (arrOf st) (pendingOf st) g (failedOf st) := rfl
abbrev LoSt := Option (Array Keyed) × Array Keyed × Nat × Nat × Nat × Nat × Nat
def fiA (a b o : Array Keyed) (x y : Nat) : Array Keyed := o ++ a.extract x a.size ++ b.extract y b.size
def laA (a b o : Array Keyed) (x y : Nat) : Array Keyed := o ++ b.extract y b.size ++ a.extract x a.size
/-- one by one -/
def lo0 (a b : Array Keyed) (g : Nat) (c : Option (Array Keyed) × Array Keyed × Nat × Nat × Nat × Nat) : StateT SortSt Sem (ForInStep (Option (Array Keyed) × Array Keyed × Nat × Nat × Nat × Nat)) := do
  let q ← elem' b c.2.2.2.1
  let p ← elem' a c.2.2.1
  let some t ← lt' q p | pure (.done (some (fiA a b c.2.1 c.2.2.1 c.2.2.2.1), c.2.1, c.2.2.1, c.2.2.2.1, c.2.2.2.2.1, c.2.2.2.2.2))
  if t then
    let q ← elem' b c.2.2.2.1
    if c.2.2.2.1 + 1 == b.size then pure (.done (some (fiA a b (c.2.1.push q) c.2.2.1 (c.2.2.2.1 + 1)), c.2.1.push q, c.2.2.1, c.2.2.2.1 + 1, 0, c.2.2.2.2.2 + 1))
    else if c.2.2.2.2.2 + 1 ≥ g then pure (.done (none, c.2.1.push q, c.2.2.1, c.2.2.2.1 + 1, 0, c.2.2.2.2.2 + 1))
    else pure (.yield (none, c.2.1.push q, c.2.2.1, c.2.2.2.1 + 1, 0, c.2.2.2.2.2 + 1))
  else
    let p ← elem' a c.2.2.1
    if c.2.2.1 + 1 + 1 == a.size then pure (.done (some (laA a b (c.2.1.push p) (c.2.2.1 + 1) c.2.2.2.1), c.2.1.push p, c.2.2.1 + 1, c.2.2.2.1, c.2.2.2.2.1 + 1, 0))
    else if c.2.2.2.2.1 + 1 ≥ g then pure (.done (none, c.2.1.push p, c.2.2.1 + 1, c.2.2.2.1, c.2.2.2.2.1 + 1, 0))
    else pure (.yield (none, c.2.1.push p, c.2.2.1 + 1, c.2.2.2.1, c.2.2.2.2.1 + 1, 0))
/-- the end of a gallop's turn -/
def lo4 (a b o : Array Keyed) (i j g m n : Nat) : StateT SortSt Sem (ForInStep LoSt) := do
  let p ← elem' a i
  if i + 1 + 1 == a.size then pure (.done (some (laA a b (o.push p) (i + 1) j), o.push p, i + 1, j, g, m, n))
  else if (m < 7 && n < 7) = true then pure (.done (none, o.push p, i + 1, j, g, m, n))
  else pure (.yield (none, o.push p, i + 1, j, g, m, n))
def lo3 (a b o : Array Keyed) (i j g m n : Nat) : StateT SortSt Sem (ForInStep LoSt) := do
  let p ← elem' a i
  let some k ← gallop' true p b j (b.size - j) 0 | pure (.done (some (fiA a b o i j), o, i, j, g, m, n))
  if k > 0 then
    if j + k == b.size then pure (.done (some (fiA a b (o ++ b.extract j (j + k)) i (j + k)), o ++ b.extract j (j + k), i, j + k, g, m, k))
    else lo4 a b (o ++ b.extract j (j + k)) i (j + k) g m k
  else lo4 a b o i j g m k
def lo2 (a b o : Array Keyed) (i j g m n : Nat) : StateT SortSt Sem (ForInStep LoSt) := do
  let q ← elem' b j
  if j + 1 == b.size then pure (.done (some (fiA a b (o.push q) i (j + 1)), o.push q, i, j + 1, g, m, n))
  else lo3 a b (o.push q) i (j + 1) g m n
def lo1 (a b o : Array Keyed) (i j g m n : Nat) : StateT SortSt Sem (ForInStep LoSt) := do
  setMin' g
  let q ← elem' b j
  let some k ← gallop' false q a i (a.size - i) 0 | pure (.done (some (fiA a b o i j), o, i, j, g, m, n))
  if k > 0 then
    if i + k + 1 == a.size then pure (.done (some (laA a b (o ++ a.extract i (i + k)) (i + k) j), o ++ a.extract i (i + k), i + k, j, g, k, n))
    else if i + k == a.size then pure (.done (some (fiA a b (o ++ a.extract i (i + k)) (i + k) j), o ++ a.extract i (i + k), i + k, j, g, k, n))
    else lo2 a b (o ++ a.extract i (i + k)) (i + k) j g k n
  else lo2 a b o i j g k n
def loG (a b : Array Keyed) (c : LoSt) : StateT SortSt Sem (ForInStep LoSt) :=
  if c.2.2.2.2.1 > 1 then lo1 a b c.2.1 c.2.2.1 c.2.2.2.1 (c.2.2.2.2.1 - 1) c.2.2.2.2.2.1 c.2.2.2.2.2.2
  else lo1 a b c.2.1 c.2.2.1 c.2.2.2.1 c.2.2.2.2.1 c.2.2.2.2.2.1 c.2.2.2.2.2.2
def loT (a b : Array Keyed) (c : Option (Array Keyed) × Array Keyed × Nat × Nat × Nat) : StateT SortSt Sem (ForInStep (Option (Array Keyed) × Array Keyed × Nat × Nat × Nat)) := do
  let r ← forIn [0:a.size + b.size] ((none, c.2.1, c.2.2.1, c.2.2.2.1, 0, 0) : Option (Array Keyed) × Array Keyed × Nat × Nat × Nat × Nat) fun _ z => lo0 a b c.2.2.2.2 z
  match r.1 with
  | some R => pure (.done (some R, r.2.1, r.2.2.1, r.2.2.2.1, c.2.2.2.2))
  | none => do
    rule "list.sort.gallop"
    let r ← forIn [0:a.size + b.size] ((none, r.2.1, r.2.2.1, r.2.2.2.1, c.2.2.2.2 + 1, r.2.2.2.2.1, r.2.2.2.2.2) : LoSt) fun _ z => loG a b z
    match r.1 with
    | some R => pure (.done (some R, r.2.1, r.2.2.1, r.2.2.2.1, r.2.2.2.2.1))
    | none => do
      setMin' (r.2.2.2.2.1 + 1)
      pure (.yield (none, r.2.1, r.2.2.1, r.2.2.2.1, r.2.2.2.2.1 + 1))
def mLo (a b : Array Keyed) : StateT SortSt Sem (Array Keyed) := do
  rule "list.sort.merge-lo"
  let q ← elem' b 0
  if 1 == b.size then return fiA a b #[q] 0 1
  if 0 + 1 == a.size then return laA a b #[q] 0 1
  let g := gallopOf (← get)
  let r ← forIn [0:a.size + b.size] ((none, #[q], 0, 1, g) : Option (Array Keyed) × Array Keyed × Nat × Nat × Nat) fun _ z => loT a b z
  match r.1 with
  | some R => pure R
  | none => unsupported "internal:list.sort.merge-bound"
def mLoD (a b : Array Keyed) : StateT SortSt Sem (Array Keyed) := do
  rule "list.sort.merge-lo"
  let tot := a.size + b.size
  let fin (o : Array Keyed) (x y : Nat) := o ++ a.extract x a.size ++ b.extract y b.size
  let las (o : Array Keyed) (x y : Nat) := o ++ b.extract y b.size ++ a.extract x a.size
  let mut o : Array Keyed := #[← elem' b 0]
  let mut i := 0
  let mut j := 1
  if j == b.size then return fin o i j
  if i + 1 == a.size then return las o i j
  let mut g := gallopOf (← get)
  for _ in [0:tot] do
    let mut m := 0
    let mut n := 0
    for _ in [0:tot] do
      let some t ← lt' (← elem' b j) (← elem' a i) | return fin o i j
      if t then
        o := o.push (← elem' b j); j := j + 1; n := n + 1; m := 0
        if j == b.size then return fin o i j
        if n ≥ g then break
      else
        o := o.push (← elem' a i); i := i + 1; m := m + 1; n := 0
        if i + 1 == a.size then return las o i j
        if m ≥ g then break
    rule "list.sort.gallop"
    g := g + 1
    for _ in [0:tot] do
      if g > 1 then g := g - 1
      setMin' g
      let some k ← gallop' false (← elem' b j) a i (a.size - i) 0 | return fin o i j
      m := k
      if k > 0 then
        o := o ++ a.extract i (i + k); i := i + k
        if i + 1 == a.size then return las o i j
        if i == a.size then return fin o i j
      o := o.push (← elem' b j); j := j + 1
      if j == b.size then return fin o i j
      let some k ← gallop' true (← elem' a i) b j (b.size - j) 0 | return fin o i j
      n := k
      if k > 0 then
        o := o ++ b.extract j (j + k); j := j + k
        if j == b.size then return fin o i j
      o := o.push (← elem' a i); i := i + 1
      if i + 1 == a.size then return las o i j
      if m < 7 && n < 7 then break
    g := g + 1
    setMin' g
  unsupported "internal:list.sort.merge-bound"
def mergeLo' : Array Keyed → Array Keyed → StateT SortSt Sem (Array Keyed) := sortPriv% PySem.Builtin.mergeLo
theorem mergeLo'_eqD (a b : Array Keyed) : mergeLo' a b = mLoD a b := rfl
theorem mLoD_eq (a b : Array Keyed) : mLoD a b = mLo a b := by
  unfold mLoD mLo
  refine congrArg _ (funext fun _ => ?_)
  refine congrArg (fun k => elem' b 0 >>= k) (funext fun q => ?_)
  show (if (1 == b.size) = true then _ else if (0 + 1 == a.size) = true then _ else (get >>= _)) = _
  refine congrArg (fun k => if (1 == b.size) = true then pure (fiA a b #[q] 0 1) else k) ?_
  refine congrArg (fun k => if (0 + 1 == a.size) = true then pure (laA a b #[q] 0 1) else k) ?_
  refine congrArg (fun k => get >>= k) (funext fun st => ?_)
  show ((forIn _ _ _) >>= _) = _
  refine congr (congrArg _ ?_) ?_
  · refine congrArg _ (funext fun _ => funext fun c => ?_)
    unfold loT
    show ((forIn _ _ _) >>= _) = _
    refine congr (congrArg _ ?_) ?_
    · rfl
    · refine funext fun r => ?_
      obtain ⟨r1, r2⟩ := r
      cases r1
      · show (liftM _ >>= fun _ => ((forIn _ _ _) >>= _)) = _
        refine congrArg _ (funext fun _ => ?_)
        refine congr (congrArg _ ?_) ?_
        · refine congrArg _ (funext fun _ => funext fun c => ?_)
          unfold loG lo1
          rfl
        · refine funext fun r => ?_
          obtain ⟨r1, _⟩ := r
          cases r1 <;> rfl
      · rfl
  · refine funext fun r => ?_
    obtain ⟨r1, _⟩ := r
    cases r1 <;> rfl
end Srt
end
section
set_option maxRecDepth 100000
set_option Elab.async false
set_option linter.all false
set_option maxHeartbeats 4000000
namespace Srt
open PySem PyProof.Rows
theorem at_of {a : Array Keyed} (ia : ∀ p ∈ a.toList, IntKey p) {i : Nat} (h : i < a.size) : ∃ q, a[i]? = some q ∧ a.toList[i]? = some q ∧ IntKey q := by
  refine ⟨a[i], by simp [h], by simp [h], ia _ (by simp)⟩
theorem K_at {a : Array Keyed} {i : Nat} {q : Keyed} (h : a[i]? = some q) : K a i = kn q := by unfold K; rw [h]
section
variable {prog : Program} {w : World} {A : Around} {E : Value → Shared → Prop} {s : Shared}
/-- the falling question of gallop upon a rising array -/
def fq (left : Bool) (key : Keyed) (arr : Array Keyed) (base i : Nat) : Bool := if left then decide (K arr (base + i) < kn key) else !decide (kn key < K arr (base + i))
theorem wpS_gallop {left : Bool} {key : Keyed} {arr : Array Keyed} {base n hint : Nat} {st : SortSt} {Q : Option Nat → SortSt → Prop}
    (hk : kindOf st = oneType') (ik : IntKey key) (hi : ∀ i, i < n → ∃ q, arr[base + i]? = some q ∧ IntKey q)
    (hm : ∀ i j, i ≤ j → j < n → K arr (base + i) ≤ K arr (base + j)) (hh : hint < n)
    (h : ∀ k, k ≤ n → (∀ i, i < k → fq left key arr base i = true) → (∀ i, k ≤ i → i < n → fq left key arr base i = false) → Q (some k) st) :
    wpS (model prog w) A E s (gallop' left key arr base n hint) Q st := by
  rw [gallop'_eq]
  refine wpS_gal (f := fq left key arr base) (fun i hin Q' hq => ?_) (fun i j hij hj e => ?_) hh h
  · obtain ⟨q, e, iq⟩ := hi i hin
    refine wpS_bind (wpS_elem e ?_)
    unfold fq at hq
    rw [K_at e] at hq
    cases left with
    | true => exact wpS_lt hk iq ik (by simpa using hq)
    | false =>
      refine wpS_bind (wpS_lt hk ik iq ?_)
      exact wpS_pure (by simpa using hq)
  · have := hm i j hij hj
    unfold fq at e ⊢
    cases left <;> simp at e ⊢ <;> omega
theorem Up.K_le {a : Array Keyed} (u : Up a.toList) {i j : Nat} (hij : i ≤ j) (hj : j < a.size) : K a i ≤ K a j := by
  have hi : i < a.size := by omega
  have e1 : a[i]? = some a[i] := by simp [hi]
  have e2 : a[j]? = some a[j] := by simp [hj]
  rw [K_at e1, K_at e2]
  by_cases h : i = j
  · subst h; exact Int.le_refl _
  · have := List.pairwise_iff_getElem.mp u i j (by simpa using hi) (by simpa using hj) (by omega)
    simpa using this
theorem mem_chunk {a : Array Keyed} {i k : Nat} {x : Keyed} (h : x ∈ (a.toList.drop i).take k) : ∃ m, m < k ∧ i + m < a.size ∧ K a (i + m) = kn x := by
  obtain ⟨m, hm, e⟩ := List.mem_iff_getElem.mp h
  rw [List.length_take, List.length_drop] at hm
  have h1 : i + m < a.toList.length := by omega
  have e' : a.toList[i + m] = x := by
    rw [← e]; simp [List.getElem_take, List.getElem_drop]
  refine ⟨m, by omega, by simpa using h1, ?_⟩
  have e1 : a[i + m]? = some x := by rw [← e']; simp at h1; simp [h1]
  exact K_at e1
theorem mem_drop_K {a : Array Keyed} {i : Nat} {x : Keyed} (h : x ∈ a.toList.drop i) : ∃ m, i + m < a.size ∧ K a (i + m) = kn x := by
  have h' : x ∈ (a.toList.drop i).take a.toList.length := by
    rw [List.take_of_length_le (by simp)]
    exact h
  obtain ⟨m, _, h1, h2⟩ := mem_chunk h'
  exact ⟨m, h1, h2⟩
theorem ext_list (a : Array Keyed) (i : Nat) : (a.extract i a.size).toList = a.toList.drop i := by
  rw [Array.toList_extract, List.extract_eq_take_drop]
  exact List.take_of_length_le (by simp)
theorem ext_chunk (a : Array Keyed) (i k : Nat) : (a.extract i (i + k)).toList = (a.toList.drop i).take k := by
  rw [Array.toList_extract, List.extract_eq_take_drop]
  congr 1
  omega
theorem push_list (a : Array Keyed) (x : Keyed) : (a.push x).toList = a.toList ++ [x] := by simp
/-- what the merge of two rising arrays is told of them -/
structure Two (a b : Array Keyed) : Prop where
  ia : ∀ p ∈ a.toList, IntKey p
  ib : ∀ p ∈ b.toList, IntKey p
  uA : Up a.toList
  uB : Up b.toList
  ha : 0 < a.size
  hb : 0 < b.size
  first : ∀ q, b.toList[0]? = some q → ∀ y ∈ a.toList, kn q ≤ kn y
  last : ∀ x ∈ b.toList, ∀ y ∈ a.toList.drop (a.size - 1), kn x ≤ kn y
theorem Two.fi {a b : Array Keyed} (T : Two a b) {o : Array Keyed} {i j : Nat} (m : MI a.toList b.toList o.toList i j) (hj : a.size ≤ i ∨ b.size ≤ j) : Res a.toList b.toList (fiA a b o i j).toList := by
  unfold fiA
  rw [Array.toList_append, Array.toList_append, ext_list, ext_list]
  exact m.fin T.uA T.uB (by simpa using hj)
theorem Two.la {a b : Array Keyed} (T : Two a b) {o : Array Keyed} {i j : Nat} (m : MI a.toList b.toList o.toList i j) (hi : i + 1 = a.size) : Res a.toList b.toList (laA a b o i j).toList := by
  unfold laA
  rw [Array.toList_append, Array.toList_append, ext_list, ext_list]
  refine m.las T.uA T.uB ?_
  have : i = a.size - 1 := by omega
  rw [this]
  exact T.last
theorem Two.pushB {a b : Array Keyed} (T : Two a b) {o : Array Keyed} {i j : Nat} {q : Keyed} (m : MI a.toList b.toList o.toList i j) (e : b.toList[j]? = some q) (c : ∀ y ∈ a.toList.drop i, kn q ≤ kn y) : MI a.toList b.toList (o.push q).toList i (j + 1) := by
  rw [push_list]; exact m.oneB T.uB e c
theorem Two.pushA {a b : Array Keyed} (T : Two a b) {o : Array Keyed} {i j : Nat} {q : Keyed} (m : MI a.toList b.toList o.toList i j) (e : a.toList[i]? = some q) (c : ∀ y ∈ b.toList.drop j, kn q ≤ kn y) : MI a.toList b.toList (o.push q).toList (i + 1) j := by
  rw [push_list]; exact m.one T.uA e c
theorem Two.manyA {a b : Array Keyed} (T : Two a b) {o : Array Keyed} {i j k : Nat} (m : MI a.toList b.toList o.toList i j) (hk : i + k ≤ a.size) (c : ∀ x ∈ (a.toList.drop i).take k, ∀ y ∈ b.toList.drop j, kn x ≤ kn y) : MI a.toList b.toList (o ++ a.extract i (i + k)).toList (i + k) j := by
  rw [Array.toList_append, ext_chunk]; exact m.chunk T.uA k (by simpa using hk) c
theorem Two.manyB {a b : Array Keyed} (T : Two a b) {o : Array Keyed} {i j k : Nat} (m : MI a.toList b.toList o.toList i j) (hk : j + k ≤ b.size) (c : ∀ x ∈ (b.toList.drop j).take k, ∀ y ∈ a.toList.drop i, kn x ≤ kn y) : MI a.toList b.toList (o ++ b.extract j (j + k)).toList i (j + k) := by
  rw [Array.toList_append, ext_chunk]; exact m.chunkB T.uB k (by simpa using hk) c
theorem Like.step {st st' : SortSt} (l : Like st st') (g : Nat) : Like st (SortSt.mk' (kindOf st') (arrOf st') (pendingOf st') g (failedOf st')) := ⟨l.1, l.2.1, l.2.2.1, l.2.2.2⟩
/-- behind a turn of the one by one loop -/
def Aft0 (a b : Array Keyed) (N : Nat) (c : Option (Array Keyed) × Array Keyed × Nat × Nat × Nat × Nat) : Prop :=
  (∃ R, c.1 = some R ∧ Res a.toList b.toList R.toList) ∨ (∃ o i j m n, c = (none, o, i, j, m, n) ∧ MI a.toList b.toList o.toList i j ∧ i + 1 < a.size ∧ j < b.size ∧ N ≤ i + j)
theorem wpS_lo0 {a b o : Array Keyed} {i j g m n : Nat} {st st' : SortSt} (hk : kindOf st = oneType') (T : Two a b) (l : Like st st') (I : MI a.toList b.toList o.toList i j) (h1 : i + 1 < a.size) (h2 : j < b.size)
    {Q : ForInStep (Option (Array Keyed) × Array Keyed × Nat × Nat × Nat × Nat) → SortSt → Prop}
    (hd : ∀ c, Aft0 a b (i + j + 1) c → Q (.done c) st') (hy : ∀ o' i' j' m' n', MI a.toList b.toList o'.toList i' j' → i' + 1 < a.size → j' < b.size → i + j + 1 ≤ i' + j' → Q (.yield (none, o', i', j', m', n')) st') :
    wpS (model prog w) A E s (lo0 a b g (none, o, i, j, m, n)) Q st' := by
  obtain ⟨q, e1, e1', k1⟩ := at_of T.ib h2
  obtain ⟨p, e2, e2', k2⟩ := at_of T.ia (show i < a.size by omega)
  unfold lo0
  dsimp only
  refine wpS_bind (wpS_elem e1 (wpS_bind (wpS_elem e2 (wpS_bind (wpS_lt (l.1.trans hk) k1 k2 ?_)))))
  dsimp only
  by_cases c : kn q < kn p
  · rw [if_pos (by simpa using c)]
    refine wpS_bind (wpS_elem e1 ?_)
    have I' : MI a.toList b.toList (o.push q).toList i (j + 1) := T.pushB I e1' fun y hy => Int.le_trans (Int.le_of_lt c) (T.uA.head e2' y hy)
    by_cases hb : j + 1 = b.size
    · rw [if_pos (by simpa using hb)]
      exact wpS_pure (hd _ (.inl ⟨_, rfl, T.fi I' (.inr (by omega))⟩))
    · rw [if_neg (by simpa using hb)]
      by_cases hg : n + 1 ≥ g
      · rw [if_pos hg]
        exact wpS_pure (hd _ (.inr ⟨_, _, _, _, _, rfl, I', h1, by omega, by omega⟩))
      · rw [if_neg hg]
        exact wpS_pure (hy _ _ _ _ _ I' h1 (by omega) (by omega))
  · rw [if_neg (by simpa using c)]
    refine wpS_bind (wpS_elem e2 ?_)
    have I' : MI a.toList b.toList (o.push p).toList (i + 1) j := T.pushA I e2' fun y hy => Int.le_trans (Int.not_lt.mp c) (T.uB.head e1' y hy)
    by_cases hb : i + 1 + 1 = a.size
    · rw [if_pos (by simpa using hb)]
      exact wpS_pure (hd _ (.inl ⟨_, rfl, T.la I' hb⟩))
    · rw [if_neg (by simpa using hb)]
      by_cases hg : m + 1 ≥ g
      · rw [if_pos hg]
        exact wpS_pure (hd _ (.inr ⟨_, _, _, _, _, rfl, I', by omega, by omega, by omega⟩))
      · rw [if_neg hg]
        exact wpS_pure (hy _ _ _ _ _ I' (by omega) (by omega) (by omega))
def Aft1 (a b : Array Keyed) (N : Nat) (c : LoSt) : Prop :=
  (∃ R, c.1 = some R ∧ Res a.toList b.toList R.toList) ∨ (∃ o i j g m n, c = (none, o, i, j, g, m, n) ∧ MI a.toList b.toList o.toList i j ∧ i + 1 < a.size ∧ j < b.size ∧ N ≤ i + j)
/-- what is wanted behind a gallop's turn -/
def W1 (a b : Array Keyed) (st : SortSt) (N : Nat) (r : ForInStep LoSt) (st' : SortSt) : Prop :=
  Like st st' ∧ match r with
    | .done c => Aft1 a b N c
    | .yield c => c.1 = none ∧ Aft1 a b N c
theorem wpS_lo4 {a b o : Array Keyed} {i j g m n N : Nat} {st st' : SortSt} (T : Two a b) (l : Like st st') (I : MI a.toList b.toList o.toList i j) (h1 : i + 1 < a.size) (h2 : j < b.size) (hN : N ≤ i + j) (lo : ∀ p, a.toList[i]? = some p → ∀ y ∈ b.toList.drop j, kn p ≤ kn y) :
    wpS (model prog w) A E s (lo4 a b o i j g m n) (W1 a b st N) st' := by
  obtain ⟨p, e2, e2', k2⟩ := at_of T.ia (show i < a.size by omega)
  unfold lo4
  refine wpS_bind (wpS_elem e2 ?_)
  have I' : MI a.toList b.toList (o.push p).toList (i + 1) j := T.pushA I e2' (lo p e2')
  by_cases hb : i + 1 + 1 = a.size
  · rw [if_pos (by simpa using hb)]
    exact wpS_pure ⟨l, .inl ⟨_, rfl, T.la I' hb⟩⟩
  · rw [if_neg (by simpa using hb)]
    split
    · exact wpS_pure ⟨l, .inr ⟨_, _, _, _, _, _, rfl, I', by omega, by omega, by omega⟩⟩
    · exact wpS_pure ⟨l, rfl, .inr ⟨_, _, _, _, _, _, rfl, I', by omega, by omega, by omega⟩⟩
theorem wpS_lo3 {a b o : Array Keyed} {i j g m n N : Nat} {st st' : SortSt} (hk : kindOf st = oneType') (T : Two a b) (l : Like st st') (I : MI a.toList b.toList o.toList i j) (h1 : i + 1 < a.size) (h2 : j < b.size) (hN : N ≤ i + j) :
    wpS (model prog w) A E s (lo3 a b o i j g m n) (W1 a b st N) st' := by
  obtain ⟨p, e2, e2', k2⟩ := at_of T.ia (show i < a.size by omega)
  unfold lo3
  refine wpS_bind (wpS_elem e2 (wpS_bind ?_))
  refine wpS_gallop (l.1.trans hk) k2 (fun x hx => ?_) (fun x y hxy hy => T.uB.K_le (by omega) (by omega)) (by omega) fun k hk0 ht hf => ?_
  · obtain ⟨q, z1, _, z2⟩ := at_of T.ib (show j + x < b.size by omega)
    exact ⟨q, z1, z2⟩
  dsimp only
  have lo : ∀ p', a.toList[i]? = some p' → ∀ y ∈ b.toList.drop (j + k), kn p' ≤ kn y := fun p' e y hy => by
    rw [e2'] at e; cases e
    obtain ⟨x, hx, e3⟩ := mem_drop_K hy
    have := hf (k + x) (by omega) (by omega)
    unfold fq at this
    simp at this
    rw [← Nat.add_assoc, e3] at this
    exact this
  by_cases h0 : k > 0
  · rw [if_pos h0]
    have I' : MI a.toList b.toList (o ++ b.extract j (j + k)).toList i (j + k) := T.manyB I (by omega) fun x hx y hy => by
      obtain ⟨z, hz, _, e3⟩ := mem_chunk hx
      have := ht z hz
      unfold fq at this
      simp at this
      rw [e3] at this
      exact Int.le_trans (Int.le_of_lt this) (T.uA.head e2' y hy)
    by_cases hb : j + k = b.size
    · rw [if_pos (by simpa using hb)]
      exact wpS_pure ⟨l, .inl ⟨_, rfl, T.fi I' (.inr (by omega))⟩⟩
    · rw [if_neg (by simpa using hb)]
      exact wpS_lo4 T l I' h1 (by omega) (by omega) lo
  · rw [if_neg h0]
    have : k = 0 := by omega
    subst this
    exact wpS_lo4 T l I h1 h2 hN lo
theorem wpS_lo2 {a b o : Array Keyed} {i j g m n N : Nat} {st st' : SortSt} (hk : kindOf st = oneType') (T : Two a b) (l : Like st st') (I : MI a.toList b.toList o.toList i j) (h1 : i + 1 < a.size) (h2 : j < b.size) (hN : N ≤ i + j) (lo : ∀ p, b.toList[j]? = some p → ∀ y ∈ a.toList.drop i, kn p ≤ kn y) :
    wpS (model prog w) A E s (lo2 a b o i j g m n) (W1 a b st N) st' := by
  obtain ⟨q, e1, e1', k1⟩ := at_of T.ib h2
  unfold lo2
  refine wpS_bind (wpS_elem e1 ?_)
  have I' : MI a.toList b.toList (o.push q).toList i (j + 1) := T.pushB I e1' (lo q e1')
  by_cases hb : j + 1 = b.size
  · rw [if_pos (by simpa using hb)]
    exact wpS_pure ⟨l, .inl ⟨_, rfl, T.fi I' (.inr (by omega))⟩⟩
  · rw [if_neg (by simpa using hb)]
    exact wpS_lo3 hk T l I' h1 (by omega) (by omega)
theorem wpS_lo1 {a b o : Array Keyed} {i j g m n N : Nat} {st st' : SortSt} (hk : kindOf st = oneType') (T : Two a b) (l : Like st st') (I : MI a.toList b.toList o.toList i j) (h1 : i + 1 < a.size) (h2 : j < b.size) (hN : N ≤ i + j) :
    wpS (model prog w) A E s (lo1 a b o i j g m n) (W1 a b st N) st' := by
  obtain ⟨q, e1, e1', k1⟩ := at_of T.ib h2
  unfold lo1
  rw [setMin'_eq]
  refine wpS_bind (wpS_modify ?_)
  have l' := l.step g
  refine wpS_bind (wpS_elem e1 (wpS_bind ?_))
  refine wpS_gallop (l'.1.trans hk) k1 (fun x hx => ?_) (fun x y hxy hy => T.uA.K_le (by omega) (by omega)) (by omega) fun k hk0 ht hf => ?_
  · obtain ⟨q, z1, _, z2⟩ := at_of T.ia (show i + x < a.size by omega)
    exact ⟨q, z1, z2⟩
  dsimp only
  have lo : ∀ p', b.toList[j]? = some p' → ∀ y ∈ a.toList.drop (i + k), kn p' ≤ kn y := fun p' e y hy => by
    rw [e1'] at e; cases e
    obtain ⟨x, hx, e3⟩ := mem_drop_K hy
    have := hf (k + x) (by omega) (by omega)
    unfold fq at this
    simp at this
    rw [← Nat.add_assoc, e3] at this
    exact Int.le_of_lt this
  by_cases h0 : k > 0
  · rw [if_pos h0]
    have I' : MI a.toList b.toList (o ++ a.extract i (i + k)).toList (i + k) j := T.manyA I (by omega) fun x hx y hy => by
      obtain ⟨z, hz, _, e3⟩ := mem_chunk hx
      have := ht z hz
      unfold fq at this
      simp at this
      rw [e3] at this
      exact Int.le_trans this (T.uB.head e1' y hy)
    by_cases hb : i + k + 1 = a.size
    · rw [if_pos (by simpa using hb)]
      exact wpS_pure ⟨l', .inl ⟨_, rfl, T.la I' hb⟩⟩
    · rw [if_neg (by simpa using hb)]
      by_cases hb2 : i + k = a.size
      · rw [if_pos (by simpa using hb2)]
        exact wpS_pure ⟨l', .inl ⟨_, rfl, T.fi I' (.inl (by omega))⟩⟩
      · rw [if_neg (by simpa using hb2)]
        exact wpS_lo2 hk T l' I' (by omega) h2 (by omega) lo
  · rw [if_neg h0]
    have : k = 0 := by omega
    subst this
    exact wpS_lo2 hk T l' I h1 h2 hN lo
theorem wpS_loG {a b o : Array Keyed} {i j g m n N : Nat} {st st' : SortSt} (hk : kindOf st = oneType') (T : Two a b) (l : Like st st') (I : MI a.toList b.toList o.toList i j) (h1 : i + 1 < a.size) (h2 : j < b.size) (hN : N ≤ i + j) :
    wpS (model prog w) A E s (loG a b (none, o, i, j, g, m, n)) (W1 a b st N) st' := by
  unfold loG
  dsimp only
  split
  · exact wpS_lo1 hk T l I h1 h2 hN
  · exact wpS_lo1 hk T l I h1 h2 hN
theorem wpS_loT {a b o : Array Keyed} {i j g : Nat} {st st' : SortSt} (hk : kindOf st = oneType') (T : Two a b) (l : Like st st') (I : MI a.toList b.toList o.toList i j) (h1 : i + 1 < a.size) (h2 : j < b.size)
    {Q : ForInStep (Option (Array Keyed) × Array Keyed × Nat × Nat × Nat) → SortSt → Prop}
    (hd : ∀ c st', Like st st' → (∃ R, c.1 = some R ∧ Res a.toList b.toList R.toList) → Q (.done c) st')
    (hy : ∀ o' i' j' g' st', Like st st' → MI a.toList b.toList o'.toList i' j' → i' + 1 < a.size → j' < b.size → i + j + 1 ≤ i' + j' → Q (.yield (none, o', i', j', g')) st') :
    wpS (model prog w) A E s (loT a b (none, o, i, j, g)) Q st' := by
  unfold loT
  dsimp only
  refine wpS_bind (wpS_mono (wpS_forRange (I := fun x c st2 => st2 = st' ∧ ∃ o' i' j' m n, c = (none, o', i', j', m, n) ∧ MI a.toList b.toList o'.toList i' j' ∧ i' + 1 < a.size ∧ j' < b.size ∧ i + j + x ≤ i' + j')
    (Q := fun c st2 => st2 = st' ∧ Aft0 a b (i + j + 1) c) ?step ?fin ⟨rfl, o, i, j, 0, 0, rfl, I, h1, h2, by omega⟩) ?post)
  case fin =>
    rintro c st2 ⟨rfl, o', i', j', m, n, rfl, I', k1, k2, k3⟩
    exact ⟨rfl, .inr ⟨o', i', j', m, n, rfl, I', k1, k2, by omega⟩⟩
  case step =>
    rintro x c st2 _ hx ⟨rfl, o', i', j', m, n, rfl, I', k1, k2, k3⟩
    refine wpS_lo0 hk T l I' k1 k2 (fun c hc => ⟨rfl, ?_⟩) fun o2 i2 j2 m2 n2 I2 q1 q2 q3 => ⟨rfl, o2, i2, j2, m2, n2, rfl, I2, q1, q2, by omega⟩
    rcases hc with hc | ⟨o2, i2, j2, m2, n2, rfl, I2, q1, q2, q3⟩
    · exact .inl hc
    · exact .inr ⟨o2, i2, j2, m2, n2, rfl, I2, q1, q2, by omega⟩
  case post =>
    rintro c st2 ⟨rfl, hc⟩
    rcases hc with ⟨R, e, hR⟩ | ⟨o2, i2, j2, m2, n2, rfl, I2, q1, q2, q3⟩
    · rw [e]
      exact wpS_pure (hd _ _ l ⟨R, rfl, hR⟩)
    · dsimp only
      refine wpS_bind (wpS_lift (wpAny_rule ⟨rfl, ?_⟩))
      refine wpS_bind (wpS_mono (wpS_forRange (I := fun x c st3 => Like st st3 ∧ c.1 = none ∧ Aft1 a b (i + j + 1) c) (Q := fun c st3 => Like st st3 ∧ Aft1 a b (i + j + 1) c)
        ?step2 (fun c st3 ⟨z1, _, z2⟩ => ⟨z1, z2⟩) ⟨l, rfl, .inr ⟨_, _, _, _, _, _, rfl, I2, q1, q2, by omega⟩⟩) ?post2)
      case step2 =>
        rintro x c st3 _ hx ⟨l3, e3, z⟩
        rcases z with ⟨R, e, _⟩ | ⟨o3, i3, j3, g3, m3, n3, rfl, I3, r1, r2, r3⟩
        · rw [e3] at e; cases e
        · refine wpS_mono (wpS_loG hk T l3 I3 r1 r2 r3) fun r st4 h4 => ?_
          cases r with
          | done c => exact h4
          | yield c => exact h4
      case post2 =>
        rintro c st3 ⟨l3, z⟩
        rcases z with ⟨R, e, hR⟩ | ⟨o3, i3, j3, g3, m3, n3, rfl, I3, r1, r2, r3⟩
        · rw [e]
          exact wpS_pure (hd _ _ l3 ⟨R, rfl, hR⟩)
        · dsimp only
          rw [setMin'_eq]
          refine wpS_bind (wpS_modify ?_)
          exact wpS_pure (hy _ _ _ _ _ (l3.step _) I3 r1 r2 r3)
theorem wpS_mergeLo {a b : Array Keyed} {st : SortSt} {Q : Array Keyed → SortSt → Prop} (hk : kindOf st = oneType') (T : Two a b) (h : ∀ R st', Like st st' → Res a.toList b.toList R.toList → Q R st') :
    wpS (model prog w) A E s (mergeLo' a b) Q st := by
  rw [mergeLo'_eqD, mLoD_eq]
  unfold mLo
  refine wpS_bind (wpS_lift (wpAny_rule ⟨rfl, ?_⟩))
  obtain ⟨q0, e0, e0', i0⟩ := at_of T.ib T.hb
  have ha := T.ha
  have hb := T.hb
  refine wpS_bind (wpS_elem e0 ?_)
  have m0 : MI a.toList b.toList (#[q0] : Array Keyed).toList 0 1 := by
    refine ⟨?_, by simp [Up], ?_, ?_⟩
    · have : b.toList.take 1 = [q0] := by
        have := take1 e0'
        simpa using this
      rw [this]; simp
    · intro x hx y hy
      simp at hx; subst hx
      exact T.first _ e0' y (by simpa using hy)
    · intro x hx y hy
      simp at hx; subst hx
      exact T.uB.head e0' y (by simpa using List.mem_of_mem_drop hy)
  by_cases hb1 : 1 = b.size
  · rw [if_pos (by simpa using hb1)]
    exact wpS_pure (h _ _ (Like.refl _) (T.fi m0 (.inr (by omega))))
  rw [if_neg (by simpa using hb1)]
  by_cases ha1 : 0 + 1 = a.size
  · rw [if_pos (by simpa using ha1)]
    exact wpS_pure (h _ _ (Like.refl _) (T.la m0 ha1))
  rw [if_neg (by simpa using ha1)]
  refine wpS_bind (wpS_get ?_)
  refine wpS_bind (wpS_mono (wpS_forRange (I := fun x c st' => Like st st' ∧ ∃ o i j g, c = (none, o, i, j, g) ∧ MI a.toList b.toList o.toList i j ∧ i + 1 < a.size ∧ j < b.size ∧ x ≤ i + j)
    (Q := fun c st' => Like st st' ∧ ∃ R, c.1 = some R ∧ Res a.toList b.toList R.toList) ?step ?fin ⟨Like.refl _, _, 0, 1, _, rfl, m0, by omega, by omega, by omega⟩) ?post)
  case post =>
    rintro c st' ⟨l, R, e, r⟩
    rw [e]
    exact wpS_pure (h R st' l r)
  case fin =>
    rintro c st' ⟨l, o, i, j, g, rfl, m, h1, h2, h3⟩
    omega
  case step =>
    rintro x c st' _ hx ⟨l, o, i, j, g, rfl, m, h1, h2, h3⟩
    exact wpS_loT hk T l m h1 h2 (fun c st2 l2 r2 => ⟨l2, r2⟩) fun o' i' j' g' st2 l2 m2 k1 k2 k3 => ⟨l2, o', i', j', g', rfl, m2, k1, k2, by omega⟩
end
end Srt
end
section
set_option maxRecDepth 100000
set_option Elab.async false
set_option linter.all false
set_option maxHeartbeats 4000000
namespace Srt
open PySem PyProof.Rows
structure MH (A B O : List Keyed) (i j : Nat) : Prop where
  perm : O.Perm (A.drop i ++ B.drop j)
  up : Up O
  hiA : ∀ x ∈ A.take i, ∀ y ∈ O, kn x ≤ kn y
  hiB : ∀ x ∈ B.take j, ∀ y ∈ O, kn x ≤ kn y
theorem MH.swap {A B O : List Keyed} {i j : Nat} (m : MH A B O i j) : MH B A O j i := ⟨m.perm.trans List.perm_append_comm, m.up, m.hiB, m.hiA⟩
theorem drop_mid {l : List Keyed} {r i : Nat} (h : r ≤ i) (hi : i ≤ l.length) : l.drop r = (l.take i).drop r ++ l.drop i := by
  have e : (l.take i ++ l.drop i).drop r = (l.take i).drop r ++ l.drop i := List.drop_append_of_le_length (by rw [List.length_take]; omega)
  rw [List.take_append_drop] at e
  exact e
theorem take_mid {l : List Keyed} {r i : Nat} (h : r ≤ i) : l.take r = (l.take i).take r := by rw [List.take_take, Nat.min_eq_left h]
theorem MH.chunk {A B O : List Keyed} {i j : Nat} (m : MH A B O i j) (hA : Up A) (r : Nat) (hr : r ≤ i) (hi : i ≤ A.length) (c : ∀ x ∈ B.take j, ∀ y ∈ (A.take i).drop r, kn x ≤ kn y) : MH A B ((A.take i).drop r ++ O) r j where
  perm := by
    rw [drop_mid hr hi, List.append_assoc]
    exact List.Perm.append_left _ m.perm
  up := ((hA.take i).drop r).app m.up fun x hx y hy => m.hiA x (List.mem_of_mem_drop hx) y hy
  hiA := fun x hx y hy => by
    rw [take_mid hr] at hx
    rcases List.mem_append.mp hy with h | h
    · exact (hA.take i).parts r x hx y h
    · exact m.hiA x (List.mem_of_mem_take hx) y h
  hiB := fun x hx y hy => by
    rcases List.mem_append.mp hy with h | h
    · exact c x hx y h
    · exact m.hiB x hx y h
theorem MH.chunkB {A B O : List Keyed} {i j : Nat} (m : MH A B O i j) (hB : Up B) (r : Nat) (hr : r ≤ j) (hj : j ≤ B.length) (c : ∀ x ∈ A.take i, ∀ y ∈ (B.take j).drop r, kn x ≤ kn y) : MH A B ((B.take j).drop r ++ O) i r :=
  (m.swap.chunk hB r hr hj c).swap
theorem last1 {l : List Keyed} {i : Nat} {p : Keyed} (h : l[i]? = some p) : (l.take (i + 1)).drop i = [p] := by
  have hi : i < l.length := (List.getElem?_eq_some_iff.mp h).1
  have e := (List.getElem?_eq_some_iff.mp h).2
  rw [List.take_succ_eq_append_getElem hi, List.drop_append_of_le_length (by rw [List.length_take]; omega), e, List.drop_eq_nil_of_le (by rw [List.length_take]; omega)]
  rfl
/-- what is at a place stands behind all ahead -/
theorem Up.foot {l : List Keyed} (h : Up l) {i : Nat} {p : Keyed} (e : l[i]? = some p) : ∀ y ∈ l.take (i + 1), kn y ≤ kn p := by
  have hi : i < l.length := (List.getElem?_eq_some_iff.mp e).1
  have e2 := (List.getElem?_eq_some_iff.mp e).2
  have h' := h.take (i + 1)
  rw [List.take_succ_eq_append_getElem hi, e2] at h'
  intro y hy
  rw [List.take_succ_eq_append_getElem hi, e2] at hy
  rcases List.mem_append.mp hy with hy | hy
  · exact (List.pairwise_append.mp h').2.2 y hy p (by simp)
  · rw [List.mem_singleton.mp hy]; exact Int.le_refl _
theorem MH.one {A B O : List Keyed} {i j : Nat} {p : Keyed} (m : MH A B O (i + 1) j) (hA : Up A) (h : A[i]? = some p) (c : ∀ y ∈ B.take j, kn y ≤ kn p) : MH A B (p :: O) i j := by
  have hi : i < A.length := (List.getElem?_eq_some_iff.mp h).1
  have z := m.chunk hA i (Nat.le_succ i) hi (by rw [last1 h]; intro x hx y hy; rw [List.mem_singleton.mp hy]; exact c x hx)
  rw [last1 h] at z
  exact z
theorem MH.oneB {A B O : List Keyed} {i j : Nat} {p : Keyed} (m : MH A B O i (j + 1)) (hB : Up B) (h : B[j]? = some p) (c : ∀ y ∈ A.take i, kn y ≤ kn p) : MH A B (p :: O) i j := (m.swap.one hB h c).swap
theorem MH.all {A B O : List Keyed} {i j : Nat} (m : MH A B O i j) : (A.take i ++ B.take j ++ O).Perm (A ++ B) := by
  refine (List.Perm.append_left _ m.perm).trans ?_
  have e : A ++ B = (A.take i ++ A.drop i) ++ (B.take j ++ B.drop j) := by rw [List.take_append_drop, List.take_append_drop]
  rw [e, List.append_assoc, List.append_assoc]
  refine List.Perm.append_left _ ?_
  rw [← List.append_assoc, ← List.append_assoc]
  exact List.Perm.append_right _ List.perm_append_comm
theorem MH.fin {A B O : List Keyed} {i j : Nat} (m : MH A B O i j) (hA : Up A) (hB : Up B) (h : i = 0 ∨ j = 0) : Res A B (A.take i ++ B.take j ++ O) := by
  refine ⟨m.all, ?_⟩
  refine ((hA.take i).app (hB.take j) fun x hx y hy => ?_).app m.up fun x hx y hy => ?_
  · rcases h with h | h
    · subst h; simp at hx
    · subst h; simp at hy
  · rcases List.mem_append.mp hx with h | h
    · exact m.hiA x h y hy
    · exact m.hiB x h y hy
theorem MH.fir {A B O : List Keyed} {i j : Nat} (m : MH A B O i j) (hA : Up A) (hB : Up B) (c : ∀ x ∈ B.take j, ∀ y ∈ A, kn x ≤ kn y) : Res A B (B.take j ++ A.take i ++ O) := by
  refine ⟨(List.Perm.append_right _ List.perm_append_comm).trans m.all, ?_⟩
  refine ((hB.take j).app (hA.take i) fun x hx y hy => c x hx y (List.mem_of_mem_take hy)).app m.up fun x hx y hy => ?_
  rcases List.mem_append.mp hx with h | h
  · exact m.hiB x h y hy
  · exact m.hiA x h y hy
abbrev HiSt := Option (Array Keyed) × Nat × Nat × Array Keyed × Nat × Nat × Nat
def fiH (a b o : Array Keyed) (x y : Nat) : Array Keyed := a.extract 0 x ++ b.extract 0 y ++ o.reverse
def frH (a b o : Array Keyed) (x y : Nat) : Array Keyed := b.extract 0 y ++ a.extract 0 x ++ o.reverse
/-- one by one -/
def hi0 (a b : Array Keyed) (g : Nat) (c : Option (Array Keyed) × Nat × Nat × Array Keyed × Nat × Nat) : StateT SortSt Sem (ForInStep (Option (Array Keyed) × Nat × Nat × Array Keyed × Nat × Nat)) := do
  let q ← elem' b (c.2.2.1 - 1)
  let p ← elem' a (c.2.1 - 1)
  let some t ← lt' q p | pure (.done (some (fiH a b c.2.2.2.1 c.2.1 c.2.2.1), c.2.1, c.2.2.1, c.2.2.2.1, c.2.2.2.2.1, c.2.2.2.2.2))
  if t then
    let p ← elem' a (c.2.1 - 1)
    if c.2.1 - 1 == 0 then pure (.done (some (fiH a b (c.2.2.2.1.push p) (c.2.1 - 1) c.2.2.1), c.2.1 - 1, c.2.2.1, c.2.2.2.1.push p, c.2.2.2.2.1 + 1, 0))
    else if c.2.2.2.2.1 + 1 ≥ g then pure (.done (none, c.2.1 - 1, c.2.2.1, c.2.2.2.1.push p, c.2.2.2.2.1 + 1, 0))
    else pure (.yield (none, c.2.1 - 1, c.2.2.1, c.2.2.2.1.push p, c.2.2.2.2.1 + 1, 0))
  else
    let q ← elem' b (c.2.2.1 - 1)
    if c.2.2.1 - 1 == 1 then pure (.done (some (frH a b (c.2.2.2.1.push q) c.2.1 (c.2.2.1 - 1)), c.2.1, c.2.2.1 - 1, c.2.2.2.1.push q, 0, c.2.2.2.2.2 + 1))
    else if c.2.2.2.2.2 + 1 ≥ g then pure (.done (none, c.2.1, c.2.2.1 - 1, c.2.2.2.1.push q, 0, c.2.2.2.2.2 + 1))
    else pure (.yield (none, c.2.1, c.2.2.1 - 1, c.2.2.2.1.push q, 0, c.2.2.2.2.2 + 1))
def hi4 (a b : Array Keyed) (i j : Nat) (o : Array Keyed) (g m n : Nat) : StateT SortSt Sem (ForInStep HiSt) := do
  let p ← elem' a (i - 1)
  if i - 1 == 0 then pure (.done (some (fiH a b (o.push p) (i - 1) j), i - 1, j, o.push p, g, m, n))
  else if (m < 7 && n < 7) = true then pure (.done (none, i - 1, j, o.push p, g, m, n))
  else pure (.yield (none, i - 1, j, o.push p, g, m, n))
def hi3 (a b : Array Keyed) (i j : Nat) (o : Array Keyed) (g m n : Nat) : StateT SortSt Sem (ForInStep HiSt) := do
  let p ← elem' a (i - 1)
  let some r ← gallop' true p b 0 j (j - 1) | pure (.done (some (fiH a b o i j), i, j, o, g, m, n))
  if j - r > 0 then
    if r == 1 then pure (.done (some (frH a b (o ++ (b.extract r j).reverse) i r), i, r, o ++ (b.extract r j).reverse, g, m, j - r))
    else if r == 0 then pure (.done (some (fiH a b (o ++ (b.extract r j).reverse) i r), i, r, o ++ (b.extract r j).reverse, g, m, j - r))
    else hi4 a b i r (o ++ (b.extract r j).reverse) g m (j - r)
  else hi4 a b i j o g m (j - r)
def hi2 (a b : Array Keyed) (i j : Nat) (o : Array Keyed) (g m n : Nat) : StateT SortSt Sem (ForInStep HiSt) := do
  let q ← elem' b (j - 1)
  if j - 1 == 1 then pure (.done (some (frH a b (o.push q) i (j - 1)), i, j - 1, o.push q, g, m, n))
  else hi3 a b i (j - 1) (o.push q) g m n
def hi1 (a b : Array Keyed) (i j : Nat) (o : Array Keyed) (g m n : Nat) : StateT SortSt Sem (ForInStep HiSt) := do
  setMin' g
  let q ← elem' b (j - 1)
  let some r ← gallop' false q a 0 i (i - 1) | pure (.done (some (fiH a b o i j), i, j, o, g, m, n))
  if i - r > 0 then
    if r == 0 then pure (.done (some (fiH a b (o ++ (a.extract r i).reverse) r j), r, j, o ++ (a.extract r i).reverse, g, i - r, n))
    else hi2 a b r j (o ++ (a.extract r i).reverse) g (i - r) n
  else hi2 a b i j o g (i - r) n
def hiG (a b : Array Keyed) (c : HiSt) : StateT SortSt Sem (ForInStep HiSt) :=
  if c.2.2.2.2.1 > 1 then hi1 a b c.2.1 c.2.2.1 c.2.2.2.1 (c.2.2.2.2.1 - 1) c.2.2.2.2.2.1 c.2.2.2.2.2.2
  else hi1 a b c.2.1 c.2.2.1 c.2.2.2.1 c.2.2.2.2.1 c.2.2.2.2.2.1 c.2.2.2.2.2.2
def hiT (a b : Array Keyed) (c : Option (Array Keyed) × Nat × Nat × Array Keyed × Nat) : StateT SortSt Sem (ForInStep (Option (Array Keyed) × Nat × Nat × Array Keyed × Nat)) := do
  let r ← forIn [0:a.size + b.size] ((none, c.2.1, c.2.2.1, c.2.2.2.1, 0, 0) : Option (Array Keyed) × Nat × Nat × Array Keyed × Nat × Nat) fun _ z => hi0 a b c.2.2.2.2 z
  match r.1 with
  | some R => pure (.done (some R, r.2.1, r.2.2.1, r.2.2.2.1, c.2.2.2.2))
  | none => do
    rule "list.sort.gallop"
    let r ← forIn [0:a.size + b.size] ((none, r.2.1, r.2.2.1, r.2.2.2.1, c.2.2.2.2 + 1, r.2.2.2.2.1, r.2.2.2.2.2) : HiSt) fun _ z => hiG a b z
    match r.1 with
    | some R => pure (.done (some R, r.2.1, r.2.2.1, r.2.2.2.1, r.2.2.2.2.1))
    | none => do
      setMin' (r.2.2.2.2.1 + 1)
      pure (.yield (none, r.2.1, r.2.2.1, r.2.2.2.1, r.2.2.2.2.1 + 1))
def mHi (a b : Array Keyed) : StateT SortSt Sem (Array Keyed) := do
  rule "list.sort.merge-hi"
  let q ← elem' a (a.size - 1)
  if a.size - 1 == 0 then return fiH a b #[q] (a.size - 1) b.size
  if b.size == 1 then return frH a b #[q] (a.size - 1) b.size
  let g := gallopOf (← get)
  let r ← forIn [0:a.size + b.size] ((none, a.size - 1, b.size, #[q], g) : Option (Array Keyed) × Nat × Nat × Array Keyed × Nat) fun _ z => hiT a b z
  match r.1 with
  | some R => pure R
  | none => unsupported "internal:list.sort.merge-bound"
def mHiD (a b : Array Keyed) : StateT SortSt Sem (Array Keyed) := do
  rule "list.sort.merge-hi"
  let tot := a.size + b.size
  let fin (o : Array Keyed) (x y : Nat) := a.extract 0 x ++ b.extract 0 y ++ o.reverse
  let fir (o : Array Keyed) (x y : Nat) := b.extract 0 y ++ a.extract 0 x ++ o.reverse
  let mut i := a.size - 1
  let mut j := b.size
  let mut o : Array Keyed := #[← elem' a i]
  if i == 0 then return fin o i j
  if j == 1 then return fir o i j
  let mut g := gallopOf (← get)
  for _ in [0:tot] do
    let mut m := 0
    let mut n := 0
    for _ in [0:tot] do
      let some t ← lt' (← elem' b (j - 1)) (← elem' a (i - 1)) | return fin o i j
      if t then
        i := i - 1; o := o.push (← elem' a i); m := m + 1; n := 0
        if i == 0 then return fin o i j
        if m ≥ g then break
      else
        j := j - 1; o := o.push (← elem' b j); n := n + 1; m := 0
        if j == 1 then return fir o i j
        if n ≥ g then break
    rule "list.sort.gallop"
    g := g + 1
    for _ in [0:tot] do
      if g > 1 then g := g - 1
      setMin' g
      let some r ← gallop' false (← elem' b (j - 1)) a 0 i (i - 1) | return fin o i j
      let k := i - r
      m := k
      if k > 0 then
        o := o ++ (a.extract r i).reverse; i := r
        if i == 0 then return fin o i j
      j := j - 1; o := o.push (← elem' b j)
      if j == 1 then return fir o i j
      let some r ← gallop' true (← elem' a (i - 1)) b 0 j (j - 1) | return fin o i j
      let k := j - r
      n := k
      if k > 0 then
        o := o ++ (b.extract r j).reverse; j := r
        if j == 1 then return fir o i j
        if j == 0 then return fin o i j
      i := i - 1; o := o.push (← elem' a i)
      if i == 0 then return fin o i j
      if m < 7 && n < 7 then break
    g := g + 1
    setMin' g
  unsupported "internal:list.sort.merge-bound"
def mergeHi' : Array Keyed → Array Keyed → StateT SortSt Sem (Array Keyed) := sortPriv% PySem.Builtin.mergeHi
theorem mergeHi'_eqD (a b : Array Keyed) : mergeHi' a b = mHiD a b := rfl
theorem mHiD_eq (a b : Array Keyed) : mHiD a b = mHi a b := by
  unfold mHiD mHi
  refine congrArg _ (funext fun _ => ?_)
  refine congrArg (fun k => elem' a (a.size - 1) >>= k) (funext fun q => ?_)
  show (if (a.size - 1 == 0) = true then _ else if (b.size == 1) = true then _ else (get >>= _)) = _
  refine congrArg (fun k => if (a.size - 1 == 0) = true then pure (fiH a b #[q] (a.size - 1) b.size) else k) ?_
  refine congrArg (fun k => if (b.size == 1) = true then pure (frH a b #[q] (a.size - 1) b.size) else k) ?_
  refine congrArg (fun k => get >>= k) (funext fun st => ?_)
  show ((forIn _ _ _) >>= _) = _
  refine congr (congrArg _ ?_) ?_
  · refine congrArg _ (funext fun _ => funext fun c => ?_)
    unfold hiT
    show ((forIn _ _ _) >>= _) = _
    refine congr (congrArg _ ?_) ?_
    · rfl
    · refine funext fun r => ?_
      obtain ⟨r1, r2⟩ := r
      cases r1
      · show (liftM _ >>= fun _ => ((forIn _ _ _) >>= _)) = _
        refine congrArg _ (funext fun _ => ?_)
        refine congr (congrArg _ ?_) ?_
        · refine congrArg _ (funext fun _ => funext fun c => ?_)
          unfold hiG hi1
          rfl
        · refine funext fun r => ?_
          obtain ⟨r1, _⟩ := r
          cases r1 <;> rfl
      · rfl
  · refine funext fun r => ?_
    obtain ⟨r1, _⟩ := r
    cases r1 <;> rfl
end Srt
end
section
set_option maxRecDepth 100000
set_option Elab.async false
set_option linter.all false
set_option maxHeartbeats 4000000
namespace Srt
open PySem PyProof.Rows
section
variable {prog : Program} {w : World} {A : Around} {E : Value → Shared → Prop} {s : Shared}
theorem ext0 (a : Array Keyed) (i : Nat) : (a.extract 0 i).toList = a.toList.take i := by
  rw [Array.toList_extract, List.extract_eq_take_drop]
  simp
theorem extm (a : Array Keyed) (r i : Nat) : (a.extract r i).toList = (a.toList.take i).drop r := by
  rw [Array.toList_extract, List.extract_eq_take_drop, List.drop_take]
theorem rpush (o : Array Keyed) (x : Keyed) : (o.push x).reverse.toList = x :: o.reverse.toList := by simp
theorem rapp (o c : Array Keyed) : (o ++ c.reverse).reverse.toList = c.toList ++ o.reverse.toList := by simp
theorem mem_take_K {a : Array Keyed} {i : Nat} {x : Keyed} (h : x ∈ a.toList.take i) : ∃ m, m < i ∧ m < a.size ∧ K a m = kn x := by
  have h' : x ∈ (a.toList.drop 0).take i := by simpa using h
  obtain ⟨m, h1, h2, h3⟩ := mem_chunk h'
  rw [Nat.zero_add] at h2 h3
  exact ⟨m, h1, h2, h3⟩
theorem mem_mid_K {a : Array Keyed} {r i : Nat} {x : Keyed} (h : x ∈ (a.toList.take i).drop r) : ∃ m, r ≤ m ∧ m < i ∧ m < a.size ∧ K a m = kn x := by
  rw [List.drop_take] at h
  obtain ⟨m, h1, h2, h3⟩ := mem_chunk h
  exact ⟨r + m, by omega, by omega, h2, h3⟩
abbrev MHa (a b o : Array Keyed) (i j : Nat) : Prop := MH a.toList b.toList o.reverse.toList i j
theorem Two.fiH {a b : Array Keyed} (T : Two a b) {o : Array Keyed} {i j : Nat} (m : MHa a b o i j) (hj : i = 0 ∨ j = 0) : Res a.toList b.toList (fiH a b o i j).toList := by
  unfold Srt.fiH
  rw [Array.toList_append, Array.toList_append, ext0, ext0]
  exact m.fin T.uA T.uB hj
theorem Two.frH {a b : Array Keyed} (T : Two a b) {o : Array Keyed} {i j : Nat} (m : MHa a b o i j) (hj : j = 1) : Res a.toList b.toList (frH a b o i j).toList := by
  unfold Srt.frH
  rw [Array.toList_append, Array.toList_append, ext0, ext0]
  refine m.fir T.uA T.uB fun x hx y hy => ?_
  subst hj
  obtain ⟨q, e, e', _⟩ := at_of T.ib T.hb
  have : b.toList.take 1 = [q] := by simpa using take1 e'
  rw [this] at hx
  rw [List.mem_singleton.mp hx]
  exact T.first q e' y hy
theorem Two.hpushA {a b : Array Keyed} (T : Two a b) {o : Array Keyed} {i j : Nat} {q : Keyed} (m : MHa a b o i j) (h1 : 1 ≤ i) (e : a.toList[i - 1]? = some q) (c : ∀ y ∈ b.toList.take j, kn y ≤ kn q) : MHa a b (o.push q) (i - 1) j := by
  obtain ⟨x, rfl⟩ : ∃ x, i = x + 1 := ⟨i - 1, by omega⟩
  unfold MHa
  rw [rpush]; exact MH.one m T.uA e c
theorem Two.hpushB {a b : Array Keyed} (T : Two a b) {o : Array Keyed} {i j : Nat} {q : Keyed} (m : MHa a b o i j) (h1 : 1 ≤ j) (e : b.toList[j - 1]? = some q) (c : ∀ y ∈ a.toList.take i, kn y ≤ kn q) : MHa a b (o.push q) i (j - 1) := by
  obtain ⟨x, rfl⟩ : ∃ x, j = x + 1 := ⟨j - 1, by omega⟩
  unfold MHa
  rw [rpush]; exact MH.oneB m T.uB e c
theorem Two.hmanyA {a b : Array Keyed} (T : Two a b) {o : Array Keyed} {i j r : Nat} (m : MHa a b o i j) (hr : r ≤ i) (hi : i ≤ a.size) (c : ∀ x ∈ b.toList.take j, ∀ y ∈ (a.toList.take i).drop r, kn x ≤ kn y) : MHa a b (o ++ (a.extract r i).reverse) r j := by
  unfold MHa
  rw [rapp, extm]; exact m.chunk T.uA r hr (by simpa using hi) c
theorem Two.hmanyB {a b : Array Keyed} (T : Two a b) {o : Array Keyed} {i j r : Nat} (m : MHa a b o i j) (hr : r ≤ j) (hj : j ≤ b.size) (c : ∀ x ∈ a.toList.take i, ∀ y ∈ (b.toList.take j).drop r, kn x ≤ kn y) : MHa a b (o ++ (b.extract r j).reverse) i r := by
  unfold MHa
  rw [rapp, extm]; exact m.chunkB T.uB r hr (by simpa using hj) c
theorem foot1 {a : Array Keyed} (u : Up a.toList) {i : Nat} {p : Keyed} (h : 1 ≤ i) (e : a.toList[i - 1]? = some p) : ∀ y ∈ a.toList.take i, kn y ≤ kn p := by
  have := u.foot e
  rw [show i - 1 + 1 = i by omega] at this
  exact this
def AftH0 (a b : Array Keyed) (N : Nat) (c : Option (Array Keyed) × Nat × Nat × Array Keyed × Nat × Nat) : Prop :=
  (∃ R, c.1 = some R ∧ Res a.toList b.toList R.toList) ∨ (∃ i j o m n, c = (none, i, j, o, m, n) ∧ MHa a b o i j ∧ 1 ≤ i ∧ i ≤ a.size ∧ 1 < j ∧ j ≤ b.size ∧ i + j ≤ N)
theorem wpS_hi0 {a b o : Array Keyed} {i j g m n : Nat} {st st' : SortSt} (hk : kindOf st = oneType') (T : Two a b) (l : Like st st') (I : MHa a b o i j) (h1 : 1 ≤ i) (h1' : i ≤ a.size) (h2 : 1 < j) (h2' : j ≤ b.size)
    {Q : ForInStep (Option (Array Keyed) × Nat × Nat × Array Keyed × Nat × Nat) → SortSt → Prop}
    (hd : ∀ c, AftH0 a b (i + j - 1) c → Q (.done c) st') (hy : ∀ i' j' o' m' n', MHa a b o' i' j' → 1 ≤ i' → i' ≤ a.size → 1 < j' → j' ≤ b.size → i' + j' ≤ i + j - 1 → Q (.yield (none, i', j', o', m', n')) st') :
    wpS (model prog w) A E s (hi0 a b g (none, i, j, o, m, n)) Q st' := by
  obtain ⟨q, e1, e1', k1⟩ := at_of T.ib (show j - 1 < b.size by omega)
  obtain ⟨p, e2, e2', k2⟩ := at_of T.ia (show i - 1 < a.size by omega)
  unfold hi0
  dsimp only
  refine wpS_bind (wpS_elem e1 (wpS_bind (wpS_elem e2 (wpS_bind (wpS_lt (l.1.trans hk) k1 k2 ?_)))))
  dsimp only
  by_cases c : kn q < kn p
  · rw [if_pos (by simpa using c)]
    refine wpS_bind (wpS_elem e2 ?_)
    have I' : MHa a b (o.push p) (i - 1) j := T.hpushA I h1 e2' fun y hy => Int.le_trans (foot1 T.uB (by omega) e1' y hy) (Int.le_of_lt c)
    by_cases hb : i - 1 = 0
    · rw [if_pos (by simpa using hb)]
      exact wpS_pure (hd _ (.inl ⟨_, rfl, T.fiH I' (.inl hb)⟩))
    · rw [if_neg (by simpa using hb)]
      by_cases hg : m + 1 ≥ g
      · rw [if_pos hg]
        exact wpS_pure (hd _ (.inr ⟨_, _, _, _, _, rfl, I', by omega, by omega, by omega, by omega, by omega⟩))
      · rw [if_neg hg]
        exact wpS_pure (hy _ _ _ _ _ I' (by omega) (by omega) (by omega) (by omega) (by omega))
  · rw [if_neg (by simpa using c)]
    refine wpS_bind (wpS_elem e1 ?_)
    have I' : MHa a b (o.push q) i (j - 1) := T.hpushB I (by omega) e1' fun y hy => Int.le_trans (foot1 T.uA h1 e2' y hy) (Int.not_lt.mp c)
    by_cases hb : j - 1 = 1
    · rw [if_pos (by simpa using hb)]
      exact wpS_pure (hd _ (.inl ⟨_, rfl, T.frH I' hb⟩))
    · rw [if_neg (by simpa using hb)]
      by_cases hg : n + 1 ≥ g
      · rw [if_pos hg]
        exact wpS_pure (hd _ (.inr ⟨_, _, _, _, _, rfl, I', by omega, by omega, by omega, by omega, by omega⟩))
      · rw [if_neg hg]
        exact wpS_pure (hy _ _ _ _ _ I' (by omega) (by omega) (by omega) (by omega) (by omega))
def AftH1 (a b : Array Keyed) (N : Nat) (c : HiSt) : Prop :=
  (∃ R, c.1 = some R ∧ Res a.toList b.toList R.toList) ∨ (∃ i j o g m n, c = (none, i, j, o, g, m, n) ∧ MHa a b o i j ∧ 1 ≤ i ∧ i ≤ a.size ∧ 1 < j ∧ j ≤ b.size ∧ i + j ≤ N)
def WH1 (a b : Array Keyed) (st : SortSt) (N : Nat) (r : ForInStep HiSt) (st' : SortSt) : Prop :=
  Like st st' ∧ match r with
    | .done c => AftH1 a b N c
    | .yield c => c.1 = none ∧ AftH1 a b N c
theorem wpS_hi4 {a b o : Array Keyed} {i j g m n N : Nat} {st st' : SortSt} (T : Two a b) (l : Like st st') (I : MHa a b o i j) (h1 : 1 ≤ i) (h1' : i ≤ a.size) (h2 : 1 < j) (h2' : j ≤ b.size) (hN : i + j ≤ N) (hi : ∀ p, a.toList[i - 1]? = some p → ∀ y ∈ b.toList.take j, kn y ≤ kn p) :
    wpS (model prog w) A E s (hi4 a b i j o g m n) (WH1 a b st N) st' := by
  obtain ⟨p, e2, e2', k2⟩ := at_of T.ia (show i - 1 < a.size by omega)
  unfold hi4
  refine wpS_bind (wpS_elem e2 ?_)
  have I' : MHa a b (o.push p) (i - 1) j := T.hpushA I h1 e2' (hi p e2')
  by_cases hb : i - 1 = 0
  · rw [if_pos (by simpa using hb)]
    exact wpS_pure ⟨l, .inl ⟨_, rfl, T.fiH I' (.inl hb)⟩⟩
  · rw [if_neg (by simpa using hb)]
    split
    · exact wpS_pure ⟨l, .inr ⟨_, _, _, _, _, _, rfl, I', by omega, by omega, by omega, by omega, by omega⟩⟩
    · exact wpS_pure ⟨l, rfl, .inr ⟨_, _, _, _, _, _, rfl, I', by omega, by omega, by omega, by omega, by omega⟩⟩
theorem wpS_hi3 {a b o : Array Keyed} {i j g m n N : Nat} {st st' : SortSt} (hk : kindOf st = oneType') (T : Two a b) (l : Like st st') (I : MHa a b o i j) (h1 : 1 ≤ i) (h1' : i ≤ a.size) (h2 : 1 < j) (h2' : j ≤ b.size) (hN : i + j ≤ N) :
    wpS (model prog w) A E s (hi3 a b i j o g m n) (WH1 a b st N) st' := by
  obtain ⟨p, e2, e2', k2⟩ := at_of T.ia (show i - 1 < a.size by omega)
  unfold hi3
  refine wpS_bind (wpS_elem e2 (wpS_bind ?_))
  refine wpS_gallop (l.1.trans hk) k2 (fun x hx => ?_) (fun x y hxy hy => T.uB.K_le (by omega) (by omega)) (by omega) fun r hr0 ht hf => ?_
  · obtain ⟨q, z1, _, z2⟩ := at_of T.ib (show 0 + x < b.size by omega)
    exact ⟨q, z1, z2⟩
  dsimp only
  have lo : ∀ p', a.toList[i - 1]? = some p' → ∀ y ∈ b.toList.take r, kn y ≤ kn p' := fun p' e y hy => by
    rw [e2'] at e; cases e
    obtain ⟨x, hx, _, e3⟩ := mem_take_K hy
    have := ht x hx
    unfold fq at this
    simp at this
    rw [e3] at this
    exact Int.le_of_lt this
  by_cases h0 : j - r > 0
  · rw [if_pos h0]
    have I' : MHa a b (o ++ (b.extract r j).reverse) i r := T.hmanyB I hr0 h2' fun x hx y hy => by
      obtain ⟨z, hz, hz2, _, e3⟩ := mem_mid_K hy
      have := hf z hz hz2
      unfold fq at this
      simp at this
      rw [e3] at this
      exact Int.le_trans (foot1 T.uA h1 e2' x hx) this
    by_cases hb : r = 1
    · rw [if_pos (by simpa using hb)]
      exact wpS_pure ⟨l, .inl ⟨_, rfl, T.frH I' hb⟩⟩
    · rw [if_neg (by simpa using hb)]
      by_cases hb2 : r = 0
      · rw [if_pos (by simpa using hb2)]
        exact wpS_pure ⟨l, .inl ⟨_, rfl, T.fiH I' (.inr hb2)⟩⟩
      · rw [if_neg (by simpa using hb2)]
        exact wpS_hi4 T l I' h1 h1' (by omega) (by omega) (by omega) lo
  · rw [if_neg h0]
    have : r = j := by omega
    subst this
    exact wpS_hi4 T l I h1 h1' h2 h2' hN lo
theorem wpS_hi2 {a b o : Array Keyed} {i j g m n N : Nat} {st st' : SortSt} (hk : kindOf st = oneType') (T : Two a b) (l : Like st st') (I : MHa a b o i j) (h1 : 1 ≤ i) (h1' : i ≤ a.size) (h2 : 1 < j) (h2' : j ≤ b.size) (hN : i + j ≤ N) (hi : ∀ p, b.toList[j - 1]? = some p → ∀ y ∈ a.toList.take i, kn y ≤ kn p) :
    wpS (model prog w) A E s (hi2 a b i j o g m n) (WH1 a b st N) st' := by
  obtain ⟨q, e1, e1', k1⟩ := at_of T.ib (show j - 1 < b.size by omega)
  unfold hi2
  refine wpS_bind (wpS_elem e1 ?_)
  have I' : MHa a b (o.push q) i (j - 1) := T.hpushB I (by omega) e1' (hi q e1')
  by_cases hb : j - 1 = 1
  · rw [if_pos (by simpa using hb)]
    exact wpS_pure ⟨l, .inl ⟨_, rfl, T.frH I' hb⟩⟩
  · rw [if_neg (by simpa using hb)]
    exact wpS_hi3 hk T l I' h1 h1' (by omega) (by omega) (by omega)
theorem wpS_hi1 {a b o : Array Keyed} {i j g m n N : Nat} {st st' : SortSt} (hk : kindOf st = oneType') (T : Two a b) (l : Like st st') (I : MHa a b o i j) (h1 : 1 ≤ i) (h1' : i ≤ a.size) (h2 : 1 < j) (h2' : j ≤ b.size) (hN : i + j ≤ N) :
    wpS (model prog w) A E s (hi1 a b i j o g m n) (WH1 a b st N) st' := by
  obtain ⟨q, e1, e1', k1⟩ := at_of T.ib (show j - 1 < b.size by omega)
  unfold hi1
  rw [setMin'_eq]
  refine wpS_bind (wpS_modify ?_)
  have l' := l.step g
  refine wpS_bind (wpS_elem e1 (wpS_bind ?_))
  refine wpS_gallop (l'.1.trans hk) k1 (fun x hx => ?_) (fun x y hxy hy => T.uA.K_le (by omega) (by omega)) (by omega) fun r hr0 ht hf => ?_
  · obtain ⟨q, z1, _, z2⟩ := at_of T.ia (show 0 + x < a.size by omega)
    exact ⟨q, z1, z2⟩
  dsimp only
  have lo : ∀ p', b.toList[j - 1]? = some p' → ∀ y ∈ a.toList.take r, kn y ≤ kn p' := fun p' e y hy => by
    rw [e1'] at e; cases e
    obtain ⟨x, hx, _, e3⟩ := mem_take_K hy
    have := ht x hx
    unfold fq at this
    simp at this
    rw [e3] at this
    exact this
  by_cases h0 : i - r > 0
  · rw [if_pos h0]
    have I' : MHa a b (o ++ (a.extract r i).reverse) r j := T.hmanyA I hr0 h1' fun x hx y hy => by
      obtain ⟨z, hz, hz2, _, e3⟩ := mem_mid_K hy
      have := hf z hz hz2
      unfold fq at this
      simp at this
      rw [e3] at this
      exact Int.le_trans (foot1 T.uB (by omega) e1' x hx) (Int.le_of_lt this)
    by_cases hb : r = 0
    · rw [if_pos (by simpa using hb)]
      exact wpS_pure ⟨l', .inl ⟨_, rfl, T.fiH I' (.inl hb)⟩⟩
    · rw [if_neg (by simpa using hb)]
      exact wpS_hi2 hk T l' I' (by omega) (by omega) h2 h2' (by omega) lo
  · rw [if_neg h0]
    have : r = i := by omega
    subst this
    exact wpS_hi2 hk T l' I h1 h1' h2 h2' hN lo
theorem wpS_hiG {a b o : Array Keyed} {i j g m n N : Nat} {st st' : SortSt} (hk : kindOf st = oneType') (T : Two a b) (l : Like st st') (I : MHa a b o i j) (h1 : 1 ≤ i) (h1' : i ≤ a.size) (h2 : 1 < j) (h2' : j ≤ b.size) (hN : i + j ≤ N) :
    wpS (model prog w) A E s (hiG a b (none, i, j, o, g, m, n)) (WH1 a b st N) st' := by
  unfold hiG
  dsimp only
  split
  · exact wpS_hi1 hk T l I h1 h1' h2 h2' hN
  · exact wpS_hi1 hk T l I h1 h1' h2 h2' hN
theorem wpS_hiT {a b o : Array Keyed} {i j g : Nat} {st st' : SortSt} (hk : kindOf st = oneType') (T : Two a b) (l : Like st st') (I : MHa a b o i j) (h1 : 1 ≤ i) (h1' : i ≤ a.size) (h2 : 1 < j) (h2' : j ≤ b.size)
    {Q : ForInStep (Option (Array Keyed) × Nat × Nat × Array Keyed × Nat) → SortSt → Prop}
    (hd : ∀ c st', Like st st' → (∃ R, c.1 = some R ∧ Res a.toList b.toList R.toList) → Q (.done c) st')
    (hy : ∀ i' j' o' g' st', Like st st' → MHa a b o' i' j' → 1 ≤ i' → i' ≤ a.size → 1 < j' → j' ≤ b.size → i' + j' ≤ i + j - 1 → Q (.yield (none, i', j', o', g')) st') :
    wpS (model prog w) A E s (hiT a b (none, i, j, o, g)) Q st' := by
  unfold hiT
  dsimp only
  refine wpS_bind (wpS_mono (wpS_forRange (I := fun x c st2 => st2 = st' ∧ ∃ i' j' o' m n, c = (none, i', j', o', m, n) ∧ MHa a b o' i' j' ∧ 1 ≤ i' ∧ i' ≤ a.size ∧ 1 < j' ∧ j' ≤ b.size ∧ i' + j' + x ≤ i + j)
    (Q := fun c st2 => st2 = st' ∧ AftH0 a b (i + j - 1) c) ?step ?fin ⟨rfl, i, j, o, 0, 0, rfl, I, h1, h1', h2, h2', by omega⟩) ?post)
  case fin =>
    rintro c st2 ⟨rfl, i', j', o', m, n, rfl, I', k1, k1', k2, k2', k3⟩
    exact ⟨rfl, .inr ⟨i', j', o', m, n, rfl, I', k1, k1', k2, k2', by omega⟩⟩
  case step =>
    rintro x c st2 _ hx ⟨rfl, i', j', o', m, n, rfl, I', k1, k1', k2, k2', k3⟩
    refine wpS_hi0 hk T l I' k1 k1' k2 k2' (fun c hc => ⟨rfl, ?_⟩) fun i2 j2 o2 m2 n2 I2 q1 q1' q2 q2' q3 => ⟨rfl, i2, j2, o2, m2, n2, rfl, I2, q1, q1', q2, q2', by omega⟩
    rcases hc with hc | ⟨i2, j2, o2, m2, n2, rfl, I2, q1, q1', q2, q2', q3⟩
    · exact .inl hc
    · exact .inr ⟨i2, j2, o2, m2, n2, rfl, I2, q1, q1', q2, q2', by omega⟩
  case post =>
    rintro c st2 ⟨rfl, hc⟩
    rcases hc with ⟨R, e, hR⟩ | ⟨i2, j2, o2, m2, n2, rfl, I2, q1, q1', q2, q2', q3⟩
    · rw [e]
      exact wpS_pure (hd _ _ l ⟨R, rfl, hR⟩)
    · dsimp only
      refine wpS_bind (wpS_lift (wpAny_rule ⟨rfl, ?_⟩))
      refine wpS_bind (wpS_mono (wpS_forRange (I := fun x c st3 => Like st st3 ∧ c.1 = none ∧ AftH1 a b (i + j - 1) c) (Q := fun c st3 => Like st st3 ∧ AftH1 a b (i + j - 1) c)
        ?step2 (fun c st3 ⟨z1, _, z2⟩ => ⟨z1, z2⟩) ⟨l, rfl, .inr ⟨_, _, _, _, _, _, rfl, I2, q1, q1', q2, q2', by omega⟩⟩) ?post2)
      case step2 =>
        rintro x c st3 _ hx ⟨l3, e3, z⟩
        rcases z with ⟨R, e, _⟩ | ⟨i3, j3, o3, g3, m3, n3, rfl, I3, r1, r1', r2, r2', r3⟩
        · rw [e3] at e; cases e
        · refine wpS_mono (wpS_hiG hk T l3 I3 r1 r1' r2 r2' r3) fun r st4 h4 => ?_
          cases r with
          | done c => exact h4
          | yield c => exact h4
      case post2 =>
        rintro c st3 ⟨l3, z⟩
        rcases z with ⟨R, e, hR⟩ | ⟨i3, j3, o3, g3, m3, n3, rfl, I3, r1, r1', r2, r2', r3⟩
        · rw [e]
          exact wpS_pure (hd _ _ l3 ⟨R, rfl, hR⟩)
        · dsimp only
          rw [setMin'_eq]
          refine wpS_bind (wpS_modify ?_)
          exact wpS_pure (hy _ _ _ _ _ (l3.step _) I3 r1 r1' r2 r2' r3)
theorem wpS_mergeHi {a b : Array Keyed} {st : SortSt} {Q : Array Keyed → SortSt → Prop} (hk : kindOf st = oneType') (T : Two a b) (h : ∀ R st', Like st st' → Res a.toList b.toList R.toList → Q R st') :
    wpS (model prog w) A E s (mergeHi' a b) Q st := by
  rw [mergeHi'_eqD, mHiD_eq]
  unfold mHi
  refine wpS_bind (wpS_lift (wpAny_rule ⟨rfl, ?_⟩))
  have ha := T.ha
  have hb := T.hb
  obtain ⟨q0, e0, e0', i0⟩ := at_of T.ia (show a.size - 1 < a.size by omega)
  refine wpS_bind (wpS_elem e0 ?_)
  have hd : a.toList.drop (a.size - 1) = [q0] := by
    have := take1 e0'
    rw [← this, List.take_of_length_le]
    simp
    omega
  have m0 : MHa a b #[q0] (a.size - 1) b.size := by
    refine ⟨?_, by simp [Up], ?_, ?_⟩
    · rw [hd, List.drop_eq_nil_of_le (by simp)]; simp
    · intro x hx y hy
      simp at hy; subst hy
      exact T.uA.foot e0' x (by
        rw [List.take_of_length_le (by simp; omega)]
        exact List.mem_of_mem_take hx)
    · intro x hx y hy
      simp at hy; subst hy
      exact T.last x (List.mem_of_mem_take hx) _ (by rw [hd]; simp)
  by_cases ha1 : a.size - 1 = 0
  · rw [if_pos (by simpa using ha1)]
    exact wpS_pure (h _ _ (Like.refl _) (T.fiH m0 (.inl ha1)))
  rw [if_neg (by simpa using ha1)]
  by_cases hb1 : b.size = 1
  · rw [if_pos (by simpa using hb1)]
    exact wpS_pure (h _ _ (Like.refl _) (T.frH m0 hb1))
  rw [if_neg (by simpa using hb1)]
  refine wpS_bind (wpS_get ?_)
  refine wpS_bind (wpS_mono (wpS_forRange (I := fun x c st' => Like st st' ∧ ∃ i j o g, c = (none, i, j, o, g) ∧ MHa a b o i j ∧ 1 ≤ i ∧ i ≤ a.size ∧ 1 < j ∧ j ≤ b.size ∧ i + j + x ≤ a.size + b.size)
    (Q := fun c st' => Like st st' ∧ ∃ R, c.1 = some R ∧ Res a.toList b.toList R.toList) ?step ?fin ⟨Like.refl _, _, _, _, _, rfl, m0, by omega, by omega, by omega, by omega, by omega⟩) ?post)
  case post =>
    rintro c st' ⟨l, R, e, r⟩
    rw [e]
    exact wpS_pure (h R st' l r)
  case fin =>
    rintro c st' ⟨l, i, j, o, g, rfl, m, h1, h1', h2, h2', h3⟩
    omega
  case step =>
    rintro x c st' _ hx ⟨l, i, j, o, g, rfl, m, h1, h1', h2, h2', h3⟩
    exact wpS_hiT hk T l m h1 h1' h2 h2' (fun c st2 l2 r2 => ⟨l2, r2⟩) fun i' j' o' g' st2 l2 m2 k1 k1' k2 k2' k3 => ⟨l2, i', j', o', g', rfl, m2, k1, k1', k2, k2', by omega⟩
end
end Srt
end
section
set_option maxRecDepth 100000
set_option Elab.async false
set_option linter.all false
set_option maxHeartbeats 4000000
namespace Srt
open PySem PyProof.Rows
def Seg (xs : Array Keyed) (lo hi : Nat) : Prop := ∀ i j, lo ≤ i → i ≤ j → j < hi → K xs i ≤ K xs j
def Geg (xs : Array Keyed) (lo hi : Nat) : Prop := ∀ i j, lo ≤ i → i ≤ j → j < hi → K xs j ≤ K xs i
def IK (xs : Array Keyed) : Prop := ∀ p ∈ xs.toList, IntKey p
/-- what a step at lo and behind it leaves -/
structure Mv (lo : Nat) (st st' : SortSt) : Prop where
  kind : kindOf st' = kindOf st
  failed : failedOf st' = failedOf st
  pend : pendingOf st' = pendingOf st
  perm : (arrOf st').Perm (arrOf st)
  low : ∀ k, k < lo → (arrOf st')[k]? = (arrOf st)[k]?
theorem Mv.refl (lo : Nat) (st : SortSt) : Mv lo st st := ⟨rfl, rfl, rfl, Array.Perm.refl _, fun _ _ => rfl⟩
theorem Mv.trans {lo : Nat} {st st1 st2 : SortSt} (a : Mv lo st st1) (b : Mv lo st1 st2) : Mv lo st st2 :=
  ⟨b.kind.trans a.kind, b.failed.trans a.failed, b.pend.trans a.pend, b.perm.trans a.perm, fun k h => (b.low k h).trans (a.low k h)⟩
theorem Mv.size {lo : Nat} {st st' : SortSt} (a : Mv lo st st') : (arrOf st').size = (arrOf st).size := a.perm.size_eq
theorem IK.perm {xs ys : Array Keyed} (h : IK xs) (p : ys.Perm xs) : IK ys := fun q hq => h q ((Array.perm_iff_toList_perm.mp p).mem_iff.mp hq)
theorem Mv.ik {lo : Nat} {st st' : SortSt} (a : Mv lo st st') (h : IK (arrOf st)) : IK (arrOf st') := h.perm a.perm
section
variable {prog : Program} {w : World} {A : Around} {E : Value → Shared → Prop} {s : Shared}
theorem wpS_ltI {st : SortSt} {i j : Nat} {Q : Option Bool → SortSt → Prop} (hk : kindOf st = oneType') (ik : IK (arrOf st)) (hi : i < (arrOf st).size) (hj : j < (arrOf st).size)
    (h : Q (some (decide (K (arrOf st) i < K (arrOf st) j))) st) : wpS (model prog w) A E s (ltAt' i j) Q st := by
  obtain ⟨p, e1, _, k1⟩ := at_of ik hi
  obtain ⟨q, e2, _, k2⟩ := at_of ik hj
  rw [ltAt'_eq]
  refine wpS_bind (wpS_get ?_)
  refine wpS_bind (wpS_elem e1 (wpS_bind (wpS_elem e2 (wpS_lt hk k1 k2 ?_))))
  rw [K_at e1, K_at e2] at h
  exact h
theorem Mv.rev {lo : Nat} {st : SortSt} {i j : Nat} (hi : lo ≤ i) (hj : j ≤ (arrOf st).size) : Mv lo st (setArr st (mirror (arrOf st) i j ((j - i) / 2))) :=
  ⟨rfl, rfl, rfl, mirror_perm _ _ _ _, fun k hk => by
    show (mirror (arrOf st) i j ((j - i) / 2))[k]? = _
    rw [getElem?_mirror_all hj, if_neg (by omega)]⟩
/-- as long as it rises -/
def ru3 (lo nrem n₀ : Nat) : StateT SortSt Sem (Option Nat) := do
  let mut n := n₀
  for _ in [n:nrem] do
    let some t ← ltAt' (lo + n) (lo + n - 1) | return none
    if t then break
    n := n + 1
  return some n
theorem wpS_ru3 {st st₀ : SortSt} {lo nrem n : Nat} {Q : Option Nat → SortSt → Prop} (hk : kindOf st = oneType') (ik : IK (arrOf st)) (hs : lo + nrem ≤ (arrOf st).size) (h1 : 1 ≤ n) (hn : n ≤ nrem) (hS : Seg (arrOf st) lo (lo + n))
    (h : ∀ m, n ≤ m → m ≤ nrem → Seg (arrOf st) lo (lo + m) → Q (some m) st) : wpS (model prog w) A E s (ru3 lo nrem n) Q st := by
  unfold ru3
  dsimp only
  refine wpS_bind (wpS_mono (wpS_forRange (I := fun x c st' => st' = st ∧ c = (none, x) ∧ n ≤ x ∧ x ≤ nrem ∧ Seg (arrOf st) lo (lo + x)) (Q := fun c st' => st' = st ∧ ∃ x, c = (none, x) ∧ n ≤ x ∧ x ≤ nrem ∧ Seg (arrOf st) lo (lo + x)) ?step ?fin ⟨rfl, rfl, Nat.le_refl _, hn, hS⟩) ?post)
  case post =>
    rintro c st' ⟨rfl, x, rfl, a1, a2, a3⟩
    exact wpS_pure (h x a1 a2 a3)
  case fin =>
    rintro c st' ⟨rfl, rfl, a1, a2, a3⟩
    exact ⟨rfl, _, rfl, a1, a2, a3⟩
  case step =>
    rintro x c st' b1 b2 ⟨rfl, rfl, a1, a2, a3⟩
    dsimp only
    refine wpS_bind (wpS_ltI hk ik (by omega) (by omega) ?_)
    dsimp only
    by_cases hlt : K (arrOf st') (lo + x) < K (arrOf st') (lo + x - 1)
    · rw [if_pos (by simpa using hlt)]
      exact wpS_pure ⟨rfl, x, rfl, a1, a2, a3⟩
    · rw [if_neg (by simpa using hlt)]
      refine wpS_pure ⟨rfl, rfl, by omega, by omega, fun i j hi hij hj => ?_⟩
      by_cases e : j = lo + x
      · subst e
        by_cases e2 : i = lo + x
        · subst e2; exact Int.le_refl _
        · exact Int.le_trans (a3 i (lo + x - 1) hi (by omega) (by omega)) (Int.not_lt.mp hlt)
      · exact a3 i j hi hij (by omega)
/-- the falling part -/
def ru2 (lo nrem n₀ : Nat) : StateT SortSt Sem (Option Nat) := do
  rule "list.sort.descending-run"
  let mut n := n₀
  n := n + 1
  let mut q := 0
  for _ in [n:nrem] do
    let some t ← ltAt' (lo + n) (lo + n - 1) | return none
    if t then
      if q > 0 then reverseSlice' (lo + n - (q + 1)) (lo + n)
      q := 0
    else
      let some u ← ltAt' (lo + n - 1) (lo + n) | return none
      if u then break
      q := q + 1
    n := n + 1
  if q > 0 then reverseSlice' (lo + n - (q + 1)) (lo + n)
  reverseSlice' lo (lo + n)
  ru3 lo nrem n
def runD (lo nrem : Nat) : StateT SortSt Sem (Option Nat) := do
  let mut n := 1
  for _ in [1:nrem] do
    let some t ← ltAt' (lo + n) (lo + n - 1) | return none
    if t then break
    n := n + 1
  if n == nrem then return some n
  if n > 1 then
    let some r ← ltAt' lo (lo + n - 1) | return none
    if r then return some n
    reverseSlice' lo (lo + n)
  ru2 lo nrem n
theorem run_eq (lo nrem : Nat) : countRun' lo nrem = runD lo nrem := by
  rw [countRun'_eq]
  unfold runD ru2 ru3
  rfl
end
end Srt
end
section
set_option maxRecDepth 100000
set_option Elab.async false
set_option linter.all false
set_option maxHeartbeats 4000000
namespace Srt
open PySem PyProof.Rows
section
variable {prog : Program} {w : World} {A : Around} {E : Value → Shared → Prop} {s : Shared}
/-- equal ones turned round are what they were -/
theorem K_rev_same {xs : Array Keyed} {i j : Nat} (hj : j ≤ xs.size) (heq : ∀ k, i ≤ k → k < j → K xs k = K xs (j - 1)) (k : Nat) : K (mirror xs i j ((j - i) / 2)) k = K xs k := K_mirror_equal hj heq k
theorem wpS_rev {st : SortSt} {i j : Nat} {Q : Unit → SortSt → Prop} (h : Q () (setArr st (mirror (arrOf st) i j ((j - i) / 2)))) : wpS (model prog w) A E s (reverseSlice' i j) Q st := by
  rw [reverseSlice'_eq]
  exact wpS_modify h
/-- a falling stretch whose last q + 1 are alike -/
structure Fal (xs : Array Keyed) (lo n q : Nat) : Prop where
  geg : Geg xs lo (lo + n)
  like : ∀ k, lo + n - (q + 1) ≤ k → k < lo + n → K xs k = K xs (lo + n - 1)
  le : q + 1 ≤ n
theorem wpS_ru2 {st : SortSt} {lo nrem n₀ : Nat} {Q : Option Nat → SortSt → Prop} (hk : kindOf st = oneType') (ik : IK (arrOf st)) (hs : lo + nrem ≤ (arrOf st).size) (h1 : 1 ≤ n₀) (hn : n₀ + 1 ≤ nrem) (hG : Geg (arrOf st) lo (lo + (n₀ + 1)))
    (h : ∀ m st', 1 ≤ m → m ≤ nrem → Mv lo st st' → Seg (arrOf st') lo (lo + m) → Q (some m) st') : wpS (model prog w) A E s (ru2 lo nrem n₀) Q st := by
  unfold ru2
  refine wpS_bind (wpS_lift (wpAny_rule ⟨rfl, ?_⟩))
  dsimp only
  refine wpS_bind (wpS_mono (wpS_forRange (I := fun x c st' => Mv lo st st' ∧ ∃ q, c = (none, x, q) ∧ 2 ≤ x ∧ x ≤ nrem ∧ Fal (arrOf st') lo x q)
    (Q := fun c st' => Mv lo st st' ∧ ∃ x q, c = (none, x, q) ∧ 2 ≤ x ∧ x ≤ nrem ∧ Fal (arrOf st') lo x q) ?step ?fin ⟨Mv.refl _ _, 0, rfl, by omega, hn, hG, fun k a b => by rw [show k = lo + (n₀ + 1) - 1 by omega], by omega⟩) ?post)
  case fin =>
    rintro c st' ⟨m, q, rfl, a1, a2, a3⟩
    exact ⟨m, _, q, rfl, by omega, by omega, a3⟩
  case step =>
    rintro x c st' b1 b2 ⟨m, q, rfl, a1, a2, a3⟩
    dsimp only
    have hk' : kindOf st' = oneType' := m.kind.trans hk
    have ik' := m.ik ik
    have sz := m.size
    refine wpS_bind (wpS_ltI hk' ik' (by omega) (by omega) ?_)
    dsimp only
    by_cases hlt : K (arrOf st') (lo + x) < K (arrOf st') (lo + x - 1)
    · rw [if_pos (by simpa using hlt)]
      have grow : ∀ st2 : SortSt, (∀ k, K (arrOf st2) k = K (arrOf st') k) → Fal (arrOf st2) lo (x + 1) 0 := fun st2 e => by
        refine ⟨fun i j hi hij hj => ?_, fun k c1 c2 => by rw [show k = lo + (x + 1) - 1 by omega], by omega⟩
        rw [e, e]
        by_cases e1 : j = lo + x
        · subst e1
          by_cases e2 : i = lo + x
          · subst e2; exact Int.le_refl _
          · exact Int.le_trans (Int.le_of_lt hlt) (a3.geg i (lo + x - 1) hi (by omega) (by omega))
        · exact a3.geg i j hi hij (by omega)
      by_cases hq : q > 0
      · rw [if_pos hq]
        refine wpS_bind (wpS_rev ?_)
        refine wpS_pure ⟨m.trans (Mv.rev (by have := a3.le; omega) (by omega)), 0, rfl, by omega, by omega, grow _ fun k => ?_⟩
        exact K_rev_same (by omega) (fun k c1 c2 => a3.like k c1 c2) k
      · rw [if_neg hq]
        exact wpS_pure ⟨m, 0, rfl, by omega, by omega, grow _ fun k => rfl⟩
    · rw [if_neg (by simpa using hlt)]
      refine wpS_bind (wpS_ltI hk' ik' (by omega) (by omega) ?_)
      dsimp only
      by_cases hgt : K (arrOf st') (lo + x - 1) < K (arrOf st') (lo + x)
      · rw [if_pos (by simpa using hgt)]
        exact wpS_pure ⟨m, x, q, rfl, by omega, by omega, a3⟩
      · rw [if_neg (by simpa using hgt)]
        have eq : K (arrOf st') (lo + x) = K (arrOf st') (lo + x - 1) := by omega
        refine wpS_pure ⟨m, q + 1, rfl, by omega, by omega, fun i j hi hij hj => ?_, fun k c1 c2 => ?_, by have := a3.le; omega⟩
        · by_cases e1 : j = lo + x
          · subst e1
            by_cases e2 : i = lo + x
            · subst e2; exact Int.le_refl _
            · rw [eq]; exact a3.geg i (lo + x - 1) hi (by omega) (by omega)
          · exact a3.geg i j hi hij (by omega)
        · rw [show lo + (x + 1) - 1 = lo + x by omega, eq]
          by_cases e1 : k = lo + x
          · rw [e1, eq]
          · exact a3.like k (by omega) (by omega)
  case post =>
    rintro c st' ⟨m, x, q, rfl, a1, a2, a3⟩
    dsimp only
    have sz := m.size
    have last : ∀ st2 : SortSt, Mv lo st st2 → (∀ k, K (arrOf st2) k = K (arrOf st') k) → wpS (model prog w) A E s (do reverseSlice' lo (lo + x); ru3 lo nrem x) Q st2 := fun st2 m2 e => by
      have sz2 := m2.size
      refine wpS_bind (wpS_rev ?_)
      have m3 : Mv lo st (setArr st2 (mirror (arrOf st2) lo (lo + x) ((lo + x - lo) / 2))) := m2.trans (Mv.rev (Nat.le_refl _) (by omega))
      have sz3 := m3.size
      refine wpS_ru3 (st₀ := st) (m3.kind.trans hk) (m3.ik ik) (by omega) (by omega) a2 (fun i j hi hij hj => ?_) fun y c1 c2 c3 => h y _ (by omega) c2 m3 c3
      show K (mirror (arrOf st2) lo (lo + x) ((lo + x - lo) / 2)) i ≤ K (mirror (arrOf st2) lo (lo + x) ((lo + x - lo) / 2)) j
      rw [K_mirror (by omega), K_mirror (by omega), if_pos (by omega), if_pos (by omega), e, e]
      exact a3.geg _ _ (by omega) (by omega) (by omega)
    by_cases hq : q > 0
    · rw [if_pos hq]
      refine wpS_bind (wpS_rev ?_)
      exact last _ (m.trans (Mv.rev (by have := a3.le; omega) (by omega))) fun k => K_rev_same (by omega) (fun k c1 c2 => a3.like k c1 c2) k
    · rw [if_neg hq]
      exact last _ m fun k => rfl
theorem wpS_run {st : SortSt} {lo nrem : Nat} {Q : Option Nat → SortSt → Prop} (hk : kindOf st = oneType') (ik : IK (arrOf st)) (hs : lo + nrem ≤ (arrOf st).size) (h1 : 1 ≤ nrem)
    (h : ∀ m st', 1 ≤ m → m ≤ nrem → Mv lo st st' → Seg (arrOf st') lo (lo + m) → Q (some m) st') : wpS (model prog w) A E s (countRun' lo nrem) Q st := by
  rw [run_eq]
  unfold runD
  dsimp only
  refine wpS_bind (wpS_mono (wpS_forRange (I := fun x c st' => st' = st ∧ c = (none, x) ∧ 1 ≤ x ∧ x ≤ nrem ∧ Seg (arrOf st) lo (lo + x))
    (Q := fun c st' => st' = st ∧ ∃ x, c = (none, x) ∧ 1 ≤ x ∧ x ≤ nrem ∧ Seg (arrOf st) lo (lo + x) ∧ (x = nrem ∨ (x < nrem ∧ K (arrOf st) (lo + x) < K (arrOf st) (lo + x - 1)))) ?step ?fin ⟨rfl, rfl, Nat.le_refl _, h1, fun i j hi hij hj => by rw [show i = j by omega]; exact Int.le_refl _⟩) ?post)
  case fin =>
    rintro c st' ⟨rfl, rfl, a1, a2, a3⟩
    exact ⟨rfl, _, rfl, a1, a2, a3, .inl (by omega)⟩
  case step =>
    rintro x c st' b1 b2 ⟨rfl, rfl, a1, a2, a3⟩
    dsimp only
    refine wpS_bind (wpS_ltI hk ik (by omega) (by omega) ?_)
    dsimp only
    by_cases hlt : K (arrOf st') (lo + x) < K (arrOf st') (lo + x - 1)
    · rw [if_pos (by simpa using hlt)]
      exact wpS_pure ⟨rfl, x, rfl, a1, a2, a3, .inr ⟨b2, hlt⟩⟩
    · rw [if_neg (by simpa using hlt)]
      refine wpS_pure ⟨rfl, rfl, by omega, by omega, fun i j hi hij hj => ?_⟩
      by_cases e : j = lo + x
      · subst e
        by_cases e2 : i = lo + x
        · subst e2; exact Int.le_refl _
        · exact Int.le_trans (a3 i (lo + x - 1) hi (by omega) (by omega)) (Int.not_lt.mp hlt)
      · exact a3 i j hi hij (by omega)
  case post =>
    rintro c st' ⟨rfl, x, rfl, a1, a2, a3, a4⟩
    dsimp only
    by_cases e : x = nrem
    · rw [if_pos (by simpa using e)]
      exact wpS_pure (h x _ a1 a2 (Mv.refl _ _) a3)
    rw [if_neg (by simpa using e)]
    obtain ⟨hx, hlt⟩ : x < nrem ∧ K (arrOf st') (lo + x) < K (arrOf st') (lo + x - 1) := a4.resolve_left e
    by_cases hx1 : x > 1
    · rw [if_pos hx1]
      refine wpS_bind (wpS_ltI hk ik (by omega) (by omega) ?_)
      dsimp only
      by_cases hr : K (arrOf st') lo < K (arrOf st') (lo + x - 1)
      · rw [if_pos (by simpa using hr)]
        exact wpS_pure (h x _ a1 a2 (Mv.refl _ _) a3)
      · rw [if_neg (by simpa using hr)]
        have same : ∀ k, lo ≤ k → k < lo + x → K (arrOf st') k = K (arrOf st') (lo + x - 1) := fun k c1 c2 => by
          have z1 := a3 lo k (Nat.le_refl _) c1 c2
          have z2 := a3 k (lo + x - 1) c1 (by omega) (by omega)
          omega
        refine wpS_bind (wpS_rev ?_)
        have m : Mv lo st' (setArr st' (mirror (arrOf st') lo (lo + x) ((lo + x - lo) / 2))) := Mv.rev (Nat.le_refl _) (by omega)
        have e3 : ∀ k, K (mirror (arrOf st') lo (lo + x) ((lo + x - lo) / 2)) k = K (arrOf st') k := K_rev_same (by omega) same
        have sz := m.size
        refine wpS_ru2 (m.kind.trans hk) (m.ik ik) (by omega) a1 hx (fun i j hi hij hj => ?_) fun y st2 c1 c2 m2 c3 => h y st2 c1 c2 (m.trans m2) c3
        show K (mirror (arrOf st') lo (lo + x) ((lo + x - lo) / 2)) j ≤ K (mirror (arrOf st') lo (lo + x) ((lo + x - lo) / 2)) i
        rw [e3, e3]
        by_cases e4 : j = lo + x
        · subst e4
          by_cases e5 : i = lo + x
          · subst e5; exact Int.le_refl _
          · rw [same i hi (by omega)]; exact Int.le_of_lt hlt
        · rw [same i hi (by omega), same j (by omega) (by omega)]; exact Int.le_refl _
    · rw [if_neg hx1]
      have : x = 1 := by omega
      subst this
      refine wpS_ru2 hk ik hs a1 hx (fun i j hi hij hj => ?_) fun y st2 c1 c2 m2 c3 => h y st2 c1 c2 m2 c3
      by_cases e4 : i = j
      · subst e4; exact Int.le_refl _
      · rw [show j = lo + 1 by omega, show i = lo + 1 - 1 by omega]; exact Int.le_of_lt hlt
theorem Mv.bub {lo : Nat} {st : SortSt} {src d : Nat} (hs : src < (arrOf st).size) (hd : lo + d ≤ src) : Mv lo st (setArr st (bubble (arrOf st) src d)) :=
  ⟨rfl, rfl, rfl, bubble_perm _ _ _, fun k hk => by
    show (bubble (arrOf st) src d)[k]? = _
    rw [getElem?_bubble hs d (by omega), if_neg (by omega), if_neg (by omega)]⟩
theorem wpS_bin {st : SortSt} {lo n ok : Nat} {Q : Bool → SortSt → Prop} (hk : kindOf st = oneType') (ik : IK (arrOf st)) (hn : lo + n ≤ (arrOf st).size) (hok : ok ≤ n) (hS : Seg (arrOf st) lo (lo + ok))
    (h : ∀ st', Mv lo st st' → Seg (arrOf st') lo (lo + n) → Q true st') : wpS (model prog w) A E s (binarySort' lo n ok) Q st := by
  rw [binarySort'_eq]
  refine wpS_bind (wpS_mono (wpS_forRange (I := fun k c st' => c = (none, ()) ∧ Mv lo st st' ∧ Seg (arrOf st') lo (lo + min k n))
    (Q := fun c st' => c = (none, ()) ∧ Mv lo st st' ∧ Seg (arrOf st') lo (lo + n)) ?step ?fin ?init) ?post)
  case post =>
    rintro c st' ⟨rfl, m, hs'⟩
    exact wpS_pure (h st' m hs')
  case init =>
    refine ⟨rfl, Mv.refl _ _, fun i j hi hij hj => ?_⟩
    by_cases h1 : ok = 0
    · rw [show i = j by omega]; exact Int.le_refl _
    · exact hS i j hi hij (by omega)
  case fin =>
    rintro c st' ⟨hc, m, hs'⟩
    refine ⟨hc, m, ?_⟩
    rwa [show min (max (max ok 1) n) n = n by omega] at hs'
  case step =>
    rintro k c st' hak hkn ⟨rfl, m, hs'⟩
    rw [show min k n = k by omega] at hs'
    have sz := m.size
    have ik' := m.ik ik
    have hk' : kindOf st' = oneType' := m.kind.trans hk
    refine wpS_bind (wpS_mono (wpS_forRange (I := fun x c st'' => st'' = st' ∧ ∃ l r, c = (none, l, r) ∧ l ≤ r ∧ r ≤ k ∧ r - l ≤ k - x ∧
        (∀ i, i < l → K (arrOf st') (lo + i) ≤ K (arrOf st') (lo + k)) ∧ (∀ i, r ≤ i → i < k → K (arrOf st') (lo + k) < K (arrOf st') (lo + i)))
      (Q := fun c st'' => st'' = st' ∧ ∃ l r, c = (none, l, r) ∧ l ≤ k ∧
        (∀ i, i < l → K (arrOf st') (lo + i) ≤ K (arrOf st') (lo + k)) ∧ (∀ i, l ≤ i → i < k → K (arrOf st') (lo + k) < K (arrOf st') (lo + i))) ?istep ?ifin ?iinit) ?ipost)
    case iinit => exact ⟨rfl, 0, k, rfl, by omega, by omega, by omega, fun i hi => by omega, fun i h1 h2 => by omega⟩
    case ifin =>
      rintro c st'' ⟨rfl, l, r, rfl, hlr, hrk, hm, hlo, hhi⟩
      have : l = r := by omega
      subst this
      exact ⟨rfl, l, l, rfl, hrk, hlo, hhi⟩
    case istep =>
      rintro x c st'' _ hxk ⟨rfl, l, r, rfl, hlr, hrk, hm, hlo, hhi⟩
      dsimp only
      by_cases hge : l ≥ r
      · rw [if_pos hge]
        have : l = r := by omega
        subst this
        exact wpS_pure ⟨rfl, l, l, rfl, hrk, hlo, hhi⟩
      · rw [if_neg hge]
        refine wpS_bind (wpS_ltI hk' ik' (by omega) (by omega) ?_)
        dsimp only
        by_cases hless : K (arrOf st'') (lo + k) < K (arrOf st'') (lo + (l + r) / 2)
        · rw [if_pos (by simpa using hless)]
          refine wpS_pure ⟨rfl, l, (l + r) / 2, rfl, by omega, by omega, by omega, hlo, fun i h1 h2 => ?_⟩
          exact Int.lt_of_lt_of_le hless (hs' _ _ (by omega) (by omega) (by omega))
        · rw [if_neg (by simpa using hless)]
          refine wpS_pure ⟨rfl, (l + r) / 2 + 1, r, rfl, by omega, by omega, by omega, fun i h1 => ?_, hhi⟩
          exact Int.le_trans (hs' (lo + i) (lo + (l + r) / 2) (by omega) (by omega) (by omega)) (Int.not_lt.mp hless)
    case ipost =>
      rintro c st'' ⟨rfl, l, r, rfl, hlk, hlo, hhi⟩
      show wpS _ _ _ _ (do moveDown' (lo + k) (lo + l); pure (ForInStep.yield (none, ()))) _ _
      rw [moveDown'_eq]
      refine wpS_bind (wpS_modify (wpS_pure ⟨rfl, m.trans (Mv.bub (by omega) (by omega)), ?_⟩))
      rw [show min (k + 1) n = k + 1 by omega]
      have hks : lo + k < (arrOf st'').size := by omega
      intro i j hi hij hj
      show K (bubble (arrOf st'') (lo + k) (lo + k - (lo + l))) i ≤ K (bubble (arrOf st'') (lo + k) (lo + k - (lo + l))) j
      rw [K_bubble hks (by omega), K_bubble hks (by omega), show lo + k - (lo + k - (lo + l)) = lo + l by omega]
      have hlo' : ∀ i, lo ≤ i → i < lo + l → K (arrOf st'') i ≤ K (arrOf st'') (lo + k) := fun i a b => by
        have := hlo (i - lo) (by omega)
        rwa [show lo + (i - lo) = i by omega] at this
      have hhi' : ∀ i, lo + l ≤ i → i < lo + k → K (arrOf st'') (lo + k) < K (arrOf st'') i := fun i a b => by
        have := hhi (i - lo) (by omega) (by omega)
        rwa [show lo + (i - lo) = i by omega] at this
      repeat' split
      all_goals first
        | (exfalso; omega)
        | exact Int.le_refl _
        | exact hlo' _ (by omega) (by omega)
        | exact Int.le_of_lt (hhi' _ (by omega) (by omega))
        | exact hs' _ _ (by omega) (by omega) (by omega)
end
end Srt
end
section
set_option maxRecDepth 100000
set_option Elab.async false
set_option linter.all false
set_option maxHeartbeats 4000000
namespace Srt
open PySem PyProof.Rows
theorem writes (sa : Nat) : ∀ (m : List Keyed) (j : Nat) (a : Array Keyed), sa + j + m.length ≤ a.size →
    ((m.zipIdx j).foldl (fun (a : Array Keyed) (z : Keyed × Nat) => a.setIfInBounds (sa + z.2) z.1) a).toList = a.toList.take (sa + j) ++ m ++ a.toList.drop (sa + j + m.length)
  | [], j, a, h => by simp
  | p :: m, j, a, h => by
    rw [List.zipIdx_cons, List.foldl_cons, writes sa m (j + 1) _ (by simp at h ⊢; omega)]
    have hl : sa + j < a.toList.length := by simp at h ⊢; omega
    rw [Array.toList_setIfInBounds]
    dsimp only
    rw [show sa + (j + 1) = sa + j + 1 by omega, List.take_succ_eq_append_getElem (by simpa using hl), List.getElem_set_self, List.take_set_of_le (Nat.le_refl _),
      List.drop_set_of_lt (by omega)]
    simp only [List.length_cons, List.append_assoc, List.singleton_append, List.cons_append, List.nil_append]
    rw [show sa + j + 1 + m.length = sa + j + (m.length + 1) by omega]
theorem seg_up {xs : Array Keyed} {lo hi : Nat} (h : Seg xs lo hi) (hs : hi ≤ xs.size) : Up ((xs.toList.take hi).drop lo) := by
  rw [Up, List.pairwise_iff_getElem]
  intro i j hi' hj hij
  rw [List.length_drop, List.length_take] at hi' hj
  have hl : xs.toList.length = xs.size := by simp
  have z := h (lo + i) (lo + j) (by omega) (by omega) (by omega)
  have e1 : xs[lo + i]? = some ((xs.toList.take hi).drop lo)[i] := by
    rw [List.getElem_drop, List.getElem_take]; simp
  have e2 : xs[lo + j]? = some ((xs.toList.take hi).drop lo)[j] := by
    rw [List.getElem_drop, List.getElem_take]; simp
  rw [K_at e1, K_at e2] at z
  exact z
theorem up_seg {xs : Array Keyed} {lo hi : Nat} (h : Up ((xs.toList.take hi).drop lo)) (hs : hi ≤ xs.size) : Seg xs lo hi := by
  intro i j hi' hij hj
  by_cases e : i = j
  · subst e; exact Int.le_refl _
  rw [Up, List.pairwise_iff_getElem] at h
  have hl : xs.toList.length = xs.size := by simp
  have b1 : i - lo < ((xs.toList.take hi).drop lo).length := by rw [List.length_drop, List.length_take]; omega
  have b2 : j - lo < ((xs.toList.take hi).drop lo).length := by rw [List.length_drop, List.length_take]; omega
  have z := h (i - lo) (j - lo) b1 b2 (by omega)
  have e1 : xs[i]? = some ((xs.toList.take hi).drop lo)[i - lo] := by
    rw [List.getElem_drop, List.getElem_take]
    simp only [show lo + (i - lo) = i by omega]
    simp
  have e2 : xs[j]? = some ((xs.toList.take hi).drop lo)[j - lo] := by
    rw [List.getElem_drop, List.getElem_take]
    simp only [show lo + (j - lo) = j by omega]
    simp
  rw [K_at e1, K_at e2]
  exact z
/-- a stretch of an array set anew -/
structure Anew (lo hi : Nat) (xs ys : Array Keyed) : Prop where
  perm : ys.Perm xs
  out : ∀ k, k < lo ∨ hi ≤ k → ys[k]? = xs[k]?
theorem anew_of {lo hi : Nat} {xs ys : Array Keyed} {S : List Keyed} (hl : lo ≤ hi) (hh : hi ≤ xs.size) (e : ys.toList = xs.toList.take lo ++ S ++ xs.toList.drop hi) (p : S.Perm ((xs.toList.take hi).drop lo)) :
    Anew lo hi xs ys ∧ (ys.toList.take hi).drop lo = S := by
  have hx : xs.toList.length = xs.size := by simp
  have dec : xs.toList = xs.toList.take lo ++ (xs.toList.take hi).drop lo ++ xs.toList.drop hi := by
    rw [List.append_assoc, ← drop_mid hl (by omega), List.take_append_drop]
  have sl : S.length = hi - lo := by rw [p.length_eq, List.length_drop, List.length_take]; omega
  refine ⟨⟨?_, fun k hk => ?_⟩, ?_⟩
  · rw [Array.perm_iff_toList_perm, e]
    conv => rhs; rw [dec]
    exact List.Perm.append_right _ (List.Perm.append_left _ p)
  · have y1 : ys[k]? = ys.toList[k]? := by simp
    have x1 : xs[k]? = xs.toList[k]? := by simp
    rw [y1, x1, e]
    rcases hk with hk | hk
    · rw [List.append_assoc, List.getElem?_append_left (by rw [List.length_take]; omega), List.getElem?_take_of_lt hk]
    · rw [List.getElem?_append_right (by rw [List.length_append, List.length_take]; omega), List.length_append, List.length_take, sl, List.getElem?_drop]
      congr 1
      omega
  · rw [e, List.take_append_of_le_length (by rw [List.length_append, List.length_take]; omega), List.take_of_length_le (by rw [List.length_append, List.length_take]; omega),
      List.drop_append_of_le_length (by rw [List.length_take]; omega), List.drop_eq_nil_of_le (by rw [List.length_take]; omega), List.nil_append]
def mAt (i : Nat) : StateT SortSt Sem Bool := do
  let s ← get
  let (some (sa, na, pw), some (sb, nb, _)) := ((pendingOf s)[i]?, (pendingOf s)[i + 1]?) | unsupported "internal:list.sort.pending"
  set (setPending s (((pendingOf s).setIfInBounds i (sa, na + nb, pw)).eraseIdxIfInBounds (i + 1)))
  let some k ← gallop' false (← elem' (arrOf s) sb) (arrOf s) sa na 0 | return false
  let (ta, ma) := (sa + k, na - k)
  if ma == 0 then return true
  let some mb ← gallop' true (← elem' (arrOf s) (ta + ma - 1)) (arrOf s) sb nb (nb - 1) | return false
  if mb == 0 then return true
  let x := (arrOf s).extract ta sb
  let y := (arrOf s).extract sb (sb + mb)
  let r ← if ma ≤ mb then mergeLo' x y else mergeHi' x y
  modify fun s => setArr s (r.toList.zipIdx.foldl (fun a (p, j) => a.setIfInBounds (ta + j) p) (arrOf s))
  return (failedOf (← get)).isNone
theorem mergeAt'_eq (i : Nat) : mergeAt' i = mAt i := rfl
section
variable {prog : Program} {w : World} {A : Around} {E : Value → Shared → Prop} {s : Shared}
theorem wpS_set {st st' : SortSt} {Q : PUnit → SortSt → Prop} (h : Q ⟨⟩ st') : wpS (model prog w) A E s (set st' : StateT SortSt Sem PUnit) Q st := by
  unfold wpS; rw [StateT.run_set]; exact wpAny_pure ⟨rfl, h⟩
theorem wpS_mAt {st : SortSt} {i sa na pw sb nb pw2 : Nat} {Q : Bool → SortSt → Prop} (hk : kindOf st = oneType') (ik : IK (arrOf st)) (hf : failedOf st = none)
    (e1 : (pendingOf st)[i]? = some (sa, na, pw)) (e2 : (pendingOf st)[i + 1]? = some (sb, nb, pw2)) (hsb : sb = sa + na) (n1 : 1 ≤ na) (n2 : 1 ≤ nb) (hs : sb + nb ≤ (arrOf st).size)
    (s1 : Seg (arrOf st) sa sb) (s2 : Seg (arrOf st) sb (sb + nb))
    (h : ∀ st', kindOf st' = oneType' → failedOf st' = none → pendingOf st' = ((pendingOf st).setIfInBounds i (sa, na + nb, pw)).eraseIdxIfInBounds (i + 1) →
      Anew sa (sb + nb) (arrOf st) (arrOf st') → Seg (arrOf st') sa (sb + nb) → Q true st') :
    wpS (model prog w) A E s (mergeAt' i) Q st := by
  rw [mergeAt'_eq]
  unfold mAt
  refine wpS_bind (wpS_get ?_)
  rw [e1, e2]
  dsimp only
  refine wpS_bind (wpS_set ?_)
  have lx : (arrOf st).toList.length = (arrOf st).size := by simp
  have hmem : ∀ p ∈ (arrOf st).toList, IntKey p := ik
  obtain ⟨b0, eb, eb', kb⟩ := at_of ik (show sb < (arrOf st).size by omega)
  obtain ⟨al, ea, ea', ka⟩ := at_of ik (show sb - 1 < (arrOf st).size by omega)
  -- nothing to do
  have idle : Seg (arrOf st) sa (sb + nb) → Q true (setPending st (((pendingOf st).setIfInBounds i (sa, na + nb, pw)).eraseIdxIfInBounds (i + 1))) := fun z =>
    h _ hk hf rfl ⟨Array.Perm.refl _, fun k _ => rfl⟩ z
  refine wpS_bind (wpS_elem eb (wpS_bind ?_))
  refine wpS_gallop hk kb (fun x hx => ?_) (fun x y hxy hy => s1 _ _ (by omega) (by omega) (by omega)) (by omega) fun k hk0 ht1 hf1 => ?_
  · obtain ⟨q, z1, _, z2⟩ := at_of ik (show sa + x < (arrOf st).size by omega)
    exact ⟨q, z1, z2⟩
  dsimp only
  have bel : ∀ x, x < k → K (arrOf st) (sa + x) ≤ K (arrOf st) sb := fun x hx => by
    have := ht1 x hx
    unfold fq at this
    simp at this
    rw [K_at eb]; exact this
  have abv : ∀ x, k ≤ x → x < na → K (arrOf st) sb < K (arrOf st) (sa + x) := fun x hx hx2 => by
    have := hf1 x hx hx2
    unfold fq at this
    simp at this
    rw [K_at eb]; exact this
  by_cases hz : na - k = 0
  · rw [if_pos (by simpa using hz)]
    refine wpS_pure (idle fun x y hx hxy hy => ?_)
    by_cases c1 : y < sb
    · exact s1 x y hx hxy c1
    · by_cases c2 : sb ≤ x
      · exact s2 x y c2 hxy hy
      · have := bel (x - sa) (by omega)
        rw [show sa + (x - sa) = x by omega] at this
        exact Int.le_trans this (s2 sb y (Nat.le_refl _) (by omega) hy)
  rw [if_neg (by simpa using hz)]
  rw [show sa + k + (na - k) - 1 = sb - 1 by omega]
  refine wpS_bind (wpS_elem ea (wpS_bind ?_))
  refine wpS_gallop hk ka (fun x hx => ?_) (fun x y hxy hy => s2 _ _ (by omega) (by omega) (by omega)) (by omega) fun r hr0 ht2 hf2 => ?_
  · obtain ⟨q, z1, _, z2⟩ := at_of ik (show sb + x < (arrOf st).size by omega)
    exact ⟨q, z1, z2⟩
  dsimp only
  have bel2 : ∀ x, x < r → K (arrOf st) (sb + x) < K (arrOf st) (sb - 1) := fun x hx => by
    have := ht2 x hx
    unfold fq at this
    simp at this
    rw [K_at ea]; exact this
  have abv2 : ∀ x, r ≤ x → x < nb → K (arrOf st) (sb - 1) ≤ K (arrOf st) (sb + x) := fun x hx hx2 => by
    have := hf2 x hx hx2
    unfold fq at this
    simp at this
    rw [K_at ea]; exact this
  by_cases hr1 : r = 0
  · rw [if_pos (by simpa using hr1)]
    refine wpS_pure (idle fun x y hx hxy hy => ?_)
    by_cases c1 : y < sb
    · exact s1 x y hx hxy c1
    · by_cases c2 : sb ≤ x
      · exact s2 x y c2 hxy hy
      · have := abv2 (y - sb) (by omega) (by omega)
        rw [show sb + (y - sb) = y by omega] at this
        exact Int.le_trans (s1 x (sb - 1) hx (by omega) (by omega)) this
  rw [if_neg (by simpa using hr1)]
  -- the merge
  have X1 : ((arrOf st).extract (sa + k) sb).toList = ((arrOf st).toList.take sb).drop (sa + k) := extm _ _ _
  have Y1 : ((arrOf st).extract sb (sb + r)).toList = ((arrOf st).toList.take (sb + r)).drop sb := extm _ _ _
  have xs1 : ((arrOf st).extract (sa + k) sb).size = sb - (sa + k) := by simp; omega
  have ys1 : ((arrOf st).extract sb (sb + r)).size = r := by simp; omega
  have T : Two ((arrOf st).extract (sa + k) sb) ((arrOf st).extract sb (sb + r)) := by
    refine ⟨?_, ?_, ?_, ?_, ?_, ?_, ?_, ?_⟩
    · rw [X1]; exact fun p hp => hmem p (List.mem_of_mem_take (List.mem_of_mem_drop hp))
    · rw [Y1]; exact fun p hp => hmem p (List.mem_of_mem_take (List.mem_of_mem_drop hp))
    · rw [X1]; exact seg_up (fun x y a b c => s1 x y (by omega) b c) (by omega)
    · rw [Y1]; exact seg_up (fun x y a b c => s2 x y a b (by omega)) (by omega)
    · rw [xs1]; omega
    · rw [ys1]; omega
    · intro q hq y hy
      rw [X1] at hy
      rw [Y1] at hq
      have hq' : q = b0 := by
        rw [List.getElem?_drop, List.getElem?_take_of_lt (by omega)] at hq
        rw [Nat.add_zero, eb'] at hq
        exact (Option.some.inj hq).symm
      subst hq'
      obtain ⟨z, hz1, hz2, _, ez⟩ := mem_mid_K hy
      have := abv (z - sa) (by omega) (by omega)
      rw [show sa + (z - sa) = z by omega, ez, K_at eb] at this
      exact Int.le_of_lt this
    · intro x hx y hy
      rw [xs1, X1] at hy
      rw [Y1] at hx
      obtain ⟨z, hz1, hz2, _, ez⟩ := mem_mid_K hx
      have hy2 : y ∈ ((arrOf st).toList.take sb).drop (sb - 1) := by
        rw [List.drop_drop] at hy
        rwa [show sa + k + (sb - (sa + k) - 1) = sb - 1 by omega] at hy
      obtain ⟨v, hv1, hv2, _, ev⟩ := mem_mid_K hy2
      have := bel2 (z - sb) (by omega)
      rw [show sb + (z - sb) = z by omega, ez] at this
      rw [show v = sb - 1 by omega] at ev
      rw [ev] at this
      exact Int.le_of_lt this
  have done : ∀ (R : Array Keyed) (st' : SortSt), Like (setPending st (((pendingOf st).setIfInBounds i (sa, na + nb, pw)).eraseIdxIfInBounds (i + 1))) st' →
      Res ((arrOf st).extract (sa + k) sb).toList ((arrOf st).extract sb (sb + r)).toList R.toList →
      wpS (model prog w) A E s (do
        modify fun s => setArr s (R.toList.zipIdx.foldl (fun a (p, j) => a.setIfInBounds (sa + k + j) p) (arrOf s))
        let z ← get
        pure (failedOf z).isNone) Q st' := by
    intro R st' l hR
    refine wpS_bind (wpS_modify (wpS_bind (wpS_get (wpS_pure ?_))))
    obtain ⟨l1, l2, l3, l4⟩ := l
    have rl : R.toList.length = (sb - (sa + k)) + r := by
      rw [hR.1.length_eq, List.length_append]
      have := xs1; have := ys1
      simp only [Array.length_toList]
      omega
    have w1 := writes (sa + k) R.toList 0 (arrOf st') (by rw [l2]; show sa + k + 0 + _ ≤ (arrOf st).size; rw [rl]; omega)
    rw [l2] at w1
    have w2 : (R.toList.zipIdx.foldl (fun (a : Array Keyed) (z : Keyed × Nat) => a.setIfInBounds (sa + k + z.2) z.1) (arrOf st)).toList
        = (arrOf st).toList.take sa ++ (((arrOf st).toList.take (sa + k)).drop sa ++ R.toList ++ ((arrOf st).toList.take (sb + nb)).drop (sb + r)) ++ (arrOf st).toList.drop (sb + nb) := by
      refine w1.trans ?_
      show (arrOf st).toList.take (sa + k + 0) ++ R.toList ++ (arrOf st).toList.drop (sa + k + 0 + R.toList.length) = _
      rw [rl, Nat.add_zero, show sa + k + (sb - (sa + k) + r) = sb + r by omega, drop_mid (l := (arrOf st).toList) (r := sb + r) (i := sb + nb) (by omega) (by omega)]
      have : (arrOf st).toList.take (sa + k) = (arrOf st).toList.take sa ++ ((arrOf st).toList.take (sa + k)).drop sa := by
        conv => lhs; rw [← List.take_append_drop sa ((arrOf st).toList.take (sa + k)), ← take_mid (Nat.le_add_right sa k)]
      conv => lhs; rw [this]
      simp only [List.append_assoc]
    have cut : ((arrOf st).toList.take (sb + nb)).drop sa = ((arrOf st).toList.take (sa + k)).drop sa ++ (((arrOf st).toList.take sb).drop (sa + k) ++ ((arrOf st).toList.take (sb + r)).drop sb) ++ ((arrOf st).toList.take (sb + nb)).drop (sb + r) := by
      have g1 : ((arrOf st).toList.take (sb + nb)).drop sa = ((arrOf st).toList.take (sa + k)).drop sa ++ ((arrOf st).toList.take (sb + nb)).drop (sa + k) := by
        have := drop_mid (l := (arrOf st).toList.take (sb + nb)) (r := sa) (i := sa + k) (by omega) (by rw [List.length_take]; omega)
        rw [this, ← take_mid (show sa + k ≤ sb + nb by omega)]
      have g2 : ((arrOf st).toList.take (sb + nb)).drop (sa + k) = ((arrOf st).toList.take sb).drop (sa + k) ++ ((arrOf st).toList.take (sb + nb)).drop sb := by
        have := drop_mid (l := (arrOf st).toList.take (sb + nb)) (r := sa + k) (i := sb) (by omega) (by rw [List.length_take]; omega)
        rw [this, ← take_mid (show sb ≤ sb + nb by omega)]
      have g3 : ((arrOf st).toList.take (sb + nb)).drop sb = ((arrOf st).toList.take (sb + r)).drop sb ++ ((arrOf st).toList.take (sb + nb)).drop (sb + r) := by
        have := drop_mid (l := (arrOf st).toList.take (sb + nb)) (r := sb) (i := sb + r) (by omega) (by rw [List.length_take]; omega)
        rw [this, ← take_mid (show sb + r ≤ sb + nb by omega)]
      rw [g1, g2, g3]
      simp only [List.append_assoc]
    have hRp : R.toList.Perm (((arrOf st).toList.take sb).drop (sa + k) ++ ((arrOf st).toList.take (sb + r)).drop sb) := by
      have := hR.1
      rwa [X1, Y1] at this
    have an := anew_of (lo := sa) (hi := sb + nb) (xs := arrOf st) (S := ((arrOf st).toList.take (sa + k)).drop sa ++ R.toList ++ ((arrOf st).toList.take (sb + nb)).drop (sb + r)) (by omega) hs w2 (by
      rw [cut]
      exact List.Perm.append_right _ (List.Perm.append_left _ hRp))
    have l2' : arrOf st' = arrOf st := l2
    rw [show (failedOf (setArr st' _)).isNone = true from by
      show (failedOf st').isNone = true
      rw [l4]
      show (failedOf st).isNone = true
      rw [hf]; rfl]
    refine h _ (l1.trans hk) (l4.trans hf) l3 ?_ ?_
    · show Anew sa (sb + nb) (arrOf st) (R.toList.zipIdx.foldl (fun (a : Array Keyed) (z : Keyed × Nat) => a.setIfInBounds (sa + k + z.2) z.1) (arrOf st'))
      rw [l2']
      exact an.1
    · show Seg (R.toList.zipIdx.foldl (fun (a : Array Keyed) (z : Keyed × Nat) => a.setIfInBounds (sa + k + z.2) z.1) (arrOf st')) sa (sb + nb)
      rw [l2']
      refine up_seg ?_ (by rw [an.1.perm.size_eq]; exact hs)
      rw [an.2]
      have inM : ∀ z ∈ R.toList, (∃ m, sa + k ≤ m ∧ m < sb ∧ K (arrOf st) m = kn z) ∨ ∃ m, sb ≤ m ∧ m < sb + r ∧ K (arrOf st) m = kn z := fun z hz => by
        rcases List.mem_append.mp (hRp.mem_iff.mp hz) with hz | hz
        · obtain ⟨m, a1, a2, _, a3⟩ := mem_mid_K hz
          exact .inl ⟨m, a1, a2, a3⟩
        · obtain ⟨m, a1, a2, _, a3⟩ := mem_mid_K hz
          exact .inr ⟨m, a1, a2, a3⟩
      have u1 : Up (((arrOf st).toList.take (sa + k)).drop sa) := seg_up (fun x y a b c => s1 x y a b (by omega)) (by omega)
      have u3 : Up (((arrOf st).toList.take (sb + nb)).drop (sb + r)) := seg_up (fun x y a b c => s2 x y (by omega) b c) (by omega)
      refine (u1.app hR.2 fun x hx y hy => ?_).app u3 fun x hx y hy => ?_
      · obtain ⟨m, a1, a2, _, a3⟩ := mem_mid_K hx
        rcases inM y hy with ⟨v, b1, b2, b3⟩ | ⟨v, b1, b2, b3⟩
        · rw [← a3, ← b3]; exact s1 m v a1 (by omega) b2
        · rw [← a3, ← b3]
          have := bel (m - sa) (by omega)
          rw [show sa + (m - sa) = m by omega] at this
          exact Int.le_trans this (s2 sb v (Nat.le_refl _) b1 (by omega))
      · obtain ⟨v, b1, b2, _, b3⟩ := mem_mid_K hy
        have lastv : K (arrOf st) (sb - 1) ≤ K (arrOf st) v := by
          have := abv2 (v - sb) (by omega) (by omega)
          rwa [show sb + (v - sb) = v by omega] at this
        rcases List.mem_append.mp hx with hx | hx
        · obtain ⟨m, a1, a2, _, a3⟩ := mem_mid_K hx
          rw [← a3, ← b3]
          exact Int.le_trans (s1 m (sb - 1) a1 (by omega) (by omega)) lastv
        · rcases inM x hx with ⟨m, a1, a2, a3⟩ | ⟨m, a1, a2, a3⟩
          · rw [← a3, ← b3]
            exact Int.le_trans (s1 m (sb - 1) (by omega) (by omega) (by omega)) lastv
          · rw [← a3, ← b3]
            exact s2 m v a1 (by omega) b2
  by_cases hc : na - k ≤ r
  · rw [if_pos hc]
    exact wpS_bind (wpS_mergeLo hk T fun R st' l hR => done R st' l hR)
  · rw [if_neg hc]
    exact wpS_bind (wpS_mergeHi hk T fun R st' l hR => done R st' l hR)
end
end Srt
end
section
set_option maxRecDepth 100000
set_option Elab.async false
set_option linter.all false
set_option maxHeartbeats 4000000
namespace Srt
open PySem PyProof.Rows
/-- runs, one behind the other, from a to b -/
def Runs (xs : Array Keyed) : Nat → List (Nat × Nat × Nat) → Nat → Prop
  | a, [], b => a = b
  | a, (z : Nat × Nat × Nat) :: t, b => z.1 = a ∧ 1 ≤ z.2.1 ∧ Seg xs a (a + z.2.1) ∧ Runs xs (a + z.2.1) t b
theorem Runs.le {xs : Array Keyed} : ∀ {P : List (Nat × Nat × Nat)} {a b : Nat}, Runs xs a P b → a + P.length ≤ b
  | [], a, b, h => by have h' : a = b := h; simp; omega
  | z :: t, a, b, h => by
    obtain ⟨_, h2, _, h4⟩ := h
    have := h4.le
    simp only [List.length_cons]; omega
theorem Runs.app {xs : Array Keyed} : ∀ {P R : List (Nat × Nat × Nat)} {a b : Nat}, Runs xs a (P ++ R) b ↔ ∃ m, Runs xs a P m ∧ Runs xs m R b
  | [], R, a, b => ⟨fun h => ⟨a, rfl, h⟩, fun ⟨m, h1, h2⟩ => by have e : a = m := h1; subst e; exact h2⟩
  | z :: t, R, a, b => by
    constructor
    · rintro ⟨h1, h2, h3, h4⟩
      obtain ⟨m, h5, h6⟩ := Runs.app.mp h4
      exact ⟨m, ⟨h1, h2, h3, h5⟩, h6⟩
    · rintro ⟨m, ⟨h1, h2, h3, h5⟩, h6⟩
      exact ⟨h1, h2, h3, Runs.app.mpr ⟨m, h5, h6⟩⟩
theorem Seg.congr {xs ys : Array Keyed} {lo hi : Nat} (h : Seg xs lo hi) (e : ∀ k, lo ≤ k → k < hi → ys[k]? = xs[k]?) : Seg ys lo hi := fun i j a b c => by
  rw [K_congr (e i a (by omega)), K_congr (e j (by omega) c)]
  exact h i j a b c
theorem Runs.congr {xs ys : Array Keyed} : ∀ {P : List (Nat × Nat × Nat)} {a b : Nat}, Runs xs a P b → (∀ k, a ≤ k → k < b → ys[k]? = xs[k]?) → Runs ys a P b
  | [], a, b, h, _ => h
  | z :: t, a, b, h, e => by
    obtain ⟨h1, h2, h3, h4⟩ := h
    have := h4.le
    exact ⟨h1, h2, h3.congr fun k c1 c2 => e k c1 (by omega), h4.congr fun k c1 c2 => e k (by omega) c2⟩
theorem split2 {α : Type} : ∀ {P : List α} {i : Nat}, i + 1 < P.length → ∃ U x y D, P = U ++ x :: y :: D ∧ U.length = i
  | [], i, h => by simp at h
  | [_], i, h => by simp at h
  | x :: y :: D, 0, _ => ⟨[], x, y, D, rfl, rfl⟩
  | x :: y :: D, i + 1, h => by
    obtain ⟨U, u, v, W, e, l⟩ := split2 (P := y :: D) (i := i) (by simp at h ⊢; omega)
    exact ⟨x :: U, u, v, W, by rw [e]; rfl, by simp [l]⟩
theorem Runs.pow {xs : Array Keyed} (f : Nat × Nat × Nat → Nat × Nat × Nat) (hf : ∀ z, (f z).1 = z.1 ∧ (f z).2.1 = z.2.1) : ∀ {P : List (Nat × Nat × Nat)} {a b k : Nat}, Runs xs a P b → Runs xs a (P.modify k f) b
  | [], a, b, k, h => by simpa using h
  | z :: t, a, b, 0, h => by
    obtain ⟨h1, h2, h3, h4⟩ := h
    rw [List.modify_zero_cons]
    refine ⟨(hf z).1.trans h1, by rw [(hf z).2]; exact h2, by rw [(hf z).2]; exact h3, by rw [(hf z).2]; exact h4⟩
  | z :: t, a, b, k + 1, h => by
    obtain ⟨h1, h2, h3, h4⟩ := h
    rw [List.modify_succ_cons]
    exact ⟨h1, h2, h3, Runs.pow f hf h4⟩
theorem Runs.mod {xs : Array Keyed} {p : Array (Nat × Nat × Nat)} {a b k : Nat} (pw : Nat) (h : Runs xs a p.toList b) : Runs xs a (p.modify k fun x => (x.1, x.2.1, pw)).toList b := by
  rw [Array.toList_modify]
  exact Runs.pow (fun x => (x.1, x.2.1, pw)) (fun z => ⟨rfl, rfl⟩) h
structure Base (a₀ : Array Keyed) (st : SortSt) : Prop where
  perm : (arrOf st).Perm a₀
  kind : kindOf st = oneType'
  failed : failedOf st = none
section
variable {prog : Program} {w : World} {A : Around} {E : Value → Shared → Prop} {s : Shared} {a₀ : Array Keyed}
theorem wpS_mrg {st : SortSt} {i b : Nat} {Q : Bool → SortSt → Prop} (ik : IK a₀) (B : Base a₀ st) (R : Runs (arrOf st) 0 (pendingOf st).toList b) (hb : b ≤ a₀.size) (hi : i + 1 < (pendingOf st).size)
    (h : ∀ st', Base a₀ st' → Runs (arrOf st') 0 (pendingOf st').toList b → (pendingOf st').size + 1 = (pendingOf st).size → (∀ k, b ≤ k → (arrOf st')[k]? = (arrOf st)[k]?) → Q true st') :
    wpS (model prog w) A E s (mergeAt' i) Q st := by
  obtain ⟨U, ⟨sa, na, pw⟩, ⟨sb, nb, pw2⟩, D, e, l⟩ := split2 (P := (pendingOf st).toList) (i := i) (by simpa using hi)
  have sz := B.perm.size_eq
  rw [e] at R
  obtain ⟨m, r1, r2⟩ := Runs.app.mp R
  obtain ⟨z1, z2, z3, z4, z5, z6, z7⟩ := r2
  dsimp only at z1 z2 z3 z4 z5 z6 z7
  subst z1
  have le7 := z7.le
  have le1 := r1.le
  have e1 : (pendingOf st)[i]? = some (sa, na, pw) := by
    have : (pendingOf st)[i]? = (pendingOf st).toList[i]? := by simp
    rw [this, e, List.getElem?_append_right (by omega)]; simp [l]
  have e2 : (pendingOf st)[i + 1]? = some (sb, nb, pw2) := by
    have : (pendingOf st)[i + 1]? = (pendingOf st).toList[i + 1]? := by simp
    rw [this, e, List.getElem?_append_right (by omega)]; simp [l, show i + 1 - i = 1 by omega]
  subst z4
  refine wpS_mAt B.kind (ik.perm B.perm) B.failed e1 e2 rfl z2 z5 (by omega) z3 z6 fun st' k1 k2 k3 k4 k5 => ?_
  have pl : (pendingOf st').toList = U ++ (sa, na + nb, pw) :: D := by
    rw [k3, Array.toList_eraseIdxIfInBounds, Array.toList_setIfInBounds, e, ← l, List.set_append_right (h := Nat.le_refl _), List.eraseIdx_append_of_length_le (by omega)]
    simp [show U.length + 1 - U.length = 1 by omega]
  refine h st' ⟨k4.perm.trans B.perm, k1, k2⟩ ?_ ?_ fun k hk => k4.out k (.inr (by omega))
  · rw [pl]
    refine Runs.app.mpr ⟨sa, r1.congr fun k _ c => k4.out k (.inl c), rfl, by dsimp only; omega, ?_, ?_⟩
    · dsimp only
      rw [← Nat.add_assoc]
      exact k5
    · dsimp only
      rw [← Nat.add_assoc]
      exact z7.congr fun k c _ => k4.out k (.inr c)
  · have c1 : (pendingOf st').toList.length = (pendingOf st').size := by simp
    have c2 : (pendingOf st).toList.length = (pendingOf st).size := by simp
    rw [pl] at c1
    rw [e] at c2
    simp only [List.length_append, List.length_cons] at c1 c2
    omega
theorem wpS_sortAll {st : SortSt} {Q : Unit → SortSt → Prop} (ik : IK a₀) (B : Base a₀ st) (hp : pendingOf st = #[]) (h2 : 2 ≤ a₀.size)
    (h : ∀ st', (arrOf st').Perm a₀ → failedOf st' = none → SortedTo (arrOf st') a₀.size → Q () st') : wpS (model prog w) A E s sortRuns' Q st := by
  rw [sortRuns'_eq]
  refine wpS_bind (wpS_get ?_)
  dsimp only
  rw [B.perm.size_eq]
  generalize minRun' a₀.size a₀.size 0 = mr
  refine wpS_bind (wpS_mono (wpS_forRange
    (I := fun x c st' => ∃ lo, c = (none, lo) ∧ x ≤ lo ∧ lo ≤ a₀.size ∧ Base a₀ st' ∧ Runs (arrOf st') 0 (pendingOf st').toList lo)
    (Q := fun c st' => c = (none, a₀.size) ∧ Base a₀ st' ∧ Runs (arrOf st') 0 (pendingOf st').toList a₀.size) ?step ?fin ⟨0, rfl, Nat.le_refl _, Nat.zero_le _, B, by rw [hp]; exact rfl⟩) ?post)
  case fin =>
    rintro c st' ⟨lo, rfl, h1, h3, h4, h5⟩
    have : lo = a₀.size := by omega
    subst this
    exact ⟨rfl, h4, h5⟩
  case step =>
    rintro x c st' _ hx ⟨lo, rfl, h1, h3, h4, h5⟩
    dsimp only
    by_cases hl : lo ≥ a₀.size
    · rw [if_pos hl]
      have : lo = a₀.size := by omega
      subst this
      exact wpS_pure ⟨rfl, h4, h5⟩
    rw [if_neg hl]
    have sz := h4.perm.size_eq
    refine wpS_bind (wpS_run h4.kind (ik.perm h4.perm) (by omega) (by omega) fun m st2 m1 m2 mv sg => ?_)
    dsimp only
    have B2 : Base a₀ st2 := ⟨mv.perm.trans h4.perm, mv.kind.trans h4.kind, mv.failed.trans h4.failed⟩
    have R2 : Runs (arrOf st2) 0 (pendingOf st2).toList lo := by
      rw [mv.pend]; exact h5.congr fun k _ c => mv.low k c
    -- behind the run of n at lo
    have rest : ∀ (n : Nat) (st3 : SortSt), 1 ≤ n → lo + n ≤ a₀.size → Base a₀ st3 → Runs (arrOf st3) 0 (pendingOf st3).toList lo → Seg (arrOf st3) lo (lo + n) →
        wpS (model prog w) A E s (do
          modify fun s => setPending s ((pendingOf s).push (lo, n, 0))
          pure (ForInStep.yield ((none : Option Unit), lo + n)))
          (fun r st' => match r with
            | .done c' => c' = (none, a₀.size) ∧ Base a₀ st' ∧ Runs (arrOf st') 0 (pendingOf st').toList a₀.size
            | .yield c' => ∃ lo, c' = (none, lo) ∧ x + 1 ≤ lo ∧ lo ≤ a₀.size ∧ Base a₀ st' ∧ Runs (arrOf st') 0 (pendingOf st').toList lo) st3 := by
      intro n st3 n1 n2 B3 R3 S3
      refine wpS_bind (wpS_modify (wpS_pure ⟨lo + n, rfl, by omega, n2, ⟨B3.perm, B3.kind, B3.failed⟩, ?_⟩))
      show Runs (arrOf st3) 0 ((pendingOf st3).push (lo, n, 0)).toList (lo + n)
      rw [Array.toList_push]
      exact Runs.app.mpr ⟨lo, R3, rfl, n1, S3, rfl⟩
    have pack : ∃ (n : Nat) (st3 : SortSt), n = m ∧ st3 = st2 ∧ 1 ≤ n ∧ lo + n ≤ a₀.size ∧ Base a₀ st3 ∧ Runs (arrOf st3) 0 (pendingOf st3).toList lo ∧ Seg (arrOf st3) lo (lo + n) := ⟨m, st2, rfl, rfl, m1, by omega, B2, R2, sg⟩
    have sz2 := B2.perm.size_eq
    by_cases hm : m < mr
    case' pos =>
      rw [if_pos hm]
      refine wpS_bind (wpS_lift (wpAny_rule ⟨rfl, ?_⟩))
      refine wpS_bind (wpS_bin B2.kind (ik.perm B2.perm) (by omega) (by omega) sg fun st3 mv3 S3 => ?_)
      rw [if_neg (by simp)]
      have B3 : Base a₀ st3 := ⟨mv3.perm.trans B2.perm, mv3.kind.trans B2.kind, mv3.failed.trans B2.failed⟩
      have R3 : Runs (arrOf st3) 0 (pendingOf st3).toList lo := by
        rw [mv3.pend]; exact R2.congr fun k _ c => mv3.low k c
      have n1 : 1 ≤ min (a₀.size - lo) mr := by omega
      have n2 : lo + min (a₀.size - lo) mr ≤ a₀.size := by omega
      generalize min (a₀.size - lo) mr = n at n1 n2 S3 ⊢
    case' neg =>
      rw [if_neg hm]
      obtain ⟨n, st3, en, es, n1, n2, B3, R3, S3⟩ := pack
      rw [← en, ← es]
    all_goals
      refine wpS_bind (wpS_get ?_)
      cases hb : (pendingOf st3).back? with
      | none => exact rest n st3 n1 n2 B3 R3 S3
      | some z =>
        obtain ⟨s1, k1, p1⟩ := z
        dsimp only
        generalize power' a₀.size (2 * s1 + k1) (2 * s1 + k1 + k1 + n) a₀.size = pw
        refine wpS_bind (wpS_mono (wpS_forRange (I := fun _ c st' => c = (none, ()) ∧ Base a₀ st' ∧ Runs (arrOf st') 0 (pendingOf st').toList lo ∧ Seg (arrOf st') lo (lo + n))
          (Q := fun c st' => c = (none, ()) ∧ Base a₀ st' ∧ Runs (arrOf st') 0 (pendingOf st').toList lo ∧ Seg (arrOf st') lo (lo + n)) ?_ (fun _ _ hh => hh) ⟨rfl, B3, R3, S3⟩) ?_)
        · rintro y c st4 _ _ ⟨rfl, B4, R4, S4⟩
          refine wpS_bind (wpS_get ?_)
          by_cases hs : (pendingOf st4).size > 1
          · rw [if_pos hs]
            cases e : (pendingOf st4)[(pendingOf st4).size - 2]? with
            | none => exact wpS_pure ⟨rfl, B4, R4, S4⟩
            | some z =>
              obtain ⟨_, _, older⟩ := z
              dsimp only
              by_cases ho : older ≤ pw
              · rw [if_pos ho]
                exact wpS_pure ⟨rfl, B4, R4, S4⟩
              · rw [if_neg ho]
                refine wpS_bind (wpS_mrg ik B4 R4 h3 (by omega) fun st5 B5 R5 _ o5 => ?_)
                rw [if_neg (by simp)]
                exact wpS_pure ⟨rfl, B5, R5, S4.congr fun k c _ => o5 k c⟩
          · rw [if_neg hs]
            exact wpS_pure ⟨rfl, B4, R4, S4⟩
        · rintro c st4 ⟨rfl, B4, R4, S4⟩
          dsimp only
          refine wpS_bind (wpS_modify ?_)
          refine rest n _ n1 n2 ⟨B4.perm, B4.kind, B4.failed⟩ ?_ S4
          show Runs (arrOf st4) 0 ((pendingOf st4).modify ((pendingOf st4).size - 1) fun x => (x.1, x.2.1, pw)).toList lo
          exact Runs.mod _ R4
  case post =>
    rintro c st' ⟨rfl, B', R'⟩
    dsimp only
    refine wpS_bind (wpS_mono (wpS_forRange (I := fun x c st2 => c = (none, ()) ∧ Base a₀ st2 ∧ Runs (arrOf st2) 0 (pendingOf st2).toList a₀.size ∧ (pendingOf st2).size + x ≤ a₀.size)
      (Q := fun c st2 => c = (none, ()) ∧ Base a₀ st2 ∧ Runs (arrOf st2) 0 (pendingOf st2).toList a₀.size ∧ (pendingOf st2).size ≤ 1) ?_ ?_ ⟨rfl, B', R', by have := R'.le; simpa using this⟩) ?_)
    · rintro x c st2 _ hx ⟨rfl, B2, R2, L2⟩
      refine wpS_bind (wpS_get ?_)
      by_cases hs : (pendingOf st2).size ≤ 1
      · rw [if_pos hs]
        exact wpS_pure ⟨rfl, B2, R2, hs⟩
      · rw [if_neg hs]
        refine wpS_bind (wpS_mrg ik B2 R2 (Nat.le_refl _) ?_ fun st3 B3 R3 l3 _ => ?_)
        · repeat' split
          all_goals omega
        · rw [if_neg (by simp)]
          exact wpS_pure ⟨rfl, B3, R3, by omega⟩
    · rintro c st2 ⟨rfl, B2, R2, L2⟩
      exact ⟨rfl, B2, R2, by omega⟩
    · rintro c st2 ⟨rfl, B2, R2, L2⟩
      refine wpS_pure (h _ B2.perm B2.failed fun i j hij hj => ?_)
      have ll : (pendingOf st2).toList.length ≤ 1 := by simpa using L2
      match hP : (pendingOf st2).toList, R2, ll with
      | [], R2, _ => have e : 0 = a₀.size := R2; omega
      | [z], R2, _ =>
        obtain ⟨_, _, z3, z4⟩ := R2
        have e : 0 + z.2.1 = a₀.size := z4
        rw [e] at z3
        exact z3 i j (Nat.zero_le _) hij hj
      | _ :: _ :: _, _, ll => simp at ll
end
end Srt
end
section
set_option maxRecDepth 100000
set_option Elab.async false
set_option linter.all false
set_option maxHeartbeats 4000000
namespace Srt
open PySem PyProof.Rows
section
variable {prog : Program} {w : World} {A : Around} {E : Value → Shared → Prop} {s : Shared}
theorem ik_of {vs : List Value} {ns : List Int} (hI : IntsAre vs ns) : IK (pairsOf vs) := fun p hp => hI.intKeys p hp
/-- the inside of a list's sort, b: turned round -/
theorem srt_in {a : Addr} {e1 : Nat} {vs : List Value} {ns : List Int} {b : Bool} {P : Fin → Shared → Prop} (ho : s.heap.get? a = some (seqObj "list" #[] e1)) (hI : IntsAre vs ns) (hz : vs.length ≤ sizeLine)
    (fin : ∀ (out : Array Value) (ms : List Int), IntsAre out.toList ms → ms.Perm ns → Ordered b ms → P (.done (.ret .none)) { s with heap := s.heap.update a (Obj.mapSeq fun _ => out) }) :
    wpAny (model prog w) A (do
      let kd ← if vs.toArray.size < 2 then pure general' else keyKind' vs.toArray
      let ((), z) ← (if vs.toArray.size < 2 then pure () else sortRuns').run (SortSt.mk' kd (if b then (vs.toArray.zip vs.toArray).reverse else vs.toArray.zip vs.toArray) #[] 7 none)
      let out := (arrOf z).map (·.2)
      let moved := (← seqEpoch a) != e1
      Builtin.List.listUpdate (.ref a) fun _ => if b then out.reverse else out
      if let some e := failedOf z then rule "list.sort.comparison-raised"; throw e
      if moved then rule "list.sort.modified"; raiseError "ValueError" "list modified during sort"
      ret .none) P E s := by
  have start : (if b = true then (vs.toArray.zip vs.toArray).reverse else vs.toArray.zip vs.toArray).Perm (pairsOf vs) := by
    cases b
    · exact Array.Perm.refl _
    · rw [if_pos rfl, Array.perm_iff_toList_perm, Array.toList_reverse]
      exact List.reverse_perm _
  -- behind the runs
  have tail : ∀ z : SortSt, (arrOf z).Perm (pairsOf vs) → failedOf z = none → SortedTo (arrOf z) (pairsOf vs).size → wpAny (model prog w) A (do
      let moved := (← seqEpoch a) != e1
      Builtin.List.listUpdate (.ref a) fun _ => if b then ((arrOf z).map (·.2)).reverse else (arrOf z).map (·.2)
      if let some e := failedOf z then rule "list.sort.comparison-raised"; throw e
      if moved then rule "list.sort.modified"; raiseError "ValueError" "list modified during sort"
      ret .none) P E s := by
    intro z hp hf hs
    obtain ⟨ms, g1, g2, g3⟩ := sorted_out_rev hI hp hs b
    refine wpAny_bind (seqEpoch_at ho rfl ?_)
    dsimp only
    have len : (if b = true then ((arrOf z).map (·.2)).reverse else (arrOf z).map (·.2)).size = vs.length := by
      have e : ((arrOf z).map (·.2)).size = vs.length := (Array.size_map ..).trans (hp.size_eq.trans (pairsOf_size vs))
      cases b
      · exact e
      · rw [if_pos rfl, Array.size_reverse]; exact e
    refine wpAny_bind (listUpdate_at ho rfl ?_ (by simp) (by rw [len]; omega))
    rw [hf]
    simp only [bne_self_eq_false, Bool.false_eq_true, if_false]
    exact wpAny_pure (fin _ ms g1 g2 g3)
  by_cases h2 : vs.toArray.size < 2
  · rw [if_pos h2, if_pos h2]
    refine wpAny_bind (wpAny_pure (wpAny_bind (m := pure ((), SortSt.mk' general' (if b = true then (vs.toArray.zip vs.toArray).reverse else vs.toArray.zip vs.toArray) #[] 7 none)) (wpAny_pure ?_)))
    refine tail (SortSt.mk' general' _ #[] 7 none) start rfl fun i j hij hj => ?_
    rw [pairsOf_size] at hj
    have e : vs.toArray.size = vs.length := by simp
    rw [show i = j by omega]
    exact Int.le_refl _
  · rw [if_neg h2, if_neg h2]
    have kd : keyKind' vs.toArray = pure oneType' := by
      cases vs with
      | nil => simp at h2
      | cons x t =>
        cases t with
        | nil => simp at h2
        | cons y r => exact keyKind_ints hI
    rw [kd]
    refine wpAny_bind (wpAny_pure ?_)
    have run := wpS_sortAll (prog := prog) (w := w) (A := A) (E := E) (s := s) (a₀ := pairsOf vs) (st := SortSt.mk' oneType' (if b = true then (vs.toArray.zip vs.toArray).reverse else vs.toArray.zip vs.toArray) #[] 7 none)
      (Q := fun _ z => (arrOf z).Perm (pairsOf vs) ∧ failedOf z = none ∧ SortedTo (arrOf z) (pairsOf vs).size) (ik_of hI) ⟨start, rfl, rfl⟩ rfl (by rw [pairsOf_size]; simp at h2; omega) fun z c1 c2 c3 => ⟨c1, c2, c3⟩
    refine wpAny_bind (wpAny_mono run ?_ fun _ _ e => e)
    rintro ⟨⟨⟩, z⟩ s' ⟨rfl, c1, c2, c3⟩
    exact tail z c1 c2 c3
/-- the heap while a list is sorted -/
def midH (h : Heap) (a : Addr) (vs : List Value) : Heap := ((h.update a (Obj.mapSeq fun _ => #[])).push (seqObj "tuple" vs.toArray 0)).push (seqObj "list" #[] 0)
theorem midH_at {h : Heap} {a : Addr} {vs : List Value} {n : Nat} (ho : h.get? a = some (seqObj "list" vs.toArray n)) : ∃ e1, (h.update a (Obj.mapSeq fun _ => #[])).get? a = some (seqObj "list" #[] e1) ∧ (midH h a vs).get? a = some (seqObj "list" #[] e1) := by
  have ha := Heap.lt_size ho
  refine ⟨_, get?_update_seq ho (fun _ => #[]), ?_⟩
  unfold midH
  rw [Heap.get?_push_ne, Heap.get?_push_ne]
  · exact get?_update_seq ho (fun _ => #[])
  · rw [Heap.size_update]; exact Nat.ne_of_lt ha
  · rw [size_push', Heap.size_update]; exact Nat.ne_of_lt (Nat.lt_succ_of_lt ha)
theorem srt_list_rev {a : Addr} {vs : List Value} {ns : List Int} {n : Nat} {b : Bool} {P : Fin → Shared → Prop} (ho : s.heap.get? a = some (seqObj "list" vs.toArray n)) (hI : IntsAre vs ns) (hz : vs.length ≤ sizeLine)
    (fin : ∀ (out : Array Value) (ms : List Int), IntsAre out.toList ms → ms.Perm ns → Ordered b ms → P (.done (.ret .none)) { s with heap := sortedHeap s.heap a vs out }) :
    wpAny (model prog w) A (Builtin.«list.sort» ⟨[.ref a], [(Str.ofString "reverse", .bool b)]⟩) P E s := by
  obtain ⟨e1, o1, o2⟩ := midH_at ho
  rw [list_sort_rev]
  refine wpAny_bind (listItems_at ho rfl ?_)
  refine wpAny_bind (listUpdate_at ho rfl ?_ (by simpa using hz) (by simp))
  refine wpAny_bind (seqEpoch_at o1 rfl ?_)
  refine wpAny_bind (wpAny_newTuple ?_)
  refine wpAny_bind (wpAny_newList ?_)
  refine wpAny_holding ?_
  have z := srt_in (prog := prog) (w := w) (A := A) (E := E) (s := { s with heap := midH s.heap a vs }) (b := b) (P := P) o2 hI hz fin
  cases b
  · exact z
  · exact wpAny_bind (wpAny_rule z)
theorem srt_sorted_rev {l : Addr} {vs : List Value} {ns : List Int} {b : Bool} {Q : Value → Shared → Prop} (hl : s.heap.IsList l vs.toArray) (hI : IntsAre vs ns) (hz : vs.length ≤ sizeLine)
    (fin : ∀ (out : Array Value) (ms : List Int), IntsAre out.toList ms → ms.Perm ns → Ordered b ms → Q (.ref (s.heap.objs.size + 1)) { s with heap := sortedAll s.heap vs out }) :
    wpAny (model prog w) A (call (.builtin "sorted") [.ref l] [(Str.ofString "reverse", .bool b)]) Q E s := by
  refine call_function_entry_kw kind_sorted plain_sorted entry_sorted (args_sorted_rev _ _) ?_
  unfold Builtin.«sorted»
  refine wpAny_bind (m := checkCount "sorted" 1 1 _) (wpAny_pure ?_)
  refine wpAny_bind (collect_list hl ?_ hz)
  refine wpAny_bind (wpAny_newList ?_)
  generalize hh : (s.heap.push (seqObj "list" #[] 0)).update s.heap.objs.size (Obj.mapSeq (· ++ vs.toArray)) = h1
  have hs : h1.objs.size = s.heap.objs.size + 1 := by rw [← hh, Heap.size_update, size_push']
  have hL : (h1.push (seqObj "list" vs.toArray 0)).get? (s.heap.objs.size + 1) = some (seqObj "list" vs.toArray 0) := by
    rw [← hs]; exact Heap.get?_push_size _ rfl
  dsimp only
  rw [hs]
  refine wpAny_bind (wpAny_holding (wpAny_call_entry_kw slot_list_sort ⟨_, hL, rfl⟩ entry_list_sort (srt_list_rev hL hI hz fun out ms c1 c2 c3 => ⟨_, rfl, wpAny_pure ⟨_, rfl, ?_⟩⟩) (args_list_sort_rev _ _)))
  subst hh
  exact fin out ms c1 c2 c3
end
end Srt
end
section
set_option Elab.async false
set_option linter.all false
namespace L3
/-! ### sorted ints -/
def srt (ns : List Int) : List Int := ns.mergeSort fun a b => decide (a ≤ b)
theorem srt_perm (ns : List Int) : (srt ns).Perm ns := List.mergeSort_perm ns _
theorem srt_up (ns : List Int) : (srt ns).Pairwise (· ≤ ·) := by
  have h := List.pairwise_mergeSort (le := fun (a b : Int) => decide (a ≤ b)) (fun a b c h1 h2 => by simp at *; omega) (fun a b => by simp; omega) ns
  exact h.imp fun {a b} h => by simpa using h
theorem up_same : ∀ {l r : List Int}, l.Perm r → l.Pairwise (· ≤ ·) → r.Pairwise (· ≤ ·) → l = r
  | [], r, p, _, _ => (List.nil_perm.mp p).symm
  | a :: l, [], p, _, _ => by have := p.length_eq; simp at this
  | a :: l, b :: r, p, h1, h2 => by
    have e : a = b := by
      have m1 : a ∈ b :: r := p.mem_iff.mp List.mem_cons_self
      have m2 : b ∈ a :: l := p.mem_iff.mpr List.mem_cons_self
      have h1' := List.pairwise_cons.mp h1
      have h2' := List.pairwise_cons.mp h2
      rcases List.mem_cons.mp m1 with e | m1
      · exact e
      · rcases List.mem_cons.mp m2 with e | m2
        · exact e.symm
        · have := h2'.1 a m1
          have := h1'.1 b m2
          omega
    subst e
    rw [up_same (List.Perm.cons_inv p) (List.pairwise_cons.mp h1).2 (List.pairwise_cons.mp h2).2]
theorem srt_eq {ms ns : List Int} (p : ms.Perm ns) (u : ms.Pairwise (· ≤ ·)) : ms = srt ns := up_same (p.trans (srt_perm ns).symm) u (srt_up ns)
theorem srt_len (ns : List Int) : (srt ns).length = ns.length := (srt_perm ns).length_eq
theorem sum_perm {ms ns : List Int} (p : ms.Perm ns) : ms.sum = ns.sum := by
  induction p with
  | nil => rfl
  | cons x _ ih => simp [ih]
  | swap x y l => simp only [List.sum_cons]; omega
  | trans _ _ h1 h2 => exact h1.trans h2
/-! ### the sums of the greatest -/
/-- the sum of the k greatest -/
def top (k : Nat) (ns : List Int) : Int := ((srt ns).drop (ns.length - k)).sum
theorem sum_reverse (l : List Int) : l.reverse.sum = l.sum := sum_perm (List.reverse_perm l)
theorem top_rev {k : Nat} {ns : List Int} (h : k ≤ ns.length) : (((srt ns).reverse).take k).sum = top k ns := by
  unfold top
  rw [List.take_reverse, sum_reverse, srt_len]
/-! ### above a mark -/
def ab1 (m x : Int) : Int := if x > m then x - m else 0
theorem ab1_cases (m x : Int) : (m < x ∧ ab1 m x = x - m) ∨ (x ≤ m ∧ ab1 m x = 0) := by unfold ab1; split <;> omega
def abv (ns : List Int) (m : Int) : Int := (ns.map (ab1 m)).sum
theorem abv_perm {ms ns : List Int} (p : ms.Perm ns) (m : Int) : abv ms m = abv ns m := sum_perm (p.map _)
theorem abv_app (a b : List Int) (m : Int) : abv (a ++ b) m = abv a m + abv b m := by unfold abv; rw [List.map_append, List.sum_append]
theorem abv_nn (m : Int) : ∀ a : List Int, 0 ≤ abv a m
  | [] => Int.le_refl _
  | x :: t => by
    have := abv_nn m t
    unfold abv at *
    simp only [List.map_cons, List.sum_cons]
    rcases ab1_cases m x with ⟨c1, c2⟩ | ⟨c1, c2⟩ <;> omega
theorem abv_eq (m : Int) : ∀ a : List Int, (∀ x ∈ a, m ≤ x) → abv a m = a.sum - a.length * m
  | [], _ => by simp [abv]
  | x :: t, hx => by
    have h := abv_eq m t fun y hy => hx y (List.mem_cons_of_mem _ hy)
    have h1 := hx x List.mem_cons_self
    unfold abv at *
    simp only [List.map_cons, List.sum_cons, List.length_cons]
    have : ((t.length + 1 : Nat) : Int) * m = t.length * m + m := by rw [Int.natCast_add, Int.add_mul]; simp
    rw [this]
    rcases ab1_cases m x with ⟨c1, c2⟩ | ⟨c1, c2⟩ <;> omega
theorem abv_zero (m : Int) : ∀ a : List Int, (∀ x ∈ a, x ≤ m) → abv a m = 0
  | [], _ => rfl
  | x :: t, hx => by
    have h := abv_zero m t fun y hy => hx y (List.mem_cons_of_mem _ hy)
    have h1 := hx x List.mem_cons_self
    unfold abv at *
    simp only [List.map_cons, List.sum_cons]
    rcases ab1_cases m x with ⟨c1, c2⟩ | ⟨c1, c2⟩ <;> omega
/-! ### gifts -/
def give (row : List Int) (g t : Nat) (a : Int) : List Int :=
  let r := row.set g (row.getD g 0 - a)
  r.set t (r.getD t 0 + a)
abbrev G3 := Int × Int × Int
/-- what a gift asks -/
def okG (n : Nat) (g : G3) : Bool := decide (0 ≤ g.1 ∧ g.1 < n) && decide (0 ≤ g.2.1 ∧ g.2.1 < n) && decide (g.1 ≠ g.2.1) && decide (0 < g.2.2)
def stepG (row : List Int) (g : G3) : Option (List Int) :=
  if okG row.length g = true then
    let r := give row g.1.toNat g.2.1.toNat g.2.2
    if r.getD g.1.toNat 0 < r.getD g.2.1.toNat 0 then none else some r
  else none
def runG : List Int → List G3 → Option (List Int)
  | row, [] => some row
  | row, g :: gs => match stepG row g with
    | some r => runG r gs
    | none => none
/-- gifts lead from one row to the shares of another one -/
def Leads (one other : List Int) (gs : List G3) : Prop := gs.length < one.length ∧ one.length = other.length ∧ ∃ r, runG one gs = some r ∧ srt r = srt other
/-- so many greatest of the other are more, of one whole -/
def Tops (one other : List Int) (k : Int) : Prop := one.length = other.length ∧ one.sum = other.sum ∧ 1 ≤ k ∧ k ≤ one.length ∧ top k.toNat one < top k.toNat other
end L3
end
section
set_option Elab.async false
set_option linter.all false
namespace L3
/-! ### the gifts between two rows -/
/-- the frame: P the places by falling shares w, gl the falling goals -/
structure Fx (one : List Int) (P : List Nat) (w gl : List Int) : Prop where
  perm : P.Perm (List.range one.length)
  hw : ∀ j, j < P.length → w.getD j 0 = one.getD (P.getD j 0) 0
  wl : w.length = one.length
  gll : gl.length = one.length
  fall : ∀ i j, i ≤ j → j < gl.length → gl.getD j 0 ≤ gl.getD i 0
  maj : ∀ i, i ≤ gl.length → (gl.take i).sum ≤ (w.take i).sum
/-- within: i places have their goals, and what they can spare; the i-th lacks -/
structure Inn (one : List Int) (P : List Nat) (w gl : List Int) (i : Nat) (lack : Int) (sp : List Int) (gv : List Nat) (gs : List G3) (r : List Int) : Prop where
  hi : i < one.length
  run : runG one gs = some r
  spl : sp.length = one.length
  ahead : ∀ j, j < i → r.getD (P.getD j 0) 0 = gl.getD j 0 + sp.getD (P.getD j 0) 0 ∧ 0 ≤ sp.getD (P.getD j 0) 0
  here : r.getD (P.getD i 0) 0 = gl.getD i 0 - lack ∧ sp.getD (P.getD i 0) 0 = 0 ∧ 0 ≤ lack
  behind : ∀ j, i < j → j < one.length → r.getD (P.getD j 0) 0 = one.getD (P.getD j 0) 0 ∧ sp.getD (P.getD j 0) 0 = 0
  gvs : ∀ q, q ∈ gv → ∃ j, j < i ∧ P.getD j 0 = q ∧ 0 < sp.getD q 0
  gva : ∀ j, j < i → 0 < sp.getD (P.getD j 0) 0 → P.getD j 0 ∈ gv
  nd : gv.Nodup
  tot : sp.sum - lack = (w.take (i + 1)).sum - (gl.take (i + 1)).sum
  n1 : gs.length + gv.length ≤ i + 1
  n2 : 0 < lack → gs.length + gv.length ≤ i
  n3 : gv = [] → gs.length ≤ i
structure Mid (one : List Int) (P : List Nat) (w gl : List Int) (i : Nat) (sp : List Int) (gv : List Nat) (gs : List G3) (r : List Int) : Prop where
  run : runG one gs = some r
  spl : sp.length = one.length
  ahead : ∀ j, j < i → r.getD (P.getD j 0) 0 = gl.getD j 0 + sp.getD (P.getD j 0) 0 ∧ 0 ≤ sp.getD (P.getD j 0) 0
  behind : ∀ j, i ≤ j → j < one.length → r.getD (P.getD j 0) 0 = one.getD (P.getD j 0) 0 ∧ sp.getD (P.getD j 0) 0 = 0
  gvs : ∀ q, q ∈ gv → ∃ j, j < i ∧ P.getD j 0 = q ∧ 0 < sp.getD q 0
  gva : ∀ j, j < i → 0 < sp.getD (P.getD j 0) 0 → P.getD j 0 ∈ gv
  nd : gv.Nodup
  tot : sp.sum = (w.take i).sum - (gl.take i).sum
  n1 : gs.length + gv.length ≤ i
  n3 : gv = [] → gs.length ≤ i - 1
theorem sum_rep0 : ∀ n : Nat, (List.replicate n (0 : Int)).sum = 0
  | 0 => rfl
  | n + 1 => by rw [List.replicate_succ, List.sum_cons, sum_rep0 n]; rfl
variable {one : List Int} {P : List Nat} {w gl : List Int} {i : Nat} {sp : List Int} {gv : List Nat} {gs : List G3} {r : List Int}
end L3
end
section
set_option Elab.async false
set_option linter.all false
namespace L3
theorem srt_down (ns : List Int) : ((srt ns).reverse).Pairwise (· ≥ ·) := List.pairwise_reverse.mpr ((srt_up ns).imp fun h => h)
theorem srtr_perm (ns : List Int) : ((srt ns).reverse).Perm ns := (List.reverse_perm _).trans (srt_perm ns)
theorem srtr_len (ns : List Int) : ((srt ns).reverse).length = ns.length := (srtr_perm ns).length_eq
theorem fall_at {l : List Int} (h : l.Pairwise (· ≥ ·)) (i j : Nat) (hij : i ≤ j) (hj : j < l.length) : l.getD j 0 ≤ l.getD i 0 := by
  have hi : i < l.length := by omega
  rw [List.getD_eq_getElem?_getD, List.getD_eq_getElem?_getD, List.getElem?_eq_getElem hi, List.getElem?_eq_getElem hj]
  show l[j] ≤ l[i]
  by_cases e : i = j
  · subst e; exact Int.le_refl _
  · exact List.pairwise_iff_getElem.mp h i j hi hj (by omega)
/-- the sums of the first, the first two .. -/
def psum (l : List Int) : List Int := (List.range l.length).map fun k => (l.take (k + 1)).sum
/-- the sums of the greatest one, two .. -/
def tops (ns : List Int) : List Int := psum ((srt ns).reverse)
/-- of two rows of one whole: the least count that speaks against gifts, or none -/
def Agn (one other : List Int) (k : Int) : Prop := (1 ≤ k ∧ Tops one other k) ∨ (k = 0 ∧ ∀ k, k ≤ one.length → top k other ≤ top k one)
end L3
end
section
set_option Elab.async false
set_option linter.all false
namespace L3
/-! ### taken down to a level -/
def cutL (L : Int) : Int → List Int → List Int
  | _, [] => []
  | r, x :: t => if L ≤ x then (if 0 < r then (L - 1) :: cutL L (r - 1) t else L :: cutL L r t) else x :: cutL L r t
theorem abv_cons (x : Int) (t : List Int) (m : Int) : abv (x :: t) m = ab1 m x + abv t m := by unfold abv; simp
theorem abv_nil (m : Int) : abv [] m = 0 := rfl
theorem cnt_nn (L : Int) : ∀ row : List Int, abv row L ≤ abv row (L - 1)
  | [] => Int.le_refl _
  | x :: t => by
    have := cnt_nn L t
    rw [abv_cons, abv_cons]
    rcases ab1_cases L x with ⟨a, b⟩ | ⟨a, b⟩ <;> rcases ab1_cases (L - 1) x with ⟨c, d⟩ | ⟨c, d⟩ <;> omega
theorem abv_mono {row : List Int} {m n : Int} (h : m ≤ n) : abv row n ≤ abv row m := by
  induction row with
  | nil => exact Int.le_refl _
  | cons x t ih =>
    rw [abv_cons, abv_cons]
    rcases ab1_cases n x with ⟨a, b⟩ | ⟨a, b⟩ <;> rcases ab1_cases m x with ⟨c, d⟩ | ⟨c, d⟩ <;> omega
theorem cnt_ge {L x : Int} (t : List Int) (h : L ≤ x) : abv (x :: t) (L - 1) - abv (x :: t) L = 1 + (abv t (L - 1) - abv t L) := by
  rw [abv_cons, abv_cons]
  rcases ab1_cases L x with ⟨a, b⟩ | ⟨a, b⟩ <;> rcases ab1_cases (L - 1) x with ⟨c, d⟩ | ⟨c, d⟩ <;> omega
theorem cnt_lt {L x : Int} (t : List Int) (h : ¬ L ≤ x) : abv (x :: t) (L - 1) - abv (x :: t) L = abv t (L - 1) - abv t L := by
  rw [abv_cons, abv_cons]
  rcases ab1_cases L x with ⟨a, b⟩ | ⟨a, b⟩ <;> rcases ab1_cases (L - 1) x with ⟨c, d⟩ | ⟨c, d⟩ <;> omega
theorem ab1_ge {L x : Int} (h : L ≤ x) : ab1 L x = x - L := by rcases ab1_cases L x with ⟨a, b⟩ | ⟨a, b⟩ <;> omega
theorem ab1_lt {L x : Int} (h : x ≤ L) : ab1 L x = 0 := by rcases ab1_cases L x with ⟨a, b⟩ | ⟨a, b⟩ <;> omega
theorem cutL_len (L : Int) : ∀ (row : List Int) (r : Int), (cutL L r row).length = row.length
  | [], _ => rfl
  | x :: t, r => by
    unfold cutL
    split
    · split <;> simp [cutL_len L t]
    · simp [cutL_len L t]
theorem cutL_sum (L : Int) : ∀ (row : List Int) (r : Int), 0 ≤ r → r ≤ abv row (L - 1) - abv row L → (cutL L r row).sum = row.sum - abv row L - r
  | [], r, h1, h2 => by rw [abv_nil, abv_nil] at h2; rw [abv_nil]; show (0 : Int) = 0 - 0 - r; omega
  | x :: t, r, h1, h2 => by
    have cn := cnt_nn L t
    unfold cutL
    by_cases h : L ≤ x
    · rw [cnt_ge t h] at h2
      rw [if_pos h, abv_cons, ab1_ge h]
      split
      · have := cutL_sum L t (r - 1) (by omega) (by omega)
        simp only [List.sum_cons]; omega
      · have := cutL_sum L t r (by omega) (by omega)
        simp only [List.sum_cons]; omega
    · rw [cnt_lt t h] at h2
      rw [if_neg h, abv_cons, ab1_lt (by omega)]
      have := cutL_sum L t r h1 h2
      simp only [List.sum_cons]; omega
theorem cutL_le (L : Int) : ∀ (row : List Int) (r : Int), ∀ y ∈ cutL L r row, y ≤ L
  | [], _, y, h => nomatch h
  | x :: t, r, y, h => by
    unfold cutL at h
    split at h
    · split at h
      · rcases List.mem_cons.mp h with e | h
        · omega
        · exact cutL_le L t _ y h
      · rcases List.mem_cons.mp h with e | h
        · omega
        · exact cutL_le L t _ y h
    · rcases List.mem_cons.mp h with e | h
      · omega
      · exact cutL_le L t _ y h
theorem cutL_ge {B L : Int} (hL : B ≤ L - 1) : ∀ (row : List Int) (r : Int), (∀ x ∈ row, B ≤ x) → ∀ y ∈ cutL L r row, B ≤ y
  | [], _, _, y, h => nomatch h
  | x :: t, r, hb, y, h => by
    have hx := hb x List.mem_cons_self
    have ht := fun r' => cutL_ge hL t r' (fun z hz => hb z (List.mem_cons_of_mem _ hz)) y
    unfold cutL at h
    split at h
    · split at h
      · rcases List.mem_cons.mp h with e | h
        · omega
        · exact ht _ h
      · rcases List.mem_cons.mp h with e | h
        · omega
        · exact ht _ h
    · rcases List.mem_cons.mp h with e | h
      · omega
      · exact ht _ h
theorem cutL_has (L : Int) : ∀ (row : List Int) (r : Int), 0 ≤ r → r < abv row (L - 1) - abv row L → L ∈ cutL L r row
  | [], r, h1, h2 => by rw [abv_nil, abv_nil] at h2; omega
  | x :: t, r, h1, h2 => by
    unfold cutL
    by_cases h : L ≤ x
    · rw [cnt_ge t h] at h2
      rw [if_pos h]
      split
      · exact List.mem_cons_of_mem _ (cutL_has L t _ (by omega) (by omega))
      · exact List.mem_cons_self
    · rw [cnt_lt t h] at h2
      rw [if_neg h]
      exact List.mem_cons_of_mem _ (cutL_has L t _ h1 h2)
/-- how many of the first are at the level or above -/
def cn (L : Int) : List Int → Int
  | [] => 0
  | x :: t => (if L ≤ x then 1 else 0) + cn L t
theorem cn_nn (L : Int) : ∀ l : List Int, 0 ≤ cn L l
  | [] => Int.le_refl _
  | x :: t => by unfold cn; have := cn_nn L t; split <;> omega
theorem cn_snoc (L x : Int) : ∀ l : List Int, cn L (l ++ [x]) = cn L l + (if L ≤ x then 1 else 0)
  | [] => by simp [cn]
  | y :: t => by simp only [List.cons_append, cn]; rw [cn_snoc L x t]; omega
theorem cutL_at (L : Int) : ∀ (row : List Int) (r : Int) (i : Nat) (x : Int), row[i]? = some x → (cutL L r row)[i]? = some (if L ≤ x then (if cn L (row.take i) < r then L - 1 else L) else x)
  | [], r, i, x, h => by simp at h
  | y :: t, r, 0, x, h => by
    simp at h; subst h
    unfold cutL
    split
    · simp only [List.take_zero, cn]
      split <;> simp
    · simp
  | y :: t, r, i + 1, x, h => by
    have h' : t[i]? = some x := by simpa using h
    have c0 := cn_nn L (t.take i)
    rw [List.take_succ_cons]
    unfold cutL cn
    by_cases hy : L ≤ y
    · rw [if_pos hy, if_pos hy]
      split
      · rw [List.getElem?_cons_succ, cutL_at L t (r - 1) i x h']
        congr 1
        split
        · by_cases hc : cn L (t.take i) < r - 1
          · rw [if_pos hc, if_pos (by omega)]
          · rw [if_neg hc, if_neg (by omega)]
        · rfl
      · rw [List.getElem?_cons_succ, cutL_at L t r i x h']
        congr 1
        split
        · rw [if_neg (by omega), if_neg (by omega)]
        · rfl
    · rw [if_neg hy, if_neg hy, List.getElem?_cons_succ, cutL_at L t r i x h']
      congr 1
      split
      · by_cases hc : cn L (t.take i) < r
        · rw [if_pos hc, if_pos (by omega)]
        · rw [if_neg hc, if_neg (by omega)]
      · rfl
/-- what is left where so much was taken -/
def Low (row : List Int) (a : Int) (out : List Int) : Prop := ∃ L, abv row L ≤ a ∧ a < abv row (L - 1) ∧ out = cutL L (a - abv row L) row
theorem Low.len {row out : List Int} {a : Int} (h : Low row a out) : out.length = row.length := by obtain ⟨L, _, _, rfl⟩ := h; exact cutL_len _ _ _
theorem Low.sum {row out : List Int} {a : Int} (h : Low row a out) : out.sum = row.sum - a := by
  obtain ⟨L, h1, h2, rfl⟩ := h
  rw [cutL_sum L row _ (by omega) (by omega)]; omega
theorem Low.uniq {row o1 o2 : List Int} {a : Int} (h : Low row a o1) (h' : Low row a o2) : o1 = o2 := by
  obtain ⟨L, h1, h2, rfl⟩ := h
  obtain ⟨M, g1, g2, rfl⟩ := h'
  have e : L = M := by
    rcases Int.lt_trichotomy L M with z | z | z
    · have := abv_mono (row := row) (m := L) (n := M - 1) (by omega); omega
    · exact z
    · have := abv_mono (row := row) (m := M) (n := L - 1) (by omega); omega
  subst e; rfl
theorem cutL_hi {L r x : Int} (t : List Int) (h : L ≤ x) : cutL L r (x :: t) = (if 0 < r then (L - 1) :: cutL L (r - 1) t else L :: cutL L r t) := by conv => lhs; unfold cutL; rw [if_pos h]
theorem cutL_lo {L r x : Int} (t : List Int) (h : ¬ L ≤ x) : cutL L r (x :: t) = x :: cutL L r t := by conv => lhs; unfold cutL; rw [if_neg h]
theorem cut_cut_lt {L M : Int} (h : M ≤ L - 1) : ∀ (row : List Int) (r q : Int), cutL M q (cutL L r row) = cutL M q row
  | [], _, _ => rfl
  | x :: t, r, q => by
    have ih := cut_cut_lt h t
    by_cases hx : L ≤ x
    · have mx : M ≤ x := by omega
      rw [cutL_hi t hx, cutL_hi t mx]
      split
      · rw [cutL_hi _ (show M ≤ L - 1 by omega), ih, ih]
      · rw [cutL_hi _ (show M ≤ L by omega), ih, ih]
    · rw [cutL_lo t hx]
      by_cases mx : M ≤ x
      · rw [cutL_hi _ mx, cutL_hi _ mx, ih, ih]
      · rw [cutL_lo _ mx, cutL_lo _ mx, ih]
theorem cut_cut_eq {L : Int} : ∀ (row : List Int) (r q : Int), 0 ≤ r → 0 ≤ q → cutL L q (cutL L r row) = cutL L (r + q) row
  | [], _, _, _, _ => rfl
  | x :: t, r, q, hr, hq => by
    have ih := cut_cut_eq (L := L) t
    by_cases hx : L ≤ x
    · by_cases h0 : 0 < r
      · have e1 : cutL L r (x :: t) = (L - 1) :: cutL L (r - 1) t := by conv => lhs; unfold cutL; rw [if_pos hx, if_pos h0]
        have e2 : cutL L (r + q) (x :: t) = (L - 1) :: cutL L (r + q - 1) t := by conv => lhs; unfold cutL; rw [if_pos hx, if_pos (show 0 < r + q by omega)]
        have e3 : ∀ u, cutL L q ((L - 1) :: u) = (L - 1) :: cutL L q u := fun u => by conv => lhs; unfold cutL; rw [if_neg (show ¬ L ≤ L - 1 by omega)]
        rw [e1, e2, e3, ih _ _ (by omega) hq, show r - 1 + q = r + q - 1 by omega]
      · have r0 : r = 0 := by omega
        subst r0
        have e1 : cutL L 0 (x :: t) = L :: cutL L 0 t := by conv => lhs; unfold cutL; rw [if_pos hx, if_neg (show ¬ (0 : Int) < 0 by omega)]
        rw [e1]
        by_cases hq0 : 0 < q
        · have e2 : cutL L (0 + q) (x :: t) = (L - 1) :: cutL L (q - 1) t := by conv => lhs; unfold cutL; rw [if_pos hx, if_pos (show 0 < 0 + q by omega), show 0 + q - 1 = q - 1 by omega]
          have e3 : ∀ u, cutL L q (L :: u) = (L - 1) :: cutL L (q - 1) u := fun u => by conv => lhs; unfold cutL; rw [if_pos (Int.le_refl L), if_pos hq0]
          rw [e2, e3, ih _ _ (by omega) (by omega), show 0 + (q - 1) = q - 1 by omega]
        · have q0 : q = 0 := by omega
          subst q0
          have e3 : ∀ u, cutL L 0 (L :: u) = L :: cutL L 0 u := fun u => by conv => lhs; unfold cutL; rw [if_pos (Int.le_refl L), if_neg (show ¬ (0 : Int) < 0 by omega)]
          rw [e3, ih _ _ (by omega) (by omega)]
          exact e1.symm
    · have e : ∀ k u, cutL L k (x :: u) = x :: cutL L k u := fun k u => by conv => lhs; unfold cutL; rw [if_neg hx]
      rw [e, e, e, ih _ _ hr hq]
theorem abv_cut_lt {L M : Int} (h : M ≤ L - 1) : ∀ (row : List Int) (r : Int), abv (cutL L r row) M = abv row M - (row.sum - (cutL L r row).sum)
  | [], _ => by show (0 : Int) = 0 - (0 - 0); omega
  | x :: t, r => by
    unfold cutL
    split
    · split
      · have := abv_cut_lt h t (r - 1)
        rw [abv_cons, abv_cons, ab1_ge (show M ≤ L - 1 by omega), ab1_ge (show M ≤ x by omega)]
        simp only [List.sum_cons]; omega
      · have := abv_cut_lt h t r
        rw [abv_cons, abv_cons, ab1_ge (show M ≤ L by omega), ab1_ge (show M ≤ x by omega)]
        simp only [List.sum_cons]; omega
    · have := abv_cut_lt h t r
      rw [abv_cons, abv_cons]
      simp only [List.sum_cons]; omega
theorem abv_cut_eq {L : Int} : ∀ (row : List Int) (r : Int), 0 ≤ r → r ≤ abv row (L - 1) - abv row L → abv (cutL L r row) (L - 1) = abv row (L - 1) - abv row L - r
  | [], r, h1, h2 => by rw [abv_nil, abv_nil] at *; show abv [] (L - 1) = _; rw [abv_nil]; omega
  | x :: t, r, h1, h2 => by
    have cn := cnt_nn L t
    unfold cutL
    by_cases h : L ≤ x
    · rw [cnt_ge t h] at h2 ⊢
      rw [if_pos h]
      split
      · rw [abv_cons, ab1_lt (show L - 1 ≤ L - 1 by omega), abv_cut_eq t (r - 1) (by omega) (by omega)]; omega
      · rw [abv_cons, ab1_ge (show L - 1 ≤ L by omega), abv_cut_eq t r (by omega) (by omega)]; omega
    · rw [cnt_lt t h] at h2 ⊢
      rw [if_neg h, abv_cons, ab1_lt (by omega), abv_cut_eq t r h1 h2]; omega
/-- in two parts, or at once -/
theorem Low.comp {row o1 o2 : List Int} {p q : Int} (h : Low row p o1) (h' : Low o1 q o2) (hq : 0 ≤ q) : Low row (p + q) o2 := by
  have s1 := h.sum
  obtain ⟨L, h1, h2, rfl⟩ := h
  obtain ⟨M, g1, g2, rfl⟩ := h'
  have r0 : 0 ≤ p - abv row L := by omega
  rcases Int.lt_trichotomy M L with z | z | z
  · have e := abv_cut_lt (L := L) (M := M) (by omega) row (p - abv row L)
    have e' := abv_cut_lt (L := L) (M := M - 1) (by omega) row (p - abv row L)
    refine ⟨M, by omega, by omega, ?_⟩
    rw [cut_cut_lt (by omega)]
    congr 1; omega
  · subst z
    have z0 : abv (cutL M (p - abv row M) row) M = 0 := abv_zero M _ fun x hx => cutL_le _ _ _ x hx
    have e := abv_cut_eq (L := M) row (p - abv row M) r0 (by omega)
    refine ⟨M, by omega, by omega, ?_⟩
    rw [z0, cut_cut_eq _ _ _ r0 (by omega)]
    congr 1; omega
  · have z0 : abv (cutL L (p - abv row L) row) (M - 1) = 0 := abv_zero (M - 1) _ fun x hx => by have := cutL_le _ _ _ x hx; omega
    omega
theorem Low.zero {row : List Int} (hne : row ≠ []) {M : Int} (hM : M ∈ row) (ha : ∀ x ∈ row, x ≤ M) : Low row 0 row := by
  have z0 : abv row M = 0 := abv_zero M _ ha
  have cz : ∀ l : List Int, (∀ x ∈ l, x ≤ M) → cutL M 0 l = l := by
    intro l
    induction l with
    | nil => intro _; rfl
    | cons x t ih =>
      intro h
      have hx := h x List.mem_cons_self
      have it := ih fun y hy => h y (List.mem_cons_of_mem _ hy)
      unfold cutL
      split
      · rw [if_neg (show ¬ (0 : Int) < 0 by omega), it, show x = M by omega]
      · rw [it]
  refine ⟨M, by omega, ?_, ?_⟩
  · have : ∀ l : List Int, M ∈ l → 0 < abv l (M - 1) := by
      intro l
      induction l with
      | nil => intro h; cases h
      | cons x t ih =>
        intro h
        rw [abv_cons]
        have := abv_nn (M - 1) t
        rcases List.mem_cons.mp h with e | h
        · rw [← e, ab1_ge (show M - 1 ≤ M by omega)]; omega
        · have := ih h
          rcases ab1_cases (M - 1) x with ⟨a, b⟩ | ⟨a, b⟩ <;> omega
    exact this row hM
  · rw [z0, Int.sub_self, cz row ha]
/-- the first of the greatest, one less -/
def dec1 (M : Int) : List Int → List Int
  | [] => []
  | x :: t => if x = M then (M - 1) :: t else x :: dec1 M t
theorem dec1_cut {M : Int} : ∀ l : List Int, (∀ x ∈ l, x ≤ M) → dec1 M l = cutL M 1 l
  | [], _ => rfl
  | x :: t, h => by
    have hx := h x List.mem_cons_self
    have ht := fun y hy => h y (List.mem_cons_of_mem _ hy)
    have cz : ∀ l : List Int, (∀ x ∈ l, x ≤ M) → cutL M 0 l = l := by
      intro l
      induction l with
      | nil => intro _; rfl
      | cons x t ih =>
        intro h
        have hx := h x List.mem_cons_self
        have it := ih fun y hy => h y (List.mem_cons_of_mem _ hy)
        unfold cutL
        split
        · rw [if_neg (show ¬ (0 : Int) < 0 by omega), it, show x = M by omega]
        · rw [it]
    unfold dec1 cutL
    by_cases e : x = M
    · rw [if_pos e, if_pos (by omega), if_pos (by omega)]
      congr 1
      exact (cz t ht).symm
    · rw [if_neg e, if_neg (by omega), dec1_cut t ht]
theorem dec1_cut' {M : Int} : ∀ l : List Int, (∀ x ∈ l, x ≤ M) → abv l (M - 1) = 1 → dec1 M l = cutL (M - 1) 0 l
  | [], _, h1 => by rw [abv_nil] at h1; omega
  | x :: t, h, h1 => by
    have hx := h x List.mem_cons_self
    have ht := fun y hy => h y (List.mem_cons_of_mem _ hy)
    have nn := abv_nn (M - 1) t
    have cz : ∀ l : List Int, (∀ x ∈ l, x ≤ M) → abv l (M - 1) = 0 → cutL (M - 1) 0 l = l := by
      intro l
      induction l with
      | nil => intro _ _; rfl
      | cons x t ih =>
        intro h z
        have hx := h x List.mem_cons_self
        have nn := abv_nn (M - 1) t
        rw [abv_cons] at z
        have it := ih (fun y hy => h y (List.mem_cons_of_mem _ hy)) (by rcases ab1_cases (M - 1) x with ⟨a, b⟩ | ⟨a, b⟩ <;> omega)
        unfold cutL
        split
        · rw [if_neg (show ¬ (0 : Int) < 0 by omega), it, show x = M - 1 by rcases ab1_cases (M - 1) x with ⟨a, b⟩ | ⟨a, b⟩ <;> omega]
        · rw [it]
    rw [abv_cons] at h1
    unfold dec1 cutL
    by_cases e : x = M
    · rw [if_pos e, if_pos (by omega), if_neg (show ¬ (0 : Int) < 0 by omega)]
      rw [e, ab1_ge (show M - 1 ≤ M by omega)] at h1
      rw [cz t ht (by omega)]
    · have z : ab1 (M - 1) x = 0 := ab1_lt (by omega)
      rw [if_neg e, dec1_cut' t ht (by omega)]
      by_cases e2 : M - 1 ≤ x
      · rw [if_pos e2, if_neg (show ¬ (0 : Int) < 0 by omega), show x = M - 1 by omega]
      · rw [if_neg e2]
theorem Low.one {row : List Int} {M : Int} (hM : M ∈ row) (ha : ∀ x ∈ row, x ≤ M) : Low row 1 (dec1 M row) := by
  have z0 : abv row M = 0 := abv_zero M _ ha
  have p : ∀ l : List Int, M ∈ l → 1 ≤ abv l (M - 1) ∧ 1 ≤ abv l (M - 1 - 1) - abv l (M - 1) := by
    intro l
    induction l with
    | nil => intro h; cases h
    | cons x t ih =>
      intro h
      have := abv_nn (M - 1) t
      have c := cnt_nn (M - 1) t
      rcases List.mem_cons.mp h with e | h
      · rw [cnt_ge t (show M - 1 ≤ x by omega), abv_cons, ← e, ab1_ge (show M - 1 ≤ M by omega)]; omega
      · have := ih h
        by_cases hx : M - 1 ≤ x
        · rw [cnt_ge t hx, abv_cons, ab1_ge hx]; omega
        · rw [cnt_lt t hx, abv_cons, ab1_lt (by omega)]; omega
  have pm := p row hM
  by_cases c : abv row (M - 1) = 1
  · refine ⟨M - 1, by omega, by omega, ?_⟩
    rw [c, Int.sub_self]
    exact dec1_cut' row ha c
  · refine ⟨M, by omega, by omega, ?_⟩
    rw [z0, Int.sub_zero]
    exact dec1_cut row ha
/-- the level, as the program finds it: m of the greatest, t together -/
theorem level_ok {row : List Int} {m : Nat} {a : Int} (h1 : 1 ≤ m) (hm : m ≤ row.length) (hin : top m row - m * ((srt row).reverse.getD (m - 1) 0) ≤ a)
    (hout : m < row.length → a < top m row - m * ((srt row).reverse.getD m 0)) : abv row (-((a - top m row) / m)) ≤ a ∧ a < abv row (-((a - top m row) / m) - 1) := by
  generalize hw : (srt row).reverse = w at *
  have wl : w.length = row.length := by rw [← hw]; exact srtr_len row
  have wd : w.Pairwise (· ≥ ·) := by rw [← hw]; exact srt_down row
  have wp : w.Perm row := by rw [← hw]; exact srtr_perm row
  have tw : (w.take m).sum = top m row := by rw [← hw]; exact top_rev hm
  generalize ht : top m row = t at *
  have mp : (0 : Int) < (m : Int) := by omega
  generalize hL : -((a - t) / m) = L at *
  have d1 : (m : Int) * ((a - t) / m) ≤ a - t := by have := Int.mul_ediv_self_le (x := a - t) (k := (m : Int)) (by omega); exact this
  have d2 : a - t < (m : Int) * ((a - t) / m) + m := by
    have := Int.lt_mul_ediv_self_add (x := a - t) (k := (m : Int)) mp
    exact this
  have mL : (m : Int) * ((a - t) / m) = -((m : Int) * L) := by rw [← hL, Int.mul_neg]; omega
  rw [mL] at d1 d2
  have key : ∀ z : Int, t - m * z ≤ a → L ≤ z := fun z hz => by
    by_cases c : L ≤ z
    · exact c
    · exfalso
      have : (m : Int) * z ≤ m * (L - 1) := Int.mul_le_mul_of_nonneg_left (by omega) (by omega)
      rw [Int.mul_sub] at this
      omega
  have key2 : ∀ z : Int, a < t - m * z → z ≤ L - 1 := fun z hz => by
    by_cases c : z ≤ L - 1
    · exact c
    · exfalso
      have : (m : Int) * L ≤ m * z := Int.mul_le_mul_of_nonneg_left (by omega) (by omega)
      omega
  have hi : ∀ x ∈ w.take m, L ≤ x := fun x hx => by
    obtain ⟨k, hk, e⟩ := List.getElem_of_mem hx
    have hk' : k < m := by rw [List.length_take] at hk; omega
    have f := fall_at wd k (m - 1) (by omega) (by omega)
    have e2 : w.getD k 0 = x := by
      rw [List.getD_eq_getElem?_getD, List.getElem?_eq_getElem (by omega)]
      rw [List.getElem_take] at e
      exact e
    have := key _ hin
    omega
  have lo : ∀ x ∈ w.drop m, x ≤ L - 1 := fun x hx => by
    obtain ⟨k, hk, e⟩ := List.getElem_of_mem hx
    rw [List.length_drop] at hk
    have f := fall_at wd m (m + k) (by omega) (by omega)
    have e2 : w.getD (m + k) 0 = x := by
      rw [List.getD_eq_getElem?_getD, List.getElem?_eq_getElem (by omega)]
      rw [List.getElem_drop] at e
      exact e
    have := key2 _ (hout (by omega))
    omega
  have sp : ∀ z, z ≤ L → (∀ x ∈ w.drop m, x ≤ z) → abv row z = t - m * z := fun z hz hd => by
    rw [← abv_perm wp z, ← List.take_append_drop m w, abv_app, abv_zero z _ hd, abv_eq z _ fun x hx => Int.le_trans hz (hi x hx), tw, List.length_take]
    have : min m w.length = m := by omega
    rw [this]; omega
  have e1 := sp L (Int.le_refl _) fun x hx => by have := lo x hx; omega
  have e2 := sp (L - 1) (by omega) lo
  rw [Int.mul_sub] at e2
  omega
/-- how low -/
theorem Low.ge {row out : List Int} {a B d : Int} (h : Low row a out) (hne : row ≠ []) (hb : ∀ x ∈ row, B ≤ x) (hd : 0 ≤ d) (ha : a ≤ d * row.length) : ∀ y ∈ out, B - d - 1 ≤ y := by
  obtain ⟨L, h1, h2, rfl⟩ := h
  have hL : B - d ≤ L := by
    by_cases c : B - d ≤ L
    · exact c
    · exfalso
      have e := abv_eq L row fun x hx => by have := hb x hx; omega
      have s : row.length * B ≤ row.sum := by
        clear e h1 h2 ha hne
        induction row with
        | nil => simp
        | cons x t ih =>
          have := ih fun y hy => hb y (List.mem_cons_of_mem _ hy)
          have := hb x List.mem_cons_self
          simp only [List.sum_cons, List.length_cons]
          rw [Int.natCast_add, Int.add_mul]; simp; omega
      have np : (1 : Int) ≤ row.length := by cases row with | nil => exact absurd rfl hne | cons _ _ => simp only [List.length_cons]; omega
      have : (row.length : Int) * (d + 1) ≤ row.length * (B - L) := Int.mul_le_mul_of_nonneg_left (by omega) (by omega)
      rw [Int.mul_add, Int.mul_sub, Int.mul_comm (row.length : Int) d] at this
      omega
  exact cutL_ge (by omega) row _ fun x hx => by have := hb x hx; omega
end L3
end
section
set_option maxRecDepth 100000
set_option Elab.async false
set_option linter.all false
set_option maxHeartbeats 4000000
namespace L3
open PySem PySem.Spec PyProof.Rows L2
abbrev iV (ns : List Int) : List V := ns.map V.int
theorem iV_len (ns : List Int) : (iV ns).length = ns.length := List.length_map ..
section
variable {X : Cx}
/-- sorted(xs, reverse=b) -/
theorem pe_sortedR {e : Expr} {t : TA} {b : Bool} {j : Nat} {p p2 p3 pos : Pos} (hg : Gl X "sorted") (hm : X.mg "sorted" = none) (ha : PA X [e] t) (he : starEach [e] X.env = [(false, eval e X.env)] := by rfl) :
    PE X (.Call (.Name "sorted" p) [e] [⟨some "reverse", .Constant (.bool b) j p2, p3⟩] pos) (fun σ H Q => t σ H fun vs H1 => ∃ a ns, vs = [.ref a] ∧ SqL X.K H1 a (iV ns) ∧ ∀ l, H1 l = none → Q (.ref l) (upd H1 l (.lst (iV (if b then (srt ns).reverse else srt ns))))) := by
  intro pins s σ H Q I h
  refine wpAny_Call_Name_kw (ld_blt I hg hm boot_sorted ?_ (by decide) (by decide))
  refine callWith_kw (thn (ha pos pins s σ H _ I h) fun us s1 ⟨vs, H1, I1, r, q⟩ => ?_) (by rw [he]; rfl) (by rw [he]; rfl)
  have hk : PK X [⟨some "reverse", .Constant (.bool b) j p2, p3⟩] (tCons (tC (.bl b)) tNil) := pk_cons pe_bl pk_nil
  refine thn (hk pos pins s1 σ H1 (fun zs H2 => zs = [.bl b] ∧ ∃ a ns, vs = [.ref a] ∧ SqL X.K H2 a (iV ns) ∧ ∀ l, H2 l = none → Q (.ref l) (upd H2 l (.lst (iV (if b then (srt ns).reverse else srt ns))))) I1 ⟨rfl, q⟩) fun ws s2 ⟨zs, H2, I2, rz, e2, q2⟩ => ?_
  subst e2
  obtain ⟨w', rfl, rw'⟩ := vals1 rz
  cases rw'
  obtain ⟨a, ns, rfl, hx, q3⟩ := q2
  obtain ⟨u, rfl, rx⟩ := vals1 r
  cases rx
  obtain ⟨its, r', pl, hz⟩ := I2.list hx
  have hI : IntsAre its ns := intsAre_of r'
  have hlen := r'.length
  show wpAny _ _ (call (.builtin "sorted") [.ref a] [(Str.ofString "reverse", .bool b)]) _ _ _
  refine Srt.srt_sorted_rev pl.isList hI (by omega) fun out ms c1 c2 c3 => ?_
  have em : ms = if b then (srt ns).reverse else srt ns := by
    cases b
    · exact srt_eq c2 c3
    · have c3' : ms.Pairwise (· ≥ ·) := c3
      have := srt_eq (ms := ms.reverse) ((List.reverse_perm ms).trans c2) (List.pairwise_reverse.mpr c3')
      rw [if_pos rfl, ← this, List.reverse_reverse]
  subst em
  obtain ⟨n, ho⟩ := sortedAll_at s2.heap its out
  have hf : H2 (s2.heap.objs.size + 1) = none := I2.hok.fresh (Nat.le_succ _)
  refine ⟨.ref (s2.heap.objs.size + 1), _, I2.laid (t' := s2.toks) (o := .lst (iV (if b then (srt ns).reverse else srt ns))) (fun b o e => sortedAll_old e) (Nat.le_succ _) ⟨?_, out.toList, n, vals_ints c1, by simpa using ho⟩, rfl, q3 _ hf⟩
  have : (if b = true then (srt ns).reverse else srt ns).length = ns.length := by cases b <;> simp [srt_len]
  rw [iV_len, this, ← iV_len]; exact hz
/-! ### sum, max, min -/
theorem call_sum (hc : X.calm = true) : CallR X (.builtin "sum") (fun xs H Q => ∃ p ns, xs = [.ref p] ∧ SqL X.K H p (iV ns) ∧ Q (.int ns.sum) H) := by
  intro pins s σ H xs us Q I r h
  obtain ⟨p, ns, rfl, hx, q⟩ := h
  obtain ⟨u, rfl, rx⟩ := vals1 r
  cases rx
  obtain ⟨its, r', pl, hz⟩ := I.list hx
  have hI : IntsAre its ns := intsAre_of r'
  obtain ⟨zs, hzs⟩ := hI.allInts.items
  refine sum_intListG (I.ok.hd hc) (hzs ▸ pl.isList) fun h' tk t' hk => ?_
  have e1 : ns = zs.toList.map (·.1) := by
    rw [← nums_intItems, ← hzs]
    exact (show numsOf its.toArray.toList = ns from hI.numsOf).symm
  have e2 : preSum (numAt zs) zs.size = ns.sum := by rw [preSum_eq, List.take_of_length_le (by simp), e1]
  exact ⟨.int ns.sum, H, I.kept hk, ⟨t', by rw [e2]⟩, q⟩
theorem all_kept {pins : List (Addr × Obj)} {σ : L2.St} {H : Hp} {s : Shared} (I : Inv X pins σ H s) : ∃ m, Fr X.base X.env.locals s.heap m ∧ News X.base X.env.locals s.heap (allNews X.base s.heap X.env.locals) :=
  let ⟨m, F⟩ := I.fr
  ⟨m, F, news_all⟩
/-- behind a rule over the ledger of all that is new -/
theorem Inv.newsed {pins : List (Addr × Obj)} {σ : L2.St} {H : Hp} {s : Shared} {h' : Heap} {tk : Nat} (I : Inv X pins σ H s) {m : Str → Option Value} (F0 : Fr X.base X.env.locals s.heap m) (F : Fr X.base X.env.locals h' m) (N : News X.base X.env.locals h' (allNews X.base s.heap X.env.locals)) :
    Inv X pins σ H { s with heap := h', toks := tk } := by
  have kept : ∀ b o, b ≠ X.env.locals → s.heap.get? b = some o → h'.get? b = some o := fun b o hb e => by
    cases q : X.base.get? b with
    | some u =>
      have := I.bk b u q
      rw [e] at this; cases this
      exact F.keep b _ q
    | none => exact (N (b, o) (mem_allNews hb q e)).1
  have nl : ∀ b u, H b = some u → b ≠ X.env.locals := fun b u e z => by
    have n := I.free
    rw [← z, e] at n; cases n
  refine I.step (g' := s.gens) (d' := s.drawn) (ch := []) (fun _ z => nomatch z) (fun b o hb _ _ e _ => kept b o hb e) (fun b o hb _ _ e _ => ⟨o.slots, kept b o hb e⟩) (fun _ _ _ _ n => n) (fun b o _ e => ?_) (fun _ _ e => e) (fun _ _ _ e => e) (fun b ps e => ⟨#[], by rw [e]; simp⟩) (fun m' hm => ?_) (fun b u e => ?_) I.bare
  · by_cases hb : b = X.env.locals
    · obtain ⟨o', _, _, ho', _⟩ := F.ns
      exact ⟨o', by rw [hb]; exact ho'⟩
    · exact ⟨o, kept b o hb e⟩
  · rw [hm.eq_nsMap, ← F0.ns.eq_nsMap]; exact F.ns
  · refine (I.hok b u e).stay (fun c v hc q => kept c v ?_ q) (fun _ q => q) fun _ _ q => q
    rcases hc with z | z
    · rw [z]; exact nl b u e
    · exact nl c _ z
end
end L3
end
section
set_option maxRecDepth 100000
set_option Elab.async false
set_option linter.all false
set_option maxHeartbeats 4000000
namespace L3
open PySem PySem.Spec PyProof.Rows L2
/-! ### a comprehension's names from around -/
def clG (cells : List (Str × Addr)) : List (Str × NameKind) → List (Str × Addr) → List (Str × Addr)
  | [], acc => acc
  | (n, k) :: r, acc => if k == .free then (match cells.lookup n with
    | some a => clG cells r ((n, a) :: acc)
    | none => clG cells r acc) else clG cells r acc
theorem lookup_cons' {α : Type} {n x : Str} {a : α} {l : List (Str × α)} : ((n, a) :: l).lookup x = if x = n then some a else l.lookup x := by
  rw [List.lookup_cons]
  by_cases h : x = n
  · subst h; simp
  · rw [if_neg h]
    have : (x == n) = false := by simpa using h
    rw [this]
theorem clG_from {cells : List (Str × Addr)} {x : Str} {c : Addr} : ∀ {l : List (Str × NameKind)} {acc : List (Str × Addr)}, (∀ c, acc.lookup x = some c → cells.lookup x = some c) → (clG cells l acc).lookup x = some c → cells.lookup x = some c
  | [], acc, h, e => h c e
  | (n, k) :: r, acc, h, e => by
    unfold clG at e
    split at e
    · split at e
      · rename_i a ha
        refine clG_from (l := r) (acc := (n, a) :: acc) (fun c' z => ?_) e
        rw [lookup_cons'] at z
        split at z
        · rename_i hx
          rw [hx, ha]; exact z
        · exact h c' z
      · exact clG_from (l := r) h e
    · exact clG_from (l := r) h e
theorem clG_has {cells : List (Str × Addr)} {x : Str} {a : Addr} (hx : cells.lookup x = some a) : ∀ {l : List (Str × NameKind)} {acc : List (Str × Addr)}, ((x, NameKind.free) ∈ l ∨ ∃ c, acc.lookup x = some c) → ∃ c, (clG cells l acc).lookup x = some c
  | [], acc, h => by
    rcases h with h | h
    · cases h
    · exact h
  | (n, k) :: r, acc, h => by
    unfold clG
    split
    · rename_i hk
      split
      · rename_i a' ha
        refine clG_has hx (l := r) ?_
        by_cases e : x = n
        · exact .inr ⟨a', by rw [lookup_cons', if_pos e]⟩
        · rcases h with h | ⟨c, h⟩
          · rcases List.mem_cons.mp h with z | z
            · cases z; exact absurd rfl e
            · exact .inl z
          · exact .inr ⟨c, by rw [lookup_cons', if_neg e]; exact h⟩
      · rename_i ha
        refine clG_has hx (l := r) ?_
        rcases h with h | h
        · rcases List.mem_cons.mp h with z | z
          · cases z; rw [hx] at ha; cases ha
          · exact .inl z
        · exact .inr h
    · rename_i hk
      refine clG_has hx (l := r) ?_
      rcases h with h | h
      · rcases List.mem_cons.mp h with z | z
        · cases z; exact absurd rfl hk
        · exact .inl z
      · exact .inr h
theorem closure_of {scope : Scope} {env : Env} (h : ∀ n, (n, NameKind.free) ∈ scope.names → ∃ a, env.cells.lookup n = some a) : closureFor scope env = pure (clG env.cells scope.names []) := by
  have all : ∀ (l : List (Str × NameKind)) (cs : List (Str × Addr)), (∀ n, (n, NameKind.free) ∈ l → ∃ a, env.cells.lookup n = some a) →
      (forIn l cs fun x r => (if (x.2 == NameKind.free) = true then do let a ← cellOf env x.1; pure (ForInStep.yield ((x.1, a) :: r)) else pure (ForInStep.yield r) : Sem (ForInStep (List (Str × Addr))))) = pure (clG env.cells l cs) := by
    intro l
    induction l with
    | nil => intro cs _; rfl
    | cons x r ih =>
      intro cs hl
      obtain ⟨n, k⟩ := x
      rw [List.forIn_cons]
      have ih' := fun cs => ih cs fun n' hn => hl n' (List.mem_cons_of_mem _ hn)
      unfold clG
      by_cases hk : (k == NameKind.free) = true
      · have ek : k = NameKind.free := by simpa using hk
        obtain ⟨a, ha⟩ := hl n (by rw [ek]; exact List.mem_cons_self)
        have e : cellOf env n = pure a := by unfold cellOf; rw [ha]
        simp only [hk, if_true, ha, e]
        exact ih' _
      · simp only [hk]
        exact ih' _
  have e := all scope.names [] h
  have e2 : closureFor scope env = ((forIn scope.names [] fun x r => (if (x.2 == NameKind.free) = true then do let a ← cellOf env x.1; pure (ForInStep.yield ((x.1, a) :: r)) else pure (ForInStep.yield r) : Sem (ForInStep (List (Str × Addr))))) >>= fun z => pure z) := rfl
  rw [e2, e]
  rfl
def PTs (X : Cx) (ifs : List Expr) (t : TT) : Prop :=
  ∀ (pins : List (Addr × Obj)) (s : Shared) (σ : L2.St) (H : Hp) (Q : Bool → Hp → Prop), Inv X pins σ H s → t σ H Q →
    wpAny (model X.prog X.w) X.A (forIn ifs true fun c r => if r = true then do let ok ← isTrue c X.env (eval c X.env); pure (ForInStep.yield ok) else pure (ForInStep.yield r)) (TP X pins σ Q) X.xe s
theorem pts_nil {X : Cx} : PTs X [] (fun _ H Q => Q true H) := fun _ _ _ H _ I h => wpAny_tests_nil ⟨H, I, h⟩
theorem pts_one {X : Cx} {c : Expr} {t : TT} (h : PT X c t) : PTs X [c] t := fun pins s σ H Q I q => wpAny_tests_one (h pins s σ H Q I q)
/-- the context of a comprehension's block -/
def cxC (X : Cx) (scope : Scope) (C : Addr) (fp : List Addr) (s2 : Shared) (H2 : Hp) (pins : List (Addr × Obj)) (N : List Str) : Cx :=
  { X with N := N, s₀ := s2, H₀ := H2, env := compEnvC scope (clG X.env.cells scope.names []) C X.env, outer := X.stack, ex := fp, fn := fun _ => false, pn := X.pn ++ pins, xe := fun _ _ => False }
/-- its names: x, then those from around (idx: their slots there) -/
structure CompSc (X : Cx) (scope : Scope) (x : Str) (caps : List Str) (idx : List Nat) : Prop where
  kind : scope.kind = .function
  cell : ∀ y ∈ scope.names, y.2 ≠ .cell
  names : ∀ y ∈ scope.names, y.2 = .local → scope.names.lookup y.1 = some .local
  lx : scope.names.lookup x = some .local
  fr : ∀ y ∈ scope.names, y.2 = .free → scope.names.lookup y.1 = some .free
  free : ∀ y ∈ scope.names, y.2 = .free → X.env.kindOf y.1 = some .cell ∨ X.env.kindOf y.1 = some .free
  nd : (x :: caps).Nodup
  len : idx.length = caps.length
  cap : ∀ (k : Nat) (i : Nat) (y : Str), idx[k]? = some i → caps[k]? = some y → X.N[i]? = some y
  out : ∀ y ∈ caps, (y, NameKind.free) ∈ scope.names
def capV (idx : List Nat) (σ : L2.St) : L2.St := idx.map fun i => (σ[i]?).getD none
def tComp (wi : TI) (idx : List Nat) (ti : TT) (te : TE) : TE := fun σ H Q => wi σ H fun J H1 => ∀ D, H1 D = none →
  ∃ W : Nat → Nat → List V → Hp → Prop, (∃ m, W 0 m [] (upd H1 D (.lst []))) ∧ ∀ i m ys H2, W i m ys H2 →
    (J.stop i H2 ∧ Q (.ref D) H2) ∨ (J.go i H2 ∧ ∀ x H3, J.yld i H2 x H3 → ti (some x :: capV idx σ) H3 fun b H4 =>
      if b = true then te (some x :: capV idx σ) H4 fun y H5 => H5 D = some (.lst ys) ∧ ys.length < sizeLine ∧ ∃ m', m' < m ∧ W (i + 1) m' (ys ++ [y]) (upd H5 D (.lst (ys ++ [y])))
      else ∃ m', m' < m ∧ W (i + 1) m' ys H4)
theorem relabel_lookup {env : Env} : ∀ {names : List (Str × NameKind)} {x : Str} {k : NameKind}, (names.map fun (n, k) => if (k == NameKind.free && env.scope.kind == .function && env.kindOf n == some .cell) then (n, NameKind.cell) else (n, k)).lookup x = some k →
    (k = .cell ∨ k = .free) → (∀ y ∈ names, y.2 ≠ .cell) → (x, NameKind.free) ∈ names
  | [], _, _, h, _, _ => by simp at h
  | (n, k0) :: r, x, k, h, hk, hc => by
    rw [List.map_cons] at h
    dsimp only at h
    have ih := fun h' => relabel_lookup (env := env) (names := r) (x := x) (k := k) h' hk fun y hy => hc y (List.mem_cons_of_mem _ hy)
    by_cases hcond : (k0 == NameKind.free && env.scope.kind == .function && env.kindOf n == some .cell) = true
    · rw [if_pos hcond, lookup_cons'] at h
      by_cases e : x = n
      · subst e
        have : k0 = NameKind.free := by
          simp only [Bool.and_eq_true] at hcond
          simpa using hcond.1.1
        rw [this]; exact List.mem_cons_self
      · rw [if_neg e] at h
        exact List.mem_cons_of_mem _ (ih h)
    · rw [if_neg hcond, lookup_cons'] at h
      by_cases e : x = n
      · subst e
        rw [if_pos rfl] at h
        have e2 : k0 = k := Option.some.inj h
        rcases hk with z | z
        · exact absurd (e2.trans z) (hc _ List.mem_cons_self)
        · rw [e2, z]; exact List.mem_cons_self
      · rw [if_neg e] at h
        exact List.mem_cons_of_mem _ (ih h)
theorem relabel_free {env : Env} : ∀ {names : List (Str × NameKind)} {x : Str}, names.lookup x = some .free →
    (names.map fun (n, k) => if (k == NameKind.free && env.scope.kind == .function && env.kindOf n == some .cell) then (n, NameKind.cell) else (n, k)).lookup x ≠ some .local
  | [], _, h => by simp at h
  | (n, k0) :: r, x, h => by
    rw [lookup_cons'] at h
    rw [List.map_cons]
    dsimp only
    by_cases e : x = n
    · rw [if_pos e] at h
      have e2 : k0 = NameKind.free := Option.some.inj h
      subst e2
      split
      · rw [lookup_cons', if_pos e]; intro z; cases z
      · rw [lookup_cons', if_pos e]; intro z; cases z
    · rw [if_neg e] at h
      have ih := relabel_free (env := env) h
      split
      · rw [lookup_cons', if_neg e]; exact ih
      · rw [lookup_cons', if_neg e]; exact ih
section
variable {X : Cx} {elt iter : Expr} {x : Str} {px pos : Pos} {ifs : List Expr} {scope : Scope} {wi : TI} {ti : TT} {te : TE} {caps : List Str} {idx : List Nat}
theorem cxC_ok {pins : List (Addr × Obj)} {σ : L2.St} {H2 : Hp} {s2 : Shared} {C : Addr} {fp : List Addr} (S : CompSc X scope x caps idx) (I : Inv X pins σ H2 s2) (hC : s2.heap.objs.size ≤ C) (hf : ∀ b ∈ fp, FpOk X pins H2 b) (hfl : ∀ b ∈ fp, b < s2.heap.objs.size) :
    (cxC X scope C fp s2 H2 pins (x :: caps)).Ok := by
  have from' : ∀ {y : Str} {c : Addr}, (clG X.env.cells scope.names []).lookup y = some c → X.env.cells.lookup y = some c := fun e => clG_from (fun _ z => by simp at z) e
  have clt : ∀ {y : Str} {c : Addr}, X.env.cells.lookup y = some c → c < s2.heap.objs.size := fun e => by
    obtain ⟨v, q⟩ := I.cell _ _ e
    exact q.lt
  refine ⟨I.ok.mod, S.kind, I.ok.glob, I.ok.blt, hC, fun y z c e1 e2 => I.ok.inj y z c (from' e1) (from' e2), fun y hy => ?_, (fun y c z => by cases z), I.ok.hd, I.ok.frames, .inl rfl, fun b hb => ?_, I.bs, ?_, fun b o e hb => ?_, fun b hb hb2 => ?_, I.stack, I.stkFree⟩
  · have m : (y, NameKind.free) ∈ scope.names := by
      rcases hy with e | e
      · exact relabel_lookup (env := X.env) e (.inl rfl) S.cell
      · exact relabel_lookup (env := X.env) e (.inr rfl) S.cell
    obtain ⟨a, ha⟩ := I.ok.has y (S.free _ m rfl)
    exact clG_has ha (.inl m)
  · obtain ⟨_, f1, f2, f3, f4, f5⟩ := hf b hb
    exact ⟨Nat.ne_of_lt (Nat.lt_of_lt_of_le (hfl b hb) hC), fun y c e => f4 y c (from' e)⟩
  · exact Nat.le_trans I.ok.bsz I.sz
  · obtain ⟨_, f1, f2, f3, f4, f5⟩ := hf b hb
    rcases f3 with z | z
    · exact I.ok.noex b o e z
    · exact absurd (Nat.lt_of_lt_of_le (Heap.lt_size (I.ok.bs b o e).1) z) (Nat.lt_irrefl _)
  · obtain ⟨_, f1, f2, f3, f4, f5⟩ := hf b hb
    rcases List.mem_cons.mp (I.stkSub b hb2) with z | z
    · exact f1 z
    · exact f2 z
end
end L3
end
section
set_option maxRecDepth 100000
set_option Elab.async false
set_option linter.all false
set_option maxHeartbeats 4000000
namespace L3
open PySem PySem.Spec PyProof.Rows L2
section
variable {X : Cx} {elt iter : Expr} {x : Str} {px pos : Pos} {ifs : List Expr} {scope : Scope} {wi : TI} {ti : TT} {te : TE} {caps : List Str} {idx : List Nat}
/-- a comprehension, whatever becomes of its list -/
theorem comp_core {use : Option (Value → Sem Unit)} {Qf : Value → Shared → Prop} {pins : List (Addr × Obj)} {σ : L2.St} {H : Hp} {s : Shared} {Q : VK} {cpos : Pos} (hxe : X.xe = fun _ _ => False) (hc : X.calm = true) (S : CompSc X scope x caps idx) (hi : PI X (.Name x px) iter wi)
    (ht : ∀ C fp s2 H2 pins, PTs (cxC X scope C fp s2 H2 pins (x :: caps)) ifs ti) (he : ∀ C fp s2 H2 pins, PE (cxC X scope C fp s2 H2 pins (x :: caps)) elt te) (I : L2.Inv X pins σ H s) (h : tComp wi idx ti te σ H Q)
    (post : ∀ (C D : Addr) (fp : List Addr) (s2 s' : Shared) (H2 H' : Hp) (σ' : L2.St), L2.Inv X pins σ H2 s2 → s2.heap.objs.size ≤ C → (∀ b ∈ fp, FpOk X pins H2 b) → L2.Inv (cxC X scope C fp s2 H2 pins (x :: caps)) [] σ' H' s' → Q (.ref D) H' → compPost (model X.prog X.w) X.A X.xe use Qf (.ref D) C (.ok .next) s')
    (hs : ∀ x, foldedSetIterable iter X.env x = pure x := by intro _; rfl) : wpAny (model X.prog X.w) X.A (comprehension (.ListComp elt [⟨.Name x px, iter, ifs, 0⟩] scope pos) scope X.env cpos (newList []) false (eval iter X.env) use) Qf X.xe s := by
  refine wpAny_comprehension_free (use := use) rfl hs (closure_of fun n hn => I.ok.has n (S.free _ hn rfl)) S.kind S.names (thn (hi pins s σ H _ I h) fun v s1 h1 => thn h1 fun itv s2 h2 => ?_)
  obtain ⟨it, fp, tn, J, H2, rfl, I2, T, st2, f2, h⟩ := h2
  refine wpAny_newObj_type (wpAny_newFunctionEnv S.cell (by intro y hy; simp at hy) (fun h₁ hns₁ hsb₁ => ?_) S.kind)
  dsimp only at hns₁ hsb₁ ⊢
  generalize hP : s2.heap.push { cls := .type "list", dict := none, data := .seq ([] : List Value).toArray } = P at hns₁ hsb₁ ⊢
  have hC : P.objs.size = s2.heap.objs.size + 1 := by rw [← hP, Heap.size_push]
  have hDC : s2.heap.objs.size ≠ P.objs.size := by rw [hC]; exact Nat.ne_of_lt (Nat.lt_succ_self _)
  have hCle : s2.heap.objs.size ≤ P.objs.size := by rw [hC]; exact Nat.le_succ _
  have ltC : ∀ {b : Addr}, b < s2.heap.objs.size → b ≠ P.objs.size := fun hb => Nat.ne_of_lt (Nat.lt_of_lt_of_le hb hCle)
  have old : ∀ b o, s2.heap.get? b = some o → h₁.get? b = some o := fun b o e => hsb₁.extBut b o (ltC (Heap.lt_size e)) (Heap.get?_push_of_some _ (hP ▸ Heap.get?_push_of_some _ e))
  have accAt : h₁.get? s2.heap.objs.size = some { cls := .type "list", data := .seq ([] : List Value).toArray } := hsb₁.extBut _ _ hDC (Heap.get?_push_of_some _ (hP ▸ Heap.get?_push_size _ rfl))
  have fresh : ∀ a, s2.heap.objs.size ≤ a → s2.heap.get? a = none := fun a ha => by
    cases e : s2.heap.get? a with
    | none => rfl
    | some o' => exact absurd (Heap.lt_size e) (Nat.not_lt.mpr ha)
  have fpl : ∀ b ∈ fp, b < s2.heap.objs.size := fun b hb => by
    obtain ⟨o, e, _⟩ := T.obj _ _ st2 b hb
    exact Heap.lt_size e
  have hD0 : H2 s2.heap.objs.size = none := I2.hok.fresh (Nat.le_refl _)
  have hC0 : H2 P.objs.size = none := I2.hok.fresh hCle
  have from' : ∀ {y : Str} {c : Addr}, (clG X.env.cells scope.names []).lookup y = some c → X.env.cells.lookup y = some c := fun e => clG_from (fun _ z => by simp at z) e
  have clt : ∀ {y : Str} {c : Addr}, X.env.cells.lookup y = some c → c < s2.heap.objs.size := fun e => by
    obtain ⟨v, q⟩ := I2.cell _ _ e
    exact q.lt
  have neD : ∀ {b : Addr}, b < s2.heap.objs.size → b ≠ s2.heap.objs.size := fun hb => Nat.ne_of_lt hb
  -- the block's entry
  have I3 : Inv (cxC X scope P.objs.size fp s2 H2 pins (x :: caps)) [] (none :: capV idx σ) (upd H2 s2.heap.objs.size (.lst [])) { s2 with heap := h₁, toks := s2.toks + ([] : List (Str × Value)).length } := by
    refine ⟨cxC_ok S I2 hCle f2 fpl, rfl, I2.bare, Un.laid old (Nat.le_refl _) hD0, ⟨_, hns₁, fun i y v e1 e2 e3 => ?_⟩, fun y c e => ?_, ?_, fun y c e => ?_, fun p hp => ?_, I2.hok.laid old (Nat.le_refl _) ⟨Nat.zero_le _, [], 0, .nil, accAt⟩, ?_⟩
    · cases i with
      | zero => cases e2
      | succ k =>
        have e1' : caps[k]? = some y := e1
        have e2' : (capV idx σ)[k]? = some (some v) := e2
        unfold capV at e2'
        rw [List.getElem?_map] at e2'
        cases ei : idx[k]? with
        | none => rw [ei] at e2'; cases e2'
        | some i0 =>
          rw [ei] at e2'
          have e4 : (σ[i0]?).getD none = some v := Option.some.inj e2'
          have e5 : σ[i0]? = some (some v) := by
            cases e6 : σ[i0]? with
            | none => rw [e6] at e4; cases e4
            | some z => rw [e6] at e4; exact congrArg some e4
          have hfree := S.out y (List.mem_of_getElem? e1')
          have hk := S.free _ hfree rfl
          obtain ⟨m, hn, hl⟩ := I2.loc
          have vis : Vis X.env.scope y := by
            rcases hk with z | z
            · exact .inr (.inl z)
            · exact .inr (.inr z)
          obtain ⟨u, r, l⟩ := hl i0 y v (S.cap k i0 y ei e1') e5 vis
          refine ⟨u, r, .inr ?_⟩
          rcases l with ⟨z, _⟩ | ⟨_, c, hc', hcell⟩
          · rcases hk with z2 | z2
            · rw [z] at z2; cases z2
            · rw [z] at z2; cases z2
          · obtain ⟨c2, hc2⟩ := clG_has hc' (l := scope.names) (acc := []) (.inl hfree)
            have : c2 = c := Option.some.inj ((from' hc2).symm.trans hc')
            subst this
            refine ⟨?_, c2, hc2, hcell.keeps old⟩
            rcases e3 with z | z | z
            · exfalso
              exact relabel_free (env := X.env) (S.fr _ hfree rfl) z
            · exact .inl z
            · exact .inr z
    · obtain ⟨v, q⟩ := I2.cell y c (from' e)
      exact ⟨v, q.keeps old⟩
    · show upd H2 _ _ P.objs.size = none
      rw [upd_ne (Ne.symm hDC)]; exact hC0
    · rw [upd_ne (neD (clt (from' e)))]; exact I2.freeC y c (from' e)
    · have hp' : p ∈ X.pn ++ pins := by
        have : p ∈ (X.pn ++ pins) ++ [] := hp
        simpa using this
      obtain ⟨a1, a2, a3, a4, a5⟩ := I2.pin p hp'
      refine ⟨old _ _ a1, ?_, ltC (Heap.lt_size a1), fun z => ?_, a5⟩
      · rw [upd_ne (neD (Heap.lt_size a1))]; exact a2
      · rcases List.mem_cons.mp (I2.stkSub p.1 z) with w' | w'
        · exact a3 w'
        · exact a4 w'
    · show (none :: capV idx σ).length = (x :: caps).length
      unfold capV
      rw [List.length_cons, List.length_map, S.len, List.length_cons]
  have post' : ∀ {σ' : L2.St} {H' : Hp} {s' : Shared}, L2.Inv (cxC X scope P.objs.size fp s2 H2 pins (x :: caps)) [] σ' H' s' → Q (.ref s2.heap.objs.size) H' → compPost (model X.prog X.w) X.A X.xe use Qf (.ref s2.heap.objs.size) P.objs.size (.ok .next) s' := fun {σ' H' s'} I' q => post _ _ fp s2 s' H2 H' σ' I2 hCle f2 I' q
  obtain ⟨W, ⟨m0, w0⟩, turn⟩ := h s2.heap.objs.size hD0
  have stat : ∀ {H' : Hp}, (∀ b ∈ fp, H' b = none) → ∀ b ∈ fp, FpOk (cxC X scope P.objs.size fp s2 H2 pins (x :: caps)) [] H' b := fun hn b hb => by
    obtain ⟨_, g1, g2, g3, g4, g5⟩ := f2 b hb
    refine ⟨hn b hb, ltC (fpl b hb), fun z => ?_, .inl hb, fun y c e => g4 y c (from' e), fun p hp => g5 p (by have : p ∈ (X.pn ++ pins) ++ [] := hp; simpa using this)⟩
    rcases List.mem_cons.mp (I2.stkSub b z) with w' | w'
    · exact g1 w'
    · exact g2 w'
  have loop : ∀ s₃ : Shared, Inv (cxC X scope P.objs.size fp s2 H2 pins (x :: caps)) [] (none :: capV idx σ) (upd H2 s2.heap.objs.size (.lst [])) s₃ → tn 0 s₃.heap →
      codeAny (model X.prog X.w) X.A (.compLoop (.ListComp elt [⟨.Name x px, iter, ifs, 0⟩] scope pos) 0 (.ref it) (.ref s2.heap.objs.size) (compEnvC scope (clG X.env.cells scope.names []) P.objs.size X.env))
        (compPost (model X.prog X.w) X.A X.xe use Qf (.ref s2.heap.objs.size) P.objs.size) s₃ := by
    intro s₃ I₃ st₃
    refine codeAny_loop rfl (fun n s' => ∃ i ys xo H', Inv (cxC X scope P.objs.size fp s2 H2 pins (x :: caps)) [] (xo :: capV idx σ) H' s' ∧ tn i s'.heap ∧ (∀ b ∈ fp, H' b = none) ∧ W i n ys H') (fun n s4 hI => ?_) m0 ⟨0, [], none, _, I₃, st₃, fun b hb => by rw [upd_ne (neD (fpl b hb))]; exact (f2 b hb).1, w0⟩
    obtain ⟨i, ys, xo, H4, I4, st4, fr4, w4⟩ := hI
    show wpAny _ X.A ((compTurn (.ListComp elt [⟨.Name x px, iter, ifs, 0⟩] scope pos) 0 (.ref it) (.ref s2.heap.objs.size) (compEnvC scope (clG X.env.cells scope.names []) P.objs.size X.env)).onRaise (fun x => do noteFrame x (compEnvC scope (clG X.env.cells scope.names []) P.objs.size X.env); theTreesLotGoes x)) _ _ s4
    refine wpAny_noted ?_
    rw [compTurn_list]
    refine wpAny_bind (wpAny_standAt (wpAny_bind ?_))
    rcases turn i n ys H4 w4 with ⟨stop, q⟩ | ⟨go, step⟩
    · refine wpAny_mono (T.done (cxC X scope P.objs.size fp s2 H2 pins (x :: caps)) rfl rfl rfl hc i [] s4 _ H4 (fun _ _ => False) I4 (stat fr4) st4 stop) (fun r s5 hr => ?_) (fun _ _ e => e.elim)
      obtain ⟨rfl, I5⟩ := hr
      exact wpAny_pure (post' I5 q)
    · refine wpAny_mono (T.item (cxC X scope P.objs.size fp s2 H2 pins (x :: caps)) rfl rfl rfl hc i [] s4 _ H4 (fun _ _ => False) I4 (stat fr4) st4 go) (fun r s5 hr => ?_) (fun _ _ e => e.elim)
      obtain ⟨u, rfl, h5⟩ := hr
      dsimp only
      refine wpAny_bind (wpAny_mono h5 (fun _ s6 h6 => ?_) (fun _ _ e => e.elim))
      obtain ⟨x6, H6, I6, r6, y6, st6, fr6⟩ := h6
      have I6' := I6.pinned (stat fr6) (T.obj _ _ st6)
      refine wpAny_bind (wpAny_assign_Name (store_ok (i := 0) I6' S.nd rfl (.inl (lookup_relabel_local S.lx)) r6 (fun s7 I7 => ?_) (.inr (lookup_relabel_local S.lx))))
      have again : ∀ {H8 : Hp} {s8 : Shared} {zs : List V}, Inv (cxC X scope P.objs.size fp s2 H2 pins (x :: caps)) ([] ++ pinsAt fp s6.heap) (some x6 :: capV idx σ) H8 s8 → (∃ m', m' < n ∧ W (i + 1) m' zs H8) →
          ∃ m, m < n ∧ ∃ i ys xo H', Inv (cxC X scope P.objs.size fp s2 H2 pins (x :: caps)) [] (xo :: capV idx σ) H' s8 ∧ tn i s8.heap ∧ (∀ b ∈ fp, H' b = none) ∧ W i m ys H' := fun {H8 s8 zs} I8 w8 => by
        obtain ⟨m', hm, w8⟩ := w8
        refine ⟨m', hm, i + 1, zs, some x6, H8, I8.unpinned, T.keep _ _ _ st6 fun b hb o e => (I8.pin (b, o) (List.mem_append_right _ (List.mem_append_right _ (mem_pinsAt hb e)))).1, fun b hb => ?_, w8⟩
        obtain ⟨o, e, d⟩ := T.obj _ _ st6 b hb
        exact (I8.pin (b, o) (List.mem_append_right _ (List.mem_append_right _ (mem_pinsAt hb e)))).2.1
      refine wpAny_bind (wpAny_mono (ht P.objs.size fp s2 H2 pins _ s7 (some x6 :: capV idx σ) H6 _ I7 (step x6 H6 y6)) (fun ok s8 h8 => ?_) (fun _ _ e => e.elim))
      obtain ⟨H8, I8, q8⟩ := h8
      cases ok with
      | false => exact wpAny_pure ⟨rfl, again I8 (by simpa using q8)⟩
      | true =>
        rw [if_pos rfl] at q8
        refine wpAny_bind (wpAny_bind (wpAny_mono (he P.objs.size fp s2 H2 pins _ s8 (some x6 :: capV idx σ) H8 _ I8 q8) (fun y s9 h9 => ?_) (fun _ _ e => e.elim)))
        obtain ⟨yv, H9, I9, r9, d9, l9, w9⟩ := h9
        refine wpAny_bind (wpAny_mono (mt_append (X := cxC X scope P.objs.size fp s2 H2 pins (x :: caps)) _ s9 _ H9 (.ref s2.heap.objs.size) [yv] (.ref s2.heap.objs.size) [y] (fun _ HA => ∃ m', m' < n ∧ W (i + 1) m' (ys ++ [yv]) HA) I9 rfl (.cons r9 .nil) ⟨_, _, yv, rfl, rfl, d9, l9, w9⟩) (fun z s10 h10 => ?_) (fun _ _ e => e.elim))
        obtain ⟨_, H10, I10, _, w10⟩ := h10
        exact wpAny_pure (wpAny_pure ⟨rfl, again I10 w10⟩)
  have st₁ : tn 0 h₁ := T.keep _ _ _ st2 fun b hb o e => old b o e
  exact codeAny_compStart_list (loop _ I3 st₁) (T.self X.A 0 _ _ _ st₁ (loop _ I3 st₁))
theorem comp_back {C : Addr} {fp : List Addr} {s2 s' : Shared} {H2 H' : Hp} {σ σ' : L2.St} {pins : List (Addr × Obj)} (I2 : L2.Inv X pins σ H2 s2) (f2 : ∀ b ∈ fp, FpOk X pins H2 b) (I' : L2.Inv (cxC X scope C fp s2 H2 pins (x :: caps)) [] σ' H' s') : L2.Inv X pins σ H' s' := by
  refine I2.call' (ch := fp) I'.os I'.base I'.hok I'.bare fun b hb => ?_
  obtain ⟨_, g1, g2, g3, g4, g5⟩ := f2 b hb
  exact ⟨g3, g1, g4, g5⟩
/-- the block's frame may turn -/
theorem comp_frame {C : Addr} {s2 s' : Shared} {h' : Heap} {H2 H' : Hp} {σ σ0 : L2.St} {pins : List (Addr × Obj)} (I2 : L2.Inv X pins σ0 H2 s2) (hC : s2.heap.objs.size ≤ C) (hn : H' C = none) (I : L2.Inv X pins σ H' s') (hs : Heap.SameBut C s'.heap h') : L2.Inv X pins σ H' { s' with heap := h' } := by
  refine I.turned (t' := s'.toks) (it := C) (fun b o hb e => (hs.2 b hb).trans e) hn (Nat.ne_of_gt (Nat.lt_of_lt_of_le I2.lt hC)) (.inr (Nat.le_trans I2.sz hC)) (fun y c e z => ?_) fun p hp z => ?_
  · obtain ⟨v, q⟩ := I2.cell y c e
    exact absurd (Nat.lt_of_lt_of_le q.lt (by rw [z]; exact hC)) (Nat.lt_irrefl _)
  · exact absurd (Nat.lt_of_lt_of_le (Heap.lt_size (I2.pin p hp).1) (by rw [z]; exact hC)) (Nat.lt_irrefl _)
theorem pe_comp (hxe : X.xe = fun _ _ => False) (hc : X.calm = true) (S : CompSc X scope x caps idx) (hi : PI X (.Name x px) iter wi)
    (ht : ∀ C fp s2 H2 pins, PTs (cxC X scope C fp s2 H2 pins (x :: caps)) ifs ti) (he : ∀ C fp s2 H2 pins, PE (cxC X scope C fp s2 H2 pins (x :: caps)) elt te)
    (hs : ∀ x, foldedSetIterable iter X.env x = pure x := by intro _; rfl) : PE X (.ListComp elt [⟨.Name x px, iter, ifs, 0⟩] scope pos) (tComp wi idx ti te) := by
  intro pins s σ H Q I h
  rw [eval_ListComp]
  refine comp_core (use := none) hxe hc S hi ht he I h (fun C D fp s2 s' H2 H' σ' I2 hC f2 I' q => ?_) hs
  obtain ⟨m, hn, _⟩ := I'.loc
  exact ⟨m, hn, fun h' hs' => ⟨.ref D, H', comp_frame I2 hC I'.free (comp_back I2 f2 I') hs', rfl, q⟩⟩
/-- y = [..] -/
theorem ps_setC {i : Nat} {y : Str} {py spos : Pos} (hxe : X.xe = fun _ _ => False) (hc : X.calm = true) (S : CompSc X scope x caps idx) (hi : PI X (.Name x px) iter wi)
    (ht : ∀ C fp s2 H2 pins, PTs (cxC X scope C fp s2 H2 pins (x :: caps)) ifs ti) (he : ∀ C fp s2 H2 pins, PE (cxC X scope C fp s2 H2 pins (x :: caps)) elt te) (hN : X.N.Nodup) (hy : X.N[i]? = some y) (hl : X.env.scope.names.lookup y = some .local)
    (hsw : swapsWith (.ListComp elt [⟨.Name x px, iter, ifs, 0⟩] scope pos) (some (.Name y py)) spos.line X.env = pure true := by rfl)
    (hs : ∀ x, foldedSetIterable iter X.env x = pure x := by intro _; rfl) : PS X (.Assign [.Name y py] (.ListComp elt [⟨.Name x px, iter, ifs, 0⟩] scope pos) spos) (tAsg (tComp wi idx ti te) (gName i)) := by
  intro pins s σ H D I h
  rw [exec_Assign_Name_used _ _ _ _ hsw]
  refine wpAny_bind (wpAny_standAt (wpAny_bind ?_))
  show wpAny _ X.A (do let _ ← comprehension (.ListComp elt [⟨.Name x px, iter, ifs, 0⟩] scope pos) scope X.env _ (newList []) false (eval iter X.env) (some (assign (.Name y py) X.env))) _ _ s
  refine wpAny_bind (wpAny_mono (comp_core (use := some (assign (.Name y py) X.env)) (Qf := fun _ s' => SP X pins D .next s') hxe hc S hi ht he I h (fun C L fp s2 s' H2 H' σ' I2 hC f2 I' q => ?_) hs) (fun _ s' hq => wpAny_pure (wpAny_pure hq)) fun _ _ e => e)
  obtain ⟨m, hn, _⟩ := I'.loc
  have J := comp_back I2 f2 I'
  show wpAny _ X.A (assign (.Name y py) X.env (.ref L)) _ _ _
  refine wpAny_assign_Name (store_ok2 (v := .ref L) J hN hy (.inl hl) rfl (fun s3 I3 h3 => ?_) (.inr hl))
  obtain ⟨a, sb, ha⟩ := h3
  have aC : a ≠ C := by
    rcases ha with z | z
    · rw [z]; exact Nat.ne_of_lt (Nat.lt_of_lt_of_le I2.lt hC)
    · obtain ⟨v, q'⟩ := I2.cell _ _ z
      exact Nat.ne_of_lt (Nat.lt_of_lt_of_le q'.lt hC)
  exact ⟨m, hn.sameBut sb (Ne.symm aC), fun h' hs' => ⟨_, H', comp_frame I2 hC I'.free I3 hs', q⟩⟩
end
end L3
end
section
set_option maxRecDepth 100000
set_option Elab.async false
set_option linter.all false
set_option maxHeartbeats 4000000
namespace L3
open PySem PySem.Spec PyProof.Rows L2
section
variable {X : Cx}
/-! ### max, min of a list of ints; any, all of a list of bools -/
theorem call_maxL (hc : X.calm = true) : CallR X (.builtin "max") (fun xs H Q => ∃ p ns, xs = [.ref p] ∧ SqL X.K H p (iV ns) ∧ ns ≠ [] ∧ ∀ M, M ∈ ns → (∀ a ∈ ns, a ≤ M) → Q (.int M) H) := by
  intro pins s σ H xs us Q I r h
  obtain ⟨p, ns, rfl, hx, hne, q⟩ := h
  obtain ⟨u, rfl, rx⟩ := vals1 r
  cases rx
  obtain ⟨its, r', pl, hz⟩ := I.list hx
  obtain ⟨m, F, N⟩ := all_kept I
  refine max_list_N (I.ok.hd hc) F N pl.isList (intsAre_of r') (List.length_pos_iff.mpr hne) fun h' M t tk F' N' m1 m2 => ?_
  exact ⟨.int M, H, Inv.newsed I F F' N', ⟨t, rfl⟩, q M m1 m2⟩
theorem call_minL (hc : X.calm = true) : CallR X (.builtin "min") (fun xs H Q => ∃ p ns, xs = [.ref p] ∧ SqL X.K H p (iV ns) ∧ ns ≠ [] ∧ ∀ M, M ∈ ns → (∀ a ∈ ns, M ≤ a) → Q (.int M) H) := by
  intro pins s σ H xs us Q I r h
  obtain ⟨p, ns, rfl, hx, hne, q⟩ := h
  obtain ⟨u, rfl, rx⟩ := vals1 r
  cases rx
  obtain ⟨its, r', pl, hz⟩ := I.list hx
  obtain ⟨m, F, N⟩ := all_kept I
  refine min_list_N (I.ok.hd hc) F N pl.isList (intsAre_of r') (List.length_pos_iff.mpr hne) fun h' M t tk F' N' m1 m2 => ?_
  exact ⟨.int M, H, Inv.newsed I F F' N', ⟨t, rfl⟩, q M m1 m2⟩
abbrev bV (bs : List Bool) : List V := bs.map V.bl
theorem boolsAre_of : ∀ {bs : List Bool} {us : List Value}, Vals (bV bs) us → LSm.BoolsAre us bs
  | [], _, .nil => .nil
  | b :: bs, _, .cons r t => by
    cases (show _ = Value.bool b from r)
    exact .cons b (boolsAre_of t)
theorem call_anyB (hc : X.calm = true) : CallR X (.builtin "any") (fun xs H Q => ∃ p bs, xs = [.ref p] ∧ SqL X.K H p (bV bs) ∧ Q (.bl (bs.any id)) H) := by
  intro pins s σ H xs us Q I r h
  obtain ⟨p, bs, rfl, hx, q⟩ := h
  obtain ⟨u, rfl, rx⟩ := vals1 r
  cases rx
  obtain ⟨its, r', pl, hz⟩ := I.list hx
  obtain ⟨m, F, N⟩ := all_kept I
  refine LSm.any_bools F N (I.ok.hd hc) pl.isList (boolsAre_of r') fun h' tk F' N' => ?_
  exact ⟨.bl _, H, Inv.newsed I F F' N', rfl, q⟩
/-! ### xs[::k] -/
/-! ### isinstance -/
def tyVal : V → Option Value
  | .ty n => some (.type n)
  | .ref C => some (.ref C)
  | _ => none
theorem call_isi : CallR X (.builtin "isinstance") (fun xs H Q => ∃ x T c t b, xs = [x, T] ∧ tyVal T = some c ∧ TyOf X.K H x t ∧ PySem.W.kitOne X.K t c = some b ∧ Q (.bl b) H) := by
  intro pins s σ H xs us Q I r h
  obtain ⟨x, T, c, t, b, rfl, hc, ty, e, q⟩ := h
  obtain ⟨u, w', rfl, rx, rt⟩ := vals2 r
  have ew : w' = c := by
    cases T with
    | ty n => cases (show w' = Value.type n from rt); exact Option.some.inj hc
    | ref C => cases (show w' = Value.ref C from rt); exact Option.some.inj hc
    | _ => cases hc
  subst ew
  exact isinst_ok I rx ty e fun tk => ⟨.bl b, H, I.tok tk, rfl, q⟩
end
end L3
end
section
set_option maxRecDepth 100000
set_option Elab.async false
set_option linter.all false
set_option maxHeartbeats 4000000
namespace L3
open PySem PySem.Spec PyProof.Rows L2
theorem range_all {α : Type} [DecidableEq α] : ∀ {as bs : List α}, as.length = bs.length → ∀ (e : Nat → Bool), (∀ j a b, as[j]? = some a → bs[j]? = some b → e j = decide (a = b)) → (List.range as.length).all e = decide (as = bs) := by
  intro as bs hl e he
  rw [Bool.eq_iff_iff, List.all_eq_true]
  simp only [List.mem_range, decide_eq_true_eq]
  constructor
  · intro h
    refine List.ext_getElem hl fun j h1 h2 => ?_
    have := h j h1
    rw [he j as[j] bs[j] (by simp [h1]) (by simp [h2])] at this
    simpa using this
  · intro h j hj
    subst h
    rw [he j as[j] as[j] (by simp [hj]) (by simp [hj])]
    simp
theorem Paired.at {α β : Type} {F : α → β → Prop} : ∀ {l₁ : List α} {l₂ : List β}, PySem.Paired F l₁ l₂ → ∀ {j : Nat} {b : β}, l₂[j]? = some b → ∃ a, l₁[j]? = some a ∧ F a b
  | _, _, .nil, j, b, e => by simp at e
  | _, _, .cons h t, 0, b, e => by simp at e; subst e; exact ⟨_, rfl, h⟩
  | _, _, .cons h t, j + 1, b, e => by simpa using Paired.at t (j := j) (b := b) (by simpa using e)
section
variable {X : Cx} {pins : List (Addr × Obj)} {σ : L2.St} {H : Hp} {s : Shared}
theorem eqAt_ints (A : Around) (s : Shared) (a : Int) (t : Tok) (c : Int) (u : Tok) : SeqAt.EqAt A s (.int a t) (.int c u) (decide (a = c)) := by
  obtain ⟨e, h, hi⟩ := HT.eqAt_int A s a t c u
  have : e = decide (a = c) := by
    rw [Bool.eq_iff_iff, hi]; simp
  rw [← this]; exact h
/-- items that == tells apart as data -/
structure ItemR (X : Cx) {α : Type} [DecidableEq α] (A : Around) (R : Hp → α → V → Prop) : Prop where
  eq : ∀ (pins : List (Addr × Obj)) (σ : L2.St) (H : Hp) (s : Shared), L2.Inv X pins σ H s → ∀ (a b : α) (x y : V) (u v : Value), R H a x → R H b y → RelV x u → RelV y v → SeqAt.EqAt A s u v (decide (a = b))
  inj : ∀ (pins : List (Addr × Obj)) (σ : L2.St) (H : Hp) (s : Shared), L2.Inv X pins σ H s → ∀ (a b : α) (x : V), R H a x → R H b x → a = b
abbrev rInt : Hp → Int → V → Prop := fun _ a x => x = .int a
abbrev rBl : Hp → Bool → V → Prop := fun _ a x => x = .bl a
theorem itemInt {A : Around} : ItemR X A rInt where
  eq := by
    intro pins σ H s I a b x y u v h1 h2 r1 r2
    cases h1; cases h2
    obtain ⟨t, rfl⟩ := r1
    obtain ⟨t', rfl⟩ := r2
    exact eqAt_ints A s a t b t'
  inj := by
    intro pins σ H s I a b x h1 h2
    cases h1; cases h2; rfl
/-- the items of two sequences -/
theorem items_eq {α : Type} [DecidableEq α] {A : Around} {R : Hp → α → V → Prop} (hE : ItemR X A R) (I : L2.Inv X pins σ H s) {xs ys : List V} {as bs : List α} {its jts : List Value} (p1 : PySem.Paired (R H) as xs) (p2 : PySem.Paired (R H) bs ys) (r1 : Vals xs its) (r2 : Vals ys jts) :
    ∃ e : Nat → Bool, (∀ j (h1 : j < its.toArray.size) (h2 : j < jts.toArray.size), SeqAt.EqAt A s its.toArray[j] jts.toArray[j] (e j)) ∧ ∀ j a b, as[j]? = some a → bs[j]? = some b → e j = decide (a = b) := by
  refine ⟨fun j => match as[j]?, bs[j]? with
    | some a, some b => decide (a = b)
    | _, _ => true, fun j h1 h2 => ?_, fun j a b ea eb => by simp only [ea, eb]⟩
  rw [List.size_toArray] at h1 h2
  have l1 := r1.length
  have l2 := r2.length
  have ex : xs[j]? = some xs[j] := by simp [show j < xs.length by omega]
  have ey : ys[j]? = some ys[j] := by simp [show j < ys.length by omega]
  obtain ⟨a, ea, ha⟩ := Paired.at p1 ex
  obtain ⟨b, eb, hb⟩ := Paired.at p2 ey
  obtain ⟨u, eu, ru⟩ := r1.get ex
  obtain ⟨v, ev, rv⟩ := r2.get ey
  have eu' : its.toArray[j] = u := by
    have : its[j]? = some its[j] := by simp [h1]
    rw [this] at eu
    simpa using Option.some.inj eu
  have ev' : jts.toArray[j] = v := by
    have : jts[j]? = some jts[j] := by simp [h2]
    rw [this] at ev
    simpa using Option.some.inj ev
  simp only [ea, eb]
  rw [eu', ev']
  exact hE.eq _ _ _ _ I _ _ _ _ _ _ ha hb ru rv
def IsL (K : PySem.W.Frag) {α : Type} (R : Hp → α → V → Prop) (H : Hp) (as : List α) (x : V) : Prop := ∃ p xs, x = .ref p ∧ SqL K H p xs ∧ PySem.Paired (R H) as xs
def IsT (K : PySem.W.Frag) {α : Type} (R : Hp → α → V → Prop) (H : Hp) (as : List α) (x : V) : Prop := ∃ p xs, x = .ref p ∧ SqT K H p xs ∧ PySem.Paired (R H) as xs
theorem paired_ints (H : Hp) : ∀ ns : List Int, PySem.Paired (rInt H) ns (iV ns)
  | [] => .nil
  | n :: ns => .cons rfl (paired_ints H ns)
theorem rc_lists {α : Type} [DecidableEq α] {A : Around} {R : Hp → α → V → Prop} (hu : A.units < cLine) (hE : ItemR X A.in1 R) (I : L2.Inv X pins σ H s) {as bs : List α} {x y : V} {u v : Value} (h1 : IsL X.K R H as x) (h2 : IsL X.K R H bs y) (r1 : RelV x u) (r2 : RelV y v) :
    SeqAt.RcAt A s u v (decide (as = bs)) ∧ SeqAt.RcNeAt A s u v (!decide (as = bs)) := by
  obtain ⟨p, xs, rfl, hx, p1⟩ := h1
  obtain ⟨q, ys, rfl, hy, p2⟩ := h2
  cases r1; cases r2
  obtain ⟨its, v1, l1, z1⟩ := I.list hx
  obtain ⟨jts, v2, l2, z2⟩ := I.list hy
  have k1 := v1.length
  have k2 := v2.length
  have k3 : as.length = xs.length := PySem.Paired.length p1
  have k4 : bs.length = ys.length := PySem.Paired.length p2
  by_cases hl : its.length = jts.length
  · obtain ⟨e, he, hb⟩ := items_eq hE I p1 p2 v1 v2
    have ra := range_all (as := as) (bs := bs) (by omega) e hb
    have sz : its.toArray.size = as.length := by rw [List.size_toArray]; omega
    have g1 := SeqAt.RcAt.lists (A := A) (s := s) l1.isList l2.isList (by simpa using hl) hu he
    have g2 := SeqAt.RcNeAt.lists (A := A) (s := s) l1.isList l2.isList (by simpa using hl) hu he
    rw [sz, ra] at g1 g2
    exact ⟨g1, g2⟩
  · have hd : decide (as = bs) = false := decide_eq_false fun z => hl (by rw [z] at k3; omega)
    rw [hd]
    exact ⟨SeqAt.RcAt.lists_lengths l1.isList l2.isList (by simpa using hl) hu, SeqAt.RcNeAt.lists_lengths l1.isList l2.isList (by simpa using hl) hu⟩
/-! ### == and != of lists, tuples -/
def rEqL (K : PySem.W.Frag) {α : Type} [DecidableEq α] (R : Hp → α → V → Prop) (n : Bool) : R2 := fun x y H Q => ∃ as bs, IsL K R H as x ∧ IsL K R H bs y ∧ Q (.bl (if n then !decide (as = bs) else decide (as = bs))) H
def rEqT (K : PySem.W.Frag) {α : Type} [DecidableEq α] (R : Hp → α → V → Prop) (n : Bool) : R2 := fun x y H Q => ∃ as bs, IsT K R H as x ∧ IsT K R H bs y ∧ Q (.bl (if n then !decide (as = bs) else decide (as = bs))) H
theorem op_eqL {α : Type} [DecidableEq α] {R : Hp → α → V → Prop} (hu : X.A.units < cLine) (hE : ItemR X X.A.in1 R) : OpR X (compareOp .Eq) (rEqL X.K R false) := by
  intro pins s σ H x y v u Q I rx ry h
  obtain ⟨as, bs, h1, h2, q⟩ := h
  exact (rc_lists hu hE I h1 h2 rx ry).1 _ _ _ _ ⟨.bl _, H, I, rfl, q⟩
theorem op_neL {α : Type} [DecidableEq α] {R : Hp → α → V → Prop} (hu : X.A.units < cLine) (hE : ItemR X X.A.in1 R) : OpR X (compareOp .NotEq) (rEqL X.K R true) := by
  intro pins s σ H x y v u Q I rx ry h
  obtain ⟨as, bs, h1, h2, q⟩ := h
  exact (rc_lists hu hE I h1 h2 rx ry).2 _ _ _ _ ⟨.bl _, H, I, rfl, q⟩
/-! ### is, is not of a bool -/
end
end L3
end
section
set_option maxRecDepth 100000
set_option Elab.async false
set_option linter.all false
set_option maxHeartbeats 4000000
namespace L3
open PySem PySem.Spec PyProof.Rows L2
/-! ### Python's own names -/
theorem boot_int : bootBuiltins "int" = some (.type "int") := by decide +kernel
theorem boot_bool : bootBuiltins "bool" = some (.type "bool") := by decide +kernel
theorem boot_list : bootBuiltins "list" = some (.type "list") := by decide +kernel
theorem boot_sum : bootBuiltins "sum" = some (.builtin "sum") := by decide +kernel
theorem boot_any : bootBuiltins "any" = some (.builtin "any") := by decide +kernel
theorem boot_max : bootBuiltins "max" = some (.builtin "max") := by decide +kernel
theorem boot_min : bootBuiltins "min" = some (.builtin "min") := by decide +kernel
/-- nobody binds them -/
structure Bl (mg : Str → Option Value) : Prop where
  len : mg "len" = none
  range : mg "range" = none
  list : mg "list" = none
  tuple : mg "tuple" = none
  int : mg "int" = none
  bool : mg "bool" = none
  str : mg "str" = none
  isinstance : mg "isinstance" = none
  sum : mg "sum" = none
  sorted : mg "sorted" = none
  any : mg "any" = none
  all : mg "all" = none
  abs : mg "abs" = none
  max : mg "max" = none
  min : mg "min" = none
/-! ### a def of the text, ready to be called -/
structure Ok (P : Program) (w : World) (K : PySem.W.Frag) (mg : Str → Option Value) (base : Heap) (k : Nat) (x : Str) (ps : List Str) (sp : Sp) : Prop where
  ex : ∃ (f : Addr) (fd : FuncData), FnOk P w K mg base CX0 k f fd ps sp ∧ mg x = some (.ref f) ∧ PySem.W.keepIn K (.ref f) = true ∧ Binds K fd ps []
structure OkM (P : Program) (w : World) (K : PySem.W.Frag) (mg : Str → Option Value) (base : Heap) (k : Nat) (C : Addr) (m : Str) (ps : List Str) (sp : Sp) : Prop where
  ex : ∃ (f : Addr) (fd : FuncData), FnOk P w K mg base CX0 k f fd ps sp ∧ Cls K C ∧ Meth K C m f ∧ Binds K fd ps []
structure OkC (P : Program) (w : World) (K : PySem.W.Frag) (mg : Str → Option Value) (base : Heap) (k : Nat) (x : Str) (C : Addr) (ps : List Str) (sp : Sp) : Prop where
  ex : ∃ (f : Addr) (fd : FuncData), FnOk P w K mg base CX0 k f fd ps sp ∧ mg x = some (.ref C) ∧ Mk K C f ∧ Binds K fd ps []
section
variable {X : Cx} {k : Nat} {ps : List Str} {sp : Sp} {x m : Str} {p pos apos : Pos} {e o : Expr} {es : List Expr} {ta : TE} {t : TA} {C : Addr}
theorem pe_callO (c : Ok X.prog X.w X.K X.mg X.base k x ps sp) (hr : Room k X.A) (hg : Gl X x) (ha : PA X (e :: es) t)
    (hdb : (x == ("__debug__" : Str)) = false := by decide) (he : starEach (e :: es) X.env = (false, eval e X.env) :: starEach es X.env := by rfl) (hpl : (backTo pos (starEach es X.env)).any (·.1) = false := by rfl) :
    PE X (.Call (.Name x p) (e :: es) [] pos) (tCall sp [] E0 t) := by
  obtain ⟨f, fd, F, g, kp, b⟩ := c.ex
  exact pe_call (E := E0) F hr hg g kp b .nil pass0 ha hdb he hpl
end
end L3
end
section
set_option maxRecDepth 100000
set_option Elab.async false
set_option linter.all false
set_option maxHeartbeats 400000
namespace L3
open PySem PySem.Spec PyProof.Rows L2
/-- written ints -/
inductive ICon : List Expr → List Int → Prop
  | nil : ICon [] []
  | cons {n : Int} {k : Nat} {p : Pos} {r : List Expr} {ns : List Int} (h : ICon r ns) : ICon (.Constant (.int n) k p :: r) (n :: ns)
theorem pa_icon {X : Cx} {es : List Expr} {ns : List Int} (h : ICon es ns) : PA X es (fun _ H Q => Q (iV ns) H) := by
  induction h with
  | nil => exact pa_nil
  | cons _ ih => exact pa_cons pe_int ih rfl
/-- the statements within a statement -/
def stL : Stmt → Nat → List Stmt
  | .For _ _ b e _, k => if k = 0 then b else e
  | .While _ b e _, k => if k = 0 then b else e
  | .If _ b e _, k => if k = 0 then b else e
  | _, _ => []
abbrev noSt : Stmt := .Pass ⟨0, 0, 0, 0⟩
/-- a written tuple of ints -/
theorem pe_tupI {X : Cx} {es : List Expr} {ns : List Int} {x1 : Nat} {pos : Pos} (h : ICon es ns) (hl : ns.length ≤ 1000) : PE X (.Tuple es x1 pos) (fun _ H Q => ∀ p, H p = none → Q (.ref p) (upd H p (.tup (iV ns)))) := by
  intro pins s σ H Q I q
  exact pe_tup (pa_icon h) pins s σ H Q I ⟨by rw [iV_len]; exact Nat.le_trans hl (by decide), q⟩
end L3
end
section
set_option maxRecDepth 100000
set_option Elab.async false
set_option linter.all false
set_option maxHeartbeats 4000000
namespace L3
open PySem PySem.Spec PyProof.Rows L2
/-- an untracked object of ours becomes tracked -/
theorem _root_.L2.Inv.adopt {X : Cx} {pins : List (Addr × Obj)} {σ : L2.St} {H : Hp} {s : Shared} {a : Addr} {o : HO} (I : Inv X pins σ H s) (hn : H a = none) (h1 : X.s₀.heap.objs.size ≤ a) (hL : a ≠ X.env.locals)
    (h2 : ∀ x c, X.env.cells.lookup x = some c → c ≠ a) (h3 : ∀ p ∈ X.pn ++ pins, p.1 ≠ a) (new : ObjOk X.prog X.w (upd H a o) s.heap a o) : Inv X pins σ (upd H a o) s := by
  have z := I.step (H' := upd H a o) (h' := s.heap) (g' := s.gens) (t' := s.toks) (d' := s.drawn) (ch := [a]) (fun b hb => by have e : b = a := by simpa using hb
                                                                                                                              subst e; exact ⟨.inr h1, hL, h2, h3⟩)
    (fun b o _ _ _ e _ => e) (fun b o _ _ _ e _ => ⟨o.slots, e⟩) (fun b u hc e n => by rw [upd_ne (fun z => hc (by simp [z]))]; exact n) (fun b o _ e => ⟨o, e⟩)
    (fun b xs e => by rw [upd_ne (ne_of_none e hn)]; exact e) (fun b u xs e => by rw [upd_ne (ne_of_none e hn)]; exact e) (fun b ps e => ⟨#[], by rw [upd_ne (ne_of_none e hn), e]; simp⟩) (fun m hm => hm) (fun b u e => ?_) I.bare
  · exact z
  · by_cases hb : b = a
    · subst hb; rw [upd_same] at e; cases e; exact new
    · rw [upd_ne hb] at e
      exact (I.hok b u e).stay (fun c v _ q => q) (fun c q => by rw [upd_ne (ne_of_none q hn)]; exact q) fun c xs q => by rw [upd_ne (ne_of_none q hn)]; exact q
section
variable {X : Cx}
end
/-! ### a lambda of one name, with one name from around -/
def cxLm (X : Cx) (A : Around) (env : Env) (N : List Str) (s : Shared) (H : Hp) (pins : List (Addr × Obj)) : Cx :=
  { X with A := A.deeper env, N := N, s₀ := s, H₀ := H, env := env, outer := X.stack, stack := env :: X.stack, ex := [], fn := fun _ => false, calm := true, pn := X.pn ++ pins, xe := fun _ _ => False }
structure LamSc (scope : Scope) (y x : Str) : Prop where
  kind : scope.kind = .function
  co : scope.isCoroutine = false
  gen : scope.isGenerator = false
  cell : ∀ z ∈ scope.names, z.2 ≠ .cell
  ly : scope.names.lookup y = some .local
  lx : scope.names.lookup x = some .free
  fr : ∀ z ∈ scope.names, z.2 = .free → z.1 = x
end L3
end
section
set_option maxRecDepth 100000
set_option Elab.async false
set_option linter.all false
set_option maxHeartbeats 4000000
namespace L3
open PySem PySem.Spec PyProof.Rows L2
section
variable {prog : Program} {w : World} {A : Around} {E : Value → Shared → Prop} {s : Shared}
end
end L3
end
section
set_option maxRecDepth 100000
set_option Elab.async false
set_option linter.all false
set_option maxHeartbeats 4000000
namespace L3
open PySem PySem.Spec PyProof.Rows L2
end L3
end
section
set_option maxRecDepth 100000
set_option Elab.async false
set_option linter.all false
set_option maxHeartbeats 4000000
namespace L3
open PySem PySem.Spec PyProof.Rows L2
/-- the table of a def's code, where its one lambda's code is kept -/
def TbOk (P : Addr) (pos : Pos) (qual : Str) (H : Hp) : Prop :=
  H P = some (.tbl #[]) ∨ ∃ (c' : Addr) (oc : Obj) (vs : Array Value) (t : Tok), H P = some (.tbl #[rawInt pos.line, rawInt pos.col, .ref c']) ∧ H c' = some (.frz oc (.own c')) ∧ oc.data = .fields vs ∧ vs[1]? = some (.str qual t)
def SameB (P : Addr) (H H' : Hp) : Prop := ∀ b o, b ≠ P → H b = some o → H' b = some o
def CdAt (c' : Addr) (qual : Str) (H : Hp) : Prop := ∃ (oc : Obj) (vs : Array Value) (t : Tok), H c' = some (.frz oc (.own c')) ∧ oc.data = .fields vs ∧ vs[1]? = some (.str qual t)
def tLam (P : Addr) (pos : Pos) (qual : Str) (params : Arguments) (body : Expr) (scope : Scope) (x : Str) (cx : Addr) (pm : Value) : TE := fun _ H Q => TbOk P pos qual H ∧ ∀ f c' ctv H2, SameB P H H2 → TbOk P pos qual H2 → H2 f = none → CdAt c' qual H2 →
  Q (.ref f) (upd H2 f (.ext fun h => h.get? f = some (PySem.W.kla_obj "<lambda>" qual params body scope [(x, cx)] pm c' ctv)))
end L3
end
section
set_option maxRecDepth 100000
set_option Elab.async false
set_option linter.all false
set_option maxHeartbeats 4000000
namespace L3
open PySem PySem.Spec PyProof.Rows L2
/-- records of ours have turned -/
theorem _root_.L2.Inv.turnedL {X : Cx} {pins : List (Addr × Obj)} {σ : L2.St} {H : Hp} {s : Shared} {h' : Heap} {t' : Nat} {ch : List Addr} (I : Inv X pins σ H s) (hf : ∀ b ∈ ch, FpOk X pins H b) (k : ∀ b o, b ∉ ch → s.heap.get? b = some o → h'.get? b = some o) :
    Inv X pins σ H { s with heap := h', toks := t' } := by
  have nch : ∀ b u, H b = some u → b ∉ ch := fun b u e z => by rw [(hf b z).1] at e; cases e
  refine I.step (g' := s.gens) (d' := s.drawn) (ch := ch) (fun b hb => ⟨(hf b hb).2.2.2.1, (hf b hb).2.1, (hf b hb).2.2.2.2.1, (hf b hb).2.2.2.2.2⟩) (fun b o _ _ hc e _ => k b o hc e) (fun b o _ _ hc e _ => ⟨o.slots, k b o hc e⟩) (fun _ _ _ _ n => n)
    (fun b o hc e => ⟨o, k b o hc e⟩) (fun _ _ e => e) (fun _ _ _ e => e) (fun b ps e => ⟨#[], by rw [e]; simp⟩) (fun m hm => ?_) (fun b u e => ?_) I.bare
  · obtain ⟨o, es, ep, ho, r⟩ := hm
    exact ⟨o, es, ep, k _ o (fun z => (hf _ z).2.1 rfl) ho, r⟩
  · refine (I.hok b u e).stay (fun c v hc q => k c v ?_ q) (fun _ q => q) fun _ _ q => q
    rcases hc with z | z
    · rw [z]; exact nch b u e
    · exact nch c _ z
/-- two lists side by side -/
def Itz (K : PySem.W.Frag) (a b : Addr) : It :=
  ⟨fun i H => ∃ xs ys x y, SqL K H a xs ∧ SqL K H b ys ∧ xs[i]? = some x ∧ ys[i]? = some y,
   fun i H v H' => ∃ T x y, v = .ref T ∧ H T = none ∧ H' = upd H T (.tup [x, y]) ∧ (∀ xs, SqL K H a xs → xs[i]? = some x) ∧ ∀ ys, SqL K H b ys → ys[i]? = some y,
   fun i H => ∃ xs ys, SqL K H a xs ∧ SqL K H b ys ∧ (xs.length ≤ i ∨ ys.length ≤ i)⟩
theorem turn_zip {P : Program} {w : World} {K : PySem.W.Frag} {elts : List Expr} {x1 : Nat} {tp : Pos} (a b z TI TO i1 i2 : Addr) (D : ZipApart z TI TO i1 i2 a b) : Turn P w K (.Tuple elts x1 tp) (Itz K a b) [z, TI, TO, i1, i2] z
    (fun i h => IsZip h z TI TO .none ∧ IsPair h TI (.ref i1) (.ref i2) ∧ (∃ u v, IsPair h TO u v) ∧ h.IsListIter i1 a i ∧ h.IsListIter i2 b i) where
  mem := by simp
  obj := fun i h ⟨h1, h2, ⟨_, _, h3⟩, ⟨o4, h4, _, d4⟩, ⟨o5, h5, _, d5⟩⟩ c hc => by
    simp only [List.mem_cons, List.not_mem_nil, or_false] at hc
    rcases hc with rfl | rfl | rfl | rfl | rfl
    · exact ⟨_, h1, fun v z => by cases z⟩
    · exact ⟨_, h2, fun v z => by cases z⟩
    · exact ⟨_, h3, fun v z => by cases z⟩
    · exact ⟨o4, h4, fun v z => by rw [d4] at z; cases z⟩
    · exact ⟨o5, h5, fun v z => by rw [d5] at z; cases z⟩
  keep := fun i h h' ⟨h1, h2, ⟨u, v, h3⟩, h4, h5⟩ k => ⟨k z (by simp) _ h1, k TI (by simp) _ h2, ⟨u, v, k TO (by simp) _ h3⟩, h4.at fun o e => k i1 (by simp) o e, h5.at fun o e => k i2 (by simp) o e⟩
  item := by
    intro X hP hw hK hc i pins s σ H E I hf st hg
    subst hP hw hK
    obtain ⟨h1, h2, ⟨u, v, h3⟩, h4, h5⟩ := st
    obtain ⟨xs, ys, x, y, qx, qy, ex, ey⟩ := hg
    obtain ⟨its, rv, p, hz⟩ := I.list qx
    obtain ⟨its2, rv2, p2, hz2⟩ := I.list qy
    obtain ⟨ux, hux, rx⟩ := rv.get ex
    obtain ⟨uy, huy, ry⟩ := rv2.get ey
    refine wpAny_pyNext_zip_item D h1 h2 h3 h4 h5 p.isList p2.isList (x := ux) (y := uy) (by simpa using hux) (by simpa using huy) fun h' g1 g2 g3 g4 g5 g6 k => ?_
    have zlt := Heap.lt_size h1
    refine ⟨.ref s.heap.objs.size, rfl, wpAny_letOwnedTupleGo_zip (s := { s with heap := h' }) g1 fun h2' g1' sb => ?_⟩
    have zn : s.heap.objs.size ≠ z := Nat.ne_of_gt zlt
    have I1 : Inv X pins σ H { s with heap := h2' } := I.turnedL (t' := s.toks) (ch := [z, TI, TO, i1, i2]) hf fun c o hcn e => by
      simp only [List.mem_cons, List.not_mem_nil, or_false, not_or] at hcn
      exact (sb.2 c hcn.1).trans (k c o hcn.1 hcn.2.2.1 hcn.2.2.2.1 hcn.2.2.2.2 e)
    have Hn : H s.heap.objs.size = none := I.hok.fresh (Nat.le_refl _)
    have tAt : h2'.get? s.heap.objs.size = some { cls := .type "tuple", data := .seq #[ux, uy] } := (sb.2 _ zn).trans g5
    have I2 := I1.adopt (a := s.heap.objs.size) (o := .tup [x, y]) Hn I.sz (Nat.ne_of_gt I.lt) (fun n c e => by
        obtain ⟨_, q⟩ := I.cell n c e
        exact Nat.ne_of_lt q.lt) (fun q hq => Nat.ne_of_lt (Heap.lt_size (I.pin q hq).1)) ⟨by show 2 ≤ sizeLine; rw [sizeLine_eq]; omega, [ux, uy], .cons rx (.cons ry .nil), _, tAt, rfl, _, rfl⟩
    have cu : ∀ c, (c = z ∨ c = TI ∨ c = TO ∨ c = i1 ∨ c = i2) → c < s.heap.objs.size := fun c hcc => by
      obtain ⟨o4, e4, _⟩ := id h4
      obtain ⟨o5, e5, _⟩ := id h5
      rcases hcc with rfl | rfl | rfl | rfl | rfl
      · exact zlt
      · exact Heap.lt_size h2
      · exact Heap.lt_size h3
      · exact Heap.lt_size e4
      · exact Heap.lt_size e5
    refine ⟨.ref s.heap.objs.size, _, I2, rfl, ⟨s.heap.objs.size, x, y, rfl, Hn, rfl, fun ws hw => by rw [I.list_inj hw qx]; exact ex, fun ws hw => by rw [I.list_inj hw qy]; exact ey⟩, ⟨g1', (sb.2 TI D.TIz).trans (k TI _ D.TIz D.TITO D.TIi1 D.TIi2 h2), ⟨ux, uy, (sb.2 TO D.TOz).trans g2⟩, g3.at fun o e => (sb.2 i1 D.i1z).trans e, g4.at fun o e => (sb.2 i2 D.i2z).trans e⟩, fun c hcc => ?_⟩
    have lt := cu c (by simpa using hcc)
    rw [upd_ne (Nat.ne_of_lt lt)]
    exact (hf c hcc).1
  done := by
    intro X hP hw hK hc i pins s σ H E I hf st hg
    subst hP hw hK
    obtain ⟨h1, h2, ⟨u, v, h3⟩, h4, h5⟩ := st
    obtain ⟨xs, ys, qx, qy, hlen⟩ := hg
    obtain ⟨its, rv, p, hz⟩ := I.list qx
    obtain ⟨its2, rv2, p2, hz2⟩ := I.list qy
    have l1 := rv.length
    have l2 := rv2.length
    refine wpAny_pyNext_zip_end (I.ok.hd hc) D h1 h2 h3 h4 h5 p.isList p2.isList (by rcases hlen with z | z; left; simp; omega; right; simp; omega) fun h' k => ⟨rfl, I.turnedL (t' := s.toks) (ch := [z, TI, TO, i1, i2]) hf fun c o hcn e => ?_⟩
    simp only [List.mem_cons, List.not_mem_nil, or_false, not_or] at hcn
    exact k c o hcn.1 hcn.2.2.1 hcn.2.2.2.1 hcn.2.2.2.2 e
  self := fun _ _ _ _ _ st h => wpAny_pyIter_zip st.1 h
def iZip (K : PySem.W.Frag) (ta : TA) : TI := fun σ H R => ta σ H fun vs H1 => ∃ a b, vs = [.ref a, .ref b] ∧ (∃ xs, SqL K H1 a xs) ∧ (∃ ys, SqL K H1 b ys) ∧ R (Itz K a b) H1
theorem pi_zip {X : Cx} {e1 e2 : Expr} {elts : List Expr} {x1 : Nat} {tp : Pos} {ta : TA} {p pos : Pos} (hg : Gl X "zip") (hm : X.mg "zip" = none) (ha : PA X [e1, e2] ta) (hs : starEach [e1, e2] X.env = [(false, eval e1 X.env), (false, eval e2 X.env)] := by rfl) (hs2 : starEach [e2] X.env = [(false, eval e2 X.env)] := by rfl) :
    PI X (.Tuple elts x1 tp) (.Call (.Name "zip" p) [e1, e2] [] pos) (iZip X.K ta) := by
  intro pins s σ H R I h
  refine Call_ (ld_blt I hg hm boot_zip (PyProof.Rows.callWith_type1 (thn (ha pos pins s σ H _ I h) fun us s1 ⟨vs, H1, I1, r1, q1⟩ => ?_) (by rw [hs, hs2]) (by rw [hs2]; rfl)))
  obtain ⟨a, b, rfl, ⟨xs, qx⟩, ⟨ys, qy⟩, q⟩ := q1
  have eu : us = [.ref a, .ref b] := by
    cases r1 with
    | cons r1 rr =>
      obtain ⟨u2, rfl, r2⟩ := vals1 rr
      cases r1; cases r2; rfl
  subst eu
  obtain ⟨its, rv, pp, hz⟩ := I1.list qx
  obtain ⟨its2, rv2, pp2, hz2⟩ := I1.list qy
  refine call_zip_2 pp.isList pp2.isList fun h' g1 g2 g3 g4 g5 g6 k => wpAny_pyIter_zip g1 ?_
  have la : a < s1.heap.objs.size := by obtain ⟨_, e, _⟩ := pp.isList; exact Heap.lt_size e
  have lb : b < s1.heap.objs.size := by obtain ⟨_, e, _⟩ := pp2.isList; exact Heap.lt_size e
  refine ⟨_, _, _, _, H1, rfl, I1.kept (t' := s1.toks) k, turn_zip a b _ _ _ _ _ (zipApart_new la lb), ⟨g1, g2, ⟨_, _, g3⟩, g4, g5⟩, fun c hc => ?_, q⟩
  have le : s1.heap.objs.size ≤ c := by
    simp only [List.mem_cons, List.not_mem_nil, or_false] at hc
    rcases hc with rfl | rfl | rfl | rfl | rfl <;> omega
  exact I1.fpOk le (I1.hok.fresh le)
end L3
namespace L3
open PySem PySem.Spec PyProof.Rows L2
theorem for_zip {K : PySem.W.Frag} {a b : Addr} {xs ys : List V} {n : Nat} {g : TG} {tb : TS} {D : Ends} {σ : L2.St} {H : Hp} (Pv : Nat → L2.St → Hp → Prop) (hx : xs.length = n) (hy : ys.length = n) (h0 : Pv 0 σ H) (hl : ∀ i σ H, i ≤ n → Pv i σ H → SqL K H a xs ∧ SqL K H b ys)
    (hs : ∀ i x y T σ H, xs[i]? = some x → ys[i]? = some y → Pv i σ H → H T = none → g (.ref T) σ (upd H T (.tup [x, y])) fun σ2 H2 => tb { D with nx := Pv (i + 1), ct := Pv (i + 1), bk := D.nx } σ2 H2) (hd : ∀ σ H, Pv n σ H → D.nx σ H) :
    ∃ W : Nat → Nat → L2.St → Hp → Prop, (∃ m, W 0 m σ H) ∧ ∀ i m σ H, W i m σ H →
      ((Itz K a b).stop i H ∧ D.nx σ H) ∨ ((Itz K a b).go i H ∧ ∃ N : L2.St → Hp → Prop, (∀ σ' H', N σ' H' → ∃ m', m' < m ∧ W (i + 1) m' σ' H') ∧ ∀ x H', (Itz K a b).yld i H x H' → g x σ H' fun σ2 H2 => tb { D with nx := N, ct := N, bk := D.nx } σ2 H2) := by
  refine ⟨fun i m σ H => m = n - i ∧ i ≤ n ∧ Pv i σ H, ⟨n, by simp, Nat.zero_le _, h0⟩, ?_⟩
  rintro i m σ H ⟨rfl, hi, p⟩
  obtain ⟨q1, q2⟩ := hl i σ H hi p
  by_cases hlt : i < n
  · refine .inr ⟨⟨xs, ys, xs[i], ys[i], q1, q2, List.getElem?_eq_getElem _, List.getElem?_eq_getElem _⟩, Pv (i + 1), fun σ' H' p' => ⟨n - (i + 1), by omega, rfl, by omega, p'⟩, fun v H' hv => ?_⟩
    obtain ⟨T, x, y, rfl, hT, rfl, ax, ay⟩ := hv
    exact hs i x y T σ H (ax xs q1) (ay ys q2) p hT
  · have e : i = n := by omega
    exact .inl ⟨⟨xs, ys, q1, q2, .inl (by omega)⟩, hd σ H (e ▸ p)⟩
/-! ### what stays but for the table -/
end L3
namespace L3
open PySem PySem.Spec PyProof.Rows L2
/-- a comprehension's names, held against the def's -/
def compOk (sc0 scope : Scope) (N : List Str) (x : Str) (caps : List Str) (idx : List Nat) : Bool :=
  (scope.kind == .function) && scope.names.all (fun y => y.2 != .cell && (y.2 != .local || scope.names.lookup y.1 == some .local) && (y.2 != .free || (scope.names.lookup y.1 == some .free && (sc0.names.lookup y.1 == some .cell || sc0.names.lookup y.1 == some .free)))) &&
  (scope.names.lookup x == some .local) && decide (x :: caps).Nodup && (idx.length == caps.length) && (idx.map fun i => N[i]?) == caps.map some && caps.all fun y => scope.names.contains (y, NameKind.free)
theorem compSc_of {X : Cx} {sc0 scope : Scope} {N : List Str} {x : Str} {caps : List Str} {idx : List Nat} (h1 : X.env.scope = sc0) (h2 : X.N = N) (h : compOk sc0 scope N x caps idx = true) : CompSc X scope x caps idx := by
  unfold compOk at h
  simp only [Bool.and_eq_true, List.all_eq_true, bne_iff_ne, ne_eq, Bool.or_eq_true, beq_iff_eq, decide_eq_true_eq, List.contains_iff_mem] at h
  obtain ⟨⟨⟨⟨⟨⟨a1, a2⟩, a3⟩, a4⟩, a5⟩, a6⟩, a7⟩ := h
  refine ⟨a1, fun y hy => (a2 y hy).1.1, fun y hy e => ?_, a3, fun y hy e => ?_, fun y hy e => ?_, a4, a5, fun k i y e1 e2 => ?_, fun y hy => a7 y hy⟩
  · rcases (a2 y hy).1.2 with z | z
    · exact absurd e z
    · exact z
  · rcases (a2 y hy).2 with z | z
    · exact absurd e z
    · exact z.1
  · rcases (a2 y hy).2 with z | z
    · exact absurd e z
    · show X.env.scope.names.lookup y.1 = some .cell ∨ X.env.scope.names.lookup y.1 = some .free
      rw [h1]; exact z.2
  · have e3 : (idx.map fun i => N[i]?)[k]? = (caps.map some)[k]? := by rw [a6]
    rw [List.getElem?_map, List.getElem?_map, e1, e2] at e3
    rw [h2]
    exact Option.some.inj e3
end L3
end
section
set_option maxRecDepth 100000
set_option Elab.async false
set_option linter.all false
set_option maxHeartbeats 4000000
namespace L3
open PySem PySem.Spec PyProof.Rows L2
end L3
end
section
set_option maxRecDepth 100000
set_option Elab.async false
set_option linter.all false
set_option maxHeartbeats 4000000
namespace L3
open PySem PySem.Spec PyProof.Rows L2
/-- what is known of a class -/
structure CF (K : PySem.W.Frag) (C : Addr) : Prop where
  cl : Cls K C
  ha : PySem.W.findIn K (.ref C) "__class__" = some (some (.builtin "object.__class__"))
  hn : PySem.W.specialIn K (.builtin "object.__class__") "__get__" = some (some (.builtin "getset_descriptor.__get__"))
  htk : PySem.W.takesIn K (.builtin "object.__class__") = some true
  hm : PySem.W.mroIn K C (.type "object") = some true
/-- a def of the top -/
structure TopF (K : PySem.W.Frag) (x qual : Str) (st : Stmt) : Prop where
  ex : ∃ (f : Addr) (fd : FuncData), PySem.W.nsIn K mainGlobals x = some (some (.ref f)) ∧ Fun K x qual st f fd
theorem topF_mk {K : PySem.W.Frag} {x qual : Str} {st : Stmt} {f : Addr} {oc : Value} {od an : Option Addr} {osl : Array (Option Value)} {kV doc pm cdv ct : Value} (a : PySem.W.nsIn K mainGlobals x = some (some (.ref f)))
    (l : K.lookup f = some ⟨oc, od, .func (PySem.W.fnOf x qual (defArgs st) (defBody st) (defScope st) .none kV doc pm an cdv ct), osl⟩) (c : PySem.W.codeIn K cdv qual = true) (k : PySem.W.keepIn K (.ref f) = true) : TopF K x qual st := ⟨f, _, a, fun_mk l c k⟩
/-- a method -/
structure MthF (K : PySem.W.Frag) (C : Addr) (m qual : Str) (st : Stmt) : Prop where
  ex : ∃ (f : Addr) (fd : FuncData), Meth K C m f ∧ Fun K m qual st f fd
section
variable {P : Program} {w : World} {K : PySem.W.Frag} {mg : Str → Option Value} {base h : Heap} {x qual m : Str} {st : Stmt} {ps : List Str} {k : Nat} {sp : Sp} {C : Addr}
abbrev BindsBy (x qual : Str) (st : Stmt) (ps : List Str) : Prop := ∀ (kV doc pm : Value) (an : Option Addr) (cdv ct : Value) (us : List Value), us.length = ps.length → bindArgs (PySem.W.fnOf x qual (defArgs st) (defBody st) (defScope st) .none kV doc pm an cdv ct) ⟨us, []⟩ = pure (ps.zip us)
theorem Ok.of (t : TopF K x qual st) (X : K.In h) (G : h.Ns mainGlobals mg) (b : BindsBy x qual st ps) (ok : ∀ f fd, Fun K x qual st f fd → FnOk P w K mg base CX0 k f fd ps sp) : Ok P w K mg base k x ps sp := by
  obtain ⟨f, fd, a, F⟩ := t.ex
  exact ⟨f, fd, ok f fd F, PySem.W.mg_of X G a, F.kp, F.binds b⟩
/-- none of these names is bound -/
theorem Bl.of (X : K.In h) (G : h.Ns mainGlobals mg) (z0 : PySem.W.nsIn K mainGlobals "len" = some none) (z1 : PySem.W.nsIn K mainGlobals "range" = some none) (z2 : PySem.W.nsIn K mainGlobals "list" = some none) (z3 : PySem.W.nsIn K mainGlobals "tuple" = some none) (z4 : PySem.W.nsIn K mainGlobals "int" = some none) (z5 : PySem.W.nsIn K mainGlobals "bool" = some none) (z6 : PySem.W.nsIn K mainGlobals "str" = some none) (z7 : PySem.W.nsIn K mainGlobals "isinstance" = some none) (z8 : PySem.W.nsIn K mainGlobals "sum" = some none) (z9 : PySem.W.nsIn K mainGlobals "sorted" = some none) (z10 : PySem.W.nsIn K mainGlobals "any" = some none) (z11 : PySem.W.nsIn K mainGlobals "all" = some none) (z12 : PySem.W.nsIn K mainGlobals "abs" = some none) (z13 : PySem.W.nsIn K mainGlobals "max" = some none) (z14 : PySem.W.nsIn K mainGlobals "min" = some none) : Bl mg :=
  ⟨PySem.W.mg_none_of X G z0, PySem.W.mg_none_of X G z1, PySem.W.mg_none_of X G z2, PySem.W.mg_none_of X G z3, PySem.W.mg_none_of X G z4, PySem.W.mg_none_of X G z5, PySem.W.mg_none_of X G z6, PySem.W.mg_none_of X G z7, PySem.W.mg_none_of X G z8, PySem.W.mg_none_of X G z9, PySem.W.mg_none_of X G z10, PySem.W.mg_none_of X G z11, PySem.W.mg_none_of X G z12, PySem.W.mg_none_of X G z13, PySem.W.mg_none_of X G z14⟩
end
end L3
end
section
set_option maxRecDepth 100000
set_option Elab.async false
set_option linter.all false
set_option maxHeartbeats 4000000
namespace L3
open PySem PySem.Spec PyProof.Rows L2
section
variable {X : Cx}
def isB (k : Bool) : Value → Bool
  | .bool b => decide (b = k)
  | _ => false
end
end L3
end
section
set_option maxRecDepth 100000
set_option Elab.async false
set_option linter.all false
set_option maxHeartbeats 4000000
namespace L3
open PySem PySem.Spec PyProof.Rows L2
section
variable {X : Cx}
def isN (k : Int) : Value → Bool
  | .int n _ => decide (n = k)
  | _ => false
/-- xs.index(k), of ints -/
theorem mt_index : MtM X "list.index" (fun x vs H Q => ∃ l ns k i, x = .ref l ∧ vs = [.int k] ∧ H l = some (.lst (iV ns)) ∧ ns[i]? = some k ∧ (∀ j, j < i → ns[j]? ≠ some k) ∧ Q (.int (i : Nat)) H) := by
  intro pins s σ H x vs v us Q I rx rv h
  obtain ⟨l, ns, k, i, rfl, rfl, hH, hi, hno, q⟩ := h
  cases rx
  obtain ⟨u, rfl, ru⟩ := rv.one
  obtain ⟨t, rfl⟩ := ru
  obtain ⟨z, its, n, r, hl, e⟩ := I.lstM hH
  have at' : ∀ j y, its[j]? = some y → ∃ (n : Int) (t : Tok), y = Value.int n t ∧ ns[j]? = some n := fun j y hy => by
    obtain ⟨hj, _⟩ := List.getElem?_eq_some_iff.mp hy
    have hj2 : j < (iV ns).length := by omega
    obtain ⟨u', hu', ru'⟩ := r.get (List.getElem?_eq_getElem hj2)
    rw [hy] at hu'
    cases hu'
    rw [iV_len] at hj2
    have e2 : (iV ns)[j] = V.int ns[j] := List.getElem_map ..
    rw [e2] at ru'
    obtain ⟨t', ht'⟩ := ru'
    exact ⟨ns[j], t', ht', List.getElem?_eq_getElem hj2⟩
  have il : i < its.length := by
    have := (List.getElem?_eq_some_iff.mp hi).1
    rw [iV_len] at hl
    omega
  have zs : its.length ≤ sizeLine := by omega
  rw [sizeLine_eq] at zs
  refine call_meets F.slot_list_index ⟨_, e, rfl⟩ F.entry_list_index (F.args_list_index_2 _ _) (SeqAt.list_indexAt l its.toArray n none #[] (.int k t) (isN k) i (by simpa using il) (by omega) ?_ fun m hm hlt => ?_) ⟨e, fun y hy => ?_, ?_⟩
  · obtain ⟨n', t', e1, e2⟩ := at' i its[i] (List.getElem?_eq_getElem il)
    rw [hi] at e2
    cases e2
    show isN k its[i] = true
    rw [e1]
    show decide (k = k) = true
    simp
  · have hm' : m < its.length := by simpa using hm
    obtain ⟨n', t', e1, e2⟩ := at' m its[m] (List.getElem?_eq_getElem hm')
    show isN k its[m] = false
    rw [e1]
    show decide (n' = k) = false
    exact decide_eq_false fun z => hno m hlt (z ▸ e2)
  · have hy' : y ∈ its := by simpa using hy
    obtain ⟨j, hj, ej⟩ := List.getElem_of_mem hy'
    obtain ⟨n', t', e1, _⟩ := at' j y (by rw [List.getElem?_eq_getElem hj, ej])
    rw [e1]
    exact eqAt_ints _ _ n' t' k t
  · exact ⟨.int _, H, I.tok _, ⟨_, rfl⟩, q⟩
end
end L3
end
section
set_option maxRecDepth 100000
set_option Elab.async false
set_option linter.all false
set_option maxHeartbeats 1000000
namespace L3
open PySem PySem.Spec PyProof.Rows L2
theorem iV_get {ns : List Int} {i : Nat} {y : V} (h : (iV ns)[i]? = some y) : ∃ n, ns[i]? = some n ∧ y = V.int n := by
  rw [List.getElem?_map] at h
  cases e : ns[i]? with
  | none => rw [e] at h; cases h
  | some n => rw [e] at h; exact ⟨n, rfl, (Option.some.inj h).symm⟩
theorem same_n {H : Hp} {p : Addr} {o : HO} (h : H p = none) : Same H (upd H p o) := fun b u e => by rw [upd_ne (ne_of_none e h)]; exact e
theorem fm_len {α β : Type} (f : α → Option β) (l : List α) : (l.filterMap f).length ≤ l.length := List.length_filterMap_le f l
/-- a comprehension over a list of ints, its test and its item read the names alone -/
theorem comp_ints {K : PySem.W.Frag} {a : Addr} {ns : List Int} {idx : List Nat} {ti : TT} {te : TE} {σ : L2.St} {H : Hp} {Q : VK} (f : Int → Option V) (hS : SqL K H a (iV ns)) (hl : ns.length ≤ 1000)
    (ht : ∀ n ∈ ns, ∀ (H' : Hp) (R : Bool → Hp → Prop), R (f n).isSome H' → ti (some (.int n) :: capV idx σ) H' R)
    (he : ∀ n ∈ ns, ∀ v, f n = some v → ∀ (H' : Hp) (R : VK), R v H' → te (some (.int n) :: capV idx σ) H' R)
    (q : ∀ D, H D = none → Q (.ref D) (upd H D (.lst (ns.filterMap f)))) :
    ∀ D, H D = none → ∃ W : Nat → Nat → List V → Hp → Prop, (∃ m, W 0 m [] (upd H D (.lst []))) ∧ ∀ i m ys H2, W i m ys H2 →
      ((Itl K a).stop i H2 ∧ Q (.ref D) H2) ∨ ((Itl K a).go i H2 ∧ ∀ x H3, (Itl K a).yld i H2 x H3 → ti (some x :: capV idx σ) H3 fun b H4 =>
        if b = true then te (some x :: capV idx σ) H4 fun y H5 => H5 D = some (.lst ys) ∧ ys.length < sizeLine ∧ ∃ m', m' < m ∧ W (i + 1) m' (ys ++ [y]) (upd H5 D (.lst (ys ++ [y])))
        else ∃ m', m' < m ∧ W (i + 1) m' ys H4) := by
  intro D hD
  refine ⟨fun i m ys H2 => m = ns.length - i ∧ i ≤ ns.length ∧ ys = (ns.take i).filterMap f ∧ H2 = upd H D (.lst ys), ⟨ns.length, by simp, Nat.zero_le _, by simp, rfl⟩, ?_⟩
  rintro i m ys H2 ⟨rfl, hi, rfl, rfl⟩
  have hS2 : SqL K (upd H D (.lst ((ns.take i).filterMap f))) a (iV ns) := (same_n hD).seq hS
  by_cases hlt : i < ns.length
  · refine .inr ⟨⟨_, _, hS2, by rw [List.getElem?_map, List.getElem?_eq_getElem hlt]; rfl⟩, ?_⟩
    rintro x H3 ⟨rfl, hx⟩
    obtain ⟨n, hn, rfl⟩ := iV_get (hx _ hS2)
    have hm : n ∈ ns := List.mem_of_getElem? hn
    have tk : ns.take (i + 1) = ns.take i ++ [n] := by rw [List.take_succ, hn]; rfl
    refine ht n hm _ _ ?_
    cases e : f n with
    | none =>
      rw [Option.isSome_none, if_neg (by simp)]
      refine ⟨ns.length - (i + 1), by omega, rfl, hlt, ?_, rfl⟩
      rw [tk, List.filterMap_append]
      simp [e]
    | some v =>
      rw [Option.isSome_some, if_pos rfl]
      refine he n hm v e _ _ ⟨upd_same, small1000 ?_, ns.length - (i + 1), by omega, rfl, hlt, ?_, by rw [upd_upd]⟩
      · have := fm_len f (ns.take i)
        rw [List.length_take] at this
        omega
      · rw [tk, List.filterMap_append]
        simp [e]
  · have : i = ns.length := by omega
    subst this
    refine .inl ⟨⟨_, hS2, by rw [iV_len]; exact Nat.le_refl _⟩, ?_⟩
    rw [List.take_of_length_le (Nat.le_refl _)]
    exact q D hD
theorem comp_of {K : PySem.W.Frag} {a : Addr} {ns : List Int} {tl : TE} {idx : List Nat} {ti : TT} {te : TE} {σ : L2.St} {H : Hp} {Q : VK} (f : Int → Option V) (htl : ∀ R : VK, R (.ref a) H → tl σ H R) (hS : SqL K H a (iV ns)) (hl : ns.length ≤ 1000)
    (ht : ∀ n ∈ ns, ∀ (H' : Hp) (R : Bool → Hp → Prop), R (f n).isSome H' → ti (some (.int n) :: capV idx σ) H' R)
    (he : ∀ n ∈ ns, ∀ v, f n = some v → ∀ (H' : Hp) (R : VK), R v H' → te (some (.int n) :: capV idx σ) H' R)
    (q : ∀ D, H D = none → Q (.ref D) (upd H D (.lst (ns.filterMap f)))) : tComp (iList K tl) idx ti te σ H Q :=
  htl _ ⟨a, rfl, ⟨_, hS⟩, comp_ints f hS hl ht he q⟩
theorem call_isiK {X : Cx} {K : PySem.W.Frag} (e : X.K = K) : CallR X (.builtin "isinstance") (fun xs H Q => ∃ x T c t b, xs = [x, T] ∧ tyVal T = some c ∧ TyOf K H x t ∧ PySem.W.kitOne K t c = some b ∧ Q (.bl b) H) := e ▸ call_isi
theorem fm_some (g : Int → Int) (ns : List Int) : ns.filterMap (fun n => some (V.int (g n))) = iV (ns.map g) := by
  induction ns with
  | nil => rfl
  | cons x t ih => exact congrArg (V.int (g x) :: ·) ih
theorem fm_ints (g : Int → Option Int) (ns : List Int) : ns.filterMap (fun n => (g n).map V.int) = iV (ns.filterMap g) := by
  induction ns with
  | nil => rfl
  | cons x t ih =>
    rw [List.filterMap_cons, List.filterMap_cons]
    cases g x with
    | none => exact ih
    | some y => exact congrArg (V.int y :: ·) ih
theorem tk_snoc {α : Type} {gs : List α} {i : Nat} {g : α} (h : gs[i]? = some g) : gs.take (i + 1) = gs.take i ++ [g] := by rw [List.take_succ, h]; rfl
theorem iV_sn (l : List Int) (x : Int) : iV l ++ [V.int x] = iV (l ++ [x]) := by unfold iV; rw [List.map_append]; rfl
theorem iV_app (l m : List Int) : iV l ++ iV m = iV (l ++ m) := by unfold iV; rw [List.map_append]
theorem ct_to {L : List Int} {m : Int} (h0 : 0 ≤ m) (h1 : m ≤ L.length) : cutV (iV L) none (some m) = iV (L.take m.toNat) := by
  obtain ⟨k, rfl⟩ : ∃ k : Nat, m = k := ⟨m.toNat, by omega⟩
  unfold cutV
  rw [HT.sIx_none, HT.sIx_nat, iV_len, List.drop_zero, Nat.sub_zero, Int.toNat_natCast]
  unfold iV
  rw [List.map_take]
  congr 1
  omega
theorem ct_from {L : List Int} {m : Int} (h0 : 0 ≤ m) (h1 : m ≤ L.length) : cutV (iV L) (some m) none = iV (L.drop m.toNat) := by
  obtain ⟨k, rfl⟩ : ∃ k : Nat, m = k := ⟨m.toNat, by omega⟩
  unfold cutV
  rw [HT.sIx_none, HT.sIx_nat, iV_len, Int.toNat_natCast]
  unfold iV
  rw [show min k L.length = k by omega, List.take_of_length_le (by simp), List.map_drop]
end L3
end
section
set_option maxRecDepth 100000
set_option Elab.async false
set_option linter.all false
set_option maxHeartbeats 400000
namespace My
open PySem L2 L3
def tp (i : Nat) : Stmt := PySem.Challenge.pw_evenhand_k03_taken_and_given.main.body.getD i (.Pass ⟨0, 0, 0, 0⟩)
section
variable {P : Program} {w : World} {K : PySem.W.Frag} {mg : Str → Option Value} {base : Heap}
/-! ### cell_at, draw -/
abbrev s_cell : Stmt := tp 18
theorem sc__law_cell_at : FnScope ["_law_script", "_law_k"] ["_law_script", "_law_k"] (defScope s_cell) := ⟨rfl, rfl, rfl, by decide +kernel, rfl, by decide +kernel, by decide +kernel⟩
def spCell (K : PySem.W.Frag) : Sp := fun vs H Q _ => ∃ (a : Addr) (ns : List Int) (k : Int), vs = [.ref a, .int k] ∧ SqL K H a (iV ns) ∧ 0 ≤ k ∧ ∀ n : Int, Q (.int n) H
theorem ok_cell {f : Addr} {fd : FuncData} (F : Fun K "_law_cell_at" "_law_cell_at" s_cell f fd) (B : Bl mg) : FnOk P w K mg base CX0 1 f fd ["_law_script", "_law_k"] (spCell K) := by
  refine F.ok sc__law_cell_at (fun vs H Q E h => ?_) (fun cdv A outer s H vs Q E hr h => ?_)
  · obtain ⟨a, ns, k, rfl, _⟩ := h
    rfl
  · obtain ⟨a, ns, k, rfl, hS, h0, q⟩ := h
    refine ⟨_, (pss_cons (ps_if (pt_cmpR op_lt (pv 1) (pe_callB call_len_seq rfl B.len PySem.boot_len (pa_cons (pv 0) pa_nil)) (nomark _)) (pss_one (ps_ret (pe_ix ix_list (pv 0) (pv 1) (fun _ _ => rfl)))) pss_nil)
      (pss_one (ps_ret pe_int))), ?_⟩
    refine ⟨_, rfl, _, rfl, a, _, rfl, .inl hS, _, _, rfl, rfl, _, rfl, ?_⟩
    refine ite2 (fun hlt => ?_) (fun hge => ?_)
    · rw [decide_eq_true_eq, iV_len] at hlt
      obtain ⟨j, rfl⟩ : ∃ j : Nat, k = j := ⟨k.toNat, by omega⟩
      have hj : j < ns.length := by omega
      exact ⟨_, rfl, _, rfl, a, _, _, V.int ns[j], rfl, rfl, hS, atI_nat (by simp [hj]), q _⟩
    · exact q 0
abbrev s_draw : Stmt := tp 19
theorem sc__law_draw : FnScope ["_law_cell", "_law_k", "_law_many", "_law_primes"] ["_law_cell", "_law_k", "_law_many"] (defScope s_draw) := ⟨rfl, rfl, rfl, by decide +kernel, rfl, by decide +kernel, by decide +kernel⟩
def primes : List Int := [1000003, 1000033, 1000037, 1000039, 1000081, 1000099, 1000117, 1000121, 1000133, 1000151, 1000159, 1000171, 1000183, 1000187, 1000193, 1000199]
theorem primes_pos : ∀ p ∈ primes, (0 : Int) < p := by decide
/-- draw: some int from 0 on, below many -/
def spDraw : Sp := fun vs H Q _ => ∃ c k m : Int, vs = [.int c, .int k, .int m] ∧ 0 ≤ k ∧ 0 < m ∧ ∀ (n : Int) (H' : Hp), 0 ≤ n → n < m → Same H H' → Q (.int n) H'
theorem same_new {H : Hp} {p : Addr} {o : HO} (h : H p = none) : Same H (upd H p o) := fun b u e => by rw [upd_ne (ne_of_none e h)]; exact e
theorem ok_draw {f : Addr} {fd : FuncData} (F : Fun K "_law_draw" "_law_draw" s_draw f fd) (B : Bl mg) : FnOk P w K mg base CX0 1 f fd ["_law_cell", "_law_k", "_law_many"] spDraw := by
  refine F.ok sc__law_draw (fun vs H Q E h => ?_) (fun cdv A outer s H vs Q E hr h => ?_)
  · obtain ⟨c, k, m, rfl, _⟩ := h
    rfl
  · obtain ⟨c, k, m, rfl, h0, hm, q⟩ := h
    refine ⟨_, @pss_cons _ _ _ _ _ (@ps_set _ _ 3 _ _ _ _ sc__law_draw.nd rfl (Or.inl rfl) (@pe_tupI _ _ primes _ _ (.cons (.cons (.cons (.cons (.cons (.cons (.cons (.cons (.cons (.cons (.cons (.cons (.cons (.cons (.cons (.cons .nil)))))))))))))))) (by decide)) rfl (.inl rfl)) (pss_one (ps_ret (pe_op op_mod (pe_op op_mod (pe_op op_add (pe_op op_mul (pv 0) pe_int) (pe_op op_mul (pv 1) pe_int)) (pe_ix ix_tup (pv 3) (pe_op op_mod (pv 1) pe_int) (fun _ _ => rfl))) (pv 2)))), ?_⟩
    intro t ht
    have hk : (0 : Int) ≤ k % 16 ∧ k % 16 < 16 := ⟨Int.emod_nonneg _ (by decide), Int.emod_lt_of_pos _ (by decide)⟩
    obtain ⟨j, hj⟩ : ∃ j : Nat, k % 16 = (j : Int) := ⟨(k % 16).toNat, by omega⟩
    have hj16 : j < primes.length := by show j < 16; omega
    have pp := primes_pos primes[j] (List.getElem_mem hj16)
    refine ⟨_, rfl, _, _, rfl, rfl, .inr ⟨by decide, by decide⟩, ?_⟩
    refine ⟨_, rfl, _, _, rfl, rfl, .inr ⟨by decide, by decide⟩, ?_⟩
    refine ⟨_, _, rfl, rfl, ?_⟩
    refine ⟨_, rfl, _, rfl, _, _, rfl, rfl, (by decide : (0 : Int) < 16), ?_⟩
    refine ⟨t, iV primes, _, V.int primes[j], rfl, rfl, SqT.of upd_same, ?_, _, _, rfl, rfl, pp, _, rfl, _, _, rfl, rfl, hm, ?_⟩
    · rw [hj]
      exact atI_nat (by simp [hj16])
    · exact q _ _ (Int.emod_nonneg _ (by omega)) (Int.emod_lt_of_pos _ hm) (same_new ht)
end
end My
end
section
set_option maxRecDepth 100000
set_option Elab.async false
set_option linter.all false
set_option maxHeartbeats 400000
namespace My
open PySem L2 L3
theorem _root_.L2.Same.seqT {K : PySem.W.Frag} {H H' : Hp} {a : Addr} {xs : List V} (e : Same H H') (h : SqT K H a xs) : SqT K H' a xs := by
  rcases h with (h | ⟨o, h⟩) | h
  · exact .inl (.inl (e _ _ h))
  · exact .inl (.inr ⟨o, e _ _ h⟩)
  · exact .inr h
theorem same_upd {H H' : Hp} {p : Addr} {o : HO} (s : Same H H') (n : H p = none) : Same H (upd H' p o) := fun b u e => by rw [upd_ne (ne_of_none e n)]; exact s b u e
theorem len64 {n : Nat} (h : n ≤ 1000) : n ≤ sizeLine := Nat.le_of_lt (small1000 h)
section
variable {P : Program} {w : World} {K : PySem.W.Frag} {mg : Str → Option Value} {base : Heap}
/-! ### row -/
abbrev s_row : Stmt := tp 20
theorem sc__law_row : FnScope ["_law_script", "_law_most", "_law_row_here", "_law_k"] ["_law_script"] (defScope s_row) := ⟨rfl, rfl, rfl, by decide +kernel, rfl, by decide +kernel, by decide +kernel⟩
def Bd (b : Int) (rs : List Int) : Prop := ∀ x ∈ rs, -b ≤ x ∧ x ≤ b
def spRow (K : PySem.W.Frag) : Sp := fun vs H Q _ => ∃ (a : Addr) (ns : List Int), vs = [.ref a] ∧ SqL K H a (iV ns) ∧ ns.length ≤ 63 ∧
  ∀ (rs : List Int) (p : Addr) (H' : Hp), rs.length = ns.length + 1 → Bd 900000 rs → H p = none → H' p = some (.lst (iV rs)) → Same H H' → Q (.ref p) H'
theorem ok_row {f : Addr} {fd : FuncData} (F : Fun K "_law_row" "_law_row" s_row f fd) (B : Bl mg) (c_cell_at : Ok P w K mg base 1 "_law_cell_at" ["_law_script", "_law_k"] (spCell K)) (c_draw : Ok P w K mg base 1 "_law_draw" ["_law_cell", "_law_k", "_law_many"] spDraw) :
    FnOk P w K mg base CX0 2 f fd ["_law_script"] (spRow K) := by
  refine F.ok sc__law_row (fun vs H Q E h => ?_) (fun cdv A outer s H vs Q E hr h => ?_)
  · obtain ⟨a, ns, rfl, _⟩ := h
    rfl
  · obtain ⟨a, ns, rfl, hS, hl, q⟩ := h
    refine ⟨_, (pss_cons (ps_set (i := 1) sc__law_row.nd rfl (Or.inl rfl) (pe_ix ix_tup (pe_tupI (ns := [2, 9, 400, 900000]) (.cons (.cons (.cons (.cons .nil)))) (by decide)) (pe_callO c_draw (hr.mono (by decide)) rfl (pa_cons (pe_callO c_cell_at (hr.mono (by decide)) rfl (pa_cons (pv 0) (pa_cons pe_int pa_nil))) (pa_cons pe_int (pa_cons pe_int pa_nil)))) (fun _ _ => rfl)))
      (pss_cons (ps_set (i := 2) sc__law_row.nd rfl (Or.inl rfl) (pe_lst (pa_cons (pe_op op_sub (pe_callO c_draw (hr.mono (by decide)) rfl (pa_cons (pe_callO c_cell_at (hr.mono (by decide)) rfl (pa_cons (pv 0) (pa_cons pe_int pa_nil))) (pa_cons pe_int (pa_cons pe_int pa_nil)))) pe_int) pa_nil)))
      (pss_cons (ps_for PassesOwn.never rfl (pi_range1 rfl B.range (pa_cons (pe_callB call_len_seq rfl B.len PySem.boot_len (pa_cons (pv 0) pa_nil)) pa_nil)) (pg_name (i := 3) sc__law_row.nd rfl (Or.inl rfl))
      (pss_one (ps_expr (pe_bm PySem.F.plainAttrs_list PySem.F.slot_list_append PySem.F.type_list_append mt_append (pv 2) (pa_cons (pe_op op_sub (pe_callO c_draw (hr.mono (by decide)) rfl (pa_cons (pe_ix ix_list (pv 0) (pv 3) (fun _ _ => rfl)) (pa_cons (pe_op op_add (pe_op op_mod (pv 3) pe_int) pe_int) (pa_cons (pe_op op_add (pe_op op_mul pe_int (pv 1)) pe_int) pa_nil)))) (pv 1)) pa_nil)))))
      (pss_one (ps_ret (pv 2)))))), ?_⟩
    intro t ht
    have s1 := same_new (o := .tup (iV [2, 9, 400, 900000])) ht
    refine ⟨_, rfl, a, ns, 0, rfl, s1.seq hS, by decide, fun n => ?_⟩
    refine ⟨_, _, _, rfl, by decide, by decide, fun i H2 i0 i4 s2 => ?_⟩
    obtain ⟨j, rfl⟩ : ∃ j : Nat, i = j := ⟨i.toNat, by omega⟩
    have hj : j < [2, 9, 400, (900000 : Int)].length := by show j < 4; omega
    obtain ⟨most, hmost, mlo, mhi⟩ : ∃ m, [2, 9, 400, (900000 : Int)][j]? = some m ∧ 2 ≤ m ∧ m ≤ 900000 := by
      have : j = 0 ∨ j = 1 ∨ j = 2 ∨ j = 3 := by omega
      rcases this with rfl | rfl | rfl | rfl
      · exact ⟨2, rfl, by decide, by decide⟩
      · exact ⟨9, rfl, by decide, by decide⟩
      · exact ⟨400, rfl, by decide, by decide⟩
      · exact ⟨900000, rfl, by decide, by decide⟩
    refine ⟨t, _, _, V.int most, rfl, rfl, s2.seqT (SqT.of upd_same), atI_nat (by rw [List.getElem?_map, hmost]; rfl), ?_⟩
    have s3 : Same H H2 := s1.trans s2
    refine ⟨_, rfl, a, ns, 1, rfl, s3.seq hS, by decide, fun n1 => ?_⟩
    refine ⟨_, _, _, rfl, by decide, by decide, fun r0 H3 r00 r05 s4 => ?_⟩
    refine ⟨_, _, rfl, rfl, by show 1 ≤ sizeLine; decide, fun p hp => ?_⟩
    have s5 : Same H H3 := s3.trans s4
    have hp0 : H p = none := s5.free hp
    -- for k in range(len(script))
    refine ⟨_, rfl, a, _, rfl, .inl ((same_upd s5 hp0).seq hS), _, rfl, by omega, by rw [iV_len]; omega, for_range (n := ((iV ns).length : Int).toNat) (fun i σ H4 => ∃ (rs : List Int) (v : Option V), σ = [some (.ref a), some (.int most), some (.ref p), v] ∧ H4 p = some (.lst (iV rs)) ∧ rs.length = i + 1 ∧ Bd 900000 rs ∧ Same H H4) ⟨[r0 - 2], none, rfl, upd_same, rfl, ?_, same_upd s5 hp0⟩ ?_ ?_⟩
    · intro x hx
      rw [List.mem_singleton.mp hx]
      omega
    · rintro i σ H4 hi ⟨rs, v, rfl, h4, rl, rb, s6⟩
      rw [iV_len] at hi
      have hi' : i < ns.length := by omega
      refine ⟨_, rfl, .inl ⟨rfl, _, SqL.of h4⟩, ?_⟩
      refine ⟨_, rfl, _, rfl, a, _, _, V.int ns[i], rfl, rfl, s6.seq hS, by rw [Int.zero_add]; exact atI_nat (by simp [hi']), ?_⟩
      refine ⟨_, rfl, _, _, rfl, rfl, (by decide : (0 : Int) < 5), _, _, rfl, rfl, ?_⟩
      refine ⟨_, rfl, _, _, rfl, rfl, .inl ⟨by decide, by decide⟩, _, _, rfl, rfl, ?_⟩
      have e5 : (0 : Int) ≤ (0 + (i : Int)) % 5 := Int.emod_nonneg _ (by decide)
      refine ⟨_, _, _, rfl, by omega, by omega, fun d H5 d0 d1 s7 => ?_⟩
      refine ⟨_, rfl, _, _, rfl, rfl, ?_⟩
      refine ⟨p, _, _, rfl, rfl, s7 _ _ h4, by rw [iV_len, rl]; exact small1000 (by omega), ?_⟩
      refine ⟨rs ++ [d - most], _, rfl, ?_, by simp [rl], ?_, same_upd (s6.trans s7) hp0⟩
      · rw [upd_same]
        simp [iV]
      · intro x hx
        rcases List.mem_append.mp hx with hx | hx
        · exact rb x hx
        · rw [List.mem_singleton.mp hx]; omega
    · rintro σ H4 ⟨rs, v, rfl, h4, rl, rb, s6⟩
      exact ⟨_, rfl, q rs p H4 (by rw [rl]; simp) rb hp0 h4 s6⟩
end
end My
end
section
set_option maxRecDepth 100000
set_option Elab.async false
set_option linter.all false
set_option maxHeartbeats 1000000
namespace My
open PySem L2 L3
/-- what is known between two statements -/
theorem seq_join {t u : TS} {D : Ends} {σ : L2.St} {H : Hp} (M : L2.St → Hp → Prop) (h : ∀ N : L2.St → Hp → Prop, (∀ σ' H', M σ' H' → N σ' H') → t { D with nx := N } σ H) (hu : ∀ σ' H', M σ' H' → u D σ' H') : tSeq t u D σ H := h (u D) hu
theorem gN {i : Nat} {v : V} {σ : L2.St} {H : Hp} {Q : L2.St → Hp → Prop} (h : Q (σ.set i (some v)) H) : gName i v σ H Q := h
section
variable {P : Program} {w : World} {K : PySem.W.Frag} {mg : Str → Option Value} {base : Heap}
abbrev s_other : Stmt := tp 21
def spOther (K : PySem.W.Frag) : Sp := fun vs H Q _ => ∃ (a p : Addr) (ns rs : List Int), vs = [.ref a, .ref p] ∧ SqL K H a (iV ns) ∧ H p = some (.lst (iV rs)) ∧ 1 ≤ rs.length ∧ rs.length ≤ 64 ∧ Bd 900000 rs ∧
  ∀ (os : List Int) (q : Addr) (H' : Hp), os.length = rs.length → Bd 999990 os → rs.sum - 1 ≤ os.sum → os.sum ≤ rs.sum + 1 → H q = none → H' q = some (.lst (iV os)) → Same H H' → Q (.ref q) H'
end
end My
end
section
set_option maxRecDepth 100000
set_option Elab.async false
set_option linter.all false
set_option maxHeartbeats 1000000
namespace My
open PySem L2 L3
section
variable {P : Program} {w : World} {K : PySem.W.Frag} {mg : Str → Option Value} {base : Heap}
def isI : V → Bool
  | .int _ => true
  | _ => false
/-- the kinds that are handed in, and whether they are ints, bools, lists, tuples -/
inductive Kd (K : PySem.W.Frag) (H : Hp) : V → Value → Bool → Bool → Bool → Bool → Prop where
  | non : Kd K H .non (.type "NoneType") false false false false
  | bl (x : Bool) : Kd K H (.bl x) (.type "bool") true true false false
  | int (i : Int) : Kd K H (.int i) (.type "int") true false false false
  | str (x : Str) : Kd K H (.str x) (.type "str") false false false false
  | lst {a : Addr} {xs : List V} (e : H a = some (.lst xs)) : Kd K H (.ref a) (.type "list") false false true false
  | tup {a : Addr} {xs : List V} (e : H a = some (.tup xs)) : Kd K H (.ref a) (.type "tuple") false false false true
  | dK {a : Addr} {kvs : List (Key × V)} (e : H a = some (.dK kvs)) : Kd K H (.ref a) (.type "dict") false false false false
theorem Kd.ty {H : Hp} {x : V} {t : Value} {i b l u : Bool} (k : Kd K H x t i b l u) : TyOf K H x t := by
  cases k with
  | non => exact .non
  | bl x => exact .bl x
  | int i => exact .int i
  | str x => exact .str x
  | lst e => exact .lst e
  | tup e => exact .tup e
  | dK e => exact .dK e
theorem Kd.isInt {H : Hp} {x : V} {t : Value} {i b l u : Bool} (k : Kd K H x t i b l u) : PySem.W.kitOne K t (.type "int") = some i := by cases k <;> rfl
theorem Kd.isBool {H : Hp} {x : V} {t : Value} {i b l u : Bool} (k : Kd K H x t i b l u) : PySem.W.kitOne K t (.type "bool") = some b := by cases k <;> rfl
theorem Kd.whole {H : Hp} {x : V} {t : Value} {i b l u : Bool} (k : Kd K H x t i b l u) : (i && !b) = isI x := by cases k <;> rfl
def Known (K : PySem.W.Frag) (H : Hp) (x : V) : Prop := ∃ t i b l u, Kd K H x t i b l u
abbrev s_whole : Stmt := tp 6
theorem sc_is_whole : FnScope ["value"] ["value"] (defScope s_whole) := ⟨rfl, rfl, rfl, by decide +kernel, rfl, by decide +kernel, by decide +kernel⟩
def spWhole (K : PySem.W.Frag) : Sp := fun vs H Q _ => ∃ x, vs = [x] ∧ Known K H x ∧ Q (.bl (isI x)) H
theorem ok_whole {f : Addr} {fd : FuncData} (F : Fun K "is_whole" "is_whole" s_whole f fd) (B : Bl mg) : FnOk P w K mg base CX0 1 f fd ["value"] (spWhole K) := by
  refine F.ok sc_is_whole (fun vs H Q E h => ?_) (fun cdv A outer s H vs Q E hr h => ?_)
  · obtain ⟨x, rfl, _⟩ := h
    rfl
  · obtain ⟨x, rfl, ⟨t, i, b, l, u, kd⟩, q⟩ := h
    refine ⟨_, (pss_one (ps_ret (pe_and (pe_callB call_isi rfl B.isinstance PyProof.Rows.boot_isinstance (pa_cons (pv 0) (pa_cons (pe_bltn (v := .ty "int") rfl B.int boot_int rfl) pa_nil))) (pe_one (pe_not (pe_callB call_isi rfl B.isinstance PyProof.Rows.boot_isinstance (pa_cons (pv 0) (pa_cons (pe_bltn (v := .ty "bool") rfl B.bool boot_bool rfl) pa_nil)))))))), ?_⟩
    have kw := kd.whole
    refine ⟨_, rfl, x, _, _, t, i, rfl, rfl, kd.ty, kd.isInt, _, rfl, ?_⟩
    cases i with
    | false =>
      refine iteF ?_
      rw [← kw] at q
      exact q
    | true =>
      refine iteT ?_
      refine ⟨_, rfl, x, _, _, t, b, rfl, rfl, kd.ty, kd.isBool, _, rfl, ?_⟩
      rw [← kw] at q
      exact q
def plI (x : V) (n : Int) : Bool := match x with
  | .int i => decide (0 ≤ i) && decide (i < n)
  | _ => false
def okE (x y z : V) : Bool := match x, y, z with
  | .int a, .int b, .int c => decide (a ≠ b) && decide (0 < c)
  | _, _, _ => false
def okV (n : Int) (xs : List V) : Bool := match xs with
  | [x, y, z] => plI x n && plI y n && okE x y z
  | _ => false
end
end My
end
section
set_option maxRecDepth 100000
set_option Elab.async false
set_option linter.all false
set_option maxHeartbeats 1000000
namespace My
open PySem L2 L3
theorem cb1 {R : List V → Hp → VK → Prop} {te : TE} {σ : L2.St} {H : Hp} {Q : VK} (h : te σ H fun x H1 => R [x] H1 Q) : tCB R (tCons te tNil) σ H Q := h
theorem cset {i : Nat} {v : V} {U : TS} {D : Ends} {σ : L2.St} {H : Hp} (h : U D (σ.set i (some v)) H) : tSeq (tAsg (tC v) (gName i)) U D σ H := h
section
variable {P : Program} {w : World} {K : PySem.W.Frag} {mg : Str → Option Value} {base : Heap}
abbrev s_share : Stmt := tp 7
theorem sc_is_share : FnScope ["value"] ["value"] (defScope s_share) := ⟨rfl, rfl, rfl, by decide +kernel, rfl, by decide +kernel, by decide +kernel⟩
def spShare : Sp := fun vs H Q _ => ∃ n : Int, vs = [.int n] ∧ Q (.bl (decide (-1000000 ≤ n) && decide (n ≤ 1000000))) H
theorem ok_share {f : Addr} {fd : FuncData} {tB : Tok} (F : Fun K "is_share" "is_share" s_share f fd) (g_BOUND : mg "BOUND" = some (.int 1000000 tB)) (c_is_whole : Ok P w K mg base 1 "is_whole" ["value"] (spWhole K)) : FnOk P w K mg base CX0 2 f fd ["value"] spShare := by
  refine F.ok sc_is_share (fun vs H Q E h => ?_) (fun cdv A outer s H vs Q E hr h => ?_)
  · obtain ⟨n, rfl, _⟩ := h
    rfl
  · obtain ⟨n, rfl, q⟩ := h
    refine ⟨_, (pss_one (ps_ret (pe_and (pe_callO c_is_whole (hr.mono (by decide)) rfl (pa_cons (pv 0) pa_nil)) (pe_one (pe_chain op_le op_le (pe_un un_neg (pe_glob (v := .int 1000000) rfl g_BOUND ⟨_, rfl⟩)) (pv 0) (pe_glob (v := .int 1000000) rfl g_BOUND ⟨_, rfl⟩)))))), ?_⟩
    refine ⟨_, rfl, .int n, rfl, ⟨_, _, _, _, _, .int n⟩, _, rfl, ?_⟩
    refine iteT ?_
    refine ⟨_, rfl, _, rfl, _, _, rfl, rfl, _, rfl, ?_⟩
    by_cases h1 : (-1000000 : Int) ≤ n
    · rw [decide_eq_true h1] at q ⊢
      exact ⟨_, _, rfl, rfl, q⟩
    · rw [decide_eq_false h1] at q ⊢
      exact q
abbrev s_ckrow : Stmt := tp 8
theorem sc_check_row : FnScope ["row", "share"] ["row"] (defScope s_ckrow) := ⟨rfl, rfl, rfl, by decide +kernel, rfl, by decide +kernel, by decide +kernel⟩
def spCkRow : Sp := fun vs H Q _ => ∃ (p : Addr) (rs : List Int), vs = [.ref p] ∧ H p = some (.lst (iV rs)) ∧ rs ≠ [] ∧ Bd 1000000 rs ∧ Q .non H
theorem ok_ckrow {f : Addr} {fd : FuncData} (F : Fun K "check_row" "check_row" s_ckrow f fd) (B : Bl mg) (c_is_share : Ok P w K mg base 2 "is_share" ["value"] spShare) : FnOk P w K mg base CX0 3 f fd ["row"] spCkRow := by
  refine F.ok sc_check_row (fun vs H Q E h => ?_) (fun cdv A outer s H vs Q E hr h => ?_)
  · obtain ⟨p, rs, rfl, _⟩ := h
    rfl
  · obtain ⟨p, rs, rfl, hp, hne, hb, q⟩ := h
    refine ⟨_, (pss_cons (ps_if (PW.pt (pw_or (pt_not (pt_val (pe_callB call_isi rfl B.isinstance PyProof.Rows.boot_isinstance (pa_cons (pv 0) (pa_cons (pe_bltn (v := .ty "list") rfl B.list boot_list rfl) pa_nil))))) (pw_or1 (pt_cmpR op_eq (pe_callB call_len_seq rfl B.len PySem.boot_len (pa_cons (pv 0) pa_nil)) pe_int (nomark _))))) (pss_one ps_never) pss_nil)
      (pss_one (ps_for PassesOwn.never rfl (pi_list (pv 0)) (pg_name (i := 1) sc_check_row.nd rfl (Or.inl rfl))
      (pss_one (ps_if (pt_not (pt_val (pe_callO c_is_share (hr.mono (by decide)) rfl (pa_cons (pv 1) pa_nil)))) (pss_one ps_never) pss_nil))))), ?_⟩
    refine seq_join (fun σ' H' => σ' = [some (.ref p), none] ∧ H' = H) (fun N hN => ?_) ?_
    · refine ⟨_, rfl, .ref p, _, _, _, true, rfl, rfl, .lst hp, rfl, _, rfl, ?_⟩
      refine iteF ?_
      refine ⟨_, rfl, p, _, rfl, .inl (SqL.of hp), rfl, _, rfl, ?_⟩
      have e : decide (V.int ((iV rs).length : Int) = V.int 0) = false := decide_eq_false fun z => by
        injection z with z
        rw [iV_len] at z
        exact hne (List.length_eq_zero_iff.mp (by omega))
      rw [e]
      exact iteF (hN _ _ ⟨rfl, rfl⟩)
    · rintro σ' H' ⟨rfl, rfl⟩
      refine ⟨_, rfl, p, rfl, ⟨_, SqL.of hp⟩, for_list (K := K) (a := p) (xs := iV rs) (fun i σ H2 => ∃ v, σ = [some (.ref p), v] ∧ H2 = H') ⟨none, rfl, rfl⟩ (fun i σ H2 _ ⟨_, _, e⟩ => by rw [e]; exact SqL.of hp) ?_ ?_⟩
      · rintro i y σ H2 hi ⟨v, rfl, rfl⟩
        obtain ⟨n, hn, rfl⟩ : ∃ n, rs[i]? = some n ∧ y = V.int n := by
          rw [List.getElem?_map] at hi
          cases e : rs[i]? with
          | none => rw [e] at hi; cases hi
          | some n => rw [e] at hi; exact ⟨n, rfl, (Option.some.inj hi).symm⟩
        have bn := hb n (List.mem_of_getElem? hn)
        refine ⟨_, rfl, n, rfl, ?_⟩
        rw [decide_eq_true bn.1, decide_eq_true bn.2]
        refine ⟨_, rfl, ?_⟩
        exact iteF ⟨_, rfl, rfl⟩
      · rintro σ H2 ⟨v, rfl, rfl⟩
        exact q
abbrev s_ckamt : Stmt := tp 11
theorem sc_check_amount : FnScope ["amount"] ["amount"] (defScope s_ckamt) := ⟨rfl, rfl, rfl, by decide +kernel, rfl, by decide +kernel, by decide +kernel⟩
def spCkAmt : Sp := fun vs H Q _ => ∃ n : Int, vs = [.int n] ∧ 0 ≤ n ∧ n ≤ 1000000000 ∧ Q .non H
theorem ok_ckamt {f : Addr} {fd : FuncData} {tB : Tok} (F : Fun K "check_amount" "check_amount" s_ckamt f fd) (g_MOST : mg "MOST" = some (.int 1000000000 tB)) (c_is_whole : Ok P w K mg base 1 "is_whole" ["value"] (spWhole K)) : FnOk P w K mg base CX0 2 f fd ["amount"] spCkAmt := by
  refine F.ok sc_check_amount (fun vs H Q E h => ?_) (fun cdv A outer s H vs Q E hr h => ?_)
  · obtain ⟨n, rfl, _⟩ := h
    rfl
  · obtain ⟨n, rfl, h0, h1, q⟩ := h
    refine ⟨_, (pss_one (ps_if (PW.pt (pw_or (pt_not (pt_val (pe_callO c_is_whole (hr.mono (by decide)) rfl (pa_cons (pv 0) pa_nil)))) (pw_or1 (pt_not (pt_chain op_le op_le pe_int (pv 0) (pe_glob (v := .int 1000000000) rfl g_MOST ⟨_, rfl⟩)))))) (pss_one ps_never) pss_nil)), ?_⟩
    refine ⟨_, rfl, .int n, rfl, ⟨_, _, _, _, _, .int n⟩, _, rfl, ?_⟩
    refine iteF ?_
    refine ⟨_, rfl, _, _, rfl, rfl, _, rfl, ?_⟩
    rw [decide_eq_true h0]
    refine ⟨_, _, rfl, rfl, _, rfl, ?_⟩
    rw [decide_eq_true h1]
    exact iteF q
abbrev s_lvl : Stmt := tp 12
theorem sc_level_behind : FnScope ["row", "amount", "together", "many", "share"] ["row", "amount"] (defScope s_lvl) := ⟨rfl, rfl, rfl, by decide +kernel, rfl, by decide +kernel, by decide +kernel⟩
def spLvl : Sp := fun vs H Q _ => ∃ (p : Addr) (rs : List Int) (a : Int), vs = [.ref p, .int a] ∧ H p = some (.lst (iV rs)) ∧ rs ≠ [] ∧ rs.length ≤ 1000 ∧ 0 ≤ a ∧ ∀ (L : Int) (H' : Hp), abv rs L ≤ a → a < abv rs (L - 1) → Same H H' → Q (.int L) H'
theorem ok_lvl {f : Addr} {fd : FuncData} (F : Fun K "level_behind" "level_behind" s_lvl f fd) (B : Bl mg) : FnOk P w K mg base CX0 1 f fd ["row", "amount"] spLvl := by
  refine F.ok sc_level_behind (fun vs H Q E h => ?_) (fun cdv A outer s H vs Q E hr h => ?_)
  · obtain ⟨p, rs, a, rfl, _⟩ := h
    rfl
  · obtain ⟨p, rs, a, rfl, hp, hne, hl, h0, k⟩ := h
    refine ⟨_, (pss_cons (ps_set (i := 2) sc_level_behind.nd rfl (Or.inl rfl) pe_int)
      (pss_cons (ps_set (i := 3) sc_level_behind.nd rfl (Or.inl rfl) pe_int)
      (pss_cons (ps_for PassesOwn.never rfl (pi_list (pe_sortedR rfl B.sorted (pa_cons (pv 0) pa_nil))) (pg_name (i := 4) sc_level_behind.nd rfl (Or.inl rfl))
      (pss_cons (ps_if (pt_cmpR op_gt (pe_op op_sub (pv 2) (pe_op op_mul (pv 3) (pv 4))) (pv 1) (nomark _)) (pss_one ps_break) pss_nil)
      (pss_cons (ps_aug (i := 2) sc_level_behind.nd rfl (Or.inl rfl) (pv 4) ip_add)
      (pss_one (ps_aug (i := 3) sc_level_behind.nd rfl (Or.inl rfl) pe_int ip_add)))))
      (pss_one (ps_ret (pe_un un_neg (pe_op op_fdiv (pe_op op_sub (pv 1) (pv 2)) (pv 3)))))))), ?_⟩
    have np : 1 ≤ rs.length := by cases rs with | nil => exact absurd rfl hne | cons _ _ => simp
    generalize hw : (srt rs).reverse = w
    have wl : w.length = rs.length := by rw [← hw]; exact srtr_len rs
    have tw : ∀ m, m ≤ rs.length → (w.take m).sum = top m rs := fun m hm => by rw [← hw]; exact top_rev hm
    refine cset (cset ?_)
    refine seq_join (fun σ' H' => ∃ (m : Nat) (v : Option V), σ' = [some (.ref p), some (.int a), some (.int (top m rs)), some (.int m), v] ∧ 1 ≤ m ∧ m ≤ rs.length ∧ top m rs - m * (w.getD (m - 1) 0) ≤ a ∧ (m < rs.length → a < top m rs - m * (w.getD m 0)) ∧ Same H H') (fun N hN => ?_) ?_
    · refine ⟨_, rfl, p, rs, rfl, SqL.of hp, fun l hl2 => ?_⟩
      rw [if_pos rfl, hw]
      have s2 := same_new (o := .lst (iV w)) hl2
      refine ⟨l, rfl, ⟨_, SqL.of upd_same⟩, for_list (K := K) (a := l) (xs := iV w) (fun i σ H2 => ∃ v, σ = [some (.ref p), some (.int a), some (.int ((w.take i).sum)), some (.int i), v] ∧ H2 = upd H l (.lst (iV w)) ∧ (1 ≤ i → top i rs - i * (w.getD (i - 1) 0) ≤ a)) ⟨none, rfl, rfl, fun z => absurd z (by decide)⟩ (fun i σ H2 _ ⟨_, _, e, _⟩ => by rw [e]; exact SqL.of upd_same) ?_ ?_⟩
      · rintro i y σ H2 hi ⟨v, rfl, rfl, hin⟩
        obtain ⟨n, hn, rfl⟩ := iV_get hi
        have hiw : i < w.length := (List.getElem?_eq_some_iff.mp hn).1
        have gd : w.getD i 0 = n := by rw [List.getD_eq_getElem?_getD, hn]; rfl
        refine ⟨_, rfl, _, rfl, _, rfl, _, _, rfl, rfl, .inl ⟨by omega, by omega⟩, _, _, rfl, rfl, _, rfl, _, _, rfl, rfl, _, rfl, ?_⟩
        refine ite2 (fun h1 => ?_) (fun h1 => ?_)
        · rw [decide_eq_true_eq] at h1
          have i1 : 1 ≤ i := by
            by_cases z : i = 0
            · subst z; simp at h1; omega
            · omega
          refine hN _ _ ⟨i, some (.int n), ?_, i1, by omega, hin i1, fun _ => ?_, s2⟩
          · rw [tw i (by omega)]; rfl
          · rw [← tw i (by omega), gd]; exact h1
        · rw [decide_eq_true_eq] at h1
          refine ⟨_, rfl, _, rfl, _, _, rfl, rfl, ?_⟩
          refine ⟨_, rfl, _, _, rfl, rfl, ?_⟩
          refine ⟨some (.int n), ?_, rfl, fun _ => ?_⟩
          · rw [tk_snoc hn, List.sum_append]
            simp
          · rw [← tw (i + 1) (by omega), tk_snoc hn, List.sum_append, Nat.add_sub_cancel, gd]
            simp only [List.sum_cons, List.sum_nil, Int.add_zero, Int.natCast_add, Int.natCast_one]
            rw [Int.add_mul, Int.one_mul]
            omega
      · rintro σ H2 ⟨v, rfl, rfl, hin⟩
        rw [iV_len, wl] at hin ⊢
        refine hN _ _ ⟨rs.length, v, ?_, np, Nat.le_refl _, hin np, fun z => absurd z (Nat.lt_irrefl _), s2⟩
        rw [tw _ (Nat.le_refl _)]
    · rintro σ' H' ⟨m, v, rfl, h1, hm, hin, hout, s1⟩
      refine ⟨_, rfl, _, rfl, _, _, rfl, rfl, _, rfl, _, _, rfl, rfl, ⟨by omega, by omega⟩, _, rfl, ?_⟩
      subst hw
      have := level_ok h1 hm hin hout
      exact k _ _ this.1 this.2 s1
abbrev s_turned : Stmt := tp 14
theorem sc_turned : FnScope ["row"] ["row"] (defScope s_turned) := ⟨rfl, rfl, rfl, by decide +kernel, rfl, by decide +kernel, by decide +kernel⟩
def spTurn : Sp := fun vs H Q _ => ∃ (p : Addr) (rs : List Int), vs = [.ref p] ∧ H p = some (.lst (iV rs)) ∧ rs.length ≤ 1000 ∧ ∀ q, H q = none → Q (.ref q) (upd H q (.lst (iV (rs.map Int.neg))))
theorem ok_turned {f : Addr} {fd : FuncData} (F : Fun K "turned" "turned" s_turned f fd) : FnOk P w K mg base CX0 1 f fd ["row"] spTurn := by
  refine F.ok sc_turned (fun vs H Q E h => ?_) (fun cdv A outer s H vs Q E hr h => ?_)
  · obtain ⟨p, rs, rfl, _⟩ := h
    rfl
  · obtain ⟨p, rs, rfl, hp, hl, k⟩ := h
    refine ⟨_, (pss_one (ps_ret (pe_comp rfl rfl (compSc_of (sc0 := defScope s_turned) (N := ["row"]) (caps := []) (idx := []) rfl rfl (by decide +kernel)) (pi_list (pv 0)) (fun _ _ _ _ _ => pts_nil) (fun _ _ _ _ _ => (pe_un un_neg (pv 0)))))), ?_⟩
    refine comp_of (a := p) (fun n => some (.int (Int.neg n))) (fun R r => ⟨_, rfl, r⟩) (SqL.of hp) hl (fun n _ H' R r => r) (fun n _ v e H' R r => ?_) (fun D hD => ?_)
    · cases e
      exact ⟨_, rfl, _, rfl, r⟩
    · rw [fm_some]
      exact k D hD
end
end My
end
section
set_option maxRecDepth 100000
set_option Elab.async false
set_option linter.all false
set_option maxHeartbeats 1000000
namespace My
open PySem L2 L3
theorem fm_abv (L : Int) : ∀ rs : List Int, (rs.filterMap fun n => if L < n then some (n - L) else none).sum = abv rs L
  | [] => rfl
  | x :: t => by
    rw [abv_cons, List.filterMap_cons, ← fm_abv L t]
    unfold ab1
    by_cases h : L < x
    · rw [if_pos h, if_pos h, List.sum_cons]
    · rw [if_neg h, if_neg h, Int.zero_add]
def rstL (L r : Int) (l : List Int) : Int := if cn L l < r then r - cn L l else 0
section
variable {P : Program} {w : World} {K : PySem.W.Frag} {mg : Str → Option Value} {base : Heap}
abbrev s_lowd : Stmt := tp 13
theorem sc_lowered : FnScope ["row", "amount", "level", "rest", "behind", "share", "left"] ["row", "amount"] (defScope s_lowd) := ⟨rfl, rfl, rfl, by decide +kernel, rfl, by decide +kernel, by decide +kernel⟩
def spLow : Sp := fun vs H Q _ => ∃ (p : Addr) (rs : List Int) (a : Int), vs = [.ref p, .int a] ∧ H p = some (.lst (iV rs)) ∧ rs ≠ [] ∧ rs.length ≤ 1000 ∧ 0 ≤ a ∧ (∀ out, Low rs a out → ∀ y ∈ out, -1000000 ≤ y) ∧
  ∀ (out : List Int) (q : Addr) (H' : Hp), Low rs a out → H q = none → H' q = some (.lst (iV out)) → Same H H' → Q (.ref q) H'
theorem ok_lowd {f : Addr} {fd : FuncData} {tB : Tok} (F : Fun K "lowered" "lowered" s_lowd f fd) (B : Bl mg) (g_BOUND : mg "BOUND" = some (.int 1000000 tB)) (c_level_behind : Ok P w K mg base 1 "level_behind" ["row", "amount"] spLvl) : FnOk P w K mg base CX0 2 f fd ["row", "amount"] spLow := by
  refine F.ok sc_lowered (fun vs H Q E h => ?_) (fun cdv A outer s H vs Q E hr h => ?_)
  · obtain ⟨p, rs, a, rfl, _⟩ := h
    rfl
  · obtain ⟨p, rs, a, rfl, hp, hne, hl, h0, hge, k⟩ := h
    refine ⟨_, (pss_cons (ps_set (i := 2) sc_lowered.nd rfl (Or.inr rfl) (pe_callO c_level_behind (hr.mono (by decide)) rfl (pa_cons (pv 0) (pa_cons (pv 1) pa_nil))))
      (pss_cons (ps_set (i := 3) sc_lowered.nd rfl (Or.inl rfl) (pe_op op_sub (pv 1) (pe_callB (call_sum rfl) rfl B.sum boot_sum (pa_cons (pe_comp rfl rfl (compSc_of (sc0 := defScope s_lowd) (N := ["row", "amount", "level", "rest", "behind", "share", "left"]) (caps := ["level"]) (idx := [2]) rfl rfl (by decide +kernel)) (pi_list (pv 0)) (fun _ _ _ _ _ => (pts_one (pt_cmpR op_gt (pv 0) (pv 1) (nomark _)))) (fun _ _ _ _ _ => (pe_op op_sub (pv 0) (pv 1)))) pa_nil))))
      (pss_cons (ps_set (i := 4) sc_lowered.nd rfl (Or.inl rfl) (pe_lst pa_nil))
      (pss_cons (ps_for PassesOwn.never rfl (pi_list (pv 0)) (pg_name (i := 5) sc_lowered.nd rfl (Or.inl rfl))
      (pss_cons (ps_set (i := 6) sc_lowered.nd rfl (Or.inl rfl) (pe_callB (call_min2 rfl) rfl B.min boot_min (pa_cons (pv 5) (pa_cons (pv 2) pa_nil))))
      (pss_cons (ps_if (PW.pt (pw_and (pt_cmpR op_eq (pv 6) (pv 2) (nomark _)) (pw_and1 (pt_cmpR op_gt (pv 3) pe_int (nomark _))))) (pss_cons (ps_aug (i := 6) sc_lowered.nd rfl (Or.inl rfl) pe_int ip_sub)
      (pss_one (ps_aug (i := 3) sc_lowered.nd rfl (Or.inl rfl) pe_int ip_sub))) pss_nil)
      (pss_one (ps_expr (pe_bm PySem.F.plainAttrs_list PySem.F.slot_list_append PySem.F.type_list_append mt_append (pv 4) (pa_cons (pv 6) pa_nil)))))))
      (pss_cons (ps_if (pt_cmpR op_lt (pe_callB (call_minL rfl) rfl B.min boot_min (pa_cons (pv 4) pa_nil)) (pe_un un_neg (pe_glob (v := .int 1000000) rfl g_BOUND ⟨_, rfl⟩)) (nomark _)) (pss_one ps_never) pss_nil)
      (pss_one (ps_ret (pv 4)))))))), ?_⟩
    refine ⟨_, rfl, _, rfl, p, rs, a, rfl, hp, hne, hl, h0, fun L H1 hlo hhi s1 => ?_⟩
    have hp1 := s1 _ _ hp
    refine ⟨_, rfl, ?_⟩
    refine cb1 ?_
    refine comp_of (a := p) (fun n => (if L < n then some (n - L) else none : Option Int).map V.int) (fun R r => ⟨_, rfl, r⟩) (SqL.of hp1) hl (fun n _ H' R r => ?_) (fun n _ v e H' R r => ?_) (fun D hD => ?_)
    · refine ⟨_, rfl, _, rfl, _, _, rfl, rfl, _, rfl, ?_⟩
      by_cases h : L < n
      · rw [if_pos h] at r
        rw [decide_eq_true h]
        exact r
      · rw [if_neg h] at r
        rw [decide_eq_false h]
        exact r
    · by_cases h : L < n
      · rw [if_pos h] at e
        cases e
        exact ⟨_, rfl, _, rfl, _, _, rfl, rfl, r⟩
      · rw [if_neg h] at e
        cases e
    rw [fm_ints]
    have s2 := s1.trans (same_new (o := .lst (iV (rs.filterMap fun n => if L < n then some (n - L) else none))) hD)
    refine ⟨D, _, rfl, SqL.of upd_same, _, _, rfl, rfl, ?_⟩
    rw [fm_abv]
    refine gN ?_
    dsimp only
    generalize hH2 : upd H1 D (.lst (iV (rs.filterMap fun n => if L < n then some (n - L) else none))) = H2 at s2
    generalize hr' : a - abv rs L = r
    have r0 : 0 ≤ r := by omega
    refine ⟨Nat.zero_le _, fun b hb => ?_⟩
    refine gN ?_
    dsimp only
    have hb0 : H b = none := s2.free hb
    have low : Low rs a (cutL L r rs) := ⟨L, hlo, hhi, by rw [hr']⟩
    have ol := cutL_len L rs r
    refine seq_join (fun σ' H' => ∃ v3 v5 v6, σ' = [some (.ref p), some (.int a), some (.int L), v3, some (.ref b), v5, v6] ∧ Same H H' ∧ H' b = some (.lst (iV (cutL L r rs)))) (fun N hN => ?_) ?_
    · refine ⟨_, rfl, p, rfl, ⟨_, SqL.of ((same_upd s2 hb0) _ _ hp)⟩, for_list (K := K) (a := p) (xs := iV rs) (fun i σ H3 => ∃ v5 v6, σ = [some (.ref p), some (.int a), some (.int L), some (.int (rstL L r (rs.take i))), some (.ref b), v5, v6] ∧ Same H H3 ∧ H3 b = some (.lst (iV ((cutL L r rs).take i)))) ⟨none, none, ?_, same_upd s2 hb0, upd_same⟩ (fun i σ H3 _ ⟨_, _, _, e, _⟩ => SqL.of (e _ _ hp)) ?_ ?_⟩
      · unfold rstL
        rw [List.take_zero]
        show _ = [_, _, _, some (V.int (if (0 : Int) < r then r - 0 else 0)), _, _, _]
        have : (if (0 : Int) < r then r - 0 else 0) = r := by split <;> omega
        rw [this]
        rfl
      · rintro i y σ H3 hi ⟨v5, v6, rfl, s3, h3⟩
        obtain ⟨x, hx, rfl⟩ := iV_get hi
        have hil : i < rs.length := (List.getElem?_eq_some_iff.mp hx).1
        have hy := cutL_at L rs r i x hx
        generalize hyy : (if L ≤ x then (if cn L (rs.take i) < r then L - 1 else L) else x) = y at hy
        have hc := cn_nn L (rs.take i)
        have rn : rstL L r (rs.take (i + 1)) = if L ≤ x then (if cn L (rs.take i) < r then rstL L r (rs.take i) - 1 else rstL L r (rs.take i)) else rstL L r (rs.take i) := by
          unfold rstL
          rw [tk_snoc hx, cn_snoc]
          by_cases c1 : L ≤ x
          · rw [if_pos c1, if_pos c1]
            by_cases c2 : cn L (rs.take i) < r
            · rw [if_pos c2, if_pos c2]; split <;> omega
            · rw [if_neg c2, if_neg c2, if_neg (by omega)]
          · rw [if_neg c1, if_neg c1, Int.add_zero]
        -- left = min(share, level)
        refine ⟨_, rfl, _, rfl, _, _, rfl, ?_⟩
        refine gN ?_
        dsimp only
        refine seq_join (fun σ' H' => σ' = [some (.ref p), some (.int a), some (.int L), some (.int (rstL L r (rs.take (i + 1)))), some (.ref b), some (.int x), some (.int y)] ∧ H' = H3) (fun N2 hN2 => ?_) ?_
        · refine ⟨_, rfl, _, rfl, rfl, _, rfl, ?_⟩
          by_cases c1 : L ≤ x
          · have e1 : (if L < x then L else x) = L := by split <;> omega
            rw [if_pos c1] at hyy rn
            rw [e1, decide_eq_true rfl]
            refine iteT ?_
            refine ⟨_, rfl, _, _, rfl, rfl, _, rfl, ?_⟩
            by_cases c2 : cn L (rs.take i) < r
            · rw [if_pos c2] at hyy rn
              have e2 : rstL L r (rs.take i) > 0 := by unfold rstL; rw [if_pos c2]; omega
              rw [decide_eq_true e2]
              refine iteT ?_
              refine ⟨_, rfl, _, _, rfl, rfl, ?_⟩
              refine ⟨_, rfl, _, _, rfl, rfl, ?_⟩
              refine hN2 _ _ ⟨?_, rfl⟩
              rw [rn, ← hyy]
              rfl
            · rw [if_neg c2] at hyy rn
              have e2 : ¬ rstL L r (rs.take i) > 0 := by unfold rstL; rw [if_neg c2]; omega
              rw [decide_eq_false e2]
              refine iteF (hN2 _ _ ⟨?_, rfl⟩)
              rw [rn, ← hyy]
              rfl
          · have e1 : (if L < x then L else x) = x := by split <;> omega
            rw [if_neg c1] at hyy rn
            have e2 : decide (V.int x = V.int L) = false := decide_eq_false fun z => by injection z with z; omega
            rw [e1, e2]
            refine iteF (hN2 _ _ ⟨?_, rfl⟩)
            rw [rn, ← hyy]
            rfl
        · rintro σ' H' ⟨rfl, rfl⟩
          refine ⟨_, rfl, .inl ⟨rfl, _, SqL.of h3⟩, _, rfl, b, _, _, rfl, rfl, h3, ?_, ?_⟩
          · rw [iV_len, List.length_take]; exact small1000 (by omega)
          · rw [iV_sn, ← tk_snoc hy]
            refine ⟨_, _, rfl, fun c o e => ?_, upd_same⟩
            rw [upd_ne (ne_of_none e hb0)]; exact s3 _ _ e
      · rintro σ H3 ⟨v5, v6, rfl, s3, h3⟩
        rw [iV_len, ← ol, List.take_of_length_le (Nat.le_refl _)] at h3
        exact hN _ _ ⟨_, _, _, rfl, s3, h3⟩
    · rintro σ' H' ⟨v3, v5, v6, rfl, s3, h3⟩
      have on : cutL L r rs ≠ [] := fun z => by rw [z] at ol; exact hne (List.length_eq_zero_iff.mp ol.symm)
      refine ⟨_, rfl, b, _, rfl, SqL.of h3, on, fun M hM _ => ?_⟩
      refine ⟨_, rfl, _, _, rfl, rfl, _, rfl, ?_⟩
      have := hge _ low M hM
      have e : decide (M < -1000000) = false := decide_eq_false (by omega)
      rw [e]
      refine iteF ?_
      exact ⟨_, rfl, k _ b _ low hb0 h3 s3⟩
abbrev s_taken : Stmt := tp 15
theorem sc_taken : FnScope ["row", "amount"] ["row", "amount"] (defScope s_taken) := ⟨rfl, rfl, rfl, by decide +kernel, rfl, by decide +kernel, by decide +kernel⟩
def spTaken : Sp := fun vs H Q _ => ∃ (p : Addr) (rs : List Int) (a : Int), vs = [.ref p, .int a] ∧ H p = some (.lst (iV rs)) ∧ rs ≠ [] ∧ rs.length ≤ 1000 ∧ Bd 1000000 rs ∧ 0 ≤ a ∧ a ≤ 1000000000 ∧ (∀ out, Low rs a out → ∀ y ∈ out, -1000000 ≤ y) ∧
  ∀ (out : List Int) (q : Addr) (H' : Hp), Low rs a out → H q = none → H' q = some (.lst (iV out)) → Same H H' → Q (.ref q) H'
theorem ok_taken {f : Addr} {fd : FuncData} (F : Fun K "taken" "taken" s_taken f fd) (c_check_row : Ok P w K mg base 3 "check_row" ["row"] spCkRow) (c_check_amount : Ok P w K mg base 2 "check_amount" ["amount"] spCkAmt) (c_lowered : Ok P w K mg base 2 "lowered" ["row", "amount"] spLow) : FnOk P w K mg base CX0 4 f fd ["row", "amount"] spTaken := by
  refine F.ok sc_taken (fun vs H Q E h => ?_) (fun cdv A outer s H vs Q E hr h => ?_)
  · obtain ⟨p, rs, a, rfl, _⟩ := h
    rfl
  · obtain ⟨p, rs, a, rfl, hp, hne, hl, hb, h0, h1, hge, k⟩ := h
    refine ⟨_, (pss_cons (ps_expr (pe_callO c_check_row (hr.mono (by decide)) rfl (pa_cons (pv 0) pa_nil)))
      (pss_cons (ps_expr (pe_callO c_check_amount (hr.mono (by decide)) rfl (pa_cons (pv 1) pa_nil)))
      (pss_one (ps_ret (pe_callO c_lowered (hr.mono (by decide)) rfl (pa_cons (pv 0) (pa_cons (pv 1) pa_nil))))))), ?_⟩
    refine ⟨_, rfl, p, rs, rfl, hp, hne, hb, ?_⟩
    refine ⟨_, rfl, a, rfl, h0, h1, ?_⟩
    exact ⟨_, rfl, _, rfl, p, rs, a, rfl, hp, hne, hl, h0, hge, k⟩
abbrev s_poured : Stmt := tp 16
theorem sc_poured : FnScope ["row", "amount"] ["row", "amount"] (defScope s_poured) := ⟨rfl, rfl, rfl, by decide +kernel, rfl, by decide +kernel, by decide +kernel⟩
def spPoured : Sp := fun vs H Q _ => ∃ (p : Addr) (rs : List Int) (a : Int), vs = [.ref p, .int a] ∧ H p = some (.lst (iV rs)) ∧ rs ≠ [] ∧ rs.length ≤ 1000 ∧ Bd 1000000 rs ∧ 0 ≤ a ∧ a ≤ 1000000000 ∧ (∀ out, Low (rs.map Int.neg) a out → ∀ y ∈ out, -1000000 ≤ y) ∧
  ∀ (out : List Int) (q : Addr) (H' : Hp), Low (rs.map Int.neg) a out → H q = none → H' q = some (.lst (iV (out.map Int.neg))) → Same H H' → Q (.ref q) H'
theorem ok_poured {f : Addr} {fd : FuncData} (F : Fun K "poured" "poured" s_poured f fd) (c_check_row : Ok P w K mg base 3 "check_row" ["row"] spCkRow) (c_check_amount : Ok P w K mg base 2 "check_amount" ["amount"] spCkAmt) (c_lowered : Ok P w K mg base 2 "lowered" ["row", "amount"] spLow) (c_turned : Ok P w K mg base 1 "turned" ["row"] spTurn) : FnOk P w K mg base CX0 4 f fd ["row", "amount"] spPoured := by
  refine F.ok sc_poured (fun vs H Q E h => ?_) (fun cdv A outer s H vs Q E hr h => ?_)
  · obtain ⟨p, rs, a, rfl, _⟩ := h
    rfl
  · obtain ⟨p, rs, a, rfl, hp, hne, hl, hb, h0, h1, hge, k⟩ := h
    refine ⟨_, (pss_cons (ps_expr (pe_callO c_check_row (hr.mono (by decide)) rfl (pa_cons (pv 0) pa_nil)))
      (pss_cons (ps_expr (pe_callO c_check_amount (hr.mono (by decide)) rfl (pa_cons (pv 1) pa_nil)))
      (pss_one (ps_ret (pe_callO c_turned (hr.mono (by decide)) rfl (pa_cons (pe_callO c_lowered (hr.mono (by decide)) rfl (pa_cons (pe_callO c_turned (hr.mono (by decide)) rfl (pa_cons (pv 0) pa_nil)) (pa_cons (pv 1) pa_nil))) pa_nil)))))), ?_⟩
    refine ⟨_, rfl, p, rs, rfl, hp, hne, hb, ?_⟩
    refine ⟨_, rfl, a, rfl, h0, h1, ?_⟩
    refine ⟨_, rfl, p, rs, rfl, hp, hl, fun q1 hq1 => ?_⟩
    have s1 := same_new (o := .lst (iV (rs.map Int.neg))) hq1
    refine ⟨_, rfl, q1, rs.map Int.neg, a, rfl, upd_same, fun z => hne (List.map_eq_nil_iff.mp z), by rw [List.length_map]; exact hl, h0, hge, fun out q2 H2 low hq2 h2 s2 => ?_⟩
    refine ⟨q2, out, rfl, h2, by rw [low.len, List.length_map]; exact hl, fun q3 hq3 => ?_⟩
    have s3 := (s1.trans s2).trans (same_new (o := .lst (iV (out.map Int.neg))) hq3)
    exact k out q3 _ low ((s1.trans s2).free hq3) upd_same s3
end
end My
end
section
set_option maxRecDepth 100000
set_option Elab.async false
set_option linter.all false
set_option maxHeartbeats 1000000
namespace My
open PySem L2 L3
theorem nxt {D : Ends} {σ : L2.St} {H : Hp} (h : D.nx σ H) : tNext D σ H := h
theorem rn1 {R : List V → Hp → VK → Prop} {te : TE} {D : Ends} {σ : L2.St} {H : Hp} (h : te σ H fun x H1 => R [x] H1 fun v H2 => tNotV (fun _ H Q => Q v H) σ H2 D.rt) : tRet (tNotV (tCB R (tCons te tNil))) D σ H := h
theorem fm_no (ns : List Int) : ns.filterMap (fun _ => some (V.bl false)) = bV (ns.map fun _ => false) := by
  induction ns with
  | nil => rfl
  | cons x t ih => exact congrArg (V.bl false :: ·) ih
theorem any_no (ns : List Int) : ((ns.map fun _ => false).any id) = false := by
  induction ns with
  | nil => rfl
  | cons x t ih => rw [List.map_cons, List.any_cons, ih]; rfl
/-- the level is the greatest of what is left -/
theorem cut_max {L r M : Int} {rs : List Int} (h0 : 0 ≤ r) (h1 : r < abv rs (L - 1) - abv rs L) (hM : M ∈ cutL L r rs) (ha : ∀ y ∈ cutL L r rs, y ≤ M) : M = L := by
  have a1 := cutL_le L rs r M hM
  have a2 := ha L (cutL_has L rs r h0 h1)
  omega
theorem dec1_at {M : Int} : ∀ {l : List Int} {i : Nat}, l[i]? = some M → (∀ j, j < i → l[j]? ≠ some M) → dec1 M l = l.take i ++ [M - 1] ++ l.drop (i + 1)
  | [], i, h, _ => by simp at h
  | x :: t, 0, h, _ => by
    simp at h
    subst h
    unfold dec1
    simp
  | x :: t, i + 1, h, hn => by
    have hx : x ≠ M := fun z => hn 0 (Nat.succ_pos _) (by rw [z]; rfl)
    have h' : t[i]? = some M := by simpa using h
    have ih := dec1_at h' fun j hj z => hn (j + 1) (Nat.succ_lt_succ hj) (by simpa using z)
    unfold dec1
    rw [if_neg hx, ih]
    simp
theorem first_at {M : Int} : ∀ {l : List Int}, M ∈ l → ∃ i : Nat, l[i]? = some M ∧ ∀ j, j < i → l[j]? ≠ some M
  | [], h => by cases h
  | x :: t, h => by
    by_cases hx : x = M
    · exact ⟨0, by rw [hx]; rfl, fun j hj => absurd hj (Nat.not_lt_zero _)⟩
    · obtain ⟨i, h1, h2⟩ := first_at (l := t) (by rcases List.mem_cons.mp h with e | e; exact absurd e.symm hx; exact e)
      refine ⟨i + 1, by simpa using h1, fun j hj z => ?_⟩
      cases j with
      | zero => simp at z; exact hx z
      | succ j => exact h2 j (by omega) (by simpa using z)
section
variable {P : Program} {w : World} {K : PySem.W.Frag} {mg : Str → Option Value} {base : Heap}
abbrev s_numbers : Stmt := tp 22
theorem sc__law_numbers : FnScope ["_law_found", "_law_many"] ["_law_found", "_law_many"] (defScope s_numbers) := ⟨rfl, rfl, rfl, by decide +kernel, rfl, by decide +kernel, by decide +kernel⟩
def spNum : Sp := fun vs H Q _ => ∃ (p : Addr) (rs : List Int) (m : Int), vs = [.ref p, .int m] ∧ H p = some (.lst (iV rs)) ∧ m = rs.length ∧ rs.length ≤ 1000 ∧ ∀ H', Same H H' → Q (.bl true) H'
theorem ok_numbers {f : Addr} {fd : FuncData} (F : Fun K "_law_numbers" "_law_numbers" s_numbers f fd) (B : Bl mg) : FnOk P w K mg base CX0 1 f fd ["_law_found", "_law_many"] spNum := by
  refine F.ok sc__law_numbers (fun vs H Q E h => ?_) (fun cdv A outer s H vs Q E hr h => ?_)
  · obtain ⟨p, rs, m, rfl, _⟩ := h
    rfl
  · obtain ⟨p, rs, m, rfl, hp, rfl, hl, k⟩ := h
    refine ⟨_, (pss_cons (ps_if (PW.pt (pw_or (pt_not (pt_val (pe_callB call_isi rfl B.isinstance PyProof.Rows.boot_isinstance (pa_cons (pv 0) (pa_cons (pe_bltn (v := .ty "list") rfl B.list boot_list rfl) pa_nil))))) (pw_or1 (pt_cmpR op_ne (pe_callB call_len_seq rfl B.len PySem.boot_len (pa_cons (pv 0) pa_nil)) (pv 1) (nomark _))))) (pss_one (ps_ret pe_bl)) pss_nil)
      (pss_one (ps_ret (pe_not (pe_callB (call_anyB rfl) rfl B.any boot_any (pa_cons (pe_comp rfl rfl (compSc_of (sc0 := defScope s_numbers) (N := ["_law_found", "_law_many"]) (caps := []) (idx := []) rfl rfl (by decide +kernel)) (pi_list (pv 0)) (fun _ _ _ _ _ => pts_nil) (fun _ _ _ _ _ => (pe_or (pe_callB (call_isiK (K := K) rfl) rfl B.isinstance PyProof.Rows.boot_isinstance (pa_cons (pv 0) (pa_cons (pe_bltn (v := .ty "bool") rfl B.bool boot_bool rfl) pa_nil))) (pe_one (pe_not (pe_callB (call_isiK (K := K) rfl) rfl B.isinstance PyProof.Rows.boot_isinstance (pa_cons (pv 0) (pa_cons (pe_bltn (v := .ty "int") rfl B.int boot_int rfl) pa_nil)))))))) pa_nil)))))), ?_⟩
    refine ⟨_, rfl, .ref p, _, _, _, true, rfl, rfl, .lst hp, rfl, _, rfl, ?_⟩
    refine iteF ?_
    refine ⟨_, rfl, p, _, rfl, .inl (SqL.of hp), _, rfl, rfl, _, rfl, ?_⟩
    have e : decide (V.int ((iV rs).length : Int) = V.int (rs.length : Int)) = true := decide_eq_true (by rw [iV_len])
    rw [e]
    refine iteF ?_
    refine nxt ?_
    dsimp only
    refine rn1 ?_
    refine comp_of (a := p) (fun _ => some (.bl false)) (fun R r => ⟨_, rfl, r⟩) (SqL.of hp) hl (fun n _ H' R r => r) (fun n _ v e H' R r => ?_) (fun D hD => ?_)
    · cases e
      refine ⟨_, rfl, .int n, _, _, _, false, rfl, rfl, .int n, rfl, _, rfl, ?_⟩
      refine iteF ?_
      exact ⟨_, rfl, .int n, _, _, _, true, rfl, rfl, .int n, rfl, _, rfl, r⟩
    · rw [fm_no]
      refine ⟨D, _, rfl, SqL.of upd_same, ?_⟩
      rw [any_no]
      exact ⟨_, rfl, k _ (same_new hD)⟩
abbrev s_llow : Stmt := tp 23
theorem sc__law_lowered : FnScope ["_law_row_here", "_law_found", "_law_amount", "_law_most", "_law_seen", "_law_share", "_law_left"] ["_law_row_here", "_law_found", "_law_amount"] (defScope s_llow) := ⟨rfl, rfl, rfl, by decide +kernel, rfl, by decide +kernel, by decide +kernel⟩
def spLLow : Sp := fun vs H Q _ => ∃ (p q : Addr) (rs out : List Int) (a : Int), vs = [.ref p, .ref q, .int a] ∧ H p = some (.lst (iV rs)) ∧ H q = some (.lst (iV out)) ∧ Low rs a out ∧ rs ≠ [] ∧ rs.length ≤ 1000 ∧ ∀ H', Same H H' → Q (.bl true) H'
theorem ok_llow {f : Addr} {fd : FuncData} (F : Fun K "_law_lowered" "_law_lowered" s_llow f fd) (B : Bl mg) (hzip : mg "zip" = none) (c_numbers : Ok P w K mg base 1 "_law_numbers" ["_law_found", "_law_many"] spNum) : FnOk P w K mg base CX0 2 f fd ["_law_row_here", "_law_found", "_law_amount"] spLLow := by
  refine F.ok sc__law_lowered (fun vs H Q E h => ?_) (fun cdv A outer s H vs Q E hr h => ?_)
  · obtain ⟨p, q, rs, out, a, rfl, _⟩ := h
    rfl
  · obtain ⟨p, q, rs, out, a, rfl, hp, hq, low, hne, hl, k⟩ := h
    refine ⟨_, (pss_cons (ps_if (PW.pt (pw_or (pt_not (pt_val (pe_callO c_numbers (hr.mono (by decide)) rfl (pa_cons (pv 1) (pa_cons (pe_callB call_len_seq rfl B.len PySem.boot_len (pa_cons (pv 0) pa_nil)) pa_nil))))) (pw_or1 (pt_cmpR op_ne (pe_op op_sub (pe_callB (call_sum rfl) rfl B.sum boot_sum (pa_cons (pv 0) pa_nil)) (pe_callB (call_sum rfl) rfl B.sum boot_sum (pa_cons (pv 1) pa_nil))) (pv 2) (nomark _))))) (pss_one (ps_ret pe_bl)) pss_nil)
      (pss_cons (ps_par rfl sc__law_lowered.nd (i := 3) (j := 4) rfl rfl (by decide) rfl rfl (pa_cons (pe_callB (call_maxL rfl) rfl B.max boot_max (pa_cons (pv 1) pa_nil)) (pa_cons pe_bl pa_nil)) rfl)
      (pss_cons (ps_for PassesOwn.never rfl (pi_zip rfl hzip (pa_cons (pv 0) (pa_cons (pv 1) pa_nil))) (pg_tup (n := 2) rfl (pgs_cons (pg_name (i := 5) sc__law_lowered.nd rfl (Or.inl rfl)) (pgs_cons (pg_name (i := 6) sc__law_lowered.nd rfl (Or.inl rfl)) pgs_nil)))
      (pss_cons (ps_if (PW.pt (pw_or (pt_cmpR op_gt (pv 6) (pv 5) (nomark _)) (pw_or1 (PW.pt (pw_and (pt_cmpR op_lt (pv 6) (pv 5) (nomark _)) (pw_and1 (pt_cmpR op_lt (pv 6) (pe_op op_sub (pv 3) pe_int) (nomark _)))))))) (pss_one (ps_ret pe_bl)) pss_nil)
      (pss_cons (ps_if (PW.pt (pw_and (pt_cmpR op_ge (pv 5) (pv 3) (nomark _)) (pw_and1 (pt_cmpR op_eq (pv 6) (pv 3) (nomark _))))) (pss_one (ps_set (i := 4) sc__law_lowered.nd rfl (Or.inl rfl) pe_bl)) pss_nil)
      (pss_cons (ps_if (PW.pt (pw_and (pt_cmpR op_ge (pv 5) (pv 3) (nomark _)) (pw_and (pt_cmpR op_lt (pv 6) (pv 3) (nomark _)) (pw_and1 (pt_val (pv 4)))))) (pss_one (ps_ret pe_bl)) pss_nil)
      (pss_one (ps_if (PW.pt (pw_and (pt_cmpR op_lt (pv 5) (pv 3) (nomark _)) (pw_and1 (pt_cmpR op_ne (pv 6) (pv 5) (nomark _))))) (pss_one (ps_ret pe_bl)) pss_nil))))))
      (pss_one (ps_ret pe_bl))))), ?_⟩
    have ol := low.len
    have os := low.sum
    obtain ⟨L, hlo, hhi, eo⟩ := low
    generalize hr' : a - abv rs L = r at eo
    have r0 : 0 ≤ r := by omega
    have r1 : r < abv rs (L - 1) - abv rs L := by omega
    refine ⟨_, rfl, _, rfl, p, _, rfl, .inl (SqL.of hp), q, out, _, rfl, hq, by rw [iV_len, ol], by omega, fun H1 s1 => ?_⟩
    have hp1 := s1 _ _ hp
    have hq1 := s1 _ _ hq
    refine ⟨_, rfl, ?_⟩
    refine iteF ?_
    refine ⟨_, rfl, p, rs, rfl, SqL.of hp1, _, rfl, q, out, rfl, SqL.of hq1, _, _, rfl, rfl, _, rfl, rfl, _, rfl, ?_⟩
    have e : decide (V.int (rs.sum - out.sum) = V.int a) = true := decide_eq_true (by rw [os]; congr 1; omega)
    rw [e]
    refine iteF ?_
    have on : out ≠ [] := fun z => by rw [z] at ol; exact hne (List.length_eq_zero_iff.mp ol.symm)
    refine ⟨_, rfl, q, out, rfl, SqL.of hq1, on, fun M hM ha => ?_⟩
    subst eo
    have eM := cut_max r0 r1 hM ha
    subst eM
    refine ⟨_, _, rfl, ?_⟩
    dsimp only
    refine ⟨_, rfl, _, rfl, p, q, rfl, ⟨_, SqL.of hp1⟩, ⟨_, SqL.of hq1⟩, for_zip (K := K) (a := p) (b := q) (xs := iV rs) (ys := iV (cutL M r rs)) (n := rs.length) (fun i σ H2 => ∃ (sn : Bool) (v5 v6 : Option V), σ = [some (.ref p), some (.ref q), some (.int a), some (.int M), some (.bl sn), v5, v6] ∧ Same H H2 ∧ (sn = true → r ≤ cn M (rs.take i)))
      (by rw [iV_len]) (by rw [iV_len, ol]) ⟨false, none, none, rfl, s1, fun z => by cases z⟩ (fun i σ H2 _ ⟨_, _, _, _, s2, _⟩ => ⟨SqL.of (s2 _ _ hp), SqL.of (s2 _ _ hq)⟩) ?_ ?_⟩
    · rintro i x y T σ H2 hx hy ⟨sn, v5, v6, rfl, s2, hs⟩ hT
      obtain ⟨x, hx', rfl⟩ := iV_get hx
      obtain ⟨y, hy', rfl⟩ := iV_get hy
      clear hx hy
      have hx := hx'
      have hy := hy'
      have hc := cutL_at M rs r i x hx
      rw [hy] at hc
      have hc := Option.some.inj hc
      have s3 : Same H (upd H2 T (.tup [V.int x, V.int y])) := s2.trans (same_new hT)
      have cs : cn M (rs.take (i + 1)) = cn M (rs.take i) + (if M ≤ x then 1 else 0) := by rw [tk_snoc hx, cn_snoc]
      refine ⟨T, _, rfl, SqT.of upd_same, rfl, _, _, rfl, _, _, rfl, rfl, ?_⟩
      dsimp only
      -- left > share or ..
      refine seq_join (fun σ' H' => σ' = [some (.ref p), some (.ref q), some (.int a), some (.int M), some (.bl sn), some (.int x), some (.int y)] ∧ H' = upd H2 T (.tup [V.int x, V.int y])) (fun N hN => ?_) ?_
      · refine ⟨_, rfl, _, rfl, _, _, rfl, rfl, _, rfl, ?_⟩
        have e1 : ¬ y > x := by
          by_cases c : M ≤ x
          · rw [if_pos c] at hc; split at hc <;> omega
          · rw [if_neg c] at hc; omega
        rw [decide_eq_false e1]
        refine iteF ?_
        refine ⟨_, rfl, _, rfl, _, _, rfl, rfl, _, rfl, ?_⟩
        refine ite2 (fun h1 => ?_) (fun h1 => iteF (hN _ _ ⟨rfl, rfl⟩))
        rw [decide_eq_true_eq] at h1
        refine ⟨_, rfl, _, rfl, _, _, rfl, rfl, _, _, rfl, rfl, _, rfl, ?_⟩
        have e2 : ¬ y < M - 1 := by
          by_cases c : M ≤ x
          · rw [if_pos c] at hc; split at hc <;> omega
          · rw [if_neg c] at hc; omega
        rw [decide_eq_false e2]
        exact iteF (hN _ _ ⟨rfl, rfl⟩)
      · rintro σ' H' ⟨rfl, rfl⟩
        refine seq_join (fun σ' H' => ∃ s4 : Bool, σ' = [some (.ref p), some (.ref q), some (.int a), some (.int M), some (.bl s4), some (.int x), some (.int y)] ∧ H' = upd H2 T (.tup [V.int x, V.int y]) ∧ (s4 = true → r ≤ cn M (rs.take (i + 1)) ∧ (M ≤ x → r ≤ cn M (rs.take i)))) (fun N hN => ?_) ?_
        · refine ⟨_, rfl, _, rfl, _, _, rfl, rfl, _, rfl, ?_⟩
          refine ite2 (fun h1 => ?_) (fun h1 => ?_)
          · rw [decide_eq_true_eq] at h1
            have h1 : M ≤ x := h1
            refine ⟨_, rfl, _, rfl, rfl, _, rfl, ?_⟩
            refine ite2 (fun h2 => ?_) (fun h2 => ?_)
            · rw [decide_eq_true_eq] at h2
              injection h2 with h2
              rw [if_pos h1] at hc cs
              have : r ≤ cn M (rs.take i) := by
                split at hc
                · omega
                · omega
              exact hN _ _ ⟨true, rfl, rfl, fun _ => ⟨by omega, fun _ => this⟩⟩
            · refine hN _ _ ⟨sn, rfl, rfl, fun z => ?_⟩
              have := hs z
              rw [if_pos h1] at cs
              exact ⟨by omega, fun _ => this⟩
          · rw [decide_eq_true_eq] at h1
            refine hN _ _ ⟨sn, rfl, rfl, fun z => ?_⟩
            have := hs z
            have h1 : ¬ M ≤ x := h1
            rw [if_neg h1] at cs
            exact ⟨by omega, fun c => absurd c h1⟩
        · rintro σ' H' ⟨s4, rfl, rfl, h4⟩
          refine seq_join (fun σ' H' => σ' = [some (.ref p), some (.ref q), some (.int a), some (.int M), some (.bl s4), some (.int x), some (.int y)] ∧ H' = upd H2 T (.tup [V.int x, V.int y])) (fun N hN => ?_) ?_
          · refine ⟨_, rfl, _, rfl, _, _, rfl, rfl, _, rfl, ?_⟩
            refine ite2 (fun h1 => ?_) (fun h1 => iteF (hN _ _ ⟨rfl, rfl⟩))
            rw [decide_eq_true_eq] at h1
            have h1 : M ≤ x := h1
            refine ⟨_, rfl, _, rfl, _, _, rfl, rfl, _, rfl, ?_⟩
            refine ite2 (fun h2 => ?_) (fun h2 => iteF (hN _ _ ⟨rfl, rfl⟩))
            rw [decide_eq_true_eq] at h2
            have e4 : s4 = false := by
              cases s4 with
              | false => rfl
              | true =>
                have := (h4 rfl).2 h1
                rw [if_pos h1, if_neg (by omega)] at hc
                omega
            subst e4
            exact ⟨_, rfl, _, rfl, iteF (hN _ _ ⟨rfl, rfl⟩)⟩
          · rintro σ' H' ⟨rfl, rfl⟩
            refine ⟨_, rfl, _, rfl, _, _, rfl, rfl, _, rfl, ?_⟩
            have fin : (s4 = true → r ≤ cn M (rs.take (i + 1))) := fun z => (h4 z).1
            refine ite2 (fun h1 => ?_) (fun h1 => iteF ⟨s4, _, _, rfl, s3, fin⟩)
            rw [decide_eq_true_eq] at h1
            refine ⟨_, rfl, _, rfl, rfl, _, rfl, ?_⟩
            have e5 : decide (V.int y = V.int x) = true := decide_eq_true (by rw [if_neg (by omega)] at hc; rw [hc])
            rw [e5]
            exact iteF ⟨s4, _, _, rfl, s3, fin⟩
    · rintro σ H2 ⟨sn, v5, v6, rfl, s2, _⟩
      exact k _ s2
abbrev s_less : Stmt := tp 24
theorem sc__law_one_less : FnScope ["_law_row_here", "_law_at"] ["_law_row_here"] (defScope s_less) := ⟨rfl, rfl, rfl, by decide +kernel, rfl, by decide +kernel, by decide +kernel⟩
def spLess : Sp := fun vs H Q _ => ∃ (p : Addr) (rs : List Int), vs = [.ref p] ∧ H p = some (.lst (iV rs)) ∧ rs ≠ [] ∧ rs.length ≤ 900 ∧ ∀ (M : Int) (q : Addr) (H' : Hp), M ∈ rs → (∀ y ∈ rs, y ≤ M) → H q = none → H' q = some (.lst (iV (dec1 M rs))) → Same H H' → Q (.ref q) H'
theorem ok_less {f : Addr} {fd : FuncData} (F : Fun K "_law_one_less" "_law_one_less" s_less f fd) (B : Bl mg) : FnOk P w K mg base CX0 1 f fd ["_law_row_here"] spLess := by
  refine F.ok sc__law_one_less (fun vs H Q E h => ?_) (fun cdv A outer s H vs Q E hr h => ?_)
  · obtain ⟨p, rs, rfl, _⟩ := h
    rfl
  · obtain ⟨p, rs, rfl, hp, hne, hl, k⟩ := h
    refine ⟨_, (pss_cons (ps_set (i := 1) sc__law_one_less.nd rfl (Or.inl rfl) (pe_bm PySem.F.plainAttrs_list PySem.F.slot_list_index PySem.F.type_list_index mt_index (pv 0) (pa_cons (pe_callB (call_maxL rfl) rfl B.max boot_max (pa_cons (pv 0) pa_nil)) pa_nil)))
      (pss_one (ps_ret (pe_op op_cat (pe_op op_cat (pe_slice sl_list (pv 0) po_none (po_some (pv 1))) (pe_lst (pa_cons (pe_op op_sub (pe_ix ix_list (pv 0) (pv 1) (fun _ _ => rfl)) pe_int) pa_nil))) (pe_slice sl_list (pv 0) (po_some (pe_op op_add (pv 1) pe_int)) po_none))))), ?_⟩
    refine ⟨_, rfl, .inl ⟨rfl, _, SqL.of hp⟩, _, rfl, p, rs, rfl, SqL.of hp, hne, fun M hM ha => ?_⟩
    obtain ⟨i, hi, hno⟩ := first_at hM
    have il : i < rs.length := (List.getElem?_eq_some_iff.mp hi).1
    refine ⟨p, rs, M, i, rfl, rfl, hp, hi, hno, ?_⟩
    refine gN ?_
    dsimp only
    refine ⟨_, rfl, _, rfl, _, rfl, p, _, rfl, SqL.of hp, fun a1 h1 => ?_⟩
    rw [ct_to (by omega) (by omega), Int.toNat_natCast]
    have s1 := same_new (o := .lst (iV (rs.take i))) h1
    refine ⟨_, rfl, _, rfl, p, _, _, V.int M, rfl, rfl, SqL.of (s1 _ _ hp), atI_nat (by rw [List.getElem?_map, hi]; rfl), _, _, rfl, rfl, len64 (by show 1 ≤ 1000; decide), fun a2 h2 => ?_⟩
    have n12 : a1 ≠ a2 := ne_of_none upd_same h2
    have s2 := s1.trans (same_new (o := .lst [V.int (M - 1)]) h2)
    refine ⟨a1, a2, _, _, rfl, rfl, same_new h2 _ _ upd_same, upd_same, len64 (by rw [iV_len, List.length_take]; simp; omega), fun a3 h3 => ?_⟩
    have s3 := s2.trans (same_new (o := .lst (iV (rs.take i) ++ [V.int (M - 1)])) h3)
    refine ⟨_, rfl, _, rfl, _, _, rfl, rfl, _, rfl, p, _, rfl, SqL.of (s3 _ _ hp), fun a4 h4 => ?_⟩
    have ei : ((i : Int) + 1) = ((i + 1 : Nat) : Int) := by omega
    rw [ei, ct_from (by omega) (by omega), Int.toNat_natCast]
    have s4 := s3.trans (same_new (o := .lst (iV (rs.drop (i + 1)))) h4)
    refine ⟨a3, a4, _, _, rfl, rfl, same_new h4 _ _ upd_same, upd_same, len64 (by rw [List.length_append, iV_len, iV_len, List.length_take, List.length_drop]; simp; omega), fun a5 h5 => ?_⟩
    have s5 := s4.trans (same_new (o := .lst (iV (rs.take i) ++ [V.int (M - 1)] ++ iV (rs.drop (i + 1)))) h5)
    refine k M a5 _ hM ha (s4.free h5) ?_ s5
    rw [upd_same, iV_sn, iV_app, dec1_at hi hno]
end
end My
end
section
set_option maxRecDepth 100000
set_option Elab.async false
set_option linter.all false
set_option maxHeartbeats 4000000
namespace My
open PySem L2 L3
theorem asgC {te : TE} {i : Nat} {U : TS} {D : Ends} {σ : L2.St} {H : Hp} (h : te σ H fun v H1 => gName i v σ H1 (U D)) : tSeq (tAsg te (gName i)) U D σ H := h
theorem ne_self (l : List Int) : (if true = true then !decide (l = l) else decide (l = l)) = false := by simp
theorem eq_self' (l : List Int) : (if false = true then !decide (l = l) else decide (l = l)) = true := by simp
theorem neg_neg_l (l : List Int) : (l.map Int.neg).map Int.neg = l := by
  induction l with
  | nil => rfl
  | cons x t ih => rw [List.map_cons, List.map_cons, ih]; congr 1; exact Int.neg_neg x
theorem bd_neg {b : Int} {l : List Int} (h : Bd b l) : Bd b (l.map Int.neg) := fun x hx => by
  obtain ⟨y, hy, rfl⟩ := List.mem_map.mp hx
  have := h y hy
  show -b ≤ -y ∧ -y ≤ b
  omega
theorem low_bd {rs out : List Int} {a : Int} (h : Low rs a out) (hne : rs ≠ []) (hb : Bd 900000 rs) (ha : a ≤ 50000 * rs.length) : Bd 950001 out := fun y hy => by
  have h1 := h.ge (B := -900000) (d := 50000) hne (fun x hx => (hb x hx).1) (by decide) ha y hy
  refine ⟨by omega, ?_⟩
  obtain ⟨L, _, _, rfl⟩ := h
  obtain ⟨i, hi, e⟩ := List.getElem_of_mem hy
  have hi' : i < rs.length := by rw [cutL_len] at hi; exact hi
  have hc := cutL_at L rs (a - abv rs L) i rs[i] (List.getElem?_eq_getElem hi')
  rw [List.getElem?_eq_getElem hi] at hc
  have hc := Option.some.inj hc
  have hx := hb rs[i] (List.getElem_mem hi')
  rw [e] at hc
  split at hc
  · split at hc <;> omega
  · omega
theorem low_ge {rs out : List Int} {a : Int} (h : Low rs a out) (hne : rs ≠ []) (hb : Bd 900000 rs) (ha : a ≤ 50000 * rs.length) : ∀ y ∈ out, -1000000 ≤ y := fun y hy => by have := low_bd h hne hb ha y hy; omega
theorem low_zero {rs : List Int} (hne : rs ≠ []) : Low rs 0 rs := by
  obtain ⟨M, hM, ha⟩ : ∃ M, M ∈ rs ∧ ∀ x ∈ rs, x ≤ M := by
    induction rs with
    | nil => exact absurd rfl hne
    | cons x t ih =>
      by_cases ht : t = []
      · subst ht; exact ⟨x, List.mem_cons_self, fun y hy => by simp at hy; omega⟩
      · obtain ⟨M, h1, h2⟩ := ih ht
        by_cases c : x ≤ M
        · refine ⟨M, List.mem_cons_of_mem _ h1, fun y hy => ?_⟩
          rcases List.mem_cons.mp hy with rfl | hy
          · exact c
          · exact h2 y hy
        · refine ⟨x, List.mem_cons_self, fun y hy => ?_⟩
          rcases List.mem_cons.mp hy with rfl | hy
          · exact Int.le_refl _
          · have := h2 y hy; omega
  exact Low.zero hne hM ha
theorem bd6 {b : Int} {l : List Int} (h : Bd b l) (hb : b ≤ 1000000) : Bd 1000000 l := fun x hx => by have := h x hx; omega
theorem map_ne {l : List Int} (h : l ≠ []) : l.map Int.neg ≠ [] := fun z => h (List.map_eq_nil_iff.mp z)
section
variable {P : Program} {w : World} {K : PySem.W.Frag} {mg : Str → Option Value} {base : Heap}
abbrev s_law : Stmt := tp 25
theorem sc_law : FnScope ["_law_script", "_law_row_here", "_law_minus", "_law_amounts", "_law_amount", "_law_handed", "_law_found", "_law_part", "_law_now", "_law_k"] ["_law_script"] (defScope s_law) := ⟨rfl, rfl, rfl, by decide +kernel, rfl, by decide +kernel, by decide +kernel⟩
def spLaw (K : PySem.W.Frag) : Sp := fun vs H Q _ => ∃ (a : Addr) (ns : List Int), vs = [.ref a] ∧ SqL K H a (iV ns) ∧ ns.length ≤ 63 ∧ ∀ H', Q (.bl true) H'
structure Tx (P : Program) (w : World) (K : PySem.W.Frag) (mg : Str → Option Value) (base : Heap) : Prop where
  B : Bl mg
  c_cell_at : Ok P w K mg base 1 "_law_cell_at" ["_law_script", "_law_k"] (spCell K)
  c_draw : Ok P w K mg base 1 "_law_draw" ["_law_cell", "_law_k", "_law_many"] spDraw
  c_row : Ok P w K mg base 2 "_law_row" ["_law_script"] (spRow K)
  c_taken : Ok P w K mg base 4 "taken" ["row", "amount"] spTaken
  c_poured : Ok P w K mg base 4 "poured" ["row", "amount"] spPoured
  c_l_lowered : Ok P w K mg base 2 "_law_lowered" ["_law_row_here", "_law_found", "_law_amount"] spLLow
  c_one_less : Ok P w K mg base 1 "_law_one_less" ["_law_row_here"] spLess
theorem ok_law {f : Addr} {fd : FuncData} (F : Fun K "law" "law" s_law f fd) (T : Tx P w K mg base) : FnOk P w K mg base CX0 5 f fd ["_law_script"] (spLaw K) := by
  refine F.ok sc_law (fun vs H Q E h => ?_) (fun cdv A outer s H vs Q E hr h => ?_)
  · obtain ⟨a, ns, rfl, _⟩ := h
    rfl
  · obtain ⟨a, ns, rfl, hS, hl, ret⟩ := h
    obtain ⟨B, c_cell_at, c_draw, c_row, c_taken, c_poured, c_l_lowered, c_one_less⟩ := T
    have hu := hr.units0
    refine ⟨_, (pss_cons (ps_set (i := 1) sc_law.nd rfl (Or.inl rfl) (pe_callO c_row (hr.mono (by decide)) rfl (pa_cons (pv 0) pa_nil)))
      (pss_cons (ps_setC (i := 2) rfl rfl (compSc_of (sc0 := defScope s_law) (N := ["_law_script", "_law_row_here", "_law_minus", "_law_amounts", "_law_amount", "_law_handed", "_law_found", "_law_part", "_law_now", "_law_k"]) (caps := []) (idx := []) rfl rfl (by decide +kernel)) (pi_list (pv 1)) (fun _ _ _ _ _ => pts_nil) (fun _ _ _ _ _ => (pe_un un_neg (pv 0))) sc_law.nd rfl rfl)
      (pss_cons (ps_set (i := 3) sc_law.nd rfl (Or.inl rfl) (pe_lst (pa_cons (pe_callO c_draw (hr.mono (by decide)) rfl (pa_cons (pe_callO c_cell_at (hr.mono (by decide)) rfl (pa_cons (pv 0) (pa_cons pe_int pa_nil))) (pa_cons pe_int (pa_cons pe_int pa_nil)))) (pa_cons (pe_callO c_draw (hr.mono (by decide)) rfl (pa_cons (pe_callO c_cell_at (hr.mono (by decide)) rfl (pa_cons (pv 0) (pa_cons pe_int pa_nil))) (pa_cons pe_int (pa_cons pe_int pa_nil)))) (pa_cons (pe_callB call_len_seq rfl B.len PySem.boot_len (pa_cons (pv 1) pa_nil)) pa_nil)))))
      (pss_cons (ps_expr (pe_bm PySem.F.plainAttrs_list PySem.F.slot_list_append PySem.F.type_list_append mt_append (pv 3) (pa_cons (pe_callO c_draw (hr.mono (by decide)) rfl (pa_cons (pe_callO c_cell_at (hr.mono (by decide)) rfl (pa_cons (pv 0) (pa_cons pe_int pa_nil))) (pa_cons pe_int (pa_cons (pe_op op_add (pe_op op_mul pe_int (pe_callB call_len_seq rfl B.len PySem.boot_len (pa_cons (pv 1) pa_nil))) pe_int) pa_nil)))) pa_nil)))
      (pss_cons (ps_for PassesOwn.never rfl (pi_list (pv 3)) (pg_name (i := 4) sc_law.nd rfl (Or.inl rfl))
      (pss_cons (ps_set (i := 5) sc_law.nd rfl (Or.inl rfl) (pe_callTy call_list_of rfl B.list boot_list (pa_cons (pv 1) pa_nil)))
      (pss_cons (ps_set (i := 6) sc_law.nd rfl (Or.inl rfl) (pe_callO c_taken (hr.mono (by decide)) rfl (pa_cons (pv 5) (pa_cons (pv 4) pa_nil))))
      (pss_cons (ps_if (PW.pt (pw_or (pt_cmpR (op_neL hu itemInt) (pv 5) (pv 1) (nomark _)) (pw_or1 (pt_not (pt_val (pe_callO c_l_lowered (hr.mono (by decide)) rfl (pa_cons (pv 1) (pa_cons (pv 6) (pa_cons (pv 4) pa_nil))))))))) (pss_one (ps_ret pe_bl)) pss_nil)
      (pss_cons (ps_expr (pe_bm PySem.F.plainAttrs_list PySem.F.slot_list_append PySem.F.type_list_append mt_append (pv 6) (pa_cons pe_int pa_nil)))
      (pss_cons (ps_set (i := 6) sc_law.nd rfl (Or.inl rfl) (pe_callO c_poured (hr.mono (by decide)) rfl (pa_cons (pv 5) (pa_cons (pv 4) pa_nil))))
      (pss_cons (ps_if (PW.pt (pw_or (pt_cmpR (op_neL hu itemInt) (pv 5) (pv 1) (nomark _)) (pw_or1 (pt_not (pt_val (pe_callO c_l_lowered (hr.mono (by decide)) rfl (pa_cons (pv 2) (pa_cons (pe_comp rfl rfl (compSc_of (sc0 := defScope s_law) (N := ["_law_script", "_law_row_here", "_law_minus", "_law_amounts", "_law_amount", "_law_handed", "_law_found", "_law_part", "_law_now", "_law_k"]) (caps := []) (idx := []) rfl rfl (by decide +kernel)) (pi_list (pv 6)) (fun _ _ _ _ _ => pts_nil) (fun _ _ _ _ _ => (pe_un un_neg (pv 0)))) (pa_cons (pv 4) pa_nil))))))))) (pss_one (ps_ret pe_bl)) pss_nil)
      (pss_cons (ps_expr (pe_bm PySem.F.plainAttrs_list PySem.F.slot_list_append PySem.F.type_list_append mt_append (pv 6) (pa_cons pe_int pa_nil)))
      (pss_cons (ps_set (i := 7) sc_law.nd rfl (Or.inl rfl) (pe_op op_fdiv (pv 4) pe_int))
      (pss_cons (ps_if (pt_cmpR (op_neL hu itemInt) (pe_callO c_taken (hr.mono (by decide)) rfl (pa_cons (pe_callO c_taken (hr.mono (by decide)) rfl (pa_cons (pv 1) (pa_cons (pv 7) pa_nil))) (pa_cons (pe_op op_sub (pv 4) (pv 7)) pa_nil))) (pe_callO c_taken (hr.mono (by decide)) rfl (pa_cons (pv 1) (pa_cons (pv 4) pa_nil))) (nomark _)) (pss_one (ps_ret pe_bl)) pss_nil)
      (pss_one (ps_if (pt_cmpR (op_neL hu itemInt) (pe_callO c_poured (hr.mono (by decide)) rfl (pa_cons (pe_callO c_poured (hr.mono (by decide)) rfl (pa_cons (pv 1) (pa_cons (pv 7) pa_nil))) (pa_cons (pe_op op_sub (pv 4) (pv 7)) pa_nil))) (pe_callO c_poured (hr.mono (by decide)) rfl (pa_cons (pv 1) (pa_cons (pv 4) pa_nil))) (nomark _)) (pss_one (ps_ret pe_bl)) pss_nil))))))))))))
      (pss_cons (ps_set (i := 8) sc_law.nd rfl (Or.inl rfl) (pe_callTy call_list_of rfl B.list boot_list (pa_cons (pv 1) pa_nil)))
      (pss_cons (ps_for PassesOwn.never rfl (pi_range1 rfl B.range (pa_cons (pe_op op_add (pe_ix ix_list (pv 3) pe_int (fun _ _ => rfl)) pe_int) pa_nil)) (pg_name (i := 9) sc_law.nd rfl (Or.inl rfl))
      (pss_cons (ps_if (PW.pt (pw_or (pt_cmpR (op_neL hu itemInt) (pe_callO c_taken (hr.mono (by decide)) rfl (pa_cons (pv 1) (pa_cons (pv 9) pa_nil))) (pv 8) (nomark _)) (pw_or1 (pt_cmpR (op_neL hu itemInt) (pe_callO c_poured (hr.mono (by decide)) rfl (pa_cons (pv 2) (pa_cons (pv 9) pa_nil))) (pe_comp rfl rfl (compSc_of (sc0 := defScope s_law) (N := ["_law_script", "_law_row_here", "_law_minus", "_law_amounts", "_law_amount", "_law_handed", "_law_found", "_law_part", "_law_now", "_law_k"]) (caps := []) (idx := []) rfl rfl (by decide +kernel)) (pi_list (pv 8)) (fun _ _ _ _ _ => pts_nil) (fun _ _ _ _ _ => (pe_un un_neg (pv 0)))) (nomark _))))) (pss_one (ps_ret pe_bl)) pss_nil)
      (pss_one (ps_set (i := 8) sc_law.nd rfl (Or.inl rfl) (pe_callO c_one_less (hr.mono (by decide)) rfl (pa_cons (pv 8) pa_nil))))))
      (pss_one (ps_ret (pe_and (pe_cmpR (op_eqL hu itemInt) (pe_callO c_taken (hr.mono (by decide)) rfl (pa_cons (pv 1) (pa_cons pe_int pa_nil))) (pv 1) (nomark _)) (pe_one (pe_cmpR (op_eqL hu itemInt) (pe_callO c_poured (hr.mono (by decide)) rfl (pa_cons (pv 1) (pa_cons pe_int pa_nil))) (pv 1) (nomark _))))))))))))), ?_⟩
    refine ⟨_, rfl, a, ns, rfl, hS, hl, fun rs p H1 rl rb hp0 hp1 s1 => ?_⟩
    refine gN ?_
    dsimp only
    have rne : rs ≠ [] := fun z => by rw [z] at rl; simp at rl
    have rl64 : rs.length ≤ 64 := by omega
    have np : 1 ≤ rs.length := by omega
    -- minus
    refine asgC ?_
    refine comp_of (a := p) (fun n => some (.int (Int.neg n))) (fun R r => ⟨_, rfl, r⟩) (SqL.of hp1) (by omega) (fun n _ H' R r => r) (fun n _ v e H' R r => ?_) (fun mi hmi => ?_)
    · cases e
      exact ⟨_, rfl, _, rfl, r⟩
    rw [fm_some]
    have s2 := same_new (o := .lst (iV (rs.map Int.neg))) hmi
    have s12 := s1.trans s2
    generalize hH2 : upd H1 mi (.lst (iV (rs.map Int.neg))) = H2 at s2 s12
    have hm2 : H2 mi = some (.lst (iV (rs.map Int.neg))) := by rw [← hH2]; exact upd_same
    have hp2 := s2 _ _ hp1
    refine gN ?_
    -- amounts
    refine ⟨_, rfl, a, ns, 2, rfl, s12.seq hS, by decide, fun n2 => ?_⟩
    refine ⟨_, _, _, rfl, by decide, by decide, fun d1 H3 d10 d11 s3 => ?_⟩
    refine ⟨_, rfl, a, ns, 3, rfl, (s12.trans s3).seq hS, by decide, fun n3 => ?_⟩
    refine ⟨_, _, _, rfl, by decide, by decide, fun d2 H4 d20 d21 s4 => ?_⟩
    have s24 := s3.trans s4
    refine ⟨_, rfl, p, _, rfl, .inl (SqL.of (s24 _ _ hp2)), len64 (by show 3 ≤ 1000; decide), fun am ham => ?_⟩
    have s5 := same_new (o := .lst [V.int d1, V.int d2, V.int ((iV rs).length : Int)]) ham
    generalize hH5 : upd H4 am (.lst [V.int d1, V.int d2, V.int ((iV rs).length : Int)]) = H5 at s5
    have h5 : H5 am = some (.lst [V.int d1, V.int d2, V.int ((iV rs).length : Int)]) := by rw [← hH5]; exact upd_same
    have s25 := s24.trans s5
    have hp5 := s25 _ _ hp2
    have am2 : H2 am = none := s24.free ham
    refine gN ?_
    dsimp only
    refine ⟨_, rfl, .inl ⟨rfl, _, SqL.of h5⟩, _, rfl, a, ns, 4, rfl, (s12.trans s25).seq hS, by decide, fun n4 => ?_⟩
    refine ⟨_, rfl, p, _, rfl, .inl (SqL.of hp5), _, _, rfl, rfl, .inl ⟨by decide, by decide⟩, _, _, rfl, rfl, ?_⟩
    refine ⟨_, _, _, rfl, by decide, by rw [iV_len]; omega, fun d3 H6 d30 d31 s6 => ?_⟩
    rw [iV_len] at d31
    refine ⟨am, _, _, rfl, rfl, s6 _ _ h5, small1000 (by show 3 ≤ 1000; decide), ?_⟩
    generalize hH7 : upd H6 am (.lst ([V.int d1, V.int d2, V.int ((iV rs).length : Int)] ++ [V.int d3])) = H7
    have h7 : H7 am = some (.lst (iV [d1, d2, (rs.length : Int), d3])) := by rw [← hH7, upd_same, iV_len]; rfl
    have s27 : Same H2 H7 := fun b u e => by rw [← hH7, upd_ne (ne_of_none e am2)]; exact (s25.trans s6) _ _ e
    have okA : ∀ x ∈ [d1, d2, (rs.length : Int), d3], 0 ≤ x ∧ x ≤ 50000 * rs.length := fun x hx => by
      simp only [List.mem_cons, List.not_mem_nil, or_false] at hx
      rcases hx with rfl | rfl | rfl | rfl <;> omega
    have hp7 := s27 _ _ hp2
    have hm7 := s27 _ _ hm2
    have nb := bd_neg rb
    have nne := map_ne rne
    have nl : (rs.map Int.neg).length = rs.length := List.length_map ..
    clear hH2 hH5 hH7 h5 s24 s25 s3 s4 s5 s6 s2 s1 hp1 hp5 hp2 hm2 am2 ham
    dsimp only
    refine seq_join (fun σ' H' => ∃ v4 v5 v6 v7, σ' = [some (.ref a), some (.ref p), some (.ref mi), some (.ref am), v4, v5, v6, v7, none, none] ∧ Same H7 H') (fun N hN => ?_) ?_
    · refine ⟨_, rfl, am, rfl, ⟨_, SqL.of h7⟩, for_list (K := K) (a := am) (xs := iV [d1, d2, (rs.length : Int), d3]) (fun i σ H8 => ∃ v4 v5 v6 v7, σ = [some (.ref a), some (.ref p), some (.ref mi), some (.ref am), v4, v5, v6, v7, none, none] ∧ Same H7 H8) ⟨none, none, none, none, rfl, Same.refl _⟩ (fun i σ H8 _ ⟨_, _, _, _, _, e⟩ => SqL.of (e _ _ h7)) ?_ (fun σ H8 h => hN _ _ h)⟩
      rintro i y σ H8 hi ⟨v4, v5, v6, v7, rfl, s8⟩
      obtain ⟨x, hx, rfl⟩ := iV_get hi
      obtain ⟨x0, x1⟩ := okA x (List.mem_of_getElem? hx)
      have hp8 := s8 _ _ hp7
      have hm8 := s8 _ _ hm7
      -- handed = list(row)
      refine ⟨_, rfl, p, _, rfl, .inl (SqL.of hp8), fun l hl8 => ?_⟩
      have s9 := same_new (o := .lst (iV rs)) hl8
      generalize hH9 : upd H8 l (.lst (iV rs)) = H9 at s9
      have hl9 : H9 l = some (.lst (iV rs)) := by rw [← hH9]; exact upd_same
      clear hH9
      -- found = taken(handed, amount)
      refine ⟨_, rfl, _, rfl, l, rs, x, rfl, hl9, rne, by omega, bd6 rb (by decide), x0, by omega, fun out low => low_ge low rne rb x1, fun o1 q1 H10 low1 hq1 h10 s10 => ?_⟩
      refine gN ?_
      dsimp only
      have s810 := s9.trans s10
      have hl10 := s10 _ _ hl9
      have hp10 := s810 _ _ hp8
      refine seq_join (fun σ' H' => σ' = [some (.ref a), some (.ref p), some (.ref mi), some (.ref am), some (.int x), some (.ref l), some (.ref q1), v7, none, none] ∧ Same H10 H') (fun N2 hN2 => ?_) ?_
      · refine ⟨_, rfl, _, rfl, rs, rs, ⟨l, _, rfl, SqL.of hl10, paired_ints _ _⟩, ⟨p, _, rfl, SqL.of hp10, paired_ints _ _⟩, _, rfl, ?_⟩
        rw [ne_self]
        refine iteF ?_
        refine ⟨_, rfl, _, rfl, _, rfl, p, q1, rs, o1, x, rfl, hp10, h10, low1, rne, by omega, fun H' s' => ?_⟩
        exact ⟨_, rfl, iteF (hN2 _ _ ⟨rfl, s'⟩)⟩
      · rintro σ' H11 ⟨rfl, s11⟩
        -- found.append(0)
        refine ⟨_, rfl, .inl ⟨rfl, _, SqL.of (s11 _ _ h10)⟩, q1, _, _, rfl, rfl, s11 _ _ h10, small1000 (by rw [iV_len, low1.len]; omega), ?_⟩
        have q18 : H9 q1 = none := hq1
        generalize hH12 : upd H11 q1 (.lst (iV o1 ++ [V.int 0])) = H12
        have s912 : Same H9 H12 := fun b u e => by rw [← hH12, upd_ne (ne_of_none e q18)]; exact (s10.trans s11) _ _ e
        clear hH12 s10 s11 s810 hl10 hp10 h10
        have hl12 := s912 _ _ hl9
        -- found = poured(handed, amount)
        refine ⟨_, rfl, _, rfl, l, rs, x, rfl, hl12, rne, by omega, bd6 rb (by decide), x0, by omega, fun out low => low_ge low nne nb (by rw [nl]; exact x1), fun o2 q2 H13 low2 hq2 h13 s13 => ?_⟩
        refine gN ?_
        dsimp only
        have s913 := s912.trans s13
        have hl13 := s13 _ _ hl12
        have hp13 := (s9.trans s913) _ _ hp8
        have hm13 := (s9.trans s913) _ _ hm8
        have o2l : o2.length = rs.length := by rw [low2.len, nl]
        refine seq_join (fun σ' H' => σ' = [some (.ref a), some (.ref p), some (.ref mi), some (.ref am), some (.int x), some (.ref l), some (.ref q2), v7, none, none] ∧ Same H13 H') (fun N2 hN2 => ?_) ?_
        · refine ⟨_, rfl, _, rfl, rs, rs, ⟨l, _, rfl, SqL.of hl13, paired_ints _ _⟩, ⟨p, _, rfl, SqL.of hp13, paired_ints _ _⟩, _, rfl, ?_⟩
          rw [ne_self]
          refine iteF ?_
          refine ⟨_, rfl, ?_⟩
          refine comp_of (a := q2) (fun n => some (.int (Int.neg n))) (fun R r => ⟨_, rfl, r⟩) (SqL.of h13) (by rw [List.length_map]; omega) (fun n _ H' R r => r) (fun n _ v e H' R r => ?_) (fun c hc => ?_)
          · cases e
            exact ⟨_, rfl, _, rfl, r⟩
          rw [fm_some, neg_neg_l]
          have s14 := same_new (o := .lst (iV o2)) hc
          refine ⟨_, rfl, mi, c, rs.map Int.neg, o2, x, rfl, s14 _ _ hm13, upd_same, low2, nne, by rw [nl]; omega, fun H' s' => ?_⟩
          exact ⟨_, rfl, iteF (hN2 _ _ ⟨rfl, s14.trans s'⟩)⟩
        · rintro σ' H14 ⟨rfl, s14⟩
          -- found.append(0)
          refine ⟨_, rfl, .inl ⟨rfl, _, SqL.of (s14 _ _ h13)⟩, q2, _, _, rfl, rfl, s14 _ _ h13, small1000 (by rw [iV_len, List.length_map]; omega), ?_⟩
          have q29 : H9 q2 = none := s912.free hq2
          generalize hH15 : upd H14 q2 (.lst (iV (o2.map Int.neg) ++ [V.int 0])) = H15
          have s815 : Same H8 H15 := fun b u e => by rw [← hH15, upd_ne (ne_of_none (s9 _ _ e) q29)]; exact (s9.trans (s913.trans s14)) _ _ e
          clear hH15 s14 s13 s912 s913 hl12 hl13 hp13 hm13 h13 q29 q18 s9 hl9
          have hp15 := s815 _ _ hp8
          -- part
          refine ⟨_, rfl, _, _, rfl, rfl, ⟨by decide, by decide⟩, ?_⟩
          refine gN ?_
          dsimp only
          have p0 : 0 ≤ x / 3 := by omega
          have p1 : x / 3 ≤ x := by omega
          generalize x / 3 = pt at p0 p1
          have ex : pt + (x - pt) = x := by omega
          refine seq_join (fun σ' H' => σ' = [some (.ref a), some (.ref p), some (.ref mi), some (.ref am), some (.int x), some (.ref l), some (.ref q2), some (.int pt), none, none] ∧ Same H15 H') (fun N2 hN2 => ?_) ?_
          · refine ⟨_, rfl, _, rfl, p, rs, pt, rfl, hp15, rne, by omega, bd6 rb (by decide), p0, by omega, fun out low => low_ge low rne rb (by omega), fun o3 q3 H16 low3 hq3 h16 s16 => ?_⟩
            have o3l := low3.len
            refine ⟨_, rfl, _, rfl, _, _, rfl, rfl, q3, o3, x - pt, rfl, h16, fun z => ?_, by omega, bd6 (low_bd low3 rne rb (by omega)) (by decide), by omega, by omega, fun out low => ?_, fun o4 q4 H17 low4 hq4 h17 s17 => ?_⟩
            · rw [z] at o3l; exact rne (List.length_eq_zero_iff.mp o3l.symm)
            · have := low3.comp low (by omega)
              rw [ex] at this
              exact low_ge this rne rb x1
            refine ⟨_, rfl, _, rfl, p, rs, x, rfl, (s16.trans s17) _ _ hp15, rne, by omega, bd6 rb (by decide), x0, by omega, fun out low => low_ge low rne rb x1, fun o5 q5 H18 low5 hq5 h18 s18 => ?_⟩
            refine ⟨o4, o5, ⟨q4, _, rfl, SqL.of (s18 _ _ h17), paired_ints _ _⟩, ⟨q5, _, rfl, SqL.of h18, paired_ints _ _⟩, _, rfl, ?_⟩
            have h4 := low3.comp low4 (by omega)
            rw [ex] at h4
            rw [h4.uniq low5, ne_self]
            exact iteF (hN2 _ _ ⟨rfl, s16.trans (s17.trans s18)⟩)
          · rintro σ' H16 ⟨rfl, s16⟩
            have s816 := s815.trans s16
            have hp16 := s816 _ _ hp8
            refine ⟨_, rfl, _, rfl, p, rs, pt, rfl, hp16, rne, by omega, bd6 rb (by decide), p0, by omega, fun out low => low_ge low nne nb (by rw [nl]; omega), fun o3 q3 H17 low3 hq3 h17 s17 => ?_⟩
            have o3l : o3.length = rs.length := by rw [low3.len, nl]
            refine ⟨_, rfl, _, rfl, _, _, rfl, rfl, q3, o3.map Int.neg, x - pt, rfl, h17, fun z => ?_, by rw [List.length_map]; omega, bd6 (bd_neg (low_bd low3 nne nb (by rw [nl]; omega))) (by decide), by omega, by omega, fun out low => ?_, fun o4 q4 H18 low4 hq4 h18 s18 => ?_⟩
            · rw [List.map_eq_nil_iff.mp z] at o3l; exact rne (List.length_eq_zero_iff.mp o3l.symm)
            · rw [neg_neg_l] at low
              have := low3.comp low (by omega)
              rw [ex] at this
              exact low_ge this nne nb (by rw [nl]; exact x1)
            refine ⟨_, rfl, _, rfl, p, rs, x, rfl, (s17.trans s18) _ _ hp16, rne, by omega, bd6 rb (by decide), x0, by omega, fun out low => low_ge low nne nb (by rw [nl]; exact x1), fun o5 q5 H19 low5 hq5 h19 s19 => ?_⟩
            refine ⟨o4.map Int.neg, o5.map Int.neg, ⟨q4, _, rfl, SqL.of (s19 _ _ h18), paired_ints _ _⟩, ⟨q5, _, rfl, SqL.of h19, paired_ints _ _⟩, _, rfl, ?_⟩
            rw [neg_neg_l] at low4
            have h4 := low3.comp low4 (by omega)
            rw [ex] at h4
            rw [h4.uniq low5, ne_self]
            exact iteF ⟨_, _, _, _, rfl, s8.trans (s816.trans (s17.trans (s18.trans s19)))⟩
    · rintro σ' H8 ⟨v4, v5, v6, v7, rfl, s8⟩
      have hp8 := s8 _ _ hp7
      have hm8 := s8 _ _ hm7
      have h8 := s8 _ _ h7
      -- now = list(row)
      refine ⟨_, rfl, p, _, rfl, .inl (SqL.of hp8), fun l hl8 => ?_⟩
      have s9 := same_new (o := .lst (iV rs)) hl8
      generalize hH9 : upd H8 l (.lst (iV rs)) = H9 at s9
      have hl9 : H9 l = some (.lst (iV rs)) := by rw [← hH9]; exact upd_same
      clear hH9
      refine gN ?_
      dsimp only
      refine seq_join (fun σ' H' => ∃ v8 v9, σ' = [some (.ref a), some (.ref p), some (.ref mi), some (.ref am), v4, v5, v6, v7, v8, v9] ∧ Same H8 H') (fun N hN => ?_) ?_
      · refine ⟨_, rfl, am, _, _, V.int d1, rfl, rfl, SqL.of (s9 _ _ h8), rfl, _, _, rfl, rfl, _, rfl, by omega, by omega, for_range (n := (d1 + 2).toNat) (fun i σ H' => ∃ (q : Addr) (nw : List Int) (v9 : Option V), σ = [some (.ref a), some (.ref p), some (.ref mi), some (.ref am), v4, v5, v6, v7, some (.ref q), v9] ∧ Same H8 H' ∧ H' q = some (.lst (iV nw)) ∧ Low rs i nw) ⟨l, rs, none, rfl, s9, hl9, low_zero rne⟩ ?_ (fun σ H' ⟨q, nw, v9, e, s', _⟩ => hN _ _ ⟨_, _, e, s'⟩)⟩
        rintro i σ H10 hi ⟨q, nw, v9, rfl, s10, h10, low⟩
        have hp10 := s10 _ _ hp8
        have hm10 := s10 _ _ hm8
        have i1 : (0 : Int) + (i : Int) ≤ 5 := by omega
        have i0 : (0 : Int) ≤ 0 + (i : Int) := by omega
        have ei : (0 : Int) + (i : Int) = i := by omega
        have nwl := low.len
        have nwn : nw ≠ [] := fun z => by rw [z] at nwl; exact rne (List.length_eq_zero_iff.mp nwl.symm)
        refine seq_join (fun σ' H' => σ' = [some (.ref a), some (.ref p), some (.ref mi), some (.ref am), v4, v5, v6, v7, some (.ref q), some (.int (0 + (i : Int)))] ∧ Same H10 H') (fun N2 hN2 => ?_) ?_
        · refine ⟨_, rfl, _, rfl, p, rs, _, rfl, hp10, rne, by omega, bd6 rb (by decide), i0, by omega, fun out low => low_ge low rne rb (by omega), fun o1 q1 H11 low1 hq1 h11 s11 => ?_⟩
          refine ⟨_, rfl, o1, nw, ⟨q1, _, rfl, SqL.of h11, paired_ints _ _⟩, ⟨q, _, rfl, SqL.of (s11 _ _ h10), paired_ints _ _⟩, _, rfl, ?_⟩
          rw [ei] at low1
          rw [low1.uniq low, ne_self]
          refine iteF ?_
          refine ⟨_, rfl, _, rfl, mi, rs.map Int.neg, _, rfl, s11 _ _ hm10, nne, by rw [nl]; omega, bd6 nb (by decide), i0, by omega, fun out low => ?_, fun o2 q2 H12 low2 hq2 h12 s12 => ?_⟩
          · rw [neg_neg_l] at low
            exact low_ge low rne rb (by omega)
          rw [neg_neg_l, ei] at low2
          refine comp_of (a := q) (fun n => some (.int (Int.neg n))) (fun R r => ⟨_, rfl, r⟩) (SqL.of ((s11.trans s12) _ _ h10)) (by omega) (fun n _ H' R r => r) (fun n _ v e H' R r => ?_) (fun c hc => ?_)
          · cases e
            exact ⟨_, rfl, _, rfl, r⟩
          rw [fm_some]
          have s13 := same_new (o := .lst (iV (nw.map Int.neg))) hc
          refine ⟨o2.map Int.neg, nw.map Int.neg, ⟨q2, _, rfl, SqL.of (s13 _ _ h12), paired_ints _ _⟩, ⟨c, _, rfl, SqL.of upd_same, paired_ints _ _⟩, _, rfl, ?_⟩
          rw [low2.uniq low, ne_self]
          exact iteF (hN2 _ _ ⟨rfl, s11.trans (s12.trans s13)⟩)
        · rintro σ' H11 ⟨rfl, s11⟩
          refine ⟨_, rfl, q, nw, rfl, s11 _ _ h10, nwn, by omega, fun M q2 H12 hM ha hq2 h12 s12 => ?_⟩
          refine ⟨q2, _, _, rfl, s10.trans (s11.trans s12), h12, ?_⟩
          have := low.comp (Low.one hM ha) (by decide)
          rw [Int.natCast_add]
          exact this
      · rintro σ' H10 ⟨v8, v9, rfl, s10⟩
        have hp10 := s10 _ _ hp8
        refine ⟨_, rfl, p, rs, 0, rfl, hp10, rne, by omega, bd6 rb (by decide), by decide, by decide, fun out low => low_ge low rne rb (by omega), fun o1 q1 H11 low1 hq1 h11 s11 => ?_⟩
        refine ⟨_, rfl, o1, rs, ⟨q1, _, rfl, SqL.of h11, paired_ints _ _⟩, ⟨p, _, rfl, SqL.of (s11 _ _ hp10), paired_ints _ _⟩, _, rfl, ?_⟩
        rw [low1.uniq (low_zero rne), eq_self']
        refine iteT ?_
        refine ⟨_, rfl, p, rs, 0, rfl, s11 _ _ hp10, rne, by omega, bd6 rb (by decide), by decide, by decide, fun out low => low_ge low nne nb (by rw [nl]; omega), fun o2 q2 H12 low2 hq2 h12 s12 => ?_⟩
        refine ⟨_, rfl, o2.map Int.neg, rs, ⟨q2, _, rfl, SqL.of h12, paired_ints _ _⟩, ⟨p, _, rfl, SqL.of ((s11.trans s12) _ _ hp10), paired_ints _ _⟩, ?_⟩
        rw [low2.uniq (low_zero nne), neg_neg_l, eq_self']
        exact ret _
end
end My
end
section
set_option maxRecDepth 100000
set_option Elab.async false
set_option linter.all false
set_option maxHeartbeats 4000000
namespace My
open PySem L2 L3
/-- all that the top has written -/
theorem all_mk {l : PySem.W.OpenLaw} {w : World} {K : PySem.W.Frag} {h : Heap} {mg : Str → Option Value} {fa  : Addr} {tBOUND tMOST : Tok} (X : K.In h) (G : h.Ns mainGlobals mg) (hfa : mg "law" = some (.ref fa))
    (tis_whole : TopF K "is_whole" "is_whole" s_whole)
    (tis_share : TopF K "is_share" "is_share" s_share)
    (tcheck_row : TopF K "check_row" "check_row" s_ckrow)
    (tcheck_amount : TopF K "check_amount" "check_amount" s_ckamt)
    (tlevel_behind : TopF K "level_behind" "level_behind" s_lvl)
    (tlowered : TopF K "lowered" "lowered" s_lowd)
    (tturned : TopF K "turned" "turned" s_turned)
    (ttaken : TopF K "taken" "taken" s_taken)
    (tpoured : TopF K "poured" "poured" s_poured)
    (t_law_cell_at : TopF K "_law_cell_at" "_law_cell_at" s_cell)
    (t_law_draw : TopF K "_law_draw" "_law_draw" s_draw)
    (t_law_row : TopF K "_law_row" "_law_row" s_row)
    (t_law_numbers : TopF K "_law_numbers" "_law_numbers" s_numbers)
    (t_law_lowered : TopF K "_law_lowered" "_law_lowered" s_llow)
    (t_law_one_less : TopF K "_law_one_less" "_law_one_less" s_less)
    (tlaw : TopF K "law" "law" s_law)
    (zzip : PySem.W.nsIn K mainGlobals "zip" = some none)
    (z0 : PySem.W.nsIn K mainGlobals "len" = some none)
    (z1 : PySem.W.nsIn K mainGlobals "range" = some none)
    (z2 : PySem.W.nsIn K mainGlobals "list" = some none)
    (z3 : PySem.W.nsIn K mainGlobals "tuple" = some none)
    (z4 : PySem.W.nsIn K mainGlobals "int" = some none)
    (z5 : PySem.W.nsIn K mainGlobals "bool" = some none)
    (z6 : PySem.W.nsIn K mainGlobals "str" = some none)
    (z7 : PySem.W.nsIn K mainGlobals "isinstance" = some none)
    (z8 : PySem.W.nsIn K mainGlobals "sum" = some none)
    (z9 : PySem.W.nsIn K mainGlobals "sorted" = some none)
    (z10 : PySem.W.nsIn K mainGlobals "any" = some none)
    (z11 : PySem.W.nsIn K mainGlobals "all" = some none)
    (z12 : PySem.W.nsIn K mainGlobals "abs" = some none)
    (z13 : PySem.W.nsIn K mainGlobals "max" = some none)
    (z14 : PySem.W.nsIn K mainGlobals "min" = some none)
    (aBOUND : PySem.W.nsIn K mainGlobals "BOUND" = some (some (.int 1000000 tBOUND)))
    (aMOST : PySem.W.nsIn K mainGlobals "MOST" = some (some (.int 1000000000 tMOST)))
    :
    ∃ fd : FuncData, (∀ (s : Shared) (v : Value), BindsTo s fd ⟨[v], []⟩ [("_law_script", v)]) ∧ ∀ base : Heap, K.In base → base.Ns mainGlobals mg → FnOk l.prog w K mg base CX0 5 fa fd ["_law_script"] (spLaw K) := by
  obtain ⟨f, fd, a, F⟩ := tlaw.ex
  have e := hfa.symm.trans (PySem.W.mg_of X G a)
  cases e
  have B : Bl mg := Bl.of X G z0 z1 z2 z3 z4 z5 z6 z7 z8 z9 z10 z11 z12 z13 z14
  have hzip := PySem.W.mg_none_of X G zzip
  have gBOUND := PySem.W.mg_of X G aBOUND
  have gMOST := PySem.W.mg_of X G aMOST
  refine ⟨fd, fun s v => ?_, fun base kb nb => ok_law  F ?_⟩
  · obtain ⟨oc, od, kV, doc, pm, an, cdv, ct, osl, rfl, lk, hcd⟩ := F.ex
    exact .of_eq rfl
  have c_is_whole := Ok.of (P := l.prog) (w := w) (base := base) (ps := ["value"]) tis_whole X G (fun _ _ _ _ _ _ us hl => match us, hl with | [_], _ => rfl) fun f fd F => ok_whole F B
  have c_is_share := Ok.of (P := l.prog) (w := w) (base := base) (ps := ["value"]) tis_share X G (fun _ _ _ _ _ _ us hl => match us, hl with | [_], _ => rfl) fun f fd F => ok_share F gBOUND c_is_whole
  have c_check_row := Ok.of (P := l.prog) (w := w) (base := base) (ps := ["row"]) tcheck_row X G (fun _ _ _ _ _ _ us hl => match us, hl with | [_], _ => rfl) fun f fd F => ok_ckrow F B c_is_share
  have c_check_amount := Ok.of (P := l.prog) (w := w) (base := base) (ps := ["amount"]) tcheck_amount X G (fun _ _ _ _ _ _ us hl => match us, hl with | [_], _ => rfl) fun f fd F => ok_ckamt F gMOST c_is_whole
  have c_level_behind := Ok.of (P := l.prog) (w := w) (base := base) (ps := ["row", "amount"]) tlevel_behind X G (fun _ _ _ _ _ _ us hl => match us, hl with | [_, _], _ => rfl) fun f fd F => ok_lvl F B
  have c_lowered := Ok.of (P := l.prog) (w := w) (base := base) (ps := ["row", "amount"]) tlowered X G (fun _ _ _ _ _ _ us hl => match us, hl with | [_, _], _ => rfl) fun f fd F => ok_lowd F B gBOUND c_level_behind
  have c_turned := Ok.of (P := l.prog) (w := w) (base := base) (ps := ["row"]) tturned X G (fun _ _ _ _ _ _ us hl => match us, hl with | [_], _ => rfl) fun f fd F => ok_turned F
  have c_taken := Ok.of (P := l.prog) (w := w) (base := base) (ps := ["row", "amount"]) ttaken X G (fun _ _ _ _ _ _ us hl => match us, hl with | [_, _], _ => rfl) fun f fd F => ok_taken F c_check_row c_check_amount c_lowered
  have c_poured := Ok.of (P := l.prog) (w := w) (base := base) (ps := ["row", "amount"]) tpoured X G (fun _ _ _ _ _ _ us hl => match us, hl with | [_, _], _ => rfl) fun f fd F => ok_poured F c_check_row c_check_amount c_lowered c_turned
  have c_cell_at := Ok.of (P := l.prog) (w := w) (base := base) (ps := ["_law_script", "_law_k"]) t_law_cell_at X G (fun _ _ _ _ _ _ us hl => match us, hl with | [_, _], _ => rfl) fun f fd F => ok_cell F B
  have c_draw := Ok.of (P := l.prog) (w := w) (base := base) (ps := ["_law_cell", "_law_k", "_law_many"]) t_law_draw X G (fun _ _ _ _ _ _ us hl => match us, hl with | [_, _, _], _ => rfl) fun f fd F => ok_draw F B
  have c_row := Ok.of (P := l.prog) (w := w) (base := base) (ps := ["_law_script"]) t_law_row X G (fun _ _ _ _ _ _ us hl => match us, hl with | [_], _ => rfl) fun f fd F => ok_row F B c_cell_at c_draw
  have c_numbers := Ok.of (P := l.prog) (w := w) (base := base) (ps := ["_law_found", "_law_many"]) t_law_numbers X G (fun _ _ _ _ _ _ us hl => match us, hl with | [_, _], _ => rfl) fun f fd F => ok_numbers F B
  have c_l_lowered := Ok.of (P := l.prog) (w := w) (base := base) (ps := ["_law_row_here", "_law_found", "_law_amount"]) t_law_lowered X G (fun _ _ _ _ _ _ us hl => match us, hl with | [_, _, _], _ => rfl) fun f fd F => ok_llow F B hzip c_numbers
  have c_one_less := Ok.of (P := l.prog) (w := w) (base := base) (ps := ["_law_row_here"]) t_law_one_less X G (fun _ _ _ _ _ _ us hl => match us, hl with | [_], _ => rfl) fun f fd F => ok_less F B
  exact ⟨B, c_cell_at, c_draw, c_row, c_taken, c_poured, c_l_lowered, c_one_less⟩
theorem walk {l : PySem.W.OpenLaw} {q : Program} {loose : List Str} {XP : (Str → Option Value) → Heap → Prop} {YP : World → Heap → Prop} {d : DefRec} {K : Params → PySem.W.Frag} (hn : l.most = some 63) (hdf : d.params.defaults = [])
    (hY : ∀ (w : World) (h : Heap), YP w h → (K w.params).In h)
    (F : ∀ (w : World) (mg : Str → Option Value) (fa : Addr) (h : Heap), (K w.params).In h → h.Ns mainGlobals mg → mg d.name = some (.ref fa) →
      ∃ fd : FuncData, (∀ (s : Shared) (u : Value), BindsTo s fd ⟨[u], []⟩ [("_law_script", u)]) ∧ ∀ base : Heap, (K w.params).In base → base.Ns mainGlobals mg → FnOk l.prog w (K w.params) mg base CX0 5 fa fd ["_law_script"] (spLaw (K w.params))) :
    PySem.W.WalkO q loose XP YP l.row.toRowW d [] (fun f vs => PySem.call f vs) :=
  walk_of (n := 63) (k := 5) (x := "_law_script") (CX := fun _ => CX0) (sp := fun w => spLaw (K w.params)) hn (by decide) hdf ⟨rfl, by decide, by decide⟩ hY F (fun _ _ a ns hl _ hS => ⟨a, ns, rfl, hS, hl, fun _ => rfl⟩) fun _ _ _ _ _ z => z
end My
end
section
open PySem PySem.W PyProof.Rows
set_option maxRecDepth 100000 in
set_option maxHeartbeats 0 in
theorem PySem.Challenge.cw_evenhand_k03_taken_and_given_holds : PySem.Challenge.rw_evenhand_k03_taken_and_given.Holds := by
  w_on; o_law; k_head; (case hw => w_witness2)
  k_fill
  refine My.walk (l := PySem.Challenge.rw_evenhand_k03_taken_and_given) rfl rfl (fun w h Y => PySem.W.kIn_of Y) ?hF1
  case hF1 =>
    intro w mg fa h KX G hmg
    refine' My.all_mk KX G hmg ?tis_whole ?tis_share ?tcheck_row ?tcheck_amount ?tlevel_behind ?tlowered ?tturned ?ttaken ?tpoured ?t_law_cell_at ?t_law_draw ?t_law_row ?t_law_numbers ?t_law_lowered ?t_law_one_less ?tlaw ?zzip ?z0 ?z1 ?z2 ?z3 ?z4 ?z5 ?z6 ?z7 ?z8 ?z9 ?z10 ?z11 ?z12 ?z13 ?z14 ?aBOUND ?aMOST
    (case tis_whole => (refine' L3.topF_mk ?p1 ?p2 ?p3 ?p4; (case p1 => k_is); (case p2 => k_is); (case p3 => k_is); (case p4 => k_is)))
    (case tis_share => (refine' L3.topF_mk ?p1 ?p2 ?p3 ?p4; (case p1 => k_is); (case p2 => k_is); (case p3 => k_is); (case p4 => k_is)))
    (case tcheck_row => (refine' L3.topF_mk ?p1 ?p2 ?p3 ?p4; (case p1 => k_is); (case p2 => k_is); (case p3 => k_is); (case p4 => k_is)))
    (case tcheck_amount => (refine' L3.topF_mk ?p1 ?p2 ?p3 ?p4; (case p1 => k_is); (case p2 => k_is); (case p3 => k_is); (case p4 => k_is)))
    (case tlevel_behind => (refine' L3.topF_mk ?p1 ?p2 ?p3 ?p4; (case p1 => k_is); (case p2 => k_is); (case p3 => k_is); (case p4 => k_is)))
    (case tlowered => (refine' L3.topF_mk ?p1 ?p2 ?p3 ?p4; (case p1 => k_is); (case p2 => k_is); (case p3 => k_is); (case p4 => k_is)))
    (case tturned => (refine' L3.topF_mk ?p1 ?p2 ?p3 ?p4; (case p1 => k_is); (case p2 => k_is); (case p3 => k_is); (case p4 => k_is)))
    (case ttaken => (refine' L3.topF_mk ?p1 ?p2 ?p3 ?p4; (case p1 => k_is); (case p2 => k_is); (case p3 => k_is); (case p4 => k_is)))
    (case tpoured => (refine' L3.topF_mk ?p1 ?p2 ?p3 ?p4; (case p1 => k_is); (case p2 => k_is); (case p3 => k_is); (case p4 => k_is)))
    (case t_law_cell_at => (refine' L3.topF_mk ?p1 ?p2 ?p3 ?p4; (case p1 => k_is); (case p2 => k_is); (case p3 => k_is); (case p4 => k_is)))
    (case t_law_draw => (refine' L3.topF_mk ?p1 ?p2 ?p3 ?p4; (case p1 => k_is); (case p2 => k_is); (case p3 => k_is); (case p4 => k_is)))
    (case t_law_row => (refine' L3.topF_mk ?p1 ?p2 ?p3 ?p4; (case p1 => k_is); (case p2 => k_is); (case p3 => k_is); (case p4 => k_is)))
    (case t_law_numbers => (refine' L3.topF_mk ?p1 ?p2 ?p3 ?p4; (case p1 => k_is); (case p2 => k_is); (case p3 => k_is); (case p4 => k_is)))
    (case t_law_lowered => (refine' L3.topF_mk ?p1 ?p2 ?p3 ?p4; (case p1 => k_is); (case p2 => k_is); (case p3 => k_is); (case p4 => k_is)))
    (case t_law_one_less => (refine' L3.topF_mk ?p1 ?p2 ?p3 ?p4; (case p1 => k_is); (case p2 => k_is); (case p3 => k_is); (case p4 => k_is)))
    (case tlaw => (refine' L3.topF_mk ?p1 ?p2 ?p3 ?p4; (case p1 => k_is); (case p2 => k_is); (case p3 => k_is); (case p4 => k_is)))
    (case zzip => k_is)
    (case z0 => k_is)
    (case z1 => k_is)
    (case z2 => k_is)
    (case z3 => k_is)
    (case z4 => k_is)
    (case z5 => k_is)
    (case z6 => k_is)
    (case z7 => k_is)
    (case z8 => k_is)
    (case z9 => k_is)
    (case z10 => k_is)
    (case z11 => k_is)
    (case z12 => k_is)
    (case z13 => k_is)
    (case z14 => k_is)
    (case aBOUND => k_is)
    (case aMOST => k_is)
end

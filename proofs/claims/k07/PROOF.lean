import PyProof.Rows.All
import Wide.All
import OpenK.AllK
import Wide.FinOn
import Lean
import PyProof.EqAt
import PyProof.EqKinds
import PyProof.TupleCall
import PyProof.Rows.SortRuns
import PyProof.Rows.SortRev
import PyProof.NeKinds
import KE.KLam
import KE.KSortKey
import PyProof.ListRange
import PyProof.ZipIter
import PyProof.Rows.ZipGen
import PyProof.Rows.FactsT2
import OpenK.KOwn
import PyProof.StrCalls6
import PyProof.Rows.StrItems
import PyProof.StrWalks
import PyProof.StrLawsChain
import KE.KIntText
import PyProof.Rows.StrCut
import PyProof.StrLawsIn
import PyProof.StrBlockI
import PyProof.Rows.Range3
import PyProof.Rows.ChunkEnd
import PyProof.Rows.ChunkLeaf
import PySem.Challenge.RW_evenhand_k07_refused
set_option maxRecDepth 100000
set_option Elab.async false
set_option linter.all false
set_option maxHeartbeats 0
noncomputable section
namespace L2
open PySem PySem.Spec PyProof.Rows
abbrev Key := Sum Int Str
noncomputable def keyIs : Key → Value → Bool
  | .inl k, v => Value.isInt k v
  | .inr x, v => Value.isStrOf x v
noncomputable def keyH (w : World) : Key → Int
  | .inl k => hashInt k
  | .inr x => hashStr w x
theorem j0t : ∀ {k : Key} {v : Value}, keyIs k v = true → (∃ i t, k = Sum.inl i ∧ v = Value.int i t) ∨ (∃ x t, k = Sum.inr x ∧ v = Value.str x t)
  | .inl i, v, h => by
    obtain ⟨t, e⟩ := Value.isInt_shape (k := i) (v := v) h
    exact .inl ⟨i, t, rfl, e⟩
  | .inr x, v, h => by
    obtain ⟨t, e⟩ := Value.isStrOf_shape (x := x) (v := v) h
    exact .inr ⟨x, t, rfl, e⟩
theorem key_ll (a b : Int) : decide ((Sum.inl a : Key) = Sum.inl b) = (a == b) := by
  by_cases e : a = b
  · subst e; simp
  · have h : ¬ (Sum.inl a : Key) = Sum.inl b := fun q => e (Sum.inl.inj q)
    rw [decide_eq_false h]
    exact (beq_eq_false_iff_ne.mpr e).symm
theorem key_rr (a b : Str) : decide ((Sum.inr a : Key) = Sum.inr b) = decide (a = b) := by
  by_cases e : a = b
  · subst e; simp
  · have h : ¬ (Sum.inr a : Key) = Sum.inr b := fun q => e (Sum.inr.inj q)
    rw [decide_eq_false h, decide_eq_false e]
theorem key_lr (a : Int) (b : Str) : decide ((Sum.inl a : Key) = Sum.inr b) = false := decide_eq_false (fun q => nomatch q)
theorem key_rl (a : Str) (b : Int) : decide ((Sum.inr a : Key) = Sum.inl b) = false := decide_eq_false (fun q => nomatch q)
noncomputable def j7k (prog : Program) (w : World) : PySem.KeyKind prog w Key where
  is := keyIs
  hash := keyH w
  inj := fun v a b ha hb => by
    rcases j0t ha with ⟨i, t, rfl, rfl⟩ | ⟨x, t, rfl, rfl⟩
    · rcases j0t hb with ⟨j, u, rfl, e⟩ | ⟨y, u, rfl, e⟩
      · injection e with e1 _; rw [e1]
      · exact nomatch e
    · rcases j0t hb with ⟨j, u, rfl, e⟩ | ⟨y, u, rfl, e⟩
      · exact nomatch e
      · injection e with e1 _; rw [e1]
  byValue := fun k v h => by
    rcases j0t h with ⟨i, t, rfl, rfl⟩ | ⟨x, t, rfl, rfl⟩ <;> rfl
  pyHash := fun hv h => by
    rcases j0t hv with ⟨i, t, rfl, rfl⟩ | ⟨x, t, rfl, rfl⟩
    · exact wpAny_pyHash_int h
    · exact wpAny_pyHash_str h
  eqBool := fun hu hv h => by
    rcases j0t hu with ⟨i, t, rfl, rfl⟩ | ⟨x, t, rfl, rfl⟩
    · rcases j0t hv with ⟨j, u, rfl, rfl⟩ | ⟨y, u, rfl, rfl⟩
      · rw [key_ll] at h; exact wpAny_eqBool_int h
      · rw [key_lr] at h; exact SeqAt.EqAt.int_str i t y u _ _ _ _ h
    · rcases j0t hv with ⟨j, u, rfl, rfl⟩ | ⟨y, u, rfl, rfl⟩
      · rw [key_rl] at h; exact SeqAt.EqAt.str_int x t j u _ _ _ _ h
      · rw [key_rr] at h; exact wpAny_eqBool_str h
  «strs» := fun k x t v h => by
    rcases j0t h with ⟨i, u, rfl, e⟩ | ⟨y, u, rfl, e⟩
    · exact nomatch e
    · injection e with e1 _
      subst e1
      cases v <;> rfl
end L2
namespace L2
open PySem PySem.Spec PyProof.Rows
inductive V where
  | non | bl (b : Bool) | int (i : Int) | str (x : Str) | byt (b : Array UInt8) | flt (b : UInt64) | ref (a : Addr) | ty (n : String)
  deriving DecidableEq
noncomputable def RelV : V → Value → Prop
  | .non, u => u = Value.none
  | .bl b, u => u = Value.bool b
  | .int i, u => ∃ t, u = Value.int i t
  | .str x, u => ∃ t, u = Value.str x t
  | .byt b, u => ∃ t, u = Value.bytes b t
  | .flt b, u => ∃ t, u = Value.float b t
  | .ref a, u => u = Value.ref a
  | .ty n, u => u = Value.type n
abbrev Vals : List V → List Value → Prop := Paired RelV
theorem Vals.length {xs : List V} {us : List Value} (r : Vals xs us) : xs.length = us.length := Paired.length r
theorem Vals.get : ∀ {xs : List V} {us : List Value} {i : Nat} {x : V}, Vals xs us → xs[i]? = some x → ∃ u, us[i]? = some u ∧ RelV x u
  | _, _, _, _, .nil, e => by simp at e
  | _, _, 0, _, .cons r _, e => by simp at e; subst e; exact ⟨_, rfl, r⟩
  | _, _, i + 1, x, .cons _ t, e => by
    obtain ⟨u, h1, h2⟩ := Vals.get (i := i) (x := x) t (by simpa using e)
    exact ⟨u, by simpa using h1, h2⟩
theorem Vals.set {x : V} {u : Value} (r : RelV x u) : ∀ {xs : List V} {us : List Value} (i : Nat), Vals xs us → Vals (xs.set i x) (us.set i u)
  | _, _, _, .nil => .nil
  | _, _, 0, .cons _ t => .cons r t
  | _, _, i + 1, .cons q t => .cons q (Vals.set r i t)
theorem Vals.append : ∀ {xs ys : List V} {us ws : List Value}, Vals xs us → Vals ys ws → Vals (xs ++ ys) (us ++ ws)
  | _, _, _, _, .nil, s => s
  | _, _, _, _, .cons r t, s => .cons r (Vals.append t s)
theorem Vals.take : ∀ {xs : List V} {us : List Value} (n : Nat), Vals xs us → Vals (xs.take n) (us.take n)
  | _, _, 0, _ => .nil
  | _, _, _ + 1, .nil => .nil
  | _, _, n + 1, .cons r t => .cons r (Vals.take n t)
theorem Vals.drop : ∀ {xs : List V} {us : List Value} (n : Nat), Vals xs us → Vals (xs.drop n) (us.drop n)
  | _, _, 0, r => r
  | _, _, _ + 1, .nil => .nil
  | _, _, n + 1, .cons _ t => Vals.drop n t
noncomputable def RelO : Option V → Option Value → Prop
  | some v, some u => RelV v u
  | none, none => True
  | _, _ => False
noncomputable def KV {κ : Type} : List (κ × V) → List (κ × Value) → Prop := Paired fun (p : κ × V) (q : κ × Value) => p.1 = q.1 ∧ RelV p.2 q.2
noncomputable def kV : Key → V
  | .inl i => .int i
  | .inr x => .str x
inductive HO where
  | lst (xs : List V)
  | tup (xs : List V)
  | dK (kvs : List (Key × V)) | dT (kvs : List (List Key × V))
  | set (S : Int → Bool) (n : Nat)
  | ins (C dx : Addr) (fs : List (Str × V))
  | own (x : Addr)
  | xd (fs : List (Str × V))
  | met (f x : Addr)
  | rng (lo hi : Int)
  | frz (o : Obj) (u : HO)
  | tbl (ps : Array Value)
  | ext (φ : Heap → Prop)
abbrev Hp := Addr → Option HO
noncomputable def upd (H : Hp) (a : Addr) (o : HO) : Hp := fun b => if b = a then some o else H b
theorem j01 {H : Hp} {a : Addr} {o : HO} : upd H a o a = some o := by unfold upd; rw [if_pos rfl]
theorem j0q {H : Hp} {a b : Addr} {o : HO} (h : b ≠ a) : upd H a o b = H b := by unfold upd; rw [if_neg h]
theorem j7l {H : Hp} {a : Addr} {o u : HO} : upd (upd H a o) a u = upd H a u := by
  funext b; unfold upd; split <;> rfl
theorem ne_of {H : Hp} {a b : Addr} {o u : HO} (h : H a = some o) (h' : H b = some u) (d : o ≠ u) : a ≠ b := by
  intro e; subst e; rw [h] at h'; exact d (Option.some.inj h')
theorem j0m {H : Hp} {a b : Addr} {o : HO} (h : H a = some o) (h' : H b = none) : a ≠ b := by
  intro e; subst e; rw [h] at h'; cases h'
section
variable (P : Program) (w : World)
noncomputable def j1h (H : Hp) (h : Heap) (a : Addr) : HO → Prop
  | .lst xs => xs.length ≤ sizeLine ∧ ∃ (its : List Value) (n : Nat), Vals xs its ∧ h.get? a = some { cls := .type "list", data := .seq its.toArray n }
  | .tup xs => xs.length ≤ sizeLine ∧ ∃ its : List Value, Vals xs its ∧ IsTup h a its.toArray
  | .dK kvs => kvs.length ≤ sizeLine ∧ (a == sysModules) = false ∧ ∃ vs, KV kvs vs ∧ h.DictOf (j7k P w) a vs
  | .dT kvs => kvs.length ≤ sizeLine ∧ (a == sysModules) = false ∧ ∃ xs : List (List Key × Addr × Value),
      Paired (fun (p : List Key × V) (q : List Key × Addr × Value) => p.1 = q.1 ∧ H q.2.1 = some (.tup (p.1.map kV)) ∧ RelV p.2 q.2.2) kvs xs ∧
      ∃ o es ep, h.get? a = some o ∧ o.ExactDict ∧ o.data = .dict es ep ∧ es.toList = xs.map (entryOfKey (tupleKind (j7k P w))) ∧ (xs.map (·.1)).Nodup
  | .set S n => h.SetOf (intKind P w) a S n
  | .ins C dx fs => H dx = some (.own a) ∧ fs.length ≤ 1000 ∧ dx ≠ a ∧ h.get? a = some (PySem.W.instObj C dx) ∧
      ∃ mA, h.Ns1 dx mA ∧ (∀ f, RelO (fs.lookup f) (mA f)) ∧ PySem.Within mA (fs.map (·.1))
  | .own _ => ∃ o, h.get? a = some o
  | .xd fs => ∃ mA, h.Ns1 a mA ∧ ∀ f, RelO (fs.lookup f) (mA f)
  | .rng lo hi => ∃ t u v, h.get? a = some { cls := .type "range", data := .fields #[.int lo t, .int hi u, .int 1 v] }
  | .frz o u => h.get? a = some o ∧ j1h H h a u
  | .tbl ps => h.get? a = some { cls := .none, data := .fields ps }
  | .met f x => h.get? a = some (PySem.W.methodObj (.ref f) (.ref x))
  | .ext φ => φ h ∧ (∃ o, h.get? a = some o) ∧ ∀ h1 h2 : Heap, φ h1 → (∀ o, h1.get? a = some o → h2.get? a = some o) → φ h2
noncomputable def HOk (H : Hp) (h : Heap) : Prop := ∀ a o, H a = some o → j1h P w H h a o
end
section
variable {P : Program} {w : World} {H H' : Hp} {h h' : Heap} {a : Addr} {o : HO}
theorem j1h.lt (x : j1h P w H h a o) : a < h.objs.size := by
  cases o with
  | lst xs => obtain ⟨_, _, _, _, e⟩ := x; exact Heap.lt_size e
  | tup xs => obtain ⟨_, _, _, p⟩ := x; exact p.lt
  | dK kvs => obtain ⟨_, _, _, _, o, _, _, e, _⟩ := x; exact Heap.lt_size e
  | dT kvs => obtain ⟨_, _, _, _, o, _, _, e, _⟩ := x; exact Heap.lt_size e
  | set S n => obtain ⟨o, _, _, _, e, _⟩ := x; exact Heap.lt_size e
  | ins C dx fs => obtain ⟨_, _, _, e, _⟩ := x; exact Heap.lt_size e
  | own y => obtain ⟨_, e⟩ := x; exact Heap.lt_size e
  | xd fs => obtain ⟨_, ⟨_, _, _, e, _⟩, _⟩ := x; exact Heap.lt_size e
  | rng lo hi => obtain ⟨_, _, _, e⟩ := x; exact Heap.lt_size e
  | frz ob u => obtain ⟨e, _⟩ := x; exact Heap.lt_size e
  | tbl ps => exact Heap.lt_size (show h.get? a = some _ from x)
  | met f y => exact Heap.lt_size (show h.get? a = some _ from x)
  | ext φ => obtain ⟨_, ⟨_, e⟩, _⟩ := x; exact Heap.lt_size e
theorem Paired.mapP {α β : Type} {F G : α → β → Prop} : ∀ {l₁ : List α} {l₂ : List β}, Paired F l₁ l₂ → (∀ a b, F a b → G a b) → Paired G l₁ l₂
  | _, _, .nil, _ => .nil
  | _, _, .cons r t, f => .cons (f _ _ r) (Paired.mapP t f)
theorem j1h.stay (x : j1h P w H h a o) (k : ∀ b u, (b = a ∨ H b = some (.own a)) → h.get? b = some u → h'.get? b = some u)
    (ho : ∀ b, H b = some (.own a) → H' b = some (.own a)) (ht : ∀ b xs, H b = some (.tup xs) → H' b = some (.tup xs)) : j1h P w H' h' a o := by
  induction o with
  | lst xs => obtain ⟨z, its, n, r, e⟩ := x; exact ⟨z, its, n, r, k _ _ (.inl rfl) e⟩
  | tup xs => obtain ⟨z, its, r, ob, e, c⟩ := x; exact ⟨z, its, r, ob, k _ _ (.inl rfl) e, c⟩
  | dK kvs => obtain ⟨z, y, vs, r, ob, es, ep, e, c⟩ := x; exact ⟨z, y, vs, r, ob, es, ep, k _ _ (.inl rfl) e, c⟩
  | dT kvs =>
    obtain ⟨z, y, xs, r, ob, es, ep, e, c⟩ := x
    exact ⟨z, y, xs, Paired.mapP r fun p q z => ⟨z.1, ht _ _ z.2.1, z.2.2⟩, ob, es, ep, k _ _ (.inl rfl) e, c⟩
  | set S n => obtain ⟨ob, es, ep, t, e, c⟩ := x; exact ⟨ob, es, ep, t, k _ _ (.inl rfl) e, c⟩
  | ins C dx fs =>
    obtain ⟨d, z, ne, e, mA, ⟨od, es, ep, e2, c⟩, r⟩ := x
    exact ⟨ho _ d, z, ne, k _ _ (.inl rfl) e, mA, ⟨od, es, ep, k _ _ (.inr d) e2, c⟩, r⟩
  | own y => obtain ⟨ob, e⟩ := x; exact ⟨ob, k _ _ (.inl rfl) e⟩
  | xd fs => obtain ⟨mA, ⟨od, es, ep, e, c⟩, r⟩ := x; exact ⟨mA, ⟨od, es, ep, k _ _ (.inl rfl) e, c⟩, r⟩
  | rng lo hi => obtain ⟨t, u, v, e⟩ := x; exact ⟨t, u, v, k _ _ (.inl rfl) e⟩
  | frz ob u ih => obtain ⟨e, q⟩ := x; exact ⟨k _ _ (.inl rfl) e, ih q⟩
  | tbl ps =>
    have e : h.get? a = some { cls := .none, data := .fields ps } := x
    show h'.get? a = some { cls := .none, data := .fields ps }
    exact k a _ (.inl rfl) e
  | met f y =>
    have e : h.get? a = some (PySem.W.methodObj (.ref f) (.ref y)) := x
    show h'.get? a = some (PySem.W.methodObj (.ref f) (.ref y))
    exact k a _ (.inl rfl) e
  | ext φ => obtain ⟨p, ⟨o, e⟩, st⟩ := x; exact ⟨st _ _ p fun o q => k _ _ (.inl rfl) q, ⟨o, k _ _ (.inl rfl) e⟩, st⟩
theorem HOk.lt (x : HOk P w H h) (e : H a = some o) : a < h.objs.size := (x a o e).lt
theorem HOk.fresh (x : HOk P w H h) (e : h.objs.size ≤ a) : H a = none := by
  cases q : H a with
  | none => rfl
  | some u => exact absurd (Nat.lt_of_lt_of_le (x.lt q) e) (Nat.lt_irrefl _)
theorem HOk.kept (x : HOk P w H h) (k : ∀ b u, h.get? b = some u → h'.get? b = some u) : HOk P w H h' := fun a o e =>
  (x a o e).stay (fun b u _ q => k b u q) (fun _ q => q) fun _ _ q => q
theorem HOk.laid (x : HOk P w H h) (k : ∀ b u, h.get? b = some u → h'.get? b = some u) (hp : h.objs.size ≤ a) (new : j1h P w (upd H a o) h' a o) : HOk P w (upd H a o) h' := fun b u e => by
  have hn := x.fresh hp
  by_cases hb : b = a
  · subst hb; rw [j01] at e; cases e; exact new
  · rw [j0q hb] at e
    exact (x b u e).stay (fun c v _ q => k c v q) (fun c q => by rw [j0q (j0m q hn)]; exact q) fun c xs q => by rw [j0q (j0m q hn)]; exact q
end
noncomputable def Rd (H : Hp) (a : Addr) (u : HO) : Prop := H a = some u ∨ ∃ o, H a = some (.frz o u)
theorem Rd.ok {P : Program} {w : World} {H : Hp} {h : Heap} {a : Addr} {u : HO} (r : Rd H a u) (x : HOk P w H h) : j1h P w H h a u := by
  rcases r with r | ⟨o, r⟩
  · exact x a u r
  · obtain ⟨_, q⟩ := x a _ r
    exact q
noncomputable def Mut : Option HO → Prop
  | some (.lst _) => True
  | some (.dK _) => True
  | some (.dT _) => True
  | some (.set _ _) => True
  | some (.ins _ _ _) => True
  | some (.ext _) => True
  | _ => False
section
variable {P : Program} {w : World} {H : Hp} {h h' : Heap} {x e : Addr} {o' : HO}
theorem HOk.write (ok : HOk P w H h) (mu : Mut (H x)) (he : e = x ∨ H e = some (.own x)) (k : ∀ b u, b ≠ e → h.get? b = some u → h'.get? b = some u) (heo : ∃ u, h'.get? e = some u)
    (new : j1h P w (upd H x o') h' x o') : HOk P w (upd H x o') h' := fun b u q => by
  have nown : ∀ c y, H c = some (.own y) → c ≠ x := fun c y r z => by subst z; rw [r] at mu; exact mu
  have ntup : ∀ c xs, H c = some (.tup xs) → c ≠ x := fun c xs r z => by subst z; rw [r] at mu; exact mu
  by_cases hb : b = x
  · subst hb; rw [j01] at q; cases q; exact new
  · rw [j0q hb] at q
    by_cases hbe : b = e
    · have q' : H b = some (.own x) := by
        rcases he with z | z
        · exact absurd (hbe.trans z) hb
        · rw [hbe]; exact z
      rw [q] at q'; cases q'
      obtain ⟨v, hv⟩ := heo
      exact ⟨v, by rw [hbe]; exact hv⟩
    · refine (ok b u q).stay (fun c v hc r => k c v ?_ r) (fun c r => by rw [j0q (nown c b r)]; exact r) fun c xs r => by rw [j0q (ntup c xs r)]; exact r
      rcases hc with rfl | hc
      · exact hbe
      · rintro rfl
        rcases he with z | z
        · exact nown c b hc z
        · rw [hc] at z; cases z; exact hb rfl
end
structure Un (fs ex : List Addr) (H H' : Hp) (h h' : Heap) : Prop where
  keep : ∀ b o, h.get? b = some o → H b = none → b ∉ fs → b ∉ ex → h'.get? b = some o
  slot : ∀ b o, h.get? b = some o → H b = none → b ∈ fs → b ∉ ex → ∃ sl, h'.get? b = some { o with slots := sl }
  free : ∀ b o, h.get? b = some o → H b = none → b ∉ ex → H' b = none
  there : ∀ b o, h.get? b = some o → b ∉ ex → ∃ o', h'.get? b = some o'
  tups : ∀ b xs, H b = some (.tup xs) → H' b = some (.tup xs)
  frzs : ∀ b o u, H b = some (.frz o u) → H' b = some (.frz o u)
  tbls : ∀ b ps, H b = some (.tbl ps) → ∃ more, H' b = some (.tbl (ps ++ more))
section
variable {fs fs' ex ex' : List Addr} {H H1 H2 : Hp} {h h1 h2 h' : Heap} {a x e : Addr} {o : HO}
theorem Un.any (u : Un fs ex H H1 h h1) {b : Addr} {ob : Obj} (q : h.get? b = some ob) (n : H b = none) (hx : b ∉ ex) : ∃ sl, h1.get? b = some { ob with slots := sl } := by
  by_cases hb : b ∈ fs
  · exact u.slot b ob q n hb hx
  · exact ⟨ob.slots, u.keep b ob q n hb hx⟩
theorem Un.kept (k : ∀ b u, h.get? b = some u → h'.get? b = some u) : Un fs ex H H h h' :=
  ⟨fun b ob q _ _ _ => k b ob q, fun b ob q _ _ _ => ⟨ob.slots, k b ob q⟩, fun _ _ _ n _ => n, fun b ob q _ => ⟨ob, k b ob q⟩, fun _ _ q => q, fun _ _ _ q => q, fun _ ps q => ⟨#[], by rw [q]; simp⟩⟩
theorem Un.refl : Un fs ex H H h h := Un.kept fun _ _ q => q
theorem Un.laid (k : ∀ b u, h.get? b = some u → h'.get? b = some u) (hp : h.objs.size ≤ a) (hn : H a = none) : Un fs ex H (upd H a o) h h' where
  keep := fun b u q _ _ _ => k b u q
  slot := fun b u q _ _ _ => ⟨u.slots, k b u q⟩
  free := fun b u q n _ => by rw [j0q (Nat.ne_of_lt (Nat.lt_of_lt_of_le (Heap.lt_size q) hp))]; exact n
  there := fun b u q _ => ⟨u, k b u q⟩
  tups := fun b xs q => by rw [j0q (j0m q hn)]; exact q
  frzs := fun b u xs q => by rw [j0q (j0m q hn)]; exact q
  tbls := fun b ps q => ⟨#[], by rw [j0q (j0m q hn), q]; simp⟩
theorem Un.write (mu : Mut (H x)) (he : e = x ∨ H e = some (.own x)) (k : ∀ b u, b ≠ e → h.get? b = some u → h'.get? b = some u) (heo : ∃ u, h'.get? e = some u) : Un fs ex H (upd H x o) h h' := by
  have hx : ∀ b, H b = none → b ≠ x := fun b n z => by subst z; rw [n] at mu; exact mu
  have hb : ∀ b, H b = none → b ≠ e := fun b n z => by
    subst z
    rcases he with r | r
    · exact hx b n r
    · rw [n] at r; cases r
  have hm : ∀ b u, H b = some u → ¬ Mut (some u) → b ≠ x := fun b u q nm z => by subst z; rw [q] at mu; exact nm mu
  refine ⟨fun b u q n _ _ => k b u (hb b n) q, fun b u q n _ _ => ⟨u.slots, k b u (hb b n) q⟩, fun b u q n _ => by rw [j0q (hx b n)]; exact n, fun b u q _ => ?_,
    fun b xs q => by rw [j0q (hm b _ q fun z => z)]; exact q, fun b u xs q => by rw [j0q (hm b _ q fun z => z)]; exact q, fun b ps q => ⟨#[], by rw [j0q (hm b _ q fun z => z), q]; simp⟩⟩
  by_cases hbe : b = e
  · subst hbe; exact heo
  · exact ⟨u, k b u hbe q⟩
end
noncomputable def trk (h : Heap) (H : Hp) : List Addr := (List.range h.objs.size).filter fun a => (H a).isSome
noncomputable def hidT (h : Heap) (H : Hp) : Heap := PySem.W.hideAll h (trk h H)
theorem j7m (h : Heap) (H : Hp) : (hidT h H).objs.size = h.objs.size := PySem.W.hideAll_size _ _
theorem hidT_get {h : Heap} {H : Hp} {b : Addr} {o : Obj} (e : h.get? b = some o) (n : H b = none) : (hidT h H).get? b = some o :=
  PySem.W.hideAll_get _ e fun hm => by
    have q : (H b).isSome = true := (List.mem_filter.mp hm).2
    rw [n] at q; simp at q
theorem of_hidT {h : Heap} {H : Hp} {b : Addr} {o : Obj} (e : (hidT h H).get? b = some o) : h.get? b = some o ∧ H b = none := by
  have e' : h.get? b = some o := PySem.W.of_hideAll (trk h H) e
  refine ⟨e', ?_⟩
  cases q : H b with
  | none => rfl
  | some x =>
    have hm : b ∈ trk h H := List.mem_filter.mpr ⟨List.mem_range.mpr (Heap.lt_size e'), by simp [q]⟩
    have z : (hidT h H).get? b = none := PySem.W.hideAll_none (trk h H) hm
    rw [z] at e; cases e
noncomputable def j30 (g h : Heap) (L : Addr) : List (Addr × Obj) := (List.range h.objs.size).filterMap fun a => if a = L ∨ (g.get? a).isSome = true then none else (h.get? a).map fun o => (a, o)
theorem j5r {g h : Heap} {L a : Addr} {o : Obj} (h1 : a ≠ L) (h2 : g.get? a = none) (h3 : h.get? a = some o) : (a, o) ∈ j30 g h L :=
  List.mem_filterMap.mpr ⟨a, List.mem_range.mpr (Heap.lt_size h3), by simp [h1, h2, h3]⟩
theorem j46 {g h : Heap} {L : Addr} {p : Addr × Obj} (hp : p ∈ j30 g h L) : p.1 ≠ L ∧ g.get? p.1 = none ∧ h.get? p.1 = some p.2 := by
  obtain ⟨b, _, e⟩ := List.mem_filterMap.mp hp
  split at e
  · cases e
  · rename_i hn
    cases q : h.get? b with
    | none => rw [q] at e; simp at e
    | some u =>
      rw [q] at e
      simp only [Option.map_some, Option.some.injEq] at e
      subst e
      refine ⟨fun z => hn (.inl z), ?_, q⟩
      show g.get? b = none
      cases r : g.get? b with
      | none => rfl
      | some v => exact (hn (.inr (by simp [r]))).elim
noncomputable def rest (g h : Heap) (L d : Addr) : List (Addr × Obj) := (j30 g h L).filter fun p => decide (p.1 ≠ d)
theorem news_all {g h : Heap} {L : Addr} : News g L h (j30 g h L) := fun p hp => let ⟨a, b, c⟩ := j46 hp; ⟨c, a, b⟩
end L2
namespace L2
open PySem PySem.Spec PyProof.Rows
structure Mod (K : PySem.W.Frag) (mg : Str → Option Value) (base : Heap) : Prop where
  kin : K.In base
  glob : base.Ns mainGlobals mg
  blt : ∃ mb, base.Ns builtinsNs mb ∧ ∀ x : Str, x ≠ "__name__" → mb x = bootBuiltins x
  nolimit : base.NoLimit
/-- the context: a def's body (or a comprehension's block) running. base: fixed through the whole law; s₀, H₀: the entry; outer: the frames whose slots others may change (a def's callers); stack: all frames that run;
   ex: iterators that were made ahead of the entry and are walked here (a comprehension's); fn: the names whose cells were made at the entry (a def: all; a comprehension's block: its own); calm: not within an except suite; pn: pins that every state bears; xe: what is wanted of an exception that leaves the code -/
structure Cx where
  prog : Program
  w : World
  K : PySem.W.Frag
  mg : Str → Option Value
  base : Heap
  A : Around
  N : List Str
  s₀ : Shared
  H₀ : Hp
  env : Env
  outer : List Env
  stack : List Env
  ex : List Addr
  fn : Str → Bool
  calm : Bool
  pn : List (Addr × Obj)
  xe : Value → Shared → Prop
noncomputable def frs (l : List Env) : List Addr := l.filterMap (·.frame)
abbrev Cx.fs (X : Cx) : List Addr := frs X.outer
noncomputable def Vis (sc : Scope) (x : Str) : Prop := sc.names.lookup x = some .local ∨ sc.names.lookup x = some .cell ∨ sc.names.lookup x = some .free
noncomputable def Loc (sc : Scope) (x : Str) : Prop := sc.names.lookup x = some .local ∨ sc.names.lookup x = some .cell
noncomputable def Look (env : Env) (h : Heap) (m : Str → Option Value) (x : Str) (u : Value) : Prop :=
  (env.kindOf x = some .local ∧ m x = some u) ∨ ((env.kindOf x = some .cell ∨ env.kindOf x = some .free) ∧ ∃ c, env.cells.lookup x = some c ∧ h.IsCell c (some u))
structure Cx.Ok (X : Cx) : Prop where
  mod : Mod X.K X.mg X.base
  kind : X.env.scope.kind = .function
  glob : X.env.globals = mainGlobals
  blt : X.env.builtins = builtinsNs
  above : X.s₀.heap.objs.size ≤ X.env.locals
  inj : ∀ x y c, X.env.cells.lookup x = some c → X.env.cells.lookup y = some c → x = y
  has : ∀ x, (X.env.kindOf x = some .cell ∨ X.env.kindOf x = some .free) → ∃ c, X.env.cells.lookup x = some c
  cab : ∀ x c, X.fn x = true → X.env.cells.lookup x = some c → X.s₀.heap.objs.size ≤ c
  hd : X.calm = true → X.A.handled = none
  frames : X.A.frames = some X.stack
  stk : X.stack = X.outer ∨ (X.stack = X.env :: X.outer ∧ X.env.frame = some X.env.locals)
  exf : ∀ b ∈ X.ex, b ≠ X.env.locals ∧ ∀ x c, X.env.cells.lookup x = some c → c ≠ b
  bs : ∀ b o, X.base.get? b = some o → X.s₀.heap.get? b = some o ∧ X.H₀ b = none
  bsz : X.base.objs.size ≤ X.s₀.heap.objs.size
  noex : ∀ b o, X.base.get? b = some o → b ∉ X.ex
  exfs : ∀ b ∈ X.ex, b ∉ X.fs
  funs : X.s₀.heap.FunFrames X.base X.outer
  frf : ∀ b ∈ X.fs, X.H₀ b = none
structure Inv (X : Cx) (pins : List (Addr × Obj)) (σ : List (Option V)) (H : Hp) (s : Shared) : Prop where
  ok : X.Ok
  os : s.os = X.s₀.os
  bare : AllBare s.gens
  base : Un X.fs X.ex X.H₀ H X.s₀.heap s.heap
  loc : ∃ m, s.heap.Ns X.env.locals m ∧ ∀ (i : Nat) (x : Str) (v : V), X.N[i]? = some x → σ[i]? = some (some v) → Vis X.env.scope x → ∃ u, RelV v u ∧ Look X.env s.heap m x u
  cell : ∀ x c, X.env.cells.lookup x = some c → ∃ v, s.heap.IsCell c v
  free : H X.env.locals = none
  freeC : ∀ x c, X.env.cells.lookup x = some c → H c = none
  pin : ∀ p ∈ X.pn ++ pins, s.heap.get? p.1 = some p.2 ∧ H p.1 = none ∧ p.1 ≠ X.env.locals ∧ p.1 ∉ X.fs ∧ ∀ v, p.2.data ≠ .cell v
  hok : HOk X.prog X.w H s.heap
  len : σ.length = X.N.length
section
variable {X : Cx} {pins : List (Addr × Obj)} {σ : List (Option V)} {H H' : Hp} {s : Shared} {h' : Heap}
theorem Cx.Ok.nofr (ok : X.Ok) {b : Addr} {o : Obj} (e : X.base.get? b = some o) : b ∉ X.fs := fun hb => by
  have := (ok.funs.mem hb).1
  rw [e] at this; cases this
theorem Inv.bs (I : Inv X pins σ H s) : ∀ b o, X.base.get? b = some o → s.heap.get? b = some o ∧ H b = none := fun b o e =>
  ⟨I.base.keep b o (I.ok.bs b o e).1 (I.ok.bs b o e).2 (I.ok.nofr e) (I.ok.noex b o e), I.base.free b o (I.ok.bs b o e).1 (I.ok.bs b o e).2 (I.ok.noex b o e)⟩
theorem Inv.bk (I : Inv X pins σ H s) : ∀ b o, X.base.get? b = some o → s.heap.get? b = some o := fun b o e => (I.bs b o e).1
theorem Inv.mod (I : Inv X pins σ H s) : Mod X.K X.mg X.base := I.ok.mod
theorem Inv.kIn (I : Inv X pins σ H s) : X.K.In s.heap := I.ok.mod.kin.keeps I.bk
theorem Inv.fr (I : Inv X pins σ H s) : ∃ m, Fr X.base X.env.locals s.heap m :=
  let ⟨m, hn, _⟩ := I.loc
  ⟨m, hn, I.bk, Nat.le_trans I.ok.bsz I.ok.above⟩
theorem Inv.lt (I : Inv X pins σ H s) : X.env.locals < s.heap.objs.size := let ⟨_, hn, _⟩ := I.loc; hn.lt
theorem Inv.sz (I : Inv X pins σ H s) : X.s₀.heap.objs.size ≤ s.heap.objs.size := Nat.le_trans I.ok.above (Nat.le_of_lt I.lt)
theorem Inv.nofs (I : Inv X pins σ H s) {a : Addr} (h : s.heap.objs.size ≤ a) : a ∉ X.fs := fun hb => by
  obtain ⟨_, o, ho, _⟩ := I.ok.funs.mem hb
  exact absurd (Nat.lt_of_lt_of_le (Heap.lt_size ho) (Nat.le_trans I.sz h)) (Nat.lt_irrefl _)
theorem Inv.cne (I : Inv X pins σ H s) : ∀ x c, X.env.cells.lookup x = some c → c ≠ X.env.locals := fun x c e z => by
  obtain ⟨v, o, ho, hd⟩ := I.cell x c e
  obtain ⟨m, ⟨o', es, ep, ho', hd', _⟩, _⟩ := I.loc
  rw [z, ho'] at ho; cases ho; rw [hd'] at hd; cases hd
theorem Inv.funs (I : Inv X pins σ H s) : s.heap.FunFrames X.base X.outer := by
  have all : ∀ (l : List Env), (∀ b ∈ frs l, b ∈ X.fs) → X.s₀.heap.FunFrames X.base l → s.heap.FunFrames X.base l := by
    intro l
    induction l with
    | nil => intro _ _; trivial
    | cons env r ih =>
      intro hs hl
      obtain ⟨hk, ⟨L, o, hf, hn, ho, hd⟩, hr⟩ := hl
      have hL : L ∈ X.fs := hs L (by unfold frs; rw [List.filterMap_cons, hf]; exact List.mem_cons_self)
      obtain ⟨sl, e⟩ := I.base.slot L o ho (I.ok.frf L hL) hL fun z => I.ok.exfs L z hL
      exact ⟨hk, ⟨L, _, hf, hn, e, hd⟩, ih (fun b hb => hs b (by unfold frs; rw [List.filterMap_cons, hf]; exact List.mem_cons_of_mem _ hb)) hr⟩
  exact all X.outer (fun _ hb => hb) I.ok.funs
theorem Inv.stack (I : Inv X pins σ H s) : s.heap.FunFrames X.base X.stack := by
  rcases I.ok.stk with e | ⟨e, hf⟩
  · rw [e]; exact I.funs
  · rw [e]
    obtain ⟨m, hn, _⟩ := I.loc
    refine .cons (by rw [I.ok.kind]; decide) hf hn ?_ I.funs
    exact Heap.get?_none_of_le (Nat.le_trans I.ok.bsz I.ok.above)
theorem Inv.stkSub (I : Inv X pins σ H s) : ∀ b ∈ frs X.stack, b ∈ X.env.locals :: X.fs := fun b hb => by
  rcases I.ok.stk with e | ⟨e, hf⟩
  · rw [e] at hb; exact List.mem_cons_of_mem _ hb
  · rw [e] at hb
    unfold frs at hb
    rw [List.filterMap_cons, hf] at hb
    exact hb
theorem Inv.stkFree (I : Inv X pins σ H s) : ∀ b ∈ frs X.stack, H b = none := fun b hb => by
  rcases List.mem_cons.mp (I.stkSub b hb) with e | hb
  · rw [e]; exact I.free
  · obtain ⟨_, o, ho, _⟩ := I.ok.funs.mem hb
    exact I.base.free b o ho (I.ok.frf b hb) fun z => I.ok.exfs b z hb
theorem Inv.step {g' : Array GenState} {t' : Nat} {d' : Drawn} {ch : List Addr} (I : Inv X pins σ H s)
    (hch : ∀ b ∈ ch, (b ∈ X.ex ∨ X.s₀.heap.objs.size ≤ b) ∧ b ≠ X.env.locals ∧ (∀ x c, X.env.cells.lookup x = some c → c ≠ b) ∧ ∀ p ∈ X.pn ++ pins, p.1 ≠ b)
    (keep : ∀ b o, b ≠ X.env.locals → b ∉ X.fs → b ∉ ch → s.heap.get? b = some o → H b = none → h'.get? b = some o)
    (slot : ∀ b o, b ≠ X.env.locals → b ∈ X.fs → b ∉ ch → s.heap.get? b = some o → H b = none → ∃ sl, h'.get? b = some { o with slots := sl }) (free : ∀ b o, b ∉ ch → s.heap.get? b = some o → H b = none → H' b = none)
    (there : ∀ b o, b ∉ ch → s.heap.get? b = some o → ∃ o', h'.get? b = some o')
    (tups : ∀ b xs, H b = some (.tup xs) → H' b = some (.tup xs)) (frzs : ∀ b o u, H b = some (.frz o u) → H' b = some (.frz o u)) (tbls : ∀ b ps, H b = some (.tbl ps) → ∃ more, H' b = some (.tbl (ps ++ more)))
    (ns : ∀ m, s.heap.Ns X.env.locals m → h'.Ns X.env.locals m) (hok : HOk X.prog X.w H' h') (hg : AllBare g') :
    Inv X pins σ H' { s with heap := h', gens := g', drawn := d', toks := t' } := by
  have neL : ∀ b o, X.s₀.heap.get? b = some o → b ≠ X.env.locals := fun b o e => Nat.ne_of_lt (Nat.lt_of_lt_of_le (Heap.lt_size e) I.ok.above)
  have neC : ∀ b o, X.s₀.heap.get? b = some o → b ∉ X.ex → b ∉ ch := fun b o e hx hb => by
    rcases (hch b hb).1 with z | z
    · exact hx z
    · exact absurd (Nat.lt_of_lt_of_le (Heap.lt_size e) z) (Nat.lt_irrefl _)
  have cellK : ∀ x c, X.env.cells.lookup x = some c → ∀ v, s.heap.IsCell c v → h'.IsCell c v := fun x c e v ⟨o, ho, hd⟩ => by
    have nch : c ∉ ch := fun z => (hch c z).2.2.1 x c e rfl
    by_cases hc : c ∈ X.fs
    · obtain ⟨sl, q⟩ := slot c o (I.cne x c e) hc nch ho (I.freeC x c e)
      exact ⟨_, q, hd⟩
    · exact ⟨o, keep c o (I.cne x c e) hc nch ho (I.freeC x c e), hd⟩
  refine ⟨I.ok, I.os, hg, ⟨fun b o e n hb hx => ?_, fun b o e n hb hx => ?_, fun b o e n hx => ?_, fun b o e hx => ?_, fun b xs e => tups b xs (I.base.tups b xs e), fun b o xs e => frzs b o xs (I.base.frzs b o xs e), fun b ps e => ?_⟩, ?_, fun x c e => ?_, ?_, fun x c e => ?_, fun p hp => ?_, hok, I.len⟩
  · exact keep b o (neL b o e) hb (neC b o e hx) (I.base.keep b o e n hb hx) (I.base.free b o e n hx)
  · obtain ⟨sl, e1⟩ := I.base.slot b o e n hb hx
    obtain ⟨sl', e2⟩ := slot b _ (neL b o e) hb (neC b o e hx) e1 (I.base.free b o e n hx)
    exact ⟨sl', e2⟩
  · obtain ⟨o', e1⟩ := I.base.there b o e hx
    exact free b o' (neC b o e hx) e1 (I.base.free b o e n hx)
  · obtain ⟨o', e1⟩ := I.base.there b o e hx
    exact there b o' (neC b o e hx) e1
  · obtain ⟨m1, e1⟩ := I.base.tbls b ps e
    obtain ⟨m2, e2⟩ := tbls b _ e1
    exact ⟨m1 ++ m2, by rw [e2, Array.append_assoc]⟩
  · obtain ⟨m, hn, hl⟩ := I.loc
    refine ⟨m, ns m hn, fun i x v e1 e2 e3 => ?_⟩
    obtain ⟨u, r, l⟩ := hl i x v e1 e2 e3
    refine ⟨u, r, ?_⟩
    rcases l with l | ⟨k, c, e, z⟩
    · exact .inl l
    · exact .inr ⟨k, c, e, cellK x c e _ z⟩
  · obtain ⟨v, z⟩ := I.cell x c e
    exact ⟨v, cellK x c e v z⟩
  · obtain ⟨m, ⟨o, _, _, ho, _⟩, _⟩ := I.loc
    exact free _ o (fun z => (hch _ z).2.1 rfl) ho I.free
  · obtain ⟨v, o, ho, hd⟩ := I.cell x c e
    exact free c o (fun z => (hch c z).2.2.1 x c e rfl) ho (I.freeC x c e)
  · obtain ⟨e, n, ne, nf, d⟩ := I.pin p hp
    have nch : p.1 ∉ ch := fun z => (hch p.1 z).2.2.2 p hp rfl
    exact ⟨keep p.1 p.2 ne nf nch e n, free p.1 p.2 nch e n, ne, nf, d⟩
theorem Inv.un {t' : Nat} (I : Inv X pins σ H s) (u : Un X.fs [] H H' s.heap h') (hok : HOk X.prog X.w H' h') : Inv X pins σ H' { s with heap := h', toks := t' } := by
  obtain ⟨m, ⟨o, es, ep, ho, r⟩, _⟩ := id I.loc
  obtain ⟨sl, hL⟩ := u.any ho I.free (by simp)
  exact I.step (g' := s.gens) (d' := s.drawn) (ch := []) (fun _ z => nomatch z) (fun b o _ hb _ e n => u.keep b o e n hb (by simp)) (fun b o _ hb _ e n => u.slot b o e n hb (by simp)) (fun b o _ e n => u.free b o e n (by simp)) (fun b o _ e => u.there b o e (by simp)) u.tups u.frzs u.tbls (fun m' hm => by
    obtain ⟨o', es', ep', ho', r'⟩ := hm
    rw [ho] at ho'; cases ho'
    exact ⟨_, es', ep', hL, r'⟩) hok I.bare
theorem Inv.call {g' : Array GenState} {t' : Nat} {d' : Drawn} {ch : List Addr} (I : Inv X pins σ H s) (u : Un (frs X.stack) ch H H' s.heap h') (hok : HOk X.prog X.w H' h') (hg : AllBare g')
    (hch : ∀ b ∈ ch, (b ∈ X.ex ∨ X.s₀.heap.objs.size ≤ b) ∧ b ≠ X.env.locals ∧ (∀ x c, X.env.cells.lookup x = some c → c ≠ b) ∧ ∀ p ∈ X.pn ++ pins, p.1 ≠ b) :
    Inv X pins σ H' { s with heap := h', gens := g', drawn := d', toks := t' } := by
  obtain ⟨m, ⟨o, es, ep, ho, r⟩, _⟩ := id I.loc
  obtain ⟨sl, hL⟩ := u.any ho I.free fun z => (hch _ z).2.1 rfl
  exact I.step (ch := ch) hch (fun b o hL hb hc e n => u.keep b o e n (fun z => (List.mem_cons.mp (I.stkSub b z)).elim hL hb) hc) (fun b o _ _ hc e n => u.any e n hc) (fun b o hc e n => u.free b o e n hc) (fun b o hc e => u.there b o e hc) u.tups u.frzs u.tbls (fun m' hm => by
    obtain ⟨o', es', ep', ho', r'⟩ := hm
    rw [ho] at ho'; cases ho'
    exact ⟨_, es', ep', hL, r'⟩) hok hg
theorem Inv.turned {t' : Nat} {it : Addr} (I : Inv X pins σ H s) (k : ∀ b o, b ≠ it → s.heap.get? b = some o → h'.get? b = some o) (hn : H it = none) (hL : it ≠ X.env.locals)
    (h1 : it ∈ X.ex ∨ X.s₀.heap.objs.size ≤ it) (h2 : ∀ x c, X.env.cells.lookup x = some c → c ≠ it) (h3 : ∀ p ∈ X.pn ++ pins, p.1 ≠ it) : Inv X pins σ H { s with heap := h', toks := t' } := by
  have nit : ∀ b u, H b = some u → b ≠ it := fun b u e z => by rw [z, hn] at e; cases e
  refine I.step (g' := s.gens) (d' := s.drawn) (ch := [it]) (fun b hb => ?_) (fun b o _ _ hc e _ => k b o (fun z => hc (by simp [z])) e) (fun b o _ _ hc e _ => ⟨o.slots, k b o (fun z => hc (by simp [z])) e⟩) (fun _ _ _ _ n => n)
    (fun b o hc e => ⟨o, k b o (fun z => hc (by simp [z])) e⟩) (fun _ _ e => e) (fun _ _ _ e => e) (fun b ps e => ⟨#[], by rw [e]; simp⟩) (fun m hm => ?_) (fun b u e => ?_) I.bare
  · have e : b = it := by simpa using hb
    subst e
    exact ⟨h1, hL, h2, h3⟩
  · obtain ⟨o, es, ep, ho, r⟩ := hm
    exact ⟨o, es, ep, k _ o (Ne.symm hL) ho, r⟩
  · refine (I.hok b u e).stay (fun c v hc q => k c v ?_ q) (fun _ q => q) fun _ _ q => q
    rcases hc with z | z
    · rw [z]; exact nit b u e
    · exact nit c _ z
theorem Inv.tok (I : Inv X pins σ H s) (t : Nat) : Inv X pins σ H { s with toks := t } := I.un (h' := s.heap) (t' := t) Un.refl I.hok
theorem Inv.kept {t' : Nat} (I : Inv X pins σ H s) (k : ∀ b u, s.heap.get? b = some u → h'.get? b = some u) : Inv X pins σ H { s with heap := h', toks := t' } := I.un (Un.kept k) (I.hok.kept k)
theorem Inv.laid {a : Addr} {o : HO} {t' : Nat} (I : Inv X pins σ H s) (k : ∀ b u, s.heap.get? b = some u → h'.get? b = some u) (hp : s.heap.objs.size ≤ a) (new : j1h X.prog X.w (upd H a o) h' a o) :
    Inv X pins σ (upd H a o) { s with heap := h', toks := t' } := I.un (Un.laid k hp (I.hok.fresh hp)) (I.hok.laid k hp new)
theorem Inv.write {x e : Addr} {o : HO} {t' : Nat} (I : Inv X pins σ H s) (mu : Mut (H x)) (he : e = x ∨ H e = some (.own x)) (k : ∀ b u, b ≠ e → s.heap.get? b = some u → h'.get? b = some u) (heo : ∃ u, h'.get? e = some u)
    (new : j1h X.prog X.w (upd H x o) h' x o) : Inv X pins σ (upd H x o) { s with heap := h', toks := t' } := I.un (Un.write mu he k heo) (I.hok.write mu he k heo new)
theorem Inv.pins_of {pins' : List (Addr × Obj)} (I : Inv X pins σ H s) (h : ∀ p ∈ pins', s.heap.get? p.1 = some p.2 ∧ H p.1 = none ∧ p.1 ≠ X.env.locals ∧ p.1 ∉ X.fs ∧ ∀ v, p.2.data ≠ .cell v) : Inv X pins' σ H s :=
  ⟨I.ok, I.os, I.bare, I.base, I.loc, I.cell, I.free, I.freeC, fun p hp => (List.mem_append.mp hp).elim (fun z => I.pin p (List.mem_append_left _ z)) (h p), I.hok, I.len⟩
theorem j6a {N : List Str} (hN : N.Nodup) {i j : Nat} {x : Str} (a : N[i]? = some x) (b : N[j]? = some x) : i = j := by
  obtain ⟨h1, e1⟩ := List.getElem?_eq_some_iff.mp a
  obtain ⟨h2, e2⟩ := List.getElem?_eq_some_iff.mp b
  exact (List.getElem_inj hN).mp (e1.trans e2.symm)
theorem j7n {M : Model} {A : Around} {E : Value → Shared → Prop} {i : Nat} {x : Str} {v : V} {u : Value} {Q : Unit → Shared → Prop} (I : Inv X pins σ H s) (hN : X.N.Nodup) (hi : X.N[i]? = some x) (hx : Loc X.env.scope x) (r : RelV v u)
    (h : ∀ s', Inv X pins (σ.set i (some v)) H s' → (∃ a, Heap.SameBut a s.heap s'.heap ∧ (a = X.env.locals ∨ X.env.cells.lookup x = some a)) → Q () s') (hf : X.fn x = true ∨ X.env.scope.names.lookup x = some .local := by first | exact .inl rfl | exact .inr rfl | assumption) : wpAny M A (storeName X.env x u) Q E s := by
  obtain ⟨m, hn, hl⟩ := id I.loc
  have hcls : (X.env.scope.kind == .class || (X.env.scope.kind == .module && X.env.locals != X.env.globals)) = false := by rw [I.ok.kind]; rfl
  have hiσ : i < σ.length := by rw [I.len]; exact (List.getElem?_eq_some_iff.mp hi).1
  have cne := I.cne
  have tracked : ∀ {a : Addr} {h' : Heap}, (∃ o, s.heap.get? a = some o ∧ H a = none) → Heap.SameBut a s.heap h' → HOk X.prog X.w H h' := fun {a h'} ha hs b ob e => by
    obtain ⟨_, _, hfree⟩ := ha
    refine (I.hok b ob e).stay (fun c w' hc q => (hs.2 c ?_).trans q) (fun _ q => q) fun _ _ q => q
    rintro rfl
    rcases hc with rfl | hc
    · rw [hfree] at e; cases e
    · rw [hfree] at hc; cases hc
  rcases hx with hk | hk
  · refine wpAny_storeName_local hk hn (fun h' hn' hs => ?_) hcls
    obtain ⟨oL, _, _, hoL, _⟩ := id hn
    refine h _ ⟨I.ok, I.os, I.bare, ⟨fun b o e n hb hx => ?_, fun b o e n hb hx => ?_, I.base.free, fun b o e hx => ?_, I.base.tups, I.base.frzs, I.base.tbls⟩, ⟨_, hn', fun j y v' e1 e2 e3 => ?_⟩, fun y c e => ?_, I.free, I.freeC, fun p hp => ?_, tracked ⟨oL, hoL, I.free⟩ hs, by simpa using I.len⟩ ⟨_, hs, .inl rfl⟩
    · exact (hs.2 b (Nat.ne_of_lt (Nat.lt_of_lt_of_le (Heap.lt_size e) I.ok.above))).trans (I.base.keep b o e n hb hx)
    · obtain ⟨sl, e1⟩ := I.base.slot b o e n hb hx
      exact ⟨sl, (hs.2 b (Nat.ne_of_lt (Nat.lt_of_lt_of_le (Heap.lt_size e) I.ok.above))).trans e1⟩
    · obtain ⟨o', e1⟩ := I.base.there b o e hx
      exact ⟨o', (hs.2 b (Nat.ne_of_lt (Nat.lt_of_lt_of_le (Heap.lt_size e) I.ok.above))).trans e1⟩
    · by_cases hj : j = i
      · subst hj
        rw [hi] at e1; cases e1
        rw [List.getElem?_set_self hiσ] at e2
        cases e2
        exact ⟨u, r, .inl ⟨hk, by simp⟩⟩
      · rw [List.getElem?_set_ne (Ne.symm hj)] at e2
        obtain ⟨u', r', q⟩ := hl j y v' e1 e2 e3
        refine ⟨u', r', ?_⟩
        rcases q with ⟨k, e⟩ | ⟨k, c, e, z⟩
        · refine .inl ⟨k, ?_⟩
          have : y ≠ x := fun e => hj (j6a hN e1 (e ▸ hi))
          simp [this, e]
        · exact .inr ⟨k, c, e, z.sameBut hs (cne y c e)⟩
    · obtain ⟨w', z⟩ := I.cell y c e
      exact ⟨w', z.sameBut hs (cne y c e)⟩
    · obtain ⟨e, n, ne, nf, d⟩ := I.pin p hp
      exact ⟨(hs.2 p.1 ne).trans e, n, ne, nf, d⟩
  · have hfn : X.fn x = true := by
      rcases hf with z | z
      · exact z
      · rw [z] at hk; cases hk
    obtain ⟨c, hc⟩ := I.ok.has x (.inl hk)
    obtain ⟨w', z⟩ := I.cell x c hc
    refine wpAny_storeName_cell I.ok.kind hk hc z (fun h' hc' hs => ?_)
    obtain ⟨oc, hoc, hocd⟩ := id z
    refine h { s with heap := h' } ⟨I.ok, I.os, I.bare, ⟨fun b o e n hb hx => ?_, fun b o e n hb hx => ?_, I.base.free, fun b o e hx => ?_, I.base.tups, I.base.frzs, I.base.tbls⟩, ⟨m, hn.sameBut hs (Ne.symm (cne x c hc)), fun j y v' e1 e2 e3 => ?_⟩, fun y c' e => ?_, I.free, I.freeC, fun p hp => ?_, tracked ⟨oc, hoc, I.freeC x c hc⟩ hs, by simpa using I.len⟩ ⟨c, hs, .inr hc⟩
    · exact (hs.2 b (Nat.ne_of_lt (Nat.lt_of_lt_of_le (Heap.lt_size e) (I.ok.cab x c hfn hc)))).trans (I.base.keep b o e n hb hx)
    · obtain ⟨sl, e1⟩ := I.base.slot b o e n hb hx
      exact ⟨sl, (hs.2 b (Nat.ne_of_lt (Nat.lt_of_lt_of_le (Heap.lt_size e) (I.ok.cab x c hfn hc)))).trans e1⟩
    · obtain ⟨o', e1⟩ := I.base.there b o e hx
      exact ⟨o', (hs.2 b (Nat.ne_of_lt (Nat.lt_of_lt_of_le (Heap.lt_size e) (I.ok.cab x c hfn hc)))).trans e1⟩
    · by_cases hj : j = i
      · subst hj
        rw [hi] at e1; cases e1
        rw [List.getElem?_set_self hiσ] at e2
        cases e2
        exact ⟨u, r, .inr ⟨.inl hk, c, hc, hc'⟩⟩
      · rw [List.getElem?_set_ne (Ne.symm hj)] at e2
        obtain ⟨u', r', q⟩ := hl j y v' e1 e2 e3
        refine ⟨u', r', ?_⟩
        rcases q with q | ⟨k, c', e, z'⟩
        · exact .inl q
        · refine .inr ⟨k, c', e, z'.sameBut hs ?_⟩
          rintro rfl
          exact hj (j6a hN e1 (I.ok.inj _ _ _ e hc ▸ hi))
    · by_cases hcc : c' = c
      · subst hcc; exact ⟨_, hc'⟩
      · obtain ⟨w2, z2⟩ := I.cell y c' e
        exact ⟨w2, z2.sameBut hs hcc⟩
    · obtain ⟨e, n, ne, nf, d⟩ := I.pin p hp
      refine ⟨(hs.2 p.1 ?_).trans e, n, ne, nf, d⟩
      intro q
      rw [q, hoc] at e
      have q' : oc = p.2 := Option.some.inj e
      exact d w' (by rw [← q']; exact hocd)
theorem j1u {M : Model} {A : Around} {E : Value → Shared → Prop} {i : Nat} {x : Str} {v : V} {u : Value} {Q : Unit → Shared → Prop} (I : Inv X pins σ H s) (hN : X.N.Nodup) (hi : X.N[i]? = some x) (hx : Loc X.env.scope x) (r : RelV v u)
    (h : ∀ s', Inv X pins (σ.set i (some v)) H s' → Q () s') (hf : X.fn x = true ∨ X.env.scope.names.lookup x = some .local := by first | exact .inl rfl | exact .inr rfl | assumption) : wpAny M A (storeName X.env x u) Q E s :=
  j7n I hN hi hx r (fun s' I' _ => h s' I') hf
theorem Inv.call' {s' : Shared} {ch : List Addr} (I : Inv X pins σ H s) (ho : s'.os = s.os) (u : Un (frs X.stack) ch H H' s.heap s'.heap) (hok : HOk X.prog X.w H' s'.heap) (hg : AllBare s'.gens)
    (hch : ∀ b ∈ ch, (b ∈ X.ex ∨ X.s₀.heap.objs.size ≤ b) ∧ b ≠ X.env.locals ∧ (∀ x c, X.env.cells.lookup x = some c → c ≠ b) ∧ ∀ p ∈ X.pn ++ pins, p.1 ≠ b) : Inv X pins σ H' s' := by
  obtain ⟨h', g', d', t', o'⟩ := s'
  have e : o' = s.os := ho
  subst e
  exact I.call (g' := g') (t' := t') (d' := d') u hok hg hch
end
abbrev XK := Value → Option Addr → Hp → Prop
abbrev St := List (Option V)
abbrev VK := V → Hp → Prop
abbrev TE := St → Hp → VK → Prop
abbrev TT := St → Hp → (Bool → Hp → Prop) → Prop
abbrev TA := St → Hp → (List V → Hp → Prop) → Prop
structure Ends where
  nx : St → Hp → Prop
  rt : VK
  bk : St → Hp → Prop := fun _ _ => False
  ct : St → Hp → Prop := fun _ _ => False
abbrev TS := Ends → St → Hp → Prop
noncomputable def EP (X : Cx) (pins : List (Addr × Obj)) (σ : St) (Q : VK) (u : Value) (s' : Shared) : Prop := ∃ v H', Inv X pins σ H' s' ∧ RelV v u ∧ Q v H'
noncomputable def TP (X : Cx) (pins : List (Addr × Obj)) (σ : St) (Q : Bool → Hp → Prop) (b : Bool) (s' : Shared) : Prop := ∃ H', Inv X pins σ H' s' ∧ Q b H'
noncomputable def AP (X : Cx) (pins : List (Addr × Obj)) (σ : St) (Q : List V → Hp → Prop) (us : List Value) (s' : Shared) : Prop := ∃ vs H', Inv X pins σ H' s' ∧ Vals vs us ∧ Q vs H'
noncomputable def SP (X : Cx) (pins : List (Addr × Obj)) (D : Ends) (f : Flow) (s' : Shared) : Prop :=
  match f with
  | .next => ∃ σ' H', Inv X pins σ' H' s' ∧ D.nx σ' H'
  | .brk => ∃ σ' H', Inv X pins σ' H' s' ∧ D.bk σ' H'
  | .cont => ∃ σ' H', Inv X pins σ' H' s' ∧ D.ct σ' H'
  | .ret u => ∃ v σ' H', Inv X pins σ' H' s' ∧ RelV v u ∧ D.rt v H'
noncomputable def PE (X : Cx) (e : Expr) (t : TE) : Prop :=
  ∀ (pins : List (Addr × Obj)) (s : Shared) (σ : St) (H : Hp) (Q : VK), Inv X pins σ H s → t σ H Q → wpAny (model X.prog X.w) X.A (eval e X.env) (EP X pins σ Q) X.xe s
noncomputable def PT (X : Cx) (e : Expr) (t : TT) : Prop :=
  ∀ (pins : List (Addr × Obj)) (s : Shared) (σ : St) (H : Hp) (Q : Bool → Hp → Prop), Inv X pins σ H s → t σ H Q → wpAny (model X.prog X.w) X.A (isTrue e X.env (eval e X.env)) (TP X pins σ Q) X.xe s
noncomputable def PW (X : Cx) (e : Expr) (t : TT) : Prop :=
  ∀ (whole : Sem Value) (pins : List (Addr × Obj)) (s : Shared) (σ : St) (H : Hp) (Q : Bool → Hp → Prop), Inv X pins σ H s → t σ H Q → wpAny (model X.prog X.w) X.A (isTrue e X.env whole) (TP X pins σ Q) X.xe s
theorem PW.pt {X : Cx} {e : Expr} {t : TT} (h : PW X e t) : PT X e t := h _
noncomputable def PA (X : Cx) (es : List Expr) (t : TA) : Prop :=
  ∀ (pos : Pos) (pins : List (Addr × Obj)) (s : Shared) (σ : St) (H : Hp) (Q : List V → Hp → Prop), Inv X pins σ H s → t σ H Q → wpAny (model X.prog X.w) X.A (spliced (backTo pos (starEach es X.env))) (AP X pins σ Q) X.xe s
noncomputable def PS (X : Cx) (st : Stmt) (t : TS) : Prop :=
  ∀ (pins : List (Addr × Obj)) (s : Shared) (σ : St) (H : Hp) (D : Ends), Inv X pins σ H s → t D σ H → wpAny (model X.prog X.w) X.A (exec st X.env) (SP X pins D) X.xe s
noncomputable def PSs (X : Cx) (st : List Stmt) (t : TS) : Prop :=
  ∀ (pins : List (Addr × Obj)) (s : Shared) (σ : St) (H : Hp) (D : Ends), Inv X pins σ H s → t D σ H → wpAny (model X.prog X.w) X.A (execs st X.env) (SP X pins D) X.xe s
theorem thn {α : Type} {t : Sem α} {Q Q' : α → Shared → Prop} {M : Model} {A : Around} {E : Value → Shared → Prop} {s : Shared} (h : wpAny M A t Q E s) (hQ : ∀ a s, Q a s → Q' a s) : wpAny M A t Q' E s := wpAny_mono h hQ fun _ _ x => x
end L2
namespace L2
open PySem PySem.Spec PyProof.Rows
section
variable {X : Cx}
noncomputable def tVar (i : Nat) : TE := fun σ H Q => ∃ v, σ[i]? = some (some v) ∧ Q v H
noncomputable def tC (v : V) : TE := fun _ H Q => Q v H
theorem pe_var {i : Nat} {x : Str} {pos : Pos} (hN : X.N[i]? = some x) (hv : Vis X.env.scope x) (hd : (x == ("__debug__" : Str)) = false := by decide) (hcd : (x == ("__classdict__" : Str)) = false := by decide) : PE X (.Name x pos) (tVar i) := by
  intro pins s σ H Q I h
  obtain ⟨v, e, h⟩ := h
  obtain ⟨m, hn, hl⟩ := I.loc
  obtain ⟨u, r, l⟩ := hl i x v hN e hv
  have fin : EP X pins σ Q u s := ⟨v, H, I, r, h⟩
  rcases l with ⟨hk, hm⟩ | ⟨hk, c, hc, hcell⟩
  · exact wpAny_Name (wpAny_loadName_local I.ok.kind hk hn hm fin) hd
  · rcases hk with hk | hk
    · exact wpAny_Name (wpAny_loadName_cell I.ok.kind hk hc hcell fin) hd
    · exact wpAny_Name (wpAny_loadName_free I.ok.kind hk hc hcell fin hcd) hd
theorem j04 {i j pos} : PE X (.Constant (.int i) j pos) (tC (.int i)) := fun _ _ _ H _ I h => wpAny_Constant_int ⟨.int i, H, I.tok _, ⟨_, rfl⟩, h⟩
theorem j1i {b j pos} : PE X (.Constant (.bool b) j pos) (tC (.bl b)) := fun _ _ _ H _ I h => Constant_bool ⟨.bl b, H, I, rfl, h⟩
theorem j22 {j pos} : PE X (.Constant .none j pos) (tC .non) := fun _ _ _ H _ I h => Constant_none ⟨.non, H, I, rfl, h⟩
theorem j39 {x j pos} : PE X (.Constant (.str x) j pos) (tC (.str x)) := fun _ _ _ H _ I h => Calls.Constant_str ⟨.str x, H, I.tok _, ⟨_, rfl⟩, h⟩
noncomputable def Gl (X : Cx) (x : Str) : Prop := X.env.kindOf x = some .globalImplicit
theorem j3q {E : Value → Shared → Prop} {pins : List (Addr × Obj)} {s : Shared} {σ : St} {H : Hp} {x : Str} {u : Value} {pos : Pos} {Q : Value → Shared → Prop} (I : Inv X pins σ H s) (hg : Gl X x) (hm : X.mg x = some u) (h : Q u s)
    (hd : (x == ("__debug__" : Str)) = false := by decide) : wpAny (model X.prog X.w) X.A (eval (.Name x pos) X.env) Q E s :=
  Calls.Name_function_global I.ok.kind hg (Calls.loadGlobal_global (by rw [I.ok.glob]; exact I.mod.glob.keeps I.bk) hm h) hd
theorem j3r {E : Value → Shared → Prop} {pins : List (Addr × Obj)} {s : Shared} {σ : St} {H : Hp} {x : Str} {u : Value} {pos : Pos} {Q : Value → Shared → Prop} (I : Inv X pins σ H s) (hg : Gl X x) (hm : X.mg x = none) (hv : bootBuiltins x = some u) (h : Q u s)
    (hn : x ≠ "__name__" := by decide) (hd : (x == ("__debug__" : Str)) = false := by decide) : wpAny (model X.prog X.w) X.A (eval (.Name x pos) X.env) Q E s := by
  obtain ⟨mb, h1, h2⟩ := I.mod.blt
  exact Calls.Name_function_global I.ok.kind hg (Calls.loadGlobal_builtin (by rw [I.ok.glob]; exact I.mod.glob.keeps I.bk) hm (by rw [I.ok.blt]; exact h1.keeps I.bk) ((h2 x hn).trans hv) h) hd
theorem j0o {x : Str} {v : V} {u : Value} {pos : Pos} (hg : Gl X x) (hm : X.mg x = some u) (r : RelV v u) (hd : (x == ("__debug__" : Str)) = false := by decide) : PE X (.Name x pos) (tC v) :=
  fun _ _ _ H _ I h => j3q I hg hm ⟨v, H, I, r, h⟩ hd
theorem j31 {x : Str} {v : V} {u : Value} {pos : Pos} (hg : Gl X x) (hm : X.mg x = none) (hv : bootBuiltins x = some u) (r : RelV v u) (hn : x ≠ "__name__" := by decide) (hd : (x == ("__debug__" : Str)) = false := by decide) : PE X (.Name x pos) (tC v) :=
  fun _ _ _ H _ I h => j3r I hg hm hv ⟨v, H, I, r, h⟩ hn hd
noncomputable def t2I (ta tb : TE) (k : Int → Int → Hp → Prop) : St → Hp → Prop := fun σ H => ta σ H fun x H1 => tb σ H1 fun y H2 => ∃ i j, x = .int i ∧ y = .int j ∧ k i j H2
noncomputable def tAdd (ta tb : TE) : TE := fun σ H Q => t2I ta tb (fun i j H2 => Q (.int (i + j)) H2) σ H
noncomputable def tSub (ta tb : TE) : TE := fun σ H Q => t2I ta tb (fun i j H2 => Q (.int (i - j)) H2) σ H
noncomputable def tMul (ta tb : TE) : TE := fun σ H Q => t2I ta tb (fun i j H2 => (-(2 ^ 64) < i ∧ i < 2 ^ 64) ∧ Q (.int (i * j)) H2) σ H
variable {a b : Expr} {ta tb : TE} {pos : Pos}
noncomputable def PC (X : Cx) (op : CmpOp) (a b : Expr) (t : TE) : Prop :=
  ∀ (pins : List (Addr × Obj)) (s : Shared) (σ : St) (H : Hp) (Q : VK), Inv X pins σ H s → t σ H Q →
    wpAny (model X.prog X.w) X.A (eval a X.env) (fun v s₁ => wpAny (model X.prog X.w) X.A (eval b X.env) (fun u s₂ => wpAny (model X.prog X.w) X.A (compareOp op v u) (EP X pins σ Q) X.xe s₂) X.xe s₁) X.xe s
noncomputable def tCmp (p : Int → Int → Bool) (ta tb : TE) : TE := fun σ H Q => t2I ta tb (fun i j H2 => Q (.bl (p i j)) H2) σ H
abbrev tLt : TE → TE → TE := tCmp fun i j => decide (i < j)
abbrev tLe : TE → TE → TE := tCmp fun i j => decide (i ≤ j)
abbrev tGt : TE → TE → TE := tCmp fun i j => decide (j < i)
abbrev tGe : TE → TE → TE := tCmp fun i j => decide (j ≤ i)
abbrev tEqI : TE → TE → TE := tCmp fun i j => decide (i = j)
abbrev tNeI : TE → TE → TE := tCmp fun i j => !decide (i = j)
noncomputable def tIsN (ta : TE) : TE := fun σ H Q => ta σ H fun x H1 => Q (.bl (decide (x = .non))) H1
noncomputable def tNotN (ta : TE) : TE := fun σ H Q => ta σ H fun x H1 => Q (.bl (!decide (x = .non))) H1
noncomputable def tB (t : TE) : TT := fun σ H Q => t σ H fun x H1 => ∃ c, x = .bl c ∧ Q c H1
theorem j19 {e : Expr} {t : TE} (h : PE X e t) (he : ∀ whole, isTrue e X.env whole = (do let v ← whole; standAt e.pos; holding [v] (truthy v)) := by intro _; rfl) : PT X e (tB t) := by
  intro pins s σ H Q I hw
  refine isTrue_plain (thn (h pins s σ H _ I hw) fun v s1 ⟨x, H1, I1, r1, q1⟩ => ?_) (he _)
  obtain ⟨d, rfl, q⟩ := q1
  cases r1
  exact wpAny_truthy_bool ⟨H1, I1, q⟩
variable {tA tB' : TT} {rest : List Expr}
noncomputable def tAnd (t u : TT) : TT := fun σ H Q => t σ H fun c H1 => if c = true then u σ H1 Q else Q false H1
noncomputable def tOr (t u : TT) : TT := fun σ H Q => t σ H fun c H1 => if c = true then Q true H1 else u σ H1 Q
noncomputable def tNot (t : TT) : TT := fun σ H Q => t σ H fun c H1 => Q (!c) H1
theorem pw_and1 (ha : PT X a tA) : PW X (.BoolOp .And [a] pos) tA := by
  intro wh pins s σ H Q I h
  refine isTrue_and (thn (ha pins s σ H Q I h) fun c s1 e => ?_)
  cases c with
  | true => exact isTrue_and_nil e
  | false => exact e
theorem j2m (ha : PT X a tA) : PW X (.BoolOp .Or [a] pos) tA := by
  intro wh pins s σ H Q I h
  refine isTrue_or (thn (ha pins s σ H Q I h) fun c s1 e => ?_)
  cases c with
  | false => exact isTrue_or_nil e
  | true => exact e
theorem pw_and (ha : PT X a tA) (hb : PW X (.BoolOp .And (b :: rest) pos) tB') : PW X (.BoolOp .And (a :: b :: rest) pos) (tAnd tA tB') := by
  intro wh pins s σ H Q I h
  refine isTrue_and (thn (ha pins s σ H _ I h) fun c s1 ⟨H1, I1, q1⟩ => ?_)
  cases c with
  | true => exact hb wh pins s1 σ H1 Q I1 q1
  | false => exact ⟨H1, I1, q1⟩
theorem j4k (ha : PT X a tA) (hb : PW X (.BoolOp .Or (b :: rest) pos) tB') : PW X (.BoolOp .Or (a :: b :: rest) pos) (tOr tA tB') := by
  intro wh pins s σ H Q I h
  refine isTrue_or (thn (ha pins s σ H _ I h) fun c s1 ⟨H1, I1, q1⟩ => ?_)
  cases c with
  | true => exact ⟨H1, I1, q1⟩
  | false => exact hb wh pins s1 σ H1 Q I1 q1
theorem j14 (ha : PT X a tA) : PT X (.UnaryOp .Not a pos) (tNot tA) := by
  intro pins s σ H Q I h
  exact isTrue_not (ha pins s σ H (fun c H1 => Q (!c) H1) I h)
noncomputable def tAndV (ta tb : TE) : TE := fun σ H Q => ta σ H fun x H1 => ∃ c, x = .bl c ∧ if c = true then tb σ H1 Q else Q (.bl false) H1
noncomputable def tOrV (ta tb : TE) : TE := fun σ H Q => ta σ H fun x H1 => ∃ c, x = .bl c ∧ if c = true then Q (.bl true) H1 else tb σ H1 Q
noncomputable def tNotV (ta : TE) : TE := fun σ H Q => ta σ H fun x H1 => ∃ c, x = .bl c ∧ Q (.bl (!c)) H1
theorem j53 {op} {t : TE} (h : PE X a t) : PE X (.BoolOp op [a] pos) t := fun pins s σ H Q I hw => BoolOp_one (h pins s σ H Q I hw)
theorem j3s (ha : PE X a ta) (hb : PE X (.BoolOp .And (b :: rest) pos) tb) : PE X (.BoolOp .And (a :: b :: rest) pos) (tAndV ta tb) := by
  intro pins s σ H Q I h
  refine BoolOp_and (thn (ha pins s σ H _ I h) fun v s1 ⟨x, H1, I1, r1, q1⟩ => ?_)
  obtain ⟨c, rfl, q1⟩ := q1
  cases r1
  refine wpAny_truthy_bool ?_
  cases c with
  | true => exact hb pins s1 σ H1 Q I1 q1
  | false => exact ⟨.bl false, H1, I1, rfl, q1⟩
theorem pe_not (ha : PE X a ta) : PE X (.UnaryOp .Not a pos) (tNotV ta) := by
  intro pins s σ H Q I h
  refine UnaryOp_ (thn (ha pins s σ H _ I h) fun v s1 ⟨x, H1, I1, r1, q1⟩ => ?_)
  obtain ⟨c, rfl, q1⟩ := q1
  cases r1
  exact not_of (wpAny_truthy_bool ⟨.bl (!c), H1, I1, rfl, q1⟩)
noncomputable def tIf (t : TT) (ta tb : TE) : TE := fun σ H Q => t σ H fun c H1 => if c = true then ta σ H1 Q else tb σ H1 Q
theorem j1e {c : Expr} (hc : PT X c tA) (ha : PE X a ta) (hb : PE X b tb) : PE X (.IfExp c a b pos) (tIf tA ta tb) := by
  intro pins s σ H Q I h
  refine wpAny_IfExp (thn (hc pins s σ H _ I h) fun d s1 ⟨H1, I1, q1⟩ => ?_)
  cases d with
  | true => exact ha pins s1 σ H1 Q I1 q1
  | false => exact hb pins s1 σ H1 Q I1 q1
end
end L2
namespace L2
open PySem PySem.Spec PyProof.Rows
noncomputable def SqL (K : PySem.W.Frag) (H : Hp) (a : Addr) (xs : List V) : Prop :=
  Rd H a (.lst xs) ∨
    ∃ (o : Obj) (its : Array Value) (n : Nat), K.lookup a = some o ∧ o.cls = .type "list" ∧ o.dict = none ∧ o.data = .seq its n ∧ its.size ≤ sizeLine ∧ Vals xs its.toList
noncomputable def SqT (K : PySem.W.Frag) (H : Hp) (a : Addr) (xs : List V) : Prop :=
  Rd H a (.tup xs) ∨
    ∃ (o : Obj) (its : Array Value) (n : Nat), K.lookup a = some o ∧ o.cls = .type "tuple" ∧ o.data = .seq its n ∧ its.size ≤ sizeLine ∧ Vals xs its.toList
noncomputable def absV : Value → Option V
  | .none => some .non
  | .bool b => some (.bl b)
  | .int i _ => some (.int i)
  | .str x _ => some (.str x)
  | .bytes b _ => some (.byt b)
  | .float b _ => some (.flt b)
  | .ref a => some (.ref a)
  | .type n => some (.ty n)
  | _ => none
theorem RelV.abs {x : V} {u : Value} (r : RelV x u) : absV u = some x := by
  cases x with
  | non => cases r; rfl
  | bl _ => cases r; rfl
  | int _ => obtain ⟨t, rfl⟩ := r; rfl
  | str _ => obtain ⟨t, rfl⟩ := r; rfl
  | byt _ => obtain ⟨t, rfl⟩ := r; rfl
  | flt _ => obtain ⟨t, rfl⟩ := r; rfl
  | ref _ => cases r; rfl
  | ty _ => cases r; rfl
theorem RelV.inj {x y : V} {u : Value} (r : RelV x u) (q : RelV y u) : x = y := Option.some.inj (r.abs.symm.trans q.abs)
theorem Vals.inj : ∀ {xs ys : List V} {us : List Value}, Vals xs us → Vals ys us → xs = ys
  | _, _, _, .nil, .nil => rfl
  | _, _, _, .cons r t, .cons r' t' => by rw [r.inj r', Vals.inj t t']
section
variable {X : Cx} {pins : List (Addr × Obj)} {σ : St} {H : Hp} {s : Shared} {a : Addr} {xs ys : List V}
theorem SqL.of {K : PySem.W.Frag} (h : H a = some (.lst xs)) : SqL K H a xs := .inl (.inl h)
theorem SqT.of {K : PySem.W.Frag} (h : H a = some (.tup xs)) : SqT K H a xs := .inl (.inl h)
theorem Inv.list (I : Inv X pins σ H s) (h : SqL X.K H a xs) : ∃ its : List Value, Vals xs its ∧ PlainL s.heap a its.toArray ∧ xs.length ≤ sizeLine := by
  rcases h with h | ⟨o, its, n, hk, hc, hd, hs, hz, r⟩
  · obtain ⟨z, its, n, r, e⟩ := h.ok I.hok
    exact ⟨its, r, ⟨_, n, e, rfl, rfl, rfl⟩, z⟩
  · refine ⟨its.toList, r, ⟨o, n, I.kIn a o hk, hc, hd, by simpa using hs⟩, ?_⟩
    have e := r.length
    simp only [Array.length_toList] at e
    omega
theorem Inv.tuple (I : Inv X pins σ H s) (h : SqT X.K H a xs) : ∃ its : List Value, Vals xs its ∧ IsTup s.heap a its.toArray ∧ xs.length ≤ sizeLine := by
  rcases h with h | ⟨o, its, n, hk, hc, hs, hz, r⟩
  · obtain ⟨z, its, r, p⟩ := h.ok I.hok
    exact ⟨its, r, p, z⟩
  · refine ⟨its.toList, r, ⟨o, I.kIn a o hk, hc, n, by simpa using hs⟩, ?_⟩
    have e := r.length
    simp only [Array.length_toList] at e
    omega
theorem Inv.list_inj (I : Inv X pins σ H s) (h : SqL X.K H a xs) (h' : SqL X.K H a ys) : xs = ys := by
  obtain ⟨its, r, ⟨o, n, e, _, _, d⟩, _⟩ := I.list h
  obtain ⟨its', r', ⟨o', n', e', _, _, d'⟩, _⟩ := I.list h'
  rw [e] at e'; cases e'
  rw [d] at d'
  injection d' with d1 _
  have : its = its' := by simpa using congrArg Array.toList d1
  subst this
  exact r.inj r'
end
abbrev Cx.wish (X : Cx) (E : Value → Shared → Prop) : Cx := { X with xe := E }
abbrev Cx.nox (X : Cx) : Cx := X.wish fun _ _ => False
theorem Cx.Ok.wish {X : Cx} (ok : X.Ok) (E : Value → Shared → Prop) : (X.wish E).Ok :=
  ⟨ok.mod, ok.kind, ok.glob, ok.blt, ok.above, ok.inj, ok.has, ok.cab, ok.hd, ok.frames, ok.stk, ok.exf, ok.bs, ok.bsz, ok.noex, ok.exfs, ok.funs, ok.frf⟩
theorem Cx.Ok.unwish {X : Cx} {E : Value → Shared → Prop} (ok : (X.wish E).Ok) : X.Ok :=
  ⟨ok.mod, ok.kind, ok.glob, ok.blt, ok.above, ok.inj, ok.has, ok.cab, ok.hd, ok.frames, ok.stk, ok.exf, ok.bs, ok.bsz, ok.noex, ok.exfs, ok.funs, ok.frf⟩
section
variable {X : Cx} {pins : List (Addr × Obj)} {σ : St} {H : Hp} {s : Shared} {E : Value → Shared → Prop}
theorem Inv.wish (I : Inv X pins σ H s) (E : Value → Shared → Prop) : Inv (X.wish E) pins σ H s := ⟨I.ok.wish E, I.os, I.bare, I.base, I.loc, I.cell, I.free, I.freeC, I.pin, I.hok, I.len⟩
theorem Inv.unwish (I : Inv (X.wish E) pins σ H s) : Inv X pins σ H s := ⟨I.ok.unwish, I.os, I.bare, I.base, I.loc, I.cell, I.free, I.freeC, I.pin, I.hok, I.len⟩
theorem SP.unwish {D : Ends} {f : Flow} {s' : Shared} (h : SP (X.wish E) pins D f s') : SP X pins D f s' := by
  cases f with
  | next => obtain ⟨σ', H', I, q⟩ := h; exact ⟨σ', H', I.unwish, q⟩
  | brk => obtain ⟨σ', H', I, q⟩ := h; exact ⟨σ', H', I.unwish, q⟩
  | cont => obtain ⟨σ', H', I, q⟩ := h; exact ⟨σ', H', I.unwish, q⟩
  | ret u => obtain ⟨v, σ', H', I, r, q⟩ := h; exact ⟨v, σ', H', I.unwish, r, q⟩
theorem PE.nox {e : Expr} {t : TE} (h : PE X.nox e t) : PE X e t := fun pins s σ H Q I hw =>
  wpAny_mono (h pins s σ H Q (I.wish _) hw) (fun _ _ ⟨v, H', I', r, q⟩ => ⟨v, H', I'.unwish, r, q⟩) fun _ _ z => False.elim z
theorem PSs.nox {st : List Stmt} {t : TS} (h : PSs X.nox st t) : PSs X st t := fun pins s σ H D I hw =>
  wpAny_mono (h pins s σ H D (I.wish _) hw) (fun _ _ q => q.unwish) fun _ _ z => False.elim z
end
section
variable {X : Cx} {st : Stmt} {rest : List Stmt} {t u : TS} {e : Expr} {te : TE} {pos : Pos}
noncomputable def j54 : TS := fun D σ H => D.nx σ H
noncomputable def tSeq (t u : TS) : TS := fun D σ H => t { D with nx := u D } σ H
theorem j0i : PSs X [] j54 := fun _ _ σ H _ I h => wpAny_execs_nil ⟨σ, H, I, h⟩
theorem j05 (h1 : PS X st t) (h2 : PSs X rest u) : PSs X (st :: rest) (tSeq t u) := by
  intro pins s σ H D I h
  refine wpAny_execs_cons (thn (h1 pins s σ H { D with nx := u D } I h) fun f s1 q => ?_)
  cases f with
  | next =>
    obtain ⟨σ', H', I', q⟩ := q
    exact h2 pins s1 σ' H' D I' q
  | ret v => exact q
  | brk => exact q
  | cont => exact q
theorem j07 (h1 : PS X st t) : PSs X [st] t := by
  intro pins s σ H D I h
  refine wpAny_execs_cons (thn (h1 pins s σ H D I h) fun f s1 q => ?_)
  cases f with
  | next => exact wpAny_execs_nil q
  | ret v => exact q
  | brk => exact q
  | cont => exact q
noncomputable def tBreak : TS := fun D σ H => D.bk σ H
noncomputable def tCont : TS := fun D σ H => D.ct σ H
theorem ps_break : PS X (.Break pos) tBreak := fun _ _ σ H _ I h => wpAny_Break ⟨σ, H, I, h⟩
theorem Inv.quiet {pins : List (Addr × Obj)} {σ : St} {H : Hp} {s : Shared} (I : Inv X pins σ H s) : interactive X.env = false := by simp [interactive, I.ok.kind]
noncomputable def tDrop (te : TE) : TS := fun D σ H => te σ H fun _ H1 => D.nx σ H1
theorem j0r (he : PE X e te) (hs : swapsWith e none pos.line X.env = pure false := by rfl) : PS X (.Expr e pos) (tDrop te) := by
  intro pins s σ H D I h
  exact wpAny_Expr_any (thn (he pins s σ H _ I h) fun v s1 ⟨x, H1, I1, r1, q1⟩ => ⟨σ, H1, I1, q1⟩) I.quiet hs
noncomputable def tRet (te : TE) : TS := fun D σ H => te σ H D.rt
theorem j0h (he : PE X e te) : PS X (.Return (some e) pos) (tRet te) := by
  intro pins s σ H D I h
  exact wpAny_Return_some (thn (he pins s σ H _ I h) fun v s1 ⟨x, H1, I1, r1, q1⟩ => ⟨x, σ, H1, I1, r1, q1⟩)
noncomputable def tRetN : TS := fun D _ H => D.rt .non H
noncomputable def tIfS (c : TT) (t u : TS) : TS := fun D σ H => c σ H fun b H1 => if b = true then t D σ H1 else u D σ H1
theorem j12 {c : Expr} {a b : List Stmt} {tc : TT} (hc : PT X c tc) (ha : PSs X a t) (hb : PSs X b u) : PS X (.If c a b pos) (tIfS tc t u) := by
  intro pins s σ H D I h
  refine wpAny_If (thn (hc pins s σ H _ I h) fun d s1 ⟨H1, I1, q1⟩ => ?_)
  cases d with
  | true => exact ha pins s1 σ H1 D I1 q1
  | false => exact hb pins s1 σ H1 D I1 q1
noncomputable def tNever : TS := fun _ _ _ => False
theorem j23 {sts : List Stmt} : PSs X sts tNever := fun _ _ _ _ _ _ h => h.elim
end
abbrev TG := V → St → Hp → (St → Hp → Prop) → Prop
abbrev TGs := List V → St → Hp → (St → Hp → Prop) → Prop
noncomputable def PG (X : Cx) (target : Expr) (t : TG) : Prop :=
  ∀ (pins : List (Addr × Obj)) (s : Shared) (σ : St) (H : Hp) (v : V) (u : Value) (Q : St → Hp → Prop), Inv X pins σ H s → RelV v u → t v σ H Q →
    wpAny (model X.prog X.w) X.A (assign target X.env u) (fun _ s' => ∃ σ' H', Inv X pins σ' H' s' ∧ Q σ' H') X.xe s
noncomputable def PGs (X : Cx) (ts : List Expr) (t : TGs) : Prop :=
  ∀ (pins : List (Addr × Obj)) (s : Shared) (σ : St) (H : Hp) (vs : List V) (us : List Value) (Q : St → Hp → Prop), Inv X pins σ H s → Vals vs us → t vs σ H Q →
    wpAny (model X.prog X.w) X.A (assignInOrder ((assignEach ts X.env).map (·.2)) us) (fun _ s' => ∃ σ' H', Inv X pins σ' H' s' ∧ Q σ' H') X.xe s
abbrev TSet := V → V → V → Hp → (Hp → Prop) → Prop
noncomputable def PSet (X : Cx) (t : TSet) : Prop :=
  ∀ (pins : List (Addr × Obj)) (s : Shared) (σ : St) (H : Hp) (o i v : V) (ov iv u : Value) (Q : Hp → Prop), Inv X pins σ H s → RelV o ov → RelV i iv → RelV v u → t o i v H Q →
    wpAny (model X.prog X.w) X.A (setItem ov iv u) (fun _ s' => ∃ H', Inv X pins σ H' s' ∧ Q H') X.xe s
abbrev TIp := V → V → Hp → VK → Prop
noncomputable def PIp (X : Cx) (op : Operator) (t : TIp) : Prop :=
  ∀ (pins : List (Addr × Obj)) (s : Shared) (σ : St) (H : Hp) (x y : V) (v u : Value) (Q : VK), Inv X pins σ H s → RelV x v → RelV y u → t x y H Q →
    wpAny (model X.prog X.w) X.A (inplaceOp op v u) (EP X pins σ Q) X.xe s
section
variable {X : Cx} {pos : Pos}
noncomputable def j47 (i : Nat) : TG := fun v σ H Q => Q (σ.set i (some v)) H
theorem j24 {i : Nat} {x : Str} (hN : X.N.Nodup) (hi : X.N[i]? = some x) (hx : Loc X.env.scope x) (hf : X.fn x = true ∨ X.env.scope.names.lookup x = some .local := by first | exact .inl rfl | exact .inr rfl | assumption) : PG X (.Name x pos) (j47 i) := by
  intro pins s σ H v u Q I r h
  exact wpAny_assign_Name (j1u I hN hi hx r (fun s' I' => ⟨_, H, I', h⟩) hf)
noncomputable def gNil : TGs := fun vs σ H Q => vs = [] ∧ Q σ H
noncomputable def gCons (t : TG) (u : TGs) : TGs := fun vs σ H Q => ∃ v r, vs = v :: r ∧ t v σ H fun σ' H' => u r σ' H' Q
noncomputable def gTup (K : PySem.W.Frag) (n : Nat) (t : TGs) : TG := fun v σ H Q => ∃ a xs, v = .ref a ∧ SqT K H a xs ∧ xs.length = n ∧ t xs σ H Q
noncomputable def gSub (to ti : TE) (t : TSet) : TG := fun v σ H Q => to σ H fun o H1 => ti σ H1 fun i H2 => t o i v H2 fun H3 => Q σ H3
noncomputable def tAsg (te : TE) (g : TG) : TS := fun D σ H => te σ H fun x H1 => g x σ H1 D.nx
theorem j13 {i : Nat} {x : Str} {e : Expr} {te : TE} {pos' : Pos} (hN : X.N.Nodup) (hi : X.N[i]? = some x) (hx : Loc X.env.scope x) (he : PE X e te) (hs : swapsWith e (some (.Name x pos')) pos.line X.env = pure false := by rfl) (hf : X.fn x = true ∨ X.env.scope.names.lookup x = some .local := by first | exact .inl rfl | exact .inr rfl | assumption) :
    PS X (.Assign [.Name x pos'] e pos) (tAsg te (j47 i)) := by
  intro pins s σ H D I h
  refine wpAny_Assign_Name (thn (he pins s σ H _ I h) fun v s1 ⟨y, H1, I1, r1, q1⟩ => ?_) hs
  exact j1u I1 hN hi hx r1 (fun s2 I2 => ⟨_, H1, I2, q1⟩) hf
noncomputable def tPar (i j : Nat) (ta : TA) : TS := fun D σ H => ta σ H fun vs H1 => ∃ v w, vs = [v, w] ∧ D.nx ((σ.set i (some v)).set j (some w)) H1
theorem ps_par {i j : Nat} {x y : Str} {a b : Expr} {ta : TA} {px py pt : Pos} {kt k2 pt2} (hc : X.calm = true) (hN : X.N.Nodup) (hi : X.N[i]? = some x) (hj : X.N[j]? = some y) (hij : i ≠ j)
    (hx : X.env.scope.names.lookup x = some .local) (hy : X.env.scope.names.lookup y = some .local) (ha : PA X [a, b] ta)
    (hw : swappedStores [.Tuple [.Name x px, .Name y py] kt pt] (.Tuple [a, b] k2 pt2) X.env = pure (some [x, y]))
    (hs : swapsWithSole [.Tuple [.Name x px, .Name y py] kt pt] (.Tuple [a, b] k2 pt2) pos.line X.env = pure false := by rfl) :
    PS X (.Assign [.Tuple [.Name x px, .Name y py] kt pt] (.Tuple [a, b] k2 pt2) pos) (tPar i j ta) := by
  intro pins s σ H D I h
  rw [exec_Assign_arm]
  refine wpAny_bind (wpAny_standAt ?_)
  rw [hs]
  refine wpAny_bind (wpAny_pure ?_)
  rw [if_neg (by decide)]
  refine wpAny_bind (Tuple_ (thn (ha _ pins s σ H _ I h) fun us s1 ⟨vs, H1, I1, r1, q1⟩ => ?_))
  obtain ⟨v, w, e1, q1⟩ := q1
  subst e1
  obtain ⟨u1, u2, rfl, rv, rw'⟩ : ∃ u1 u2, us = [u1, u2] ∧ RelV v u1 ∧ RelV w u2 := by
    cases r1 with
    | cons p q =>
      cases q with
      | cons p' q' =>
        cases q'
        exact ⟨_, _, rfl, p, p'⟩
  refine wpAny_newObj_type ?_ (by show 2 ≤ sizeLine; decide)
  have I2 : Inv X pins σ H1 { s1 with heap := s1.heap.push { cls := .type "tuple", data := .seq [u1, u2].toArray } } := I1.kept (t' := s1.toks) fun b o e => Heap.get?_push_of_some _ e
  rw [hw]
  refine wpAny_bind (wpAny_pure ?_)
  show wpAny (model X.prog X.w) X.A (do rule "assign.swapped-stores"; let items ← unpackItems (.ref s1.heap.objs.size) 2 none; assignInOrder [fun v => bindName X.env y v, fun v => bindName X.env x v] items.reverse; pure Flow.next) _ _ _
  refine wpAny_bind (wpAny_rule (wpAny_bind (unpackItems_tuple (items := #[u1, u2]) (I.ok.hd hc) (IsTup.new s1.heap _) fun h' hx' => ?_)))
  have I3 := I2.kept (h' := h') (t' := s1.toks) fun b o e => hx' b o (Nat.ne_of_lt (Heap.lt_size e)) e
  show wpAny _ _ (assignInOrder [fun v => bindName X.env y v, fun v => bindName X.env x v] [u2, u1] >>= fun _ => pure Flow.next) _ _ _
  refine wpAny_bind (assignInOrder_cons (wpAny_bindName (j1u I3 hN hj (.inl hy) rw' (fun s2 I4 => ?_) (.inr hy))))
  refine assignInOrder_cons (wpAny_bindName (j1u I4 hN hi (.inl hx) rv (fun s3 I5 => assignInOrder_nil (wpAny_pure ?_)) (.inr hx)))
  rw [List.set_comm _ _ (Ne.symm hij)] at I5
  exact ⟨_, H1, I5, q1⟩
noncomputable def tAug (i : Nat) (te : TE) (ti : TIp) : TS := fun D σ H => ∃ x, σ[i]? = some (some x) ∧ te σ H fun y H1 => ti x y H1 fun z H2 => D.nx (σ.set i (some z)) H2
theorem j6b {i : Nat} {x : Str} {e : Expr} {te : TE} {op : Operator} {ti : TIp} {pos' : Pos} (hN : X.N.Nodup) (hi : X.N[i]? = some x) (hx : Loc X.env.scope x) (he : PE X e te) (ho : PIp X op ti) (hf : X.fn x = true ∨ X.env.scope.names.lookup x = some .local := by first | exact .inl rfl | exact .inr rfl | assumption) :
    PS X (.AugAssign (.Name x pos') op e pos) (tAug i te ti) := by
  intro pins s σ H D I h
  obtain ⟨v, e1, h⟩ := h
  obtain ⟨m, hn, hl⟩ := I.loc
  have vis : Vis X.env.scope x := by rcases hx with k | k; exact .inl k; exact .inr (.inl k)
  obtain ⟨u, r, l⟩ := hl i x v hi e1 vis
  refine wpAny_AugAssign_Name ?_
  have go : wpAny (model X.prog X.w) X.A (eval e X.env) (fun w s₂ => wpAny (model X.prog X.w) X.A (inplaceOp op u w) (fun r s₃ => wpAny (model X.prog X.w) X.A (storeName X.env x r) (fun _ => SP X pins D .next) X.xe s₃) X.xe s₂) X.xe s := by
    refine thn (he pins s σ H _ I h) fun w s1 ⟨y, H1, I1, r1, q1⟩ => ?_
    refine thn (ho pins s1 σ H1 v y u w _ I1 r r1 q1) fun z s2 ⟨zv, H2, I2, r2, q2⟩ => ?_
    exact j1u I2 hN hi hx r2 (fun s3 I3 => ⟨_, H2, I3, q2⟩) hf
  rcases l with ⟨hk, hm⟩ | ⟨hk, c, hc, hcell⟩
  · exact wpAny_loadName_local I.ok.kind hk hn hm go
  · rcases hk with hk | hk
    · exact wpAny_loadName_cell I.ok.kind hk hc hcell go
    · rcases hx with k | k
      · have : X.env.scope.names.lookup x = some .free := hk
        rw [k] at this; cases this
      · have : X.env.scope.names.lookup x = some .free := hk
        rw [k] at this; cases this
noncomputable def tAugS (to ti te : TE) (tget : V → V → Hp → VK → Prop) (tip : TIp) (tset : TSet) : TS := fun D σ H => to σ H fun o H1 => ti σ H1 fun i H2 => tget o i H2 fun x H3 => te σ H3 fun y H4 => tip x y H4 fun z H5 => tset o i z H5 fun H6 => D.nx σ H6
noncomputable def PGet (X : Cx) (t : V → V → Hp → VK → Prop) : Prop :=
  ∀ (pins : List (Addr × Obj)) (s : Shared) (σ : St) (H : Hp) (o i : V) (ov iv : Value) (Q : VK), Inv X pins σ H s → RelV o ov → RelV i iv → t o i H Q →
    wpAny (model X.prog X.w) X.A (getItem ov iv) (EP X pins σ Q) X.xe s
theorem j7o {o i e : Expr} {to ti te : TE} {tget : V → V → Hp → VK → Prop} {tip : TIp} {tset : TSet} {op : Operator} {tpos : Pos} (ho : PE X o to) (hi : PE X i ti) (hg : PGet X tget) (he : PE X e te) (hp : PIp X op tip) (hs : PSet X tset)
    (ha : ∀ ov iv new, augStore i ov iv new = (do holding [new, ov, iv] (setItem ov iv new); release [new, ov, iv] []; pure .next) := by intros; rfl) : PS X (.AugAssign (.Subscript o i tpos) op e pos) (tAugS to ti te tget tip tset) := by
  intro pins s σ H D I h
  refine wpAny_AugAssign_SubscriptAny (thn (ho pins s σ H _ I h) fun ov s1 ⟨x1, H1, I1, r1, q1⟩ => ?_) ha
  refine thn (hi pins s1 σ H1 _ I1 q1) fun iv s2 ⟨x2, H2, I2, r2, q2⟩ => ?_
  refine thn (hg pins s2 σ H2 x1 x2 ov iv _ I2 r1 r2 q2) fun old s3 ⟨x3, H3, I3, r3, q3⟩ => ?_
  refine thn (he pins s3 σ H3 _ I3 q3) fun v s4 ⟨x4, H4, I4, r4, q4⟩ => ?_
  refine thn (hp pins s4 σ H4 x3 x4 old v _ I4 r3 r4 q4) fun new s5 ⟨x5, H5, I5, r5, q5⟩ => ?_
  exact thn (hs pins s5 σ H5 x1 x2 x5 ov iv new _ I5 r1 r2 r5 q5) fun _ s6 ⟨H6, I6, q6⟩ => ⟨σ, H6, I6, q6⟩
noncomputable def ipI (f : Int → Int → Int) : TIp := fun x y H Q => ∃ i j, x = .int i ∧ y = .int j ∧ Q (.int (f i j)) H
theorem j7p : PIp X .Add (ipI fun i j => i + j) := by
  intro pins s σ H x y v u Q I r1 r2 h
  obtain ⟨i, j, e1, e2, q⟩ := h
  subst e1; subst e2
  obtain ⟨t, rfl⟩ := r1
  obtain ⟨t', rfl⟩ := r2
  exact iadd_int ⟨.int _, H, I.tok _, ⟨_, rfl⟩, q⟩
theorem j7q : PIp X .Sub (ipI fun i j => i - j) := by
  intro pins s σ H x y v u Q I r1 r2 h
  obtain ⟨i, j, e1, e2, q⟩ := h
  subst e1; subst e2
  obtain ⟨t, rfl⟩ := r1
  obtain ⟨t', rfl⟩ := r2
  exact isub_int ⟨.int _, H, I.tok _, ⟨_, rfl⟩, q⟩
end
section
variable {X : Cx} {pos : Pos}
noncomputable def tWhile (c : TT) (tb : TS) : TS := fun D σ H => ∃ W : Nat → St → Hp → Prop, (∃ m, W m σ H) ∧ ∀ m σ H, W m σ H →
  c σ H fun b H1 => if b = true then ∃ N : St → Hp → Prop, (∀ σ' H', N σ' H' → ∃ m', m' < m ∧ W m' σ' H') ∧ tb { D with nx := N, ct := N, bk := D.nx } σ H1 else D.nx σ H1
end
structure It where
  go : Nat → Hp → Prop
  yld : Nat → Hp → V → Hp → Prop
  stop : Nat → Hp → Prop
noncomputable def FpOk (X : Cx) (pins : List (Addr × Obj)) (H : Hp) (b : Addr) : Prop :=
  H b = none ∧ b ≠ X.env.locals ∧ b ∉ X.fs ∧ (b ∈ X.ex ∨ X.s₀.heap.objs.size ≤ b) ∧ (∀ x c, X.env.cells.lookup x = some c → c ≠ b) ∧ ∀ p ∈ X.pn ++ pins, p.1 ≠ b
theorem Inv.fpOk {X : Cx} {pins : List (Addr × Obj)} {σ : St} {H H' : Hp} {s : Shared} {b : Addr} (I : Inv X pins σ H s) (hb : s.heap.objs.size ≤ b) (hn : H' b = none) : FpOk X pins H' b := by
  refine ⟨hn, Nat.ne_of_gt (Nat.lt_of_lt_of_le I.lt hb), I.nofs hb, .inr (Nat.le_trans I.sz hb), fun x c e z => ?_, fun p hp z => ?_⟩
  · obtain ⟨v, q⟩ := I.cell x c e
    exact absurd (Nat.lt_of_lt_of_le q.lt (by rw [z]; exact hb)) (Nat.lt_irrefl _)
  · exact absurd (Nat.lt_of_lt_of_le (Heap.lt_size (I.pin p hp).1) (by rw [z]; exact hb)) (Nat.lt_irrefl _)
structure Turn (P : Program) (w : World) (K : PySem.W.Frag) (tg : Expr) (J : It) (fp : List Addr) (it : Addr) (tn : Nat → Heap → Prop) : Prop where
  mem : it ∈ fp
  obj : ∀ i h, tn i h → ∀ b ∈ fp, ∃ o, h.get? b = some o ∧ ∀ v, o.data ≠ .cell v
  keep : ∀ i h h', tn i h → (∀ b ∈ fp, ∀ o, h.get? b = some o → h'.get? b = some o) → tn i h'
  item : ∀ (X : Cx), X.prog = P → X.w = w → X.K = K → X.calm = true → ∀ (i : Nat) (pins : List (Addr × Obj)) (s : Shared) (σ : St) (H : Hp) (E : Value → Shared → Prop), Inv X pins σ H s → (∀ b ∈ fp, FpOk X pins H b) → tn i s.heap → J.go i H →
    wpAny (model P w) X.A (pyNext (.ref it)) (fun r s1 => ∃ u, r = some u ∧
      wpAny (model P w) X.A (letOwnedTupleGo tg (.ref it) u) (fun _ s2 => ∃ x H', Inv X pins σ H' s2 ∧ RelV x u ∧ J.yld i H x H' ∧ tn (i + 1) s2.heap ∧ ∀ b ∈ fp, H' b = none) E s1) E s
  done : ∀ (X : Cx), X.prog = P → X.w = w → X.K = K → X.calm = true → ∀ (i : Nat) (pins : List (Addr × Obj)) (s : Shared) (σ : St) (H : Hp) (E : Value → Shared → Prop), Inv X pins σ H s → (∀ b ∈ fp, FpOk X pins H b) → tn i s.heap → J.stop i H →
    wpAny (model P w) X.A (pyNext (.ref it)) (fun r s1 => r = none ∧ Inv X pins σ H s1) E s
  self : ∀ (A : Around) (i : Nat) (s : Shared) (Q : Value → Shared → Prop) (E : Value → Shared → Prop), tn i s.heap → Q (.ref it) s → wpAny (model P w) A (pyIter (.ref it)) Q E s
abbrev TI := St → Hp → (It → Hp → Prop) → Prop
noncomputable def PIE (X : Cx) (pins : List (Addr × Obj)) (σ : St) (tg : Expr) (R : It → Hp → Prop) (itv : Value) (s2 : Shared) : Prop :=
  ∃ (it : Addr) (fp : List Addr) (tn : Nat → Heap → Prop) (J : It) (H' : Hp), itv = .ref it ∧ Inv X pins σ H' s2 ∧ Turn X.prog X.w X.K tg J fp it tn ∧ tn 0 s2.heap ∧ (∀ b ∈ fp, FpOk X pins H' b) ∧ R J H'
noncomputable def PI (X : Cx) (tg iter : Expr) (wi : TI) : Prop :=
  ∀ (pins : List (Addr × Obj)) (s : Shared) (σ : St) (H : Hp) (R : It → Hp → Prop), Inv X pins σ H s → wi σ H R →
    wpAny (model X.prog X.w) X.A (eval iter X.env) (fun v s1 => wpAny (model X.prog X.w) X.A (pyIter v) (PIE X pins σ tg R) X.xe s1) X.xe s
theorem go_of {M : Model} {A : Around} {E : Value → Shared → Prop} {s : Shared} {tg : Expr} {it : Addr} {u : Value} {o : Obj} {n : String} {vs : Array Value} {Q : Unit → Shared → Prop} (ho : s.heap.get? it = some o) (hc : o.cls = .type n) (hd : o.data = .fields vs)
    (hn : ["enumerate", "zip", "dict_itemiterator", "dict_reverseitemiterator", "odict_iterator", "itertools.zip_longest", "itertools.pairwise"].contains n = false) (hQ : Q () s) : wpAny M A (letOwnedTupleGo tg (.ref it) u) Q E s := by
  unfold letOwnedTupleGo
  cases tg <;> first
    | exact wpAny_pure hQ
    | (cases u <;> first
        | exact wpAny_pure hQ
        | (refine wpAny_bind (wpAny_load ho ?_)
           rw [hc, hd]
           show wpAny M A (if (["enumerate", "zip", "dict_itemiterator", "dict_reverseitemiterator", "odict_iterator", "itertools.zip_longest", "itertools.pairwise"].contains n && vs[0]? == some (rawInt _)) = true then _ else _) Q E s
           rw [if_neg (by intro h; rw [hn, Bool.false_and] at h; cases h)]
           exact wpAny_pure hQ))
noncomputable def Itl (K : PySem.W.Frag) (a : Addr) : It :=
  ⟨fun i H => ∃ xs x, SqL K H a xs ∧ xs[i]? = some x, fun i H x H' => H' = H ∧ ∀ xs, SqL K H a xs → xs[i]? = some x, fun i H => ∃ xs, SqL K H a xs ∧ xs.length ≤ i⟩
noncomputable def Itt (K : PySem.W.Frag) (a : Addr) : It :=
  ⟨fun i H => ∃ xs x, SqT K H a xs ∧ xs[i]? = some x, fun i H x H' => H' = H ∧ ∀ xs, SqT K H a xs → xs[i]? = some x, fun i H => ∃ xs, SqT K H a xs ∧ xs.length ≤ i⟩
noncomputable def Itr (lo : Int) (n : Nat) : It := ⟨fun i _ => i < n, fun i H x H' => H' = H ∧ x = .int (lo + i), fun i _ => n ≤ i⟩
theorem j7r {P : Program} {w : World} {K : PySem.W.Frag} {tg : Expr} (a it : Addr) : Turn P w K tg (Itl K a) [it] it (fun i h => h.IsListIter it a i) where
  mem := by simp
  obj := fun i h st b hb => by
    have e : b = it := by simpa using hb
    subst e
    obtain ⟨o, e, c, d⟩ := st
    exact ⟨o, e, fun v z => by rw [d] at z; cases z⟩
  keep := fun i h h' st k => st.at fun o e => k it (by simp) o e
  item := by
    intro X hP hw hK hc i pins s σ H E I hf st hg
    subst hP hw hK
    obtain ⟨xs, x, hq, hx⟩ := hg
    obtain ⟨its, rv, p, hz⟩ := I.list hq
    obtain ⟨u, hu, ru⟩ := rv.get hx
    obtain ⟨f0, f1, f2, f3, f4, f5⟩ := hf it (by simp)
    refine wpAny_pyNext_list_item st p.isList (x := u) (by simpa using hu) fun h' st' sb => ?_
    have I1 : Inv X pins σ H { s with heap := h' } := I.turned (t' := s.toks) (fun b o hb e => (sb.2 b hb).trans e) f0 f1 f3 f4 f5
    obtain ⟨o, e, c, d⟩ := id st'
    exact ⟨u, rfl, go_of (s := { s with heap := h' }) e c d (by decide) ⟨x, H, I1, ru, ⟨rfl, fun ys hy => by rw [I.list_inj hy hq]; exact hx⟩, st', fun b hb => (hf b hb).1⟩⟩
  done := by
    intro X hP hw hK hc i pins s σ H E I hf st hg
    subst hP hw hK
    obtain ⟨xs, hq, hx⟩ := hg
    obtain ⟨its, rv, p, hz⟩ := I.list hq
    obtain ⟨f0, f1, f2, f3, f4, f5⟩ := hf it (by simp)
    have hl := rv.length
    exact wpAny_pyNext_list_end (I.ok.hd hc) st p.isList (by simp; omega) fun h' eb => ⟨rfl, I.turned (t' := s.toks) (fun b o hb e => eb b o hb e) f0 f1 f3 f4 f5⟩
  self := fun _ _ _ _ _ st h => wpAny_pyIter_listiter st h
theorem j6x {P : Program} {w : World} {K : PySem.W.Frag} {tg : Expr} (it : Addr) (lo : Int) (n : Nat) : Turn P w K tg (Itr lo n) [it] it (fun i h => IsRangeIter h it (lo + (i : Nat) * 1) ((n : Int) - (i : Nat)) 1) where
  mem := by simp
  obj := fun i h st b hb => by
    have e : b = it := by simpa using hb
    subst e
    exact ⟨_, st, fun v z => by
      have z' : Data.fields _ = Data.cell v := z
      cases z'⟩
  keep := fun i h h' st k => k it (by simp) _ st
  item := by
    intro X hP hw hK hc i pins s σ H E I hf st hg
    subst hP hw hK
    obtain ⟨f0, f1, f2, f3, f4, f5⟩ := hf it (by simp)
    have W := Walks.range (prog := X.prog) (w := X.w) (I.ok.hd hc) it lo 1 n
    refine W.item i s _ _ hg st fun v h' tk hv st' kk => ?_
    obtain ⟨t, rfl⟩ := hv
    have I1 : Inv X pins σ H { s with heap := h', toks := tk } := I.turned (fun b o hb e => kk b o (by simpa using hb) e) f0 f1 f3 f4 f5
    refine ⟨_, rfl, go_of (s := { s with heap := h', toks := tk }) (n := "range_iterator") st' rfl rfl (by decide) ⟨.int (lo + i), H, I1, ⟨t, ?_⟩, ⟨rfl, rfl⟩, st', fun b hb => (hf b hb).1⟩⟩
    rw [Int.mul_one]
  done := by
    intro X hP hw hK hc i pins s σ H E I hf st hg
    subst hP hw hK
    obtain ⟨f0, f1, f2, f3, f4, f5⟩ := hf it (by simp)
    exact wpAny_pyNext_range_end (I.ok.hd hc) st (by have : n ≤ i := hg; omega) fun h' eb => ⟨rfl, I.turned (t' := s.toks) (fun b o hb e => eb b o hb e) f0 f1 f3 f4 f5⟩
  self := fun _ _ _ _ _ st h => wpAny_pyIter_rangeiter st h
end L2
namespace L2
open PySem PySem.Spec PyProof.Rows
section
variable {X : Cx} {tg : Expr}
noncomputable def iList (K : PySem.W.Frag) (tl : TE) : TI := fun σ H R => tl σ H fun x H1 => ∃ a, x = .ref a ∧ (∃ xs, SqL K H1 a xs) ∧ R (Itl K a) H1
noncomputable def iTup (K : PySem.W.Frag) (tl : TE) : TI := fun σ H R => tl σ H fun x H1 => ∃ a, x = .ref a ∧ (∃ xs, SqT K H1 a xs) ∧ R (Itt K a) H1
theorem j1v {l : Expr} {tl : TE} (hl : PE X l tl) : PI X tg l (iList X.K tl) := by
  intro pins s σ H R I h
  refine thn (hl pins s σ H _ I h) fun v s1 ⟨x, H1, I1, r1, q1⟩ => ?_
  obtain ⟨a, e, ⟨xs, hq⟩, q⟩ := q1
  subst e
  cases r1
  obtain ⟨its, rv, p, hz⟩ := I1.list hq
  refine wpAny_pyIter_list p.isList ?_
  refine ⟨s1.heap.objs.size, [s1.heap.objs.size], _, _, H1, rfl, I1.kept (t' := s1.toks) fun b o e => Heap.get?_push_of_some _ e, j7r a _, ⟨_, Heap.get?_push_size _ rfl, rfl, rfl⟩, fun b hb => ?_, q⟩
  have e : b = s1.heap.objs.size := by simpa using hb
  subst e
  exact I1.fpOk (Nat.le_refl _) (I1.hok.fresh (Nat.le_refl _))
theorem range_it {pins : List (Addr × Obj)} {σ : St} {H : Hp} {s : Shared} {R : It → Hp → Prop} {E : Value → Shared → Prop} {lo hi : Int} {t u v : Tok} {tk : Nat} (I : Inv X pins σ H s) (h1 : -(2 ^ 62) ≤ lo) (h2 : lo < 2 ^ 62) (h3 : -(2 ^ 62) ≤ hi) (h4 : hi < 2 ^ 62)
    (q : R (Itr lo (hi - lo).toNat) H) : wpAny (model X.prog X.w) X.A (pyIter (.ref s.heap.objs.size)) (PIE X pins σ tg R) E { s with heap := s.heap.push { cls := .type "range", data := .fields #[.int lo t, .int hi u, .int 1 v] }, toks := tk } := by
  refine wpAny_pyIter_range (IsRange.new ..) (small_one h1 h2 h3 h4) ?_
  have I1 : Inv X pins σ H { s with heap := s.heap.push { cls := .type "range", data := .fields #[.int lo t, .int hi u, .int 1 v] }, toks := tk } := I.kept fun b o e => Heap.get?_push_of_some _ e
  refine ⟨(s.heap.push { cls := .type "range", data := .fields #[.int lo t, .int hi u, .int 1 v] }).objs.size, [(s.heap.push { cls := .type "range", data := .fields #[.int lo t, .int hi u, .int 1 v] }).objs.size], _, _, H, rfl,
    I1.kept (t' := tk) fun b o e => Heap.get?_push_of_some _ e, j6x _ lo (hi - lo).toNat, ?_, fun b hb => ?_, q⟩
  · have e1 : lo + ((0 : Nat) : Int) * 1 = lo := by simp
    have e2 : (((hi - lo).toNat : Nat) : Int) - ((0 : Nat) : Int) = Builtin.Range.rangeSize lo hi 1 := by rw [rangeSize_one]; split <;> omega
    show IsRangeIter _ _ (lo + ((0 : Nat) : Int) * 1) ((((hi - lo).toNat : Nat) : Int) - ((0 : Nat) : Int)) 1
    rw [e1, e2]
    exact Heap.get?_push_size _ rfl
  · have e : b = (s.heap.push { cls := .type "range", data := .fields #[.int lo t, .int hi u, .int 1 v] }).objs.size := by simpa using hb
    subst e
    exact I1.fpOk (Nat.le_refl _) (I1.hok.fresh (Nat.le_refl _))
noncomputable def iRng1 (ta : TA) : TI := fun σ H R => ta σ H fun vs H1 => ∃ j : Int, vs = [.int j] ∧ -(2 ^ 62) ≤ j ∧ j < 2 ^ 62 ∧ R (Itr 0 j.toNat) H1
noncomputable def iRng2 (ta : TA) : TI := fun σ H R => ta σ H fun vs H1 => ∃ i j : Int, vs = [.int i, .int j] ∧ (-(2 ^ 62) ≤ i ∧ i < 2 ^ 62 ∧ -(2 ^ 62) ≤ j ∧ j < 2 ^ 62) ∧ R (Itr i (j - i).toNat) H1
theorem j55 {a : Expr} {ta : TA} {p pos : Pos} (hg : Gl X "range") (hm : X.mg "range" = none) (ha : PA X [a] ta) (hs : starEach [a] X.env = [(false, eval a X.env)] := by rfl) : PI X tg (.Call (.Name "range" p) [a] [] pos) (iRng1 ta) := by
  intro pins s σ H R I h
  refine Call_ (j3r I hg hm boot_range (PyProof.Rows.callWith_type1 (thn (ha pos pins s σ H _ I h) fun us s1 ⟨vs, H1, I1, r1, q1⟩ => ?_) hs rfl))
  obtain ⟨j, e, q1, q2, q⟩ := q1
  subst e
  cases r1 with
  | cons r rr =>
    cases rr
    obtain ⟨t, rfl⟩ := r
    exact call_range_1 (range_it I1 (by omega) (by omega) q1 q2 (by simpa using q))
noncomputable def tFor (wi : TI) (g : TG) (tb : TS) : TS := fun D σ H => wi σ H fun J H1 => ∃ W : Nat → Nat → St → Hp → Prop, (∃ m, W 0 m σ H1) ∧ ∀ i m σ H, W i m σ H →
  (J.stop i H ∧ D.nx σ H) ∨ (J.go i H ∧ ∃ N : St → Hp → Prop, (∀ σ' H', N σ' H' → ∃ m', m' < m ∧ W (i + 1) m' σ' H') ∧ ∀ x H', J.yld i H x H' → g x σ H' fun σ2 H2 => tb { D with nx := N, ct := N, bk := D.nx } σ2 H2)
noncomputable def j56 (fp : List Addr) (h : Heap) : List (Addr × Obj) := fp.filterMap fun b => (h.get? b).map fun o => (b, o)
theorem j2b {fp : List Addr} {h : Heap} {b : Addr} {o : Obj} (hb : b ∈ fp) (e : h.get? b = some o) : (b, o) ∈ j56 fp h := List.mem_filterMap.mpr ⟨b, hb, by rw [e]; rfl⟩
theorem j7s {fp : List Addr} {h : Heap} {p : Addr × Obj} (hp : p ∈ j56 fp h) : p.1 ∈ fp ∧ h.get? p.1 = some p.2 := by
  obtain ⟨b, hb, e⟩ := List.mem_filterMap.mp hp
  cases q : h.get? b with
  | none => rw [q] at e; cases e
  | some o =>
    rw [q] at e
    have e' : (b, o) = p := Option.some.inj e
    subst e'
    exact ⟨hb, q⟩
theorem Inv.pinned {pins : List (Addr × Obj)} {σ : St} {H : Hp} {s : Shared} {fp : List Addr} (I : Inv X pins σ H s) (hf : ∀ b ∈ fp, FpOk X pins H b) (ho : ∀ b ∈ fp, ∃ o, s.heap.get? b = some o ∧ ∀ v, o.data ≠ .cell v) : Inv X (pins ++ j56 fp s.heap) σ H s :=
  I.pins_of fun p hp => (List.mem_append.mp hp).elim (fun z => I.pin p (List.mem_append_right _ z)) fun z => by
    obtain ⟨hb, e⟩ := j7s z
    obtain ⟨f0, f1, f2, _⟩ := hf p.1 hb
    obtain ⟨o, e', d⟩ := ho p.1 hb
    rw [e] at e'; cases e'
    exact ⟨e, f0, f1, f2, d⟩
theorem Inv.unpinned {pins pl : List (Addr × Obj)} {σ : St} {H : Hp} {s : Shared} (I : Inv X (pins ++ pl) σ H s) : Inv X pins σ H s := I.pins_of fun p hp => I.pin p (List.mem_append_right _ (List.mem_append_left _ hp))
theorem j3a {iter : Expr} {body : List Stmt} {wi : TI} {g : TG} {tb : TS} {pos : Pos} (hp : PassesOwn (model X.prog X.w) X.A X.env X.xe) (hc : X.calm = true) (hi : PI X tg iter wi) (hg : PG X tg g) (hb : PSs X body tb)
    (hs : ∀ x, foldedSetIterable iter X.env x = pure x := by intro _; rfl) : PS X (.For tg iter body [] pos) (tFor wi g tb) := by
  intro pins s σ H D I h
  refine wpAny_For (thn (hi pins s σ H _ I h) fun v s1 h1 => thn h1 fun itv s2 h2 => ?_) hs
  obtain ⟨it, fp, tn, J, H2, e, I2, T, st2, f2, W, ⟨m0, w0⟩, turn⟩ := h2
  subst e
  have stat : ∀ {H' : Hp}, (∀ b ∈ fp, H' b = none) → ∀ b ∈ fp, FpOk X pins H' b := fun hn b hb => ⟨hn b hb, (f2 b hb).2⟩
  refine codeAny_forLoop_any (fun n s' => ∃ i σ' H', Inv X pins σ' H' s' ∧ tn i s'.heap ∧ (∀ b ∈ fp, H' b = none) ∧ W i n σ' H') ?_ m0 ⟨0, σ, H2, I2, st2, fun b hb => (f2 b hb).1, w0⟩
  rintro n s3 ⟨i, σ3, H3, I3, st3, fr3, w3⟩
  rcases turn i n σ3 H3 w3 with ⟨stop, qn⟩ | ⟨go, N, hN, step⟩
  · refine wpAny_passesOwn hp (thn (T.done X rfl rfl rfl hc i pins s3 σ3 H3 X.xe I3 (stat fr3) st3 stop) fun r s4 ⟨hr, I4⟩ => ?_)
    subst hr
    exact wpAny_execs_nil ⟨σ3, H3, I4, qn⟩
  · refine wpAny_passesOwn hp (thn (T.item X rfl rfl rfl hc i pins s3 σ3 H3 X.xe I3 (stat fr3) st3 go) fun r s4 ⟨u, hr, h4⟩ => ?_)
    subst hr
    refine wpAny_passesOwn hp (thn h4 fun _ s5 ⟨x, H5, I5, r5, y5, st5, fr5⟩ => ?_)
    have I5' := I5.pinned (stat fr5) (T.obj _ _ st5)
    refine wpAny_passesOwn hp (thn (hg _ s5 σ3 H5 x u _ I5' r5 (step x H5 y5)) fun _ s6 ⟨σ6, H6, I6, q6⟩ => ?_)
    refine wpAny_passesOwn hp (thn (hb _ s6 σ6 H6 _ I6 q6) fun f s7 q7 => ?_)
    have again : ∀ {σ7 : St} {H7 : Hp}, Inv X (pins ++ j56 fp s5.heap) σ7 H7 s7 → N σ7 H7 → ∃ m, m < n ∧ ∃ i σ' H', Inv X pins σ' H' s7 ∧ tn i s7.heap ∧ (∀ b ∈ fp, H' b = none) ∧ W i m σ' H' := fun {σ7 H7} I7 n7 => by
      obtain ⟨m', hm, w7⟩ := hN σ7 H7 n7
      refine ⟨m', hm, i + 1, σ7, H7, I7.unpinned, T.keep _ _ _ st5 fun b hb o e => (I7.pin (b, o) (List.mem_append_right _ (List.mem_append_right _ (j2b hb e)))).1, fun b hb => ?_, w7⟩
      obtain ⟨o, e, d⟩ := T.obj _ _ st5 b hb
      exact (I7.pin (b, o) (List.mem_append_right _ (List.mem_append_right _ (j2b hb e)))).2.1
    cases f with
    | next => obtain ⟨σ7, H7, I7, n7⟩ := q7; exact again I7 n7
    | cont => obtain ⟨σ7, H7, I7, n7⟩ := q7; exact again I7 n7
    | brk => obtain ⟨σ7, H7, I7, q7⟩ := q7; exact ⟨σ7, H7, I7.unpinned, q7⟩
    | ret v => obtain ⟨x7, σ7, H7, I7, r7, q7⟩ := q7; exact ⟨x7, σ7, H7, I7.unpinned, r7, q7⟩
end
theorem j6c {K : PySem.W.Frag} {a : Addr} {xs : List V} {g : TG} {tb : TS} {D : Ends} {σ : St} {H : Hp} (Pv : Nat → St → Hp → Prop) (h0 : Pv 0 σ H) (hl : ∀ i σ H, i ≤ xs.length → Pv i σ H → SqL K H a xs)
    (hs : ∀ i x σ H, xs[i]? = some x → Pv i σ H → g x σ H fun σ2 H2 => tb { D with nx := Pv (i + 1), ct := Pv (i + 1), bk := D.nx } σ2 H2) (hd : ∀ σ H, Pv xs.length σ H → D.nx σ H) :
    ∃ W : Nat → Nat → St → Hp → Prop, (∃ m, W 0 m σ H) ∧ ∀ i m σ H, W i m σ H →
      ((Itl K a).stop i H ∧ D.nx σ H) ∨ ((Itl K a).go i H ∧ ∃ N : St → Hp → Prop, (∀ σ' H', N σ' H' → ∃ m', m' < m ∧ W (i + 1) m' σ' H') ∧ ∀ x H', (Itl K a).yld i H x H' → g x σ H' fun σ2 H2 => tb { D with nx := N, ct := N, bk := D.nx } σ2 H2) := by
  refine ⟨fun i m σ H => m = xs.length - i ∧ i ≤ xs.length ∧ Pv i σ H, ⟨xs.length, by simp, Nat.zero_le _, h0⟩, ?_⟩
  rintro i m σ H ⟨rfl, hi, p⟩
  have q := hl i σ H hi p
  by_cases hlt : i < xs.length
  · refine .inr ⟨⟨xs, xs[i], q, by simp [hlt]⟩, Pv (i + 1), fun σ' H' p' => ⟨xs.length - (i + 1), by omega, rfl, hlt, p'⟩, fun x H' y => ?_⟩
    obtain ⟨e, y⟩ := y
    subst e
    exact hs i x σ _ (y xs q) p
  · have e : i = xs.length := by omega
    subst e
    exact .inl ⟨⟨xs, q, Nat.le_refl _⟩, hd σ H p⟩
theorem j7t {lo : Int} {n : Nat} {g : TG} {tb : TS} {D : Ends} {σ : St} {H : Hp} (Pv : Nat → St → Hp → Prop) (h0 : Pv 0 σ H)
    (hs : ∀ i σ H, i < n → Pv i σ H → g (.int (lo + i)) σ H fun σ2 H2 => tb { D with nx := Pv (i + 1), ct := Pv (i + 1), bk := D.nx } σ2 H2) (hd : ∀ σ H, Pv n σ H → D.nx σ H) :
    ∃ W : Nat → Nat → St → Hp → Prop, (∃ m, W 0 m σ H) ∧ ∀ i m σ H, W i m σ H →
      ((Itr lo n).stop i H ∧ D.nx σ H) ∨ ((Itr lo n).go i H ∧ ∃ N : St → Hp → Prop, (∀ σ' H', N σ' H' → ∃ m', m' < m ∧ W (i + 1) m' σ' H') ∧ ∀ x H', (Itr lo n).yld i H x H' → g x σ H' fun σ2 H2 => tb { D with nx := N, ct := N, bk := D.nx } σ2 H2) := by
  refine ⟨fun i m σ H => m = n - i ∧ i ≤ n ∧ Pv i σ H, ⟨n, by simp, Nat.zero_le _, h0⟩, ?_⟩
  rintro i m σ H ⟨rfl, hi, p⟩
  by_cases hlt : i < n
  · refine .inr ⟨hlt, Pv (i + 1), fun σ' H' p' => ⟨n - (i + 1), by omega, rfl, hlt, p'⟩, fun x H' y => ?_⟩
    obtain ⟨e, y⟩ := y
    subst e y
    exact hs i σ _ hlt p
  · have e : i = n := by omega
    subst e
    exact .inl ⟨Nat.le_refl _, hd σ H p⟩
end L2
namespace L2
open PySem PySem.Spec PyProof.Rows
abbrev R2 := V → V → Hp → VK → Prop
noncomputable def OpR (X : Cx) (f : Value → Value → Sem Value) (r : R2) : Prop :=
  ∀ (pins : List (Addr × Obj)) (s : Shared) (σ : St) (H : Hp) (x y : V) (v u : Value) (Q : VK), Inv X pins σ H s → RelV x v → RelV y u → r x y H Q →
    wpAny (model X.prog X.w) X.A (f v u) (EP X pins σ Q) X.xe s
noncomputable def UnR (X : Cx) (f : Value → Sem Value) (r : V → Hp → VK → Prop) : Prop :=
  ∀ (pins : List (Addr × Obj)) (s : Shared) (σ : St) (H : Hp) (x : V) (v : Value) (Q : VK), Inv X pins σ H s → RelV x v → r x H Q →
    wpAny (model X.prog X.w) X.A (f v) (EP X pins σ Q) X.xe s
noncomputable def j3h (X : Cx) (f : Value) (r : List V → Hp → VK → Prop) : Prop :=
  ∀ (pins : List (Addr × Obj)) (s : Shared) (σ : St) (H : Hp) (xs : List V) (us : List Value) (Q : VK), Inv X pins σ H s → Vals xs us → r xs H Q →
    wpAny (model X.prog X.w) X.A (call f us) (EP X pins σ Q) X.xe s
noncomputable def TruR (X : Cx) (r : V → Hp → (Bool → Hp → Prop) → Prop) : Prop :=
  ∀ (pins : List (Addr × Obj)) (s : Shared) (σ : St) (H : Hp) (x : V) (v : Value) (Q : Bool → Hp → Prop), Inv X pins σ H s → RelV x v → r x H Q →
    wpAny (model X.prog X.w) X.A (truthy v) (TP X pins σ Q) X.xe s
noncomputable def tOp (r : R2) (ta tb : TE) : TE := fun σ H Q => ta σ H fun x H1 => tb σ H1 fun y H2 => r x y H2 Q
noncomputable def tUn (r : V → Hp → VK → Prop) (ta : TE) : TE := fun σ H Q => ta σ H fun x H1 => r x H1 Q
noncomputable def rI (C : Int → Int → Prop) (g : Int → Int → V) : R2 := fun x y H Q => ∃ i j, x = .int i ∧ y = .int j ∧ C i j ∧ Q (g i j) H
noncomputable def rI0 (g : Int → Int → V) : R2 := fun x y H Q => ∃ i j, x = .int i ∧ y = .int j ∧ Q (g i j) H
noncomputable def rU (g : Int → V) : V → Hp → VK → Prop := fun x H Q => ∃ i, x = .int i ∧ Q (g i) H
section
variable {X : Cx} {a b c : Expr} {ta tb tc : TE} {pos : Pos}
theorem binT (ha : PE X a ta) (hb : PE X b tb) {pins : List (Addr × Obj)} {s : Shared} {σ : St} {H : Hp} {R : V → V → Hp → Prop} (I : Inv X pins σ H s)
    (h : ta σ H fun x H1 => tb σ H1 fun y H2 => R x y H2) {Q : Value → Shared → Prop} {f : Value → Value → Sem Value}
    (hf : ∀ v u s2 x y H2, Inv X pins σ H2 s2 → RelV x v → RelV y u → R x y H2 → wpAny (model X.prog X.w) X.A (f v u) Q X.xe s2) :
    wpAny (model X.prog X.w) X.A (eval a X.env) (fun v s₁ => wpAny (model X.prog X.w) X.A (eval b X.env) (fun u s₂ => wpAny (model X.prog X.w) X.A (f v u) Q X.xe s₂) X.xe s₁) X.xe s := by
  refine thn (ha pins s σ H _ I h) fun v s1 ⟨x, H1, I1, r1, q1⟩ => ?_
  refine thn (hb pins s1 σ H1 _ I1 q1) fun u s2 ⟨y, H2, I2, r2, q2⟩ => ?_
  exact hf v u s2 x y H2 I2 r1 r2 q2
theorem j0p {op : Operator} {r : R2} (ho : OpR X (binaryOp op) r) (ha : PE X a ta) (hb : PE X b tb) : PE X (.BinOp a op b pos) (tOp r ta tb) := by
  intro pins s σ H Q I h
  exact wpAny_BinOp (binT ha hb I h fun v u s2 x y H2 I2 rx ry q => ho pins s2 σ H2 x y v u Q I2 rx ry q)
theorem j32 {op : UnaryOp} {r : V → Hp → VK → Prop} (ho : UnR X (unaryOp op) r) (ha : PE X a ta) : PE X (.UnaryOp op a pos) (tUn r ta) := by
  intro pins s σ H Q I h
  exact UnaryOp_ (thn (ha pins s σ H _ I h) fun v s1 ⟨x, H1, I1, r1, q1⟩ => ho pins s1 σ H1 x v Q I1 r1 q1)
theorem opI {f : Value → Value → Sem Value} {C : Int → Int → Prop} {g : Int → Int → Int}
    (rule : ∀ (i j : Int) (t u : Tok) (s : Shared) (Q : Value → Shared → Prop) (E : Value → Shared → Prop), C i j → Q (.int (g i j) s.toks) { s with toks := s.toks + 1 } → wpAny (model X.prog X.w) X.A (f (.int i t) (.int j u)) Q E s) :
    OpR X f (rI C fun i j => .int (g i j)) := by
  intro pins s σ H x y v u Q I rx ry h
  obtain ⟨i, j, rfl, rfl, hc, q⟩ := h
  obtain ⟨t, rfl⟩ := rx
  obtain ⟨t', rfl⟩ := ry
  exact rule i j t t' s _ _ hc ⟨.int (g i j), H, I.tok _, ⟨_, rfl⟩, q⟩
theorem opI0 {f : Value → Value → Sem Value} {g : Int → Int → Int}
    (rule : ∀ (i j : Int) (t u : Tok) (s : Shared) (Q : Value → Shared → Prop) (E : Value → Shared → Prop), Q (.int (g i j) s.toks) { s with toks := s.toks + 1 } → wpAny (model X.prog X.w) X.A (f (.int i t) (.int j u)) Q E s) :
    OpR X f (rI0 fun i j => .int (g i j)) := by
  intro pins s σ H x y v u Q I rx ry h
  obtain ⟨i, j, rfl, rfl, q⟩ := h
  obtain ⟨t, rfl⟩ := rx
  obtain ⟨t', rfl⟩ := ry
  exact rule i j t t' s _ _ ⟨.int (g i j), H, I.tok _, ⟨_, rfl⟩, q⟩
theorem opB0 {f : Value → Value → Sem Value} {g : Int → Int → Bool}
    (rule : ∀ (i j : Int) (t u : Tok) (s : Shared) (Q : Value → Shared → Prop) (E : Value → Shared → Prop), Q (.bool (g i j)) s → wpAny (model X.prog X.w) X.A (f (.int i t) (.int j u)) Q E s) :
    OpR X f (rI0 fun i j => .bl (g i j)) := by
  intro pins s σ H x y v u Q I rx ry h
  obtain ⟨i, j, rfl, rfl, q⟩ := h
  obtain ⟨t, rfl⟩ := rx
  obtain ⟨t', rfl⟩ := ry
  exact rule i j t t' s _ _ ⟨.bl (g i j), H, I, rfl, q⟩
noncomputable def CDiv (i j : Int) : Prop := 0 < j ∧ j < 1073741824
noncomputable def CDivN (i j : Int) : Prop := j ≠ 0 ∧ j.natAbs < 1073741824
noncomputable def CPow (i j : Int) : Prop := 0 ≤ j ∧ j ≤ 1000000 ∧ i.natAbs < 2 ^ 64
noncomputable def CMul (i j : Int) : Prop := (-(2 ^ 64) < i ∧ i < 2 ^ 64) ∨ (-(2 ^ 64) < j ∧ j < 2 ^ 64)
theorem CMul.ok {i j : Int} (h : CMul i j) : IntMulOk i j := by
  rcases h with ⟨h1, h2⟩ | ⟨h1, h2⟩
  · exact .of_left (intBits_le_64 h1 h2)
  · exact .of_right (intBits_le_64 h1 h2)
theorem j2n : OpR X (binaryOp .Add) (rI0 fun i j => .int (i + j)) := opI0 fun _ _ _ _ _ _ _ q => add_int q
theorem j2f : OpR X (binaryOp .Sub) (rI0 fun i j => .int (i - j)) := opI0 fun _ _ _ _ _ _ _ q => sub_int q
theorem j6d : OpR X (binaryOp .Mult) (rI CMul fun i j => .int (i * j)) := opI fun _ _ _ _ _ _ _ hc q => mul_int q hc.ok
theorem j7u : OpR X (binaryOp .FloorDiv) (rI CDiv fun i j => .int (i / j)) := opI fun i j _ _ _ _ _ hc q => by
  have h1 : (0 : Int) < j := hc.1
  have h2 : j < 1073741824 := hc.2
  exact floordiv_int (by omega) (by rw [Int.fdiv_eq_ediv_of_nonneg i (by omega)]; exact q) (.inl (PyProof.noPylong_small (by omega)))
theorem j4b : OpR X (binaryOp .Mod) (rI (fun _ j => 0 < j) fun i j => .int (i % j)) := opI fun i j _ _ _ _ _ hc q => by
  have h1 : (0 : Int) < j := hc
  exact mod_int' (by omega) (by rw [Int.fmod_eq_emod_of_nonneg i (by omega)]; exact q)
theorem op_pow : OpR X (binaryOp .Pow) (rI CPow fun i j => .int (i ^ j.toNat)) := opI fun _ _ _ _ _ _ _ hc q => pow_int_small hc.1 hc.2.1 hc.2.2 q
theorem unI {f : Value → Sem Value} {g : Int → Int}
    (rule : ∀ (i : Int) (t : Tok) (s : Shared) (Q : Value → Shared → Prop) (E : Value → Shared → Prop), Q (.int (g i) s.toks) { s with toks := s.toks + 1 } → wpAny (model X.prog X.w) X.A (f (.int i t)) Q E s) :
    UnR X f (rU fun i => .int (g i)) := by
  intro pins s σ H x v Q I rx h
  obtain ⟨i, rfl, q⟩ := h
  obtain ⟨t, rfl⟩ := rx
  exact rule i t s _ _ ⟨.int (g i), H, I.tok _, ⟨_, rfl⟩, q⟩
theorem j1q : UnR X (unaryOp .USub) (rU fun i => .int (-i)) := unI fun _ _ _ _ _ q => neg_int q
end
noncomputable def scal : V → V → Bool
  | .non, .non => true | .non, .int _ => true | .int _, .non => true | .non, .bl _ => true | .bl _, .non => true | .non, .str _ => true | .str _, .non => true
  | .int _, .int _ => true | .bl _, .bl _ => true | .str _, .str _ => true | .byt _, .byt _ => true
  | .int _, .str _ => true | .str _, .int _ => true | .bl _, .str _ => true | .str _, .bl _ => true
  | _, _ => false
noncomputable def rEq : R2 := fun x y H Q => scal x y = true ∧ Q (.bl (decide (x = y))) H
noncomputable def rNe : R2 := fun x y H Q => scal x y = true ∧ Q (.bl (!decide (x = y))) H
theorem j7v {i j : Int} : decide (V.int i = V.int j) = (i == j) := by
  rw [Bool.eq_iff_iff]
  simp
theorem dec_bl {i j : Bool} : decide (V.bl i = V.bl j) = (i == j) := by
  rw [Bool.eq_iff_iff]
  simp
theorem j7w {i j : Str} : decide (V.str i = V.str j) = (i == j) := by
  rw [Bool.eq_iff_iff]
  simp
theorem j7x {i j : Array UInt8} : decide (V.byt i = V.byt j) = (i.toList == j.toList) := by
  rw [Bool.eq_iff_iff]
  cases i
  cases j
  simp
section
variable {X : Cx} {a b c : Expr} {ta tb tc : TE} {pos : Pos}
theorem j0l {pins : List (Addr × Obj)} {σ : St} {H : Hp} {s : Shared} {Q : VK} {k k' : Bool} (I : Inv X pins σ H s) (q : Q (.bl k) H) (e : k = k') : EP X pins σ Q (.bool k') s := by
  subst e
  exact ⟨.bl k, H, I, rfl, q⟩
theorem j2e : OpR X (compareOp .Eq) rEq := by
  intro pins s σ H x y v u Q I rx ry h
  obtain ⟨hs, q⟩ := h
  cases x with
  | non =>
    cases rx
    cases y with
    | non => cases ry; exact PySem.EqNone.eq_none_none (j0l I q (by simp))
    | bl j => cases ry; exact PySem.EqNone.eq_none_bool (j0l I q (by simp))
    | int j => obtain ⟨t', rfl⟩ := ry; exact PySem.EqNone.eq_none_int (j0l I q (by simp))
    | str j => obtain ⟨t', rfl⟩ := ry; exact PySem.EqNone.eq_none_str (j0l I q (by simp))
    | _ => exact absurd (show false = true from hs) Bool.false_ne_true
  | bl i =>
    cases rx
    cases y with
    | non => cases ry; exact PySem.EqNone.eq_bool_none (j0l I q (by simp))
    | bl j => cases ry; exact eq_bool (j0l I q dec_bl)
    | str j => obtain ⟨t', rfl⟩ := ry; exact PySem.EqMixed.eq_bool_str (j0l I q (by simp))
    | _ => exact absurd (show false = true from hs) Bool.false_ne_true
  | int i =>
    obtain ⟨t, rfl⟩ := rx
    cases y with
    | non => cases ry; exact PySem.EqNone.eq_int_none (j0l I q (by simp))
    | int j => obtain ⟨t', rfl⟩ := ry; exact eq_int (j0l I q j7v)
    | str j => obtain ⟨t', rfl⟩ := ry; exact PySem.EqMixed.eq_int_str (j0l I q (by simp))
    | _ => exact absurd (show false = true from hs) Bool.false_ne_true
  | str i =>
    obtain ⟨t, rfl⟩ := rx
    cases y with
    | non => cases ry; exact PySem.EqNone.eq_str_none (j0l I q (by simp))
    | bl j => cases ry; exact PySem.EqMixed.eq_str_bool (j0l I q (by simp))
    | int j => obtain ⟨t', rfl⟩ := ry; exact PySem.EqMixed.eq_str_int (j0l I q (by simp))
    | str j => obtain ⟨t', rfl⟩ := ry; exact eq_str (j0l I q j7w)
    | _ => exact absurd (show false = true from hs) Bool.false_ne_true
  | byt i =>
    obtain ⟨t, rfl⟩ := rx
    cases y with
    | byt j => obtain ⟨t', rfl⟩ := ry; exact PySem.W.eq_bytes (j0l I q j7x)
    | _ => exact absurd (show false = true from hs) Bool.false_ne_true
  | _ => cases y <;> exact absurd (show false = true from hs) Bool.false_ne_true
theorem op_ne : OpR X (compareOp .NotEq) rNe := by
  intro pins s σ H x y v u Q I rx ry h
  obtain ⟨hs, q⟩ := h
  cases x with
  | non =>
    cases rx
    cases y with
    | non => cases ry; exact PySem.EqNone.ne_none_none (j0l I q (by simp))
    | bl j => cases ry; exact PySem.EqNone.ne_none_bool (j0l I q (by simp))
    | int j => obtain ⟨t', rfl⟩ := ry; exact PySem.EqNone.ne_none_int (j0l I q (by simp))
    | str j => obtain ⟨t', rfl⟩ := ry; exact PySem.EqNone.ne_none_str (j0l I q (by simp))
    | _ => exact absurd (show false = true from hs) Bool.false_ne_true
  | bl i =>
    cases rx
    cases y with
    | non => cases ry; exact PySem.EqNone.ne_bool_none (j0l I q (by simp))
    | bl j => cases ry; exact ne_bool (j0l I q (congrArg not dec_bl))
    | str j => obtain ⟨t', rfl⟩ := ry; exact PySem.EqMixed.ne_bool_str (j0l I q (by simp))
    | _ => exact absurd (show false = true from hs) Bool.false_ne_true
  | int i =>
    obtain ⟨t, rfl⟩ := rx
    cases y with
    | non => cases ry; exact PySem.EqNone.ne_int_none (j0l I q (by simp))
    | int j => obtain ⟨t', rfl⟩ := ry; exact ne_int (j0l I q (congrArg not j7v))
    | str j => obtain ⟨t', rfl⟩ := ry; exact PySem.EqMixed.ne_int_str (j0l I q (by simp))
    | _ => exact absurd (show false = true from hs) Bool.false_ne_true
  | str i =>
    obtain ⟨t, rfl⟩ := rx
    cases y with
    | non => cases ry; exact PySem.EqNone.ne_str_none (j0l I q (by simp))
    | bl j => cases ry; exact PySem.EqMixed.ne_str_bool (j0l I q (by simp))
    | int j => obtain ⟨t', rfl⟩ := ry; exact PySem.EqMixed.ne_str_int (j0l I q (by simp))
    | str j => obtain ⟨t', rfl⟩ := ry; exact ne_str (j0l I q (congrArg not j7w))
    | _ => exact absurd (show false = true from hs) Bool.false_ne_true
  | byt i =>
    obtain ⟨t, rfl⟩ := rx
    cases y with
    | byt j => obtain ⟨t', rfl⟩ := ry; exact PySem.W.ne_bytes (j0l I q (congrArg not j7x))
    | _ => exact absurd (show false = true from hs) Bool.false_ne_true
  | _ => cases y <;> exact absurd (show false = true from hs) Bool.false_ne_true
theorem j6y : OpR X (compareOp .Lt) (rI0 fun i j => .bl (decide (i < j))) := opB0 fun _ _ _ _ _ _ _ q => lt_int q
theorem j7y : OpR X (compareOp .LtE) (rI0 fun i j => .bl (decide (i ≤ j))) := opB0 fun _ _ _ _ _ _ _ q => le_int q
theorem j7z : OpR X (compareOp .Gt) (rI0 fun i j => .bl (decide (j < i))) := opB0 fun _ _ _ _ _ _ _ q => gt_int q
noncomputable def isObj : HO → Bool
  | .lst _ => true
  | .ins _ _ _ => true
  | _ => false
theorem j0g (b : Expr) {op : CmpOp} (h : op ≠ .In := by decide) (h2 : op ≠ .NotIn := by decide) : behindInMarks op b = false := by
  have e1 : (op == CmpOp.In) = false := by cases op <;> first | rfl | exact absurd rfl h
  have e2 : (op == CmpOp.NotIn) = false := by cases op <;> first | rfl | exact absurd rfl h2
  cases b <;> simp [behindInMarks, e1, e2]
theorem j1j {op : CmpOp} {r : R2} (ho : OpR X (compareOp op) r) (ha : PE X a ta) (hb : PE X b tb) (hm : behindInMarks op b = false) : PE X (.Compare a [op] [b] pos) (tOp r ta tb) := by
  intro pins s σ H Q I h
  exact wpAny_Compare1 (binT ha hb I h fun v u s2 x y H2 I2 rx ry q => ho pins s2 σ H2 x y v u Q I2 rx ry q) hm
noncomputable def j80 (t : TE) : TT := fun σ H Q => t σ H fun x H' => ∃ k, x = .bl k ∧ Q k H'
theorem j0e {op : CmpOp} {r : R2} (ho : OpR X (compareOp op) r) (ha : PE X a ta) (hb : PE X b tb) (hm : behindInMarks op b = false) : PT X (.Compare a [op] [b] pos) (j80 (tOp r ta tb)) := by
  intro pins s σ H Q I h
  refine wpAny_isTrue_Compare1 (thn (ha pins s σ H _ I h) fun v s1 ⟨x, H1, I1, r1, q1⟩ => thn (hb pins s1 σ H1 _ I1 q1) fun u s2 ⟨y, H2, I2, r2, q2⟩ =>
    thn (ho pins s2 σ H2 x y v u _ I2 r1 r2 q2) fun c s3 ⟨z, H3, I3, r3, k, e, q3⟩ => ?_) hm
  subst e
  cases r3
  exact wpAny_truthy_bool ⟨H3, I3, q3⟩
noncomputable def tChain (r r' : R2) (ta tb tc : TE) : TE := fun σ H Q => ta σ H fun x H1 => tb σ H1 fun y H2 => r x y H2 fun z H3 => ∃ k, z = .bl k ∧
  (if k = true then tc σ H3 fun w' H4 => r' y w' H4 Q else Q (.bl false) H3)
theorem j6e {op op' : CmpOp} {r r' : R2} (ho : OpR X (compareOp op) r) (ho' : OpR X (compareOp op') r') (ha : PE X a ta) (hb : PE X b tb) (hc : PE X c tc)
    (hm : lastMarks [op, op'] [b, c] = false := by with_unfolding_all rfl) : PE X (.Compare a [op, op'] [b, c] pos) (tChain r r' ta tb tc) := by
  intro pins s σ H Q I h
  refine Compare_chain (thn (ha pins s σ H _ I h) fun v s1 ⟨x, H1, I1, r1, q1⟩ => chain_link (thn (hb pins s1 σ H1 _ I1 q1) fun u s2 ⟨y, H2, I2, r2, q2⟩ =>
    thn (ho pins s2 σ H2 x y v u _ I2 r1 r2 q2) fun d s3 ⟨z, H3, I3, r3, k, e, q3⟩ => ?_)) hm
  subst e
  cases r3
  refine wpAny_truthy_bool ?_
  cases k with
  | false => exact ite_ff ⟨.bl false, H3, I3, rfl, q3⟩
  | true => exact ite_tt (chain_last (thn (hc pins s3 σ H3 _ I3 q3) fun w' s4 ⟨z', H4, I4, r4, q4⟩ => ho' pins s4 σ H4 y z' u w' Q I4 r2 r4 q4))
theorem pt_chain {op op' : CmpOp} {r r' : R2} (ho : OpR X (compareOp op) r) (ho' : OpR X (compareOp op') r') (ha : PE X a ta) (hb : PE X b tb) (hc : PE X c tc)
    (hm : lastMarks [op, op'] [b, c] = false := by with_unfolding_all rfl) : PT X (.Compare a [op, op'] [b, c] pos) (j80 (tChain r r' ta tb tc)) := by
  intro pins s σ H Q I h
  refine isTrue_chain (thn (ha pins s σ H _ I h) fun v s1 ⟨x, H1, I1, r1, q1⟩ => test_link (thn (hb pins s1 σ H1 _ I1 q1) fun u s2 ⟨y, H2, I2, r2, q2⟩ =>
    thn (ho pins s2 σ H2 x y v u _ I2 r1 r2 q2) fun d s3 ⟨z, H3, I3, r3, k, e, q3⟩ => ?_)) hm
  subst e
  cases r3
  refine wpAny_truthy_bool ?_
  cases k with
  | false =>
    obtain ⟨k', e', q'⟩ := q3
    cases e'
    exact ite_ff ⟨H3, I3, q'⟩
  | true =>
    refine ite_tt (test_last (thn (hc pins s3 σ H3 _ I3 q3) fun w' s4 ⟨z', H4, I4, r4, q4⟩ => thn (ho' pins s4 σ H4 y z' u w' _ I4 r2 r4 q4) fun d' s5 ⟨z2, H5, I5, r5, k2, e2, q5⟩ => ?_))
    subst e2
    cases r5
    exact wpAny_truthy_bool ⟨H5, I5, q5⟩
noncomputable def TruV (K : PySem.W.Frag) (x : V) (H : Hp) (k : Bool) : Prop :=
  match x with
  | .non => k = false
  | .bl b => k = b
  | .int i => k = (i != 0)
  | .str y => y.length ≤ sizeLine ∧ k = ((y.length : Int) != 0)
  | .byt y => y.size ≤ sizeLine ∧ k = ((y.size : Int) != 0)
  | .ref p => (∃ xs, SqL K H p xs ∧ k = !xs.isEmpty) ∨ (∃ xs, SqT K H p xs ∧ k = !xs.isEmpty) ∨ ∃ kvs, H p = some (.dK kvs) ∧ k = !kvs.isEmpty
  | _ => False
theorem j57 : (sizeLine : Nat) < 2 ^ 63 := by rw [sizeLine_eq]; decide
noncomputable def PlainIxT (b : Expr) : Prop := ∀ o i, subscripted b false o i = operate [o, i] (getItem o i)
theorem j4l {x : V} {us : List Value} (r : Vals [x] us) : ∃ u, us = [u] ∧ RelV x u := by
  cases r with
  | cons r1 r2 => cases r2; exact ⟨_, rfl, r1⟩
theorem vals2 {x y : V} {us : List Value} (r : Vals [x, y] us) : ∃ u w', us = [u, w'] ∧ RelV x u ∧ RelV y w' := by
  cases r with
  | cons r1 r2 =>
    cases r2 with
    | cons r3 r4 => cases r4; exact ⟨_, _, rfl, r1, r3⟩
theorem j81 (hc : X.calm = true) : j3h X (.builtin "min") (fun xs H Q => ∃ i j, xs = [.int i, .int j] ∧ Q (.int (if j < i then j else i)) H) := by
  intro pins s σ H xs us Q I r h
  obtain ⟨i, j, rfl, q⟩ := h
  obtain ⟨u, w', rfl, ⟨t, rfl⟩, ⟨t', rfl⟩⟩ := vals2 r
  refine min_two_ints (I.ok.hd hc) fun h' tk k => ⟨_, H, I.kept k, ?_, q⟩
  by_cases hj : j < i
  · rw [if_pos hj, if_pos hj]; exact ⟨_, rfl⟩
  · rw [if_neg hj, if_neg hj]; exact ⟨_, rfl⟩
noncomputable def LenV (K : PySem.W.Frag) (x : V) (H : Hp) (n : Nat) : Prop :=
  match x with
  | .str y => y.length ≤ sizeLine ∧ n = y.length
  | .byt y => y.size ≤ sizeLine ∧ n = y.size
  | .ref p => (∃ xs, SqL K H p xs ∧ n = xs.length) ∨ ∃ xs, SqT K H p xs ∧ n = xs.length
  | _ => False
end
end L2
namespace L2
open PySem PySem.Spec PyProof.Rows
structure ObjM (h : Heap) (x dx C : Addr) (mA : Str → Option Value) : Prop where
  obj : h.get? x = some (PySem.W.instObj C dx)
  ns : h.Ns1 dx mA
  ne : dx ≠ x
theorem j82 {h : Heap} {dx : Addr} {mA : Str → Option Value} (n : h.Ns1 dx mA) : ∃ od, h.get? dx = some od ∧ ∀ name, PySem.W.lookIn name od = some (mA name) := by
  obtain ⟨o, es, ep, ho, hd, hk, _, hm⟩ := n
  refine ⟨o, ho, fun name => ?_⟩
  have e := hm name
  unfold nsFind findBy at e
  rw [← Array.find?_toList] at e
  unfold PySem.W.lookIn
  rw [hd]
  dsimp only
  split
  · rename_i y q
    rw [q] at e
    exact congrArg some e
  · rename_i q
    rw [q] at e
    have a : es.toList.any (·.refKey) = false := by
      rw [List.any_eq_false]
      intro y hy
      obtain ⟨z, t, hkey⟩ := hk y (Array.mem_toList_iff.mp hy)
      simp [DictEntry.refKey, hkey]
    have a' : ¬ es.toList.any (·.refKey) = true := by rw [a]; exact Bool.false_ne_true
    rw [if_neg a']
    exact congrArg some e
theorem ObjM.look {h : Heap} {x dx C : Addr} {mA : Str → Option Value} (I : ObjM h x dx C mA) : ∃ od, PySem.W.InstAt h x (PySem.W.instObj C dx) C (some od) ∧ ∀ name, PySem.W.lookIn name od = some (mA name) :=
  let ⟨od, ho, hl⟩ := j82 I.ns
  ⟨od, ⟨I.obj, rfl, rfl, ho⟩, hl⟩
section
variable {prog : Program} {w : World} {A : Around} {E : Value → Shared → Prop} {s : Shared} {K : PySem.W.Frag} {x dx C f : Addr} {mA : Str → Option Value} {name : Str} {v : Value}
end
noncomputable def putF (f : Str) (v : V) : List (Str × V) → List (Str × V)
  | [] => [(f, v)]
  | (g, x) :: r => if g = f then (g, v) :: r else (g, x) :: putF f v r
section
variable {P : Program} {w : World} {H H' : Hp} {h h' : Heap} {a C dx : Addr} {fs fs' : List (Str × V)}
theorem ins_get (hok : HOk P w H h) (e : H a = some (.ins C dx fs)) : ∃ mA, ObjM h a dx C mA ∧ (∀ f, RelO (fs.lookup f) (mA f)) ∧ PySem.Within mA (fs.map (·.1)) ∧ fs.length ≤ 1000 ∧ H dx = some (.own a) := by
  obtain ⟨d, z, ne, ob, mA, n, r, q⟩ := (show j1h P w H h a (.ins C dx fs) from hok a _ e)
  exact ⟨mA, ⟨ob, n, ne⟩, r, q, z, d⟩
end
structure Cls (K : PySem.W.Frag) (C : Addr) : Prop where
  pg : PySem.W.plainGet K C Str.empty = true
  hd : PySem.W.hasDictIn K C = true
  po : PySem.W.plainOver K C = true
  sa : PySem.W.findIn K (.ref C) "__setattr__" = some (some (.builtin "object.__setattr__"))
theorem Cls.get {K : PySem.W.Frag} {C : Addr} (c : Cls K C) (f : Str) : PySem.W.plainGet K C f = true := c.pg
noncomputable def j83 (K : PySem.W.Frag) (C : Addr) (f : Str) : Prop := PySem.W.findIn K (.ref C) f = some none
structure Con (K : PySem.W.Frag) (C : Addr) (f : Str) (v : V) (u : Value) : Prop where
  at_ : PySem.W.findIn K (.ref C) f = some (some u)
  rel : RelV v u
  get : PySem.W.specialIn K u "__get__" = some none
  cp : PySem.W.copiedNames.contains f = false
structure Meth (K : PySem.W.Frag) (C : Addr) (m : Str) (f : Addr) : Prop where
  at_ : PySem.W.findIn K (.ref C) m = some (some (.ref f))
  fn : PySem.W.isFn K (.ref f) = true
  kp : PySem.W.keepIn K (.ref f) = true
section
variable {X : Cx} {pins : List (Addr × Obj)} {σ : St} {H : Hp} {s : Shared} {a C dx : Addr} {fs : List (Str × V)} {f : Str} {v : V} {A : Around} {E : Value → Shared → Prop}
end
noncomputable def tFld (K : PySem.W.Frag) (ta : TE) (f : Str) : TE := fun σ H Q => ta σ H fun x H1 => ∃ a C dx fs v, x = .ref a ∧ H1 a = some (.ins C dx fs) ∧ Cls K C ∧ j83 K C f ∧ fs.lookup f = some v ∧ Q v H1
noncomputable def tCon (K : PySem.W.Frag) (ta : TE) (f : Str) : TE := fun σ H Q => ta σ H fun x H1 => ∃ a C dx fs v u, x = .ref a ∧ H1 a = some (.ins C dx fs) ∧ Cls K C ∧ Con K C f v u ∧ fs.lookup f = none ∧ Q v H1
noncomputable def sFld (K : PySem.W.Frag) (ta tv : TE) (f : Str) : TS := fun D σ H => tv σ H fun y H1 => ta σ H1 fun x H2 => ∃ a C dx fs, x = .ref a ∧ H2 a = some (.ins C dx fs) ∧ Cls K C ∧ j83 K C f ∧ fs.length < 1000 ∧
  D.nx σ (upd H2 a (.ins C dx (putF f y fs)))
noncomputable def InOp (X : Cx) (op : Operator) (rd : V → V → Hp → VK → Prop) : Prop :=
  ∀ (pins : List (Addr × Obj)) (s : Shared) (σ : St) (H : Hp) (x y : V) (u v : Value) (Q : VK), Inv X pins σ H s → RelV x u → RelV y v → rd x y H Q → wpAny (model X.prog X.w) X.A (inplaceOp op u v) (EP X pins σ Q) X.xe s
noncomputable def sFldAug (K : PySem.W.Frag) (ta tv : TE) (rd : V → V → Hp → VK → Prop) (f : Str) : TS := fun D σ H => ta σ H fun x H1 => ∃ a C dx fs v, x = .ref a ∧ H1 a = some (.ins C dx fs) ∧ Cls K C ∧ j83 K C f ∧ fs.lookup f = some v ∧
  tv σ H1 fun y H2 => rd v y H2 fun z H3 => ∃ dx' fs', H3 a = some (.ins C dx' fs') ∧ fs'.length < 1000 ∧ D.nx σ (upd H3 a (.ins C dx' (putF f z fs')))
section
variable {X : Cx} {o e value : Expr} {f : Str} {pos pos' tpos : Pos} {ta tv : TE}
noncomputable def rAdd : V → V → Hp → VK → Prop := fun x y H Q => ∃ i j, x = .int i ∧ y = .int j ∧ Q (.int (i + j)) H
noncomputable def rSub : V → V → Hp → VK → Prop := fun x y H Q => ∃ i j, x = .int i ∧ y = .int j ∧ Q (.int (i - j)) H
end
section
variable {X : Cx} {pins : List (Addr × Obj)} {σ : St} {H : Hp} {s : Shared} {A : Around} {E : Value → Shared → Prop} {Q : Value → Shared → Prop} {c : Value} {b : Bool}
inductive TyOf (K : PySem.W.Frag) (H : Hp) : V → Value → Prop where
  | non : TyOf K H .non (.type "NoneType")
  | bl (x : Bool) : TyOf K H (.bl x) (.type "bool")
  | int (i : Int) : TyOf K H (.int i) (.type "int")
  | str (x : Str) : TyOf K H (.str x) (.type "str")
  | flt (x : UInt64) : TyOf K H (.flt x) (.type "float")
  | lst {a : Addr} {xs : List V} (e : H a = some (.lst xs)) : TyOf K H (.ref a) (.type "list")
  | frz {a : Addr} {o : Obj} {xs : List V} (e : H a = some (.frz o (.lst xs))) : TyOf K H (.ref a) (.type "list")
  | tup {a : Addr} {xs : List V} (e : H a = some (.tup xs)) : TyOf K H (.ref a) (.type "tuple")
  | dK {a : Addr} {kvs : List (Key × V)} (e : H a = some (.dK kvs)) : TyOf K H (.ref a) (.type "dict")
  | dT {a : Addr} {kvs : List (List Key × V)} (e : H a = some (.dT kvs)) : TyOf K H (.ref a) (.type "dict")
  | ins {a C dx : Addr} {fs : List (Str × V)} (e : H a = some (.ins C dx fs)) (cl : Cls K C) (ha : PySem.W.findIn K (.ref C) "__class__" = some (some (.builtin "object.__class__")))
      (hn : PySem.W.specialIn K (.builtin "object.__class__") "__get__" = some (some (.builtin "getset_descriptor.__get__"))) (htk : PySem.W.takesIn K (.builtin "object.__class__") = some true)
      (hm : PySem.W.mroIn K C (.type "object") = some true) : TyOf K H (.ref a) (.ref C)
theorem j84 {x : V} {u t : Value} (I : Inv X pins σ H s) (rx : RelV x u) (ty : TyOf X.K H x t) (e : PySem.W.kitOne X.K t c = some b) (h : ∀ tk, Q (.bool b) { s with toks := tk }) :
    wpAny (model X.prog X.w) A (call (.builtin "isinstance") [u, c]) Q E s := by
  cases ty with
  | non => cases (show u = Value.none from rx); exact PySem.W.kia_one PySem.W.kitx_none I.kIn True.intro e (fun z => nomatch z) h
  | bl y => cases (show u = Value.bool y from rx); exact PySem.W.kia_one PySem.W.kitx_bool I.kIn True.intro e (fun z => nomatch z) h
  | int i => obtain ⟨t, q⟩ := (show ∃ t, u = Value.int i t from rx); cases q; exact PySem.W.kia_one PySem.W.kitx_int I.kIn True.intro e (fun z => nomatch z) h
  | str y => obtain ⟨t, q⟩ := (show ∃ t, u = Value.str y t from rx); cases q; exact PySem.W.kia_one PySem.W.kitx_str I.kIn True.intro e (fun z => nomatch z) h
  | flt y => obtain ⟨t, q⟩ := (show ∃ t, u = Value.float y t from rx); cases q; exact PySem.W.kia_one PySem.W.kitx_float I.kIn True.intro e (fun z => nomatch z) h
  | @lst a xs ea =>
    cases (show u = Value.ref a from rx)
    obtain ⟨_, _, n, _, h1⟩ := (show j1h X.prog X.w H s.heap a (.lst xs) from I.hok a _ ea)
    exact PySem.W.kia_one PySem.W.kitx_list I.kIn ⟨_, h1, rfl⟩ e (fun z => nomatch z) h
  | @frz a ob xs ea =>
    cases (show u = Value.ref a from rx)
    obtain ⟨_, _, _, n, _, h1⟩ := (show j1h X.prog X.w H s.heap a (.frz ob (.lst xs)) from I.hok a _ ea)
    exact PySem.W.kia_one PySem.W.kitx_list I.kIn ⟨_, h1, rfl⟩ e (fun z => nomatch z) h
  | @tup a xs ea =>
    cases (show u = Value.ref a from rx)
    obtain ⟨_, _, _, p⟩ := (show j1h X.prog X.w H s.heap a (.tup xs) from I.hok a _ ea)
    obtain ⟨o, h1, h2, _⟩ := p
    exact PySem.W.kia_one PySem.W.kitx_tuple I.kIn ⟨o, h1, h2⟩ e (fun z => nomatch z) h
  | @dK a kvs ea =>
    cases (show u = Value.ref a from rx)
    obtain ⟨_, _, vs, _, p⟩ := (show j1h X.prog X.w H s.heap a (.dK kvs) from I.hok a _ ea)
    obtain ⟨o, es, ep, h1, h2, _⟩ := p
    exact PySem.W.kia_one PySem.W.kitx_dict I.kIn ⟨o, h1, h2.1⟩ e (fun z => nomatch z) h
  | @dT a kvs ea =>
    cases (show u = Value.ref a from rx)
    obtain ⟨_, _, xs, _, o, es, ep, h1, h2, _⟩ := (show j1h X.prog X.w H s.heap a (.dT kvs) from I.hok a _ ea)
    exact PySem.W.kia_one PySem.W.kitx_dict I.kIn ⟨o, h1, h2.1⟩ e (fun z => nomatch z) h
  | @ins a C dx fs ea cl ha hn htk hm =>
    cases (show u = Value.ref a from rx)
    obtain ⟨mA, O, _⟩ := ins_get I.hok ea
    obtain ⟨od, J, _⟩ := O.look
    exact PySem.W.kia_one (PySem.W.kitx_own (cl.get _) cl.hd ha hn htk hm) I.kIn J e (fun z => nomatch z) h
end
end L2
namespace L2
open PySem PySem.Spec PyProof.Rows
structure Room (k : Nat) (A : Around) : Prop where
  hd : A.handled = none
  dp : A.depth + 3 * k + 5 < recursionLimit
  un : A.units + 16 * k + 200 < cLine
theorem Room.mono {j k : Nat} {A : Around} (r : Room k A) (h : j ≤ k) : Room j A := ⟨r.hd, by have := r.dp; omega, by have := r.un; omega⟩
theorem Room.deeper {k : Nat} {A : Around} (r : Room (k + 1) A) (env : Env) : Room k (A.deeper env) :=
  ⟨r.hd, by have := r.dp; show A.depth + 1 + 3 * k + 5 < _; omega, by have := r.un; show A.units + 3 + 16 * k + 200 < _; omega⟩
theorem Room.depth {k : Nat} {A : Around} (r : Room k A) : A.depth < recursionLimit := by have := r.dp; omega
theorem Room.units0 {k : Nat} {A : Around} (r : Room k A) : A.units < cLine := by have := r.un; omega
noncomputable def tNil : TA := fun _ H Q => Q [] H
noncomputable def j06 (ta : TE) (tr : TA) : TA := fun σ H Q => ta σ H fun x H1 => tr σ H1 fun xs H2 => Q (x :: xs) H2
section
variable {X : Cx} {e : Expr} {es : List Expr} {te : TE} {t : TA} {pos : Pos}
theorem j02 : PA X [] tNil := fun _ _ _ _ H Q I h => Calls.spliced_nil ⟨[], H, I, .nil, h⟩
theorem j00 (ha : PE X e te) (hr : PA X es t) (hs : starEach (e :: es) X.env = (false, eval e X.env) :: starEach es X.env := by rfl) : PA X (e :: es) (j06 te t) := by
  intro pos pins s σ H Q I h
  rw [hs]
  show wpAny _ _ (spliced ((false, eval e X.env) :: backTo pos (starEach es X.env))) _ _ s
  refine Calls.spliced_cons (thn (ha pins s σ H _ I h) fun u s1 ⟨x, H1, I1, r1, q1⟩ => ?_)
  exact thn (hr pos pins s1 σ H1 _ I1 q1) fun us s2 ⟨xs, H2, I2, r2, q2⟩ => ⟨x :: xs, H2, I2, .cons r1 r2, q2⟩
noncomputable def tTup (t : TA) : TE := fun σ H Q => t σ H fun xs H1 => xs.length ≤ sizeLine ∧ ∀ p, H1 p = none → Q (.ref p) (upd H1 p (.tup xs))
noncomputable def tLst (t : TA) : TE := fun σ H Q => t σ H fun xs H1 => xs.length ≤ sizeLine ∧ ∀ p, H1 p = none → Q (.ref p) (upd H1 p (.lst xs))
theorem j1r {x1} (h : PA X es t) : PE X (.Tuple es x1 pos) (tTup t) := by
  intro pins s σ H Q I hq
  refine wpAny_Tuple_spliced (thn (h pos pins s σ H _ I hq) fun us s1 ⟨xs, H1, I1, r, z, q⟩ => ⟨by rw [← r.length]; exact z, ?_⟩)
  have hf : H1 s1.heap.objs.size = none := I1.hok.fresh (Nat.le_refl _)
  refine ⟨.ref s1.heap.objs.size, upd H1 s1.heap.objs.size (.tup xs), I1.laid (t' := s1.toks) (fun b u e => Heap.get?_push_of_some _ e) (Nat.le_refl _) ?_, rfl, q _ hf⟩
  exact ⟨z, us, r, ⟨_, Heap.get?_push_size _ rfl, rfl, _, rfl⟩⟩
theorem j0a (h : PA X es t) : PE X (.List es pos) (tLst t) := by
  intro pins s σ H Q I hq
  refine wpAny_List_spliced (thn (h pos pins s σ H _ I hq) fun us s1 ⟨xs, H1, I1, r, z, q⟩ => ⟨by rw [← r.length]; exact z, ?_⟩)
  have hf : H1 s1.heap.objs.size = none := I1.hok.fresh (Nat.le_refl _)
  refine ⟨.ref s1.heap.objs.size, upd H1 s1.heap.objs.size (.lst xs), I1.laid (t' := s1.toks) (fun b u e => Heap.get?_push_of_some _ e) (Nat.le_refl _) ?_, rfl, q _ hf⟩
  exact ⟨z, us, 0, r, Heap.get?_push_size _ rfl⟩
end
abbrev Sp := List V → Hp → VK → XK → Prop
abbrev CXT := List Env → Hp → Shared → XK → Value → Shared → Prop
structure Env0 (P : Program) (w : World) (K : PySem.W.Frag) (mg : Str → Option Value) (base : Heap) (A : Around) (outer : List Env) (s : Shared) (H : Hp) : Prop where
  frames : A.frames = some outer
  mod : Mod K mg base
  bs : ∀ b o, base.get? b = some o → s.heap.get? b = some o ∧ H b = none
  bsz : base.objs.size ≤ s.heap.objs.size
  funs : s.heap.FunFrames base outer
  frf : ∀ b ∈ frs outer, H b = none
  hok : HOk P w H s.heap
  bare : AllBare s.gens
noncomputable def CE (outer : List Env) (P : Program) (w : World) (H : Hp) (s : Shared) (Q : VK) (u : Value) (s' : Shared) : Prop :=
  ∃ v H', s'.os = s.os ∧ AllBare s'.gens ∧ Un (frs outer) [] H H' s.heap s'.heap ∧ HOk P w H' s'.heap ∧ RelV v u ∧ Q v H'
noncomputable def CR (CX : CXT) (outer : List Env) (P : Program) (w : World) (H : Hp) (s : Shared) (Q : VK) (E : XK) (r : Result) (s' : Shared) : Prop :=
  match r with
  | .ok (.ret u) => CE outer P w H s Q u s'
  | .ok _ => False
  | .error e => CX outer H s E e s'
structure FnOk (P : Program) (w : World) (K : PySem.W.Frag) (mg : Str → Option Value) (base : Heap) (CX : CXT) (k : Nat) (f : Addr) (fd : FuncData) (ps : List Str) (sp : Sp) : Prop where
  len : ∀ vs H Q E, sp vs H Q E → vs.length = ps.length
  run : ∀ (A : Around) (outer : List Env) (s : Shared) (H : Hp) (args : Args) (us : List Value) (vs : List V) (Q : VK) (E : XK), Room k A → Env0 P w K mg base A outer s H → BindsTo s fd args (ps.zip us) → Vals vs us → sp vs H Q E →
    codeAny (model P w) A (.call (.ref f) args) (CR CX outer P w H s Q E) s
theorem FnOk.mono {P : Program} {w : World} {K : PySem.W.Frag} {mg : Str → Option Value} {base : Heap} {CX : CXT} {j k : Nat} {f : Addr} {fd : FuncData} {ps : List Str} {sp : Sp} (F : FnOk P w K mg base CX j f fd ps sp) (h : j ≤ k) :
    FnOk P w K mg base CX k f fd ps sp := ⟨F.len, fun A outer s H args us vs Q E hr => F.run A outer s H args us vs Q E (hr.mono h)⟩
section
variable {X : Cx} {pins : List (Addr × Obj)} {σ : St} {H : Hp} {s s' : Shared}
theorem Inv.env0 (I : Inv X pins σ H s) : Env0 X.prog X.w X.K X.mg X.base X.A X.stack s H :=
  ⟨I.ok.frames, I.ok.mod, I.bs, Nat.le_trans I.ok.bsz I.sz, I.stack, I.stkFree, I.hok, I.bare⟩
theorem Inv.after {Q : VK} {u : Value} (I : Inv X pins σ H s) (h : CE X.stack X.prog X.w H s Q u s') : EP X pins σ Q u s' := by
  obtain ⟨v, H', os, bare, un, hok, r, q⟩ := h
  obtain ⟨hh, g, d, t, os'⟩ := s'
  obtain rfl : os' = s.os := os
  exact ⟨v, H', I.call (h' := hh) (g' := g) (d' := d) (t' := t) (ch := []) un hok bare (fun b z => absurd z (by simp)), r, q⟩
end
noncomputable def j33 (sp : Sp) (dvs : List V) (E : XK) (t : TA) : TE := fun σ H Q => t σ H fun vs H1 => sp (vs ++ dvs) H1 Q E
noncomputable def tMeth (C : Addr) (m : Str) (sp : Sp) (dvs : List V) (E : XK) (ta : TE) (t : TA) : TE := fun σ H Q => ta σ H fun x H1 => ∃ a dx fs, x = .ref a ∧ H1 a = some (.ins C dx fs) ∧ fs.lookup m = none ∧
  t σ H1 fun vs H2 => sp (x :: (vs ++ dvs)) H2 Q E
noncomputable def tMake (C : Addr) (sp : Sp) (dvs : List V) (E : XK) (t : TA) : TE := fun σ H Q => t σ H fun vs H1 => ∀ x dx, H1 x = none → H1 dx = none → dx ≠ x →
  sp (.ref x :: (vs ++ dvs)) (upd (upd H1 dx (.own x)) x (.ins C dx [])) (fun v H2 => v = .non ∧ Q (.ref x) H2) E
noncomputable def j3i (K : PySem.W.Frag) (fd : FuncData) (ps : List Str) (ds : List Value) : Prop :=
  ∀ (s : Shared) (us : List Value), K.In s.heap → (us ++ ds).length = ps.length → BindsTo s fd ⟨us, []⟩ (ps.zip (us ++ ds))
theorem j3i.all {K : PySem.W.Frag} {fd : FuncData} {ps : List Str} (h : ∀ us : List Value, us.length = ps.length → bindArgs fd ⟨us, []⟩ = pure (ps.zip us)) : j3i K fd ps [] := fun s us _ hl => by
  rw [List.append_nil] at hl ⊢
  exact .of_eq (h us hl)
noncomputable def j3b (CX : CXT) (X : Cx) (E : XK) : Prop := ∀ (pins : List (Addr × Obj)) (σ : St) (H : Hp) (s : Shared) (e : Value) (s' : Shared), Inv X pins σ H s → CX X.stack H s E e s' → X.xe e s'
section
variable {X : Cx} {CX : CXT} {k : Nat} {f C : Addr} {fd : FuncData} {ps : List Str} {sp : Sp} {dvs : List V} {ds : List Value} {E : XK} {x m : Str} {p pos apos : Pos} {e o : Expr} {es : List Expr} {ta : TE} {t : TA}
theorem run_fn {pins : List (Addr × Obj)} {σ : St} {H : Hp} {s : Shared} {Q : VK} {us : List Value} {vs : List V} (F : FnOk X.prog X.w X.K X.mg X.base CX k f fd ps sp) (hr : Room k X.A) (hb : j3i X.K fd ps ds) (hd : Vals dvs ds) (hx : j3b CX X E)
    (I : Inv X pins σ H s) (r : Vals vs us) (h : sp (vs ++ dvs) H Q E) : wpAny (model X.prog X.w) X.A (call (.ref f) us) (EP X pins σ Q) X.xe s := by
  have r2 : Vals (vs ++ dvs) (us ++ ds) := r.append hd
  have hl : (us ++ ds).length = ps.length := by rw [← r2.length]; exact F.len _ _ _ _ h
  refine wpAny_call (codeAny_mono (F.run X.A X.stack s H ⟨us, []⟩ (us ++ ds) (vs ++ dvs) Q E hr I.env0 (hb s us I.kIn hl) r2 h) fun r s' hq => ?_)
  cases r with
  | error e => exact hx pins σ H s e s' I hq
  | ok fl =>
    cases fl with
    | ret u => exact I.after hq
    | next => exact False.elim hq
    | brk => exact False.elim hq
    | cont => exact False.elim hq
theorem j85 (F : FnOk X.prog X.w X.K X.mg X.base CX k f fd ps sp) (hr : Room k X.A) (hg : Gl X x) (hm : X.mg x = some (.ref f)) (hk : PySem.W.keepIn X.K (.ref f) = true) (hb : j3i X.K fd ps ds) (hd : Vals dvs ds) (hx : j3b CX X E)
    (ha : PA X (e :: es) t) (hdb : (x == ("__debug__" : Str)) = false := by decide) (he : starEach (e :: es) X.env = (false, eval e X.env) :: starEach es X.env := by rfl) (hpl : (backTo pos (starEach es X.env)).any (·.1) = false := by rfl) :
    PE X (.Call (.Name x p) (e :: es) [] pos) (j33 sp dvs E t) := by
  intro pins s σ H Q I h
  refine wpAny_Call_Name_kw (j3q I hg hm ?_ hdb)
  refine PySem.W.callWith_K (h₀ := X.base) I.ok.mod.kin hk (thn (ha pos pins s σ H _ I h) fun us s1 ⟨vs, H1, I1, r, q⟩ => ⟨I1.kIn, ?_⟩) he hpl
  exact run_fn F hr hb hd hx I1 r q
structure Mk (K : PySem.W.Frag) (C f : Addr) : Prop where
  makes : PySem.W.makesIn K C = true
  init : PySem.W.findIn K (.ref C) "__init__" = some (some (.ref f))
  fn : PySem.W.isFn K (.ref f) = true
  kp : PySem.W.keepIn K (.ref C) = true
end
noncomputable def PK (X : Cx) (kws : List Keyword) (t : TA) : Prop :=
  ∀ (pos : Pos) (pins : List (Addr × Obj)) (s : Shared) (σ : St) (H : Hp) (Q : List V → Hp → Prop), Inv X pins σ H s → t σ H Q → wpAny (model X.prog X.w) X.A (evalAll ((backToKw pos (keywordEach kws X.env)).map (·.2))) (AP X pins σ Q) X.xe s
section
variable {X : Cx} {CX : CXT} {k : Nat} {f C : Addr} {fd : FuncData} {ps ks : List Str} {sp : Sp} {E : XK} {x m : Str} {p pos apos kpos : Pos} {e o : Expr} {es : List Expr} {kws : List Keyword} {te ta : TE} {t tk : TA} {nm : Option Str}
theorem pk_nil : PK X [] tNil := fun _ _ _ _ H Q I h => wpAny_evalAll_nil ⟨[], H, I, .nil, h⟩
theorem pk_cons (ha : PE X e te) (hr : PK X kws t) : PK X (⟨nm, e, kpos⟩ :: kws) (j06 te t) := by
  intro pos pins s σ H Q I h
  show wpAny _ _ (evalAll ((do let v ← eval e X.env; standAt pos; pure v) :: (backToKw pos (keywordEach kws X.env)).map (·.2))) _ _ s
  refine wpAny_evalAll_cons (wpAny_bind (thn (ha pins s σ H _ I h) fun u s1 ⟨x, H1, I1, r1, q1⟩ => wpAny_bind (wpAny_standAt (wpAny_pure ?_))))
  exact thn (hr pos pins s1 σ H1 _ I1 q1) fun us s2 ⟨xs, H2, I2, r2, q2⟩ => ⟨x :: xs, H2, I2, .cons r1 r2, q2⟩
structure KBinds (K : PySem.W.Frag) (fd : FuncData) (ps ks : List Str) (g : List Value → List Value → List Value) (gV : List V → List V → List V) : Prop where
  to : ∀ (s : Shared) (us ws : List Value), K.In s.heap → (g us ws).length = ps.length → BindsTo s fd ⟨us, ks.zip ws⟩ (ps.zip (g us ws))
  rel : ∀ {vs : List V} {us : List Value} {zs : List V} {ws : List Value}, Vals vs us → Vals zs ws → Vals (gV vs zs) (g us ws)
noncomputable def tCallK (sp : Sp) (gV : List V → List V → List V) (E : XK) (t tk : TA) : TE := fun σ H Q => t σ H fun vs H1 => tk σ H1 fun zs H2 => sp (gV vs zs) H2 Q E
variable {g : List Value → List Value → List Value} {gV : List V → List V → List V}
end
structure FnScope (N P : List Str) (sc : Scope) : Prop where
  kind : sc.kind = .function
  co : sc.isCoroutine = false
  gen : sc.isGenerator = false
  nd : N.Nodup
  pre : N.take P.length = P
  par : ∀ x ∈ P, sc.names.lookup x = some .local ∨ sc.names.lookup x = some .cell
  nofree : ∀ y ∈ sc.names, y.2 ≠ .free
theorem j58 {kindOf : Str → Option NameKind} {x : Str} : ∀ {binds : List (Str × Value)} {m : Str → Option Value}, (∀ v, (x, v) ∉ binds) → bindL kindOf binds m x = m x
  | [], _, _ => rfl
  | (n, v) :: r, m, h => by
    unfold bindL
    rw [j58 fun w hw => h w (List.mem_cons_of_mem _ hw)]
    split
    · have : x ≠ n := by rintro rfl; exact h v List.mem_cons_self
      simp [this]
    · rfl
theorem j59 {kindOf : Str → Option NameKind} {x : Str} : ∀ {binds : List (Str × Value)} {m : Str → Option Value}, (∀ v, (x, v) ∉ binds) → bindC kindOf binds m x = m x
  | [], _, _ => rfl
  | (n, v) :: r, m, h => by
    unfold bindC
    rw [j59 fun w hw => h w (List.mem_cons_of_mem _ hw)]
    split
    · rfl
    · have : x ≠ n := by rintro rfl; exact h v List.mem_cons_self
      simp [this]
theorem j5a {kindOf : Str → Option NameKind} {x : Str} {v : Value} : ∀ {P : List Str} {vs : List Value} {i : Nat} {m : Str → Option Value}, P.Nodup → P[i]? = some x → vs[i]? = some v → kindOf x = some .local →
    bindL kindOf (P.zip vs) m x = some v
  | [], _, _, _, _, h, _, _ => by simp at h
  | _ :: _, [], _, _, _, _, h, _ => by simp at h
  | p :: P, w :: vs, 0, m, nd, h1, h2, hk => by
    simp at h1 h2; subst h1; subst h2
    show bindL kindOf ((p, w) :: P.zip vs) m p = _
    unfold bindL
    rw [j58 fun v hv => (List.nodup_cons.mp nd).1 (List.of_mem_zip hv).1, if_pos hk]
    simp
  | p :: P, w :: vs, i + 1, m, nd, h1, h2, hk => by
    show bindL kindOf ((p, w) :: P.zip vs) m x = _
    unfold bindL
    exact j5a (i := i) (List.nodup_cons.mp nd).2 (by simpa using h1) (by simpa using h2) hk
theorem j5b {kindOf : Str → Option NameKind} {x : Str} {v : Value} : ∀ {P : List Str} {vs : List Value} {i : Nat} {m : Str → Option Value}, P.Nodup → P[i]? = some x → vs[i]? = some v → kindOf x ≠ some .local →
    bindC kindOf (P.zip vs) m x = some v
  | [], _, _, _, _, h, _, _ => by simp at h
  | _ :: _, [], _, _, _, _, h, _ => by simp at h
  | p :: P, w :: vs, 0, m, nd, h1, h2, hk => by
    simp at h1 h2; subst h1; subst h2
    show bindC kindOf ((p, w) :: P.zip vs) m p = _
    unfold bindC
    rw [j59 fun v hv => (List.nodup_cons.mp nd).1 (List.of_mem_zip hv).1, if_neg hk]
    simp
  | p :: P, w :: vs, i + 1, m, nd, h1, h2, hk => by
    show bindC kindOf ((p, w) :: P.zip vs) m x = _
    unfold bindC
    exact j5b (i := i) (List.nodup_cons.mp nd).2 (by simpa using h1) (by simpa using h2) hk
noncomputable def j25 (N : List Str) (vs : List V) : St := vs.map some ++ List.replicate (N.length - vs.length) none
noncomputable def cxOf (CX : CXT) (P : Program) (w : World) (K : PySem.W.Frag) (mg : Str → Option Value) (base : Heap) (N : List Str) (qual : Str) (scope : Scope) (f : Addr) (cd : Value) (A : Around) (outer : List Env) (s : Shared) (H : Hp) (E : XK) : Cx where
  prog := P
  w := w
  K := K
  mg := mg
  base := base
  A := A.deeper (envOfC qual scope s.heap.objs.size f cd)
  N := N
  s₀ := s
  H₀ := H
  env := envOfC qual scope s.heap.objs.size f cd
  outer := outer
  stack := envOfC qual scope s.heap.objs.size f cd :: outer
  ex := []
  calm := true
  fn := fun _ => true
  pn := []
  xe := fun e s' => wpAny (model P w) (A.deeper (envOfC qual scope s.heap.objs.size f cd)) (leaving (envOfC qual scope s.heap.objs.size f cd) e) (fun _ s'' => CX outer H s E e s'') (fun e' s'' => CX outer H s E e' s'') s'
theorem j6f {sc : Scope} {n : Nat} {x : Str} (h : sc.names.lookup x = some .cell) : ∃ c, (cellsFrom n sc.names []).lookup x = some c := by
  have q := PySem.W.cellsFrom_some sc.names n [] (.inl h)
  exact Option.isSome_iff_exists.mp q
theorem j5c {CX : CXT} {P : Program} {w : World} {K : PySem.W.Frag} {mg : Str → Option Value} {base : Heap} {N ps : List Str} {qual : Str} {scope : Scope} {f : Addr} {cd : Value} {A : Around} {outer : List Env} {s s1 : Shared} {H : Hp} {E : XK} {us : List Value} {vs : List V}
    (S : FnScope N ps scope) (hd : A.handled = none) (e0 : Env0 P w K mg base A outer s H) (hl : vs.length = ps.length) (r : Vals vs us)
    (x : InCallC s s.heap.objs.size (bindL (envOfC qual scope s.heap.objs.size f cd).kindOf (ps.zip us) fun _ => none) (cellsFrom (s.heap.objs.size + 1) scope.names []) (bindC (envOfC qual scope s.heap.objs.size f cd).kindOf (ps.zip us) fun _ => none) s1) :
    Inv (cxOf CX P w K mg base N qual scope f cd A outer s H E) [] (j25 N vs) H s1 := by
  have hpl : ps.length ≤ N.length := by have := congrArg List.length S.pre; rw [List.length_take] at this; omega
  obtain ⟨h1, tk, rfl, hk⟩ := x.done
  have noA : ∀ b : Addr, b ∉ (cxOf CX P w K mg base N qual scope f cd A outer s H E).ex := fun b z => absurd (show b ∈ ([] : List Addr) from z) (by simp)
  refine ⟨⟨e0.mod, S.kind, rfl, rfl, Nat.le_refl _, fun y z c h1 h2 => ?_, fun y hy => ?_, fun y c _ h => ?_, fun _ => hd, Around.frames_deeper e0.frames, .inr ⟨rfl, rfl⟩, fun b z => absurd z (noA b), e0.bs, e0.bsz, fun b _ _ => noA b, fun b z => absurd z (noA b), e0.funs, e0.frf⟩,
    rfl, e0.bare, Un.kept hk, ⟨_, x.toInCall.ns, fun i y v h1 h2 h3 => ?_⟩, fun y c h => ⟨_, x.cell y c h⟩, e0.hok.fresh (Nat.le_refl _), fun y c h => ?_, fun p hp => absurd (show p ∈ ([] : List (Addr × Obj)) from hp) (by simp), e0.hok.kept hk, ?_⟩
  · exact name_of_addr x.apart (PySem.mem_of_lookup h1) (PySem.mem_of_lookup h2)
  · have hy : scope.names.lookup y = some .cell ∨ scope.names.lookup y = some .free := hy
    rcases hy with hy | hy
    · exact j6f hy
    · exact absurd rfl (S.nofree _ (PySem.mem_of_lookup hy))
  · exact Nat.le_of_lt (x.above y c (PySem.mem_of_lookup h))
  · have hi : i < vs.length := by
      unfold j25 at h2
      by_cases hi : i < vs.length
      · exact hi
      · rw [List.getElem?_append_right (by simpa using hi)] at h2
        rw [List.getElem?_replicate] at h2
        split at h2 <;> cases h2
    have ha : vs[i]? = some v := by
      unfold j25 at h2
      rw [List.getElem?_append_left (by simpa using hi), List.getElem?_map] at h2
      cases e : vs[i]? with
      | none => rw [e] at h2; cases h2
      | some a => rw [e] at h2; cases h2; rfl
    obtain ⟨u, hu, rv⟩ := r.get ha
    have hp : ps[i]? = some y := by
      rw [← S.pre, List.getElem?_take_of_lt (by omega)]; exact h1
    have ndP : ps.Nodup := by rw [← S.pre]; exact S.nd.sublist (List.take_sublist _ _)
    refine ⟨u, rv, ?_⟩
    rcases S.par y (List.mem_of_getElem? hp) with k | k
    · exact .inl ⟨k, j5a ndP hp hu k⟩
    · obtain ⟨c, e⟩ := j6f (n := s.heap.objs.size + 1) k
      refine .inr ⟨.inl k, c, e, ?_⟩
      have q := x.cell y c e
      rw [j5b ndP hp hu (by show scope.names.lookup y ≠ _; rw [k]; decide)] at q
      exact q
  · exact e0.hok.fresh (Nat.le_of_lt (x.above y c (PySem.mem_of_lookup h)))
  · unfold j25
    show _ = N.length
    rw [List.length_append, List.length_map, List.length_replicate]
    omega
theorem fn_of {CX : CXT} {P : Program} {w : World} {K : PySem.W.Frag} {mg : Str → Option Value} {base : Heap} {k : Nat} {f : Addr} {name qual : Str} {params : Arguments} {body : List Stmt} {scope : Scope} {dV kV doc pm cdv ct oc : Value} {an od : Option Addr}
    {osl : Array (Option Value)} {N ps : List Str} {sp : Sp} (lk : K.lookup f = some ⟨oc, od, .func (PySem.W.fnOf name qual params body scope dV kV doc pm an cdv ct), osl⟩) (hcd : PySem.W.codeIn K cdv qual = true) (S : FnScope N ps scope)
    (len : ∀ vs H Q E, sp vs H Q E → vs.length = ps.length)
    (hbody : ∀ (A : Around) (outer : List Env) (s : Shared) (H : Hp) (vs : List V) (Q : VK) (E : XK), Room k (A.deeper (envOfC qual scope s.heap.objs.size f cdv)) → sp vs H Q E →
      ∃ t, PSs (cxOf CX P w K mg base N qual scope f cdv A outer s H E) body t ∧ t { nx := fun _ H' => Q .non H', rt := Q } (j25 N vs) H) :
    FnOk P w K mg base CX (k + 1) f (PySem.W.fnOf name qual params body scope dV kV doc pm an cdv ct) ps sp := by
  refine ⟨len, fun A outer s H args us vs Q E hr e0 hb r hsp => ?_⟩
  have hl := len _ _ _ _ hsp
  have KX : K.In s.heap := e0.mod.kin.keeps fun b o e => (e0.bs b o e).1
  have lim : s.heap.NoLimit := e0.mod.nolimit.keeps fun b o e => (e0.bs b o e).1
  have hkind : ∀ y ∈ ps.zip us, scope.names.lookup y.1 = some .local ∨ (scope.names.lookup y.1 = some .cell ∧ ((cellsFrom (s.heap.objs.size + 1) scope.names []).lookup y.1).isSome = true) := fun ⟨n, v⟩ hy => by
    rcases S.par n (List.of_mem_zip hy).1 with q | q
    · exact .inl q
    · exact .inr ⟨q, PySem.W.cellsFrom_some _ _ _ (.inl q)⟩
  refine codeAny_call_function hr.depth (KX _ _ lk) rfl S.co S.gen rfl (PySem.W.codeRec_of KX hcd) (hb _ _ _ _ ?_)
  refine wpAny_newFunctionEnv_cells S.kind hkind fun env he s1 x => ?_
  subst he
  refine ⟨lim.keeps x.toInCall.keep, codeAny_func ?_⟩
  obtain ⟨t, ht, hq⟩ := hbody A outer s H vs Q E (hr.deeper _) hsp
  have I : Inv (cxOf CX P w K mg base N qual scope f cdv A outer s H E) [] (j25 N vs) H s1 := j5c S hr.hd e0 hl r x
  refine wpAny_mono (ht [] s1 (j25 N vs) H _ I hq) (fun fl s' hs => ?_) fun e s' hs => hs
  have fin : ∀ {σ' : St} {H' : Hp} {v : V} {u : Value}, Inv (cxOf CX P w K mg base N qual scope f cdv A outer s H E) [] σ' H' s' → RelV v u → Q v H' → CE outer P w H s Q u s' :=
    fun {σ' H' v u} J rv q => ⟨v, H', J.os, J.bare, J.base, J.hok, rv, q⟩
  cases fl with
  | ret u =>
    obtain ⟨v, σ', H', J, rv, q⟩ := hs
    exact fin J rv q
  | next =>
    obtain ⟨σ', H', J, q⟩ := hs
    exact fin (v := V.non) (u := Value.none) J rfl q
  | brk =>
    obtain ⟨_, _, _, q⟩ := hs
    exact False.elim q
  | cont =>
    obtain ⟨_, _, _, q⟩ := hs
    exact False.elim q
end L2
namespace L2
open PySem PySem.Spec PyProof.Rows
section
variable {X : Cx} {x : Str} {p pos : Pos} {e : Expr} {es : List Expr} {t : TA} {id T : String} {r : List V → Hp → VK → Prop}
noncomputable def tCB (r : List V → Hp → VK → Prop) (t : TA) : TE := fun σ H Q => t σ H fun vs H1 => r vs H1 Q
theorem j0d (hc : j3h X (.builtin id) r) (hg : Gl X x) (hm : X.mg x = none) (hv : bootBuiltins x = some (.builtin id)) (ha : PA X (e :: es) t) (hn : x ≠ "__name__" := by decide) (hdb : (x == ("__debug__" : Str)) = false := by decide)
    (he : starEach (e :: es) X.env = (false, eval e X.env) :: starEach es X.env := by rfl) (hpl : (backTo pos (starEach es X.env)).any (·.1) = false := by rfl) : PE X (.Call (.Name x p) (e :: es) [] pos) (tCB r t) := by
  intro pins s σ H Q I h
  refine wpAny_Call_Name_kw (j3r I hg hm hv ?_ hn hdb)
  exact PyProof.Rows.callWith_builtin1 (thn (ha pos pins s σ H _ I h) fun us s1 ⟨vs, H1, I1, r1, q1⟩ => hc pins s1 σ H1 vs us Q I1 r1 q1) he hpl
theorem j3t (hc : j3h X (.type T) r) (hg : Gl X x) (hm : X.mg x = none) (hv : bootBuiltins x = some (.type T)) (ha : PA X (e :: es) t) (hn : x ≠ "__name__" := by decide) (hdb : (x == ("__debug__" : Str)) = false := by decide)
    (he : starEach (e :: es) X.env = (false, eval e X.env) :: starEach es X.env := by rfl) (hpl : (backTo pos (starEach es X.env)).any (·.1) = false := by rfl) : PE X (.Call (.Name x p) (e :: es) [] pos) (tCB r t) := by
  intro pins s σ H Q I h
  refine wpAny_Call_Name_kw (j3r I hg hm hv ?_ hn hdb)
  exact PyProof.Rows.callWith_type1 (thn (ha pos pins s σ H _ I h) fun us s1 ⟨vs, H1, I1, r1, q1⟩ => hc pins s1 σ H1 vs us Q I1 r1 q1) he hpl
end
end L2
namespace HT
open PySem PyProof.Rows
noncomputable def lexLt : List Int → List Int → Bool
  | [], [] => false
  | [], _ :: _ => true
  | _ :: _, [] => false
  | x :: xs, y :: ys => if x = y then lexLt xs ys else decide (x < y)
theorem eqAt_int (A : Around) (s : Shared) (a : Int) (t : Tok) (c : Int) (u : Tok) : ∃ e, SeqAt.EqAt A s (.int a t) (.int c u) e ∧ (e = true ↔ a = c) :=
  ⟨(a == c), SeqAt.EqAt.int_int a t c u, by simp⟩
section
open PySem.SeqAt
open PySem.AutoSeq1 (wpAny_loadPart')
open PySem.MeetsSeq PySem.MeetsSeq2 PySem.MeetsSeq3
end
section
variable {prog : Program} {w : World} {A : Around} {E : Value → Shared → Prop} {s : Shared}
noncomputable def sIx (n d : Nat) : Option Int → Nat
  | none => d
  | some v => if v < 0 then (v + (n : Int)).toNat else min v.toNat n
theorem sIx_none (n d : Nat) : sIx n d none = d := rfl
theorem sIx_nat (n d k : Nat) : sIx n d (some (k : Int)) = min k n := by
  show (if (k : Int) < 0 then ((k : Int) + (n : Int)).toNat else min (k : Int).toNat n) = min k n
  rw [if_neg (by omega), Int.toNat_natCast]
end
end HT
namespace L2
open PySem PySem.Spec PyProof.Rows
abbrev TO := St → Hp → (Option Int → Hp → Prop) → Prop
noncomputable def PO (X : Cx) (e : Option Expr) (t : TO) : Prop :=
  ∀ (pins : List (Addr × Obj)) (s : Shared) (σ : St) (H : Hp) (Q : Option Int → Hp → Prop), Inv X pins σ H s → t σ H Q →
    wpAny (model X.prog X.w) X.A (evalPart e X.env) (fun u s' => ∃ o H', Inv X pins σ H' s' ∧ IsPart u o ∧ Q o H') X.xe s
noncomputable def j4m : TO := fun _ H Q => Q none H
noncomputable def tPart (t : TE) : TO := fun σ H Q => t σ H fun x H1 => ∃ i, x = .int i ∧ Q (some i) H1
theorem j34 {ns : List Int} : ∀ {us : List Value}, Vals (ns.map V.int) us → IntsAre us ns := by
  induction ns with
  | nil => intro us r; rw [List.map_nil] at r; cases r; exact .nil
  | cons n ns ih =>
    intro us r
    rw [List.map_cons] at r
    cases r with
    | cons r1 r2 =>
      obtain ⟨t, e⟩ := r1
      subst e
      exact .cons n t (ih r2)
section
variable {X : Cx} {e : Expr} {te : TE} {lo hi : Option Expr} {tl th : TO} {pos p2 : Pos}
theorem j5s : PO X none j4m := by
  intro pins s σ H Q I h
  rw [evalPart_none]
  exact wpAny_pure ⟨none, H, I, .none, h⟩
theorem j5t (h : PE X e te) : PO X (some e) (tPart te) := by
  intro pins s σ H Q I hw
  rw [evalPart_some]
  refine thn (h pins s σ H _ I hw) fun u s1 ⟨x, H1, I1, r1, q1⟩ => ?_
  obtain ⟨i, rfl, q⟩ := q1
  obtain ⟨t, rfl⟩ := r1
  exact ⟨some i, H1, I1, .int i t, q⟩
noncomputable def SlR (X : Cx) (r : V → Option Int → Option Int → Hp → VK → Prop) : Prop :=
  ∀ (pins : List (Addr × Obj)) (s : Shared) (σ : St) (H : Hp) (x : V) (v vl vu : Value) (lo hi : Option Int) (sl : Addr) (Q : VK), Inv X pins σ H s → RelV x v → s.heap.IsSliceOf sl vl vu .none → IsPart vl lo → IsPart vu hi → r x lo hi H Q →
    ∃ T id, typeLookup (.type T) "__getitem__" = pure (some (.builtin id)) ∧ s.TypeIs v T ∧ wpAny (model X.prog X.w) X.A (getItem v (.ref sl)) (EP X pins σ Q) X.xe s
noncomputable def tSl (r : V → Option Int → Option Int → Hp → VK → Prop) (te : TE) (tl th : TO) : TE := fun σ H Q => te σ H fun x H1 => tl σ H1 fun l H2 => th σ H2 fun u H3 => r x l u H3 Q
theorem j4n {r : V → Option Int → Option Int → Hp → VK → Prop} (hr : SlR X r) (he : PE X e te) (hl : PO X lo tl) (hu : PO X hi th) : PE X (.Subscript e (.Slice lo hi none p2) pos) (tSl r te tl th) := by
  intro pins s σ H Q I h
  refine Subscript_ (thn (he pins s σ H _ I h) fun v s1 ⟨x, H1, I1, r1, q1⟩ => ?_)
  refine wpAny_Slice (thn (hl pins s1 σ H1 _ I1 q1) fun vl s2 ⟨l, H2, I2, pl, q2⟩ => thn (hu pins s2 σ H2 _ I2 q2) fun vu s3 ⟨u, H3, I3, pu, q3⟩ => ?_)
  rw [evalPart_none]
  refine wpAny_pure ?_
  have I4 : Inv X pins σ H3 { s3 with heap := s3.heap.push { cls := .type "slice", data := .fields #[vl, vu, .none] } } := I3.kept (t' := s3.toks) fun b ob q => Heap.get?_push_of_some _ q
  obtain ⟨T, id, hT, ht, hg⟩ := hr pins { s3 with heap := s3.heap.push { cls := .type "slice", data := .fields #[vl, vu, .none] } } σ H3 x v vl vu l u s3.heap.objs.size Q I4 r1 (Heap.IsSliceOf.new ..) pl pu q3
  show wpAny (model X.prog X.w) X.A (subscriptTail e (.Slice lo hi none p2) v (.ref s3.heap.objs.size)) (EP X pins σ Q) X.xe { s3 with heap := s3.heap.push { cls := .type "slice", data := .fields #[vl, vu, .none] } }
  exact tail_any (ops := [.ref s3.heap.objs.size, v]) ht hT hg (by with_unfolding_all rfl)
noncomputable def cutV (xs : List V) (lo hi : Option Int) : List V := (xs.drop (HT.sIx xs.length 0 lo)).take (HT.sIx xs.length xs.length hi - HT.sIx xs.length 0 lo)
theorem j2i (xs : List V) (lo hi : Option Int) : (cutV xs lo hi).length ≤ xs.length := by
  unfold cutV
  rw [List.length_take, List.length_drop]
  omega
noncomputable def rSlT (K : PySem.W.Frag) : V → Option Int → Option Int → Hp → VK → Prop := fun x lo hi H Q => ∃ a xs, x = .ref a ∧ SqT K H a xs ∧
  ¬ (HT.sIx xs.length 0 lo = 0 ∧ HT.sIx xs.length xs.length hi = xs.length) ∧ ∀ p, H p = none → Q (.ref p) (upd H p (.tup (cutV xs lo hi)))
noncomputable def rLtT (K : PySem.W.Frag) : R2 := fun x y H Q => ∃ a b ns ms, x = .ref a ∧ y = .ref b ∧ SqT K H a (ns.map V.int) ∧ SqT K H b (ms.map V.int) ∧ Q (.bl (HT.lexLt ns ms)) H
noncomputable def rCatT (K : PySem.W.Frag) : R2 := fun x y H Q => ∃ a b xs ys, x = .ref a ∧ y = .ref b ∧ SqT K H a xs ∧ SqT K H b ys ∧ xs ≠ [] ∧ xs.length + ys.length ≤ sizeLine ∧
  (ys = [] → Q (.ref a) H) ∧ (ys ≠ [] → ∀ p, H p = none → Q (.ref p) (upd H p (.tup (xs ++ ys))))
end
end L2
namespace L2
open PySem PySem.Spec PyProof.Rows
noncomputable def ixN (n : Nat) (i : Int) : Option Nat := if 0 ≤ i then (if i < n then some i.toNat else none) else if -(n : Int) ≤ i then some (i + n).toNat else none
noncomputable def atI {α : Type} (xs : List α) (i : Int) : Option α := (ixN xs.length i).bind fun j => xs[j]?
theorem j86 {n : Nat} {i : Int} {j : Nat} (h : ixN n i = some j) : seqIndex? i n = some j ∧ j < n ∧ -(n : Int) ≤ i ∧ i < n := by
  unfold ixN at h
  by_cases h0 : 0 ≤ i
  · rw [if_pos h0] at h
    by_cases h1 : i < n
    · rw [if_pos h1] at h
      have e : i.toNat = j := Option.some.inj h
      exact ⟨by rw [seqIndex_of h0 h1, e], by omega, by omega, h1⟩
    · rw [if_neg h1] at h; cases h
  · rw [if_neg h0] at h
    by_cases h1 : -(n : Int) ≤ i
    · rw [if_pos h1] at h
      have e : (i + n).toNat = j := Option.some.inj h
      exact ⟨by rw [seqIndex_neg (by omega) h1, e], by omega, h1, by omega⟩
    · rw [if_neg h1] at h; cases h
theorem j5u {α : Type} {xs : List α} {i : Int} {v : α} (h : atI xs i = some v) : ∃ j, seqIndex? i xs.length = some j ∧ xs[j]? = some v ∧ j < xs.length ∧ -(xs.length : Int) ≤ i ∧ i < xs.length := by
  unfold atI at h
  cases e : ixN xs.length i with
  | none => rw [e] at h; cases h
  | some j =>
    rw [e] at h
    obtain ⟨h1, h2, h3, h4⟩ := j86 e
    exact ⟨j, h1, h, h2, h3, h4⟩
theorem j3u {α : Type} {xs : List α} {j : Nat} {v : α} (h : xs[j]? = some v) : atI xs (j : Int) = some v := by
  have hj : j < xs.length := (List.getElem?_eq_some_iff.mp h).1
  have e : ixN xs.length (j : Int) = some j := by
    unfold ixN
    rw [if_pos (by omega), if_pos (by omega)]; simp
  unfold atI; rw [e]; exact h
noncomputable def PlainIx (b : Expr) : Prop := ∀ o i, subscripted b false o i = operate [o, i] (getItem o i)
noncomputable def IxR (X : Cx) (r : R2) : Prop :=
  ∀ (value slice : Expr) (pins : List (Addr × Obj)) (s : Shared) (σ : St) (H : Hp) (x y : V) (v u : Value) (Q : VK), Inv X pins σ H s → RelV x v → RelV y u → r x y H Q →
    subscripted slice false v u = operate [v, u] (getItem v u) → wpAny (model X.prog X.w) X.A (subscriptTail value slice v u) (EP X pins σ Q) X.xe s
noncomputable def MtR (X : Cx) (id : String) (r : V → List V → Hp → VK → Prop) : Prop :=
  ∀ (pins : List (Addr × Obj)) (s : Shared) (σ : St) (H : Hp) (x : V) (xs : List V) (v : Value) (us : List Value) (Q : VK), Inv X pins σ H s → RelV x v → Vals xs us → r x xs H Q →
    wpAny (model X.prog X.w) X.A (call (.builtin id) (v :: us)) (EP X pins σ Q) X.xe s
section
variable {X : Cx} {a b : Expr} {ta tb : TE} {pos : Pos}
theorem j0x {r : R2} (hr : IxR X r) (ha : PE X a ta) (hb : PE X b tb) (hs : PlainIx b) : PE X (.Subscript a b pos) (tOp r ta tb) := by
  intro pins s σ H Q I h
  exact Subscript_ (binT ha hb I h fun v u s2 x y H2 I2 rx ry q => hr a b pins s2 σ H2 x y v u Q I2 rx ry q (hs _ _))
noncomputable def rIxL (K : PySem.W.Frag) : R2 := fun x y H Q => ∃ p xs i v, x = .ref p ∧ y = .int i ∧ SqL K H p xs ∧ atI xs i = some v ∧ Q v H
noncomputable def rIxT (K : PySem.W.Frag) : R2 := fun x y H Q => ∃ p xs i v, x = .ref p ∧ y = .int i ∧ SqT K H p xs ∧ atI xs i = some v ∧ Q v H
noncomputable def rIxS : R2 := fun x y H Q => ∃ z i c, x = .str z ∧ y = .int i ∧ z.length ≤ sizeLine ∧ atI z.cps.toList i = some c ∧ Q (.str ⟨#[c]⟩) H
theorem j0v : IxR X (rIxL X.K) := by
  intro value slice pins s σ H x y v u Q I rx ry h hs
  obtain ⟨p, xs, i, z, rfl, rfl, hq, he, q⟩ := h
  cases rx
  obtain ⟨t, rfl⟩ := ry
  obtain ⟨its, r, pl, hz⟩ := I.list hq
  obtain ⟨j, h1, h2, h3, h4, h5⟩ := j5u he
  obtain ⟨w, ew, rw'⟩ := r.get h2
  have hl := r.length
  have hn := j57
  have fin : EP X pins σ Q w s := ⟨z, H, I, rw', q⟩
  by_cases h0 : 0 ≤ i
  · have hj : i.toNat = j := by
      rw [seqIndex_of h0 h5] at h1
      exact Option.some.inj h1
    exact item_listR pl.isList h0 (by omega) (by rw [hj]; simpa using ew) fin hs
  · have hj : (i + (its.toArray.size : Int)).toNat = j := by
      rw [seqIndex_neg (by omega) h4] at h1
      rw [List.size_toArray, ← hl]
      exact Option.some.inj h1
    exact subscriptTail_builtinR (x := w) pl.isList.typeIs slot_list_getitem.lookup
      (wpAny_getItem_list_neg (Q := fun r s' => r = w ∧ EP X pins σ Q r s') pl.isList (by omega) (by rw [List.size_toArray] <;> omega) (by omega) (by rw [hj]; simpa using ew) ⟨rfl, fin⟩) hs
theorem j1k : IxR X (rIxT X.K) := by
  intro value slice pins s σ H x y v u Q I rx ry h hs
  obtain ⟨p, xs, i, z, rfl, rfl, hq, he, q⟩ := h
  cases rx
  obtain ⟨t, rfl⟩ := ry
  obtain ⟨its, r, pl, hz⟩ := I.tuple hq
  obtain ⟨j, h1, h2, h3, h4, h5⟩ := j5u he
  obtain ⟨w, ew, rw'⟩ := r.get h2
  have hl := r.length
  have hn := j57
  have fin : EP X pins σ Q w s := ⟨z, H, I, rw', q⟩
  exact subscriptTail_builtinR (x := w) pl.typeIs slot_tuple_getitem.lookup
    (getItem_tuple (j := j) (Q := fun r s' => r = w ∧ EP X pins σ Q r s') pl (by omega) (by omega) (by rw [List.size_toArray, ← hl]; exact h1) (by simpa using ew) ⟨rfl, fin⟩) hs
noncomputable def rIx (K : PySem.W.Frag) : R2 := fun x y H Q => rIxL K x y H Q ∨ rIxT K x y H Q ∨ rIxS x y H Q
theorem j6z (its : List Value) (n j : Nat) (u : Value) : Obj.mapSeq (·.setIfInBounds j u) { cls := .type "list", data := .seq its.toArray n } = { cls := .type "list", data := .seq (its.set j u).toArray n } := by
  simp [Obj.mapSeq]
theorem Inv.lst {pins : List (Addr × Obj)} {σ : St} {H : Hp} {s : Shared} {p : Addr} {xs : List V} (I : Inv X pins σ H s) (h : H p = some (.lst xs)) :
    ∃ (its : List Value) (n : Nat), Vals xs its ∧ s.heap.get? p = some { cls := .type "list", data := .seq its.toArray n } ∧ xs.length ≤ sizeLine := by
  obtain ⟨z, its, n, r, e⟩ := I.hok p _ h
  exact ⟨its, n, r, e, z⟩
theorem Inv.lstUpd {pins : List (Addr × Obj)} {σ : St} {H : Hp} {s : Shared} {p : Addr} {xs ys : List V} {its its' : List Value} {n n' : Nat} {f : Obj → Obj} (I : Inv X pins σ H s) (h : H p = some (.lst xs))
    (ho : s.heap.get? p = some { cls := .type "list", data := .seq its.toArray n }) (hf : f { cls := .type "list", data := .seq its.toArray n } = { cls := .type "list", data := .seq its'.toArray n' }) (r : Vals ys its') (hz : ys.length ≤ sizeLine) (t : Nat) :
    Inv X pins σ (upd H p (.lst ys)) { s with heap := s.heap.update p f, toks := t } := by
  have e : (s.heap.update p f).get? p = some { cls := .type "list", data := .seq its'.toArray n' } := by
    rw [Heap.get?_update_self f ho (by rw [hf] <;> rfl), hf]
  refine I.write (x := p) (e := p) (by rw [h]; trivial) (.inl rfl) (fun b u hb q => (Heap.get?_update_other _ _ (Ne.symm hb)).trans q) ⟨_, e⟩ ?_
  exact ⟨hz, its', n', r, e⟩
noncomputable def rSetL : V → V → V → Hp → (Hp → Prop) → Prop := fun o i v H Q => ∃ p xs k j, o = .ref p ∧ i = .int k ∧ H p = some (.lst xs) ∧ ixN xs.length k = some j ∧ Q (upd H p (.lst (xs.set j v)))
theorem j6g : PSet X rSetL := by
  intro pins s σ H o i v ov iv u Q I ro ri rv h
  obtain ⟨p, xs, k, j, rfl, rfl, hp, hj, q⟩ := h
  cases ro
  obtain ⟨t, rfl⟩ := ri
  obtain ⟨its, n, r, ho, hz⟩ := I.lst hp
  obtain ⟨h1, h2, h3, h4⟩ := j86 hj
  have hl := r.length
  have hn := j57
  have I' : Inv X pins σ (upd H p (.lst (xs.set j v))) { s with heap := s.heap.update p (Obj.mapSeq (·.setIfInBounds j u)) } :=
    I.lstUpd hp ho (j6z its n j u) (r.set rv j) (by rw [List.length_set]; exact hz) s.toks
  by_cases h0 : 0 ≤ k
  · have hk : k.toNat = j := by
      rw [seqIndex_of h0 h4] at h1
      exact Option.some.inj h1
    exact PySem.W.ki_setAt ho h0 (by omega) (by rw [List.size_toArray, ← hl]; exact h4) (by rw [hk]; exact ⟨_, I', q⟩)
  · have hk : (k + (its.toArray.size : Int)).toNat = j := by
      rw [seqIndex_neg (by omega) h3] at h1
      rw [List.size_toArray, ← hl]
      exact Option.some.inj h1
    exact PySem.W.ki_setBack ho (by omega) (by rw [List.size_toArray, ← hl]; exact h3) (by omega) (by rw [hk]; exact ⟨_, I', q⟩)
theorem j5d (lo hi : Option Int) (n : Nat) : (sliceBounds lo hi none n).1 = ((HT.sIx n 0 lo : Nat) : Int) ∧ (sliceBounds lo hi none n).2.1 = ((HT.sIx n n hi : Nat) : Int) ∧ (sliceBounds lo hi none n).2.2 = 1 := by
  refine ⟨?_, ?_, rfl⟩
  · cases lo with
    | none => simp [sliceBounds, HT.sIx]
    | some i =>
      simp only [sliceBounds, HT.sIx, Option.getD_none, show (1 : Int) > 0 by decide, if_true]
      by_cases h : i < 0
      · simp only [h, if_true] <;> omega
      · simp only [h, if_false] <;> omega
  · cases hi with
    | none => simp [sliceBounds, HT.sIx]
    | some i =>
      simp only [sliceBounds, HT.sIx, Option.getD_none, show (1 : Int) > 0 by decide, if_true]
      by_cases h : i < 0
      · simp only [h, if_true] <;> omega
      · simp only [h, if_false] <;> omega
theorem j4o (its : List Value) (lo hi : Option Int) : slicePick its.toArray lo hi none = ((its.drop (HT.sIx its.length 0 lo)).take (HT.sIx its.length its.length hi - HT.sIx its.length 0 lo)).toArray := by
  obtain ⟨h1, h2, h3⟩ := j5d lo hi its.toArray.size
  unfold slicePick
  rw [h1, h2, h3]
  simp only [sliceRange_one, pick_run, List.size_toArray] <;> rfl
noncomputable def rSlL (K : PySem.W.Frag) : V → Option Int → Option Int → Hp → VK → Prop := fun x lo hi H Q => ∃ a xs, x = .ref a ∧ SqL K H a xs ∧ ∀ p, H p = none → Q (.ref p) (upd H p (.lst (cutV xs lo hi)))
theorem j5v : SlR X (rSlL X.K) := by
  intro pins s σ H x v vl vu lo hi sl Q I rx hs pl pu h
  obtain ⟨a, xs, rfl, hx, q⟩ := h
  cases rx
  obtain ⟨its, r, ht, hz⟩ := I.list hx
  have hlen := r.length
  refine ⟨"list", _, slot_list_getitem.lookup, ht.isList.typeIs, ?_⟩
  refine wpAny_getItem_list_slice ht.isList hs pl pu .none (by simp) ?_ (by rw [List.size_toArray] <;> omega)
  rw [j4o, ← hlen]
  refine ⟨.ref s.heap.objs.size, _, I.laid (t' := s.toks) (o := .lst (cutV xs lo hi)) (fun b ob q => Heap.get?_push_of_some _ q) (Nat.le_refl _) ?_, rfl, q _ (I.hok.fresh (Nat.le_refl _))⟩
  exact ⟨Nat.le_trans (j2i xs lo hi) hz, _, 0, (r.drop (HT.sIx xs.length 0 lo)).take (HT.sIx xs.length xs.length hi - HT.sIx xs.length 0 lo), Heap.get?_push_size _ rfl⟩
noncomputable def flatV : V → Bool
  | .non => true
  | .bl _ => true
  | .int _ => true
  | .str _ => true
  | _ => false
noncomputable def eqV : V → V → Bool
  | .non, .non => true
  | .bl a, .bl b => a == b
  | .bl a, .int b => (if a then 1 else 0) == b
  | .int a, .bl b => a == (if b then 1 else 0)
  | .int a, .int b => a == b
  | .str a, .str b => a == b
  | _, _ => false
noncomputable def eqU (x : V) (u : Value) : Bool := match u with
  | .none => eqV .non x
  | .bool b => eqV (.bl b) x
  | .int i _ => eqV (.int i) x
  | .str z _ => eqV (.str z) x
  | _ => false
noncomputable def inV (x : V) (xs : List V) : Bool := xs.any fun y => eqV y x
noncomputable def rIn (K : PySem.W.Frag) (neg : Bool) : R2 := fun x y H Q => ∃ p xs, y = .ref p ∧ (SqL K H p xs ∨ SqT K H p xs) ∧ flatV x = true ∧ xs.all flatV = true ∧ Q (.bl (if neg then !inV x xs else inV x xs)) H
theorem j0n : j3h X (.builtin "len") (fun xs H Q => ∃ p ys, xs = [.ref p] ∧ (SqL X.K H p ys ∨ SqT X.K H p ys) ∧ Q (.int ys.length) H) := by
  intro pins s σ H xs us Q I r h
  obtain ⟨p, ys, rfl, hq, q⟩ := h
  obtain ⟨u, rfl, rx⟩ := j4l r
  cases rx
  have hn := j57
  rcases hq with hq | hq
  · obtain ⟨its, r', pl, hz⟩ := I.list hq
    have hlen := r'.length
    exact Calls.call_len_list pl.isList (by simp only [List.size_toArray] <;> omega) ⟨.int ys.length, H, I.tok _, ⟨s.toks + 1, by rw [List.size_toArray, hlen]⟩, q⟩
  · obtain ⟨its, r', pl, hz⟩ := I.tuple hq
    have hlen := r'.length
    exact len_tuple pl (by simp only [List.size_toArray] <;> omega) ⟨.int ys.length, H, I.tok _, ⟨s.toks + 1, by rw [List.size_toArray, hlen]⟩, q⟩
theorem j3c : j3h X (.type "list") (fun xs H Q => ∃ p ys, xs = [.ref p] ∧ (SqL X.K H p ys ∨ SqT X.K H p ys) ∧ ∀ l, H l = none → Q (.ref l) (upd H l (.lst ys))) := by
  intro pins s σ H xs us Q I r h
  obtain ⟨p, ys, rfl, hq, q⟩ := h
  obtain ⟨u, rfl, rx⟩ := j4l r
  cases rx
  have fin : ∀ (its : List Value), Vals ys its → ys.length ≤ sizeLine → ∀ (h' : Heap) (c' : Nat), (∀ b o', s.heap.get? b = some o' → h'.get? b = some o') →
      h'.get? s.heap.objs.size = some { cls := .type "list", dict := none, data := .seq its.toArray c', slots := #[] } → EP X pins σ Q (.ref s.heap.objs.size) { s with heap := h' } := fun its r' hz h' c' kp e =>
    ⟨.ref s.heap.objs.size, _, I.laid (t' := s.toks) kp (Nat.le_refl _) (show j1h X.prog X.w _ h' _ (.lst ys) from ⟨hz, its, c', r', e⟩), rfl, q _ (I.hok.fresh (Nat.le_refl _))⟩
  rcases hq with hq | hq
  · obtain ⟨its, r', pl, hz⟩ := I.list hq
    have hlen := r'.length
    obtain ⟨o, ho, hc, n, hd⟩ := pl.isList
    exact call_list_seq p (.inl rfl) ho hc hd (fun h' c' kp e => fin its r' hz h' c' kp e) (by simp only [List.size_toArray] <;> omega)
  · obtain ⟨its, r', pl, hz⟩ := I.tuple hq
    have hlen := r'.length
    obtain ⟨o, ho, hc, n, hd⟩ := pl
    exact call_list_seq p (.inr rfl) ho hc hd (fun h' c' kp e => fin its r' hz h' c' kp e) (by simp only [List.size_toArray] <;> omega)
noncomputable def tyV (K : PySem.W.Frag) (T : String) (x : V) (H : Hp) : Prop := match x with
  | .str _ => T = "str"
  | .int _ => T = "int"
  | .ref p => (T = "list" ∧ ∃ xs, SqL K H p xs) ∨ (T = "tuple" ∧ ∃ o, K.lookup p = some o ∧ o.cls = .type "tuple" ∧ o.dict = none) ∨
      (T = "dict" ∧ ((∃ kvs, H p = some (.dK kvs)) ∨ ∃ kvs, H p = some (.dT kvs))) ∨ (T = "set" ∧ ∃ S n, H p = some (.set S n))
  | _ => False
theorem tyV_is {pins : List (Addr × Obj)} {σ : St} {H : Hp} {s : Shared} {T : String} {x : V} {v : Value} (I : Inv X pins σ H s) (r : RelV x v) (ty : tyV X.K T x H) :
    s.TypeIs v T ∧ ∀ a, v = .ref a → ∃ ob, s.heap.get? a = some ob ∧ ob.dict = none := by
  cases x with
  | str z =>
    obtain ⟨t, rfl⟩ := r
    cases (show T = "str" from ty)
    exact ⟨typeIs_str s z t, fun _ e => nomatch e⟩
  | int i =>
    obtain ⟨t, rfl⟩ := r
    cases (show T = "int" from ty)
    exact ⟨typeIs_int s i t, fun _ e => nomatch e⟩
  | ref p =>
    cases r
    rcases ty with ⟨rfl, xs, hq⟩ | ⟨rfl, o, hk, hc, hd⟩ | ⟨rfl, hk⟩ | ⟨rfl, S, n, hk⟩
    · obtain ⟨its, _, pl, _⟩ := I.list hq
      refine ⟨pl.isList.typeIs, fun a e => ?_⟩
      cases e
      obtain ⟨o, n, e, c, hd, _⟩ := pl
      exact ⟨o, e, hd⟩
    · refine ⟨⟨o, I.kIn p o hk, hc⟩, fun a e => ?_⟩
      cases e
      exact ⟨o, I.kIn _ o hk, hd⟩
    · have z : ∃ o, s.heap.get? p = some o ∧ o.ExactDict := by
        rcases hk with ⟨kvs, hk⟩ | ⟨kvs, hk⟩
        · obtain ⟨_, _, _, _, o, _, _, e, ex, _⟩ := I.hok p _ hk
          exact ⟨o, e, ex⟩
        · obtain ⟨_, _, _, _, o, _, _, e, ex, _⟩ := I.hok p _ hk
          exact ⟨o, e, ex⟩
      obtain ⟨o, e, ex⟩ := z
      refine ⟨⟨o, e, ex.1⟩, fun a e2 => ?_⟩
      cases e2
      exact ⟨o, e, ex.2.1⟩
    · obtain ⟨o, _, _, _, e, ex, _⟩ := I.hok p _ hk
      refine ⟨⟨o, e, ex.1⟩, fun a e2 => ?_⟩
      cases e2
      exact ⟨o, e, ex.2.1⟩
  | _ => exact False.elim ty
noncomputable def tBM0 (K : PySem.W.Frag) (T : String) (r : V → List V → Hp → VK → Prop) (to : TE) : TE := fun σ H Q => to σ H fun x H1 => tyV K T x H1 ∧ r x [] H1 Q
noncomputable def tBM (K : PySem.W.Frag) (T : String) (r : V → List V → Hp → VK → Prop) (to : TE) (t : TA) : TE := fun σ H Q => to σ H fun x H1 => tyV K T x H1 ∧ t σ H1 fun xs H2 => r x xs H2 Q
variable {o e : Expr} {es : List Expr} {to : TE} {t : TA} {name : Str} {apos cpos : Pos} {T id : String} {r : V → List V → Hp → VK → Prop}
theorem j87 (pa : PlainAttrs T) (slot : Slot T name id) (hty : typeOf (.builtin id) = pure (.type "method_descriptor")) (hm : MtR X id r) (ho : PE X o to) (ha : PA X (e :: es) t)
    (hbase : attributeBase o name X.env (eval o X.env) = eval o X.env := by rfl)
    (hfew : ((backTo cpos (starEach (e :: es) X.env)).all (fun x => !x.1) && (backToKw cpos (keywordEach [] X.env)).all (fun x => x.1.isSome)
      && decide ((e :: es).length + ([] : List Keyword).length + (if ([] : List Keyword).isEmpty then 0 else 1) < 30)) = true := by rfl)
    (hline : (apos.endLine == cpos.line) = true := by rfl) (hs : starEach (e :: es) X.env = (false, eval e X.env) :: starEach es X.env := by rfl) (hplain : (backTo cpos (starEach es X.env)).any (·.1) = false := by rfl) :
    PE X (.Call (.Attribute o name apos) (e :: es) [] cpos) (tBM X.K T r to t) := by
  intro pins s σ H Q I h
  refine wpAny_Call_method_late hbase hfew hline rfl (thn (ho pins s σ H _ I h) fun v s1 ⟨x, H1, I1, r1, ty, q1⟩ => ?_)
  obtain ⟨h1, h2⟩ := tyV_is I1 r1 ty
  refine ⟨T, id, pa, slot, hty, h1, h2, ?_⟩
  have hA := ha cpos pins s1 σ H1 _ I1 q1
  rw [hs] at hA ⊢
  refine Calls.callWith_builtin (by show (false || (backTo cpos (starEach es X.env)).any (·.1)) = false; rw [hplain] <;> rfl) (Calls.evalArgs_plain ?_)
  exact thn hA fun us s2 ⟨vs, H2, I2, r2, q2⟩ => hm pins s2 σ H2 x vs v us Q I2 r1 r2 q2
/- xs.append(e), list.index on a module's tuple .. are MtR facts of 06m -/
end
end L2
namespace L2
open PySem PySem.Spec PyProof.Rows
noncomputable def MtM (X : Cx) (id : String) (r : V → List V → Hp → VK → Prop) : Prop :=
  ∀ (pins : List (Addr × Obj)) (s : Shared) (σ : St) (H : Hp) (x : V) (xs : List V) (v : Value) (us : List Value) (Q : VK), Inv X pins σ H s → RelV x v → Vals xs us → r x xs H Q →
    wpAny (model X.prog X.w) X.A (call (.builtin id) (v :: us)) (EP X pins σ Q) X.xe s
theorem Vals.one : ∀ {x : V} {us : List Value}, Vals [x] us → ∃ u, us = [u] ∧ RelV x u
  | _, _, .cons r .nil => ⟨_, rfl, r⟩
theorem Vals.rep {xs : List V} {us : List Value} (h : Vals xs us) : ∀ k : Nat, Vals (List.replicate k xs).flatten (List.replicate k us).flatten
  | 0 => .nil
  | k + 1 => by
    rw [List.replicate_succ, List.replicate_succ, List.flatten_cons, List.flatten_cons]
    exact Vals.append h (Vals.rep h k)
theorem j5e (its : List Value) : ∀ (k : Nat) (acc : List Value),
    List.foldl (fun x1 x2 => x1 ++ x2) acc.toArray (List.replicate k its.toArray) = (acc ++ (List.replicate k its).flatten).toArray
  | 0, acc => by simp
  | k + 1, acc => by
    have e : acc.toArray ++ its.toArray = (acc ++ its).toArray := by simp
    have e2 : (acc ++ its) ++ (List.replicate k its).flatten = acc ++ (List.replicate (k + 1) its).flatten := by
      rw [List.replicate_succ, List.flatten_cons, List.append_assoc]
    rw [← e2, ← j5e its k (acc ++ its), ← e, List.replicate_succ, List.foldl_cons]
section
variable {X : Cx} {pins : List (Addr × Obj)} {σ : St} {H : Hp} {s : Shared} {l b : Addr} {xs ys zs : List V}
theorem Inv.lset {its its' : List Value} {n : Nat} {f : Array Value → Array Value} {t' : Nat} (I : Inv X pins σ H s) (hH : H l = some (.lst xs))
    (e : s.heap.get? l = some { cls := .type "list", data := .seq its.toArray n }) (hf : f its.toArray = its'.toArray) (hv : Vals ys its') (hz : ys.length ≤ sizeLine) :
    Inv X pins σ (upd H l (.lst ys)) { s with heap := s.heap.update l (Obj.mapSeq f), toks := t' } := by
  have q := PySem.IsL.update e f
  rw [hf] at q
  refine I.write (x := l) (e := l) (by rw [hH]; exact trivial) (.inl rfl) (fun b' u hb hu => (Heap.get?_update_other s.heap (Obj.mapSeq f) (Ne.symm hb)).trans hu) ⟨_, q⟩ ?_
  exact ⟨hz, its', _, hv, q⟩
theorem Inv.lnew {its : List Value} {t' : Nat} (I : Inv X pins σ H s) (hv : Vals ys its) (hz : ys.length ≤ sizeLine) :
    Inv X pins σ (upd H s.heap.objs.size (.lst ys)) { s with heap := s.heap.push { cls := .type "list", data := .seq its.toArray }, toks := t' } :=
  I.laid (fun _ _ q => Heap.get?_push_of_some _ q) (Nat.le_refl _) ⟨hz, its, 0, hv, Heap.get?_push_size _ rfl⟩
theorem Inv.fresh (I : Inv X pins σ H s) : H s.heap.objs.size = none := I.hok.fresh (Nat.le_refl _)
theorem Inv.lstM (I : Inv X pins σ H s) (hH : H l = some (.lst xs)) : xs.length ≤ sizeLine ∧ ∃ (its : List Value) (n : Nat), Vals xs its ∧ xs.length = its.length ∧ s.heap.get? l = some { cls := .type "list", data := .seq its.toArray n } := by
  obtain ⟨z, its, n, r, e⟩ := I.hok l _ hH
  exact ⟨z, its, n, r, r.length, e⟩
theorem notLongL {n : Nat} (h : n ≤ sizeLine) : Builtin.List.listTooLong n = false := by
  unfold Builtin.List.listTooLong
  exact decide_eq_false (by omega)
end
section
variable {X : Cx}
noncomputable def j4p : V → List V → Hp → VK → Prop := fun x vs H Q => ∃ l xs y, x = .ref l ∧ vs = [y] ∧ H l = some (.lst xs) ∧ xs.length < sizeLine ∧ Q .non (upd H l (.lst (xs ++ [y])))
theorem j1s : MtM X "list.append" j4p := by
  intro pins s σ H x vs v us Q I rx rv h
  obtain ⟨l, xs, y, rfl, rfl, hH, hz, q⟩ := h
  cases rx
  obtain ⟨u, rfl, ru⟩ := rv.one
  obtain ⟨z, its, n, r, hl, e⟩ := I.lstM hH
  refine call_meets F.slot_list_append ⟨_, e, rfl⟩ F.entry_list_append (F.args_list_append_2 _ _) (PySem.list_append l its.toArray n u (by rw [List.size_toArray]; omega)) ⟨e, ?_⟩
  refine ⟨.non, _, I.lset (its' := its ++ [u]) hH e (by simp) (r.append (.cons ru .nil)) ?_, rfl, q⟩
  rw [List.length_append, List.length_singleton]
  omega
noncomputable def rExtend : V → List V → Hp → VK → Prop := fun x vs H Q => ∃ l b xs zs, x = .ref l ∧ vs = [.ref b] ∧ H l = some (.lst xs) ∧ H b = some (.lst zs) ∧ xs.length + zs.length ≤ sizeLine ∧ Q .non (upd H l (.lst (xs ++ zs)))
noncomputable def rPop : V → List V → Hp → VK → Prop := fun x vs H Q => ∃ l xs y, x = .ref l ∧ vs = [] ∧ H l = some (.lst xs) ∧ xs[xs.length - 1]? = some y ∧ Q y (upd H l (.lst xs.dropLast))
noncomputable def rPopAt : V → List V → Hp → VK → Prop := fun x vs H Q => ∃ l xs i k y, x = .ref l ∧ vs = [.int i] ∧ H l = some (.lst xs) ∧ -(2 ^ 63) ≤ i ∧ i < 2 ^ 63 ∧ seqIndex? i xs.length = some k ∧ xs[k]? = some y ∧ Q y (upd H l (.lst (xs.eraseIdx k)))
noncomputable def rReverse : V → List V → Hp → VK → Prop := fun x vs H Q => ∃ l xs, x = .ref l ∧ vs = [] ∧ H l = some (.lst xs) ∧ Q .non (upd H l (.lst xs.reverse))
noncomputable def rClear : V → List V → Hp → VK → Prop := fun x vs H Q => ∃ l xs, x = .ref l ∧ vs = [] ∧ H l = some (.lst xs) ∧ Q .non (upd H l (.lst []))
noncomputable def rCat : R2 := fun x y H Q => ∃ l b xs zs, x = .ref l ∧ y = .ref b ∧ H l = some (.lst xs) ∧ H b = some (.lst zs) ∧ xs.length + zs.length ≤ sizeLine ∧ ∀ p, H p = none → Q (.ref p) (upd H p (.lst (xs ++ zs)))
theorem j3v : OpR X (binaryOp .Add) rCat := by
  intro pins s σ H x y v u Q I rx ry h
  obtain ⟨l, b, xs, zs, rfl, rfl, hH, hB, hz, q⟩ := h
  cases rx
  cases ry
  obtain ⟨z, its, n, r, hl, e⟩ := I.lstM hH
  obtain ⟨z2, its2, n2, r2, hl2, e2⟩ := I.lstM hB
  refine PySem.P.add_list e e2 ?_ (by rw [List.size_toArray, List.size_toArray]; omega)
  have ea : its.toArray ++ its2.toArray = (its ++ its2).toArray := by simp
  rw [ea]
  exact ⟨.ref _, _, I.lnew (t' := s.toks) (r.append r2) (by rw [List.length_append]; omega), rfl, q _ I.fresh⟩
noncomputable def rRep : R2 := fun x y H Q => ∃ l k xs, x = .ref l ∧ y = .int k ∧ H l = some (.lst xs) ∧ -(2 ^ 63) ≤ k ∧ k < 2 ^ 63 ∧ xs.length * k.toNat ≤ sizeLine ∧
  ∀ p, H p = none → Q (.ref p) (upd H p (.lst (List.replicate k.toNat xs).flatten))
theorem len_rep {α : Type} (xs : List α) (k : Nat) : (List.replicate k xs).flatten.length = k * xs.length := by
  induction k with
  | zero => simp
  | succ k ih => rw [List.replicate_succ, List.flatten_cons, List.length_append, ih, Nat.succ_mul, Nat.add_comm]
theorem op_rep : OpR X (binaryOp .Mult) rRep := by
  intro pins s σ H x y v u Q I rx ry h
  obtain ⟨l, k, xs, rfl, rfl, hH, h1, h2, hz, q⟩ := h
  cases rx
  obtain ⟨t, rfl⟩ := ry
  obtain ⟨z, its, n, r, hl, e⟩ := I.lstM hH
  have hlen : its.toArray.size * k.toNat ≤ sizeLine := by rw [List.size_toArray, ← hl]; exact hz
  have hcap : ¬ its.toArray.size * k.toNat > (2 ^ 63 - 1) / 8 := by
    have : (sizeLine : Nat) ≤ (2 ^ 63 - 1) / 8 := by decide
    omega
  have hfit : ¬ (!Builtin.List.listFitsIndex k) = true := by
    rw [fitsIndex_both h1 h2]
    exact Bool.false_ne_true
  have hlong : ¬ Builtin.List.listTooLong (its.toArray.size * k.toNat) = true := by
    rw [notLongL hlen]
    exact Bool.false_ne_true
  have hnew : List.foldl (fun x1 x2 => x1 ++ x2) #[] (List.replicate (if its.toArray.isEmpty = true then 0 else k.toNat) its.toArray) = (List.replicate k.toNat its).flatten.toArray := by
    have f0 : ∀ m : Nat, List.foldl (fun x1 x2 => x1 ++ x2) #[] (List.replicate m its.toArray) = (List.replicate m its).flatten.toArray := fun m => by
      have := j5e its m []
      rw [List.nil_append] at this
      exact this
    rw [f0]
    cases its with
    | nil => simp
    | cons a r' => rw [if_neg (by simp)]
  refine wpAny_binaryOp_repeat_ref (T := "list") (U := "int") (by decide) ⟨_, e, rfl⟩ (fun s' => typeIs_int s' k t) noFill_list_mul F.fills_int_mul F.slot_int_rmul repeat_list F.slot_int_index.lookup
    (call_meets F.slot_int_rmul (typeIs_int s k t) F.entry_int_rmul (F.args_int_rmul_2 _ _) (int___rmul___int_list k t l its.toArray n)
      ⟨e, rfl, ⟨_, e, rfl⟩, call_meets F.slot_list_mul ⟨_, e, rfl⟩ F.entry_list_mul (F.args_list_mul_2 _ _) (AutoListH.list___mul___list_int_3 l its.toArray n k t hfit hcap hlong) ⟨e, ?_⟩⟩)
  rw [hnew]
  exact ⟨.ref _, _, I.lnew (t' := s.toks) (r.rep k.toNat) (by rw [len_rep, Nat.mul_comm]; exact hz), rfl, q _ I.fresh⟩
end
section
variable {prog : Program} {w : World} {A : Around} {E : Value → Shared → Prop} {s : Shared}
set_option maxRecDepth 100000 in
end
section
variable {X : Cx}
end
end L2
namespace Att
open PySem PySem.W PySem.Calls PyProof.Rows
theorem j3w {P : Params} {h : Heap} : ∀ (ns : List Int) (vs : List Value), WellAll P h vs (ns.map WData.int) → IntsAre vs ns := by
  intro ns
  induction ns with
  | nil =>
    intro vs w
    rw [List.map_nil] at w
    cases w
    exact .nil
  | cons n ns ih =>
    intro vs w
    rw [List.map_cons] at w
    cases w with
    | cons a b =>
      cases a
      exact .cons _ _ (ih _ b)
theorem j88 {l : OpenLaw} {n : Nat} (hn : l.most = some n) {P : Params} {h : Heap} {args : List WData} {vals : List Value}
    (hpre : l.row.toRowW.claim.pre args = true) (hwl : WellAll P h vals args) :
    ∃ a vs ns, vals = [Value.ref a] ∧ args = [WData.list (ns.map WData.int)] ∧ h.get? a = some { cls := .type "list", data := .seq vs.toArray } ∧ IntsAre vs ns ∧ ns.length ≤ n := by
  have hsh : WShape.hasAll [] args [.list .int] = true := (pre_splitW hpre).1
  have hc : l.pre.holds [] { args := args } = true := (pre_splitW hpre).2
  obtain ⟨d, r, rfl, h1, h2⟩ := hasAllW_cons hsh
  obtain rfl := hasAllW_nil h2
  obtain ⟨xs, rfl, h3⟩ := hasW_list h1
  obtain ⟨ns, rfl⟩ := items_int h3
  have hlen : ns.length ≤ n := by
    unfold OpenLaw.pre at hc
    have h4 : (WTm.not (.lt (.lit (.int (n : Int))) (.len (.arg 0)))).holds [] { args := [.list (ns.map .int)] } = true := by
      have h4 := (holds_andW hc).1
      rw [hn] at h4
      exact h4
    have h5 := condW_of h4 (w_not (w_lt w_lit (w_len_list (w_arg rfl))))
    rw [List.length_map] at h5
    refine Nat.le_of_not_lt fun q => ?_
    have q' : (n : Int) < ((ns.length : Nat) : Int) := by omega
    first
      | (rw [decide_eq_true q'] at h5; exact absurd h5 (by decide))
      | (simp at h5; omega)
  cases hwl with
  | cons w1 w2 =>
    cases w2
    cases w1 with
    | list ho hall => exact ⟨_, _, ns, rfl, rfl, ho, j3w ns _ hall, hlen⟩
theorem j89 (l : OpenLaw) (args : List WData) : l.row.toRowW.claim.post args (.bool true) args = true :=
  postW_of (r := l.row.toRowW) (X := (true == true))
    (show WShape.has [] (.bool true) .bool = true by first | rfl | decide | simp [WShape.has, WShape.arms, WShape.armsAll])
    (show (WTm.eq .res (.lit (.bool true))).value [] { args := args, res := some (.bool true), after := args } = some (.bool (true == true)) from w_eq_bool (w_res rfl) w_lit) rfl
theorem attach_call {l : OpenLaw} {n : Nat} {q : Program} {loose : List Str} {XP : (Str → Option Value) → Heap → Prop} {YP : World → Heap → Prop} {d : DefRec}
    (hn : l.most = some n) (hdf : d.params.defaults = [])
    (call : ∀ (w : World) (s₀ s₁ : Shared) (mg mb : Str → Option Value) (fa : Addr) (o : Obj) (pm cd doc : Value) (a : Addr) (vs : List Value) (ns : List Int),
      Ground q loose [] XP w s₀ mg mb s₁.heap → YP w s₁.heap →
      s₁.heap.get? fa = some o → o.data = .func (docDef d.name d.params d.body d.scope pm cd doc) → s₁.heap.CodeRec cd d.name → mg d.name = some (.ref fa) →
      s₁.heap.get? a = some { cls := .type "list", data := .seq vs.toArray } → IntsAre vs ns → ns.length ≤ n → s₁.gens = #[] →
      codeAny (model l.prog w) callerA (.call (.ref fa) ⟨[.ref a], []⟩) (fun r s' => r = .ok (.ret (.bool true)) ∧ OldK s₁.heap s'.heap ∧ s'.os = s₁.os ∧ AllBare s'.gens) s₁) :
    WalkO q loose XP YP l.row.toRowW d [] (fun f vs => PySem.call f vs) := by
  intro w s₀ s₁ mg mb G Y fa o pm cd doc dV kV ho hd hcd hD hmg hg args vals as hpre hlay hrd hwl hlo
  obtain rfl : dV = .none := Dflts.none hD hdf
  obtain rfl : kV = .none := Dflts.noKw hD
  obtain ⟨a, vs, ns, rfl, rfl, hobj, hints, hlen⟩ := j88 hn hpre hwl
  refine enter_call (codeAny_mono (call w s₀ s₁ mg mb fa o pm cd doc a vs ns G Y ho (fd_plain hd) hcd hmg hobj hints hlen hg) fun r s' hq => ?_)
  obtain ⟨rfl, h2, h3, h4⟩ := hq
  exact ⟨.inl ⟨.bool true, .bool true, [], rfl, fun _ => rfl, .bool true, j89 l _, fun _ => ⟨List.Pairwise.nil, fun _ hm => (nomatch hm)⟩⟩, h2, h3, h4⟩
section
variable {prog : Program} {w : World} {A : Around} {E : Value → Shared → Prop} {s : Shared} {K : Frag}
noncomputable def noObjs (h : Heap) : Heap := { h with objs := #[] }
noncomputable def ledger (h : Heap) (L d : Addr) : List (Addr × Obj) := (List.range h.objs.size).filterMap fun a => if a = L ∨ a = d then none else (h.get? a).map fun o => (a, o)
end
end Att
namespace L2
open PySem PySem.Spec PyProof.Rows
theorem j2o : ∀ {vs : List Value} {ns : List Int}, IntsAre vs ns → Vals (ns.map V.int) vs
  | _, _, .nil => .nil
  | _, _, .cons n t h => .cons ⟨t, rfl⟩ (j2o h)
noncomputable def Only (H : Hp) : Prop := ∀ b, H b = none ∨ ∃ o xs, H b = some (.frz o (.lst xs))
theorem law_call {P : Program} {w : World} {K : PySem.W.Frag} {mg mb : Str → Option Value} {CX : CXT} {k : Nat} {fa a : Addr} {fd : FuncData} {x : Str} {sp : Sp} {s₁ : Shared} {vs : List Value} {ns : List Int}
    (KX : K.In s₁.heap) (hns : s₁.heap.Ns mainGlobals mg) (hb : s₁.heap.Ns builtinsNs mb) (hbb : ∀ x : Str, x ≠ "__name__" → mb x = bootBuiltins x) (hlim : s₁.heap.NoLimit) (hg : s₁.gens = #[])
    (ha : s₁.heap.get? a = some { cls := .type "list", data := .seq vs.toArray }) (hi : IntsAre vs ns) (hl : ns.length ≤ sizeLine) (hr : Room k callerA)
    (F : ∀ base : Heap, K.In base → base.Ns mainGlobals mg → FnOk P w K mg base CX k fa fd [x] sp) (hbind : ∀ (s : Shared) (u : Value), BindsTo s fd ⟨[u], []⟩ [(x, u)])
    (hsp : ∀ H : Hp, Only H → SqL K H a (ns.map V.int) → sp [.ref a] H (fun v _ => v = .bl true) fun _ _ _ => False)
    (hCX : ∀ H e s', CX [] H s₁ (fun _ _ _ => False) e s' → False) :
    codeAny (model P w) callerA (.call (.ref fa) ⟨[.ref a], []⟩) (fun r s' => r = .ok (.ret (.bool true)) ∧ OldK s₁.heap s'.heap ∧ s'.os = s₁.os ∧ AllBare s'.gens) s₁ := by
  have rv := j2o hi
  have lenV := hi.length
  have core : ∀ H : Hp, Only H → SqL K H a (ns.map V.int) → HOk P w H s₁.heap → (∀ b, H b ≠ none → b = a) → (H a ≠ none → K.lookup a = none) →
      codeAny (model P w) callerA (.call (.ref fa) ⟨[.ref a], []⟩) (fun r s' => r = .ok (.ret (.bool true)) ∧ OldK s₁.heap s'.heap ∧ s'.os = s₁.os ∧ AllBare s'.gens) s₁ := by
    intro H hO hS hok hA hK
    have base_of : ∀ {b : Addr} {o : Obj}, s₁.heap.get? b = some o → H b = none → (hidT s₁.heap H).get? b = some o := fun e n => hidT_get e n
    have noA : ∀ {b : Addr} {o : Obj} {es : Array DictEntry} {ep : Nat}, s₁.heap.get? b = some o → o.data = .dict es ep → H b = none := fun {b o es ep} e d => by
      cases q : H b with
      | none => rfl
      | some u =>
        have e' : b = a := hA b (by rw [q]; simp)
        subst e'
        rw [ha] at e; cases e
        have d' : Data.seq vs.toArray _ = Data.dict es ep := d
        cases d'
    have nsK : ∀ {b : Addr} {m : Str → Option Value}, s₁.heap.Ns b m → (hidT s₁.heap H).Ns b m := fun {b m} ⟨o, es, ep, e, d, r⟩ => ⟨o, es, ep, base_of e (noA e d), d, r⟩
    have hKb : K.In (hidT s₁.heap H) := fun b o e => base_of (KX b o e) (by
      cases q : H b with
      | none => rfl
      | some u =>
        have e' : b = a := hA b (by rw [q]; simp)
        subst e'
        rw [hK (by rw [q]; simp)] at e; cases e)
    have hM : Mod K mg (hidT s₁.heap H) := ⟨hKb, nsK hns, ⟨mb, nsK hb, hbb⟩, let ⟨mc, h1, h2⟩ := hlim; ⟨mc, nsK h1, h2⟩⟩
    have e0 : Env0 P w K mg (hidT s₁.heap H) callerA [] s₁ H := ⟨rfl, hM, fun b o e => of_hidT e, Nat.le_of_eq (j7m _ _), trivial, fun b hb => absurd (show b ∈ ([] : List Addr) from hb) (by simp), hok, .of_eq hg⟩
    refine codeAny_mono ((F _ hKb (nsK hns)).run callerA [] s₁ H ⟨[.ref a], []⟩ [.ref a] [.ref a] _ _ hr e0 (hbind s₁ (.ref a)) (.cons rfl .nil) (hsp H hO hS)) fun r s' h => ?_
    cases r with
    | error e => exact (hCX H e s' h).elim
    | ok fl =>
      cases fl with
      | next => exact False.elim h
      | brk => exact False.elim h
      | cont => exact False.elim h
      | ret u =>
        obtain ⟨v, H', os, bare, un, hok', r', q⟩ := h
        have q' : v = .bl true := q
        subst q'
        obtain rfl : u = Value.bool true := r'
        refine ⟨rfl, OldK.of_keep fun b o e => ?_, os, bare⟩
        cases q : H b with
        | none => exact un.keep b o e q (by intro z; exact absurd (show b ∈ ([] : List Addr) from z) (by simp)) (by simp)
        | some u =>
          rcases hO b with z | ⟨ob, xs, z⟩
          · rw [q] at z; cases z
          · have z2 := un.frzs b ob _ z
            obtain ⟨e1, _⟩ := hok b _ z
            obtain ⟨e2, _⟩ := hok' b _ z2
            rw [e] at e1; cases e1
            exact e2
  cases hk : K.lookup a with
  | some o =>
    have e := KX a o hk
    rw [ha] at e
    cases e
    refine core (fun _ => none) (fun _ => .inl rfl) (.inr ⟨_, vs.toArray, _, hk, rfl, rfl, rfl, by rw [List.size_toArray, lenV]; exact hl, by simpa using rv⟩) (fun b u z => by have z' : (none : Option HO) = some u := z; cases z') (fun b z => absurd rfl z) fun z => absurd rfl z
  | none =>
    refine core (fun b => if b = a then some (.frz { cls := .type "list", data := .seq vs.toArray } (.lst (ns.map V.int))) else none) (fun b => ?_) (.inl (.inr ⟨{ cls := .type "list", data := .seq vs.toArray }, if_pos rfl⟩)) (fun b u z => ?_) (fun b z => ?_) fun _ => hk
    · by_cases hb : b = a
      · exact .inr ⟨_, _, if_pos hb⟩
      · exact .inl (if_neg hb)
    · by_cases hb : b = a
      · have z' := (if_pos hb).symm.trans z
        cases z'
        subst hb
        exact ⟨ha, by rw [List.length_map]; exact hl, vs, _, rv, ha⟩
      · have z' := (if_neg hb).symm.trans z
        cases z'
    · by_cases hb : b = a
      · exact hb
      · exact absurd (if_neg hb) z
end L2
namespace L2
open PySem PySem.Spec PyProof.Rows
abbrev KOf {K : PySem.W.Frag} {h : Heap} (_ : K.In h) : PySem.W.Frag := K
theorem j8a {l : PySem.W.OpenLaw} {n k : Nat} {q : Program} {loose : List Str} {XP : (Str → Option Value) → Heap → Prop} {YP : World → Heap → Prop} {d : DefRec} {K : Params → PySem.W.Frag} {CX : World → CXT} {sp : World → Sp} {x : Str}
    (hn : l.most = some n) (hn2 : n ≤ sizeLine) (hdf : d.params.defaults = []) (hr : Room k callerA)
    (hY : ∀ (w : World) (h : Heap), YP w h → (K w.params).In h)
    (F : ∀ (w : World) (mg : Str → Option Value) (fa : Addr) (h : Heap), (K w.params).In h → h.Ns mainGlobals mg → mg d.name = some (.ref fa) →
      ∃ fd : FuncData, (∀ (s : Shared) (u : Value), BindsTo s fd ⟨[u], []⟩ [(x, u)]) ∧
        ∀ base : Heap, (K w.params).In base → base.Ns mainGlobals mg → FnOk l.prog w (K w.params) mg base (CX w) k fa fd [x] (sp w))
    (hsp : ∀ (w : World) (H : Hp) (a : Addr) (ns : List Int), ns.length ≤ n → Only H → SqL (K w.params) H a (ns.map V.int) → sp w [.ref a] H (fun v _ => v = .bl true) fun _ _ _ => False)
    (hCX : ∀ (w : World) (H : Hp) (s : Shared) (e : Value) (s' : Shared), CX w [] H s (fun _ _ _ => False) e s' → False) :
    PySem.W.WalkO q loose XP YP l.row.toRowW d [] (fun f vs => PySem.call f vs) := by
  refine Att.attach_call hn hdf fun w s₀ s₁ mg mb fa o pm cd doc a vs ns G Y ho hd hcd hmg hobj hints hlen hg => ?_
  have KX := hY w _ Y
  obtain ⟨fd, hb, hF⟩ := F w mg fa _ KX G.T.g hmg
  exact law_call KX G.T.g G.T.b G.T.builtins G.T.nolimit hg hobj hints (Nat.le_trans hlen hn2) hr hF hb (fun H hO hS => hsp w H a ns hlen hO hS) fun H e s' => hCX w H s₁ e s'
end L2
/- THE LAST THEOREM (shape; LID, My.* are yours):
   My.Adr: a structure of the addresses that your layer names (classes, functions); My.Txt K t: a structure (Prop) of the equations over K;
   My.txt_mk : {K} {implicit addresses ..} (e1 : nsIn K mainGlobals "law" = some (some (.ref f))) (e2 : K.lookup f = some ⟨oc, od, .func (fnOf "law" "law" params body scope dV kV doc pm an cdv ct), sl⟩) (e3 : codeIn K cdv "law" = true) .. : ∃ t, My.Txt K t
set_option maxRecDepth 100000 in
set_option maxHeartbeats 0 in
theorem PySem.Challenge.cw_LID_holds : PySem.Challenge.rw_LID.Holds := by
  w_on; o_law; k_head; (case hw => w_witness2)
  k_fill
  refine L2.j8a (l := PySem.Challenge.rw_LID) (n := 63) (k := 40) (x := "script") (CX := fun w => ..) (sp := fun _ => My.sp_law) rfl (by decide) rfl ⟨rfl, by decide, by decide⟩ (fun w h Y => PySem.W.kIn_of Y) ?F ?S ?C
  case F =>
    intro w mg fa h KX G hmg
    have T : ∃ t, My.Txt (L2.KOf KX) t := by
      dsimp only [L2.KOf]                          -- K must stand as «<heap const> w.params» for k_is
      refine' My.txt_mk ?e1 ?e2 ?e3 ..
      (case e1 => PySem.W.k_is)                    -- in the order: a name -> its address -> its object -> its parts
      (case e2 => PySem.W.k_is)
      ..
    obtain ⟨t, T⟩ := T
    have e0 := hmg.symm.trans (PySem.W.mg_of KX G T.law)
    cases e0                                       -- fa is the law's own address
    exact ⟨_, fun s u => .of_eq rfl, fun base kb nb => My.law_fn T kb nb⟩     -- if «.of_eq rfl» comes too early: refine' ⟨_, ?b, fun base kb nb => My.law_fn T kb nb⟩; exact fun s u => .of_eq rfl
  case S => exact fun w H a ns hl hO hS => ..
  case C => exact ..
(the tactic k_is has no namespace: write k_is) -/
namespace L2
open PySem PySem.Spec PyProof.Rows
noncomputable def inClass (s : Stmt) (j : Nat) : Stmt := match s with
  | .ClassDef _ _ _ body _ _ _ _ _ _ _ => body.getD j (.Pass ⟨0, 0, 0, 0⟩)
  | _ => .Pass ⟨0, 0, 0, 0⟩
noncomputable def j2j (s : Stmt) : Arguments := match s with
  | .FunctionDef _ a _ _ _ _ _ _ _ _ => a
  | _ => { posonlyargs := [], args := [], vararg := none, kwonlyargs := [], kw_defaults := [], kwarg := none, defaults := [] }
noncomputable def j1o (s : Stmt) : List Stmt := match s with
  | .FunctionDef _ _ b _ _ _ _ _ _ _ => b
  | _ => []
noncomputable def j08 (s : Stmt) : Scope := match s with
  | .FunctionDef _ _ _ _ _ _ sc _ _ _ => sc
  | _ => { kind := .function, names := [], isGenerator := false, isCoroutine := false }
abbrev CX0 : CXT := fun _ _ _ _ _ _ => False
abbrev E0 : XK := fun _ _ _ => False
theorem pass0 {X : Cx} : j3b CX0 X E0 := fun _ _ _ _ _ _ _ h => h.elim
structure Fun (K : PySem.W.Frag) (x qual : Str) (st : Stmt) (f : Addr) (fd : FuncData) : Prop where
  ex : ∃ (oc : Value) (od : Option Addr) (kV doc pm : Value) (an : Option Addr) (cdv ct : Value) (osl : Array (Option Value)),
    fd = PySem.W.fnOf x qual (j2j st) (j1o st) (j08 st) .none kV doc pm an cdv ct ∧ K.lookup f = some ⟨oc, od, .func fd, osl⟩ ∧ PySem.W.codeIn K cdv qual = true
  kp : PySem.W.keepIn K (.ref f) = true
section
variable {P : Program} {w : World} {K : PySem.W.Frag} {mg : Str → Option Value} {base : Heap}
theorem Fun.ok {x qual : Str} {st : Stmt} {f : Addr} {fd : FuncData} {N ps : List Str} {k : Nat} {sp : Sp} (F : Fun K x qual st f fd) (S : FnScope N ps (j08 st)) (len : ∀ vs H Q E, sp vs H Q E → vs.length = ps.length)
    (hbody : ∀ (cdv : Value) (A : Around) (outer : List Env) (s : Shared) (H : Hp) (vs : List V) (Q : VK) (E : XK), Room k (A.deeper (envOfC qual (j08 st) s.heap.objs.size f cdv)) → sp vs H Q E →
      ∃ t, PSs (cxOf CX0 P w K mg base N qual (j08 st) f cdv A outer s H E).nox (j1o st) t ∧ t { nx := fun _ H' => Q .non H', rt := Q } (j25 N vs) H) : FnOk P w K mg base CX0 (k + 1) f fd ps sp := by
  obtain ⟨oc, od, kV, doc, pm, an, cdv, ct, osl, rfl, lk, hcd⟩ := F.ex
  refine fn_of lk hcd S len fun A outer s H vs Q E hr hsp => ?_
  obtain ⟨t, h, q⟩ := hbody cdv A outer s H vs Q E hr hsp
  exact ⟨t, h.nox, q⟩
theorem Fun.binds {x qual : Str} {st : Stmt} {f : Addr} {fd : FuncData} {ps : List Str} (F : Fun K x qual st f fd)
    (h : ∀ (kV doc pm : Value) (an : Option Addr) (cdv ct : Value) (us : List Value), us.length = ps.length → bindArgs (PySem.W.fnOf x qual (j2j st) (j1o st) (j08 st) .none kV doc pm an cdv ct) ⟨us, []⟩ = pure (ps.zip us)) : j3i K fd ps [] := by
  obtain ⟨oc, od, kV, doc, pm, an, cdv, ct, osl, rfl, lk, hcd⟩ := F.ex
  exact .all (h kV doc pm an cdv ct)
theorem fun_mk {x qual : Str} {st : Stmt} {f : Addr} {oc : Value} {od an : Option Addr} {osl : Array (Option Value)} {kV doc pm cdv ct : Value} (l : K.lookup f = some ⟨oc, od, .func (PySem.W.fnOf x qual (j2j st) (j1o st) (j08 st) .none kV doc pm an cdv ct), osl⟩)
    (c : PySem.W.codeIn K cdv qual = true) (k : PySem.W.keepIn K (.ref f) = true) : Fun K x qual st f (PySem.W.fnOf x qual (j2j st) (j1o st) (j08 st) .none kV doc pm an cdv ct) := ⟨⟨oc, od, kV, doc, pm, an, cdv, ct, osl, rfl, l, c⟩, k⟩
end
theorem j1l {n : Nat} (h : n ≤ 1000) : n < sizeLine := Nat.lt_of_le_of_lt h (by decide)
section
variable {X : Cx}
theorem pv (i : Nat) {x : Str} {pos : Pos} (hN : X.N[i]? = some x := by rfl) (hv : Vis X.env.scope x := by first | exact Or.inl rfl | exact Or.inr (Or.inl rfl) | exact Or.inr (Or.inr rfl)) (hd : (x == ("__debug__" : Str)) = false := by decide)
    (hcd : (x == ("__classdict__" : Str)) = false := by decide) : PE X (.Name x pos) (tVar i) := pe_var hN hv hd hcd
end
theorem iteF {A B : Prop} (h : B) : if false = true then A else B := by
  rw [if_neg Bool.false_ne_true]
  exact h
theorem iteT {A B : Prop} (h : A) : if true = true then A else B := by
  rw [if_pos rfl]
  exact h
theorem ite2 {c A B : Prop} [Decidable c] (h1 : c → A) (h2 : ¬ c → B) : if c then A else B := by
  by_cases h : c
  · rw [if_pos h]
    exact h1 h
  · rw [if_neg h]
    exact h2 h
noncomputable def Same (H H' : Hp) : Prop := ∀ b o, H b = some o → H' b = some o
theorem Same.trans {H H1 H2 : Hp} (a : Same H H1) (b : Same H1 H2) : Same H H2 := fun c o h => b c o (a c o h)
theorem Same.free {H H' : Hp} (e : Same H H') {l : Addr} (h : H' l = Option.none) : H l = Option.none := by
  cases q : H l with
  | none => rfl
  | some o =>
    rw [e l o q] at h
    cases h
theorem Same.seq {K : PySem.W.Frag} {H H' : Hp} {a : Addr} {xs : List V} (e : Same H H') (h : SqL K H a xs) : SqL K H' a xs := by
  rcases h with (h | ⟨o, h⟩) | h
  · exact .inl (.inl (e _ _ h))
  · exact .inl (.inr ⟨o, e _ _ h⟩)
  · exact .inr h
end L2
end
noncomputable section
namespace Srt
open PySem PyProof.Rows
noncomputable def IntKey (p : Keyed) : Prop := ∃ n t, p.1 = .int n t
section
variable {prog : Program} {w : World} {A : Around} {E : Value → Shared → Prop} {s : Shared}
theorem j5f {st : SortSt} {p q : Keyed} {Q : Option Bool → SortSt → Prop} (hk : kindOf st = oneType') (hp : IntKey p) (hq : IntKey q)
    (h : Q (some (decide (numOf p.1 < numOf q.1))) st) : wpS (model prog w) A E s (lt' p q) Q st := by
  obtain ⟨n, t, hn⟩ := hp
  obtain ⟨m, u, hm⟩ := hq
  rw [lt'_eq, hn, hm]
  rw [hn, hm] at h
  refine wpS_bind (wpS_get ?_)
  rw [hk, keyLt'_oneType]
  exact wpS_bind (wpS_lift (wpAny_attempt (oneLt_int ⟨rfl, wpS_pure h⟩)))
theorem j0j {st : SortSt} {arr : Array Keyed} {i : Nat} {p : Keyed} {Q : Keyed → SortSt → Prop} (h : arr[i]? = some p) (hq : Q p st) :
    wpS (model prog w) A E s (elem' arr i) Q st := by
  rw [elem'_eq, h]
  exact wpS_pure hq
noncomputable def bins (bey : Nat → StateT SortSt Sem (Option Bool)) (n lo₀ hi₀ : Nat) : StateT SortSt Sem (Option Nat) := do
  let mut lo := lo₀
  let mut hi := hi₀
  for _ in [0:n] do
    if lo ≥ hi then break
    let m := lo + (hi - lo) / 2
    let some more ← bey m | return none
    if more then lo := m + 1 else hi := m
  return some hi
noncomputable def gal (bey : Nat → StateT SortSt Sem (Option Bool)) (n hint : Nat) : StateT SortSt Sem (Option Nat) := do
  let mut last := 0
  let mut ofs := 1
  let mut lo := 0
  let mut hi := 0
  let some right ← bey hint | return none
  if right then
    let most := n - hint
    for _ in [0:n] do
      if ofs ≥ most then break
      let some more ← bey (hint + ofs) | return none
      if !more then break
      last := ofs
      ofs := 2 * ofs + 1
    lo := hint + last + 1
    hi := hint + min ofs most
  else
    let most := hint + 1
    for _ in [0:n] do
      if ofs ≥ most then break
      let some found ← bey (hint - ofs) | return none
      if found then break
      last := ofs
      ofs := 2 * ofs + 1
    lo := hint + 1 - min ofs most
    hi := hint - last
  bins bey n lo hi
noncomputable def j1b : Bool → Keyed → Array Keyed → Nat → Nat → Nat → StateT SortSt Sem (Option Nat) := sortPriv% PySem.Builtin.gallop
theorem j70 (left : Bool) (key : Keyed) (arr : Array Keyed) (base n hint : Nat) :
    j1b left key arr base n hint = gal (fun i => do
      let x ← elem' arr (base + i)
      if left then lt' x key else return (← lt' key x).map (!·)) n hint := rfl
theorem wpS_gal {bey : Nat → StateT SortSt Sem (Option Bool)} {f : Nat → Bool} {n hint : Nat} {st : SortSt} {Q : Option Nat → SortSt → Prop}
    (hb : ∀ i, i < n → ∀ Q : Option Bool → SortSt → Prop, Q (some (f i)) st → wpS (model prog w) A E s (bey i) Q st)
    (hm : ∀ i j, i ≤ j → j < n → f j = true → f i = true) (hh : hint < n)
    (h : ∀ k, k ≤ n → (∀ i, i < k → f i = true) → (∀ i, k ≤ i → i < n → f i = false) → Q (some k) st) :
    wpS (model prog w) A E s (gal bey n hint) Q st := by
  have hm' : ∀ i j, i ≤ j → j < n → f i = false → f j = false := fun i j hij hj hf => by
    cases e : f j with
    | false => rfl
    | true => rw [hm i j hij hj e] at hf; cases hf
  have bin : ∀ lo hi last ofs : Nat, lo ≤ hi → hi ≤ n → (∀ i, i < lo → f i = true) → (∀ i, hi ≤ i → i < n → f i = false) →
      wpS (model prog w) A E s (bins bey n lo hi) Q st := by
    intro lo hi last ofs h1 h2 h3 h4
    unfold bins
    dsimp only
    refine wpS_bind (wpS_mono (wpS_forRange (I := fun x c st' => st' = st ∧ ∃ l r, c = (none, l, r) ∧ l ≤ r ∧ r ≤ n ∧ r - l ≤ n - x ∧ (∀ i, i < l → f i = true) ∧ (∀ i, r ≤ i → i < n → f i = false))
      (Q := fun c st' => st' = st ∧ ∃ k, c = (none, k, k) ∧ k ≤ n ∧ (∀ i, i < k → f i = true) ∧ (∀ i, k ≤ i → i < n → f i = false)) ?step ?fin ⟨rfl, lo, hi, rfl, h1, h2, by omega, h3, h4⟩) ?post)
    case post =>
      rintro c st' ⟨rfl, k, rfl, k1, k2, k3⟩
      exact wpS_pure (h k k1 k2 k3)
    case fin =>
      rintro c st' ⟨rfl, l, r, rfl, a1, a2, a3, a4, a5⟩
      have : l = r := by omega
      subst this
      exact ⟨rfl, l, rfl, a2, a4, a5⟩
    case step =>
      rintro x c st' _ hx ⟨rfl, l, r, rfl, a1, a2, a3, a4, a5⟩
      dsimp only
      by_cases hge : l ≥ r
      · rw [if_pos hge]
        have : l = r := by omega
        subst this
        exact wpS_pure ⟨rfl, l, rfl, a2, a4, a5⟩
      · rw [if_neg hge]
        refine wpS_bind (hb _ (by omega) _ ?_)
        dsimp only
        cases e : f (l + (r - l) / 2) with
        | true =>
          rw [if_pos rfl]
          exact wpS_pure ⟨rfl, _, _, rfl, by omega, a2, by omega, fun i hi => hm i (l + (r - l) / 2) (by omega) (by omega) e, a5⟩
        | false =>
          rw [if_neg (by simp)]
          exact wpS_pure ⟨rfl, _, _, rfl, by omega, by omega, by omega, a4, fun i hi hn => hm' (l + (r - l) / 2) i (by omega) hn e⟩
  unfold gal
  refine wpS_bind (hb hint hh _ ?_)
  dsimp only
  cases e : f hint with
  | true =>
    rw [if_pos rfl]
    refine wpS_bind (wpS_mono (wpS_forRange (I := fun x c st' => st' = st ∧ ∃ l o, c = (none, l, o) ∧ l < o ∧ x < o ∧ l < n - hint ∧ f (hint + l) = true)
      (Q := fun c st' => st' = st ∧ ∃ l o, c = (none, l, o) ∧ l < o ∧ l < n - hint ∧ f (hint + l) = true ∧ (n - hint ≤ o ∨ f (hint + o) = false)) ?step ?fin ⟨rfl, 0, 1, rfl, by omega, by omega, by omega, e⟩) ?post)
    case fin =>
      rintro c st' ⟨rfl, l, o, rfl, a1, a2, a3, a4⟩
      exact ⟨rfl, l, o, rfl, a1, a3, a4, .inl (by omega)⟩
    case step =>
      rintro x c st' _ hx ⟨rfl, l, o, rfl, a1, a2, a3, a4⟩
      dsimp only
      by_cases hge : o ≥ n - hint
      · rw [if_pos hge]
        exact wpS_pure ⟨rfl, l, o, rfl, a1, a3, a4, .inl hge⟩
      · rw [if_neg hge]
        refine wpS_bind (hb _ (by omega) _ ?_)
        dsimp only
        cases e2 : f (hint + o) with
        | true =>
          simp only [Bool.not_true, Bool.false_eq_true, if_false]
          exact wpS_pure ⟨rfl, o, 2 * o + 1, rfl, by omega, by omega, by omega, e2⟩
        | false =>
          simp only [Bool.not_false, if_true]
          exact wpS_pure ⟨rfl, l, o, rfl, a1, a3, a4, .inr e2⟩
    case post =>
      rintro c st' ⟨rfl, l, o, rfl, a1, a2, a3, a4⟩
      dsimp only
      refine bin (hint + l + 1) (hint + min o (n - hint)) l o (by omega) (by omega) (fun i hi => hm i (hint + l) (by omega) (by omega) a3) (fun i hi hn => ?_)
      rcases a4 with a4 | a4
      · omega
      · by_cases ho : o ≤ n - hint
        · exact hm' (hint + o) i (by omega) hn a4
        · omega
  | false =>
    rw [if_neg (by simp)]
    refine wpS_bind (wpS_mono (wpS_forRange (I := fun x c st' => st' = st ∧ ∃ l o, c = (none, l, o) ∧ l < o ∧ x < o ∧ l ≤ hint ∧ f (hint - l) = false)
      (Q := fun c st' => st' = st ∧ ∃ l o, c = (none, l, o) ∧ l < o ∧ l ≤ hint ∧ f (hint - l) = false ∧ (hint + 1 ≤ o ∨ f (hint - o) = true)) ?step ?fin ⟨rfl, 0, 1, rfl, by omega, by omega, by omega, e⟩) ?post)
    case fin =>
      rintro c st' ⟨rfl, l, o, rfl, a1, a2, a3, a4⟩
      exact ⟨rfl, l, o, rfl, a1, a3, a4, .inl (by omega)⟩
    case step =>
      rintro x c st' _ hx ⟨rfl, l, o, rfl, a1, a2, a3, a4⟩
      dsimp only
      by_cases hge : o ≥ hint + 1
      · rw [if_pos hge]
        exact wpS_pure ⟨rfl, l, o, rfl, a1, a3, a4, .inl hge⟩
      · rw [if_neg hge]
        refine wpS_bind (hb _ (by omega) _ ?_)
        dsimp only
        cases e2 : f (hint - o) with
        | true =>
          rw [if_pos rfl]
          exact wpS_pure ⟨rfl, l, o, rfl, a1, a3, a4, .inr e2⟩
        | false =>
          rw [if_neg (by simp)]
          exact wpS_pure ⟨rfl, o, 2 * o + 1, rfl, by omega, by omega, by omega, e2⟩
    case post =>
      rintro c st' ⟨rfl, l, o, rfl, a1, a2, a3, a4⟩
      dsimp only
      refine bin (hint + 1 - min o (hint + 1)) (hint - l) l o (by omega) (by omega) (fun i hi => ?_) (fun i hi hn => hm' (hint - l) i (by omega) hn a3)
      rcases a4 with a4 | a4
      · omega
      · by_cases ho : o ≤ hint
        · exact hm i (hint - o) (by omega) (by omega) a4
        · omega
end
end Srt
end
noncomputable section
namespace Srt
open PySem PyProof.Rows
abbrev kn (p : Keyed) : Int := numOf p.1
abbrev Up (l : List Keyed) : Prop := l.Pairwise fun x y => kn x ≤ kn y
structure MI (A B O : List Keyed) (i j : Nat) : Prop where
  perm : O.Perm (A.take i ++ B.take j)
  up : Up O
  loA : ∀ x ∈ O, ∀ y ∈ A.drop i, kn x ≤ kn y
  loB : ∀ x ∈ O, ∀ y ∈ B.drop j, kn x ≤ kn y
theorem MI.swap {A B O : List Keyed} {i j : Nat} (m : MI A B O i j) : MI B A O j i := ⟨m.perm.trans List.perm_append_comm, m.up, m.loB, m.loA⟩
theorem Up.drop {l : List Keyed} (h : Up l) (i : Nat) : Up (l.drop i) := h.sublist (List.drop_sublist i l)
theorem Up.take {l : List Keyed} (h : Up l) (i : Nat) : Up (l.take i) := h.sublist (List.take_sublist i l)
theorem Up.app {l r : List Keyed} (h : Up l) (h' : Up r) (c : ∀ x ∈ l, ∀ y ∈ r, kn x ≤ kn y) : Up (l ++ r) := List.pairwise_append.mpr ⟨h, h', c⟩
theorem Up.parts {l : List Keyed} (h : Up l) (k : Nat) : ∀ x ∈ l.take k, ∀ y ∈ l.drop k, kn x ≤ kn y := by
  have e : l = l.take k ++ l.drop k := (List.take_append_drop k l).symm
  rw [e] at h
  exact (List.pairwise_append.mp h).2.2
theorem MI.chunk {A B O : List Keyed} {i j : Nat} (m : MI A B O i j) (hA : Up A) (k : Nat) (hk : i + k ≤ A.length) (c : ∀ x ∈ (A.drop i).take k, ∀ y ∈ B.drop j, kn x ≤ kn y) : MI A B (O ++ (A.drop i).take k) (i + k) j where
  perm := by
    have e : A.take (i + k) = A.take i ++ (A.drop i).take k := by rw [List.take_add]
    rw [e]
    refine (m.perm.append_right _).trans ?_
    rw [List.append_assoc, List.append_assoc]
    exact List.Perm.append_left _ List.perm_append_comm
  up := m.up.app ((hA.drop i).take k) fun x hx y hy => m.loA x hx y (List.mem_of_mem_take hy)
  loA := fun x hx y hy => by
    have hy' : y ∈ (A.drop i).drop k := by rw [List.drop_drop]; exact hy
    rcases List.mem_append.mp hx with h | h
    · exact m.loA x h y (List.mem_of_mem_drop hy')
    · exact (hA.drop i).parts k x h y hy'
  loB := fun x hx y hy => by
    rcases List.mem_append.mp hx with h | h
    · exact m.loB x h y hy
    · exact c x h y hy
theorem MI.chunkB {A B O : List Keyed} {i j : Nat} (m : MI A B O i j) (hB : Up B) (k : Nat) (hk : j + k ≤ B.length) (c : ∀ x ∈ (B.drop j).take k, ∀ y ∈ A.drop i, kn x ≤ kn y) : MI A B (O ++ (B.drop j).take k) i (j + k) :=
  (m.swap.chunk hB k hk c).swap
theorem j8b {l : List Keyed} {i : Nat} {p : Keyed} (h : l[i]? = some p) : (l.drop i).take 1 = [p] := by
  have hi : i < l.length := (List.getElem?_eq_some_iff.mp h).1
  rw [List.drop_eq_getElem_cons hi]
  have := (List.getElem?_eq_some_iff.mp h).2
  simp [this]
theorem MI.one {A B O : List Keyed} {i j : Nat} {p : Keyed} (m : MI A B O i j) (hA : Up A) (h : A[i]? = some p) (c : ∀ y ∈ B.drop j, kn p ≤ kn y) : MI A B (O ++ [p]) (i + 1) j := by
  have hi : i < A.length := (List.getElem?_eq_some_iff.mp h).1
  have z := m.chunk hA 1 hi (by rw [j8b h]; intro x hx y hy; rw [List.mem_singleton.mp hx]; exact c y hy)
  rw [j8b h] at z
  exact z
theorem MI.oneB {A B O : List Keyed} {i j : Nat} {p : Keyed} (m : MI A B O i j) (hB : Up B) (h : B[j]? = some p) (c : ∀ y ∈ A.drop i, kn p ≤ kn y) : MI A B (O ++ [p]) i (j + 1) := (m.swap.one hB h c).swap
theorem Up.head {l : List Keyed} (h : Up l) {i : Nat} {p : Keyed} (e : l[i]? = some p) : ∀ y ∈ l.drop i, kn p ≤ kn y := by
  have hi : i < l.length := (List.getElem?_eq_some_iff.mp e).1
  have e2 := (List.getElem?_eq_some_iff.mp e).2
  have h' := h.drop i
  rw [List.drop_eq_getElem_cons hi, e2] at h'
  intro y hy
  rw [List.drop_eq_getElem_cons hi, e2] at hy
  rcases List.mem_cons.mp hy with rfl | hy
  · exact Int.le_refl _
  · exact (List.pairwise_cons.mp h').1 y hy
noncomputable def Res (A B R : List Keyed) : Prop := R.Perm (A ++ B) ∧ Up R
theorem MI.all {A B O : List Keyed} {i j : Nat} (m : MI A B O i j) : (O ++ (A.drop i ++ B.drop j)).Perm (A ++ B) := by
  refine (m.perm.append_right _).trans ?_
  have e : A ++ B = (A.take i ++ A.drop i) ++ (B.take j ++ B.drop j) := by rw [List.take_append_drop, List.take_append_drop]
  rw [e, List.append_assoc, List.append_assoc]
  refine List.Perm.append_left _ ?_
  rw [← List.append_assoc, ← List.append_assoc]
  exact List.Perm.append_right _ List.perm_append_comm
theorem MI.fin {A B O : List Keyed} {i j : Nat} (m : MI A B O i j) (hA : Up A) (hB : Up B) (h : A.length ≤ i ∨ B.length ≤ j) : Res A B (O ++ A.drop i ++ B.drop j) := by
  refine ⟨by rw [List.append_assoc]; exact m.all, ?_⟩
  refine (m.up.app (hA.drop i) m.loA).app (hB.drop j) fun x hx y hy => ?_
  rcases List.mem_append.mp hx with hx | hx
  · exact m.loB x hx y hy
  · rcases h with h | h
    · rw [List.drop_eq_nil_of_le h] at hx; cases hx
    · rw [List.drop_eq_nil_of_le h] at hy; cases hy
theorem MI.las {A B O : List Keyed} {i j : Nat} (m : MI A B O i j) (hA : Up A) (hB : Up B) (c : ∀ x ∈ B, ∀ y ∈ A.drop i, kn x ≤ kn y) : Res A B (O ++ B.drop j ++ A.drop i) := by
  refine ⟨?_, ?_⟩
  · rw [List.append_assoc]
    exact (List.Perm.append_left _ List.perm_append_comm).trans m.all
  · refine (m.up.app (hB.drop j) m.loB).app (hA.drop i) fun x hx y hy => ?_
    rcases List.mem_append.mp hx with hx | hx
    · exact m.loA x hx y hy
    · exact c x (List.mem_of_mem_drop hx) y hy
noncomputable def Like (st st' : SortSt) : Prop := kindOf st' = kindOf st ∧ arrOf st' = arrOf st ∧ pendingOf st' = pendingOf st ∧ failedOf st' = failedOf st
theorem Like.refl (st : SortSt) : Like st st := ⟨rfl, rfl, rfl, rfl⟩
noncomputable def j1w : Nat → StateT SortSt Sem Unit := sortPriv% PySem.Builtin.setMinGallop
theorem j2c (g : Nat) : j1w g = modify fun st => SortSt.mk' (kindOf st) (arrOf st) (pendingOf st) g (failedOf st) := rfl
abbrev LoSt := Option (Array Keyed) × Array Keyed × Nat × Nat × Nat × Nat × Nat
noncomputable def fiA (a b o : Array Keyed) (x y : Nat) : Array Keyed := o ++ a.extract x a.size ++ b.extract y b.size
noncomputable def laA (a b o : Array Keyed) (x y : Nat) : Array Keyed := o ++ b.extract y b.size ++ a.extract x a.size
noncomputable def lo0 (a b : Array Keyed) (g : Nat) (c : Option (Array Keyed) × Array Keyed × Nat × Nat × Nat × Nat) : StateT SortSt Sem (ForInStep (Option (Array Keyed) × Array Keyed × Nat × Nat × Nat × Nat)) := do
  let q ← elem' b c.2.2.2.1
  let p ← elem' a c.2.2.1
  let some t ← lt' q p | pure (.done (some (fiA a b c.2.1 c.2.2.1 c.2.2.2.1), c.2.1, c.2.2.1, c.2.2.2.1, c.2.2.2.2.1, c.2.2.2.2.2))
  if t then
    let q ← elem' b c.2.2.2.1
    if c.2.2.2.1 + 1 == b.size then pure (.done (some (fiA a b (c.2.1.push q) c.2.2.1 (c.2.2.2.1 + 1)), c.2.1.push q, c.2.2.1, c.2.2.2.1 + 1, 0, c.2.2.2.2.2 + 1))
    else if c.2.2.2.2.2 + 1 ≥ g then pure (.done (none, c.2.1.push q, c.2.2.1, c.2.2.2.1 + 1, 0, c.2.2.2.2.2 + 1))
    else pure (.yield (none, c.2.1.push q, c.2.2.1, c.2.2.2.1 + 1, 0, c.2.2.2.2.2 + 1))
  else
    let p ← elem' a c.2.2.1
    if c.2.2.1 + 1 + 1 == a.size then pure (.done (some (laA a b (c.2.1.push p) (c.2.2.1 + 1) c.2.2.2.1), c.2.1.push p, c.2.2.1 + 1, c.2.2.2.1, c.2.2.2.2.1 + 1, 0))
    else if c.2.2.2.2.1 + 1 ≥ g then pure (.done (none, c.2.1.push p, c.2.2.1 + 1, c.2.2.2.1, c.2.2.2.2.1 + 1, 0))
    else pure (.yield (none, c.2.1.push p, c.2.2.1 + 1, c.2.2.2.1, c.2.2.2.2.1 + 1, 0))
noncomputable def lo4 (a b o : Array Keyed) (i j g m n : Nat) : StateT SortSt Sem (ForInStep LoSt) := do
  let p ← elem' a i
  if i + 1 + 1 == a.size then pure (.done (some (laA a b (o.push p) (i + 1) j), o.push p, i + 1, j, g, m, n))
  else if (m < 7 && n < 7) = true then pure (.done (none, o.push p, i + 1, j, g, m, n))
  else pure (.yield (none, o.push p, i + 1, j, g, m, n))
noncomputable def lo3 (a b o : Array Keyed) (i j g m n : Nat) : StateT SortSt Sem (ForInStep LoSt) := do
  let p ← elem' a i
  let some k ← j1b true p b j (b.size - j) 0 | pure (.done (some (fiA a b o i j), o, i, j, g, m, n))
  if k > 0 then
    if j + k == b.size then pure (.done (some (fiA a b (o ++ b.extract j (j + k)) i (j + k)), o ++ b.extract j (j + k), i, j + k, g, m, k))
    else lo4 a b (o ++ b.extract j (j + k)) i (j + k) g m k
  else lo4 a b o i j g m k
noncomputable def lo2 (a b o : Array Keyed) (i j g m n : Nat) : StateT SortSt Sem (ForInStep LoSt) := do
  let q ← elem' b j
  if j + 1 == b.size then pure (.done (some (fiA a b (o.push q) i (j + 1)), o.push q, i, j + 1, g, m, n))
  else lo3 a b (o.push q) i (j + 1) g m n
noncomputable def lo1 (a b o : Array Keyed) (i j g m n : Nat) : StateT SortSt Sem (ForInStep LoSt) := do
  j1w g
  let q ← elem' b j
  let some k ← j1b false q a i (a.size - i) 0 | pure (.done (some (fiA a b o i j), o, i, j, g, m, n))
  if k > 0 then
    if i + k + 1 == a.size then pure (.done (some (laA a b (o ++ a.extract i (i + k)) (i + k) j), o ++ a.extract i (i + k), i + k, j, g, k, n))
    else if i + k == a.size then pure (.done (some (fiA a b (o ++ a.extract i (i + k)) (i + k) j), o ++ a.extract i (i + k), i + k, j, g, k, n))
    else lo2 a b (o ++ a.extract i (i + k)) (i + k) j g k n
  else lo2 a b o i j g k n
noncomputable def loG (a b : Array Keyed) (c : LoSt) : StateT SortSt Sem (ForInStep LoSt) :=
  if c.2.2.2.2.1 > 1 then lo1 a b c.2.1 c.2.2.1 c.2.2.2.1 (c.2.2.2.2.1 - 1) c.2.2.2.2.2.1 c.2.2.2.2.2.2
  else lo1 a b c.2.1 c.2.2.1 c.2.2.2.1 c.2.2.2.2.1 c.2.2.2.2.2.1 c.2.2.2.2.2.2
noncomputable def loT (a b : Array Keyed) (c : Option (Array Keyed) × Array Keyed × Nat × Nat × Nat) : StateT SortSt Sem (ForInStep (Option (Array Keyed) × Array Keyed × Nat × Nat × Nat)) := do
  let r ← forIn [0:a.size + b.size] ((none, c.2.1, c.2.2.1, c.2.2.2.1, 0, 0) : Option (Array Keyed) × Array Keyed × Nat × Nat × Nat × Nat) fun _ z => lo0 a b c.2.2.2.2 z
  match r.1 with
  | some R => pure (.done (some R, r.2.1, r.2.2.1, r.2.2.2.1, c.2.2.2.2))
  | none => do
    rule "list.sort.gallop"
    let r ← forIn [0:a.size + b.size] ((none, r.2.1, r.2.2.1, r.2.2.2.1, c.2.2.2.2 + 1, r.2.2.2.2.1, r.2.2.2.2.2) : LoSt) fun _ z => loG a b z
    match r.1 with
    | some R => pure (.done (some R, r.2.1, r.2.2.1, r.2.2.2.1, r.2.2.2.2.1))
    | none => do
      j1w (r.2.2.2.2.1 + 1)
      pure (.yield (none, r.2.1, r.2.2.1, r.2.2.2.1, r.2.2.2.2.1 + 1))
noncomputable def mLo (a b : Array Keyed) : StateT SortSt Sem (Array Keyed) := do
  rule "list.sort.merge-lo"
  let q ← elem' b 0
  if 1 == b.size then return fiA a b #[q] 0 1
  if 0 + 1 == a.size then return laA a b #[q] 0 1
  let g := gallopOf (← get)
  let r ← forIn [0:a.size + b.size] ((none, #[q], 0, 1, g) : Option (Array Keyed) × Array Keyed × Nat × Nat × Nat) fun _ z => loT a b z
  match r.1 with
  | some R => pure R
  | none => unsupported "internal:list.sort.merge-bound"
noncomputable def mLoD (a b : Array Keyed) : StateT SortSt Sem (Array Keyed) := do
  rule "list.sort.merge-lo"
  let tot := a.size + b.size
  let fin (o : Array Keyed) (x y : Nat) := o ++ a.extract x a.size ++ b.extract y b.size
  let las (o : Array Keyed) (x y : Nat) := o ++ b.extract y b.size ++ a.extract x a.size
  let mut o : Array Keyed := #[← elem' b 0]
  let mut i := 0
  let mut j := 1
  if j == b.size then return fin o i j
  if i + 1 == a.size then return las o i j
  let mut g := gallopOf (← get)
  for _ in [0:tot] do
    let mut m := 0
    let mut n := 0
    for _ in [0:tot] do
      let some t ← lt' (← elem' b j) (← elem' a i) | return fin o i j
      if t then
        o := o.push (← elem' b j); j := j + 1; n := n + 1; m := 0
        if j == b.size then return fin o i j
        if n ≥ g then break
      else
        o := o.push (← elem' a i); i := i + 1; m := m + 1; n := 0
        if i + 1 == a.size then return las o i j
        if m ≥ g then break
    rule "list.sort.gallop"
    g := g + 1
    for _ in [0:tot] do
      if g > 1 then g := g - 1
      j1w g
      let some k ← j1b false (← elem' b j) a i (a.size - i) 0 | return fin o i j
      m := k
      if k > 0 then
        o := o ++ a.extract i (i + k); i := i + k
        if i + 1 == a.size then return las o i j
        if i == a.size then return fin o i j
      o := o.push (← elem' b j); j := j + 1
      if j == b.size then return fin o i j
      let some k ← j1b true (← elem' a i) b j (b.size - j) 0 | return fin o i j
      n := k
      if k > 0 then
        o := o ++ b.extract j (j + k); j := j + k
        if j == b.size then return fin o i j
      o := o.push (← elem' a i); i := i + 1
      if i + 1 == a.size then return las o i j
      if m < 7 && n < 7 then break
    g := g + 1
    j1w g
  unsupported "internal:list.sort.merge-bound"
noncomputable def j4q : Array Keyed → Array Keyed → StateT SortSt Sem (Array Keyed) := sortPriv% PySem.Builtin.mergeLo
theorem j5g (a b : Array Keyed) : j4q a b = mLoD a b := rfl
theorem mLoD_eq (a b : Array Keyed) : mLoD a b = mLo a b := by
  unfold mLoD mLo
  refine congrArg _ (funext fun _ => ?_)
  refine congrArg (fun k => elem' b 0 >>= k) (funext fun q => ?_)
  show (if (1 == b.size) = true then _ else if (0 + 1 == a.size) = true then _ else (get >>= _)) = _
  refine congrArg (fun k => if (1 == b.size) = true then pure (fiA a b #[q] 0 1) else k) ?_
  refine congrArg (fun k => if (0 + 1 == a.size) = true then pure (laA a b #[q] 0 1) else k) ?_
  refine congrArg (fun k => get >>= k) (funext fun st => ?_)
  show ((forIn _ _ _) >>= _) = _
  refine congr (congrArg _ ?_) ?_
  · refine congrArg _ (funext fun _ => funext fun c => ?_)
    unfold loT
    show ((forIn _ _ _) >>= _) = _
    refine congr (congrArg _ ?_) ?_
    · rfl
    · refine funext fun r => ?_
      obtain ⟨r1, r2⟩ := r
      cases r1
      · show (liftM _ >>= fun _ => ((forIn _ _ _) >>= _)) = _
        refine congrArg _ (funext fun _ => ?_)
        refine congr (congrArg _ ?_) ?_
        · refine congrArg _ (funext fun _ => funext fun c => ?_)
          unfold loG lo1
          rfl
        · refine funext fun r => ?_
          obtain ⟨r1, _⟩ := r
          cases r1 <;> rfl
      · rfl
  · refine funext fun r => ?_
    obtain ⟨r1, _⟩ := r
    cases r1 <;> rfl
end Srt
end
noncomputable section
namespace Srt
open PySem PyProof.Rows
theorem j1c {a : Array Keyed} (ia : ∀ p ∈ a.toList, IntKey p) {i : Nat} (h : i < a.size) : ∃ q, a[i]? = some q ∧ a.toList[i]? = some q ∧ IntKey q := by
  refine ⟨a[i], by simp [h], by simp [h], ia _ (by simp)⟩
theorem K_at {a : Array Keyed} {i : Nat} {q : Keyed} (h : a[i]? = some q) : K a i = kn q := by unfold K; rw [h]
section
variable {prog : Program} {w : World} {A : Around} {E : Value → Shared → Prop} {s : Shared}
noncomputable def fq (left : Bool) (key : Keyed) (arr : Array Keyed) (base i : Nat) : Bool := if left then decide (K arr (base + i) < kn key) else !decide (kn key < K arr (base + i))
theorem j1f {left : Bool} {key : Keyed} {arr : Array Keyed} {base n hint : Nat} {st : SortSt} {Q : Option Nat → SortSt → Prop}
    (hk : kindOf st = oneType') (ik : IntKey key) (hi : ∀ i, i < n → ∃ q, arr[base + i]? = some q ∧ IntKey q)
    (hm : ∀ i j, i ≤ j → j < n → K arr (base + i) ≤ K arr (base + j)) (hh : hint < n)
    (h : ∀ k, k ≤ n → (∀ i, i < k → fq left key arr base i = true) → (∀ i, k ≤ i → i < n → fq left key arr base i = false) → Q (some k) st) :
    wpS (model prog w) A E s (j1b left key arr base n hint) Q st := by
  rw [j70]
  refine wpS_gal (f := fq left key arr base) (fun i hin Q' hq => ?_) (fun i j hij hj e => ?_) hh h
  · obtain ⟨q, e, iq⟩ := hi i hin
    refine wpS_bind (j0j e ?_)
    unfold fq at hq
    rw [K_at e] at hq
    cases left with
    | true => exact j5f hk iq ik (by simpa using hq)
    | false =>
      refine wpS_bind (j5f hk ik iq ?_)
      exact wpS_pure (by simpa using hq)
  · have := hm i j hij hj
    unfold fq at e ⊢
    cases left <;> simp at e ⊢ <;> omega
theorem Up.K_le {a : Array Keyed} (u : Up a.toList) {i j : Nat} (hij : i ≤ j) (hj : j < a.size) : K a i ≤ K a j := by
  have hi : i < a.size := by omega
  have e1 : a[i]? = some a[i] := by simp [hi]
  have e2 : a[j]? = some a[j] := by simp [hj]
  rw [K_at e1, K_at e2]
  by_cases h : i = j
  · subst h; exact Int.le_refl _
  · have := List.pairwise_iff_getElem.mp u i j (by simpa using hi) (by simpa using hj) (by omega)
    simpa using this
theorem j26 {a : Array Keyed} {i k : Nat} {x : Keyed} (h : x ∈ (a.toList.drop i).take k) : ∃ m, m < k ∧ i + m < a.size ∧ K a (i + m) = kn x := by
  obtain ⟨m, hm, e⟩ := List.mem_iff_getElem.mp h
  rw [List.length_take, List.length_drop] at hm
  have h1 : i + m < a.toList.length := by omega
  have e' : a.toList[i + m] = x := by
    rw [← e]; simp [List.getElem_take, List.getElem_drop]
  refine ⟨m, by omega, by simpa using h1, ?_⟩
  have e1 : a[i + m]? = some x := by rw [← e']; simp at h1; simp [h1]
  exact K_at e1
theorem j4c {a : Array Keyed} {i : Nat} {x : Keyed} (h : x ∈ a.toList.drop i) : ∃ m, i + m < a.size ∧ K a (i + m) = kn x := by
  have h' : x ∈ (a.toList.drop i).take a.toList.length := by
    rw [List.take_of_length_le (by simp)]
    exact h
  obtain ⟨m, _, h1, h2⟩ := j26 h'
  exact ⟨m, h1, h2⟩
theorem j3l (a : Array Keyed) (i : Nat) : (a.extract i a.size).toList = a.toList.drop i := by
  rw [Array.toList_extract, List.extract_eq_take_drop]
  exact List.take_of_length_le (by simp)
theorem j5h (a : Array Keyed) (i k : Nat) : (a.extract i (i + k)).toList = (a.toList.drop i).take k := by
  rw [Array.toList_extract, List.extract_eq_take_drop]
  congr 1
  omega
theorem j5i (a : Array Keyed) (x : Keyed) : (a.push x).toList = a.toList ++ [x] := by simp
structure Two (a b : Array Keyed) : Prop where
  ia : ∀ p ∈ a.toList, IntKey p
  ib : ∀ p ∈ b.toList, IntKey p
  uA : Up a.toList
  uB : Up b.toList
  ha : 0 < a.size
  hb : 0 < b.size
  first : ∀ q, b.toList[0]? = some q → ∀ y ∈ a.toList, kn q ≤ kn y
  last : ∀ x ∈ b.toList, ∀ y ∈ a.toList.drop (a.size - 1), kn x ≤ kn y
theorem Two.fi {a b : Array Keyed} (T : Two a b) {o : Array Keyed} {i j : Nat} (m : MI a.toList b.toList o.toList i j) (hj : a.size ≤ i ∨ b.size ≤ j) : Res a.toList b.toList (fiA a b o i j).toList := by
  unfold fiA
  rw [Array.toList_append, Array.toList_append, j3l, j3l]
  exact m.fin T.uA T.uB (by simpa using hj)
theorem Two.la {a b : Array Keyed} (T : Two a b) {o : Array Keyed} {i j : Nat} (m : MI a.toList b.toList o.toList i j) (hi : i + 1 = a.size) : Res a.toList b.toList (laA a b o i j).toList := by
  unfold laA
  rw [Array.toList_append, Array.toList_append, j3l, j3l]
  refine m.las T.uA T.uB ?_
  have : i = a.size - 1 := by omega
  rw [this]
  exact T.last
theorem Two.pushB {a b : Array Keyed} (T : Two a b) {o : Array Keyed} {i j : Nat} {q : Keyed} (m : MI a.toList b.toList o.toList i j) (e : b.toList[j]? = some q) (c : ∀ y ∈ a.toList.drop i, kn q ≤ kn y) : MI a.toList b.toList (o.push q).toList i (j + 1) := by
  rw [j5i]; exact m.oneB T.uB e c
theorem Two.pushA {a b : Array Keyed} (T : Two a b) {o : Array Keyed} {i j : Nat} {q : Keyed} (m : MI a.toList b.toList o.toList i j) (e : a.toList[i]? = some q) (c : ∀ y ∈ b.toList.drop j, kn q ≤ kn y) : MI a.toList b.toList (o.push q).toList (i + 1) j := by
  rw [j5i]; exact m.one T.uA e c
theorem Two.manyA {a b : Array Keyed} (T : Two a b) {o : Array Keyed} {i j k : Nat} (m : MI a.toList b.toList o.toList i j) (hk : i + k ≤ a.size) (c : ∀ x ∈ (a.toList.drop i).take k, ∀ y ∈ b.toList.drop j, kn x ≤ kn y) : MI a.toList b.toList (o ++ a.extract i (i + k)).toList (i + k) j := by
  rw [Array.toList_append, j5h]; exact m.chunk T.uA k (by simpa using hk) c
theorem Two.manyB {a b : Array Keyed} (T : Two a b) {o : Array Keyed} {i j k : Nat} (m : MI a.toList b.toList o.toList i j) (hk : j + k ≤ b.size) (c : ∀ x ∈ (b.toList.drop j).take k, ∀ y ∈ a.toList.drop i, kn x ≤ kn y) : MI a.toList b.toList (o ++ b.extract j (j + k)).toList i (j + k) := by
  rw [Array.toList_append, j5h]; exact m.chunkB T.uB k (by simpa using hk) c
theorem Like.step {st st' : SortSt} (l : Like st st') (g : Nat) : Like st (SortSt.mk' (kindOf st') (arrOf st') (pendingOf st') g (failedOf st')) := ⟨l.1, l.2.1, l.2.2.1, l.2.2.2⟩
noncomputable def Aft0 (a b : Array Keyed) (N : Nat) (c : Option (Array Keyed) × Array Keyed × Nat × Nat × Nat × Nat) : Prop :=
  (∃ R, c.1 = some R ∧ Res a.toList b.toList R.toList) ∨ (∃ o i j m n, c = (none, o, i, j, m, n) ∧ MI a.toList b.toList o.toList i j ∧ i + 1 < a.size ∧ j < b.size ∧ N ≤ i + j)
theorem wpS_lo0 {a b o : Array Keyed} {i j g m n : Nat} {st st' : SortSt} (hk : kindOf st = oneType') (T : Two a b) (l : Like st st') (I : MI a.toList b.toList o.toList i j) (h1 : i + 1 < a.size) (h2 : j < b.size)
    {Q : ForInStep (Option (Array Keyed) × Array Keyed × Nat × Nat × Nat × Nat) → SortSt → Prop}
    (hd : ∀ c, Aft0 a b (i + j + 1) c → Q (.done c) st') (hy : ∀ o' i' j' m' n', MI a.toList b.toList o'.toList i' j' → i' + 1 < a.size → j' < b.size → i + j + 1 ≤ i' + j' → Q (.yield (none, o', i', j', m', n')) st') :
    wpS (model prog w) A E s (lo0 a b g (none, o, i, j, m, n)) Q st' := by
  obtain ⟨q, e1, e1', k1⟩ := j1c T.ib h2
  obtain ⟨p, e2, e2', k2⟩ := j1c T.ia (show i < a.size by omega)
  unfold lo0
  dsimp only
  refine wpS_bind (j0j e1 (wpS_bind (j0j e2 (wpS_bind (j5f (l.1.trans hk) k1 k2 ?_)))))
  dsimp only
  by_cases c : kn q < kn p
  · rw [if_pos (by simpa using c)]
    refine wpS_bind (j0j e1 ?_)
    have I' : MI a.toList b.toList (o.push q).toList i (j + 1) := T.pushB I e1' fun y hy => Int.le_trans (Int.le_of_lt c) (T.uA.head e2' y hy)
    by_cases hb : j + 1 = b.size
    · rw [if_pos (by simpa using hb)]
      exact wpS_pure (hd _ (.inl ⟨_, rfl, T.fi I' (.inr (by omega))⟩))
    · rw [if_neg (by simpa using hb)]
      by_cases hg : n + 1 ≥ g
      · rw [if_pos hg]
        exact wpS_pure (hd _ (.inr ⟨_, _, _, _, _, rfl, I', h1, by omega, by omega⟩))
      · rw [if_neg hg]
        exact wpS_pure (hy _ _ _ _ _ I' h1 (by omega) (by omega))
  · rw [if_neg (by simpa using c)]
    refine wpS_bind (j0j e2 ?_)
    have I' : MI a.toList b.toList (o.push p).toList (i + 1) j := T.pushA I e2' fun y hy => Int.le_trans (Int.not_lt.mp c) (T.uB.head e1' y hy)
    by_cases hb : i + 1 + 1 = a.size
    · rw [if_pos (by simpa using hb)]
      exact wpS_pure (hd _ (.inl ⟨_, rfl, T.la I' hb⟩))
    · rw [if_neg (by simpa using hb)]
      by_cases hg : m + 1 ≥ g
      · rw [if_pos hg]
        exact wpS_pure (hd _ (.inr ⟨_, _, _, _, _, rfl, I', by omega, by omega, by omega⟩))
      · rw [if_neg hg]
        exact wpS_pure (hy _ _ _ _ _ I' (by omega) (by omega) (by omega))
noncomputable def Aft1 (a b : Array Keyed) (N : Nat) (c : LoSt) : Prop :=
  (∃ R, c.1 = some R ∧ Res a.toList b.toList R.toList) ∨ (∃ o i j g m n, c = (none, o, i, j, g, m, n) ∧ MI a.toList b.toList o.toList i j ∧ i + 1 < a.size ∧ j < b.size ∧ N ≤ i + j)
noncomputable def W1 (a b : Array Keyed) (st : SortSt) (N : Nat) (r : ForInStep LoSt) (st' : SortSt) : Prop :=
  Like st st' ∧ match r with
    | .done c => Aft1 a b N c
    | .yield c => c.1 = none ∧ Aft1 a b N c
theorem j8c {a b o : Array Keyed} {i j g m n N : Nat} {st st' : SortSt} (T : Two a b) (l : Like st st') (I : MI a.toList b.toList o.toList i j) (h1 : i + 1 < a.size) (h2 : j < b.size) (hN : N ≤ i + j) (lo : ∀ p, a.toList[i]? = some p → ∀ y ∈ b.toList.drop j, kn p ≤ kn y) :
    wpS (model prog w) A E s (lo4 a b o i j g m n) (W1 a b st N) st' := by
  obtain ⟨p, e2, e2', k2⟩ := j1c T.ia (show i < a.size by omega)
  unfold lo4
  refine wpS_bind (j0j e2 ?_)
  have I' : MI a.toList b.toList (o.push p).toList (i + 1) j := T.pushA I e2' (lo p e2')
  by_cases hb : i + 1 + 1 = a.size
  · rw [if_pos (by simpa using hb)]
    exact wpS_pure ⟨l, .inl ⟨_, rfl, T.la I' hb⟩⟩
  · rw [if_neg (by simpa using hb)]
    split
    · exact wpS_pure ⟨l, .inr ⟨_, _, _, _, _, _, rfl, I', by omega, by omega, by omega⟩⟩
    · exact wpS_pure ⟨l, rfl, .inr ⟨_, _, _, _, _, _, rfl, I', by omega, by omega, by omega⟩⟩
theorem wpS_lo3 {a b o : Array Keyed} {i j g m n N : Nat} {st st' : SortSt} (hk : kindOf st = oneType') (T : Two a b) (l : Like st st') (I : MI a.toList b.toList o.toList i j) (h1 : i + 1 < a.size) (h2 : j < b.size) (hN : N ≤ i + j) :
    wpS (model prog w) A E s (lo3 a b o i j g m n) (W1 a b st N) st' := by
  obtain ⟨p, e2, e2', k2⟩ := j1c T.ia (show i < a.size by omega)
  unfold lo3
  refine wpS_bind (j0j e2 (wpS_bind ?_))
  refine j1f (l.1.trans hk) k2 (fun x hx => ?_) (fun x y hxy hy => T.uB.K_le (by omega) (by omega)) (by omega) fun k hk0 ht hf => ?_
  · obtain ⟨q, z1, _, z2⟩ := j1c T.ib (show j + x < b.size by omega)
    exact ⟨q, z1, z2⟩
  dsimp only
  have lo : ∀ p', a.toList[i]? = some p' → ∀ y ∈ b.toList.drop (j + k), kn p' ≤ kn y := fun p' e y hy => by
    rw [e2'] at e; cases e
    obtain ⟨x, hx, e3⟩ := j4c hy
    have := hf (k + x) (by omega) (by omega)
    unfold fq at this
    simp at this
    rw [← Nat.add_assoc, e3] at this
    exact this
  by_cases h0 : k > 0
  · rw [if_pos h0]
    have I' : MI a.toList b.toList (o ++ b.extract j (j + k)).toList i (j + k) := T.manyB I (by omega) fun x hx y hy => by
      obtain ⟨z, hz, _, e3⟩ := j26 hx
      have := ht z hz
      unfold fq at this
      simp at this
      rw [e3] at this
      exact Int.le_trans (Int.le_of_lt this) (T.uA.head e2' y hy)
    by_cases hb : j + k = b.size
    · rw [if_pos (by simpa using hb)]
      exact wpS_pure ⟨l, .inl ⟨_, rfl, T.fi I' (.inr (by omega))⟩⟩
    · rw [if_neg (by simpa using hb)]
      exact j8c T l I' h1 (by omega) (by omega) lo
  · rw [if_neg h0]
    have : k = 0 := by omega
    subst this
    exact j8c T l I h1 h2 hN lo
theorem j8d {a b o : Array Keyed} {i j g m n N : Nat} {st st' : SortSt} (hk : kindOf st = oneType') (T : Two a b) (l : Like st st') (I : MI a.toList b.toList o.toList i j) (h1 : i + 1 < a.size) (h2 : j < b.size) (hN : N ≤ i + j) (lo : ∀ p, b.toList[j]? = some p → ∀ y ∈ a.toList.drop i, kn p ≤ kn y) :
    wpS (model prog w) A E s (lo2 a b o i j g m n) (W1 a b st N) st' := by
  obtain ⟨q, e1, e1', k1⟩ := j1c T.ib h2
  unfold lo2
  refine wpS_bind (j0j e1 ?_)
  have I' : MI a.toList b.toList (o.push q).toList i (j + 1) := T.pushB I e1' (lo q e1')
  by_cases hb : j + 1 = b.size
  · rw [if_pos (by simpa using hb)]
    exact wpS_pure ⟨l, .inl ⟨_, rfl, T.fi I' (.inr (by omega))⟩⟩
  · rw [if_neg (by simpa using hb)]
    exact wpS_lo3 hk T l I' h1 (by omega) (by omega)
theorem j8e {a b o : Array Keyed} {i j g m n N : Nat} {st st' : SortSt} (hk : kindOf st = oneType') (T : Two a b) (l : Like st st') (I : MI a.toList b.toList o.toList i j) (h1 : i + 1 < a.size) (h2 : j < b.size) (hN : N ≤ i + j) :
    wpS (model prog w) A E s (lo1 a b o i j g m n) (W1 a b st N) st' := by
  obtain ⟨q, e1, e1', k1⟩ := j1c T.ib h2
  unfold lo1
  rw [j2c]
  refine wpS_bind (wpS_modify ?_)
  have l' := l.step g
  refine wpS_bind (j0j e1 (wpS_bind ?_))
  refine j1f (l'.1.trans hk) k1 (fun x hx => ?_) (fun x y hxy hy => T.uA.K_le (by omega) (by omega)) (by omega) fun k hk0 ht hf => ?_
  · obtain ⟨q, z1, _, z2⟩ := j1c T.ia (show i + x < a.size by omega)
    exact ⟨q, z1, z2⟩
  dsimp only
  have lo : ∀ p', b.toList[j]? = some p' → ∀ y ∈ a.toList.drop (i + k), kn p' ≤ kn y := fun p' e y hy => by
    rw [e1'] at e; cases e
    obtain ⟨x, hx, e3⟩ := j4c hy
    have := hf (k + x) (by omega) (by omega)
    unfold fq at this
    simp at this
    rw [← Nat.add_assoc, e3] at this
    exact Int.le_of_lt this
  by_cases h0 : k > 0
  · rw [if_pos h0]
    have I' : MI a.toList b.toList (o ++ a.extract i (i + k)).toList (i + k) j := T.manyA I (by omega) fun x hx y hy => by
      obtain ⟨z, hz, _, e3⟩ := j26 hx
      have := ht z hz
      unfold fq at this
      simp at this
      rw [e3] at this
      exact Int.le_trans this (T.uB.head e1' y hy)
    by_cases hb : i + k + 1 = a.size
    · rw [if_pos (by simpa using hb)]
      exact wpS_pure ⟨l', .inl ⟨_, rfl, T.la I' hb⟩⟩
    · rw [if_neg (by simpa using hb)]
      by_cases hb2 : i + k = a.size
      · rw [if_pos (by simpa using hb2)]
        exact wpS_pure ⟨l', .inl ⟨_, rfl, T.fi I' (.inl (by omega))⟩⟩
      · rw [if_neg (by simpa using hb2)]
        exact j8d hk T l' I' (by omega) h2 (by omega) lo
  · rw [if_neg h0]
    have : k = 0 := by omega
    subst this
    exact j8d hk T l' I h1 h2 hN lo
theorem wpS_loG {a b o : Array Keyed} {i j g m n N : Nat} {st st' : SortSt} (hk : kindOf st = oneType') (T : Two a b) (l : Like st st') (I : MI a.toList b.toList o.toList i j) (h1 : i + 1 < a.size) (h2 : j < b.size) (hN : N ≤ i + j) :
    wpS (model prog w) A E s (loG a b (none, o, i, j, g, m, n)) (W1 a b st N) st' := by
  unfold loG
  dsimp only
  split
  · exact j8e hk T l I h1 h2 hN
  · exact j8e hk T l I h1 h2 hN
theorem wpS_loT {a b o : Array Keyed} {i j g : Nat} {st st' : SortSt} (hk : kindOf st = oneType') (T : Two a b) (l : Like st st') (I : MI a.toList b.toList o.toList i j) (h1 : i + 1 < a.size) (h2 : j < b.size)
    {Q : ForInStep (Option (Array Keyed) × Array Keyed × Nat × Nat × Nat) → SortSt → Prop}
    (hd : ∀ c st', Like st st' → (∃ R, c.1 = some R ∧ Res a.toList b.toList R.toList) → Q (.done c) st')
    (hy : ∀ o' i' j' g' st', Like st st' → MI a.toList b.toList o'.toList i' j' → i' + 1 < a.size → j' < b.size → i + j + 1 ≤ i' + j' → Q (.yield (none, o', i', j', g')) st') :
    wpS (model prog w) A E s (loT a b (none, o, i, j, g)) Q st' := by
  unfold loT
  dsimp only
  refine wpS_bind (wpS_mono (wpS_forRange (I := fun x c st2 => st2 = st' ∧ ∃ o' i' j' m n, c = (none, o', i', j', m, n) ∧ MI a.toList b.toList o'.toList i' j' ∧ i' + 1 < a.size ∧ j' < b.size ∧ i + j + x ≤ i' + j')
    (Q := fun c st2 => st2 = st' ∧ Aft0 a b (i + j + 1) c) ?step ?fin ⟨rfl, o, i, j, 0, 0, rfl, I, h1, h2, by omega⟩) ?post)
  case fin =>
    rintro c st2 ⟨rfl, o', i', j', m, n, rfl, I', k1, k2, k3⟩
    exact ⟨rfl, .inr ⟨o', i', j', m, n, rfl, I', k1, k2, by omega⟩⟩
  case step =>
    rintro x c st2 _ hx ⟨rfl, o', i', j', m, n, rfl, I', k1, k2, k3⟩
    refine wpS_lo0 hk T l I' k1 k2 (fun c hc => ⟨rfl, ?_⟩) fun o2 i2 j2 m2 n2 I2 q1 q2 q3 => ⟨rfl, o2, i2, j2, m2, n2, rfl, I2, q1, q2, by omega⟩
    rcases hc with hc | ⟨o2, i2, j2, m2, n2, rfl, I2, q1, q2, q3⟩
    · exact .inl hc
    · exact .inr ⟨o2, i2, j2, m2, n2, rfl, I2, q1, q2, by omega⟩
  case post =>
    rintro c st2 ⟨rfl, hc⟩
    rcases hc with ⟨R, e, hR⟩ | ⟨o2, i2, j2, m2, n2, rfl, I2, q1, q2, q3⟩
    · rw [e]
      exact wpS_pure (hd _ _ l ⟨R, rfl, hR⟩)
    · dsimp only
      refine wpS_bind (wpS_lift (wpAny_rule ⟨rfl, ?_⟩))
      refine wpS_bind (wpS_mono (wpS_forRange (I := fun x c st3 => Like st st3 ∧ c.1 = none ∧ Aft1 a b (i + j + 1) c) (Q := fun c st3 => Like st st3 ∧ Aft1 a b (i + j + 1) c)
        ?step2 (fun c st3 ⟨z1, _, z2⟩ => ⟨z1, z2⟩) ⟨l, rfl, .inr ⟨_, _, _, _, _, _, rfl, I2, q1, q2, by omega⟩⟩) ?post2)
      case step2 =>
        rintro x c st3 _ hx ⟨l3, e3, z⟩
        rcases z with ⟨R, e, _⟩ | ⟨o3, i3, j3, g3, m3, n3, rfl, I3, r1, r2, r3⟩
        · rw [e3] at e; cases e
        · refine wpS_mono (wpS_loG hk T l3 I3 r1 r2 r3) fun r st4 h4 => ?_
          cases r with
          | done c => exact h4
          | yield c => exact h4
      case post2 =>
        rintro c st3 ⟨l3, z⟩
        rcases z with ⟨R, e, hR⟩ | ⟨o3, i3, j3, g3, m3, n3, rfl, I3, r1, r2, r3⟩
        · rw [e]
          exact wpS_pure (hd _ _ l3 ⟨R, rfl, hR⟩)
        · dsimp only
          rw [j2c]
          refine wpS_bind (wpS_modify ?_)
          exact wpS_pure (hy _ _ _ _ _ (l3.step _) I3 r1 r2 r3)
theorem j5w {a b : Array Keyed} {st : SortSt} {Q : Array Keyed → SortSt → Prop} (hk : kindOf st = oneType') (T : Two a b) (h : ∀ R st', Like st st' → Res a.toList b.toList R.toList → Q R st') :
    wpS (model prog w) A E s (j4q a b) Q st := by
  rw [j5g, mLoD_eq]
  unfold mLo
  refine wpS_bind (wpS_lift (wpAny_rule ⟨rfl, ?_⟩))
  obtain ⟨q0, e0, e0', i0⟩ := j1c T.ib T.hb
  have ha := T.ha
  have hb := T.hb
  refine wpS_bind (j0j e0 ?_)
  have m0 : MI a.toList b.toList (#[q0] : Array Keyed).toList 0 1 := by
    refine ⟨?_, by simp [Up], ?_, ?_⟩
    · have : b.toList.take 1 = [q0] := by
        have := j8b e0'
        simpa using this
      rw [this]; simp
    · intro x hx y hy
      simp at hx; subst hx
      exact T.first _ e0' y (by simpa using hy)
    · intro x hx y hy
      simp at hx; subst hx
      exact T.uB.head e0' y (by simpa using List.mem_of_mem_drop hy)
  by_cases hb1 : 1 = b.size
  · rw [if_pos (by simpa using hb1)]
    exact wpS_pure (h _ _ (Like.refl _) (T.fi m0 (.inr (by omega))))
  rw [if_neg (by simpa using hb1)]
  by_cases ha1 : 0 + 1 = a.size
  · rw [if_pos (by simpa using ha1)]
    exact wpS_pure (h _ _ (Like.refl _) (T.la m0 ha1))
  rw [if_neg (by simpa using ha1)]
  refine wpS_bind (wpS_get ?_)
  refine wpS_bind (wpS_mono (wpS_forRange (I := fun x c st' => Like st st' ∧ ∃ o i j g, c = (none, o, i, j, g) ∧ MI a.toList b.toList o.toList i j ∧ i + 1 < a.size ∧ j < b.size ∧ x ≤ i + j)
    (Q := fun c st' => Like st st' ∧ ∃ R, c.1 = some R ∧ Res a.toList b.toList R.toList) ?step ?fin ⟨Like.refl _, _, 0, 1, _, rfl, m0, by omega, by omega, by omega⟩) ?post)
  case post =>
    rintro c st' ⟨l, R, e, r⟩
    rw [e]
    exact wpS_pure (h R st' l r)
  case fin =>
    rintro c st' ⟨l, o, i, j, g, rfl, m, h1, h2, h3⟩
    omega
  case step =>
    rintro x c st' _ hx ⟨l, o, i, j, g, rfl, m, h1, h2, h3⟩
    exact wpS_loT hk T l m h1 h2 (fun c st2 l2 r2 => ⟨l2, r2⟩) fun o' i' j' g' st2 l2 m2 k1 k2 k3 => ⟨l2, o', i', j', g', rfl, m2, k1, k2, by omega⟩
end
end Srt
end
noncomputable section
namespace Srt
open PySem PyProof.Rows
structure MH (A B O : List Keyed) (i j : Nat) : Prop where
  perm : O.Perm (A.drop i ++ B.drop j)
  up : Up O
  hiA : ∀ x ∈ A.take i, ∀ y ∈ O, kn x ≤ kn y
  hiB : ∀ x ∈ B.take j, ∀ y ∈ O, kn x ≤ kn y
theorem MH.swap {A B O : List Keyed} {i j : Nat} (m : MH A B O i j) : MH B A O j i := ⟨m.perm.trans List.perm_append_comm, m.up, m.hiB, m.hiA⟩
theorem j2d {l : List Keyed} {r i : Nat} (h : r ≤ i) (hi : i ≤ l.length) : l.drop r = (l.take i).drop r ++ l.drop i := by
  have e : (l.take i ++ l.drop i).drop r = (l.take i).drop r ++ l.drop i := List.drop_append_of_le_length (by rw [List.length_take]; omega)
  rw [List.take_append_drop] at e
  exact e
theorem j2p {l : List Keyed} {r i : Nat} (h : r ≤ i) : l.take r = (l.take i).take r := by rw [List.take_take, Nat.min_eq_left h]
theorem MH.chunk {A B O : List Keyed} {i j : Nat} (m : MH A B O i j) (hA : Up A) (r : Nat) (hr : r ≤ i) (hi : i ≤ A.length) (c : ∀ x ∈ B.take j, ∀ y ∈ (A.take i).drop r, kn x ≤ kn y) : MH A B ((A.take i).drop r ++ O) r j where
  perm := by
    rw [j2d hr hi, List.append_assoc]
    exact List.Perm.append_left _ m.perm
  up := ((hA.take i).drop r).app m.up fun x hx y hy => m.hiA x (List.mem_of_mem_drop hx) y hy
  hiA := fun x hx y hy => by
    rw [j2p hr] at hx
    rcases List.mem_append.mp hy with h | h
    · exact (hA.take i).parts r x hx y h
    · exact m.hiA x (List.mem_of_mem_take hx) y h
  hiB := fun x hx y hy => by
    rcases List.mem_append.mp hy with h | h
    · exact c x hx y h
    · exact m.hiB x hx y h
theorem MH.chunkB {A B O : List Keyed} {i j : Nat} (m : MH A B O i j) (hB : Up B) (r : Nat) (hr : r ≤ j) (hj : j ≤ B.length) (c : ∀ x ∈ A.take i, ∀ y ∈ (B.take j).drop r, kn x ≤ kn y) : MH A B ((B.take j).drop r ++ O) i r :=
  (m.swap.chunk hB r hr hj c).swap
theorem last1 {l : List Keyed} {i : Nat} {p : Keyed} (h : l[i]? = some p) : (l.take (i + 1)).drop i = [p] := by
  have hi : i < l.length := (List.getElem?_eq_some_iff.mp h).1
  have e := (List.getElem?_eq_some_iff.mp h).2
  rw [List.take_succ_eq_append_getElem hi, List.drop_append_of_le_length (by rw [List.length_take]; omega), e, List.drop_eq_nil_of_le (by rw [List.length_take]; omega)]
  rfl
theorem Up.foot {l : List Keyed} (h : Up l) {i : Nat} {p : Keyed} (e : l[i]? = some p) : ∀ y ∈ l.take (i + 1), kn y ≤ kn p := by
  have hi : i < l.length := (List.getElem?_eq_some_iff.mp e).1
  have e2 := (List.getElem?_eq_some_iff.mp e).2
  have h' := h.take (i + 1)
  rw [List.take_succ_eq_append_getElem hi, e2] at h'
  intro y hy
  rw [List.take_succ_eq_append_getElem hi, e2] at hy
  rcases List.mem_append.mp hy with hy | hy
  · exact (List.pairwise_append.mp h').2.2 y hy p (by simp)
  · rw [List.mem_singleton.mp hy]; exact Int.le_refl _
theorem MH.one {A B O : List Keyed} {i j : Nat} {p : Keyed} (m : MH A B O (i + 1) j) (hA : Up A) (h : A[i]? = some p) (c : ∀ y ∈ B.take j, kn y ≤ kn p) : MH A B (p :: O) i j := by
  have hi : i < A.length := (List.getElem?_eq_some_iff.mp h).1
  have z := m.chunk hA i (Nat.le_succ i) hi (by rw [last1 h]; intro x hx y hy; rw [List.mem_singleton.mp hy]; exact c x hx)
  rw [last1 h] at z
  exact z
theorem MH.oneB {A B O : List Keyed} {i j : Nat} {p : Keyed} (m : MH A B O i (j + 1)) (hB : Up B) (h : B[j]? = some p) (c : ∀ y ∈ A.take i, kn y ≤ kn p) : MH A B (p :: O) i j := (m.swap.one hB h c).swap
theorem MH.all {A B O : List Keyed} {i j : Nat} (m : MH A B O i j) : (A.take i ++ B.take j ++ O).Perm (A ++ B) := by
  refine (List.Perm.append_left _ m.perm).trans ?_
  have e : A ++ B = (A.take i ++ A.drop i) ++ (B.take j ++ B.drop j) := by rw [List.take_append_drop, List.take_append_drop]
  rw [e, List.append_assoc, List.append_assoc]
  refine List.Perm.append_left _ ?_
  rw [← List.append_assoc, ← List.append_assoc]
  exact List.Perm.append_right _ List.perm_append_comm
theorem MH.fin {A B O : List Keyed} {i j : Nat} (m : MH A B O i j) (hA : Up A) (hB : Up B) (h : i = 0 ∨ j = 0) : Res A B (A.take i ++ B.take j ++ O) := by
  refine ⟨m.all, ?_⟩
  refine ((hA.take i).app (hB.take j) fun x hx y hy => ?_).app m.up fun x hx y hy => ?_
  · rcases h with h | h
    · subst h; simp at hx
    · subst h; simp at hy
  · rcases List.mem_append.mp hx with h | h
    · exact m.hiA x h y hy
    · exact m.hiB x h y hy
theorem MH.fir {A B O : List Keyed} {i j : Nat} (m : MH A B O i j) (hA : Up A) (hB : Up B) (c : ∀ x ∈ B.take j, ∀ y ∈ A, kn x ≤ kn y) : Res A B (B.take j ++ A.take i ++ O) := by
  refine ⟨(List.Perm.append_right _ List.perm_append_comm).trans m.all, ?_⟩
  refine ((hB.take j).app (hA.take i) fun x hx y hy => c x hx y (List.mem_of_mem_take hy)).app m.up fun x hx y hy => ?_
  rcases List.mem_append.mp hx with h | h
  · exact m.hiB x h y hy
  · exact m.hiA x h y hy
abbrev HiSt := Option (Array Keyed) × Nat × Nat × Array Keyed × Nat × Nat × Nat
noncomputable def fiH (a b o : Array Keyed) (x y : Nat) : Array Keyed := a.extract 0 x ++ b.extract 0 y ++ o.reverse
noncomputable def frH (a b o : Array Keyed) (x y : Nat) : Array Keyed := b.extract 0 y ++ a.extract 0 x ++ o.reverse
noncomputable def hi0 (a b : Array Keyed) (g : Nat) (c : Option (Array Keyed) × Nat × Nat × Array Keyed × Nat × Nat) : StateT SortSt Sem (ForInStep (Option (Array Keyed) × Nat × Nat × Array Keyed × Nat × Nat)) := do
  let q ← elem' b (c.2.2.1 - 1)
  let p ← elem' a (c.2.1 - 1)
  let some t ← lt' q p | pure (.done (some (fiH a b c.2.2.2.1 c.2.1 c.2.2.1), c.2.1, c.2.2.1, c.2.2.2.1, c.2.2.2.2.1, c.2.2.2.2.2))
  if t then
    let p ← elem' a (c.2.1 - 1)
    if c.2.1 - 1 == 0 then pure (.done (some (fiH a b (c.2.2.2.1.push p) (c.2.1 - 1) c.2.2.1), c.2.1 - 1, c.2.2.1, c.2.2.2.1.push p, c.2.2.2.2.1 + 1, 0))
    else if c.2.2.2.2.1 + 1 ≥ g then pure (.done (none, c.2.1 - 1, c.2.2.1, c.2.2.2.1.push p, c.2.2.2.2.1 + 1, 0))
    else pure (.yield (none, c.2.1 - 1, c.2.2.1, c.2.2.2.1.push p, c.2.2.2.2.1 + 1, 0))
  else
    let q ← elem' b (c.2.2.1 - 1)
    if c.2.2.1 - 1 == 1 then pure (.done (some (frH a b (c.2.2.2.1.push q) c.2.1 (c.2.2.1 - 1)), c.2.1, c.2.2.1 - 1, c.2.2.2.1.push q, 0, c.2.2.2.2.2 + 1))
    else if c.2.2.2.2.2 + 1 ≥ g then pure (.done (none, c.2.1, c.2.2.1 - 1, c.2.2.2.1.push q, 0, c.2.2.2.2.2 + 1))
    else pure (.yield (none, c.2.1, c.2.2.1 - 1, c.2.2.2.1.push q, 0, c.2.2.2.2.2 + 1))
noncomputable def hi4 (a b : Array Keyed) (i j : Nat) (o : Array Keyed) (g m n : Nat) : StateT SortSt Sem (ForInStep HiSt) := do
  let p ← elem' a (i - 1)
  if i - 1 == 0 then pure (.done (some (fiH a b (o.push p) (i - 1) j), i - 1, j, o.push p, g, m, n))
  else if (m < 7 && n < 7) = true then pure (.done (none, i - 1, j, o.push p, g, m, n))
  else pure (.yield (none, i - 1, j, o.push p, g, m, n))
noncomputable def hi3 (a b : Array Keyed) (i j : Nat) (o : Array Keyed) (g m n : Nat) : StateT SortSt Sem (ForInStep HiSt) := do
  let p ← elem' a (i - 1)
  let some r ← j1b true p b 0 j (j - 1) | pure (.done (some (fiH a b o i j), i, j, o, g, m, n))
  if j - r > 0 then
    if r == 1 then pure (.done (some (frH a b (o ++ (b.extract r j).reverse) i r), i, r, o ++ (b.extract r j).reverse, g, m, j - r))
    else if r == 0 then pure (.done (some (fiH a b (o ++ (b.extract r j).reverse) i r), i, r, o ++ (b.extract r j).reverse, g, m, j - r))
    else hi4 a b i r (o ++ (b.extract r j).reverse) g m (j - r)
  else hi4 a b i j o g m (j - r)
noncomputable def hi2 (a b : Array Keyed) (i j : Nat) (o : Array Keyed) (g m n : Nat) : StateT SortSt Sem (ForInStep HiSt) := do
  let q ← elem' b (j - 1)
  if j - 1 == 1 then pure (.done (some (frH a b (o.push q) i (j - 1)), i, j - 1, o.push q, g, m, n))
  else hi3 a b i (j - 1) (o.push q) g m n
noncomputable def hi1 (a b : Array Keyed) (i j : Nat) (o : Array Keyed) (g m n : Nat) : StateT SortSt Sem (ForInStep HiSt) := do
  j1w g
  let q ← elem' b (j - 1)
  let some r ← j1b false q a 0 i (i - 1) | pure (.done (some (fiH a b o i j), i, j, o, g, m, n))
  if i - r > 0 then
    if r == 0 then pure (.done (some (fiH a b (o ++ (a.extract r i).reverse) r j), r, j, o ++ (a.extract r i).reverse, g, i - r, n))
    else hi2 a b r j (o ++ (a.extract r i).reverse) g (i - r) n
  else hi2 a b i j o g (i - r) n
noncomputable def hiG (a b : Array Keyed) (c : HiSt) : StateT SortSt Sem (ForInStep HiSt) :=
  if c.2.2.2.2.1 > 1 then hi1 a b c.2.1 c.2.2.1 c.2.2.2.1 (c.2.2.2.2.1 - 1) c.2.2.2.2.2.1 c.2.2.2.2.2.2
  else hi1 a b c.2.1 c.2.2.1 c.2.2.2.1 c.2.2.2.2.1 c.2.2.2.2.2.1 c.2.2.2.2.2.2
noncomputable def hiT (a b : Array Keyed) (c : Option (Array Keyed) × Nat × Nat × Array Keyed × Nat) : StateT SortSt Sem (ForInStep (Option (Array Keyed) × Nat × Nat × Array Keyed × Nat)) := do
  let r ← forIn [0:a.size + b.size] ((none, c.2.1, c.2.2.1, c.2.2.2.1, 0, 0) : Option (Array Keyed) × Nat × Nat × Array Keyed × Nat × Nat) fun _ z => hi0 a b c.2.2.2.2 z
  match r.1 with
  | some R => pure (.done (some R, r.2.1, r.2.2.1, r.2.2.2.1, c.2.2.2.2))
  | none => do
    rule "list.sort.gallop"
    let r ← forIn [0:a.size + b.size] ((none, r.2.1, r.2.2.1, r.2.2.2.1, c.2.2.2.2 + 1, r.2.2.2.2.1, r.2.2.2.2.2) : HiSt) fun _ z => hiG a b z
    match r.1 with
    | some R => pure (.done (some R, r.2.1, r.2.2.1, r.2.2.2.1, r.2.2.2.2.1))
    | none => do
      j1w (r.2.2.2.2.1 + 1)
      pure (.yield (none, r.2.1, r.2.2.1, r.2.2.2.1, r.2.2.2.2.1 + 1))
noncomputable def mHi (a b : Array Keyed) : StateT SortSt Sem (Array Keyed) := do
  rule "list.sort.merge-hi"
  let q ← elem' a (a.size - 1)
  if a.size - 1 == 0 then return fiH a b #[q] (a.size - 1) b.size
  if b.size == 1 then return frH a b #[q] (a.size - 1) b.size
  let g := gallopOf (← get)
  let r ← forIn [0:a.size + b.size] ((none, a.size - 1, b.size, #[q], g) : Option (Array Keyed) × Nat × Nat × Array Keyed × Nat) fun _ z => hiT a b z
  match r.1 with
  | some R => pure R
  | none => unsupported "internal:list.sort.merge-bound"
noncomputable def mHiD (a b : Array Keyed) : StateT SortSt Sem (Array Keyed) := do
  rule "list.sort.merge-hi"
  let tot := a.size + b.size
  let fin (o : Array Keyed) (x y : Nat) := a.extract 0 x ++ b.extract 0 y ++ o.reverse
  let fir (o : Array Keyed) (x y : Nat) := b.extract 0 y ++ a.extract 0 x ++ o.reverse
  let mut i := a.size - 1
  let mut j := b.size
  let mut o : Array Keyed := #[← elem' a i]
  if i == 0 then return fin o i j
  if j == 1 then return fir o i j
  let mut g := gallopOf (← get)
  for _ in [0:tot] do
    let mut m := 0
    let mut n := 0
    for _ in [0:tot] do
      let some t ← lt' (← elem' b (j - 1)) (← elem' a (i - 1)) | return fin o i j
      if t then
        i := i - 1; o := o.push (← elem' a i); m := m + 1; n := 0
        if i == 0 then return fin o i j
        if m ≥ g then break
      else
        j := j - 1; o := o.push (← elem' b j); n := n + 1; m := 0
        if j == 1 then return fir o i j
        if n ≥ g then break
    rule "list.sort.gallop"
    g := g + 1
    for _ in [0:tot] do
      if g > 1 then g := g - 1
      j1w g
      let some r ← j1b false (← elem' b (j - 1)) a 0 i (i - 1) | return fin o i j
      let k := i - r
      m := k
      if k > 0 then
        o := o ++ (a.extract r i).reverse; i := r
        if i == 0 then return fin o i j
      j := j - 1; o := o.push (← elem' b j)
      if j == 1 then return fir o i j
      let some r ← j1b true (← elem' a (i - 1)) b 0 j (j - 1) | return fin o i j
      let k := j - r
      n := k
      if k > 0 then
        o := o ++ (b.extract r j).reverse; j := r
        if j == 1 then return fir o i j
        if j == 0 then return fin o i j
      i := i - 1; o := o.push (← elem' a i)
      if i == 0 then return fin o i j
      if m < 7 && n < 7 then break
    g := g + 1
    j1w g
  unsupported "internal:list.sort.merge-bound"
noncomputable def j4r : Array Keyed → Array Keyed → StateT SortSt Sem (Array Keyed) := sortPriv% PySem.Builtin.mergeHi
theorem j5j (a b : Array Keyed) : j4r a b = mHiD a b := rfl
theorem mHiD_eq (a b : Array Keyed) : mHiD a b = mHi a b := by
  unfold mHiD mHi
  refine congrArg _ (funext fun _ => ?_)
  refine congrArg (fun k => elem' a (a.size - 1) >>= k) (funext fun q => ?_)
  show (if (a.size - 1 == 0) = true then _ else if (b.size == 1) = true then _ else (get >>= _)) = _
  refine congrArg (fun k => if (a.size - 1 == 0) = true then pure (fiH a b #[q] (a.size - 1) b.size) else k) ?_
  refine congrArg (fun k => if (b.size == 1) = true then pure (frH a b #[q] (a.size - 1) b.size) else k) ?_
  refine congrArg (fun k => get >>= k) (funext fun st => ?_)
  show ((forIn _ _ _) >>= _) = _
  refine congr (congrArg _ ?_) ?_
  · refine congrArg _ (funext fun _ => funext fun c => ?_)
    unfold hiT
    show ((forIn _ _ _) >>= _) = _
    refine congr (congrArg _ ?_) ?_
    · rfl
    · refine funext fun r => ?_
      obtain ⟨r1, r2⟩ := r
      cases r1
      · show (liftM _ >>= fun _ => ((forIn _ _ _) >>= _)) = _
        refine congrArg _ (funext fun _ => ?_)
        refine congr (congrArg _ ?_) ?_
        · refine congrArg _ (funext fun _ => funext fun c => ?_)
          unfold hiG hi1
          rfl
        · refine funext fun r => ?_
          obtain ⟨r1, _⟩ := r
          cases r1 <;> rfl
      · rfl
  · refine funext fun r => ?_
    obtain ⟨r1, _⟩ := r
    cases r1 <;> rfl
end Srt
end
noncomputable section
namespace Srt
open PySem PyProof.Rows
section
variable {prog : Program} {w : World} {A : Around} {E : Value → Shared → Prop} {s : Shared}
theorem ext0 (a : Array Keyed) (i : Nat) : (a.extract 0 i).toList = a.toList.take i := by
  rw [Array.toList_extract, List.extract_eq_take_drop]
  simp
theorem extm (a : Array Keyed) (r i : Nat) : (a.extract r i).toList = (a.toList.take i).drop r := by
  rw [Array.toList_extract, List.extract_eq_take_drop, List.drop_take]
theorem rpush (o : Array Keyed) (x : Keyed) : (o.push x).reverse.toList = x :: o.reverse.toList := by simp
theorem rapp (o c : Array Keyed) : (o ++ c.reverse).reverse.toList = c.toList ++ o.reverse.toList := by simp
theorem j4d {a : Array Keyed} {i : Nat} {x : Keyed} (h : x ∈ a.toList.take i) : ∃ m, m < i ∧ m < a.size ∧ K a m = kn x := by
  have h' : x ∈ (a.toList.drop 0).take i := by simpa using h
  obtain ⟨m, h1, h2, h3⟩ := j26 h'
  rw [Nat.zero_add] at h2 h3
  exact ⟨m, h1, h2, h3⟩
theorem j0y {a : Array Keyed} {r i : Nat} {x : Keyed} (h : x ∈ (a.toList.take i).drop r) : ∃ m, r ≤ m ∧ m < i ∧ m < a.size ∧ K a m = kn x := by
  rw [List.drop_take] at h
  obtain ⟨m, h1, h2, h3⟩ := j26 h
  exact ⟨r + m, by omega, by omega, h2, h3⟩
abbrev MHa (a b o : Array Keyed) (i j : Nat) : Prop := MH a.toList b.toList o.reverse.toList i j
theorem Two.fiH {a b : Array Keyed} (T : Two a b) {o : Array Keyed} {i j : Nat} (m : MHa a b o i j) (hj : i = 0 ∨ j = 0) : Res a.toList b.toList (fiH a b o i j).toList := by
  unfold Srt.fiH
  rw [Array.toList_append, Array.toList_append, ext0, ext0]
  exact m.fin T.uA T.uB hj
theorem Two.frH {a b : Array Keyed} (T : Two a b) {o : Array Keyed} {i j : Nat} (m : MHa a b o i j) (hj : j = 1) : Res a.toList b.toList (frH a b o i j).toList := by
  unfold Srt.frH
  rw [Array.toList_append, Array.toList_append, ext0, ext0]
  refine m.fir T.uA T.uB fun x hx y hy => ?_
  subst hj
  obtain ⟨q, e, e', _⟩ := j1c T.ib T.hb
  have : b.toList.take 1 = [q] := by simpa using j8b e'
  rw [this] at hx
  rw [List.mem_singleton.mp hx]
  exact T.first q e' y hy
theorem Two.hpushA {a b : Array Keyed} (T : Two a b) {o : Array Keyed} {i j : Nat} {q : Keyed} (m : MHa a b o i j) (h1 : 1 ≤ i) (e : a.toList[i - 1]? = some q) (c : ∀ y ∈ b.toList.take j, kn y ≤ kn q) : MHa a b (o.push q) (i - 1) j := by
  obtain ⟨x, rfl⟩ : ∃ x, i = x + 1 := ⟨i - 1, by omega⟩
  unfold MHa
  rw [rpush]; exact MH.one m T.uA e c
theorem Two.hpushB {a b : Array Keyed} (T : Two a b) {o : Array Keyed} {i j : Nat} {q : Keyed} (m : MHa a b o i j) (h1 : 1 ≤ j) (e : b.toList[j - 1]? = some q) (c : ∀ y ∈ a.toList.take i, kn y ≤ kn q) : MHa a b (o.push q) i (j - 1) := by
  obtain ⟨x, rfl⟩ : ∃ x, j = x + 1 := ⟨j - 1, by omega⟩
  unfold MHa
  rw [rpush]; exact MH.oneB m T.uB e c
theorem Two.hmanyA {a b : Array Keyed} (T : Two a b) {o : Array Keyed} {i j r : Nat} (m : MHa a b o i j) (hr : r ≤ i) (hi : i ≤ a.size) (c : ∀ x ∈ b.toList.take j, ∀ y ∈ (a.toList.take i).drop r, kn x ≤ kn y) : MHa a b (o ++ (a.extract r i).reverse) r j := by
  unfold MHa
  rw [rapp, extm]; exact m.chunk T.uA r hr (by simpa using hi) c
theorem Two.hmanyB {a b : Array Keyed} (T : Two a b) {o : Array Keyed} {i j r : Nat} (m : MHa a b o i j) (hr : r ≤ j) (hj : j ≤ b.size) (c : ∀ x ∈ a.toList.take i, ∀ y ∈ (b.toList.take j).drop r, kn x ≤ kn y) : MHa a b (o ++ (b.extract r j).reverse) i r := by
  unfold MHa
  rw [rapp, extm]; exact m.chunkB T.uB r hr (by simpa using hj) c
theorem foot1 {a : Array Keyed} (u : Up a.toList) {i : Nat} {p : Keyed} (h : 1 ≤ i) (e : a.toList[i - 1]? = some p) : ∀ y ∈ a.toList.take i, kn y ≤ kn p := by
  have := u.foot e
  rw [show i - 1 + 1 = i by omega] at this
  exact this
noncomputable def AftH0 (a b : Array Keyed) (N : Nat) (c : Option (Array Keyed) × Nat × Nat × Array Keyed × Nat × Nat) : Prop :=
  (∃ R, c.1 = some R ∧ Res a.toList b.toList R.toList) ∨ (∃ i j o m n, c = (none, i, j, o, m, n) ∧ MHa a b o i j ∧ 1 ≤ i ∧ i ≤ a.size ∧ 1 < j ∧ j ≤ b.size ∧ i + j ≤ N)
theorem wpS_hi0 {a b o : Array Keyed} {i j g m n : Nat} {st st' : SortSt} (hk : kindOf st = oneType') (T : Two a b) (l : Like st st') (I : MHa a b o i j) (h1 : 1 ≤ i) (h1' : i ≤ a.size) (h2 : 1 < j) (h2' : j ≤ b.size)
    {Q : ForInStep (Option (Array Keyed) × Nat × Nat × Array Keyed × Nat × Nat) → SortSt → Prop}
    (hd : ∀ c, AftH0 a b (i + j - 1) c → Q (.done c) st') (hy : ∀ i' j' o' m' n', MHa a b o' i' j' → 1 ≤ i' → i' ≤ a.size → 1 < j' → j' ≤ b.size → i' + j' ≤ i + j - 1 → Q (.yield (none, i', j', o', m', n')) st') :
    wpS (model prog w) A E s (hi0 a b g (none, i, j, o, m, n)) Q st' := by
  obtain ⟨q, e1, e1', k1⟩ := j1c T.ib (show j - 1 < b.size by omega)
  obtain ⟨p, e2, e2', k2⟩ := j1c T.ia (show i - 1 < a.size by omega)
  unfold hi0
  dsimp only
  refine wpS_bind (j0j e1 (wpS_bind (j0j e2 (wpS_bind (j5f (l.1.trans hk) k1 k2 ?_)))))
  dsimp only
  by_cases c : kn q < kn p
  · rw [if_pos (by simpa using c)]
    refine wpS_bind (j0j e2 ?_)
    have I' : MHa a b (o.push p) (i - 1) j := T.hpushA I h1 e2' fun y hy => Int.le_trans (foot1 T.uB (by omega) e1' y hy) (Int.le_of_lt c)
    by_cases hb : i - 1 = 0
    · rw [if_pos (by simpa using hb)]
      exact wpS_pure (hd _ (.inl ⟨_, rfl, T.fiH I' (.inl hb)⟩))
    · rw [if_neg (by simpa using hb)]
      by_cases hg : m + 1 ≥ g
      · rw [if_pos hg]
        exact wpS_pure (hd _ (.inr ⟨_, _, _, _, _, rfl, I', by omega, by omega, by omega, by omega, by omega⟩))
      · rw [if_neg hg]
        exact wpS_pure (hy _ _ _ _ _ I' (by omega) (by omega) (by omega) (by omega) (by omega))
  · rw [if_neg (by simpa using c)]
    refine wpS_bind (j0j e1 ?_)
    have I' : MHa a b (o.push q) i (j - 1) := T.hpushB I (by omega) e1' fun y hy => Int.le_trans (foot1 T.uA h1 e2' y hy) (Int.not_lt.mp c)
    by_cases hb : j - 1 = 1
    · rw [if_pos (by simpa using hb)]
      exact wpS_pure (hd _ (.inl ⟨_, rfl, T.frH I' hb⟩))
    · rw [if_neg (by simpa using hb)]
      by_cases hg : n + 1 ≥ g
      · rw [if_pos hg]
        exact wpS_pure (hd _ (.inr ⟨_, _, _, _, _, rfl, I', by omega, by omega, by omega, by omega, by omega⟩))
      · rw [if_neg hg]
        exact wpS_pure (hy _ _ _ _ _ I' (by omega) (by omega) (by omega) (by omega) (by omega))
noncomputable def AftH1 (a b : Array Keyed) (N : Nat) (c : HiSt) : Prop :=
  (∃ R, c.1 = some R ∧ Res a.toList b.toList R.toList) ∨ (∃ i j o g m n, c = (none, i, j, o, g, m, n) ∧ MHa a b o i j ∧ 1 ≤ i ∧ i ≤ a.size ∧ 1 < j ∧ j ≤ b.size ∧ i + j ≤ N)
noncomputable def WH1 (a b : Array Keyed) (st : SortSt) (N : Nat) (r : ForInStep HiSt) (st' : SortSt) : Prop :=
  Like st st' ∧ match r with
    | .done c => AftH1 a b N c
    | .yield c => c.1 = none ∧ AftH1 a b N c
theorem j8f {a b o : Array Keyed} {i j g m n N : Nat} {st st' : SortSt} (T : Two a b) (l : Like st st') (I : MHa a b o i j) (h1 : 1 ≤ i) (h1' : i ≤ a.size) (h2 : 1 < j) (h2' : j ≤ b.size) (hN : i + j ≤ N) (hi : ∀ p, a.toList[i - 1]? = some p → ∀ y ∈ b.toList.take j, kn y ≤ kn p) :
    wpS (model prog w) A E s (hi4 a b i j o g m n) (WH1 a b st N) st' := by
  obtain ⟨p, e2, e2', k2⟩ := j1c T.ia (show i - 1 < a.size by omega)
  unfold hi4
  refine wpS_bind (j0j e2 ?_)
  have I' : MHa a b (o.push p) (i - 1) j := T.hpushA I h1 e2' (hi p e2')
  by_cases hb : i - 1 = 0
  · rw [if_pos (by simpa using hb)]
    exact wpS_pure ⟨l, .inl ⟨_, rfl, T.fiH I' (.inl hb)⟩⟩
  · rw [if_neg (by simpa using hb)]
    split
    · exact wpS_pure ⟨l, .inr ⟨_, _, _, _, _, _, rfl, I', by omega, by omega, by omega, by omega, by omega⟩⟩
    · exact wpS_pure ⟨l, rfl, .inr ⟨_, _, _, _, _, _, rfl, I', by omega, by omega, by omega, by omega, by omega⟩⟩
theorem wpS_hi3 {a b o : Array Keyed} {i j g m n N : Nat} {st st' : SortSt} (hk : kindOf st = oneType') (T : Two a b) (l : Like st st') (I : MHa a b o i j) (h1 : 1 ≤ i) (h1' : i ≤ a.size) (h2 : 1 < j) (h2' : j ≤ b.size) (hN : i + j ≤ N) :
    wpS (model prog w) A E s (hi3 a b i j o g m n) (WH1 a b st N) st' := by
  obtain ⟨p, e2, e2', k2⟩ := j1c T.ia (show i - 1 < a.size by omega)
  unfold hi3
  refine wpS_bind (j0j e2 (wpS_bind ?_))
  refine j1f (l.1.trans hk) k2 (fun x hx => ?_) (fun x y hxy hy => T.uB.K_le (by omega) (by omega)) (by omega) fun r hr0 ht hf => ?_
  · obtain ⟨q, z1, _, z2⟩ := j1c T.ib (show 0 + x < b.size by omega)
    exact ⟨q, z1, z2⟩
  dsimp only
  have lo : ∀ p', a.toList[i - 1]? = some p' → ∀ y ∈ b.toList.take r, kn y ≤ kn p' := fun p' e y hy => by
    rw [e2'] at e; cases e
    obtain ⟨x, hx, _, e3⟩ := j4d hy
    have := ht x hx
    unfold fq at this
    simp at this
    rw [e3] at this
    exact Int.le_of_lt this
  by_cases h0 : j - r > 0
  · rw [if_pos h0]
    have I' : MHa a b (o ++ (b.extract r j).reverse) i r := T.hmanyB I hr0 h2' fun x hx y hy => by
      obtain ⟨z, hz, hz2, _, e3⟩ := j0y hy
      have := hf z hz hz2
      unfold fq at this
      simp at this
      rw [e3] at this
      exact Int.le_trans (foot1 T.uA h1 e2' x hx) this
    by_cases hb : r = 1
    · rw [if_pos (by simpa using hb)]
      exact wpS_pure ⟨l, .inl ⟨_, rfl, T.frH I' hb⟩⟩
    · rw [if_neg (by simpa using hb)]
      by_cases hb2 : r = 0
      · rw [if_pos (by simpa using hb2)]
        exact wpS_pure ⟨l, .inl ⟨_, rfl, T.fiH I' (.inr hb2)⟩⟩
      · rw [if_neg (by simpa using hb2)]
        exact j8f T l I' h1 h1' (by omega) (by omega) (by omega) lo
  · rw [if_neg h0]
    have : r = j := by omega
    subst this
    exact j8f T l I h1 h1' h2 h2' hN lo
theorem j8g {a b o : Array Keyed} {i j g m n N : Nat} {st st' : SortSt} (hk : kindOf st = oneType') (T : Two a b) (l : Like st st') (I : MHa a b o i j) (h1 : 1 ≤ i) (h1' : i ≤ a.size) (h2 : 1 < j) (h2' : j ≤ b.size) (hN : i + j ≤ N) (hi : ∀ p, b.toList[j - 1]? = some p → ∀ y ∈ a.toList.take i, kn y ≤ kn p) :
    wpS (model prog w) A E s (hi2 a b i j o g m n) (WH1 a b st N) st' := by
  obtain ⟨q, e1, e1', k1⟩ := j1c T.ib (show j - 1 < b.size by omega)
  unfold hi2
  refine wpS_bind (j0j e1 ?_)
  have I' : MHa a b (o.push q) i (j - 1) := T.hpushB I (by omega) e1' (hi q e1')
  by_cases hb : j - 1 = 1
  · rw [if_pos (by simpa using hb)]
    exact wpS_pure ⟨l, .inl ⟨_, rfl, T.frH I' hb⟩⟩
  · rw [if_neg (by simpa using hb)]
    exact wpS_hi3 hk T l I' h1 h1' (by omega) (by omega) (by omega)
theorem j8h {a b o : Array Keyed} {i j g m n N : Nat} {st st' : SortSt} (hk : kindOf st = oneType') (T : Two a b) (l : Like st st') (I : MHa a b o i j) (h1 : 1 ≤ i) (h1' : i ≤ a.size) (h2 : 1 < j) (h2' : j ≤ b.size) (hN : i + j ≤ N) :
    wpS (model prog w) A E s (hi1 a b i j o g m n) (WH1 a b st N) st' := by
  obtain ⟨q, e1, e1', k1⟩ := j1c T.ib (show j - 1 < b.size by omega)
  unfold hi1
  rw [j2c]
  refine wpS_bind (wpS_modify ?_)
  have l' := l.step g
  refine wpS_bind (j0j e1 (wpS_bind ?_))
  refine j1f (l'.1.trans hk) k1 (fun x hx => ?_) (fun x y hxy hy => T.uA.K_le (by omega) (by omega)) (by omega) fun r hr0 ht hf => ?_
  · obtain ⟨q, z1, _, z2⟩ := j1c T.ia (show 0 + x < a.size by omega)
    exact ⟨q, z1, z2⟩
  dsimp only
  have lo : ∀ p', b.toList[j - 1]? = some p' → ∀ y ∈ a.toList.take r, kn y ≤ kn p' := fun p' e y hy => by
    rw [e1'] at e; cases e
    obtain ⟨x, hx, _, e3⟩ := j4d hy
    have := ht x hx
    unfold fq at this
    simp at this
    rw [e3] at this
    exact this
  by_cases h0 : i - r > 0
  · rw [if_pos h0]
    have I' : MHa a b (o ++ (a.extract r i).reverse) r j := T.hmanyA I hr0 h1' fun x hx y hy => by
      obtain ⟨z, hz, hz2, _, e3⟩ := j0y hy
      have := hf z hz hz2
      unfold fq at this
      simp at this
      rw [e3] at this
      exact Int.le_trans (foot1 T.uB (by omega) e1' x hx) (Int.le_of_lt this)
    by_cases hb : r = 0
    · rw [if_pos (by simpa using hb)]
      exact wpS_pure ⟨l', .inl ⟨_, rfl, T.fiH I' (.inl hb)⟩⟩
    · rw [if_neg (by simpa using hb)]
      exact j8g hk T l' I' (by omega) (by omega) h2 h2' (by omega) lo
  · rw [if_neg h0]
    have : r = i := by omega
    subst this
    exact j8g hk T l' I h1 h1' h2 h2' hN lo
theorem wpS_hiG {a b o : Array Keyed} {i j g m n N : Nat} {st st' : SortSt} (hk : kindOf st = oneType') (T : Two a b) (l : Like st st') (I : MHa a b o i j) (h1 : 1 ≤ i) (h1' : i ≤ a.size) (h2 : 1 < j) (h2' : j ≤ b.size) (hN : i + j ≤ N) :
    wpS (model prog w) A E s (hiG a b (none, i, j, o, g, m, n)) (WH1 a b st N) st' := by
  unfold hiG
  dsimp only
  split
  · exact j8h hk T l I h1 h1' h2 h2' hN
  · exact j8h hk T l I h1 h1' h2 h2' hN
theorem wpS_hiT {a b o : Array Keyed} {i j g : Nat} {st st' : SortSt} (hk : kindOf st = oneType') (T : Two a b) (l : Like st st') (I : MHa a b o i j) (h1 : 1 ≤ i) (h1' : i ≤ a.size) (h2 : 1 < j) (h2' : j ≤ b.size)
    {Q : ForInStep (Option (Array Keyed) × Nat × Nat × Array Keyed × Nat) → SortSt → Prop}
    (hd : ∀ c st', Like st st' → (∃ R, c.1 = some R ∧ Res a.toList b.toList R.toList) → Q (.done c) st')
    (hy : ∀ i' j' o' g' st', Like st st' → MHa a b o' i' j' → 1 ≤ i' → i' ≤ a.size → 1 < j' → j' ≤ b.size → i' + j' ≤ i + j - 1 → Q (.yield (none, i', j', o', g')) st') :
    wpS (model prog w) A E s (hiT a b (none, i, j, o, g)) Q st' := by
  unfold hiT
  dsimp only
  refine wpS_bind (wpS_mono (wpS_forRange (I := fun x c st2 => st2 = st' ∧ ∃ i' j' o' m n, c = (none, i', j', o', m, n) ∧ MHa a b o' i' j' ∧ 1 ≤ i' ∧ i' ≤ a.size ∧ 1 < j' ∧ j' ≤ b.size ∧ i' + j' + x ≤ i + j)
    (Q := fun c st2 => st2 = st' ∧ AftH0 a b (i + j - 1) c) ?step ?fin ⟨rfl, i, j, o, 0, 0, rfl, I, h1, h1', h2, h2', by omega⟩) ?post)
  case fin =>
    rintro c st2 ⟨rfl, i', j', o', m, n, rfl, I', k1, k1', k2, k2', k3⟩
    exact ⟨rfl, .inr ⟨i', j', o', m, n, rfl, I', k1, k1', k2, k2', by omega⟩⟩
  case step =>
    rintro x c st2 _ hx ⟨rfl, i', j', o', m, n, rfl, I', k1, k1', k2, k2', k3⟩
    refine wpS_hi0 hk T l I' k1 k1' k2 k2' (fun c hc => ⟨rfl, ?_⟩) fun i2 j2 o2 m2 n2 I2 q1 q1' q2 q2' q3 => ⟨rfl, i2, j2, o2, m2, n2, rfl, I2, q1, q1', q2, q2', by omega⟩
    rcases hc with hc | ⟨i2, j2, o2, m2, n2, rfl, I2, q1, q1', q2, q2', q3⟩
    · exact .inl hc
    · exact .inr ⟨i2, j2, o2, m2, n2, rfl, I2, q1, q1', q2, q2', by omega⟩
  case post =>
    rintro c st2 ⟨rfl, hc⟩
    rcases hc with ⟨R, e, hR⟩ | ⟨i2, j2, o2, m2, n2, rfl, I2, q1, q1', q2, q2', q3⟩
    · rw [e]
      exact wpS_pure (hd _ _ l ⟨R, rfl, hR⟩)
    · dsimp only
      refine wpS_bind (wpS_lift (wpAny_rule ⟨rfl, ?_⟩))
      refine wpS_bind (wpS_mono (wpS_forRange (I := fun x c st3 => Like st st3 ∧ c.1 = none ∧ AftH1 a b (i + j - 1) c) (Q := fun c st3 => Like st st3 ∧ AftH1 a b (i + j - 1) c)
        ?step2 (fun c st3 ⟨z1, _, z2⟩ => ⟨z1, z2⟩) ⟨l, rfl, .inr ⟨_, _, _, _, _, _, rfl, I2, q1, q1', q2, q2', by omega⟩⟩) ?post2)
      case step2 =>
        rintro x c st3 _ hx ⟨l3, e3, z⟩
        rcases z with ⟨R, e, _⟩ | ⟨i3, j3, o3, g3, m3, n3, rfl, I3, r1, r1', r2, r2', r3⟩
        · rw [e3] at e; cases e
        · refine wpS_mono (wpS_hiG hk T l3 I3 r1 r1' r2 r2' r3) fun r st4 h4 => ?_
          cases r with
          | done c => exact h4
          | yield c => exact h4
      case post2 =>
        rintro c st3 ⟨l3, z⟩
        rcases z with ⟨R, e, hR⟩ | ⟨i3, j3, o3, g3, m3, n3, rfl, I3, r1, r1', r2, r2', r3⟩
        · rw [e]
          exact wpS_pure (hd _ _ l3 ⟨R, rfl, hR⟩)
        · dsimp only
          rw [j2c]
          refine wpS_bind (wpS_modify ?_)
          exact wpS_pure (hy _ _ _ _ _ (l3.step _) I3 r1 r1' r2 r2' r3)
theorem j5x {a b : Array Keyed} {st : SortSt} {Q : Array Keyed → SortSt → Prop} (hk : kindOf st = oneType') (T : Two a b) (h : ∀ R st', Like st st' → Res a.toList b.toList R.toList → Q R st') :
    wpS (model prog w) A E s (j4r a b) Q st := by
  rw [j5j, mHiD_eq]
  unfold mHi
  refine wpS_bind (wpS_lift (wpAny_rule ⟨rfl, ?_⟩))
  have ha := T.ha
  have hb := T.hb
  obtain ⟨q0, e0, e0', i0⟩ := j1c T.ia (show a.size - 1 < a.size by omega)
  refine wpS_bind (j0j e0 ?_)
  have hd : a.toList.drop (a.size - 1) = [q0] := by
    have := j8b e0'
    rw [← this, List.take_of_length_le]
    simp
    omega
  have m0 : MHa a b #[q0] (a.size - 1) b.size := by
    refine ⟨?_, by simp [Up], ?_, ?_⟩
    · rw [hd, List.drop_eq_nil_of_le (by simp)]; simp
    · intro x hx y hy
      simp at hy; subst hy
      exact T.uA.foot e0' x (by
        rw [List.take_of_length_le (by simp; omega)]
        exact List.mem_of_mem_take hx)
    · intro x hx y hy
      simp at hy; subst hy
      exact T.last x (List.mem_of_mem_take hx) _ (by rw [hd]; simp)
  by_cases ha1 : a.size - 1 = 0
  · rw [if_pos (by simpa using ha1)]
    exact wpS_pure (h _ _ (Like.refl _) (T.fiH m0 (.inl ha1)))
  rw [if_neg (by simpa using ha1)]
  by_cases hb1 : b.size = 1
  · rw [if_pos (by simpa using hb1)]
    exact wpS_pure (h _ _ (Like.refl _) (T.frH m0 hb1))
  rw [if_neg (by simpa using hb1)]
  refine wpS_bind (wpS_get ?_)
  refine wpS_bind (wpS_mono (wpS_forRange (I := fun x c st' => Like st st' ∧ ∃ i j o g, c = (none, i, j, o, g) ∧ MHa a b o i j ∧ 1 ≤ i ∧ i ≤ a.size ∧ 1 < j ∧ j ≤ b.size ∧ i + j + x ≤ a.size + b.size)
    (Q := fun c st' => Like st st' ∧ ∃ R, c.1 = some R ∧ Res a.toList b.toList R.toList) ?step ?fin ⟨Like.refl _, _, _, _, _, rfl, m0, by omega, by omega, by omega, by omega, by omega⟩) ?post)
  case post =>
    rintro c st' ⟨l, R, e, r⟩
    rw [e]
    exact wpS_pure (h R st' l r)
  case fin =>
    rintro c st' ⟨l, i, j, o, g, rfl, m, h1, h1', h2, h2', h3⟩
    omega
  case step =>
    rintro x c st' _ hx ⟨l, i, j, o, g, rfl, m, h1, h1', h2, h2', h3⟩
    exact wpS_hiT hk T l m h1 h1' h2 h2' (fun c st2 l2 r2 => ⟨l2, r2⟩) fun i' j' o' g' st2 l2 m2 k1 k1' k2 k2' k3 => ⟨l2, i', j', o', g', rfl, m2, k1, k1', k2, k2', by omega⟩
end
end Srt
end
noncomputable section
namespace Srt
open PySem PyProof.Rows
noncomputable def Seg (xs : Array Keyed) (lo hi : Nat) : Prop := ∀ i j, lo ≤ i → i ≤ j → j < hi → K xs i ≤ K xs j
noncomputable def Geg (xs : Array Keyed) (lo hi : Nat) : Prop := ∀ i j, lo ≤ i → i ≤ j → j < hi → K xs j ≤ K xs i
noncomputable def IK (xs : Array Keyed) : Prop := ∀ p ∈ xs.toList, IntKey p
structure Mv (lo : Nat) (st st' : SortSt) : Prop where
  kind : kindOf st' = kindOf st
  failed : failedOf st' = failedOf st
  pend : pendingOf st' = pendingOf st
  perm : (arrOf st').Perm (arrOf st)
  low : ∀ k, k < lo → (arrOf st')[k]? = (arrOf st)[k]?
theorem Mv.refl (lo : Nat) (st : SortSt) : Mv lo st st := ⟨rfl, rfl, rfl, Array.Perm.refl _, fun _ _ => rfl⟩
theorem Mv.trans {lo : Nat} {st st1 st2 : SortSt} (a : Mv lo st st1) (b : Mv lo st1 st2) : Mv lo st st2 :=
  ⟨b.kind.trans a.kind, b.failed.trans a.failed, b.pend.trans a.pend, b.perm.trans a.perm, fun k h => (b.low k h).trans (a.low k h)⟩
theorem Mv.size {lo : Nat} {st st' : SortSt} (a : Mv lo st st') : (arrOf st').size = (arrOf st).size := a.perm.size_eq
theorem IK.perm {xs ys : Array Keyed} (h : IK xs) (p : ys.Perm xs) : IK ys := fun q hq => h q ((Array.perm_iff_toList_perm.mp p).mem_iff.mp hq)
theorem Mv.ik {lo : Nat} {st st' : SortSt} (a : Mv lo st st') (h : IK (arrOf st)) : IK (arrOf st') := h.perm a.perm
section
variable {prog : Program} {w : World} {A : Around} {E : Value → Shared → Prop} {s : Shared}
theorem j35 {st : SortSt} {i j : Nat} {Q : Option Bool → SortSt → Prop} (hk : kindOf st = oneType') (ik : IK (arrOf st)) (hi : i < (arrOf st).size) (hj : j < (arrOf st).size)
    (h : Q (some (decide (K (arrOf st) i < K (arrOf st) j))) st) : wpS (model prog w) A E s (ltAt' i j) Q st := by
  obtain ⟨p, e1, _, k1⟩ := j1c ik hi
  obtain ⟨q, e2, _, k2⟩ := j1c ik hj
  rw [ltAt'_eq]
  refine wpS_bind (wpS_get ?_)
  refine wpS_bind (j0j e1 (wpS_bind (j0j e2 (j5f hk k1 k2 ?_))))
  rw [K_at e1, K_at e2] at h
  exact h
theorem Mv.rev {lo : Nat} {st : SortSt} {i j : Nat} (hi : lo ≤ i) (hj : j ≤ (arrOf st).size) : Mv lo st (setArr st (mirror (arrOf st) i j ((j - i) / 2))) :=
  ⟨rfl, rfl, rfl, mirror_perm _ _ _ _, fun k hk => by
    show (mirror (arrOf st) i j ((j - i) / 2))[k]? = _
    rw [getElem?_mirror_all hj, if_neg (by omega)]⟩
noncomputable def ru3 (lo nrem n₀ : Nat) : StateT SortSt Sem (Option Nat) := do
  let mut n := n₀
  for _ in [n:nrem] do
    let some t ← ltAt' (lo + n) (lo + n - 1) | return none
    if t then break
    n := n + 1
  return some n
theorem wpS_ru3 {st st₀ : SortSt} {lo nrem n : Nat} {Q : Option Nat → SortSt → Prop} (hk : kindOf st = oneType') (ik : IK (arrOf st)) (hs : lo + nrem ≤ (arrOf st).size) (h1 : 1 ≤ n) (hn : n ≤ nrem) (hS : Seg (arrOf st) lo (lo + n))
    (h : ∀ m, n ≤ m → m ≤ nrem → Seg (arrOf st) lo (lo + m) → Q (some m) st) : wpS (model prog w) A E s (ru3 lo nrem n) Q st := by
  unfold ru3
  dsimp only
  refine wpS_bind (wpS_mono (wpS_forRange (I := fun x c st' => st' = st ∧ c = (none, x) ∧ n ≤ x ∧ x ≤ nrem ∧ Seg (arrOf st) lo (lo + x)) (Q := fun c st' => st' = st ∧ ∃ x, c = (none, x) ∧ n ≤ x ∧ x ≤ nrem ∧ Seg (arrOf st) lo (lo + x)) ?step ?fin ⟨rfl, rfl, Nat.le_refl _, hn, hS⟩) ?post)
  case post =>
    rintro c st' ⟨rfl, x, rfl, a1, a2, a3⟩
    exact wpS_pure (h x a1 a2 a3)
  case fin =>
    rintro c st' ⟨rfl, rfl, a1, a2, a3⟩
    exact ⟨rfl, _, rfl, a1, a2, a3⟩
  case step =>
    rintro x c st' b1 b2 ⟨rfl, rfl, a1, a2, a3⟩
    dsimp only
    refine wpS_bind (j35 hk ik (by omega) (by omega) ?_)
    dsimp only
    by_cases hlt : K (arrOf st') (lo + x) < K (arrOf st') (lo + x - 1)
    · rw [if_pos (by simpa using hlt)]
      exact wpS_pure ⟨rfl, x, rfl, a1, a2, a3⟩
    · rw [if_neg (by simpa using hlt)]
      refine wpS_pure ⟨rfl, rfl, by omega, by omega, fun i j hi hij hj => ?_⟩
      by_cases e : j = lo + x
      · subst e
        by_cases e2 : i = lo + x
        · subst e2; exact Int.le_refl _
        · exact Int.le_trans (a3 i (lo + x - 1) hi (by omega) (by omega)) (Int.not_lt.mp hlt)
      · exact a3 i j hi hij (by omega)
noncomputable def ru2 (lo nrem n₀ : Nat) : StateT SortSt Sem (Option Nat) := do
  rule "list.sort.descending-run"
  let mut n := n₀
  n := n + 1
  let mut q := 0
  for _ in [n:nrem] do
    let some t ← ltAt' (lo + n) (lo + n - 1) | return none
    if t then
      if q > 0 then reverseSlice' (lo + n - (q + 1)) (lo + n)
      q := 0
    else
      let some u ← ltAt' (lo + n - 1) (lo + n) | return none
      if u then break
      q := q + 1
    n := n + 1
  if q > 0 then reverseSlice' (lo + n - (q + 1)) (lo + n)
  reverseSlice' lo (lo + n)
  ru3 lo nrem n
noncomputable def runD (lo nrem : Nat) : StateT SortSt Sem (Option Nat) := do
  let mut n := 1
  for _ in [1:nrem] do
    let some t ← ltAt' (lo + n) (lo + n - 1) | return none
    if t then break
    n := n + 1
  if n == nrem then return some n
  if n > 1 then
    let some r ← ltAt' lo (lo + n - 1) | return none
    if r then return some n
    reverseSlice' lo (lo + n)
  ru2 lo nrem n
theorem run_eq (lo nrem : Nat) : countRun' lo nrem = runD lo nrem := by
  rw [countRun'_eq]
  unfold runD ru2 ru3
  rfl
end
end Srt
end
noncomputable section
namespace Srt
open PySem PyProof.Rows
section
variable {prog : Program} {w : World} {A : Around} {E : Value → Shared → Prop} {s : Shared}
theorem j36 {xs : Array Keyed} {i j : Nat} (hj : j ≤ xs.size) (heq : ∀ k, i ≤ k → k < j → K xs k = K xs (j - 1)) (k : Nat) : K (mirror xs i j ((j - i) / 2)) k = K xs k := K_mirror_equal hj heq k
theorem j4s {st : SortSt} {i j : Nat} {Q : Unit → SortSt → Prop} (h : Q () (setArr st (mirror (arrOf st) i j ((j - i) / 2)))) : wpS (model prog w) A E s (reverseSlice' i j) Q st := by
  rw [reverseSlice'_eq]
  exact wpS_modify h
structure Fal (xs : Array Keyed) (lo n q : Nat) : Prop where
  geg : Geg xs lo (lo + n)
  like : ∀ k, lo + n - (q + 1) ≤ k → k < lo + n → K xs k = K xs (lo + n - 1)
  le : q + 1 ≤ n
theorem j8i {st : SortSt} {lo nrem n₀ : Nat} {Q : Option Nat → SortSt → Prop} (hk : kindOf st = oneType') (ik : IK (arrOf st)) (hs : lo + nrem ≤ (arrOf st).size) (h1 : 1 ≤ n₀) (hn : n₀ + 1 ≤ nrem) (hG : Geg (arrOf st) lo (lo + (n₀ + 1)))
    (h : ∀ m st', 1 ≤ m → m ≤ nrem → Mv lo st st' → Seg (arrOf st') lo (lo + m) → Q (some m) st') : wpS (model prog w) A E s (ru2 lo nrem n₀) Q st := by
  unfold ru2
  refine wpS_bind (wpS_lift (wpAny_rule ⟨rfl, ?_⟩))
  dsimp only
  refine wpS_bind (wpS_mono (wpS_forRange (I := fun x c st' => Mv lo st st' ∧ ∃ q, c = (none, x, q) ∧ 2 ≤ x ∧ x ≤ nrem ∧ Fal (arrOf st') lo x q)
    (Q := fun c st' => Mv lo st st' ∧ ∃ x q, c = (none, x, q) ∧ 2 ≤ x ∧ x ≤ nrem ∧ Fal (arrOf st') lo x q) ?step ?fin ⟨Mv.refl _ _, 0, rfl, by omega, hn, hG, fun k a b => by rw [show k = lo + (n₀ + 1) - 1 by omega], by omega⟩) ?post)
  case fin =>
    rintro c st' ⟨m, q, rfl, a1, a2, a3⟩
    exact ⟨m, _, q, rfl, by omega, by omega, a3⟩
  case step =>
    rintro x c st' b1 b2 ⟨m, q, rfl, a1, a2, a3⟩
    dsimp only
    have hk' : kindOf st' = oneType' := m.kind.trans hk
    have ik' := m.ik ik
    have sz := m.size
    refine wpS_bind (j35 hk' ik' (by omega) (by omega) ?_)
    dsimp only
    by_cases hlt : K (arrOf st') (lo + x) < K (arrOf st') (lo + x - 1)
    · rw [if_pos (by simpa using hlt)]
      have grow : ∀ st2 : SortSt, (∀ k, K (arrOf st2) k = K (arrOf st') k) → Fal (arrOf st2) lo (x + 1) 0 := fun st2 e => by
        refine ⟨fun i j hi hij hj => ?_, fun k c1 c2 => by rw [show k = lo + (x + 1) - 1 by omega], by omega⟩
        rw [e, e]
        by_cases e1 : j = lo + x
        · subst e1
          by_cases e2 : i = lo + x
          · subst e2; exact Int.le_refl _
          · exact Int.le_trans (Int.le_of_lt hlt) (a3.geg i (lo + x - 1) hi (by omega) (by omega))
        · exact a3.geg i j hi hij (by omega)
      by_cases hq : q > 0
      · rw [if_pos hq]
        refine wpS_bind (j4s ?_)
        refine wpS_pure ⟨m.trans (Mv.rev (by have := a3.le; omega) (by omega)), 0, rfl, by omega, by omega, grow _ fun k => ?_⟩
        exact j36 (by omega) (fun k c1 c2 => a3.like k c1 c2) k
      · rw [if_neg hq]
        exact wpS_pure ⟨m, 0, rfl, by omega, by omega, grow _ fun k => rfl⟩
    · rw [if_neg (by simpa using hlt)]
      refine wpS_bind (j35 hk' ik' (by omega) (by omega) ?_)
      dsimp only
      by_cases hgt : K (arrOf st') (lo + x - 1) < K (arrOf st') (lo + x)
      · rw [if_pos (by simpa using hgt)]
        exact wpS_pure ⟨m, x, q, rfl, by omega, by omega, a3⟩
      · rw [if_neg (by simpa using hgt)]
        have eq : K (arrOf st') (lo + x) = K (arrOf st') (lo + x - 1) := by omega
        refine wpS_pure ⟨m, q + 1, rfl, by omega, by omega, fun i j hi hij hj => ?_, fun k c1 c2 => ?_, by have := a3.le; omega⟩
        · by_cases e1 : j = lo + x
          · subst e1
            by_cases e2 : i = lo + x
            · subst e2; exact Int.le_refl _
            · rw [eq]; exact a3.geg i (lo + x - 1) hi (by omega) (by omega)
          · exact a3.geg i j hi hij (by omega)
        · rw [show lo + (x + 1) - 1 = lo + x by omega, eq]
          by_cases e1 : k = lo + x
          · rw [e1, eq]
          · exact a3.like k (by omega) (by omega)
  case post =>
    rintro c st' ⟨m, x, q, rfl, a1, a2, a3⟩
    dsimp only
    have sz := m.size
    have last : ∀ st2 : SortSt, Mv lo st st2 → (∀ k, K (arrOf st2) k = K (arrOf st') k) → wpS (model prog w) A E s (do reverseSlice' lo (lo + x); ru3 lo nrem x) Q st2 := fun st2 m2 e => by
      have sz2 := m2.size
      refine wpS_bind (j4s ?_)
      have m3 : Mv lo st (setArr st2 (mirror (arrOf st2) lo (lo + x) ((lo + x - lo) / 2))) := m2.trans (Mv.rev (Nat.le_refl _) (by omega))
      have sz3 := m3.size
      refine wpS_ru3 (st₀ := st) (m3.kind.trans hk) (m3.ik ik) (by omega) (by omega) a2 (fun i j hi hij hj => ?_) fun y c1 c2 c3 => h y _ (by omega) c2 m3 c3
      show K (mirror (arrOf st2) lo (lo + x) ((lo + x - lo) / 2)) i ≤ K (mirror (arrOf st2) lo (lo + x) ((lo + x - lo) / 2)) j
      rw [K_mirror (by omega), K_mirror (by omega), if_pos (by omega), if_pos (by omega), e, e]
      exact a3.geg _ _ (by omega) (by omega) (by omega)
    by_cases hq : q > 0
    · rw [if_pos hq]
      refine wpS_bind (j4s ?_)
      exact last _ (m.trans (Mv.rev (by have := a3.le; omega) (by omega))) fun k => j36 (by omega) (fun k c1 c2 => a3.like k c1 c2) k
    · rw [if_neg hq]
      exact last _ m fun k => rfl
theorem wpS_run {st : SortSt} {lo nrem : Nat} {Q : Option Nat → SortSt → Prop} (hk : kindOf st = oneType') (ik : IK (arrOf st)) (hs : lo + nrem ≤ (arrOf st).size) (h1 : 1 ≤ nrem)
    (h : ∀ m st', 1 ≤ m → m ≤ nrem → Mv lo st st' → Seg (arrOf st') lo (lo + m) → Q (some m) st') : wpS (model prog w) A E s (countRun' lo nrem) Q st := by
  rw [run_eq]
  unfold runD
  dsimp only
  refine wpS_bind (wpS_mono (wpS_forRange (I := fun x c st' => st' = st ∧ c = (none, x) ∧ 1 ≤ x ∧ x ≤ nrem ∧ Seg (arrOf st) lo (lo + x))
    (Q := fun c st' => st' = st ∧ ∃ x, c = (none, x) ∧ 1 ≤ x ∧ x ≤ nrem ∧ Seg (arrOf st) lo (lo + x) ∧ (x = nrem ∨ (x < nrem ∧ K (arrOf st) (lo + x) < K (arrOf st) (lo + x - 1)))) ?step ?fin ⟨rfl, rfl, Nat.le_refl _, h1, fun i j hi hij hj => by rw [show i = j by omega]; exact Int.le_refl _⟩) ?post)
  case fin =>
    rintro c st' ⟨rfl, rfl, a1, a2, a3⟩
    exact ⟨rfl, _, rfl, a1, a2, a3, .inl (by omega)⟩
  case step =>
    rintro x c st' b1 b2 ⟨rfl, rfl, a1, a2, a3⟩
    dsimp only
    refine wpS_bind (j35 hk ik (by omega) (by omega) ?_)
    dsimp only
    by_cases hlt : K (arrOf st') (lo + x) < K (arrOf st') (lo + x - 1)
    · rw [if_pos (by simpa using hlt)]
      exact wpS_pure ⟨rfl, x, rfl, a1, a2, a3, .inr ⟨b2, hlt⟩⟩
    · rw [if_neg (by simpa using hlt)]
      refine wpS_pure ⟨rfl, rfl, by omega, by omega, fun i j hi hij hj => ?_⟩
      by_cases e : j = lo + x
      · subst e
        by_cases e2 : i = lo + x
        · subst e2; exact Int.le_refl _
        · exact Int.le_trans (a3 i (lo + x - 1) hi (by omega) (by omega)) (Int.not_lt.mp hlt)
      · exact a3 i j hi hij (by omega)
  case post =>
    rintro c st' ⟨rfl, x, rfl, a1, a2, a3, a4⟩
    dsimp only
    by_cases e : x = nrem
    · rw [if_pos (by simpa using e)]
      exact wpS_pure (h x _ a1 a2 (Mv.refl _ _) a3)
    rw [if_neg (by simpa using e)]
    obtain ⟨hx, hlt⟩ : x < nrem ∧ K (arrOf st') (lo + x) < K (arrOf st') (lo + x - 1) := a4.resolve_left e
    by_cases hx1 : x > 1
    · rw [if_pos hx1]
      refine wpS_bind (j35 hk ik (by omega) (by omega) ?_)
      dsimp only
      by_cases hr : K (arrOf st') lo < K (arrOf st') (lo + x - 1)
      · rw [if_pos (by simpa using hr)]
        exact wpS_pure (h x _ a1 a2 (Mv.refl _ _) a3)
      · rw [if_neg (by simpa using hr)]
        have same : ∀ k, lo ≤ k → k < lo + x → K (arrOf st') k = K (arrOf st') (lo + x - 1) := fun k c1 c2 => by
          have z1 := a3 lo k (Nat.le_refl _) c1 c2
          have z2 := a3 k (lo + x - 1) c1 (by omega) (by omega)
          omega
        refine wpS_bind (j4s ?_)
        have m : Mv lo st' (setArr st' (mirror (arrOf st') lo (lo + x) ((lo + x - lo) / 2))) := Mv.rev (Nat.le_refl _) (by omega)
        have e3 : ∀ k, K (mirror (arrOf st') lo (lo + x) ((lo + x - lo) / 2)) k = K (arrOf st') k := j36 (by omega) same
        have sz := m.size
        refine j8i (m.kind.trans hk) (m.ik ik) (by omega) a1 hx (fun i j hi hij hj => ?_) fun y st2 c1 c2 m2 c3 => h y st2 c1 c2 (m.trans m2) c3
        show K (mirror (arrOf st') lo (lo + x) ((lo + x - lo) / 2)) j ≤ K (mirror (arrOf st') lo (lo + x) ((lo + x - lo) / 2)) i
        rw [e3, e3]
        by_cases e4 : j = lo + x
        · subst e4
          by_cases e5 : i = lo + x
          · subst e5; exact Int.le_refl _
          · rw [same i hi (by omega)]; exact Int.le_of_lt hlt
        · rw [same i hi (by omega), same j (by omega) (by omega)]; exact Int.le_refl _
    · rw [if_neg hx1]
      have : x = 1 := by omega
      subst this
      refine j8i hk ik hs a1 hx (fun i j hi hij hj => ?_) fun y st2 c1 c2 m2 c3 => h y st2 c1 c2 m2 c3
      by_cases e4 : i = j
      · subst e4; exact Int.le_refl _
      · rw [show j = lo + 1 by omega, show i = lo + 1 - 1 by omega]; exact Int.le_of_lt hlt
theorem Mv.bub {lo : Nat} {st : SortSt} {src d : Nat} (hs : src < (arrOf st).size) (hd : lo + d ≤ src) : Mv lo st (setArr st (bubble (arrOf st) src d)) :=
  ⟨rfl, rfl, rfl, bubble_perm _ _ _, fun k hk => by
    show (bubble (arrOf st) src d)[k]? = _
    rw [getElem?_bubble hs d (by omega), if_neg (by omega), if_neg (by omega)]⟩
theorem wpS_bin {st : SortSt} {lo n ok : Nat} {Q : Bool → SortSt → Prop} (hk : kindOf st = oneType') (ik : IK (arrOf st)) (hn : lo + n ≤ (arrOf st).size) (hok : ok ≤ n) (hS : Seg (arrOf st) lo (lo + ok))
    (h : ∀ st', Mv lo st st' → Seg (arrOf st') lo (lo + n) → Q true st') : wpS (model prog w) A E s (binarySort' lo n ok) Q st := by
  rw [binarySort'_eq]
  refine wpS_bind (wpS_mono (wpS_forRange (I := fun k c st' => c = (none, ()) ∧ Mv lo st st' ∧ Seg (arrOf st') lo (lo + min k n))
    (Q := fun c st' => c = (none, ()) ∧ Mv lo st st' ∧ Seg (arrOf st') lo (lo + n)) ?step ?fin ?init) ?post)
  case post =>
    rintro c st' ⟨rfl, m, hs'⟩
    exact wpS_pure (h st' m hs')
  case init =>
    refine ⟨rfl, Mv.refl _ _, fun i j hi hij hj => ?_⟩
    by_cases h1 : ok = 0
    · rw [show i = j by omega]; exact Int.le_refl _
    · exact hS i j hi hij (by omega)
  case fin =>
    rintro c st' ⟨hc, m, hs'⟩
    refine ⟨hc, m, ?_⟩
    rwa [show min (max (max ok 1) n) n = n by omega] at hs'
  case step =>
    rintro k c st' hak hkn ⟨rfl, m, hs'⟩
    rw [show min k n = k by omega] at hs'
    have sz := m.size
    have ik' := m.ik ik
    have hk' : kindOf st' = oneType' := m.kind.trans hk
    refine wpS_bind (wpS_mono (wpS_forRange (I := fun x c st'' => st'' = st' ∧ ∃ l r, c = (none, l, r) ∧ l ≤ r ∧ r ≤ k ∧ r - l ≤ k - x ∧
        (∀ i, i < l → K (arrOf st') (lo + i) ≤ K (arrOf st') (lo + k)) ∧ (∀ i, r ≤ i → i < k → K (arrOf st') (lo + k) < K (arrOf st') (lo + i)))
      (Q := fun c st'' => st'' = st' ∧ ∃ l r, c = (none, l, r) ∧ l ≤ k ∧
        (∀ i, i < l → K (arrOf st') (lo + i) ≤ K (arrOf st') (lo + k)) ∧ (∀ i, l ≤ i → i < k → K (arrOf st') (lo + k) < K (arrOf st') (lo + i))) ?istep ?ifin ?iinit) ?ipost)
    case iinit => exact ⟨rfl, 0, k, rfl, by omega, by omega, by omega, fun i hi => by omega, fun i h1 h2 => by omega⟩
    case ifin =>
      rintro c st'' ⟨rfl, l, r, rfl, hlr, hrk, hm, hlo, hhi⟩
      have : l = r := by omega
      subst this
      exact ⟨rfl, l, l, rfl, hrk, hlo, hhi⟩
    case istep =>
      rintro x c st'' _ hxk ⟨rfl, l, r, rfl, hlr, hrk, hm, hlo, hhi⟩
      dsimp only
      by_cases hge : l ≥ r
      · rw [if_pos hge]
        have : l = r := by omega
        subst this
        exact wpS_pure ⟨rfl, l, l, rfl, hrk, hlo, hhi⟩
      · rw [if_neg hge]
        refine wpS_bind (j35 hk' ik' (by omega) (by omega) ?_)
        dsimp only
        by_cases hless : K (arrOf st'') (lo + k) < K (arrOf st'') (lo + (l + r) / 2)
        · rw [if_pos (by simpa using hless)]
          refine wpS_pure ⟨rfl, l, (l + r) / 2, rfl, by omega, by omega, by omega, hlo, fun i h1 h2 => ?_⟩
          exact Int.lt_of_lt_of_le hless (hs' _ _ (by omega) (by omega) (by omega))
        · rw [if_neg (by simpa using hless)]
          refine wpS_pure ⟨rfl, (l + r) / 2 + 1, r, rfl, by omega, by omega, by omega, fun i h1 => ?_, hhi⟩
          exact Int.le_trans (hs' (lo + i) (lo + (l + r) / 2) (by omega) (by omega) (by omega)) (Int.not_lt.mp hless)
    case ipost =>
      rintro c st'' ⟨rfl, l, r, rfl, hlk, hlo, hhi⟩
      show wpS _ _ _ _ (do moveDown' (lo + k) (lo + l); pure (ForInStep.yield (none, ()))) _ _
      rw [moveDown'_eq]
      refine wpS_bind (wpS_modify (wpS_pure ⟨rfl, m.trans (Mv.bub (by omega) (by omega)), ?_⟩))
      rw [show min (k + 1) n = k + 1 by omega]
      have hks : lo + k < (arrOf st'').size := by omega
      intro i j hi hij hj
      show K (bubble (arrOf st'') (lo + k) (lo + k - (lo + l))) i ≤ K (bubble (arrOf st'') (lo + k) (lo + k - (lo + l))) j
      rw [K_bubble hks (by omega), K_bubble hks (by omega), show lo + k - (lo + k - (lo + l)) = lo + l by omega]
      have hlo' : ∀ i, lo ≤ i → i < lo + l → K (arrOf st'') i ≤ K (arrOf st'') (lo + k) := fun i a b => by
        have := hlo (i - lo) (by omega)
        rwa [show lo + (i - lo) = i by omega] at this
      have hhi' : ∀ i, lo + l ≤ i → i < lo + k → K (arrOf st'') (lo + k) < K (arrOf st'') i := fun i a b => by
        have := hhi (i - lo) (by omega) (by omega)
        rwa [show lo + (i - lo) = i by omega] at this
      repeat' split
      all_goals first
        | (exfalso; omega)
        | exact Int.le_refl _
        | exact hlo' _ (by omega) (by omega)
        | exact Int.le_of_lt (hhi' _ (by omega) (by omega))
        | exact hs' _ _ (by omega) (by omega) (by omega)
end
end Srt
end
noncomputable section
namespace Srt
open PySem PyProof.Rows
theorem writes (sa : Nat) : ∀ (m : List Keyed) (j : Nat) (a : Array Keyed), sa + j + m.length ≤ a.size →
    ((m.zipIdx j).foldl (fun (a : Array Keyed) (z : Keyed × Nat) => a.setIfInBounds (sa + z.2) z.1) a).toList = a.toList.take (sa + j) ++ m ++ a.toList.drop (sa + j + m.length)
  | [], j, a, h => by simp
  | p :: m, j, a, h => by
    rw [List.zipIdx_cons, List.foldl_cons, writes sa m (j + 1) _ (by simp at h ⊢; omega)]
    have hl : sa + j < a.toList.length := by simp at h ⊢; omega
    rw [Array.toList_setIfInBounds]
    dsimp only
    rw [show sa + (j + 1) = sa + j + 1 by omega, List.take_succ_eq_append_getElem (by simpa using hl), List.getElem_set_self, List.take_set_of_le (Nat.le_refl _),
      List.drop_set_of_lt (by omega)]
    simp only [List.length_cons, List.append_assoc, List.singleton_append, List.cons_append, List.nil_append]
    rw [show sa + j + 1 + m.length = sa + j + (m.length + 1) by omega]
theorem j6h {xs : Array Keyed} {lo hi : Nat} (h : Seg xs lo hi) (hs : hi ≤ xs.size) : Up ((xs.toList.take hi).drop lo) := by
  rw [Up, List.pairwise_iff_getElem]
  intro i j hi' hj hij
  rw [List.length_drop, List.length_take] at hi' hj
  have hl : xs.toList.length = xs.size := by simp
  have z := h (lo + i) (lo + j) (by omega) (by omega) (by omega)
  have e1 : xs[lo + i]? = some ((xs.toList.take hi).drop lo)[i] := by
    rw [List.getElem_drop, List.getElem_take]; simp
  have e2 : xs[lo + j]? = some ((xs.toList.take hi).drop lo)[j] := by
    rw [List.getElem_drop, List.getElem_take]; simp
  rw [K_at e1, K_at e2] at z
  exact z
theorem up_seg {xs : Array Keyed} {lo hi : Nat} (h : Up ((xs.toList.take hi).drop lo)) (hs : hi ≤ xs.size) : Seg xs lo hi := by
  intro i j hi' hij hj
  by_cases e : i = j
  · subst e; exact Int.le_refl _
  rw [Up, List.pairwise_iff_getElem] at h
  have hl : xs.toList.length = xs.size := by simp
  have b1 : i - lo < ((xs.toList.take hi).drop lo).length := by rw [List.length_drop, List.length_take]; omega
  have b2 : j - lo < ((xs.toList.take hi).drop lo).length := by rw [List.length_drop, List.length_take]; omega
  have z := h (i - lo) (j - lo) b1 b2 (by omega)
  have e1 : xs[i]? = some ((xs.toList.take hi).drop lo)[i - lo] := by
    rw [List.getElem_drop, List.getElem_take]
    simp only [show lo + (i - lo) = i by omega]
    simp
  have e2 : xs[j]? = some ((xs.toList.take hi).drop lo)[j - lo] := by
    rw [List.getElem_drop, List.getElem_take]
    simp only [show lo + (j - lo) = j by omega]
    simp
  rw [K_at e1, K_at e2]
  exact z
structure Anew (lo hi : Nat) (xs ys : Array Keyed) : Prop where
  perm : ys.Perm xs
  out : ∀ k, k < lo ∨ hi ≤ k → ys[k]? = xs[k]?
theorem anew_of {lo hi : Nat} {xs ys : Array Keyed} {S : List Keyed} (hl : lo ≤ hi) (hh : hi ≤ xs.size) (e : ys.toList = xs.toList.take lo ++ S ++ xs.toList.drop hi) (p : S.Perm ((xs.toList.take hi).drop lo)) :
    Anew lo hi xs ys ∧ (ys.toList.take hi).drop lo = S := by
  have hx : xs.toList.length = xs.size := by simp
  have dec : xs.toList = xs.toList.take lo ++ (xs.toList.take hi).drop lo ++ xs.toList.drop hi := by
    rw [List.append_assoc, ← j2d hl (by omega), List.take_append_drop]
  have sl : S.length = hi - lo := by rw [p.length_eq, List.length_drop, List.length_take]; omega
  refine ⟨⟨?_, fun k hk => ?_⟩, ?_⟩
  · rw [Array.perm_iff_toList_perm, e]
    conv => rhs; rw [dec]
    exact List.Perm.append_right _ (List.Perm.append_left _ p)
  · have y1 : ys[k]? = ys.toList[k]? := by simp
    have x1 : xs[k]? = xs.toList[k]? := by simp
    rw [y1, x1, e]
    rcases hk with hk | hk
    · rw [List.append_assoc, List.getElem?_append_left (by rw [List.length_take]; omega), List.getElem?_take_of_lt hk]
    · rw [List.getElem?_append_right (by rw [List.length_append, List.length_take]; omega), List.length_append, List.length_take, sl, List.getElem?_drop]
      congr 1
      omega
  · rw [e, List.take_append_of_le_length (by rw [List.length_append, List.length_take]; omega), List.take_of_length_le (by rw [List.length_append, List.length_take]; omega),
      List.drop_append_of_le_length (by rw [List.length_take]; omega), List.drop_eq_nil_of_le (by rw [List.length_take]; omega), List.nil_append]
noncomputable def mAt (i : Nat) : StateT SortSt Sem Bool := do
  let s ← get
  let (some (sa, na, pw), some (sb, nb, _)) := ((pendingOf s)[i]?, (pendingOf s)[i + 1]?) | unsupported "internal:list.sort.pending"
  set (setPending s (((pendingOf s).setIfInBounds i (sa, na + nb, pw)).eraseIdxIfInBounds (i + 1)))
  let some k ← j1b false (← elem' (arrOf s) sb) (arrOf s) sa na 0 | return false
  let (ta, ma) := (sa + k, na - k)
  if ma == 0 then return true
  let some mb ← j1b true (← elem' (arrOf s) (ta + ma - 1)) (arrOf s) sb nb (nb - 1) | return false
  if mb == 0 then return true
  let x := (arrOf s).extract ta sb
  let y := (arrOf s).extract sb (sb + mb)
  let r ← if ma ≤ mb then j4q x y else j4r x y
  modify fun s => setArr s (r.toList.zipIdx.foldl (fun a (p, j) => a.setIfInBounds (ta + j) p) (arrOf s))
  return (failedOf (← get)).isNone
theorem j5y (i : Nat) : mergeAt' i = mAt i := rfl
section
variable {prog : Program} {w : World} {A : Around} {E : Value → Shared → Prop} {s : Shared}
theorem wpS_set {st st' : SortSt} {Q : PUnit → SortSt → Prop} (h : Q ⟨⟩ st') : wpS (model prog w) A E s (set st' : StateT SortSt Sem PUnit) Q st := by
  unfold wpS; rw [StateT.run_set]; exact wpAny_pure ⟨rfl, h⟩
theorem wpS_mAt {st : SortSt} {i sa na pw sb nb pw2 : Nat} {Q : Bool → SortSt → Prop} (hk : kindOf st = oneType') (ik : IK (arrOf st)) (hf : failedOf st = none)
    (e1 : (pendingOf st)[i]? = some (sa, na, pw)) (e2 : (pendingOf st)[i + 1]? = some (sb, nb, pw2)) (hsb : sb = sa + na) (n1 : 1 ≤ na) (n2 : 1 ≤ nb) (hs : sb + nb ≤ (arrOf st).size)
    (s1 : Seg (arrOf st) sa sb) (s2 : Seg (arrOf st) sb (sb + nb))
    (h : ∀ st', kindOf st' = oneType' → failedOf st' = none → pendingOf st' = ((pendingOf st).setIfInBounds i (sa, na + nb, pw)).eraseIdxIfInBounds (i + 1) →
      Anew sa (sb + nb) (arrOf st) (arrOf st') → Seg (arrOf st') sa (sb + nb) → Q true st') :
    wpS (model prog w) A E s (mergeAt' i) Q st := by
  rw [j5y]
  unfold mAt
  refine wpS_bind (wpS_get ?_)
  rw [e1, e2]
  dsimp only
  refine wpS_bind (wpS_set ?_)
  have lx : (arrOf st).toList.length = (arrOf st).size := by simp
  have hmem : ∀ p ∈ (arrOf st).toList, IntKey p := ik
  obtain ⟨b0, eb, eb', kb⟩ := j1c ik (show sb < (arrOf st).size by omega)
  obtain ⟨al, ea, ea', ka⟩ := j1c ik (show sb - 1 < (arrOf st).size by omega)
  have idle : Seg (arrOf st) sa (sb + nb) → Q true (setPending st (((pendingOf st).setIfInBounds i (sa, na + nb, pw)).eraseIdxIfInBounds (i + 1))) := fun z =>
    h _ hk hf rfl ⟨Array.Perm.refl _, fun k _ => rfl⟩ z
  refine wpS_bind (j0j eb (wpS_bind ?_))
  refine j1f hk kb (fun x hx => ?_) (fun x y hxy hy => s1 _ _ (by omega) (by omega) (by omega)) (by omega) fun k hk0 ht1 hf1 => ?_
  · obtain ⟨q, z1, _, z2⟩ := j1c ik (show sa + x < (arrOf st).size by omega)
    exact ⟨q, z1, z2⟩
  dsimp only
  have bel : ∀ x, x < k → K (arrOf st) (sa + x) ≤ K (arrOf st) sb := fun x hx => by
    have := ht1 x hx
    unfold fq at this
    simp at this
    rw [K_at eb]; exact this
  have abv : ∀ x, k ≤ x → x < na → K (arrOf st) sb < K (arrOf st) (sa + x) := fun x hx hx2 => by
    have := hf1 x hx hx2
    unfold fq at this
    simp at this
    rw [K_at eb]; exact this
  by_cases hz : na - k = 0
  · rw [if_pos (by simpa using hz)]
    refine wpS_pure (idle fun x y hx hxy hy => ?_)
    by_cases c1 : y < sb
    · exact s1 x y hx hxy c1
    · by_cases c2 : sb ≤ x
      · exact s2 x y c2 hxy hy
      · have := bel (x - sa) (by omega)
        rw [show sa + (x - sa) = x by omega] at this
        exact Int.le_trans this (s2 sb y (Nat.le_refl _) (by omega) hy)
  rw [if_neg (by simpa using hz)]
  rw [show sa + k + (na - k) - 1 = sb - 1 by omega]
  refine wpS_bind (j0j ea (wpS_bind ?_))
  refine j1f hk ka (fun x hx => ?_) (fun x y hxy hy => s2 _ _ (by omega) (by omega) (by omega)) (by omega) fun r hr0 ht2 hf2 => ?_
  · obtain ⟨q, z1, _, z2⟩ := j1c ik (show sb + x < (arrOf st).size by omega)
    exact ⟨q, z1, z2⟩
  dsimp only
  have bel2 : ∀ x, x < r → K (arrOf st) (sb + x) < K (arrOf st) (sb - 1) := fun x hx => by
    have := ht2 x hx
    unfold fq at this
    simp at this
    rw [K_at ea]; exact this
  have abv2 : ∀ x, r ≤ x → x < nb → K (arrOf st) (sb - 1) ≤ K (arrOf st) (sb + x) := fun x hx hx2 => by
    have := hf2 x hx hx2
    unfold fq at this
    simp at this
    rw [K_at ea]; exact this
  by_cases hr1 : r = 0
  · rw [if_pos (by simpa using hr1)]
    refine wpS_pure (idle fun x y hx hxy hy => ?_)
    by_cases c1 : y < sb
    · exact s1 x y hx hxy c1
    · by_cases c2 : sb ≤ x
      · exact s2 x y c2 hxy hy
      · have := abv2 (y - sb) (by omega) (by omega)
        rw [show sb + (y - sb) = y by omega] at this
        exact Int.le_trans (s1 x (sb - 1) hx (by omega) (by omega)) this
  rw [if_neg (by simpa using hr1)]
  have X1 : ((arrOf st).extract (sa + k) sb).toList = ((arrOf st).toList.take sb).drop (sa + k) := extm _ _ _
  have Y1 : ((arrOf st).extract sb (sb + r)).toList = ((arrOf st).toList.take (sb + r)).drop sb := extm _ _ _
  have xs1 : ((arrOf st).extract (sa + k) sb).size = sb - (sa + k) := by simp; omega
  have ys1 : ((arrOf st).extract sb (sb + r)).size = r := by simp; omega
  have T : Two ((arrOf st).extract (sa + k) sb) ((arrOf st).extract sb (sb + r)) := by
    refine ⟨?_, ?_, ?_, ?_, ?_, ?_, ?_, ?_⟩
    · rw [X1]; exact fun p hp => hmem p (List.mem_of_mem_take (List.mem_of_mem_drop hp))
    · rw [Y1]; exact fun p hp => hmem p (List.mem_of_mem_take (List.mem_of_mem_drop hp))
    · rw [X1]; exact j6h (fun x y a b c => s1 x y (by omega) b c) (by omega)
    · rw [Y1]; exact j6h (fun x y a b c => s2 x y a b (by omega)) (by omega)
    · rw [xs1]; omega
    · rw [ys1]; omega
    · intro q hq y hy
      rw [X1] at hy
      rw [Y1] at hq
      have hq' : q = b0 := by
        rw [List.getElem?_drop, List.getElem?_take_of_lt (by omega)] at hq
        rw [Nat.add_zero, eb'] at hq
        exact (Option.some.inj hq).symm
      subst hq'
      obtain ⟨z, hz1, hz2, _, ez⟩ := j0y hy
      have := abv (z - sa) (by omega) (by omega)
      rw [show sa + (z - sa) = z by omega, ez, K_at eb] at this
      exact Int.le_of_lt this
    · intro x hx y hy
      rw [xs1, X1] at hy
      rw [Y1] at hx
      obtain ⟨z, hz1, hz2, _, ez⟩ := j0y hx
      have hy2 : y ∈ ((arrOf st).toList.take sb).drop (sb - 1) := by
        rw [List.drop_drop] at hy
        rwa [show sa + k + (sb - (sa + k) - 1) = sb - 1 by omega] at hy
      obtain ⟨v, hv1, hv2, _, ev⟩ := j0y hy2
      have := bel2 (z - sb) (by omega)
      rw [show sb + (z - sb) = z by omega, ez] at this
      rw [show v = sb - 1 by omega] at ev
      rw [ev] at this
      exact Int.le_of_lt this
  have done : ∀ (R : Array Keyed) (st' : SortSt), Like (setPending st (((pendingOf st).setIfInBounds i (sa, na + nb, pw)).eraseIdxIfInBounds (i + 1))) st' →
      Res ((arrOf st).extract (sa + k) sb).toList ((arrOf st).extract sb (sb + r)).toList R.toList →
      wpS (model prog w) A E s (do
        modify fun s => setArr s (R.toList.zipIdx.foldl (fun a (p, j) => a.setIfInBounds (sa + k + j) p) (arrOf s))
        let z ← get
        pure (failedOf z).isNone) Q st' := by
    intro R st' l hR
    refine wpS_bind (wpS_modify (wpS_bind (wpS_get (wpS_pure ?_))))
    obtain ⟨l1, l2, l3, l4⟩ := l
    have rl : R.toList.length = (sb - (sa + k)) + r := by
      rw [hR.1.length_eq, List.length_append]
      have := xs1; have := ys1
      simp only [Array.length_toList]
      omega
    have w1 := writes (sa + k) R.toList 0 (arrOf st') (by rw [l2]; show sa + k + 0 + _ ≤ (arrOf st).size; rw [rl]; omega)
    rw [l2] at w1
    have w2 : (R.toList.zipIdx.foldl (fun (a : Array Keyed) (z : Keyed × Nat) => a.setIfInBounds (sa + k + z.2) z.1) (arrOf st)).toList
        = (arrOf st).toList.take sa ++ (((arrOf st).toList.take (sa + k)).drop sa ++ R.toList ++ ((arrOf st).toList.take (sb + nb)).drop (sb + r)) ++ (arrOf st).toList.drop (sb + nb) := by
      refine w1.trans ?_
      show (arrOf st).toList.take (sa + k + 0) ++ R.toList ++ (arrOf st).toList.drop (sa + k + 0 + R.toList.length) = _
      rw [rl, Nat.add_zero, show sa + k + (sb - (sa + k) + r) = sb + r by omega, j2d (l := (arrOf st).toList) (r := sb + r) (i := sb + nb) (by omega) (by omega)]
      have : (arrOf st).toList.take (sa + k) = (arrOf st).toList.take sa ++ ((arrOf st).toList.take (sa + k)).drop sa := by
        conv => lhs; rw [← List.take_append_drop sa ((arrOf st).toList.take (sa + k)), ← j2p (Nat.le_add_right sa k)]
      conv => lhs; rw [this]
      simp only [List.append_assoc]
    have cut : ((arrOf st).toList.take (sb + nb)).drop sa = ((arrOf st).toList.take (sa + k)).drop sa ++ (((arrOf st).toList.take sb).drop (sa + k) ++ ((arrOf st).toList.take (sb + r)).drop sb) ++ ((arrOf st).toList.take (sb + nb)).drop (sb + r) := by
      have g1 : ((arrOf st).toList.take (sb + nb)).drop sa = ((arrOf st).toList.take (sa + k)).drop sa ++ ((arrOf st).toList.take (sb + nb)).drop (sa + k) := by
        have := j2d (l := (arrOf st).toList.take (sb + nb)) (r := sa) (i := sa + k) (by omega) (by rw [List.length_take]; omega)
        rw [this, ← j2p (show sa + k ≤ sb + nb by omega)]
      have g2 : ((arrOf st).toList.take (sb + nb)).drop (sa + k) = ((arrOf st).toList.take sb).drop (sa + k) ++ ((arrOf st).toList.take (sb + nb)).drop sb := by
        have := j2d (l := (arrOf st).toList.take (sb + nb)) (r := sa + k) (i := sb) (by omega) (by rw [List.length_take]; omega)
        rw [this, ← j2p (show sb ≤ sb + nb by omega)]
      have g3 : ((arrOf st).toList.take (sb + nb)).drop sb = ((arrOf st).toList.take (sb + r)).drop sb ++ ((arrOf st).toList.take (sb + nb)).drop (sb + r) := by
        have := j2d (l := (arrOf st).toList.take (sb + nb)) (r := sb) (i := sb + r) (by omega) (by rw [List.length_take]; omega)
        rw [this, ← j2p (show sb + r ≤ sb + nb by omega)]
      rw [g1, g2, g3]
      simp only [List.append_assoc]
    have hRp : R.toList.Perm (((arrOf st).toList.take sb).drop (sa + k) ++ ((arrOf st).toList.take (sb + r)).drop sb) := by
      have := hR.1
      rwa [X1, Y1] at this
    have an := anew_of (lo := sa) (hi := sb + nb) (xs := arrOf st) (S := ((arrOf st).toList.take (sa + k)).drop sa ++ R.toList ++ ((arrOf st).toList.take (sb + nb)).drop (sb + r)) (by omega) hs w2 (by
      rw [cut]
      exact List.Perm.append_right _ (List.Perm.append_left _ hRp))
    have l2' : arrOf st' = arrOf st := l2
    rw [show (failedOf (setArr st' _)).isNone = true from by
      show (failedOf st').isNone = true
      rw [l4]
      show (failedOf st).isNone = true
      rw [hf]; rfl]
    refine h _ (l1.trans hk) (l4.trans hf) l3 ?_ ?_
    · show Anew sa (sb + nb) (arrOf st) (R.toList.zipIdx.foldl (fun (a : Array Keyed) (z : Keyed × Nat) => a.setIfInBounds (sa + k + z.2) z.1) (arrOf st'))
      rw [l2']
      exact an.1
    · show Seg (R.toList.zipIdx.foldl (fun (a : Array Keyed) (z : Keyed × Nat) => a.setIfInBounds (sa + k + z.2) z.1) (arrOf st')) sa (sb + nb)
      rw [l2']
      refine up_seg ?_ (by rw [an.1.perm.size_eq]; exact hs)
      rw [an.2]
      have inM : ∀ z ∈ R.toList, (∃ m, sa + k ≤ m ∧ m < sb ∧ K (arrOf st) m = kn z) ∨ ∃ m, sb ≤ m ∧ m < sb + r ∧ K (arrOf st) m = kn z := fun z hz => by
        rcases List.mem_append.mp (hRp.mem_iff.mp hz) with hz | hz
        · obtain ⟨m, a1, a2, _, a3⟩ := j0y hz
          exact .inl ⟨m, a1, a2, a3⟩
        · obtain ⟨m, a1, a2, _, a3⟩ := j0y hz
          exact .inr ⟨m, a1, a2, a3⟩
      have u1 : Up (((arrOf st).toList.take (sa + k)).drop sa) := j6h (fun x y a b c => s1 x y a b (by omega)) (by omega)
      have u3 : Up (((arrOf st).toList.take (sb + nb)).drop (sb + r)) := j6h (fun x y a b c => s2 x y (by omega) b c) (by omega)
      refine (u1.app hR.2 fun x hx y hy => ?_).app u3 fun x hx y hy => ?_
      · obtain ⟨m, a1, a2, _, a3⟩ := j0y hx
        rcases inM y hy with ⟨v, b1, b2, b3⟩ | ⟨v, b1, b2, b3⟩
        · rw [← a3, ← b3]; exact s1 m v a1 (by omega) b2
        · rw [← a3, ← b3]
          have := bel (m - sa) (by omega)
          rw [show sa + (m - sa) = m by omega] at this
          exact Int.le_trans this (s2 sb v (Nat.le_refl _) b1 (by omega))
      · obtain ⟨v, b1, b2, _, b3⟩ := j0y hy
        have lastv : K (arrOf st) (sb - 1) ≤ K (arrOf st) v := by
          have := abv2 (v - sb) (by omega) (by omega)
          rwa [show sb + (v - sb) = v by omega] at this
        rcases List.mem_append.mp hx with hx | hx
        · obtain ⟨m, a1, a2, _, a3⟩ := j0y hx
          rw [← a3, ← b3]
          exact Int.le_trans (s1 m (sb - 1) a1 (by omega) (by omega)) lastv
        · rcases inM x hx with ⟨m, a1, a2, a3⟩ | ⟨m, a1, a2, a3⟩
          · rw [← a3, ← b3]
            exact Int.le_trans (s1 m (sb - 1) (by omega) (by omega) (by omega)) lastv
          · rw [← a3, ← b3]
            exact s2 m v a1 (by omega) b2
  by_cases hc : na - k ≤ r
  · rw [if_pos hc]
    exact wpS_bind (j5w hk T fun R st' l hR => done R st' l hR)
  · rw [if_neg hc]
    exact wpS_bind (j5x hk T fun R st' l hR => done R st' l hR)
end
end Srt
end
noncomputable section
namespace Srt
open PySem PyProof.Rows
noncomputable def Runs (xs : Array Keyed) : Nat → List (Nat × Nat × Nat) → Nat → Prop
  | a, [], b => a = b
  | a, (z : Nat × Nat × Nat) :: t, b => z.1 = a ∧ 1 ≤ z.2.1 ∧ Seg xs a (a + z.2.1) ∧ Runs xs (a + z.2.1) t b
theorem Runs.le {xs : Array Keyed} : ∀ {P : List (Nat × Nat × Nat)} {a b : Nat}, Runs xs a P b → a + P.length ≤ b
  | [], a, b, h => by have h' : a = b := h; simp; omega
  | z :: t, a, b, h => by
    obtain ⟨_, h2, _, h4⟩ := h
    have := h4.le
    simp only [List.length_cons]; omega
theorem Runs.app {xs : Array Keyed} : ∀ {P R : List (Nat × Nat × Nat)} {a b : Nat}, Runs xs a (P ++ R) b ↔ ∃ m, Runs xs a P m ∧ Runs xs m R b
  | [], R, a, b => ⟨fun h => ⟨a, rfl, h⟩, fun ⟨m, h1, h2⟩ => by have e : a = m := h1; subst e; exact h2⟩
  | z :: t, R, a, b => by
    constructor
    · rintro ⟨h1, h2, h3, h4⟩
      obtain ⟨m, h5, h6⟩ := Runs.app.mp h4
      exact ⟨m, ⟨h1, h2, h3, h5⟩, h6⟩
    · rintro ⟨m, ⟨h1, h2, h3, h5⟩, h6⟩
      exact ⟨h1, h2, h3, Runs.app.mpr ⟨m, h5, h6⟩⟩
theorem Seg.congr {xs ys : Array Keyed} {lo hi : Nat} (h : Seg xs lo hi) (e : ∀ k, lo ≤ k → k < hi → ys[k]? = xs[k]?) : Seg ys lo hi := fun i j a b c => by
  rw [K_congr (e i a (by omega)), K_congr (e j (by omega) c)]
  exact h i j a b c
theorem Runs.congr {xs ys : Array Keyed} : ∀ {P : List (Nat × Nat × Nat)} {a b : Nat}, Runs xs a P b → (∀ k, a ≤ k → k < b → ys[k]? = xs[k]?) → Runs ys a P b
  | [], a, b, h, _ => h
  | z :: t, a, b, h, e => by
    obtain ⟨h1, h2, h3, h4⟩ := h
    have := h4.le
    exact ⟨h1, h2, h3.congr fun k c1 c2 => e k c1 (by omega), h4.congr fun k c1 c2 => e k (by omega) c2⟩
theorem split2 {α : Type} : ∀ {P : List α} {i : Nat}, i + 1 < P.length → ∃ U x y D, P = U ++ x :: y :: D ∧ U.length = i
  | [], i, h => by simp at h
  | [_], i, h => by simp at h
  | x :: y :: D, 0, _ => ⟨[], x, y, D, rfl, rfl⟩
  | x :: y :: D, i + 1, h => by
    obtain ⟨U, u, v, W, e, l⟩ := split2 (P := y :: D) (i := i) (by simp at h ⊢; omega)
    exact ⟨x :: U, u, v, W, by rw [e]; rfl, by simp [l]⟩
theorem Runs.pow {xs : Array Keyed} (f : Nat × Nat × Nat → Nat × Nat × Nat) (hf : ∀ z, (f z).1 = z.1 ∧ (f z).2.1 = z.2.1) : ∀ {P : List (Nat × Nat × Nat)} {a b k : Nat}, Runs xs a P b → Runs xs a (P.modify k f) b
  | [], a, b, k, h => by simpa using h
  | z :: t, a, b, 0, h => by
    obtain ⟨h1, h2, h3, h4⟩ := h
    rw [List.modify_zero_cons]
    refine ⟨(hf z).1.trans h1, by rw [(hf z).2]; exact h2, by rw [(hf z).2]; exact h3, by rw [(hf z).2]; exact h4⟩
  | z :: t, a, b, k + 1, h => by
    obtain ⟨h1, h2, h3, h4⟩ := h
    rw [List.modify_succ_cons]
    exact ⟨h1, h2, h3, Runs.pow f hf h4⟩
theorem Runs.mod {xs : Array Keyed} {p : Array (Nat × Nat × Nat)} {a b k : Nat} (pw : Nat) (h : Runs xs a p.toList b) : Runs xs a (p.modify k fun x => (x.1, x.2.1, pw)).toList b := by
  rw [Array.toList_modify]
  exact Runs.pow (fun x => (x.1, x.2.1, pw)) (fun z => ⟨rfl, rfl⟩) h
structure Base (a₀ : Array Keyed) (st : SortSt) : Prop where
  perm : (arrOf st).Perm a₀
  kind : kindOf st = oneType'
  failed : failedOf st = none
section
variable {prog : Program} {w : World} {A : Around} {E : Value → Shared → Prop} {s : Shared} {a₀ : Array Keyed}
theorem j8j {st : SortSt} {i b : Nat} {Q : Bool → SortSt → Prop} (ik : IK a₀) (B : Base a₀ st) (R : Runs (arrOf st) 0 (pendingOf st).toList b) (hb : b ≤ a₀.size) (hi : i + 1 < (pendingOf st).size)
    (h : ∀ st', Base a₀ st' → Runs (arrOf st') 0 (pendingOf st').toList b → (pendingOf st').size + 1 = (pendingOf st).size → (∀ k, b ≤ k → (arrOf st')[k]? = (arrOf st)[k]?) → Q true st') :
    wpS (model prog w) A E s (mergeAt' i) Q st := by
  obtain ⟨U, ⟨sa, na, pw⟩, ⟨sb, nb, pw2⟩, D, e, l⟩ := split2 (P := (pendingOf st).toList) (i := i) (by simpa using hi)
  have sz := B.perm.size_eq
  rw [e] at R
  obtain ⟨m, r1, r2⟩ := Runs.app.mp R
  obtain ⟨z1, z2, z3, z4, z5, z6, z7⟩ := r2
  dsimp only at z1 z2 z3 z4 z5 z6 z7
  subst z1
  have le7 := z7.le
  have le1 := r1.le
  have e1 : (pendingOf st)[i]? = some (sa, na, pw) := by
    have : (pendingOf st)[i]? = (pendingOf st).toList[i]? := by simp
    rw [this, e, List.getElem?_append_right (by omega)]; simp [l]
  have e2 : (pendingOf st)[i + 1]? = some (sb, nb, pw2) := by
    have : (pendingOf st)[i + 1]? = (pendingOf st).toList[i + 1]? := by simp
    rw [this, e, List.getElem?_append_right (by omega)]; simp [l, show i + 1 - i = 1 by omega]
  subst z4
  refine wpS_mAt B.kind (ik.perm B.perm) B.failed e1 e2 rfl z2 z5 (by omega) z3 z6 fun st' k1 k2 k3 k4 k5 => ?_
  have pl : (pendingOf st').toList = U ++ (sa, na + nb, pw) :: D := by
    rw [k3, Array.toList_eraseIdxIfInBounds, Array.toList_setIfInBounds, e, ← l, List.set_append_right (h := Nat.le_refl _), List.eraseIdx_append_of_length_le (by omega)]
    simp [show U.length + 1 - U.length = 1 by omega]
  refine h st' ⟨k4.perm.trans B.perm, k1, k2⟩ ?_ ?_ fun k hk => k4.out k (.inr (by omega))
  · rw [pl]
    refine Runs.app.mpr ⟨sa, r1.congr fun k _ c => k4.out k (.inl c), rfl, by dsimp only; omega, ?_, ?_⟩
    · dsimp only
      rw [← Nat.add_assoc]
      exact k5
    · dsimp only
      rw [← Nat.add_assoc]
      exact z7.congr fun k c _ => k4.out k (.inr c)
  · have c1 : (pendingOf st').toList.length = (pendingOf st').size := by simp
    have c2 : (pendingOf st).toList.length = (pendingOf st).size := by simp
    rw [pl] at c1
    rw [e] at c2
    simp only [List.length_append, List.length_cons] at c1 c2
    omega
theorem j5z {st : SortSt} {Q : Unit → SortSt → Prop} (ik : IK a₀) (B : Base a₀ st) (hp : pendingOf st = #[]) (h2 : 2 ≤ a₀.size)
    (h : ∀ st', (arrOf st').Perm a₀ → failedOf st' = none → SortedTo (arrOf st') a₀.size → Q () st') : wpS (model prog w) A E s sortRuns' Q st := by
  rw [sortRuns'_eq]
  refine wpS_bind (wpS_get ?_)
  dsimp only
  rw [B.perm.size_eq]
  generalize minRun' a₀.size a₀.size 0 = mr
  refine wpS_bind (wpS_mono (wpS_forRange
    (I := fun x c st' => ∃ lo, c = (none, lo) ∧ x ≤ lo ∧ lo ≤ a₀.size ∧ Base a₀ st' ∧ Runs (arrOf st') 0 (pendingOf st').toList lo)
    (Q := fun c st' => c = (none, a₀.size) ∧ Base a₀ st' ∧ Runs (arrOf st') 0 (pendingOf st').toList a₀.size) ?step ?fin ⟨0, rfl, Nat.le_refl _, Nat.zero_le _, B, by rw [hp]; exact rfl⟩) ?post)
  case fin =>
    rintro c st' ⟨lo, rfl, h1, h3, h4, h5⟩
    have : lo = a₀.size := by omega
    subst this
    exact ⟨rfl, h4, h5⟩
  case step =>
    rintro x c st' _ hx ⟨lo, rfl, h1, h3, h4, h5⟩
    dsimp only
    by_cases hl : lo ≥ a₀.size
    · rw [if_pos hl]
      have : lo = a₀.size := by omega
      subst this
      exact wpS_pure ⟨rfl, h4, h5⟩
    rw [if_neg hl]
    have sz := h4.perm.size_eq
    refine wpS_bind (wpS_run h4.kind (ik.perm h4.perm) (by omega) (by omega) fun m st2 m1 m2 mv sg => ?_)
    dsimp only
    have B2 : Base a₀ st2 := ⟨mv.perm.trans h4.perm, mv.kind.trans h4.kind, mv.failed.trans h4.failed⟩
    have R2 : Runs (arrOf st2) 0 (pendingOf st2).toList lo := by
      rw [mv.pend]; exact h5.congr fun k _ c => mv.low k c
    have rest : ∀ (n : Nat) (st3 : SortSt), 1 ≤ n → lo + n ≤ a₀.size → Base a₀ st3 → Runs (arrOf st3) 0 (pendingOf st3).toList lo → Seg (arrOf st3) lo (lo + n) →
        wpS (model prog w) A E s (do
          modify fun s => setPending s ((pendingOf s).push (lo, n, 0))
          pure (ForInStep.yield ((none : Option Unit), lo + n)))
          (fun r st' => match r with
            | .done c' => c' = (none, a₀.size) ∧ Base a₀ st' ∧ Runs (arrOf st') 0 (pendingOf st').toList a₀.size
            | .yield c' => ∃ lo, c' = (none, lo) ∧ x + 1 ≤ lo ∧ lo ≤ a₀.size ∧ Base a₀ st' ∧ Runs (arrOf st') 0 (pendingOf st').toList lo) st3 := by
      intro n st3 n1 n2 B3 R3 S3
      refine wpS_bind (wpS_modify (wpS_pure ⟨lo + n, rfl, by omega, n2, ⟨B3.perm, B3.kind, B3.failed⟩, ?_⟩))
      show Runs (arrOf st3) 0 ((pendingOf st3).push (lo, n, 0)).toList (lo + n)
      rw [Array.toList_push]
      exact Runs.app.mpr ⟨lo, R3, rfl, n1, S3, rfl⟩
    have pack : ∃ (n : Nat) (st3 : SortSt), n = m ∧ st3 = st2 ∧ 1 ≤ n ∧ lo + n ≤ a₀.size ∧ Base a₀ st3 ∧ Runs (arrOf st3) 0 (pendingOf st3).toList lo ∧ Seg (arrOf st3) lo (lo + n) := ⟨m, st2, rfl, rfl, m1, by omega, B2, R2, sg⟩
    have sz2 := B2.perm.size_eq
    by_cases hm : m < mr
    case' pos =>
      rw [if_pos hm]
      refine wpS_bind (wpS_lift (wpAny_rule ⟨rfl, ?_⟩))
      refine wpS_bind (wpS_bin B2.kind (ik.perm B2.perm) (by omega) (by omega) sg fun st3 mv3 S3 => ?_)
      rw [if_neg (by simp)]
      have B3 : Base a₀ st3 := ⟨mv3.perm.trans B2.perm, mv3.kind.trans B2.kind, mv3.failed.trans B2.failed⟩
      have R3 : Runs (arrOf st3) 0 (pendingOf st3).toList lo := by
        rw [mv3.pend]; exact R2.congr fun k _ c => mv3.low k c
      have n1 : 1 ≤ min (a₀.size - lo) mr := by omega
      have n2 : lo + min (a₀.size - lo) mr ≤ a₀.size := by omega
      generalize min (a₀.size - lo) mr = n at n1 n2 S3 ⊢
    case' neg =>
      rw [if_neg hm]
      obtain ⟨n, st3, en, es, n1, n2, B3, R3, S3⟩ := pack
      rw [← en, ← es]
    all_goals
      refine wpS_bind (wpS_get ?_)
      cases hb : (pendingOf st3).back? with
      | none => exact rest n st3 n1 n2 B3 R3 S3
      | some z =>
        obtain ⟨s1, k1, p1⟩ := z
        dsimp only
        generalize power' a₀.size (2 * s1 + k1) (2 * s1 + k1 + k1 + n) a₀.size = pw
        refine wpS_bind (wpS_mono (wpS_forRange (I := fun _ c st' => c = (none, ()) ∧ Base a₀ st' ∧ Runs (arrOf st') 0 (pendingOf st').toList lo ∧ Seg (arrOf st') lo (lo + n))
          (Q := fun c st' => c = (none, ()) ∧ Base a₀ st' ∧ Runs (arrOf st') 0 (pendingOf st').toList lo ∧ Seg (arrOf st') lo (lo + n)) ?_ (fun _ _ hh => hh) ⟨rfl, B3, R3, S3⟩) ?_)
        · rintro y c st4 _ _ ⟨rfl, B4, R4, S4⟩
          refine wpS_bind (wpS_get ?_)
          by_cases hs : (pendingOf st4).size > 1
          · rw [if_pos hs]
            cases e : (pendingOf st4)[(pendingOf st4).size - 2]? with
            | none => exact wpS_pure ⟨rfl, B4, R4, S4⟩
            | some z =>
              obtain ⟨_, _, older⟩ := z
              dsimp only
              by_cases ho : older ≤ pw
              · rw [if_pos ho]
                exact wpS_pure ⟨rfl, B4, R4, S4⟩
              · rw [if_neg ho]
                refine wpS_bind (j8j ik B4 R4 h3 (by omega) fun st5 B5 R5 _ o5 => ?_)
                rw [if_neg (by simp)]
                exact wpS_pure ⟨rfl, B5, R5, S4.congr fun k c _ => o5 k c⟩
          · rw [if_neg hs]
            exact wpS_pure ⟨rfl, B4, R4, S4⟩
        · rintro c st4 ⟨rfl, B4, R4, S4⟩
          dsimp only
          refine wpS_bind (wpS_modify ?_)
          refine rest n _ n1 n2 ⟨B4.perm, B4.kind, B4.failed⟩ ?_ S4
          show Runs (arrOf st4) 0 ((pendingOf st4).modify ((pendingOf st4).size - 1) fun x => (x.1, x.2.1, pw)).toList lo
          exact Runs.mod _ R4
  case post =>
    rintro c st' ⟨rfl, B', R'⟩
    dsimp only
    refine wpS_bind (wpS_mono (wpS_forRange (I := fun x c st2 => c = (none, ()) ∧ Base a₀ st2 ∧ Runs (arrOf st2) 0 (pendingOf st2).toList a₀.size ∧ (pendingOf st2).size + x ≤ a₀.size)
      (Q := fun c st2 => c = (none, ()) ∧ Base a₀ st2 ∧ Runs (arrOf st2) 0 (pendingOf st2).toList a₀.size ∧ (pendingOf st2).size ≤ 1) ?_ ?_ ⟨rfl, B', R', by have := R'.le; simpa using this⟩) ?_)
    · rintro x c st2 _ hx ⟨rfl, B2, R2, L2⟩
      refine wpS_bind (wpS_get ?_)
      by_cases hs : (pendingOf st2).size ≤ 1
      · rw [if_pos hs]
        exact wpS_pure ⟨rfl, B2, R2, hs⟩
      · rw [if_neg hs]
        refine wpS_bind (j8j ik B2 R2 (Nat.le_refl _) ?_ fun st3 B3 R3 l3 _ => ?_)
        · repeat' split
          all_goals omega
        · rw [if_neg (by simp)]
          exact wpS_pure ⟨rfl, B3, R3, by omega⟩
    · rintro c st2 ⟨rfl, B2, R2, L2⟩
      exact ⟨rfl, B2, R2, by omega⟩
    · rintro c st2 ⟨rfl, B2, R2, L2⟩
      refine wpS_pure (h _ B2.perm B2.failed fun i j hij hj => ?_)
      have ll : (pendingOf st2).toList.length ≤ 1 := by simpa using L2
      match hP : (pendingOf st2).toList, R2, ll with
      | [], R2, _ => have e : 0 = a₀.size := R2; omega
      | [z], R2, _ =>
        obtain ⟨_, _, z3, z4⟩ := R2
        have e : 0 + z.2.1 = a₀.size := z4
        rw [e] at z3
        exact z3 i j (Nat.zero_le _) hij hj
      | _ :: _ :: _, _, ll => simp at ll
end
end Srt
end
noncomputable section
namespace Srt
open PySem PyProof.Rows
section
variable {prog : Program} {w : World} {A : Around} {E : Value → Shared → Prop} {s : Shared}
theorem ik_of {vs : List Value} {ns : List Int} (hI : IntsAre vs ns) : IK (pairsOf vs) := fun p hp => hI.intKeys p hp
theorem srt_in {a : Addr} {e1 : Nat} {vs : List Value} {ns : List Int} {b : Bool} {P : Fin → Shared → Prop} (ho : s.heap.get? a = some (seqObj "list" #[] e1)) (hI : IntsAre vs ns) (hz : vs.length ≤ sizeLine)
    (fin : ∀ (out : Array Value) (ms : List Int), IntsAre out.toList ms → ms.Perm ns → Ordered b ms → P (.done (.ret .none)) { s with heap := s.heap.update a (Obj.mapSeq fun _ => out) }) :
    wpAny (model prog w) A (do
      let kd ← if vs.toArray.size < 2 then pure general' else keyKind' vs.toArray
      let ((), z) ← (if vs.toArray.size < 2 then pure () else sortRuns').run (SortSt.mk' kd (if b then (vs.toArray.zip vs.toArray).reverse else vs.toArray.zip vs.toArray) #[] 7 none)
      let out := (arrOf z).map (·.2)
      let moved := (← seqEpoch a) != e1
      Builtin.List.listUpdate (.ref a) fun _ => if b then out.reverse else out
      if let some e := failedOf z then rule "list.sort.comparison-raised"; throw e
      if moved then rule "list.sort.modified"; raiseError "ValueError" "list modified during sort"
      ret .none) P E s := by
  have j25 : (if b = true then (vs.toArray.zip vs.toArray).reverse else vs.toArray.zip vs.toArray).Perm (pairsOf vs) := by
    cases b
    · exact Array.Perm.refl _
    · rw [if_pos rfl, Array.perm_iff_toList_perm, Array.toList_reverse]
      exact List.reverse_perm _
  have tail : ∀ z : SortSt, (arrOf z).Perm (pairsOf vs) → failedOf z = none → SortedTo (arrOf z) (pairsOf vs).size → wpAny (model prog w) A (do
      let moved := (← seqEpoch a) != e1
      Builtin.List.listUpdate (.ref a) fun _ => if b then ((arrOf z).map (·.2)).reverse else (arrOf z).map (·.2)
      if let some e := failedOf z then rule "list.sort.comparison-raised"; throw e
      if moved then rule "list.sort.modified"; raiseError "ValueError" "list modified during sort"
      ret .none) P E s := by
    intro z hp hf hs
    obtain ⟨ms, g1, g2, g3⟩ := sorted_out_rev hI hp hs b
    refine wpAny_bind (seqEpoch_at ho rfl ?_)
    dsimp only
    have len : (if b = true then ((arrOf z).map (·.2)).reverse else (arrOf z).map (·.2)).size = vs.length := by
      have e : ((arrOf z).map (·.2)).size = vs.length := (Array.size_map ..).trans (hp.size_eq.trans (pairsOf_size vs))
      cases b
      · exact e
      · rw [if_pos rfl, Array.size_reverse]; exact e
    refine wpAny_bind (listUpdate_at ho rfl ?_ (by simp) (by rw [len]; omega))
    rw [hf]
    simp only [bne_self_eq_false, Bool.false_eq_true, if_false]
    exact wpAny_pure (fin _ ms g1 g2 g3)
  by_cases h2 : vs.toArray.size < 2
  · rw [if_pos h2, if_pos h2]
    refine wpAny_bind (wpAny_pure (wpAny_bind (m := pure ((), SortSt.mk' general' (if b = true then (vs.toArray.zip vs.toArray).reverse else vs.toArray.zip vs.toArray) #[] 7 none)) (wpAny_pure ?_)))
    refine tail (SortSt.mk' general' _ #[] 7 none) j25 rfl fun i j hij hj => ?_
    rw [pairsOf_size] at hj
    have e : vs.toArray.size = vs.length := by simp
    rw [show i = j by omega]
    exact Int.le_refl _
  · rw [if_neg h2, if_neg h2]
    have kd : keyKind' vs.toArray = pure oneType' := by
      cases vs with
      | nil => simp at h2
      | cons x t =>
        cases t with
        | nil => simp at h2
        | cons y r => exact keyKind_ints hI
    rw [kd]
    refine wpAny_bind (wpAny_pure ?_)
    have run := j5z (prog := prog) (w := w) (A := A) (E := E) (s := s) (a₀ := pairsOf vs) (st := SortSt.mk' oneType' (if b = true then (vs.toArray.zip vs.toArray).reverse else vs.toArray.zip vs.toArray) #[] 7 none)
      (Q := fun _ z => (arrOf z).Perm (pairsOf vs) ∧ failedOf z = none ∧ SortedTo (arrOf z) (pairsOf vs).size) (ik_of hI) ⟨j25, rfl, rfl⟩ rfl (by rw [pairsOf_size]; simp at h2; omega) fun z c1 c2 c3 => ⟨c1, c2, c3⟩
    refine wpAny_bind (wpAny_mono run ?_ fun _ _ e => e)
    rintro ⟨⟨⟩, z⟩ s' ⟨rfl, c1, c2, c3⟩
    exact tail z c1 c2 c3
noncomputable def midH (h : Heap) (a : Addr) (vs : List Value) : Heap := ((h.update a (Obj.mapSeq fun _ => #[])).push (seqObj "tuple" vs.toArray 0)).push (seqObj "list" #[] 0)
theorem midH_at {h : Heap} {a : Addr} {vs : List Value} {n : Nat} (ho : h.get? a = some (seqObj "list" vs.toArray n)) : ∃ e1, (h.update a (Obj.mapSeq fun _ => #[])).get? a = some (seqObj "list" #[] e1) ∧ (midH h a vs).get? a = some (seqObj "list" #[] e1) := by
  have ha := Heap.lt_size ho
  refine ⟨_, get?_update_seq ho (fun _ => #[]), ?_⟩
  unfold midH
  rw [Heap.get?_push_ne, Heap.get?_push_ne]
  · exact get?_update_seq ho (fun _ => #[])
  · rw [Heap.size_update]; exact Nat.ne_of_lt ha
  · rw [size_push', Heap.size_update]; exact Nat.ne_of_lt (Nat.lt_succ_of_lt ha)
theorem j5k {a : Addr} {vs : List Value} {ns : List Int} {n : Nat} {b : Bool} {P : Fin → Shared → Prop} (ho : s.heap.get? a = some (seqObj "list" vs.toArray n)) (hI : IntsAre vs ns) (hz : vs.length ≤ sizeLine)
    (fin : ∀ (out : Array Value) (ms : List Int), IntsAre out.toList ms → ms.Perm ns → Ordered b ms → P (.done (.ret .none)) { s with heap := sortedHeap s.heap a vs out }) :
    wpAny (model prog w) A (Builtin.«list.sort» ⟨[.ref a], [(Str.ofString "reverse", .bool b)]⟩) P E s := by
  obtain ⟨e1, o1, o2⟩ := midH_at ho
  rw [list_sort_rev]
  refine wpAny_bind (listItems_at ho rfl ?_)
  refine wpAny_bind (listUpdate_at ho rfl ?_ (by simpa using hz) (by simp))
  refine wpAny_bind (seqEpoch_at o1 rfl ?_)
  refine wpAny_bind (wpAny_newTuple ?_)
  refine wpAny_bind (wpAny_newList ?_)
  refine wpAny_holding ?_
  have z := srt_in (prog := prog) (w := w) (A := A) (E := E) (s := { s with heap := midH s.heap a vs }) (b := b) (P := P) o2 hI hz fin
  cases b
  · exact z
  · exact wpAny_bind (wpAny_rule z)
theorem j48 {l : Addr} {vs : List Value} {ns : List Int} {b : Bool} {Q : Value → Shared → Prop} (hl : s.heap.IsList l vs.toArray) (hI : IntsAre vs ns) (hz : vs.length ≤ sizeLine)
    (fin : ∀ (out : Array Value) (ms : List Int), IntsAre out.toList ms → ms.Perm ns → Ordered b ms → Q (.ref (s.heap.objs.size + 1)) { s with heap := sortedAll s.heap vs out }) :
    wpAny (model prog w) A (call (.builtin "sorted") [.ref l] [(Str.ofString "reverse", .bool b)]) Q E s := by
  refine call_function_entry_kw kind_sorted plain_sorted entry_sorted (args_sorted_rev _ _) ?_
  unfold Builtin.«sorted»
  refine wpAny_bind (m := checkCount "sorted" 1 1 _) (wpAny_pure ?_)
  refine wpAny_bind (collect_list hl ?_ hz)
  refine wpAny_bind (wpAny_newList ?_)
  generalize hh : (s.heap.push (seqObj "list" #[] 0)).update s.heap.objs.size (Obj.mapSeq (· ++ vs.toArray)) = h1
  have hs : h1.objs.size = s.heap.objs.size + 1 := by rw [← hh, Heap.size_update, size_push']
  have hL : (h1.push (seqObj "list" vs.toArray 0)).get? (s.heap.objs.size + 1) = some (seqObj "list" vs.toArray 0) := by
    rw [← hs]; exact Heap.get?_push_size _ rfl
  dsimp only
  rw [hs]
  refine wpAny_bind (wpAny_holding (wpAny_call_entry_kw slot_list_sort ⟨_, hL, rfl⟩ entry_list_sort (j5k hL hI hz fun out ms c1 c2 c3 => ⟨_, rfl, wpAny_pure ⟨_, rfl, ?_⟩⟩) (args_list_sort_rev _ _)))
  subst hh
  exact fin out ms c1 c2 c3
end
end Srt
end
noncomputable section
namespace L3
noncomputable def srt (ns : List Int) : List Int := ns.mergeSort fun a b => decide (a ≤ b)
theorem j4t (ns : List Int) : (srt ns).Perm ns := List.mergeSort_perm ns _
theorem srt_up (ns : List Int) : (srt ns).Pairwise (· ≤ ·) := by
  have h := List.pairwise_mergeSort (le := fun (a b : Int) => decide (a ≤ b)) (fun a b c h1 h2 => by simp at *; omega) (fun a b => by simp; omega) ns
  exact h.imp fun {a b} h => by simpa using h
theorem j8k : ∀ {l r : List Int}, l.Perm r → l.Pairwise (· ≤ ·) → r.Pairwise (· ≤ ·) → l = r
  | [], r, p, _, _ => (List.nil_perm.mp p).symm
  | a :: l, [], p, _, _ => by have := p.length_eq; simp at this
  | a :: l, b :: r, p, h1, h2 => by
    have e : a = b := by
      have m1 : a ∈ b :: r := p.mem_iff.mp List.mem_cons_self
      have m2 : b ∈ a :: l := p.mem_iff.mpr List.mem_cons_self
      have h1' := List.pairwise_cons.mp h1
      have h2' := List.pairwise_cons.mp h2
      rcases List.mem_cons.mp m1 with e | m1
      · exact e
      · rcases List.mem_cons.mp m2 with e | m2
        · exact e.symm
        · have := h2'.1 a m1
          have := h1'.1 b m2
          omega
    subst e
    rw [j8k (List.Perm.cons_inv p) (List.pairwise_cons.mp h1).2 (List.pairwise_cons.mp h2).2]
theorem srt_eq {ms ns : List Int} (p : ms.Perm ns) (u : ms.Pairwise (· ≤ ·)) : ms = srt ns := j8k (p.trans (j4t ns).symm) u (srt_up ns)
theorem j8l (ns : List Int) : (srt ns).length = ns.length := (j4t ns).length_eq
theorem j6i {ms ns : List Int} (p : ms.Perm ns) : ms.sum = ns.sum := by
  induction p with
  | nil => rfl
  | cons x _ ih => simp [ih]
  | swap x y l => simp only [List.sum_cons]; omega
  | trans _ _ h1 h2 => exact h1.trans h2
noncomputable def top (k : Nat) (ns : List Int) : Int := ((srt ns).drop (ns.length - k)).sum
theorem j60 (l : List Int) : l.reverse.sum = l.sum := j6i (List.reverse_perm l)
theorem j8m {k : Nat} {ns : List Int} (h : k ≤ ns.length) : (((srt ns).reverse).take k).sum = top k ns := by
  unfold top
  rw [List.take_reverse, j60, j8l]
noncomputable def ab1 (m x : Int) : Int := if x > m then x - m else 0
theorem j2q (m x : Int) : (m < x ∧ ab1 m x = x - m) ∨ (x ≤ m ∧ ab1 m x = 0) := by unfold ab1; split <;> omega
noncomputable def abv (ns : List Int) (m : Int) : Int := (ns.map (ab1 m)).sum
theorem abv_perm {ms ns : List Int} (p : ms.Perm ns) (m : Int) : abv ms m = abv ns m := j6i (p.map _)
theorem abv_app (a b : List Int) (m : Int) : abv (a ++ b) m = abv a m + abv b m := by unfold abv; rw [List.map_append, List.sum_append]
theorem abv_eq (m : Int) : ∀ a : List Int, (∀ x ∈ a, m ≤ x) → abv a m = a.sum - a.length * m
  | [], _ => by simp [abv]
  | x :: t, hx => by
    have h := abv_eq m t fun y hy => hx y (List.mem_cons_of_mem _ hy)
    have h1 := hx x List.mem_cons_self
    unfold abv at *
    simp only [List.map_cons, List.sum_cons, List.length_cons]
    have : ((t.length + 1 : Nat) : Int) * m = t.length * m + m := by rw [Int.natCast_add, Int.add_mul]; simp
    rw [this]
    rcases j2q m x with ⟨c1, c2⟩ | ⟨c1, c2⟩ <;> omega
theorem j6j (m : Int) : ∀ a : List Int, (∀ x ∈ a, x ≤ m) → abv a m = 0
  | [], _ => rfl
  | x :: t, hx => by
    have h := j6j m t fun y hy => hx y (List.mem_cons_of_mem _ hy)
    have h1 := hx x List.mem_cons_self
    unfold abv at *
    simp only [List.map_cons, List.sum_cons]
    rcases j2q m x with ⟨c1, c2⟩ | ⟨c1, c2⟩ <;> omega
noncomputable def give (row : List Int) (g t : Nat) (a : Int) : List Int :=
  let r := row.set g (row.getD g 0 - a)
  r.set t (r.getD t 0 + a)
theorem j6k (row : List Int) (g t : Nat) (a : Int) : (give row g t a).length = row.length := by unfold give; simp
abbrev G3 := Int × Int × Int
noncomputable def okG (n : Nat) (g : G3) : Bool := decide (0 ≤ g.1 ∧ g.1 < n) && decide (0 ≤ g.2.1 ∧ g.2.1 < n) && decide (g.1 ≠ g.2.1) && decide (0 < g.2.2)
noncomputable def stepG (row : List Int) (g : G3) : Option (List Int) :=
  if okG row.length g = true then
    let r := give row g.1.toNat g.2.1.toNat g.2.2
    if r.getD g.1.toNat 0 < r.getD g.2.1.toNat 0 then none else some r
  else none
noncomputable def runG : List Int → List G3 → Option (List Int)
  | row, [] => some row
  | row, g :: gs => match stepG row g with
    | some r => runG r gs
    | none => none
noncomputable def Leads (one other : List Int) (gs : List G3) : Prop := gs.length < one.length ∧ one.length = other.length ∧ ∃ r, runG one gs = some r ∧ srt r = srt other
noncomputable def Tops (one other : List Int) (k : Int) : Prop := one.length = other.length ∧ one.sum = other.sum ∧ 1 ≤ k ∧ k ≤ one.length ∧ top k.toNat one < top k.toNat other
end L3
end
noncomputable section
namespace L3
structure Fx (one : List Int) (P : List Nat) (w gl : List Int) : Prop where
  perm : P.Perm (List.range one.length)
  hw : ∀ j, j < P.length → w.getD j 0 = one.getD (P.getD j 0) 0
  wl : w.length = one.length
  gll : gl.length = one.length
  fall : ∀ i j, i ≤ j → j < gl.length → gl.getD j 0 ≤ gl.getD i 0
  maj : ∀ i, i ≤ gl.length → (gl.take i).sum ≤ (w.take i).sum
structure Inn (one : List Int) (P : List Nat) (w gl : List Int) (i : Nat) (lack : Int) (sp : List Int) (gv : List Nat) (gs : List G3) (r : List Int) : Prop where
  hi : i < one.length
  run : runG one gs = some r
  spl : sp.length = one.length
  ahead : ∀ j, j < i → r.getD (P.getD j 0) 0 = gl.getD j 0 + sp.getD (P.getD j 0) 0 ∧ 0 ≤ sp.getD (P.getD j 0) 0
  here : r.getD (P.getD i 0) 0 = gl.getD i 0 - lack ∧ sp.getD (P.getD i 0) 0 = 0 ∧ 0 ≤ lack
  behind : ∀ j, i < j → j < one.length → r.getD (P.getD j 0) 0 = one.getD (P.getD j 0) 0 ∧ sp.getD (P.getD j 0) 0 = 0
  gvs : ∀ q, q ∈ gv → ∃ j, j < i ∧ P.getD j 0 = q ∧ 0 < sp.getD q 0
  gva : ∀ j, j < i → 0 < sp.getD (P.getD j 0) 0 → P.getD j 0 ∈ gv
  nd : gv.Nodup
  tot : sp.sum - lack = (w.take (i + 1)).sum - (gl.take (i + 1)).sum
  n1 : gs.length + gv.length ≤ i + 1
  n2 : 0 < lack → gs.length + gv.length ≤ i
  n3 : gv = [] → gs.length ≤ i
structure Mid (one : List Int) (P : List Nat) (w gl : List Int) (i : Nat) (sp : List Int) (gv : List Nat) (gs : List G3) (r : List Int) : Prop where
  run : runG one gs = some r
  spl : sp.length = one.length
  ahead : ∀ j, j < i → r.getD (P.getD j 0) 0 = gl.getD j 0 + sp.getD (P.getD j 0) 0 ∧ 0 ≤ sp.getD (P.getD j 0) 0
  behind : ∀ j, i ≤ j → j < one.length → r.getD (P.getD j 0) 0 = one.getD (P.getD j 0) 0 ∧ sp.getD (P.getD j 0) 0 = 0
  gvs : ∀ q, q ∈ gv → ∃ j, j < i ∧ P.getD j 0 = q ∧ 0 < sp.getD q 0
  gva : ∀ j, j < i → 0 < sp.getD (P.getD j 0) 0 → P.getD j 0 ∈ gv
  nd : gv.Nodup
  tot : sp.sum = (w.take i).sum - (gl.take i).sum
  n1 : gs.length + gv.length ≤ i
  n3 : gv = [] → gs.length ≤ i - 1
theorem sum_rep0 : ∀ n : Nat, (List.replicate n (0 : Int)).sum = 0
  | 0 => rfl
  | n + 1 => by rw [List.replicate_succ, List.sum_cons, sum_rep0 n]; rfl
variable {one : List Int} {P : List Nat} {w gl : List Int} {i : Nat} {sp : List Int} {gv : List Nat} {gs : List G3} {r : List Int}
end L3
end
noncomputable section
namespace L3
theorem srt_down (ns : List Int) : ((srt ns).reverse).Pairwise (· ≥ ·) := List.pairwise_reverse.mpr ((srt_up ns).imp fun h => h)
theorem j5l (ns : List Int) : ((srt ns).reverse).Perm ns := (List.reverse_perm _).trans (j4t ns)
theorem j6l (ns : List Int) : ((srt ns).reverse).length = ns.length := (j5l ns).length_eq
theorem j8n {l : List Int} (h : l.Pairwise (· ≥ ·)) (i j : Nat) (hij : i ≤ j) (hj : j < l.length) : l.getD j 0 ≤ l.getD i 0 := by
  have hi : i < l.length := by omega
  rw [List.getD_eq_getElem?_getD, List.getD_eq_getElem?_getD, List.getElem?_eq_getElem hi, List.getElem?_eq_getElem hj]
  show l[j] ≤ l[i]
  by_cases e : i = j
  · subst e; exact Int.le_refl _
  · exact List.pairwise_iff_getElem.mp h i j hi hj (by omega)
noncomputable def psum (l : List Int) : List Int := (List.range l.length).map fun k => (l.take (k + 1)).sum
noncomputable def tops (ns : List Int) : List Int := psum ((srt ns).reverse)
noncomputable def Agn (one other : List Int) (k : Int) : Prop := (1 ≤ k ∧ Tops one other k) ∨ (k = 0 ∧ ∀ k, k ≤ one.length → top k other ≤ top k one)
end L3
end
noncomputable section
namespace L3
noncomputable def cutL (L : Int) : Int → List Int → List Int
  | _, [] => []
  | r, x :: t => if L ≤ x then (if 0 < r then (L - 1) :: cutL L (r - 1) t else L :: cutL L r t) else x :: cutL L r t
theorem j4u (x : Int) (t : List Int) (m : Int) : abv (x :: t) m = ab1 m x + abv t m := by unfold abv; simp
theorem j6m {row : List Int} {m n : Int} (h : m ≤ n) : abv row n ≤ abv row m := by
  induction row with
  | nil => exact Int.le_refl _
  | cons x t ih =>
    rw [j4u, j4u]
    rcases j2q n x with ⟨a, b⟩ | ⟨a, b⟩ <;> rcases j2q m x with ⟨c, d⟩ | ⟨c, d⟩ <;> omega
theorem j3m (L : Int) : ∀ (row : List Int) (r : Int), (cutL L r row).length = row.length
  | [], _ => rfl
  | x :: t, r => by
    unfold cutL
    split
    · split <;> simp [j3m L t]
    · simp [j3m L t]
noncomputable def cn (L : Int) : List Int → Int
  | [] => 0
  | x :: t => (if L ≤ x then 1 else 0) + cn L t
theorem cn_nn (L : Int) : ∀ l : List Int, 0 ≤ cn L l
  | [] => Int.le_refl _
  | x :: t => by unfold cn; have := cn_nn L t; split <;> omega
theorem j8o (L x : Int) : ∀ l : List Int, cn L (l ++ [x]) = cn L l + (if L ≤ x then 1 else 0)
  | [] => by simp [cn]
  | y :: t => by simp only [List.cons_append, cn]; rw [j8o L x t]; omega
theorem j4v (L : Int) : ∀ (row : List Int) (r : Int) (i : Nat) (x : Int), row[i]? = some x → (cutL L r row)[i]? = some (if L ≤ x then (if cn L (row.take i) < r then L - 1 else L) else x)
  | [], r, i, x, h => by simp at h
  | y :: t, r, 0, x, h => by
    simp at h; subst h
    unfold cutL
    split
    · simp only [List.take_zero, cn]
      split <;> simp
    · simp
  | y :: t, r, i + 1, x, h => by
    have h' : t[i]? = some x := by simpa using h
    have c0 := cn_nn L (t.take i)
    rw [List.take_succ_cons]
    unfold cutL cn
    by_cases hy : L ≤ y
    · rw [if_pos hy, if_pos hy]
      split
      · rw [List.getElem?_cons_succ, j4v L t (r - 1) i x h']
        congr 1
        split
        · by_cases hc : cn L (t.take i) < r - 1
          · rw [if_pos hc, if_pos (by omega)]
          · rw [if_neg hc, if_neg (by omega)]
        · rfl
      · rw [List.getElem?_cons_succ, j4v L t r i x h']
        congr 1
        split
        · rw [if_neg (by omega), if_neg (by omega)]
        · rfl
    · rw [if_neg hy, if_neg hy, List.getElem?_cons_succ, j4v L t r i x h']
      congr 1
      split
      · by_cases hc : cn L (t.take i) < r
        · rw [if_pos hc, if_pos (by omega)]
        · rw [if_neg hc, if_neg (by omega)]
      · rfl
noncomputable def Low (row : List Int) (a : Int) (out : List Int) : Prop := ∃ L, abv row L ≤ a ∧ a < abv row (L - 1) ∧ out = cutL L (a - abv row L) row
theorem Low.len {row out : List Int} {a : Int} (h : Low row a out) : out.length = row.length := by obtain ⟨L, _, _, rfl⟩ := h; exact j3m _ _ _
theorem Low.uniq {row o1 o2 : List Int} {a : Int} (h : Low row a o1) (h' : Low row a o2) : o1 = o2 := by
  obtain ⟨L, h1, h2, rfl⟩ := h
  obtain ⟨M, g1, g2, rfl⟩ := h'
  have e : L = M := by
    rcases Int.lt_trichotomy L M with z | z | z
    · have := j6m (row := row) (m := L) (n := M - 1) (by omega); omega
    · exact z
    · have := j6m (row := row) (m := M) (n := L - 1) (by omega); omega
  subst e; rfl
noncomputable def dec1 (M : Int) : List Int → List Int
  | [] => []
  | x :: t => if x = M then (M - 1) :: t else x :: dec1 M t
theorem level_ok {row : List Int} {m : Nat} {a : Int} (h1 : 1 ≤ m) (hm : m ≤ row.length) (hin : top m row - m * ((srt row).reverse.getD (m - 1) 0) ≤ a)
    (hout : m < row.length → a < top m row - m * ((srt row).reverse.getD m 0)) : abv row (-((a - top m row) / m)) ≤ a ∧ a < abv row (-((a - top m row) / m) - 1) := by
  generalize hw : (srt row).reverse = w at *
  have wl : w.length = row.length := by rw [← hw]; exact j6l row
  have wd : w.Pairwise (· ≥ ·) := by rw [← hw]; exact srt_down row
  have wp : w.Perm row := by rw [← hw]; exact j5l row
  have tw : (w.take m).sum = top m row := by rw [← hw]; exact j8m hm
  generalize ht : top m row = t at *
  have mp : (0 : Int) < (m : Int) := by omega
  generalize hL : -((a - t) / m) = L at *
  have d1 : (m : Int) * ((a - t) / m) ≤ a - t := by have := Int.mul_ediv_self_le (x := a - t) (k := (m : Int)) (by omega); exact this
  have d2 : a - t < (m : Int) * ((a - t) / m) + m := by
    have := Int.lt_mul_ediv_self_add (x := a - t) (k := (m : Int)) mp
    exact this
  have mL : (m : Int) * ((a - t) / m) = -((m : Int) * L) := by rw [← hL, Int.mul_neg]; omega
  rw [mL] at d1 d2
  have key : ∀ z : Int, t - m * z ≤ a → L ≤ z := fun z hz => by
    by_cases c : L ≤ z
    · exact c
    · exfalso
      have : (m : Int) * z ≤ m * (L - 1) := Int.mul_le_mul_of_nonneg_left (by omega) (by omega)
      rw [Int.mul_sub] at this
      omega
  have key2 : ∀ z : Int, a < t - m * z → z ≤ L - 1 := fun z hz => by
    by_cases c : z ≤ L - 1
    · exact c
    · exfalso
      have : (m : Int) * L ≤ m * z := Int.mul_le_mul_of_nonneg_left (by omega) (by omega)
      omega
  have hi : ∀ x ∈ w.take m, L ≤ x := fun x hx => by
    obtain ⟨k, hk, e⟩ := List.getElem_of_mem hx
    have hk' : k < m := by rw [List.length_take] at hk; omega
    have f := j8n wd k (m - 1) (by omega) (by omega)
    have e2 : w.getD k 0 = x := by
      rw [List.getD_eq_getElem?_getD, List.getElem?_eq_getElem (by omega)]
      rw [List.getElem_take] at e
      exact e
    have := key _ hin
    omega
  have lo : ∀ x ∈ w.drop m, x ≤ L - 1 := fun x hx => by
    obtain ⟨k, hk, e⟩ := List.getElem_of_mem hx
    rw [List.length_drop] at hk
    have f := j8n wd m (m + k) (by omega) (by omega)
    have e2 : w.getD (m + k) 0 = x := by
      rw [List.getD_eq_getElem?_getD, List.getElem?_eq_getElem (by omega)]
      rw [List.getElem_drop] at e
      exact e
    have := key2 _ (hout (by omega))
    omega
  have sp : ∀ z, z ≤ L → (∀ x ∈ w.drop m, x ≤ z) → abv row z = t - m * z := fun z hz hd => by
    rw [← abv_perm wp z, ← List.take_append_drop m w, abv_app, j6j z _ hd, abv_eq z _ fun x hx => Int.le_trans hz (hi x hx), tw, List.length_take]
    have : min m w.length = m := by omega
    rw [this]; omega
  have e1 := sp L (Int.le_refl _) fun x hx => by have := lo x hx; omega
  have e2 := sp (L - 1) (by omega) lo
  rw [Int.mul_sub] at e2
  omega
end L3
end
noncomputable section
namespace L3
open PySem PySem.Spec PyProof.Rows L2
abbrev iV (ns : List Int) : List V := ns.map V.int
theorem j0w (ns : List Int) : (iV ns).length = ns.length := List.length_map ..
section
variable {X : Cx}
theorem j71 {e : Expr} {t : TA} {b : Bool} {j : Nat} {p p2 p3 pos : Pos} (hg : Gl X "sorted") (hm : X.mg "sorted" = none) (ha : PA X [e] t) (he : starEach [e] X.env = [(false, eval e X.env)] := by rfl) :
    PE X (.Call (.Name "sorted" p) [e] [⟨some "reverse", .Constant (.bool b) j p2, p3⟩] pos) (fun σ H Q => t σ H fun vs H1 => ∃ a ns, vs = [.ref a] ∧ SqL X.K H1 a (iV ns) ∧ ∀ l, H1 l = none → Q (.ref l) (upd H1 l (.lst (iV (if b then (srt ns).reverse else srt ns))))) := by
  intro pins s σ H Q I h
  refine wpAny_Call_Name_kw (j3r I hg hm boot_sorted ?_ (by decide) (by decide))
  refine callWith_kw (thn (ha pos pins s σ H _ I h) fun us s1 ⟨vs, H1, I1, r, q⟩ => ?_) (by rw [he]; rfl) (by rw [he]; rfl)
  have hk : PK X [⟨some "reverse", .Constant (.bool b) j p2, p3⟩] (j06 (tC (.bl b)) tNil) := pk_cons j1i pk_nil
  refine thn (hk pos pins s1 σ H1 (fun zs H2 => zs = [.bl b] ∧ ∃ a ns, vs = [.ref a] ∧ SqL X.K H2 a (iV ns) ∧ ∀ l, H2 l = none → Q (.ref l) (upd H2 l (.lst (iV (if b then (srt ns).reverse else srt ns))))) I1 ⟨rfl, q⟩) fun ws s2 ⟨zs, H2, I2, rz, e2, q2⟩ => ?_
  subst e2
  obtain ⟨w', rfl, rw'⟩ := j4l rz
  cases rw'
  obtain ⟨a, ns, rfl, hx, q3⟩ := q2
  obtain ⟨u, rfl, rx⟩ := j4l r
  cases rx
  obtain ⟨its, r', pl, hz⟩ := I2.list hx
  have hI : IntsAre its ns := j34 r'
  have hlen := r'.length
  show wpAny _ _ (call (.builtin "sorted") [.ref a] [(Str.ofString "reverse", .bool b)]) _ _ _
  refine Srt.j48 pl.isList hI (by omega) fun out ms c1 c2 c3 => ?_
  have em : ms = if b then (srt ns).reverse else srt ns := by
    cases b
    · exact srt_eq c2 c3
    · have c3' : ms.Pairwise (· ≥ ·) := c3
      have := srt_eq (ms := ms.reverse) ((List.reverse_perm ms).trans c2) (List.pairwise_reverse.mpr c3')
      rw [if_pos rfl, ← this, List.reverse_reverse]
  subst em
  obtain ⟨n, ho⟩ := sortedAll_at s2.heap its out
  have hf : H2 (s2.heap.objs.size + 1) = none := I2.hok.fresh (Nat.le_succ _)
  refine ⟨.ref (s2.heap.objs.size + 1), _, I2.laid (t' := s2.toks) (o := .lst (iV (if b then (srt ns).reverse else srt ns))) (fun b o e => sortedAll_old e) (Nat.le_succ _) ⟨?_, out.toList, n, j2o c1, by simpa using ho⟩, rfl, q3 _ hf⟩
  have : (if b = true then (srt ns).reverse else srt ns).length = ns.length := by cases b <;> simp [j8l]
  rw [j0w, this, ← j0w]; exact hz
theorem j3n (hc : X.calm = true) : j3h X (.builtin "sum") (fun xs H Q => ∃ p ns, xs = [.ref p] ∧ SqL X.K H p (iV ns) ∧ Q (.int ns.sum) H) := by
  intro pins s σ H xs us Q I r h
  obtain ⟨p, ns, rfl, hx, q⟩ := h
  obtain ⟨u, rfl, rx⟩ := j4l r
  cases rx
  obtain ⟨its, r', pl, hz⟩ := I.list hx
  have hI : IntsAre its ns := j34 r'
  obtain ⟨zs, hzs⟩ := hI.allInts.items
  refine sum_intListG (I.ok.hd hc) (hzs ▸ pl.isList) fun h' tk t' hk => ?_
  have e1 : ns = zs.toList.map (·.1) := by
    rw [← nums_intItems, ← hzs]
    exact (show numsOf its.toArray.toList = ns from hI.numsOf).symm
  have e2 : preSum (numAt zs) zs.size = ns.sum := by rw [preSum_eq, List.take_of_length_le (by simp), e1]
  exact ⟨.int ns.sum, H, I.kept hk, ⟨t', by rw [e2]⟩, q⟩
theorem j6n {pins : List (Addr × Obj)} {σ : L2.St} {H : Hp} {s : Shared} (I : Inv X pins σ H s) : ∃ m, Fr X.base X.env.locals s.heap m ∧ News X.base X.env.locals s.heap (j30 X.base s.heap X.env.locals) :=
  let ⟨m, F⟩ := I.fr
  ⟨m, F, news_all⟩
theorem Inv.newsed {pins : List (Addr × Obj)} {σ : L2.St} {H : Hp} {s : Shared} {h' : Heap} {tk : Nat} (I : Inv X pins σ H s) {m : Str → Option Value} (F0 : Fr X.base X.env.locals s.heap m) (F : Fr X.base X.env.locals h' m) (N : News X.base X.env.locals h' (j30 X.base s.heap X.env.locals)) :
    Inv X pins σ H { s with heap := h', toks := tk } := by
  have kept : ∀ b o, b ≠ X.env.locals → s.heap.get? b = some o → h'.get? b = some o := fun b o hb e => by
    cases q : X.base.get? b with
    | some u =>
      have := I.bk b u q
      rw [e] at this; cases this
      exact F.keep b _ q
    | none => exact (N (b, o) (j5r hb q e)).1
  have nl : ∀ b u, H b = some u → b ≠ X.env.locals := fun b u e z => by
    have n := I.free
    rw [← z, e] at n; cases n
  refine I.step (g' := s.gens) (d' := s.drawn) (ch := []) (fun _ z => nomatch z) (fun b o hb _ _ e _ => kept b o hb e) (fun b o hb _ _ e _ => ⟨o.slots, kept b o hb e⟩) (fun _ _ _ _ n => n) (fun b o _ e => ?_) (fun _ _ e => e) (fun _ _ _ e => e) (fun b ps e => ⟨#[], by rw [e]; simp⟩) (fun m' hm => ?_) (fun b u e => ?_) I.bare
  · by_cases hb : b = X.env.locals
    · obtain ⟨o', _, _, ho', _⟩ := F.ns
      exact ⟨o', by rw [hb]; exact ho'⟩
    · exact ⟨o, kept b o hb e⟩
  · rw [hm.eq_nsMap, ← F0.ns.eq_nsMap]; exact F.ns
  · refine (I.hok b u e).stay (fun c v hc q => kept c v ?_ q) (fun _ q => q) fun _ _ q => q
    rcases hc with z | z
    · rw [z]; exact nl b u e
    · exact nl c _ z
end
end L3
end
noncomputable section
namespace L3
open PySem PySem.Spec PyProof.Rows L2
noncomputable def clG (cells : List (Str × Addr)) : List (Str × NameKind) → List (Str × Addr) → List (Str × Addr)
  | [], acc => acc
  | (n, k) :: r, acc => if k == .free then (match cells.lookup n with
    | some a => clG cells r ((n, a) :: acc)
    | none => clG cells r acc) else clG cells r acc
theorem j0k {α : Type} {n x : Str} {a : α} {l : List (Str × α)} : ((n, a) :: l).lookup x = if x = n then some a else l.lookup x := by
  rw [List.lookup_cons]
  by_cases h : x = n
  · subst h; simp
  · rw [if_neg h]
    have : (x == n) = false := by simpa using h
    rw [this]
theorem j2r {cells : List (Str × Addr)} {x : Str} {c : Addr} : ∀ {l : List (Str × NameKind)} {acc : List (Str × Addr)}, (∀ c, acc.lookup x = some c → cells.lookup x = some c) → (clG cells l acc).lookup x = some c → cells.lookup x = some c
  | [], acc, h, e => h c e
  | (n, k) :: r, acc, h, e => by
    unfold clG at e
    split at e
    · split at e
      · rename_i a ha
        refine j2r (l := r) (acc := (n, a) :: acc) (fun c' z => ?_) e
        rw [j0k] at z
        split at z
        · rename_i hx
          rw [hx, ha]; exact z
        · exact h c' z
      · exact j2r (l := r) h e
    · exact j2r (l := r) h e
theorem j3x {cells : List (Str × Addr)} {x : Str} {a : Addr} (hx : cells.lookup x = some a) : ∀ {l : List (Str × NameKind)} {acc : List (Str × Addr)}, ((x, NameKind.free) ∈ l ∨ ∃ c, acc.lookup x = some c) → ∃ c, (clG cells l acc).lookup x = some c
  | [], acc, h => by
    rcases h with h | h
    · cases h
    · exact h
  | (n, k) :: r, acc, h => by
    unfold clG
    split
    · rename_i hk
      split
      · rename_i a' ha
        refine j3x hx (l := r) ?_
        by_cases e : x = n
        · exact .inr ⟨a', by rw [j0k, if_pos e]⟩
        · rcases h with h | ⟨c, h⟩
          · rcases List.mem_cons.mp h with z | z
            · cases z; exact absurd rfl e
            · exact .inl z
          · exact .inr ⟨c, by rw [j0k, if_neg e]; exact h⟩
      · rename_i ha
        refine j3x hx (l := r) ?_
        rcases h with h | h
        · rcases List.mem_cons.mp h with z | z
          · cases z; rw [hx] at ha; cases ha
          · exact .inl z
        · exact .inr h
    · rename_i hk
      refine j3x hx (l := r) ?_
      rcases h with h | h
      · rcases List.mem_cons.mp h with z | z
        · cases z; exact absurd rfl hk
        · exact .inl z
      · exact .inr h
theorem j72 {scope : Scope} {env : Env} (h : ∀ n, (n, NameKind.free) ∈ scope.names → ∃ a, env.cells.lookup n = some a) : closureFor scope env = pure (clG env.cells scope.names []) := by
  have all : ∀ (l : List (Str × NameKind)) (cs : List (Str × Addr)), (∀ n, (n, NameKind.free) ∈ l → ∃ a, env.cells.lookup n = some a) →
      (forIn l cs fun x r => (if (x.2 == NameKind.free) = true then do let a ← cellOf env x.1; pure (ForInStep.yield ((x.1, a) :: r)) else pure (ForInStep.yield r) : Sem (ForInStep (List (Str × Addr))))) = pure (clG env.cells l cs) := by
    intro l
    induction l with
    | nil => intro cs _; rfl
    | cons x r ih =>
      intro cs hl
      obtain ⟨n, k⟩ := x
      rw [List.forIn_cons]
      have ih' := fun cs => ih cs fun n' hn => hl n' (List.mem_cons_of_mem _ hn)
      unfold clG
      by_cases hk : (k == NameKind.free) = true
      · have ek : k = NameKind.free := by simpa using hk
        obtain ⟨a, ha⟩ := hl n (by rw [ek]; exact List.mem_cons_self)
        have e : cellOf env n = pure a := by unfold cellOf; rw [ha]
        simp only [hk, if_true, ha, e]
        exact ih' _
      · simp only [hk]
        exact ih' _
  have e := all scope.names [] h
  have e2 : closureFor scope env = ((forIn scope.names [] fun x r => (if (x.2 == NameKind.free) = true then do let a ← cellOf env x.1; pure (ForInStep.yield ((x.1, a) :: r)) else pure (ForInStep.yield r) : Sem (ForInStep (List (Str × Addr))))) >>= fun z => pure z) := rfl
  rw [e2, e]
  rfl
noncomputable def PTs (X : Cx) (ifs : List Expr) (t : TT) : Prop :=
  ∀ (pins : List (Addr × Obj)) (s : Shared) (σ : L2.St) (H : Hp) (Q : Bool → Hp → Prop), Inv X pins σ H s → t σ H Q →
    wpAny (model X.prog X.w) X.A (forIn ifs true fun c r => if r = true then do let ok ← isTrue c X.env (eval c X.env); pure (ForInStep.yield ok) else pure (ForInStep.yield r)) (TP X pins σ Q) X.xe s
theorem j8p {X : Cx} : PTs X [] (fun _ H Q => Q true H) := fun _ _ _ H _ I h => wpAny_tests_nil ⟨H, I, h⟩
theorem j8q {X : Cx} {c : Expr} {t : TT} (h : PT X c t) : PTs X [c] t := fun pins s σ H Q I q => wpAny_tests_one (h pins s σ H Q I q)
noncomputable def cxC (X : Cx) (scope : Scope) (C : Addr) (fp : List Addr) (s2 : Shared) (H2 : Hp) (pins : List (Addr × Obj)) (N : List Str) : Cx :=
  { X with N := N, s₀ := s2, H₀ := H2, env := compEnvC scope (clG X.env.cells scope.names []) C X.env, outer := X.stack, ex := fp, fn := fun _ => false, pn := X.pn ++ pins, xe := fun _ _ => False }
structure CompSc (X : Cx) (scope : Scope) (x : Str) (caps : List Str) (idx : List Nat) : Prop where
  kind : scope.kind = .function
  cell : ∀ y ∈ scope.names, y.2 ≠ .cell
  names : ∀ y ∈ scope.names, y.2 = .local → scope.names.lookup y.1 = some .local
  lx : scope.names.lookup x = some .local
  fr : ∀ y ∈ scope.names, y.2 = .free → scope.names.lookup y.1 = some .free
  free : ∀ y ∈ scope.names, y.2 = .free → X.env.kindOf y.1 = some .cell ∨ X.env.kindOf y.1 = some .free
  nd : (x :: caps).Nodup
  len : idx.length = caps.length
  cap : ∀ (k : Nat) (i : Nat) (y : Str), idx[k]? = some i → caps[k]? = some y → X.N[i]? = some y
  out : ∀ y ∈ caps, (y, NameKind.free) ∈ scope.names
noncomputable def capV (idx : List Nat) (σ : L2.St) : L2.St := idx.map fun i => (σ[i]?).getD none
noncomputable def j8r (wi : TI) (idx : List Nat) (ti : TT) (te : TE) : TE := fun σ H Q => wi σ H fun J H1 => ∀ D, H1 D = none →
  ∃ W : Nat → Nat → List V → Hp → Prop, (∃ m, W 0 m [] (upd H1 D (.lst []))) ∧ ∀ i m ys H2, W i m ys H2 →
    (J.stop i H2 ∧ Q (.ref D) H2) ∨ (J.go i H2 ∧ ∀ x H3, J.yld i H2 x H3 → ti (some x :: capV idx σ) H3 fun b H4 =>
      if b = true then te (some x :: capV idx σ) H4 fun y H5 => H5 D = some (.lst ys) ∧ ys.length < sizeLine ∧ ∃ m', m' < m ∧ W (i + 1) m' (ys ++ [y]) (upd H5 D (.lst (ys ++ [y])))
      else ∃ m', m' < m ∧ W (i + 1) m' ys H4)
theorem j1p {env : Env} : ∀ {names : List (Str × NameKind)} {x : Str} {k : NameKind}, (names.map fun (n, k) => if (k == NameKind.free && env.scope.kind == .function && env.kindOf n == some .cell) then (n, NameKind.cell) else (n, k)).lookup x = some k →
    (k = .cell ∨ k = .free) → (∀ y ∈ names, y.2 ≠ .cell) → (x, NameKind.free) ∈ names
  | [], _, _, h, _, _ => by simp at h
  | (n, k0) :: r, x, k, h, hk, hc => by
    rw [List.map_cons] at h
    dsimp only at h
    have ih := fun h' => j1p (env := env) (names := r) (x := x) (k := k) h' hk fun y hy => hc y (List.mem_cons_of_mem _ hy)
    by_cases hcond : (k0 == NameKind.free && env.scope.kind == .function && env.kindOf n == some .cell) = true
    · rw [if_pos hcond, j0k] at h
      by_cases e : x = n
      · subst e
        have : k0 = NameKind.free := by
          simp only [Bool.and_eq_true] at hcond
          simpa using hcond.1.1
        rw [this]; exact List.mem_cons_self
      · rw [if_neg e] at h
        exact List.mem_cons_of_mem _ (ih h)
    · rw [if_neg hcond, j0k] at h
      by_cases e : x = n
      · subst e
        rw [if_pos rfl] at h
        have e2 : k0 = k := Option.some.inj h
        rcases hk with z | z
        · exact absurd (e2.trans z) (hc _ List.mem_cons_self)
        · rw [e2, z]; exact List.mem_cons_self
      · rw [if_neg e] at h
        exact List.mem_cons_of_mem _ (ih h)
theorem j3d {env : Env} : ∀ {names : List (Str × NameKind)} {x : Str}, names.lookup x = some .free →
    (names.map fun (n, k) => if (k == NameKind.free && env.scope.kind == .function && env.kindOf n == some .cell) then (n, NameKind.cell) else (n, k)).lookup x ≠ some .local
  | [], _, h => by simp at h
  | (n, k0) :: r, x, h => by
    rw [j0k] at h
    rw [List.map_cons]
    dsimp only
    by_cases e : x = n
    · rw [if_pos e] at h
      have e2 : k0 = NameKind.free := Option.some.inj h
      subst e2
      split
      · rw [j0k, if_pos e]; intro z; cases z
      · rw [j0k, if_pos e]; intro z; cases z
    · rw [if_neg e] at h
      have ih := j3d (env := env) h
      split
      · rw [j0k, if_neg e]; exact ih
      · rw [j0k, if_neg e]; exact ih
section
variable {X : Cx} {elt iter : Expr} {x : Str} {px pos : Pos} {ifs : List Expr} {scope : Scope} {wi : TI} {ti : TT} {te : TE} {caps : List Str} {idx : List Nat}
theorem cxC_ok {pins : List (Addr × Obj)} {σ : L2.St} {H2 : Hp} {s2 : Shared} {C : Addr} {fp : List Addr} (S : CompSc X scope x caps idx) (I : Inv X pins σ H2 s2) (hC : s2.heap.objs.size ≤ C) (hf : ∀ b ∈ fp, FpOk X pins H2 b) (hfl : ∀ b ∈ fp, b < s2.heap.objs.size) :
    (cxC X scope C fp s2 H2 pins (x :: caps)).Ok := by
  have from' : ∀ {y : Str} {c : Addr}, (clG X.env.cells scope.names []).lookup y = some c → X.env.cells.lookup y = some c := fun e => j2r (fun _ z => by simp at z) e
  have clt : ∀ {y : Str} {c : Addr}, X.env.cells.lookup y = some c → c < s2.heap.objs.size := fun e => by
    obtain ⟨v, q⟩ := I.cell _ _ e
    exact q.lt
  refine ⟨I.ok.mod, S.kind, I.ok.glob, I.ok.blt, hC, fun y z c e1 e2 => I.ok.inj y z c (from' e1) (from' e2), fun y hy => ?_, (fun y c z => by cases z), I.ok.hd, I.ok.frames, .inl rfl, fun b hb => ?_, I.bs, ?_, fun b o e hb => ?_, fun b hb hb2 => ?_, I.stack, I.stkFree⟩
  · have m : (y, NameKind.free) ∈ scope.names := by
      rcases hy with e | e
      · exact j1p (env := X.env) e (.inl rfl) S.cell
      · exact j1p (env := X.env) e (.inr rfl) S.cell
    obtain ⟨a, ha⟩ := I.ok.has y (S.free _ m rfl)
    exact j3x ha (.inl m)
  · obtain ⟨_, f1, f2, f3, f4, f5⟩ := hf b hb
    exact ⟨Nat.ne_of_lt (Nat.lt_of_lt_of_le (hfl b hb) hC), fun y c e => f4 y c (from' e)⟩
  · exact Nat.le_trans I.ok.bsz I.sz
  · obtain ⟨_, f1, f2, f3, f4, f5⟩ := hf b hb
    rcases f3 with z | z
    · exact I.ok.noex b o e z
    · exact absurd (Nat.lt_of_lt_of_le (Heap.lt_size (I.ok.bs b o e).1) z) (Nat.lt_irrefl _)
  · obtain ⟨_, f1, f2, f3, f4, f5⟩ := hf b hb
    rcases List.mem_cons.mp (I.stkSub b hb2) with z | z
    · exact f1 z
    · exact f2 z
end
end L3
end
noncomputable section
namespace L3
open PySem PySem.Spec PyProof.Rows L2
section
variable {X : Cx} {elt iter : Expr} {x : Str} {px pos : Pos} {ifs : List Expr} {scope : Scope} {wi : TI} {ti : TT} {te : TE} {caps : List Str} {idx : List Nat}
theorem j73 {use : Option (Value → Sem Unit)} {Qf : Value → Shared → Prop} {pins : List (Addr × Obj)} {σ : L2.St} {H : Hp} {s : Shared} {Q : VK} {cpos : Pos} (xi : List (Addr × Obj) → Addr → List Addr → Shared → Hp → Value → Shared → Prop) (hc : X.calm = true) (S : CompSc X scope x caps idx) (hi : PI X (.Name x px) iter wi)
    (ht : ∀ C fp s2 H2 pins, PTs (cxC X scope C fp s2 H2 pins (x :: caps)) ifs ti) (he : ∀ C fp s2 H2 pins, PE ((cxC X scope C fp s2 H2 pins (x :: caps)).wish (xi pins C fp s2 H2)) elt te) (I : L2.Inv X pins σ H s) (h : j8r wi idx ti te σ H Q)
    (herr : ∀ (C : Addr) (fp : List Addr) (s2 : Shared) (H2 : Hp) (D e : Value) (s' : Shared), L2.Inv X pins σ H2 s2 → s2.heap.objs.size ≤ C → (∀ b ∈ fp, FpOk X pins H2 b) → xi pins C fp s2 H2 e s' → notedBy (model X.prog X.w) X.A (compEnvC scope (clG X.env.cells scope.names []) C X.env) (fun e s'' => compPost (model X.prog X.w) X.A X.xe use Qf D C (.error e) s'') e s')
    (post : ∀ (C D : Addr) (fp : List Addr) (s2 s' : Shared) (H2 H' : Hp) (σ' : L2.St), L2.Inv X pins σ H2 s2 → s2.heap.objs.size ≤ C → (∀ b ∈ fp, FpOk X pins H2 b) → L2.Inv (cxC X scope C fp s2 H2 pins (x :: caps)) [] σ' H' s' → Q (.ref D) H' → compPost (model X.prog X.w) X.A X.xe use Qf (.ref D) C (.ok .next) s')
    (hs : ∀ x, foldedSetIterable iter X.env x = pure x := by intro _; rfl) : wpAny (model X.prog X.w) X.A (comprehension (.ListComp elt [⟨.Name x px, iter, ifs, 0⟩] scope pos) scope X.env cpos (newList []) false (eval iter X.env) use) Qf X.xe s := by
  refine wpAny_comprehension_free (use := use) rfl hs (j72 fun n hn => I.ok.has n (S.free _ hn rfl)) S.kind S.names (thn (hi pins s σ H _ I h) fun v s1 h1 => thn h1 fun itv s2 h2 => ?_)
  obtain ⟨it, fp, tn, J, H2, rfl, I2, T, st2, f2, h⟩ := h2
  refine wpAny_newObj_type (wpAny_newFunctionEnv S.cell (by intro y hy; simp at hy) (fun h₁ hns₁ hsb₁ => ?_) S.kind)
  dsimp only at hns₁ hsb₁ ⊢
  generalize hP : s2.heap.push { cls := .type "list", dict := none, data := .seq ([] : List Value).toArray } = P at hns₁ hsb₁ ⊢
  have hC : P.objs.size = s2.heap.objs.size + 1 := by rw [← hP, Heap.size_push]
  have hDC : s2.heap.objs.size ≠ P.objs.size := by rw [hC]; exact Nat.ne_of_lt (Nat.lt_succ_self _)
  have hCle : s2.heap.objs.size ≤ P.objs.size := by rw [hC]; exact Nat.le_succ _
  have ltC : ∀ {b : Addr}, b < s2.heap.objs.size → b ≠ P.objs.size := fun hb => Nat.ne_of_lt (Nat.lt_of_lt_of_le hb hCle)
  have old : ∀ b o, s2.heap.get? b = some o → h₁.get? b = some o := fun b o e => hsb₁.extBut b o (ltC (Heap.lt_size e)) (Heap.get?_push_of_some _ (hP ▸ Heap.get?_push_of_some _ e))
  have accAt : h₁.get? s2.heap.objs.size = some { cls := .type "list", data := .seq ([] : List Value).toArray } := hsb₁.extBut _ _ hDC (Heap.get?_push_of_some _ (hP ▸ Heap.get?_push_size _ rfl))
  have fresh : ∀ a, s2.heap.objs.size ≤ a → s2.heap.get? a = none := fun a ha => by
    cases e : s2.heap.get? a with
    | none => rfl
    | some o' => exact absurd (Heap.lt_size e) (Nat.not_lt.mpr ha)
  have fpl : ∀ b ∈ fp, b < s2.heap.objs.size := fun b hb => by
    obtain ⟨o, e, _⟩ := T.obj _ _ st2 b hb
    exact Heap.lt_size e
  have hD0 : H2 s2.heap.objs.size = none := I2.hok.fresh (Nat.le_refl _)
  have hC0 : H2 P.objs.size = none := I2.hok.fresh hCle
  have from' : ∀ {y : Str} {c : Addr}, (clG X.env.cells scope.names []).lookup y = some c → X.env.cells.lookup y = some c := fun e => j2r (fun _ z => by simp at z) e
  have clt : ∀ {y : Str} {c : Addr}, X.env.cells.lookup y = some c → c < s2.heap.objs.size := fun e => by
    obtain ⟨v, q⟩ := I2.cell _ _ e
    exact q.lt
  have neD : ∀ {b : Addr}, b < s2.heap.objs.size → b ≠ s2.heap.objs.size := fun hb => Nat.ne_of_lt hb
  have I3 : Inv (cxC X scope P.objs.size fp s2 H2 pins (x :: caps)) [] (none :: capV idx σ) (upd H2 s2.heap.objs.size (.lst [])) { s2 with heap := h₁, toks := s2.toks + ([] : List (Str × Value)).length } := by
    refine ⟨cxC_ok S I2 hCle f2 fpl, rfl, I2.bare, Un.laid old (Nat.le_refl _) hD0, ⟨_, hns₁, fun i y v e1 e2 e3 => ?_⟩, fun y c e => ?_, ?_, fun y c e => ?_, fun p hp => ?_, I2.hok.laid old (Nat.le_refl _) ⟨Nat.zero_le _, [], 0, .nil, accAt⟩, ?_⟩
    · cases i with
      | zero => cases e2
      | succ k =>
        have e1' : caps[k]? = some y := e1
        have e2' : (capV idx σ)[k]? = some (some v) := e2
        unfold capV at e2'
        rw [List.getElem?_map] at e2'
        cases ei : idx[k]? with
        | none => rw [ei] at e2'; cases e2'
        | some i0 =>
          rw [ei] at e2'
          have e4 : (σ[i0]?).getD none = some v := Option.some.inj e2'
          have e5 : σ[i0]? = some (some v) := by
            cases e6 : σ[i0]? with
            | none => rw [e6] at e4; cases e4
            | some z => rw [e6] at e4; exact congrArg some e4
          have hfree := S.out y (List.mem_of_getElem? e1')
          have hk := S.free _ hfree rfl
          obtain ⟨m, hn, hl⟩ := I2.loc
          have vis : Vis X.env.scope y := by
            rcases hk with z | z
            · exact .inr (.inl z)
            · exact .inr (.inr z)
          obtain ⟨u, r, l⟩ := hl i0 y v (S.cap k i0 y ei e1') e5 vis
          refine ⟨u, r, .inr ?_⟩
          rcases l with ⟨z, _⟩ | ⟨_, c, hc', hcell⟩
          · rcases hk with z2 | z2
            · rw [z] at z2; cases z2
            · rw [z] at z2; cases z2
          · obtain ⟨c2, hc2⟩ := j3x hc' (l := scope.names) (acc := []) (.inl hfree)
            have : c2 = c := Option.some.inj ((from' hc2).symm.trans hc')
            subst this
            refine ⟨?_, c2, hc2, hcell.keeps old⟩
            rcases e3 with z | z | z
            · exfalso
              exact j3d (env := X.env) (S.fr _ hfree rfl) z
            · exact .inl z
            · exact .inr z
    · obtain ⟨v, q⟩ := I2.cell y c (from' e)
      exact ⟨v, q.keeps old⟩
    · show upd H2 _ _ P.objs.size = none
      rw [j0q (Ne.symm hDC)]; exact hC0
    · rw [j0q (neD (clt (from' e)))]; exact I2.freeC y c (from' e)
    · have hp' : p ∈ X.pn ++ pins := by
        have : p ∈ (X.pn ++ pins) ++ [] := hp
        simpa using this
      obtain ⟨a1, a2, a3, a4, a5⟩ := I2.pin p hp'
      refine ⟨old _ _ a1, ?_, ltC (Heap.lt_size a1), fun z => ?_, a5⟩
      · rw [j0q (neD (Heap.lt_size a1))]; exact a2
      · rcases List.mem_cons.mp (I2.stkSub p.1 z) with w' | w'
        · exact a3 w'
        · exact a4 w'
    · show (none :: capV idx σ).length = (x :: caps).length
      unfold capV
      rw [List.length_cons, List.length_map, S.len, List.length_cons]
  have post' : ∀ {σ' : L2.St} {H' : Hp} {s' : Shared}, L2.Inv (cxC X scope P.objs.size fp s2 H2 pins (x :: caps)) [] σ' H' s' → Q (.ref s2.heap.objs.size) H' → compPost (model X.prog X.w) X.A X.xe use Qf (.ref s2.heap.objs.size) P.objs.size (.ok .next) s' := fun {σ' H' s'} I' q => post _ _ fp s2 s' H2 H' σ' I2 hCle f2 I' q
  obtain ⟨W, ⟨m0, w0⟩, turn⟩ := h s2.heap.objs.size hD0
  have stat : ∀ {H' : Hp}, (∀ b ∈ fp, H' b = none) → ∀ b ∈ fp, FpOk (cxC X scope P.objs.size fp s2 H2 pins (x :: caps)) [] H' b := fun hn b hb => by
    obtain ⟨_, g1, g2, g3, g4, g5⟩ := f2 b hb
    refine ⟨hn b hb, ltC (fpl b hb), fun z => ?_, .inl hb, fun y c e => g4 y c (from' e), fun p hp => g5 p (by have : p ∈ (X.pn ++ pins) ++ [] := hp; simpa using this)⟩
    rcases List.mem_cons.mp (I2.stkSub b z) with w' | w'
    · exact g1 w'
    · exact g2 w'
  have loop : ∀ s₃ : Shared, Inv (cxC X scope P.objs.size fp s2 H2 pins (x :: caps)) [] (none :: capV idx σ) (upd H2 s2.heap.objs.size (.lst [])) s₃ → tn 0 s₃.heap →
      codeAny (model X.prog X.w) X.A (.compLoop (.ListComp elt [⟨.Name x px, iter, ifs, 0⟩] scope pos) 0 (.ref it) (.ref s2.heap.objs.size) (compEnvC scope (clG X.env.cells scope.names []) P.objs.size X.env))
        (compPost (model X.prog X.w) X.A X.xe use Qf (.ref s2.heap.objs.size) P.objs.size) s₃ := by
    intro s₃ I₃ st₃
    refine codeAny_loop rfl (fun n s' => ∃ i ys xo H', Inv (cxC X scope P.objs.size fp s2 H2 pins (x :: caps)) [] (xo :: capV idx σ) H' s' ∧ tn i s'.heap ∧ (∀ b ∈ fp, H' b = none) ∧ W i n ys H') (fun n s4 hI => ?_) m0 ⟨0, [], none, _, I₃, st₃, fun b hb => by rw [j0q (neD (fpl b hb))]; exact (f2 b hb).1, w0⟩
    obtain ⟨i, ys, xo, H4, I4, st4, fr4, w4⟩ := hI
    show wpAny _ X.A ((compTurn (.ListComp elt [⟨.Name x px, iter, ifs, 0⟩] scope pos) 0 (.ref it) (.ref s2.heap.objs.size) (compEnvC scope (clG X.env.cells scope.names []) P.objs.size X.env)).onRaise (fun x => do noteFrame x (compEnvC scope (clG X.env.cells scope.names []) P.objs.size X.env); theTreesLotGoes x)) _ _ s4
    refine wpAny_noted ?_
    rw [compTurn_list]
    refine wpAny_bind (wpAny_standAt (wpAny_bind ?_))
    rcases turn i n ys H4 w4 with ⟨stop, q⟩ | ⟨go, step⟩
    · refine wpAny_mono (T.done (cxC X scope P.objs.size fp s2 H2 pins (x :: caps)) rfl rfl rfl hc i [] s4 _ H4 (fun _ _ => False) I4 (stat fr4) st4 stop) (fun r s5 hr => ?_) (fun _ _ e => e.elim)
      obtain ⟨rfl, I5⟩ := hr
      exact wpAny_pure (post' I5 q)
    · refine wpAny_mono (T.item (cxC X scope P.objs.size fp s2 H2 pins (x :: caps)) rfl rfl rfl hc i [] s4 _ H4 (fun _ _ => False) I4 (stat fr4) st4 go) (fun r s5 hr => ?_) (fun _ _ e => e.elim)
      obtain ⟨u, rfl, h5⟩ := hr
      dsimp only
      refine wpAny_bind (wpAny_mono h5 (fun _ s6 h6 => ?_) (fun _ _ e => e.elim))
      obtain ⟨x6, H6, I6, r6, y6, st6, fr6⟩ := h6
      have I6' := I6.pinned (stat fr6) (T.obj _ _ st6)
      refine wpAny_bind (wpAny_assign_Name (j1u (i := 0) I6' S.nd rfl (.inl (lookup_relabel_local S.lx)) r6 (fun s7 I7 => ?_) (.inr (lookup_relabel_local S.lx))))
      have again : ∀ {H8 : Hp} {s8 : Shared} {zs : List V}, Inv (cxC X scope P.objs.size fp s2 H2 pins (x :: caps)) ([] ++ j56 fp s6.heap) (some x6 :: capV idx σ) H8 s8 → (∃ m', m' < n ∧ W (i + 1) m' zs H8) →
          ∃ m, m < n ∧ ∃ i ys xo H', Inv (cxC X scope P.objs.size fp s2 H2 pins (x :: caps)) [] (xo :: capV idx σ) H' s8 ∧ tn i s8.heap ∧ (∀ b ∈ fp, H' b = none) ∧ W i m ys H' := fun {H8 s8 zs} I8 w8 => by
        obtain ⟨m', hm, w8⟩ := w8
        refine ⟨m', hm, i + 1, zs, some x6, H8, I8.unpinned, T.keep _ _ _ st6 fun b hb o e => (I8.pin (b, o) (List.mem_append_right _ (List.mem_append_right _ (j2b hb e)))).1, fun b hb => ?_, w8⟩
        obtain ⟨o, e, d⟩ := T.obj _ _ st6 b hb
        exact (I8.pin (b, o) (List.mem_append_right _ (List.mem_append_right _ (j2b hb e)))).2.1
      refine wpAny_bind (wpAny_mono (ht P.objs.size fp s2 H2 pins _ s7 (some x6 :: capV idx σ) H6 _ I7 (step x6 H6 y6)) (fun ok s8 h8 => ?_) (fun _ _ e => e.elim))
      obtain ⟨H8, I8, q8⟩ := h8
      cases ok with
      | false => exact wpAny_pure ⟨rfl, again I8 (by simpa using q8)⟩
      | true =>
        rw [if_pos rfl] at q8
        refine wpAny_bind (wpAny_bind (wpAny_mono (he P.objs.size fp s2 H2 pins _ s8 (some x6 :: capV idx σ) H8 _ (I8.wish _) q8) (fun y s9 h9 => ?_) (fun e s9 z => herr P.objs.size fp s2 H2 (.ref s2.heap.objs.size) e s9 I2 hCle f2 z)))
        obtain ⟨yv, H9, I9w, r9, d9, l9, w9⟩ := h9
        have I9 := I9w.unwish
        refine wpAny_bind (wpAny_mono (j1s (X := cxC X scope P.objs.size fp s2 H2 pins (x :: caps)) _ s9 _ H9 (.ref s2.heap.objs.size) [yv] (.ref s2.heap.objs.size) [y] (fun _ HA => ∃ m', m' < n ∧ W (i + 1) m' (ys ++ [yv]) HA) I9 rfl (.cons r9 .nil) ⟨_, _, yv, rfl, rfl, d9, l9, w9⟩) (fun z s10 h10 => ?_) (fun _ _ e => e.elim))
        obtain ⟨_, H10, I10, _, w10⟩ := h10
        exact wpAny_pure (wpAny_pure ⟨rfl, again I10 w10⟩)
  have st₁ : tn 0 h₁ := T.keep _ _ _ st2 fun b hb o e => old b o e
  exact codeAny_compStart_list (loop _ I3 st₁) (T.self X.A 0 _ _ _ st₁ (loop _ I3 st₁))
theorem j8s {use : Option (Value → Sem Unit)} {Qf : Value → Shared → Prop} {pins : List (Addr × Obj)} {σ : L2.St} {H : Hp} {s : Shared} {Q : VK} {cpos : Pos} (hxe : X.xe = fun _ _ => False) (hc : X.calm = true) (S : CompSc X scope x caps idx) (hi : PI X (.Name x px) iter wi)
    (ht : ∀ C fp s2 H2 pins, PTs (cxC X scope C fp s2 H2 pins (x :: caps)) ifs ti) (he : ∀ C fp s2 H2 pins, PE (cxC X scope C fp s2 H2 pins (x :: caps)) elt te) (I : L2.Inv X pins σ H s) (h : j8r wi idx ti te σ H Q)
    (post : ∀ (C D : Addr) (fp : List Addr) (s2 s' : Shared) (H2 H' : Hp) (σ' : L2.St), L2.Inv X pins σ H2 s2 → s2.heap.objs.size ≤ C → (∀ b ∈ fp, FpOk X pins H2 b) → L2.Inv (cxC X scope C fp s2 H2 pins (x :: caps)) [] σ' H' s' → Q (.ref D) H' → compPost (model X.prog X.w) X.A X.xe use Qf (.ref D) C (.ok .next) s')
    (hs : ∀ x, foldedSetIterable iter X.env x = pure x := by intro _; rfl) : wpAny (model X.prog X.w) X.A (comprehension (.ListComp elt [⟨.Name x px, iter, ifs, 0⟩] scope pos) scope X.env cpos (newList []) false (eval iter X.env) use) Qf X.xe s :=
  j73 (fun _ _ _ _ _ _ _ => False) hc S hi ht he I h (fun _ _ _ _ _ _ _ _ _ _ z => z.elim) post hs
theorem j8t {C : Addr} {fp : List Addr} {s2 s' : Shared} {H2 H' : Hp} {σ σ' : L2.St} {pins : List (Addr × Obj)} (I2 : L2.Inv X pins σ H2 s2) (f2 : ∀ b ∈ fp, FpOk X pins H2 b) (I' : L2.Inv (cxC X scope C fp s2 H2 pins (x :: caps)) [] σ' H' s') : L2.Inv X pins σ H' s' := by
  refine I2.call' (ch := fp) I'.os I'.base I'.hok I'.bare fun b hb => ?_
  obtain ⟨_, g1, g2, g3, g4, g5⟩ := f2 b hb
  exact ⟨g3, g1, g4, g5⟩
theorem j74 {C : Addr} {s2 s' : Shared} {h' : Heap} {H2 H' : Hp} {σ σ0 : L2.St} {pins : List (Addr × Obj)} (I2 : L2.Inv X pins σ0 H2 s2) (hC : s2.heap.objs.size ≤ C) (hn : H' C = none) (I : L2.Inv X pins σ H' s') (hs : Heap.SameBut C s'.heap h') : L2.Inv X pins σ H' { s' with heap := h' } := by
  refine I.turned (t' := s'.toks) (it := C) (fun b o hb e => (hs.2 b hb).trans e) hn (Nat.ne_of_gt (Nat.lt_of_lt_of_le I2.lt hC)) (.inr (Nat.le_trans I2.sz hC)) (fun y c e z => ?_) fun p hp z => ?_
  · obtain ⟨v, q⟩ := I2.cell y c e
    exact absurd (Nat.lt_of_lt_of_le q.lt (by rw [z]; exact hC)) (Nat.lt_irrefl _)
  · exact absurd (Nat.lt_of_lt_of_le (Heap.lt_size (I2.pin p hp).1) (by rw [z]; exact hC)) (Nat.lt_irrefl _)
theorem j4w (hxe : X.xe = fun _ _ => False) (hc : X.calm = true) (S : CompSc X scope x caps idx) (hi : PI X (.Name x px) iter wi)
    (ht : ∀ C fp s2 H2 pins, PTs (cxC X scope C fp s2 H2 pins (x :: caps)) ifs ti) (he : ∀ C fp s2 H2 pins, PE (cxC X scope C fp s2 H2 pins (x :: caps)) elt te)
    (hs : ∀ x, foldedSetIterable iter X.env x = pure x := by intro _; rfl) : PE X (.ListComp elt [⟨.Name x px, iter, ifs, 0⟩] scope pos) (j8r wi idx ti te) := by
  intro pins s σ H Q I h
  rw [eval_ListComp]
  refine j8s (use := none) hxe hc S hi ht he I h (fun C D fp s2 s' H2 H' σ' I2 hC f2 I' q => ?_) hs
  obtain ⟨m, hn, _⟩ := I'.loc
  exact ⟨m, hn, fun h' hs' => ⟨.ref D, H', j74 I2 hC I'.free (j8t I2 f2 I') hs', rfl, q⟩⟩
end
end L3
end
noncomputable section
namespace L3
open PySem PySem.Spec PyProof.Rows L2
section
variable {X : Cx}
theorem j8u (hc : X.calm = true) : j3h X (.builtin "min") (fun xs H Q => ∃ p ns, xs = [.ref p] ∧ SqL X.K H p (iV ns) ∧ ns ≠ [] ∧ ∀ M, M ∈ ns → (∀ a ∈ ns, M ≤ a) → Q (.int M) H) := by
  intro pins s σ H xs us Q I r h
  obtain ⟨p, ns, rfl, hx, hne, q⟩ := h
  obtain ⟨u, rfl, rx⟩ := j4l r
  cases rx
  obtain ⟨its, r', pl, hz⟩ := I.list hx
  obtain ⟨m, F, N⟩ := j6n I
  refine min_list_N (I.ok.hd hc) F N pl.isList (j34 r') (List.length_pos_iff.mpr hne) fun h' M t tk F' N' m1 m2 => ?_
  exact ⟨.int M, H, Inv.newsed I F F' N', ⟨t, rfl⟩, q M m1 m2⟩
abbrev bV (bs : List Bool) : List V := bs.map V.bl
theorem j3y : ∀ {bs : List Bool} {us : List Value}, Vals (bV bs) us → LSm.BoolsAre us bs
  | [], _, .nil => .nil
  | b :: bs, _, .cons r t => by
    cases (show _ = Value.bool b from r)
    exact .cons b (j3y t)
theorem j8v (hc : X.calm = true) : j3h X (.builtin "all") (fun xs H Q => ∃ p bs, xs = [.ref p] ∧ SqL X.K H p (bV bs) ∧ Q (.bl (bs.all id)) H) := by
  intro pins s σ H xs us Q I r h
  obtain ⟨p, bs, rfl, hx, q⟩ := h
  obtain ⟨u, rfl, rx⟩ := j4l r
  cases rx
  obtain ⟨its, r', pl, hz⟩ := I.list hx
  obtain ⟨m, F, N⟩ := j6n I
  refine LSm.all_bools F N (I.ok.hd hc) pl.isList (j3y r') fun h' tk F' N' => ?_
  exact ⟨.bl _, H, Inv.newsed I F F' N', rfl, q⟩
noncomputable def tyVal : V → Option Value
  | .ty n => some (.type n)
  | .ref C => some (.ref C)
  | _ => none
theorem j2s : j3h X (.builtin "isinstance") (fun xs H Q => ∃ x T c t b, xs = [x, T] ∧ tyVal T = some c ∧ TyOf X.K H x t ∧ PySem.W.kitOne X.K t c = some b ∧ Q (.bl b) H) := by
  intro pins s σ H xs us Q I r h
  obtain ⟨x, T, c, t, b, rfl, hc, ty, e, q⟩ := h
  obtain ⟨u, w', rfl, rx, rt⟩ := vals2 r
  have ew : w' = c := by
    cases T with
    | ty n => cases (show w' = Value.type n from rt); exact Option.some.inj hc
    | ref C => cases (show w' = Value.ref C from rt); exact Option.some.inj hc
    | _ => cases hc
  subst ew
  exact j84 I rx ty e fun tk => ⟨.bl b, H, I.tok tk, rfl, q⟩
end
end L3
end
noncomputable section
namespace L3
open PySem PySem.Spec PyProof.Rows L2
theorem j8w {α : Type} [DecidableEq α] : ∀ {as bs : List α}, as.length = bs.length → ∀ (e : Nat → Bool), (∀ j a b, as[j]? = some a → bs[j]? = some b → e j = decide (a = b)) → (List.range as.length).all e = decide (as = bs) := by
  intro as bs hl e he
  rw [Bool.eq_iff_iff, List.all_eq_true]
  simp only [List.mem_range, decide_eq_true_eq]
  constructor
  · intro h
    refine List.ext_getElem hl fun j h1 h2 => ?_
    have := h j h1
    rw [he j as[j] bs[j] (by simp [h1]) (by simp [h2])] at this
    simpa using this
  · intro h j hj
    subst h
    rw [he j as[j] as[j] (by simp [hj]) (by simp [hj])]
    simp
theorem Paired.at {α β : Type} {F : α → β → Prop} : ∀ {l₁ : List α} {l₂ : List β}, PySem.Paired F l₁ l₂ → ∀ {j : Nat} {b : β}, l₂[j]? = some b → ∃ a, l₁[j]? = some a ∧ F a b
  | _, _, .nil, j, b, e => by simp at e
  | _, _, .cons h t, 0, b, e => by simp at e; subst e; exact ⟨_, rfl, h⟩
  | _, _, .cons h t, j + 1, b, e => by simpa using Paired.at t (j := j) (b := b) (by simpa using e)
section
variable {X : Cx} {pins : List (Addr × Obj)} {σ : L2.St} {H : Hp} {s : Shared}
theorem j8x (A : Around) (s : Shared) (a : Int) (t : Tok) (c : Int) (u : Tok) : SeqAt.EqAt A s (.int a t) (.int c u) (decide (a = c)) := by
  obtain ⟨e, h, hi⟩ := HT.eqAt_int A s a t c u
  have : e = decide (a = c) := by
    rw [Bool.eq_iff_iff, hi]; simp
  rw [← this]; exact h
theorem j75 (A : Around) (s : Shared) (a c : Bool) : SeqAt.EqAt A s (.bool a) (.bool c) (decide (a = c)) := by
  have h := SeqAt.EqAt.bool_bool (A := A) (s := s) a c
  have : (a == c) = decide (a = c) := by cases a <;> cases c <;> rfl
  rw [← this]; exact h
structure ItemR (X : Cx) {α : Type} [DecidableEq α] (A : Around) (R : Hp → α → V → Prop) : Prop where
  eq : ∀ (pins : List (Addr × Obj)) (σ : L2.St) (H : Hp) (s : Shared), L2.Inv X pins σ H s → ∀ (a b : α) (x y : V) (u v : Value), R H a x → R H b y → RelV x u → RelV y v → SeqAt.EqAt A s u v (decide (a = b))
  inj : ∀ (pins : List (Addr × Obj)) (σ : L2.St) (H : Hp) (s : Shared), L2.Inv X pins σ H s → ∀ (a b : α) (x : V), R H a x → R H b x → a = b
abbrev rInt : Hp → Int → V → Prop := fun _ a x => x = .int a
abbrev rBl : Hp → Bool → V → Prop := fun _ a x => x = .bl a
theorem j3z {A : Around} : ItemR X A rInt where
  eq := by
    intro pins σ H s I a b x y u v h1 h2 r1 r2
    cases h1; cases h2
    obtain ⟨t, rfl⟩ := r1
    obtain ⟨t', rfl⟩ := r2
    exact j8x A s a t b t'
  inj := by
    intro pins σ H s I a b x h1 h2
    cases h1; cases h2; rfl
theorem j2t {A : Around} : ItemR X A rBl where
  eq := by
    intro pins σ H s I a b x y u v h1 h2 r1 r2
    cases h1; cases h2
    cases (show u = Value.bool a from r1)
    cases (show v = Value.bool b from r2)
    exact j75 A s a b
  inj := by
    intro pins σ H s I a b x h1 h2
    cases h1; cases h2; rfl
theorem items_eq {α : Type} [DecidableEq α] {A : Around} {R : Hp → α → V → Prop} (hE : ItemR X A R) (I : L2.Inv X pins σ H s) {xs ys : List V} {as bs : List α} {its jts : List Value} (p1 : PySem.Paired (R H) as xs) (p2 : PySem.Paired (R H) bs ys) (r1 : Vals xs its) (r2 : Vals ys jts) :
    ∃ e : Nat → Bool, (∀ j (h1 : j < its.toArray.size) (h2 : j < jts.toArray.size), SeqAt.EqAt A s its.toArray[j] jts.toArray[j] (e j)) ∧ ∀ j a b, as[j]? = some a → bs[j]? = some b → e j = decide (a = b) := by
  refine ⟨fun j => match as[j]?, bs[j]? with
    | some a, some b => decide (a = b)
    | _, _ => true, fun j h1 h2 => ?_, fun j a b ea eb => by simp only [ea, eb]⟩
  rw [List.size_toArray] at h1 h2
  have l1 := r1.length
  have l2 := r2.length
  have ex : xs[j]? = some xs[j] := by simp [show j < xs.length by omega]
  have ey : ys[j]? = some ys[j] := by simp [show j < ys.length by omega]
  obtain ⟨a, ea, ha⟩ := Paired.at p1 ex
  obtain ⟨b, eb, hb⟩ := Paired.at p2 ey
  obtain ⟨u, eu, ru⟩ := r1.get ex
  obtain ⟨v, ev, rv⟩ := r2.get ey
  have eu' : its.toArray[j] = u := by
    have : its[j]? = some its[j] := by simp [h1]
    rw [this] at eu
    simpa using Option.some.inj eu
  have ev' : jts.toArray[j] = v := by
    have : jts[j]? = some jts[j] := by simp [h2]
    rw [this] at ev
    simpa using Option.some.inj ev
  simp only [ea, eb]
  rw [eu', ev']
  exact hE.eq _ _ _ _ I _ _ _ _ _ _ ha hb ru rv
noncomputable def IsL (K : PySem.W.Frag) {α : Type} (R : Hp → α → V → Prop) (H : Hp) (as : List α) (x : V) : Prop := ∃ p xs, x = .ref p ∧ SqL K H p xs ∧ PySem.Paired (R H) as xs
noncomputable def IsT (K : PySem.W.Frag) {α : Type} (R : Hp → α → V → Prop) (H : Hp) (as : List α) (x : V) : Prop := ∃ p xs, x = .ref p ∧ SqT K H p xs ∧ PySem.Paired (R H) as xs
theorem j40 (H : Hp) : ∀ ns : List Int, PySem.Paired (rInt H) ns (iV ns)
  | [] => .nil
  | n :: ns => .cons rfl (j40 H ns)
theorem j4e (H : Hp) : ∀ ns : List Bool, PySem.Paired (rBl H) ns (bV ns)
  | [] => .nil
  | n :: ns => .cons rfl (j4e H ns)
theorem j6o {α : Type} [DecidableEq α] {A : Around} {R : Hp → α → V → Prop} (hu : A.units < cLine) (hE : ItemR X A.in1 R) (I : L2.Inv X pins σ H s) {as bs : List α} {x y : V} {u v : Value} (h1 : IsL X.K R H as x) (h2 : IsL X.K R H bs y) (r1 : RelV x u) (r2 : RelV y v) :
    SeqAt.RcAt A s u v (decide (as = bs)) ∧ SeqAt.RcNeAt A s u v (!decide (as = bs)) := by
  obtain ⟨p, xs, rfl, hx, p1⟩ := h1
  obtain ⟨q, ys, rfl, hy, p2⟩ := h2
  cases r1; cases r2
  obtain ⟨its, v1, l1, z1⟩ := I.list hx
  obtain ⟨jts, v2, l2, z2⟩ := I.list hy
  have k1 := v1.length
  have k2 := v2.length
  have k3 : as.length = xs.length := PySem.Paired.length p1
  have k4 : bs.length = ys.length := PySem.Paired.length p2
  by_cases hl : its.length = jts.length
  · obtain ⟨e, he, hb⟩ := items_eq hE I p1 p2 v1 v2
    have ra := j8w (as := as) (bs := bs) (by omega) e hb
    have sz : its.toArray.size = as.length := by rw [List.size_toArray]; omega
    have g1 := SeqAt.RcAt.lists (A := A) (s := s) l1.isList l2.isList (by simpa using hl) hu he
    have g2 := SeqAt.RcNeAt.lists (A := A) (s := s) l1.isList l2.isList (by simpa using hl) hu he
    rw [sz, ra] at g1 g2
    exact ⟨g1, g2⟩
  · have hd : decide (as = bs) = false := decide_eq_false fun z => hl (by rw [z] at k3; omega)
    rw [hd]
    exact ⟨SeqAt.RcAt.lists_lengths l1.isList l2.isList (by simpa using hl) hu, SeqAt.RcNeAt.lists_lengths l1.isList l2.isList (by simpa using hl) hu⟩
noncomputable def rEqL (K : PySem.W.Frag) {α : Type} [DecidableEq α] (R : Hp → α → V → Prop) (n : Bool) : R2 := fun x y H Q => ∃ as bs, IsL K R H as x ∧ IsL K R H bs y ∧ Q (.bl (if n then !decide (as = bs) else decide (as = bs))) H
noncomputable def rEqT (K : PySem.W.Frag) {α : Type} [DecidableEq α] (R : Hp → α → V → Prop) (n : Bool) : R2 := fun x y H Q => ∃ as bs, IsT K R H as x ∧ IsT K R H bs y ∧ Q (.bl (if n then !decide (as = bs) else decide (as = bs))) H
theorem j6p {α : Type} [DecidableEq α] {R : Hp → α → V → Prop} (hu : X.A.units < cLine) (hE : ItemR X X.A.in1 R) : OpR X (compareOp .Eq) (rEqL X.K R false) := by
  intro pins s σ H x y v u Q I rx ry h
  obtain ⟨as, bs, h1, h2, q⟩ := h
  exact (j6o hu hE I h1 h2 rx ry).1 _ _ _ _ ⟨.bl _, H, I, rfl, q⟩
theorem j2g {α : Type} [DecidableEq α] {R : Hp → α → V → Prop} (hu : X.A.units < cLine) (hE : ItemR X X.A.in1 R) : OpR X (compareOp .NotEq) (rEqL X.K R true) := by
  intro pins s σ H x y v u Q I rx ry h
  obtain ⟨as, bs, h1, h2, q⟩ := h
  exact (j6o hu hE I h1 h2 rx ry).2 _ _ _ _ ⟨.bl _, H, I, rfl, q⟩
end
end L3
end
noncomputable section
namespace L3
open PySem PySem.Spec PyProof.Rows L2
theorem boot_int : bootBuiltins "int" = some (.type "int") := by decide +kernel
theorem j8y : bootBuiltins "bool" = some (.type "bool") := by decide +kernel
theorem j27 : bootBuiltins "list" = some (.type "list") := by decide +kernel
theorem j76 : bootBuiltins "tuple" = some (.type "tuple") := by decide +kernel
theorem j3o : bootBuiltins "sum" = some (.builtin "sum") := by decide +kernel
theorem boot_all : bootBuiltins "all" = some (.builtin "all") := by decide +kernel
theorem j6q : bootBuiltins "min" = some (.builtin "min") := by decide +kernel
structure Bl (mg : Str → Option Value) : Prop where
  len : mg "len" = none
  range : mg "range" = none
  list : mg "list" = none
  tuple : mg "tuple" = none
  int : mg "int" = none
  bool : mg "bool" = none
  str : mg "str" = none
  isinstance : mg "isinstance" = none
  sum : mg "sum" = none
  sorted : mg "sorted" = none
  any : mg "any" = none
  all : mg "all" = none
  abs : mg "abs" = none
  max : mg "max" = none
  min : mg "min" = none
structure Ok (P : Program) (w : World) (K : PySem.W.Frag) (mg : Str → Option Value) (base : Heap) (k : Nat) (x : Str) (ps : List Str) (sp : Sp) : Prop where
  ex : ∃ (f : Addr) (fd : FuncData), FnOk P w K mg base CX0 k f fd ps sp ∧ mg x = some (.ref f) ∧ PySem.W.keepIn K (.ref f) = true ∧ j3i K fd ps []
structure OkM (P : Program) (w : World) (K : PySem.W.Frag) (mg : Str → Option Value) (base : Heap) (k : Nat) (C : Addr) (m : Str) (ps : List Str) (sp : Sp) : Prop where
  ex : ∃ (f : Addr) (fd : FuncData), FnOk P w K mg base CX0 k f fd ps sp ∧ Cls K C ∧ Meth K C m f ∧ j3i K fd ps []
structure OkC (P : Program) (w : World) (K : PySem.W.Frag) (mg : Str → Option Value) (base : Heap) (k : Nat) (x : Str) (C : Addr) (ps : List Str) (sp : Sp) : Prop where
  ex : ∃ (f : Addr) (fd : FuncData), FnOk P w K mg base CX0 k f fd ps sp ∧ mg x = some (.ref C) ∧ Mk K C f ∧ j3i K fd ps []
section
variable {X : Cx} {k : Nat} {ps : List Str} {sp : Sp} {x m : Str} {p pos apos : Pos} {e o : Expr} {es : List Expr} {ta : TE} {t : TA} {C : Addr}
theorem j0c (c : Ok X.prog X.w X.K X.mg X.base k x ps sp) (hr : Room k X.A) (hg : Gl X x) (ha : PA X (e :: es) t)
    (hdb : (x == ("__debug__" : Str)) = false := by decide) (he : starEach (e :: es) X.env = (false, eval e X.env) :: starEach es X.env := by rfl) (hpl : (backTo pos (starEach es X.env)).any (·.1) = false := by rfl) :
    PE X (.Call (.Name x p) (e :: es) [] pos) (j33 sp [] E0 t) := by
  obtain ⟨f, fd, F, g, kp, b⟩ := c.ex
  exact j85 (E := E0) F hr hg g kp b .nil pass0 ha hdb he hpl
theorem j6r : PGet X (rIxL X.K) := by
  intro pins s σ H x y v u Q I rx ry h
  obtain ⟨p, xs, i, z, rfl, rfl, hq, he, q⟩ := h
  cases rx
  obtain ⟨t, rfl⟩ := ry
  obtain ⟨its, r, pl, hz⟩ := I.list hq
  obtain ⟨j, h1, h2, h3, h4, h5⟩ := j5u he
  obtain ⟨w, ew, rw'⟩ := r.get h2
  have hl := r.length
  have hn := j57
  have fin : EP X pins σ Q w s := ⟨z, H, I, rw', q⟩
  by_cases h0 : 0 ≤ i
  · have hj : i.toNat = j := by
      rw [seqIndex_of h0 h5] at h1
      exact Option.some.inj h1
    exact wpAny_getItem_list pl.isList h0 (by omega) (by rw [hj]; simpa using ew) fin
  · have hj : (i + (its.toArray.size : Int)).toNat = j := by
      rw [seqIndex_neg (by omega) h4] at h1
      rw [List.size_toArray, ← hl]
      exact Option.some.inj h1
    exact wpAny_getItem_list_neg pl.isList (by omega) (by rw [List.size_toArray] <;> omega) (by omega) (by rw [hj]; simpa using ew) fin
end
end L3
end
noncomputable section
namespace L3
open PySem PySem.Spec PyProof.Rows L2
inductive ICon : List Expr → List Int → Prop
  | nil : ICon [] []
  | cons {n : Int} {k : Nat} {p : Pos} {r : List Expr} {ns : List Int} (h : ICon r ns) : ICon (.Constant (.int n) k p :: r) (n :: ns)
theorem pa_icon {X : Cx} {es : List Expr} {ns : List Int} (h : ICon es ns) : PA X es (fun _ H Q => Q (iV ns) H) := by
  induction h with
  | nil => exact j02
  | cons _ ih => exact j00 j04 ih rfl
noncomputable def stL : Stmt → Nat → List Stmt
  | .For _ _ b e _, k => if k = 0 then b else e
  | .While _ b e _, k => if k = 0 then b else e
  | .If _ b e _, k => if k = 0 then b else e
  | _, _ => []
abbrev noSt : Stmt := .Pass ⟨0, 0, 0, 0⟩
theorem j16 {X : Cx} {es : List Expr} {ns : List Int} {x1 : Nat} {pos : Pos} (h : ICon es ns) (hl : ns.length ≤ 1000) : PE X (.Tuple es x1 pos) (fun _ H Q => ∀ p, H p = none → Q (.ref p) (upd H p (.tup (iV ns)))) := by
  intro pins s σ H Q I q
  exact j1r (pa_icon h) pins s σ H Q I ⟨by rw [j0w]; exact Nat.le_trans hl (by decide), q⟩
end L3
namespace L2
open PySem PySem.Spec PyProof.Rows
theorem j2u {K : PySem.W.Frag} {a : Addr} {xs : List V} {g : TG} {tb : TS} {D : Ends} {σ : St} {H : Hp} (Pv : Nat → St → Hp → Prop) (h0 : Pv 0 σ H) (hl : ∀ i σ H, i ≤ xs.length → Pv i σ H → SqL K H a xs)
    (hs : ∀ i x σ H, xs[i]? = some x → Pv i σ H → let D' : Ends := { D with nx := Pv (i + 1), ct := Pv (i + 1), bk := D.nx }; g x σ H fun σ2 H2 => tb D' σ2 H2) (hd : ∀ σ H, Pv xs.length σ H → D.nx σ H) :
    ∃ W : Nat → Nat → St → Hp → Prop, (∃ m, W 0 m σ H) ∧ ∀ i m σ H, W i m σ H →
      ((Itl K a).stop i H ∧ D.nx σ H) ∨ ((Itl K a).go i H ∧ ∃ N : St → Hp → Prop, (∀ σ' H', N σ' H' → ∃ m', m' < m ∧ W (i + 1) m' σ' H') ∧ ∀ x H', (Itl K a).yld i H x H' → g x σ H' fun σ2 H2 => tb { D with nx := N, ct := N, bk := D.nx } σ2 H2) := j6c Pv h0 hl hs hd
theorem j4f {lo : Int} {n : Nat} {g : TG} {tb : TS} {D : Ends} {σ : St} {H : Hp} (Pv : Nat → St → Hp → Prop) (h0 : Pv 0 σ H)
    (hs : ∀ i σ H, i < n → Pv i σ H → let D' : Ends := { D with nx := Pv (i + 1), ct := Pv (i + 1), bk := D.nx }; g (.int (lo + i)) σ H fun σ2 H2 => tb D' σ2 H2) (hd : ∀ σ H, Pv n σ H → D.nx σ H) :
    ∃ W : Nat → Nat → St → Hp → Prop, (∃ m, W 0 m σ H) ∧ ∀ i m σ H, W i m σ H →
      ((Itr lo n).stop i H ∧ D.nx σ H) ∨ ((Itr lo n).go i H ∧ ∃ N : St → Hp → Prop, (∀ σ' H', N σ' H' → ∃ m', m' < m ∧ W (i + 1) m' σ' H') ∧ ∀ x H', (Itr lo n).yld i H x H' → g x σ H' fun σ2 H2 => tb { D with nx := N, ct := N, bk := D.nx } σ2 H2) := j7t Pv h0 hs hd
end L2
end
noncomputable section
namespace L3
open PySem PySem.Spec PyProof.Rows L2
section
variable {X : Cx}
theorem pe_rng1 {a : Expr} {ta : TA} {p pos : Pos} (hg : Gl X "range") (hm : X.mg "range" = none) (ha : PA X [a] ta) (hs : starEach [a] X.env = [(false, eval a X.env)] := by rfl) :
    PE X (.Call (.Name "range" p) [a] [] pos) (fun σ H Q => ta σ H fun vs H1 => ∃ j : Int, vs = [.int j] ∧ -(2 ^ 62) ≤ j ∧ j < 2 ^ 62 ∧ ∀ r, H1 r = none → Q (.ref r) (upd H1 r (.rng 0 j))) := by
  intro pins s σ H Q I h
  refine Call_ (j3r I hg hm boot_range (PyProof.Rows.callWith_type1 (thn (ha pos pins s σ H _ I h) fun us s1 ⟨vs, H1, I1, r1, q1⟩ => ?_) hs rfl))
  obtain ⟨j, e, q1, q2, q⟩ := q1
  subst e
  obtain ⟨u', rfl, r⟩ := j4l r1
  obtain ⟨t, rfl⟩ := r
  refine call_range_1 ?_
  exact ⟨.ref s1.heap.objs.size, _, I1.laid (o := .rng 0 j) (fun b o e => Heap.get?_push_of_some _ e) (Nat.le_refl _) ⟨_, _, _, Heap.get?_push_size _ rfl⟩, rfl, q _ (I1.hok.fresh (Nat.le_refl _))⟩
end
noncomputable def cxLm (X : Cx) (A : Around) (env : Env) (N : List Str) (s : Shared) (H : Hp) (pins : List (Addr × Obj)) : Cx :=
  { X with A := A.deeper env, N := N, s₀ := s, H₀ := H, env := env, outer := X.stack, stack := env :: X.stack, ex := [], fn := fun _ => false, calm := true, pn := X.pn ++ pins, xe := fun _ _ => False }
structure LamSc (scope : Scope) (y x : Str) : Prop where
  kind : scope.kind = .function
  co : scope.isCoroutine = false
  gen : scope.isGenerator = false
  cell : ∀ z ∈ scope.names, z.2 ≠ .cell
  ly : scope.names.lookup y = some .local
  lx : scope.names.lookup x = some .free
  fr : ∀ z ∈ scope.names, z.2 = .free → z.1 = x
end L3
end
noncomputable section
namespace L3
open PySem PySem.Spec PyProof.Rows L2
section
variable {prog : Program} {w : World} {A : Around} {E : Value → Shared → Prop} {s : Shared}
theorem j77 {n : Nat} {acc : Array Value} (h : ItemsOf (fun i v => ∃ t, v = .int (0 + i * 1) t) acc n) : IntsAre acc.toList ((List.range n).map fun i : Nat => (i : Int)) := by
  have h1 := intsAre_map acc.toList fun v hv => by
    obtain ⟨i, hi, e⟩ := List.getElem_of_mem hv
    obtain ⟨t, z⟩ := h.2 i v (by rw [Array.getElem?_eq_getElem (by simpa using hi)]; simpa using e)
    exact ⟨_, t, z⟩
  have e : acc.toList.map numOf = (List.range n).map fun i : Nat => (i : Int) := by
    apply List.ext_getElem?
    intro i
    rw [List.getElem?_map, List.getElem?_map]
    by_cases hi : i < n
    · have hi' : i < acc.size := by rw [h.1]; exact hi
      obtain ⟨t, z⟩ := h.2 i acc[i] (Array.getElem?_eq_getElem hi')
      rw [List.getElem?_range hi, Array.getElem?_toList, Array.getElem?_eq_getElem hi', z]
      show some (0 + (i : Int) * 1) = some (i : Int)
      congr 1; omega
    · rw [List.getElem?_eq_none_iff.mpr (by rw [Array.length_toList, h.1]; omega), List.getElem?_eq_none_iff.mpr (by rw [List.length_range]; omega)]
      rfl
  rw [← e]; exact h1
end
end L3
end
noncomputable section
namespace L3
open PySem PySem.Spec PyProof.Rows L2
end L3
end
noncomputable section
namespace L3
open PySem PySem.Spec PyProof.Rows L2
noncomputable def TbOk (P : Addr) (pos : Pos) (qual : Str) (H : Hp) : Prop :=
  H P = some (.tbl #[]) ∨ ∃ (c' : Addr) (oc : Obj) (vs : Array Value) (t : Tok), H P = some (.tbl #[rawInt pos.line, rawInt pos.col, .ref c']) ∧ H c' = some (.frz oc (.own c')) ∧ oc.data = .fields vs ∧ vs[1]? = some (.str qual t)
noncomputable def SameB (P : Addr) (H H' : Hp) : Prop := ∀ b o, b ≠ P → H b = some o → H' b = some o
noncomputable def CdAt (c' : Addr) (qual : Str) (H : Hp) : Prop := ∃ (oc : Obj) (vs : Array Value) (t : Tok), H c' = some (.frz oc (.own c')) ∧ oc.data = .fields vs ∧ vs[1]? = some (.str qual t)
noncomputable def tLam (P : Addr) (pos : Pos) (qual : Str) (params : Arguments) (body : Expr) (scope : Scope) (x : Str) (cx : Addr) (pm : Value) : TE := fun _ H Q => TbOk P pos qual H ∧ ∀ f c' ctv H2, SameB P H H2 → TbOk P pos qual H2 → H2 f = none → CdAt c' qual H2 →
  Q (.ref f) (upd H2 f (.ext fun h => h.get? f = some (PySem.W.kla_obj "<lambda>" qual params body scope [(x, cx)] pm c' ctv)))
end L3
end
noncomputable section
namespace L3
open PySem PySem.Spec PyProof.Rows L2
noncomputable def Itz (K : PySem.W.Frag) (a b : Addr) : It :=
  ⟨fun i H => ∃ xs ys x y, SqL K H a xs ∧ SqL K H b ys ∧ xs[i]? = some x ∧ ys[i]? = some y,
   fun i H v H' => ∃ T x y, v = .ref T ∧ H T = none ∧ H' = upd H T (.tup [x, y]) ∧ (∀ xs, SqL K H a xs → xs[i]? = some x) ∧ ∀ ys, SqL K H b ys → ys[i]? = some y,
   fun i H => ∃ xs ys, SqL K H a xs ∧ SqL K H b ys ∧ (xs.length ≤ i ∨ ys.length ≤ i)⟩
noncomputable def iZip (K : PySem.W.Frag) (ta : TA) : TI := fun σ H R => ta σ H fun vs H1 => ∃ a b, vs = [.ref a, .ref b] ∧ (∃ xs, SqL K H1 a xs) ∧ (∃ ys, SqL K H1 b ys) ∧ R (Itz K a b) H1
end L3
namespace L3
open PySem PySem.Spec PyProof.Rows L2
end L3
namespace L3
open PySem PySem.Spec PyProof.Rows L2
noncomputable def compOk (sc0 scope : Scope) (N : List Str) (x : Str) (caps : List Str) (idx : List Nat) : Bool :=
  (scope.kind == .function) && scope.names.all (fun y => y.2 != .cell && (y.2 != .local || scope.names.lookup y.1 == some .local) && (y.2 != .free || (scope.names.lookup y.1 == some .free && (sc0.names.lookup y.1 == some .cell || sc0.names.lookup y.1 == some .free)))) &&
  (scope.names.lookup x == some .local) && decide (x :: caps).Nodup && (idx.length == caps.length) && (idx.map fun i => N[i]?) == caps.map some && caps.all fun y => scope.names.contains (y, NameKind.free)
theorem j2v {X : Cx} {sc0 scope : Scope} {N : List Str} {x : Str} {caps : List Str} {idx : List Nat} (h1 : X.env.scope = sc0) (h2 : X.N = N) (h : compOk sc0 scope N x caps idx = true) : CompSc X scope x caps idx := by
  unfold compOk at h
  simp only [Bool.and_eq_true, List.all_eq_true, bne_iff_ne, ne_eq, Bool.or_eq_true, beq_iff_eq, decide_eq_true_eq, List.contains_iff_mem] at h
  obtain ⟨⟨⟨⟨⟨⟨a1, a2⟩, a3⟩, a4⟩, a5⟩, a6⟩, a7⟩ := h
  refine ⟨a1, fun y hy => (a2 y hy).1.1, fun y hy e => ?_, a3, fun y hy e => ?_, fun y hy e => ?_, a4, a5, fun k i y e1 e2 => ?_, fun y hy => a7 y hy⟩
  · rcases (a2 y hy).1.2 with z | z
    · exact absurd e z
    · exact z
  · rcases (a2 y hy).2 with z | z
    · exact absurd e z
    · exact z.1
  · rcases (a2 y hy).2 with z | z
    · exact absurd e z
    · show X.env.scope.names.lookup y.1 = some .cell ∨ X.env.scope.names.lookup y.1 = some .free
      rw [h1]; exact z.2
  · have e3 : (idx.map fun i => N[i]?)[k]? = (caps.map some)[k]? := by rw [a6]
    rw [List.getElem?_map, List.getElem?_map, e1, e2] at e3
    rw [h2]
    exact Option.some.inj e3
end L3
namespace L3
open PySem PySem.Spec PyProof.Rows L2
end L3
end
noncomputable section
namespace L3
open PySem PySem.Spec PyProof.Rows L2
end L3
end
noncomputable section
namespace L3
open PySem PySem.Spec PyProof.Rows L2
structure CF (K : PySem.W.Frag) (C : Addr) : Prop where
  cl : Cls K C
  ha : PySem.W.findIn K (.ref C) "__class__" = some (some (.builtin "object.__class__"))
  hn : PySem.W.specialIn K (.builtin "object.__class__") "__get__" = some (some (.builtin "getset_descriptor.__get__"))
  htk : PySem.W.takesIn K (.builtin "object.__class__") = some true
  hm : PySem.W.mroIn K C (.type "object") = some true
theorem cf_mk {K : PySem.W.Frag} {C : Addr} (pg : PySem.W.plainGet K C Str.empty = true) (hd : PySem.W.hasDictIn K C = true) (po : PySem.W.plainOver K C = true) (sa : PySem.W.findIn K (.ref C) "__setattr__" = some (some (.builtin "object.__setattr__")))
    (ha : PySem.W.findIn K (.ref C) "__class__" = some (some (.builtin "object.__class__"))) (hn : PySem.W.specialIn K (.builtin "object.__class__") "__get__" = some (some (.builtin "getset_descriptor.__get__"))) (htk : PySem.W.takesIn K (.builtin "object.__class__") = some true)
    (hm : PySem.W.mroIn K C (.type "object") = some true) : CF K C := ⟨⟨pg, hd, po, sa⟩, ha, hn, htk, hm⟩
structure TopF (K : PySem.W.Frag) (x qual : Str) (st : Stmt) : Prop where
  ex : ∃ (f : Addr) (fd : FuncData), PySem.W.nsIn K mainGlobals x = some (some (.ref f)) ∧ Fun K x qual st f fd
theorem j0f {K : PySem.W.Frag} {x qual : Str} {st : Stmt} {f : Addr} {oc : Value} {od an : Option Addr} {osl : Array (Option Value)} {kV doc pm cdv ct : Value} (a : PySem.W.nsIn K mainGlobals x = some (some (.ref f)))
    (l : K.lookup f = some ⟨oc, od, .func (PySem.W.fnOf x qual (j2j st) (j1o st) (j08 st) .none kV doc pm an cdv ct), osl⟩) (c : PySem.W.codeIn K cdv qual = true) (k : PySem.W.keepIn K (.ref f) = true) : TopF K x qual st := ⟨f, _, a, fun_mk l c k⟩
structure MthF (K : PySem.W.Frag) (C : Addr) (m qual : Str) (st : Stmt) : Prop where
  ex : ∃ (f : Addr) (fd : FuncData), Meth K C m f ∧ Fun K m qual st f fd
theorem mthF_mk {K : PySem.W.Frag} {C : Addr} {m qual : Str} {st : Stmt} {f : Addr} {oc : Value} {od an : Option Addr} {osl : Array (Option Value)} {kV doc pm cdv ct : Value} (a : PySem.W.findIn K (.ref C) m = some (some (.ref f))) (i : PySem.W.isFn K (.ref f) = true)
    (l : K.lookup f = some ⟨oc, od, .func (PySem.W.fnOf m qual (j2j st) (j1o st) (j08 st) .none kV doc pm an cdv ct), osl⟩) (c : PySem.W.codeIn K cdv qual = true) (k : PySem.W.keepIn K (.ref f) = true) : MthF K C m qual st := ⟨f, _, ⟨a, i, k⟩, fun_mk l c k⟩
section
variable {P : Program} {w : World} {K : PySem.W.Frag} {mg : Str → Option Value} {base h : Heap} {x qual m : Str} {st : Stmt} {ps : List Str} {k : Nat} {sp : Sp} {C : Addr}
abbrev BindsBy (x qual : Str) (st : Stmt) (ps : List Str) : Prop := ∀ (kV doc pm : Value) (an : Option Addr) (cdv ct : Value) (us : List Value), us.length = ps.length → bindArgs (PySem.W.fnOf x qual (j2j st) (j1o st) (j08 st) .none kV doc pm an cdv ct) ⟨us, []⟩ = pure (ps.zip us)
theorem Ok.of (t : TopF K x qual st) (X : K.In h) (G : h.Ns mainGlobals mg) (b : BindsBy x qual st ps) (ok : ∀ f fd, Fun K x qual st f fd → FnOk P w K mg base CX0 k f fd ps sp) : Ok P w K mg base k x ps sp := by
  obtain ⟨f, fd, a, F⟩ := t.ex
  exact ⟨f, fd, ok f fd F, PySem.W.mg_of X G a, F.kp, F.binds b⟩
theorem Bl.of (X : K.In h) (G : h.Ns mainGlobals mg) (z0 : PySem.W.nsIn K mainGlobals "len" = some none) (z1 : PySem.W.nsIn K mainGlobals "range" = some none) (z2 : PySem.W.nsIn K mainGlobals "list" = some none) (z3 : PySem.W.nsIn K mainGlobals "tuple" = some none) (z4 : PySem.W.nsIn K mainGlobals "int" = some none) (z5 : PySem.W.nsIn K mainGlobals "bool" = some none) (z6 : PySem.W.nsIn K mainGlobals "str" = some none) (z7 : PySem.W.nsIn K mainGlobals "isinstance" = some none) (z8 : PySem.W.nsIn K mainGlobals "sum" = some none) (z9 : PySem.W.nsIn K mainGlobals "sorted" = some none) (z10 : PySem.W.nsIn K mainGlobals "any" = some none) (z11 : PySem.W.nsIn K mainGlobals "all" = some none) (z12 : PySem.W.nsIn K mainGlobals "abs" = some none) (z13 : PySem.W.nsIn K mainGlobals "max" = some none) (z14 : PySem.W.nsIn K mainGlobals "min" = some none) : Bl mg :=
  ⟨PySem.W.mg_none_of X G z0, PySem.W.mg_none_of X G z1, PySem.W.mg_none_of X G z2, PySem.W.mg_none_of X G z3, PySem.W.mg_none_of X G z4, PySem.W.mg_none_of X G z5, PySem.W.mg_none_of X G z6, PySem.W.mg_none_of X G z7, PySem.W.mg_none_of X G z8, PySem.W.mg_none_of X G z9, PySem.W.mg_none_of X G z10, PySem.W.mg_none_of X G z11, PySem.W.mg_none_of X G z12, PySem.W.mg_none_of X G z13, PySem.W.mg_none_of X G z14⟩
end
end L3
end
noncomputable section
namespace L3
open PySem PySem.Spec PyProof.Rows L2
section
variable {X : Cx}
noncomputable def isB (k : Bool) : Value → Bool
  | .bool b => decide (b = k)
  | _ => false
end
end L3
end
noncomputable section
namespace L3
open PySem PySem.Spec PyProof.Rows L2
section
variable {X : Cx}
noncomputable def isN (k : Int) : Value → Bool
  | .int n _ => decide (n = k)
  | _ => false
end
end L3
end
noncomputable section
namespace L3
open PySem PySem.Spec PyProof.Rows L2
theorem j8z {ns : List Int} {i : Nat} {y : V} (h : (iV ns)[i]? = some y) : ∃ n, ns[i]? = some n ∧ y = V.int n := by
  rw [List.getElem?_map] at h
  cases e : ns[i]? with
  | none => rw [e] at h; cases h
  | some n => rw [e] at h; exact ⟨n, rfl, (Option.some.inj h).symm⟩
theorem j03 {H : Hp} {p : Addr} {o : HO} (h : H p = none) : Same H (upd H p o) := fun b u e => by rw [j0q (j0m e h)]; exact e
theorem fm_len {α β : Type} (f : α → Option β) (l : List α) : (l.filterMap f).length ≤ l.length := List.length_filterMap_le f l
theorem j90 {K : PySem.W.Frag} {a : Addr} {ns : List Int} {idx : List Nat} {ti : TT} {te : TE} {σ : L2.St} {H : Hp} {Q : VK} (f : Int → Option V) (hS : SqL K H a (iV ns)) (hl : ns.length ≤ 1000)
    (ht : ∀ n ∈ ns, ∀ (H' : Hp) (R : Bool → Hp → Prop), R (f n).isSome H' → ti (some (.int n) :: capV idx σ) H' R)
    (he : ∀ n ∈ ns, ∀ v, f n = some v → ∀ (H' : Hp) (R : VK), R v H' → te (some (.int n) :: capV idx σ) H' R)
    (q : ∀ D, H D = none → Q (.ref D) (upd H D (.lst (ns.filterMap f)))) :
    ∀ D, H D = none → ∃ W : Nat → Nat → List V → Hp → Prop, (∃ m, W 0 m [] (upd H D (.lst []))) ∧ ∀ i m ys H2, W i m ys H2 →
      ((Itl K a).stop i H2 ∧ Q (.ref D) H2) ∨ ((Itl K a).go i H2 ∧ ∀ x H3, (Itl K a).yld i H2 x H3 → ti (some x :: capV idx σ) H3 fun b H4 =>
        if b = true then te (some x :: capV idx σ) H4 fun y H5 => H5 D = some (.lst ys) ∧ ys.length < sizeLine ∧ ∃ m', m' < m ∧ W (i + 1) m' (ys ++ [y]) (upd H5 D (.lst (ys ++ [y])))
        else ∃ m', m' < m ∧ W (i + 1) m' ys H4) := by
  intro D hD
  refine ⟨fun i m ys H2 => m = ns.length - i ∧ i ≤ ns.length ∧ ys = (ns.take i).filterMap f ∧ H2 = upd H D (.lst ys), ⟨ns.length, by simp, Nat.zero_le _, by simp, rfl⟩, ?_⟩
  rintro i m ys H2 ⟨rfl, hi, rfl, rfl⟩
  have hS2 : SqL K (upd H D (.lst ((ns.take i).filterMap f))) a (iV ns) := (j03 hD).seq hS
  by_cases hlt : i < ns.length
  · refine .inr ⟨⟨_, _, hS2, by rw [List.getElem?_map, List.getElem?_eq_getElem hlt]; rfl⟩, ?_⟩
    rintro x H3 ⟨rfl, hx⟩
    obtain ⟨n, hn, rfl⟩ := j8z (hx _ hS2)
    have hm : n ∈ ns := List.mem_of_getElem? hn
    have tk : ns.take (i + 1) = ns.take i ++ [n] := by rw [List.take_succ, hn]; rfl
    refine ht n hm _ _ ?_
    cases e : f n with
    | none =>
      rw [Option.isSome_none, if_neg (by simp)]
      refine ⟨ns.length - (i + 1), by omega, rfl, hlt, ?_, rfl⟩
      rw [tk, List.filterMap_append]
      simp [e]
    | some v =>
      rw [Option.isSome_some, if_pos rfl]
      refine he n hm v e _ _ ⟨j01, j1l ?_, ns.length - (i + 1), by omega, rfl, hlt, ?_, by rw [j7l]⟩
      · have := fm_len f (ns.take i)
        rw [List.length_take] at this
        omega
      · rw [tk, List.filterMap_append]
        simp [e]
  · have : i = ns.length := by omega
    subst this
    refine .inl ⟨⟨_, hS2, by rw [j0w]; exact Nat.le_refl _⟩, ?_⟩
    rw [List.take_of_length_le (Nat.le_refl _)]
    exact q D hD
theorem j61 {K : PySem.W.Frag} {a : Addr} {ns : List Int} {tl : TE} {idx : List Nat} {ti : TT} {te : TE} {σ : L2.St} {H : Hp} {Q : VK} (f : Int → Option V) (htl : ∀ R : VK, R (.ref a) H → tl σ H R) (hS : SqL K H a (iV ns)) (hl : ns.length ≤ 1000)
    (ht : ∀ n ∈ ns, ∀ (H' : Hp) (R : Bool → Hp → Prop), R (f n).isSome H' → ti (some (.int n) :: capV idx σ) H' R)
    (he : ∀ n ∈ ns, ∀ v, f n = some v → ∀ (H' : Hp) (R : VK), R v H' → te (some (.int n) :: capV idx σ) H' R)
    (q : ∀ D, H D = none → Q (.ref D) (upd H D (.lst (ns.filterMap f)))) : j8r (iList K tl) idx ti te σ H Q :=
  htl _ ⟨a, rfl, ⟨_, hS⟩, j90 f hS hl ht he q⟩
theorem fm_some (g : Int → Int) (ns : List Int) : ns.filterMap (fun n => some (V.int (g n))) = iV (ns.map g) := by
  induction ns with
  | nil => rfl
  | cons x t ih => exact congrArg (V.int (g x) :: ·) ih
theorem j91 (g : Int → Option Int) (ns : List Int) : ns.filterMap (fun n => (g n).map V.int) = iV (ns.filterMap g) := by
  induction ns with
  | nil => rfl
  | cons x t ih =>
    rw [List.filterMap_cons, List.filterMap_cons]
    cases g x with
    | none => exact ih
    | some y => exact congrArg (V.int y :: ·) ih
theorem j37 {α : Type} {gs : List α} {i : Nat} {g : α} (h : gs[i]? = some g) : gs.take (i + 1) = gs.take i ++ [g] := by rw [List.take_succ, h]; rfl
theorem iV_sn (l : List Int) (x : Int) : iV l ++ [V.int x] = iV (l ++ [x]) := by unfold iV; rw [List.map_append]; rfl
theorem ct_from {L : List Int} {m : Int} (h0 : 0 ≤ m) (h1 : m ≤ L.length) : cutV (iV L) (some m) none = iV (L.drop m.toNat) := by
  obtain ⟨k, rfl⟩ : ∃ k : Nat, m = k := ⟨m.toNat, by omega⟩
  unfold cutV
  rw [HT.sIx_none, HT.sIx_nat, j0w, Int.toNat_natCast]
  unfold iV
  rw [show min k L.length = k by omega, List.take_of_length_le (by simp), List.map_drop]
end L3
end
noncomputable section
namespace L3
open PySem PySem.Spec PyProof.Rows
noncomputable def Trx (B h : Heap) (e C : Addr) (fl : Value) : Prop := ∃ vs T oT ts, h.get? e = some { cls := .ref C, data := .fields vs } ∧ vs.size = 6 ∧ vs[2]? = some .none ∧ vs[1]? = some (.ref T) ∧ B.get? T = none ∧ T ≠ e ∧ h.get? T = some oT ∧ oT.data = .fields ts ∧ ts[3]? = some fl
structure Hx (B : Heap) (l : List Env) (e C : Addr) (fl : Value) (h : Heap) : Prop where
  st : B.StaysIn h
  ne : B.get? e = none
  fr : h.FunFrames B l
  tr : Trx B h e C fl
section
variable {M : Model} {A : Around} {E : Value → Shared → Prop} {s : Shared} {B : Heap} {l outer : List Env} {env : Env} {e C L : Addr} {fl : Value}
theorem j4g {h : Heap} {a : Addr} {o : Obj} {vs : Array Value} {k : Nat} {v : Value} (ho : h.get? a = some o) (hd : o.data = .fields vs) :
    (h.update a (Obj.mapFields (·.setIfInBounds k v))).get? a = some { o with data := .fields (vs.setIfInBounds k v) } := by
  have e : Obj.mapFields (·.setIfInBounds k v) o = { o with data := .fields (vs.setIfInBounds k v) } := by
    obtain ⟨c, d, dt, sl⟩ := o
    cases (show dt = .fields vs from hd)
    rfl
  have := Heap.get?_update_self (Obj.mapFields (·.setIfInBounds k v)) ho (by rw [e]; rfl)
  rw [e] at this
  exact this
theorem mark_x {fl' : Value} {Q : Unit → Shared → Prop} (x : Hx B l e C fl s.heap) (q : ∀ h', Hx B l e C fl' h' → s.heap.UpToSlots h' → Q () { s with heap := h' }) :
    ∀ {T : Addr} {vs : Array Value}, s.heap.get? e = some { cls := .ref C, data := .fields vs } → vs[1]? = some (.ref T) → wpAny M A (setField (.ref T) 3 fl') Q E s := by
  intro T vs' hv' h1'
  obtain ⟨st, ne, fr, vs, T0, oT, ts, he, h6, h2, h1, nT, nTe, hT, dT, t3⟩ := x
  rw [he] at hv'
  cases hv'
  rw [h1] at h1'
  cases h1'
  have s3 : 3 < ts.size := (Array.getElem?_eq_some_iff.mp t3).1
  have oth : ∀ b, b ≠ T → (s.heap.update T (Obj.mapFields (·.setIfInBounds 3 fl'))).get? b = s.heap.get? b := fun b hb => Heap.get?_update_other _ _ (Ne.symm hb)
  have nr : ∀ b o, s.heap.get? b = some o → (∀ vs, o.data ≠ .fields vs) → b ≠ T := fun b o hb hn z => by
    rw [z, hT] at hb
    cases hb
    exact hn ts dT
  refine wpAny_setField hT dT s3 (q _ ⟨fun b o hb => ?_, ne, fr.of_keeps fun b o hb hn => ⟨o, ?_, rfl⟩, vs', T, _, _, ?_, h6, h2, h1, nT, nTe, j4g hT dT, rfl, by simp [s3]⟩ fun b o hb hn => ⟨o.slots, ?_⟩)
  · rw [oth b fun z => by rw [z, nT] at hb; cases hb]
    exact st b o hb
  · rw [oth b (nr b o hb hn)]
    exact hb
  · rw [oth e (Ne.symm nTe)]
    exact he
  · rw [oth b (nr b o hb hn)]
    exact hb
theorem j6s {Q : Unit → Shared → Prop} (x : Hx B l e C fl s.heap) (q : ∀ h', Hx B l e C .none h' → s.heap.UpToSlots h' → Q () { s with heap := h' }) : wpAny M A (setFlight (.ref e) none) Q E s := by
  obtain ⟨vs, T, oT, ts, he, h6, h2, h1, _⟩ := id x.tr
  unfold setFlight
  refine wpAny_bind (wpAny_field he rfl h1 ?_)
  rw [if_pos (by simp)]
  exact mark_x x q he h1
theorem j92 {vs : Array Value} {head : Value} {hn : Bool} {Q : Unit → Shared → Prop} (hfr : A.frames = some (env :: outer)) (hf : env.frame = some L) (st : B.StaysIn s.heap) (ne : B.get? e = none) (fr : s.heap.FunFrames B (env :: outer))
    (he : s.heap.get? e = some { cls := .ref C, data := .fields vs }) (h6 : vs.size = 6) (h2 : vs[2]? = some .none) (q : ∀ h', Hx B (env :: outer) e C (rawInt L) h' → s.heap.UpToSlots h' → Q () { s with heap := h' }) :
    wpAny M A (do let a ← frameOf env; let pl ← entryPlaceOf L hn; let b ← EntryCells.newEntry head a .none (rawInt L) .none pl; setField (.ref e) 1 b) Q E s := by
  have ef : e ∉ (env :: outer).filterMap (·.frame) := fun hm => by
    obtain ⟨_, o, ho, d⟩ := fr.mem hm
    rw [he] at ho
    cases ho
    exact d vs rfl
  refine wpAny_bind (wpAny_frameOf_fun hfr fr hf fun h1 sl1 => wpAny_bind (wpAny_entryPlaceOf fun pl hpl => ?_))
  unfold EntryCells.newEntry newFields
  refine wpAny_bind (wpAny_newObj_type ?_ (hpl.sizeOk5 _ _ _ _ _))
  generalize hob : ({ cls := .type "traceback", data := .fields ([head, .ref L, .none, rawInt L, .none] ++ (if pl.isEmpty then List.replicate 6 Value.none else pl)).toArray } : Obj) = ob
  have e1 : h1.get? e = some { cls := .ref C, data := .fields vs } := (sl1.2.1 e ef).trans he
  have k1 : B.StaysIn h1 := fun b o hb => (sl1.2.1 b fun hm => by rw [(fr.mem hm).1] at hb; cases hb).trans (st b o hb)
  have e2 : (h1.push ob).get? e = some { cls := .ref C, data := .fields vs } := Heap.get?_push_of_some _ e1
  have nT : h1.objs.size ≠ e := Nat.ne_of_gt (Heap.lt_size e1)
  have bT : B.get? h1.objs.size = none := by
    cases z : B.get? h1.objs.size with
    | none => rfl
    | some o => exact absurd (Heap.lt_size (k1 _ _ z)) (Nat.lt_irrefl _)
  have kp : ∀ b o, b ≠ e → h1.get? b = some o → ((h1.push ob).update e (Obj.mapFields (·.setIfInBounds 1 (.ref h1.objs.size)))).get? b = some o := fun b o hb z => by
    rw [Heap.get?_update_other _ _ (Ne.symm hb)]
    exact Heap.get?_push_of_some _ z
  have nr : ∀ b o, s.heap.get? b = some o → (∀ vs, o.data ≠ .fields vs) → b ≠ e := fun b o hb d z => by
    rw [z, he] at hb
    cases hb
    exact d vs rfl
  refine wpAny_setField e2 rfl (by omega) (q _ ⟨fun b o hb => kp b o (fun z => by rw [z, ne] at hb; cases hb) (k1 b o hb), ne, fr.of_keeps fun b o hb d => ?_, _, h1.objs.size, ob, _, j4g e2 rfl, by simp [h6], ?_, by simp [h6], bT, nT, ?_, by rw [← hob], ?_⟩ fun b o hb d => ?_)
  · obtain ⟨sl, z⟩ := sl1.2.2 b o hb
    exact ⟨_, kp b _ (nr b o hb d) z, rfl⟩
  · rw [Array.getElem?_setIfInBounds_ne (by decide)]
    exact h2
  · rw [Heap.get?_update_other _ _ (Ne.symm nT)]
    exact Heap.get?_push_size _ (by rw [← hob]; rfl)
  · simp
  · obtain ⟨sl, z⟩ := sl1.2.2 b o hb
    exact ⟨sl, kp b _ (nr b o hb d) z⟩
theorem j93 {Q : Unit → Shared → Prop} (hfr : A.frames = some (env :: outer)) (hf : env.frame = some L) (x : Hx B (env :: outer) e C fl s.heap) (q : ∀ h', Hx B (env :: outer) e C (rawInt L) h' → s.heap.UpToSlots h' → Q () { s with heap := h' }) :
    wpAny M A (noteFrame (.ref e) env) Q E s := by
  obtain ⟨vs, T, oT, ts, he, h6, h2, h1, nT, nTe, hT, dT, t3⟩ := id x.tr
  unfold noteFrame
  simp only [hf]
  refine wpAny_bind (wpAny_field he rfl h1 ?_)
  rw [if_pos (by simp)]
  refine wpAny_bind (wpAny_field hT dT t3 ?_)
  by_cases c : (fl == rawInt L) = true
  · rw [if_pos c]
    have e := beq_iff_eq.mp c
    subst e
    exact wpAny_pure (q s.heap x (Heap.UpToSlots.refl _))
  · rw [if_neg c]
    refine wpAny_bind (mark_x x (fun h' x' up => ?_) he h1)
    obtain ⟨vs', T', oT', ts', he', h6', h2', _⟩ := id x'.tr
    exact j92 (s := { s with heap := h' }) hfr hf x'.st x'.ne x'.fr he' h6' h2' fun h'' x'' up2 => q h'' x'' (up.trans up2)
theorem note_new {a0 : Value} {h0 : Heap} {vs : List Value} {Q : Unit → Shared → Prop} (hfr : A.frames = some (env :: outer)) (hf : env.frame = some L) (st : B.StaysIn h0) (fr : h0.FunFrames B (env :: outer)) (mx : Heap.MadeExcOf h0 s.heap e (.ref C) vs)
    (q : ∀ h', Hx B (env :: outer) e C (rawInt L) h' → s.heap.UpToSlots h' → Q () { s with heap := h' }) : wpAny M A (noteFrame (.ref e) env) Q E s := by
  obtain ⟨t, he, _⟩ := mx.there
  have ne : B.get? e = none := by
    cases z : B.get? e with
    | none => rfl
    | some o =>
      have := st e o z
      rw [mx.new] at this
      cases this
  unfold noteFrame
  simp only [hf]
  refine wpAny_bind (wpAny_field he rfl (x := .none) rfl ?_)
  rw [if_neg (by simp)]
  exact j92 hfr hf (fun b o hb => mx.keeps b o (st b o hb)) ne (fr.of_keeps fun b o hb _ => ⟨o, mx.keeps b o hb, rfl⟩) he rfl rfl q
theorem Hx.tail {h : Heap} (x : Hx B (env :: outer) e C fl h) : Hx B outer e C fl h := ⟨x.st, x.ne, x.fr.2.2, x.tr⟩
theorem j94 {h0 : Heap} {vs : List Value} {Q : Unit → Shared → Prop} (hfr : A.frames = some (env :: outer)) (hf : env.frame = some L) (st : B.StaysIn h0) (fr : h0.FunFrames B (env :: outer)) (mx : Heap.MadeExcOf h0 s.heap e (.ref C) vs)
    (q : ∀ h', Hx B outer e C .none h' → s.heap.UpToSlots h' → Q () { s with heap := h' }) : wpAny M A (leaving env (.ref e)) Q E s := by
  unfold leaving
  exact wpAny_bind (note_new (a0 := .none) hfr hf st fr mx fun h' x up => j6s (s := { s with heap := h' }) x fun h'' x' up' => q h'' x'.tail (up.trans up'))
theorem j78 {Q : Unit → Shared → Prop} (hfr : A.frames = some (env :: outer)) (hf : env.frame = some L) (x : Hx B (env :: outer) e C fl s.heap) (q : ∀ h', Hx B outer e C .none h' → s.heap.UpToSlots h' → Q () { s with heap := h' }) :
    wpAny M A (leaving env (.ref e)) Q E s := by
  unfold leaving
  exact wpAny_bind (j93 hfr hf x fun h' x up => j6s (s := { s with heap := h' }) x fun h'' x' up' => q h'' x'.tail (up.trans up'))
end
end L3
end
noncomputable section
namespace L3
open PySem PySem.Spec PyProof.Rows L2
abbrev VEb : List Value := [.type "ValueError", .type "Exception", .type "BaseException", .type "object"]
structure Fly (P : Program) (w : World) (outer : List Env) (H : Hp) (h : Heap) (H' : Hp) (x C : Addr) (h' : Heap) : Prop where
  un : Un (frs outer) [] H H' h h'
  new : H' x = none
  fl : ∃ B fl, Hx B outer x C fl h' ∧ HOk P w H' B ∧ ∀ b o, h.get? b = some o → b ∉ frs outer → ∃ o', B.get? b = some o'
noncomputable def CX1 (P : Program) (w : World) (C : Addr) : CXT := fun outer H s E e s' => ∃ (x : Addr) (H' : Hp), e = .ref x ∧ s'.os = s.os ∧ AllBare s'.gens ∧ Fly P w outer H s.heap H' x C s'.heap ∧ E e (some x) H'
theorem j95 {P : Program} {w : World} {H : Hp} {h : Heap} {a : Addr} {o : HO} (x : j1h P w H h a o) : ∃ u, h.get? a = some u := by
  cases o with
  | lst _ => exact let ⟨_, _, _, _, e⟩ := x; ⟨_, e⟩
  | tup _ => exact let ⟨_, _, _, _, e, _⟩ := x; ⟨_, e⟩
  | dK _ => exact let ⟨_, _, _, _, _, _, _, e, _⟩ := x; ⟨_, e⟩
  | dT _ => exact let ⟨_, _, _, _, _, _, _, e, _⟩ := x; ⟨_, e⟩
  | set _ _ => exact let ⟨_, _, _, _, e, _⟩ := x; ⟨_, e⟩
  | ins _ _ _ => exact let ⟨_, _, _, e, _⟩ := x; ⟨_, e⟩
  | own _ => exact let ⟨_, e⟩ := x; ⟨_, e⟩
  | xd _ => exact let ⟨_, ⟨_, _, _, e, _⟩, _⟩ := x; ⟨_, e⟩
  | rng _ _ => exact let ⟨_, _, _, e⟩ := x; ⟨_, e⟩
  | frz _ _ => exact ⟨_, x.1⟩
  | tbl _ => exact ⟨_, x⟩
  | met _ _ => exact ⟨_, x⟩
  | ext _ => exact let ⟨_, ⟨_, e⟩, _⟩ := x; ⟨_, e⟩
theorem un_on {fs : List Addr} {H H' : Hp} {h h1 h2 B : Heap} (u : Un fs [] H H' h h1) (k1 : B.StaysIn h1) (k2 : B.StaysIn h2) (cov : ∀ b o, h.get? b = some o → b ∉ fs → ∃ o', B.get? b = some o') (up : h1.UpToSlots h2)
    (nf : ∀ b ∈ fs, H b = none ∧ ∀ o, h.get? b = some o → ∀ vs, o.data ≠ .fields vs) : Un fs [] H H' h h2 := by
  have kp : ∀ b o, h.get? b = some o → H b = none → b ∉ fs → h2.get? b = some o := fun b o e n hb => by
    obtain ⟨o', e'⟩ := cov b o e hb
    have q1 := u.keep b o e n hb (by simp)
    rw [k1 b o' e'] at q1
    rw [← Option.some.inj q1]
    exact k2 b o' e'
  have sl : ∀ b o, h.get? b = some o → b ∈ fs → ∃ sl, h2.get? b = some { o with slots := sl } := fun b o e hb => by
    obtain ⟨n, nd⟩ := nf b hb
    obtain ⟨s1, e1⟩ := u.slot b o e n hb (by simp)
    obtain ⟨s2, e2⟩ := up b _ e1 (nd o e)
    exact ⟨s2, e2⟩
  refine ⟨fun b o e n hb _ => kp b o e n hb, fun b o e _ hb _ => sl b o e hb, u.free, fun b o e _ => ?_, u.tups, u.frzs, u.tbls⟩
  by_cases hb : b ∈ fs
  · obtain ⟨s1, e1⟩ := sl b o e hb
    exact ⟨_, e1⟩
  · obtain ⟨o', e'⟩ := cov b o e hb
    exact ⟨o', k2 b o' e'⟩
section
variable {X : Cx} {pins : List (Addr × Obj)} {σ : L2.St} {H : Hp} {s : Shared}
theorem j96 {l : List Env} {env : Env} {a : Addr} (h : env ∈ l) (e : env.frame = some a) : a ∈ frs l := List.mem_filterMap.mpr ⟨env, h, e⟩
theorem Inv.frm (I : L2.Inv X pins σ H s) : ∀ b ∈ frs X.outer, X.H₀ b = none ∧ ∀ o, X.s₀.heap.get? b = some o → ∀ vs, o.data ≠ .fields vs := fun b hb => by
  refine ⟨I.ok.frf b hb, fun o e => ?_⟩
  obtain ⟨_, o', e', d⟩ := I.ok.funs.mem hb
  rw [e] at e'
  cases e'
  exact d
theorem Inv.frmS (I : L2.Inv X pins σ H s) : ∀ b ∈ frs X.stack, H b = none ∧ ∀ o, s.heap.get? b = some o → ∀ vs, o.data ≠ .fields vs := fun b hb => by
  refine ⟨I.stkFree b hb, fun o e => ?_⟩
  obtain ⟨_, o', e', d⟩ := I.stack.mem hb
  rw [e] at e'
  cases e'
  exact d
theorem Inv.old (I : L2.Inv X pins σ H s) {b : Addr} {o : Obj} (e : X.s₀.heap.get? b = some o) (n : b ∉ frs X.outer) : b ∉ frs X.stack := fun z => by
  rcases List.mem_cons.mp (I.stkSub b z) with y | y
  · exact absurd (Heap.lt_size e) (by rw [y]; exact Nat.not_lt.mpr I.ok.above)
  · exact n y
theorem j79 {env : Env} {outer : List Env} {C x : Addr} {vs : List Value} {h' : Heap} {Q : Unit → Shared → Prop} {E : Value → Shared → Prop} (hs : X.stack = env :: outer) (ho : X.outer = outer) (hex : X.ex = []) {L : Addr} (hf : env.frame = some L) (I : L2.Inv X pins σ H s) (mx : Heap.MadeExcOf s.heap h' x (.ref C) vs)
    (q : ∀ h'', Fly X.prog X.w outer X.H₀ X.s₀.heap H x C h'' → Q () { s with heap := h'' }) : wpAny (model X.prog X.w) X.A (leaving env (.ref x)) Q E { s with heap := h' } := by
  have hin : ∀ e ∈ X.stack, ∀ b, e.frame = some b → b ∈ frs X.stack := fun e he b hb => j96 he hb
  have st : (PySem.W.hideAll s.heap (frs X.stack)).StaysIn s.heap := fun b o e => PySem.W.of_hideAll _ e
  have ff := PySem.W.funFrames_hide (as := frs X.stack) I.stack hin
  have hk : HOk X.prog X.w H (PySem.W.hideAll s.heap (frs X.stack)) := fun b u e => by
    refine (I.hok b u e).stay (fun c v hc q => PySem.W.hideAll_get _ q fun z => ?_) (fun _ q => q) fun _ _ q => q
    have n := I.stkFree c z
    rcases hc with y | y
    · rw [y, e] at n; cases n
    · rw [y] at n; cases n
  have b0 := I.base
  rw [hex] at b0
  refine j94 (s := { s with heap := h' }) (by rw [← hs]; exact I.ok.frames) hf st (by rw [← hs]; exact ff) mx fun h'' fl up => q h'' ⟨?_, ?_, _, _, fl, hk, fun b o e n => ?_⟩
  · have up2 : s.heap.UpToSlots h'' := (Heap.UpToSlots.of_keeps mx.keeps).trans up
    rw [← ho]
    refine un_on (B := PySem.W.hideAll s.heap (frs X.stack)) b0 st fl.st (fun b o e n => ?_) up2 (Inv.frm I)
    obtain ⟨o', e'⟩ := b0.there b o e (by simp)
    exact ⟨o', PySem.W.hideAll_get _ e' (Inv.old I e n)⟩
  · cases hx : H x with
    | none => rfl
    | some u =>
      have lt := mx.new
      obtain ⟨o, e⟩ := j95 (I.hok x u hx)
      rw [lt] at e
      cases e
  · obtain ⟨o', e'⟩ := b0.there b o e (by simp)
    exact ⟨o', PySem.W.hideAll_get _ e' (Inv.old I e (by rw [ho]; exact n))⟩
theorem leave_on {env : Env} {outer : List Env} {C x : Addr} {H' : Hp} {s' : Shared} {Q : Unit → Shared → Prop} {E : Value → Shared → Prop} (hs : X.stack = env :: outer) (ho : X.outer = outer) (hex : X.ex = []) {L : Addr} (hf : env.frame = some L) (I : L2.Inv X pins σ H s) (os : s'.os = s.os) (bare : AllBare s'.gens)
    (f : Fly X.prog X.w X.stack H s.heap H' x C s'.heap)
    (q : ∀ h'', Fly X.prog X.w outer X.H₀ X.s₀.heap H' x C h'' → Q () { s' with heap := h'' }) : wpAny (model X.prog X.w) X.A (leaving env (.ref x)) Q E s' := by
  obtain ⟨un, new, B, m, fl, hk, cov⟩ := f
  have I' := I.call' (ch := []) os un (hk.kept fl.st) bare (fun _ z => nomatch z)
  have b0 := I'.base
  rw [hex] at b0
  rw [hs] at fl
  have c0 : ∀ b o, X.s₀.heap.get? b = some o → b ∉ frs outer → ∃ o', B.get? b = some o' := fun b o e n => by
    have e0 := I.base
    rw [hex] at e0
    obtain ⟨o', e'⟩ := e0.there b o e (by simp)
    exact cov b o' e' (Inv.old I e (by rw [ho]; exact n))
  refine j78 (by rw [← hs]; exact I.ok.frames) hf fl fun h'' fl2 up => q h'' ⟨?_, new, B, _, fl2, hk, c0⟩
  have fr := Inv.frm I
  rw [ho] at fr
  have b1 : Un (frs outer) [] X.H₀ H' X.s₀.heap s'.heap := by rw [← ho]; exact b0
  exact un_on b1 fl.st fl2.st c0 up fr
end
theorem j4x {K : PySem.W.Frag} {h : Heap} {C : Addr} (X : K.In h) (q : PySem.W.excIn K C VEb "ValueError.__new__" = true) :
    ∃ bm N nm qn bs hd sn sub ab col dd k0 k1 k2 k3 k5 mN, h.get? C = some (excClassObj nm qn C N bs bm hd sn sub ab col dd k0 k1 k2 k3 k5 "ValueError.__new__") ∧ h.Ns N mN ∧ mN "__init__" = none ∧ OwnTail h VEb bm := by
  unfold PySem.W.excIn at q
  split at q
  case h_2 => cases q
  case h_1 dd cd sl ho =>
    split at q
    case h_2 => cases q
    case h_1 C' bm k0 k1 k2 k3 n k5 hm hs =>
      simp only [Bool.and_eq_true, beq_iff_eq, Bool.not_eq_true'] at q
      obtain ⟨⟨⟨⟨⟨rfl, rfl⟩, hdel⟩, ht⟩, hok⟩, hni⟩ := q
      obtain ⟨nm, bs, mro, ns, qn, hd, sn, sub, ab, col, del⟩ := cd
      cases (show mro = .ref C' :: bm from hm)
      cases (show del = false from hdel)
      obtain ⟨l⟩ := sl
      cases (show l = [k0, k1, k2, k3, some (.builtin "ValueError.__new__"), k5] from hs)
      exact ⟨bm, ns, nm, qn, bs, hd, sn, sub, ab, col, dd, k0, k1, k2, k3, k5, _, X _ _ ho, .of_isNs (PySem.W.isNs_of_in X hok), PySem.W.nsMap_none_of_in X hok hni, PySem.W.tail_of_in X ht⟩
section
variable {X : Cx}
theorem j18 {cname msg : Str} {j : Nat} {p np cpos pos : Pos} {C : Addr} {R : Hp → Prop} (hg : Gl X cname) (hm : X.mg cname = some (.ref C)) (q : PySem.W.excIn X.K C VEb "ValueError.__new__" = true) (hc : X.calm = true)
    (rs : ∀ (pins : List (Addr × Obj)) (σ : L2.St) (H : Hp) (s : Shared) (h' : Heap) (x : Addr) (vs : List Value), L2.Inv X pins σ H s → R H → Heap.MadeExcOf s.heap h' x (.ref C) vs → X.xe (.ref x) { s with heap := h' })
    (hd : (cname == ("__debug__" : Str)) = false := by decide) (he : starEach [.Constant (.str msg) j p] X.env = (false, eval (.Constant (.str msg) j p) X.env) :: starEach [] X.env := by rfl) :
    PS X (.Raise (some (.Call (.Name cname np) [.Constant (.str msg) j p] [] cpos)) none pos) (fun _ _ H => R H) := by
  intro pins s σ H D I h
  obtain ⟨bm, N, nm, qn, bs, hdc, sn, sub, ab, col, dd, k0, k1, k2, k3, k5, mN, hC, hN, hni, T⟩ := j4x I.mod.kin q
  refine wpAny_Raise_call_subT (bmB := VEb) (C := C) (N := N) (nm := nm) (q := qn) (bs := bs) (bm := bm) (hdct := hdc) (sn := sn) (sub := sub) (ab := ab) (col := col) (dd := dd) (k0 := k0) (k1 := k1) (k2 := k2) (k3 := k3) (k5 := k5) PySem.F.excBase_ValueError (T.hasType rfl) (I.ok.hd hc) (by rw [he]; rfl) hni (j3q I hg hm ⟨rfl, ?_⟩ hd)
  have pa : PA X [.Constant (.str msg) j p] (j06 (tC (.str msg)) tNil) := j00 j39 j02 he
  have w0 := pa cpos pins s σ H (fun vs H1 => H1 = H ∧ vs.length = 1) I ⟨rfl, rfl⟩
  rw [he] at w0 ⊢
  refine Calls.evalArgs_plain (thn w0 fun us s1 ⟨vs, H1, I1, r, e1, l1⟩ => ⟨rfl, ?_, I1.bk _ _ hC, hN.keeps I1.bk, T.keeps I1.bk, fun h' x mx => ?_⟩)
  · rw [← r.length, l1]
    decide
  · subst e1
    exact rs pins σ _ s1 h' x us I1 h mx
end
section
variable {P : Program} {w : World} {K : PySem.W.Frag} {mg : Str → Option Value} {base : Heap} {N : List Str} {qual : Str} {scope : Scope} {f C : Addr} {cd : Value} {A : Around} {outer : List Env} {s : Shared} {H : Hp} {E : XK}
end
end L3
end
noncomputable section
namespace L3
open PySem PySem.Spec PySem.Calls PyProof.Rows PySem.W
section
variable {prog : Program} {w : World} {A : Around} {E : Value → Shared → Prop} {s : Shared} {K : PySem.W.Frag} {x C : Addr} {ox : Obj}
structure ExcK (K : PySem.W.Frag) (C : Addr) : Prop where
  ex : PySem.W.excIn K C VEb "ValueError.__new__" = true
  ga : findIn K (.ref C) "__getattribute__" = some (some (.builtin "BaseException.__getattribute__"))
  gt : findIn K (.ref C) "__getattr__" = some none
  fi : findObj K C none "__class__" = some (.bind (.builtin "getset_descriptor.__get__") (.builtin "object.__class__"))
  mo : mroIn K C (.type "object") = some true
  mb : mroIn K C (.type "BaseException") = some true
theorem j97 {tk : Tok} {P : Fin → Shared → Prop} (Z : ExcK K C) (X : K.In s.heap) (I : InstAt s.heap x ox C none) (h : P (.done (.ret (.ref C))) s) :
    wpAny (model prog w) A (Builtin.«object.__getattribute__» ⟨[.ref x, .str "__class__" tk], []⟩) P E s := by
  obtain ⟨hh, g, d, t, os⟩ := s
  have L0 := I.type (M := model prog w)
  have L3 := looks_find (M := model prog w) X I Z.fi
  unfold Builtin.«object.__getattribute__»
  repeat (any_goals (first | assumption | with_reducible refine Looks.at (by assumption) ?_ | wp_step))
  exact class_get X I Z.mo (wpAny_pure h)
theorem j98 {M : Model} {nm : Value} {Q : Unit → Shared → Prop} (Z : ExcK K C) (X : K.In s.heap) (I : InstAt s.heap x ox C none) (hq : Q () s) : wpAny M A (checkBuiltinCall "BaseException.__getattribute__" ⟨[.ref x, nm], []⟩) Q E s := by
  obtain ⟨hh, g, d, t, os⟩ := s
  have L0 := I.type (M := M)
  have L4 := looks_mroIn (M := M) X Z.mb
  have kd : builtinKind "BaseException.__getattribute__" = some .slot := by decide +kernel
  have sp : splitId "BaseException.__getattribute__" = some ("BaseException", "__getattribute__") := by decide +kernel
  have ha := F.args_bexc_ga (.ref x) nm
  simp only [checkBuiltinCall, kd, sp]
  refine wpAny_bind ?_
  unfold isInstance
  repeat (first | with_reducible refine Looks.at (by assumption) ?_ | wp_step)
  exact hq
theorem exc_ca {Q : Option Value → Shared → Prop} (Z : ExcK K C) (X : K.In s.heap) (I : InstAt s.heap x ox C none) (h : Q (some (.ref C)) { s with toks := s.toks + 1 }) : wpAny (model prog w) A (getAttr? (.ref x) "__class__") Q E s := by
  obtain ⟨hh, g, d, t, os⟩ := s
  have L0 := I.type (M := model prog w)
  have L1 := looks_findIn (M := model prog w) X Z.ga
  have L2 := looks_findIn (M := model prog w) X Z.gt
  unfold getAttr? getAttrBy? getAttrBy
  refine wpAny_bind (wpAny_mkText (wpAny_bind (wpAny_attempt (wpAny_holding (wpAny_bind (L0.at (wpAny_bind (L1.at ?_))))))))
  dsimp only
  have hx2 : (Value.builtin "BaseException.__getattribute__" == Value.builtin "object.__getattribute__") = false := by decide +kernel
  rw [hx2, Bool.and_false, if_neg Bool.false_ne_true]
  unfold getAttrByItsOwn
  repeat (any_goals (first | assumption | with_reducible refine Looks.at (by assumption) ?_ | wp_step))
  refine wpAny_of_eq (PySem.F.attrBase_ValueError.ga.bind (.ref x)) ?_
  dsimp only
  refine wpAny_call (codeAny_call_builtin PySem.F.attrBase_ValueError.ga.plain F.entry_bexc_ga (j98 (s := ⟨hh, g, d, t + 1, os⟩) Z X I (j97 (s := ⟨hh, g, d, t + 1, os⟩) Z X I ?_)))
  show wpAny _ _ (handedOut (.ref C)) _ _ _
  exact handed_on rfl (wpAny_pure h)
theorem kitx_exc (Z : ExcK K C) : KitX K (.ref x) (.ref C) (fun h => InstAt h x ox C none) where
  ty := fun _ _ _ I => I.type
  it := fun M h X _ => by
    obtain ⟨bm, N, nm, qn, bs, hd, sn, sub, ab, col, dd, k0, k1, k2, k3, k5, mN, hC, _⟩ := j4x X Z.ex
    intro A' Q' E' s' k q
    unfold isType loadHead
    exact wpAny_bind (wpAny_loadPart (k _ _ hC) (wpAny_pure q))
  ne := fun h tp dd its n sl X htp => by
    obtain ⟨bm, N, nm, qn, bs, hd, sn, sub, ab, col, dd', k0, k1, k2, k3, k5, mN, hC, _⟩ := j4x X Z.ex
    refine Bool.eq_false_iff.mpr fun q => ?_
    have e : C = tp := Value.ref.inj (beq_iff_eq.mp q)
    subst e
    have z := hC.symm.trans htp
    have z2 := congrArg Obj.data (Option.some.inj z)
    cases z2
  ca := fun X I k => exc_ca Z X I k
end
end L3
end
noncomputable section
namespace L3
open PySem PySem.Spec PyProof.Rows
section
variable {prog : Program} {w : World} {A : Around} {E : Value → Shared → Prop} {s : Shared}
noncomputable def Hd (x : Addr) (h : Heap) : Prop := ∃ ox vs, h.get? x = some ox ∧ ox.data = .fields vs ∧ vs[2]? = some .none
end
section
open L2
variable {X : Cx}
end
end L3
end
noncomputable section
namespace L3
open PySem PySem.Spec PyProof.Rows PySem.W
theorem j62 {M : Model} {A : Around} {E : Value → Shared → Prop} {s : Shared} {K : PySem.W.Frag} {x C S : Addr} {ox : Obj} {Q : Bool → Shared → Prop} (X : K.In s.heap) (I : InstAt s.heap x ox C none) (hS : excIn K S VEb "ValueError.__new__" = true) (mS : mroIn K S (.type "BaseException") = some true) (mC : mroIn K C (.ref S) = some true) (q : Q true s) :
    wpAny M A (excMatches (.ref x) (.ref S)) Q E s := by
  obtain ⟨hh, g, d, t, os⟩ := s
  have L0 := I.type (M := M)
  have L1 := looks_mroIn (M := M) X mS
  have L2 := looks_mroIn (M := M) X mC
  obtain ⟨bm, N, nm, qn, bs, hd, sn, sub, ab, col, dd, k0, k1, k2, k3, k5, mN, hC, _⟩ := j4x X hS
  have f := tc_notTuple
  unfold excMatches
  repeat (first | with_reducible refine Looks.at (by assumption) ?_ | with_reducible refine wpAny_loadPart_at hC ?_ | wp_step)
  exact q
end L3
namespace L3
open PySem PySem.Spec PyProof.Rows L2
noncomputable def cxT (X : Cx) (pins : List (Addr × Obj)) (C : Addr) (EQ : Hp → Prop) : Cx :=
  { X with pn := X.pn ++ pins, xe := fun e s' => ∃ (x : Addr) (H' : Hp) (σ' : L2.St) (H : Hp) (s : Shared), e = .ref x ∧ L2.Inv X pins σ' H s ∧ s'.os = s.os ∧ AllBare s'.gens ∧ Fly X.prog X.w X.stack H s.heap H' x C s'.heap ∧ EQ H' }
noncomputable def cxS (X : Cx) (pins : List (Addr × Obj)) (x : Addr) (ox : Obj) : Cx :=
  { X with A := X.A.mark (some (.ref x)), calm := false, pn := X.pn ++ pins ++ [(x, ox)], xe := fun _ _ => False }
section
variable {X : Cx} {pins pins' : List (Addr × Obj)} {σ : L2.St} {H : Hp} {s : Shared} {C x : Addr} {ox : Obj} {EQ : Hp → Prop}
theorem ok_s (ok : X.Ok) : (cxS X pins x ox).Ok := ⟨ok.mod, ok.kind, ok.glob, ok.blt, ok.above, ok.inj, ok.has, ok.cab, fun z => (nomatch z), ok.frames, ok.stk, ok.exf, ok.bs, ok.bsz, ok.noex, ok.exfs, ok.funs, ok.frf⟩
theorem Inv.to_s (I : L2.Inv X pins σ H s) (hx : s.heap.get? x = some ox ∧ H x = none ∧ x ≠ X.env.locals ∧ x ∉ X.fs ∧ ∀ v, ox.data ≠ .cell v) : L2.Inv (cxS X pins x ox) [] σ H s :=
  ⟨ok_s I.ok, I.os, I.bare, I.base, I.loc, I.cell, I.free, I.freeC, fun p hp => by
    have hp' : p ∈ X.pn ++ pins ∨ p = (x, ox) := by simpa [cxS, or_assoc] using hp
    rcases hp' with z | z
    · exact I.pin p z
    · rw [z]; exact hx, I.hok, I.len⟩
theorem Inv.gone {s' : Shared} {m' : Str → Option Value} {h' : Heap} {tk : Nat} (ok : X.Ok) (I : L2.Inv (cxS X pins x ox) [] σ H s) (hn : h'.Ns X.env.locals m') (sb : Heap.SameBut X.env.locals s.heap h') :
    L2.Inv X pins (List.replicate X.N.length none) H { s with heap := h', toks := tk } := by
  have nl : ∀ b, b ≠ X.env.locals → h'.get? b = s.heap.get? b := sb.2
  have ol : ∀ b o, X.s₀.heap.get? b = some o → b ≠ X.env.locals := fun b o e z => absurd (Heap.lt_size e) (by rw [z]; exact Nat.not_lt.mpr ok.above)
  have u := I.base
  have tr : ∀ b w, H b = some w → b ≠ X.env.locals := fun b w e z => by
    have := I.free
    rw [show (cxS X pins x ox).env.locals = X.env.locals from rfl, ← z, e] at this
    cases this
  refine ⟨ok, I.os, I.bare, ⟨fun b o e n hb hx => ?_, fun b o e n hb hx => ?_, u.free, fun b o e hx => ?_, u.tups, u.frzs, u.tbls⟩, ⟨m', hn, fun i y v _ e _ => ?_⟩, fun y c e => ?_, I.free, I.freeC, fun p hp => ?_, fun b w e => ?_, List.length_replicate⟩
  · show h'.get? b = _
    rw [nl b (ol b o e)]
    exact u.keep b o e n hb hx
  · obtain ⟨sl, z⟩ := u.slot b o e n hb hx
    exact ⟨sl, by show h'.get? b = _; rw [nl b (ol b o e)]; exact z⟩
  · obtain ⟨o', z⟩ := u.there b o e hx
    exact ⟨o', by show h'.get? b = _; rw [nl b (ol b o e)]; exact z⟩
  · rw [List.getElem?_replicate] at e
    split at e
    · cases e
    · cases e
  · obtain ⟨v, o, ho, hd⟩ := I.cell y c e
    exact ⟨v, o, by show h'.get? c = _; rw [nl c (I.cne y c e)]; exact ho, hd⟩
  · have hp' : p ∈ (cxS X pins x ox).pn ++ [] := by simp only [cxS, List.append_nil]; exact List.mem_append_left _ hp
    obtain ⟨a, b, c, d, f⟩ := I.pin p hp'
    exact ⟨by show h'.get? p.1 = _; rw [nl p.1 c]; exact a, b, c, d, f⟩
  · refine (I.hok b w e).stay (fun c v hc q => ?_) (fun _ q => q) fun _ _ q => q
    show h'.get? c = _
    rw [nl c ?_]
    · exact q
    · rcases hc with z | z
      · rw [z]; exact tr b w e
      · exact tr c _ z
theorem hx_pin (I : L2.Inv X pins σ H s) {B : Heap} {fl : Value} (hx : Hx B X.stack x C fl s.heap) (hn : H x = none) (hs : X.stack = X.env :: X.outer) (hf : X.env.frame = some X.env.locals) :
    ∃ ox, (s.heap.get? x = some ox ∧ H x = none ∧ x ≠ X.env.locals ∧ x ∉ X.fs ∧ ∀ v, ox.data ≠ .cell v) ∧ PySem.W.InstAt s.heap x ox C none ∧ ∃ vs, ox.data = .fields vs ∧ vs[2]? = some .none := by
  obtain ⟨vs, T, oT, ts, he, h6, h2, _⟩ := id hx.tr
  have nf : x ∉ frs X.stack := fun z => by
    obtain ⟨_, o, ho, d⟩ := hx.fr.mem z
    rw [he] at ho
    cases ho
    exact d vs rfl
  refine ⟨_, ⟨he, hn, fun z => nf ?_, fun z => nf ?_, fun v z => by cases z⟩, ⟨he, rfl, rfl, trivial⟩, vs, rfl, h2⟩
  · rw [z, hs]
    exact j96 (List.mem_cons_self ..) hf
  · rw [hs]
    unfold frs at z ⊢
    rw [List.filterMap_cons, hf]
    exact List.mem_cons_of_mem _ z
abbrev tTry (tb : (Hp → Prop) → TS) (th : Addr → TS) (N i : Nat) : TS := fun D σ H => ∃ EQ : Hp → Prop, tb EQ D σ H ∧ ∀ (x : Addr) (H' : Hp) (σ' : L2.St), σ'.length = N → EQ H' → H' x = none → th x { nx := fun _ _ => False, rt := D.rt } (σ'.set i (some (.ref x))) H'
end
end L3
end
noncomputable section
namespace L3
open PySem PySem.Spec PyProof.Rows L2
structure Far (X : Cx) (H' : Hp) (x C : Addr) (h : Heap) : Prop where
  un : Un (frs X.outer) [] X.H₀ H' X.s₀.heap h
  new : H' x = none
  fl : ∃ B fl, Hx B X.stack x C fl h ∧ HOk X.prog X.w H' B ∧ ∀ b o, X.s₀.heap.get? b = some o → b ∉ frs X.outer → ∃ o', B.get? b = some o'
section
variable {X : Cx} {pins : List (Addr × Obj)} {σ : L2.St} {H H' : Hp} {s s' : Shared} {x C : Addr} {EQ : Hp → Prop}
noncomputable def Landed (X : Cx) (C : Addr) (EQ : Hp → Prop) : Prop := ∀ (pins : List (Addr × Obj)) (σ : L2.St) (H : Hp) (s s' : Shared) (x : Addr) (H' : Hp), L2.Inv X pins σ H s → s'.os = X.s₀.os → AllBare s'.gens → Far X H' x C s'.heap → EQ H' → X.xe (.ref x) s'
end
section
variable {P : Program} {w : World} {K : PySem.W.Frag} {mg : Str → Option Value} {base : Heap} {N : List Str} {qual : Str} {scope : Scope} {f C : Addr} {cd : Value} {A : Around} {outer : List Env} {s : Shared} {H : Hp} {E : XK}
end
section
variable {X : Cx} {elt iter : Expr} {x : Str} {px pos : Pos} {ifs : List Expr} {scope : Scope} {wi : TI} {ti : TT} {te : TE} {caps : List Str} {idx : List Nat} {Cl : Addr} {EQ : Hp → Prop}
noncomputable def xiC (X : Cx) (scope : Scope) (N : List Str) (Cl : Addr) (EQ : Hp → Prop) (pins : List (Addr × Obj)) (C : Addr) (fp : List Addr) (s2 : Shared) (H2 : Hp) (e : Value) (s' : Shared) : Prop :=
  ∃ (y : Addr) (H' H1 : Hp) (s1 : Shared) (σ1 : L2.St), e = .ref y ∧ L2.Inv (cxC X scope C fp s2 H2 pins N) [] σ1 H1 s1 ∧ s'.os = s1.os ∧ AllBare s'.gens ∧ Fly X.prog X.w X.stack H1 s1.heap H' y Cl s'.heap ∧ EQ H'
end
end L3
end
noncomputable section
namespace L3
open PySem PySem.Spec PyProof.Rows L2 PySem.Builtin.Str
section
variable {X : Cx}
abbrev sV (ws : List Str) : List V := ws.map V.str
noncomputable def Its (x : Str) : It := ⟨fun i _ => i < x.cps.size, fun i H v H' => H' = H ∧ ∃ c, x.cps[i]? = some c ∧ v = .str ⟨#[c]⟩, fun i _ => x.cps.size ≤ i⟩
noncomputable def iStr (tl : TE) : TI := fun σ H R => tl σ H fun x H1 => ∃ z, x = .str z ∧ R (Its z) H1
end
end L3
end
noncomputable section
namespace Txm
open PySem PySem.NumText PyProof.Rows
noncomputable def sg (n : Int) : List Nat := (PySem.Str.ofString (toString n)).cps.toList
noncomputable def Can (ds : List Nat) : Prop := ds.head? ≠ some 48 ∨ ds = [48]
noncomputable def fg : List Nat → List Nat
  | 45 :: r => r
  | w => w
noncomputable def vl : List Nat → Int
  | 45 :: r => -((digitsVal r : Nat) : Int)
  | w => ((digitsVal w : Nat) : Int)
noncomputable def Gd (w : List Nat) : Prop := AllDigits (fg w) ∧ fg w ≠ [] ∧ (fg w).length ≤ 7 ∧ ¬ ((fg w).head? = some 48 ∧ w ≠ [48]) ∧ -1000001 < vl w ∧ vl w < 1000001
noncomputable def Pd (w : List Nat) : Prop := AllDigits (fg w) ∧ fg w ≠ [] ∧ w.length ≤ 8 ∧ sg (vl w) = w ∧ -1000000 ≤ vl w ∧ vl w ≤ 1000000
end Txm
end
noncomputable section
namespace Txm
open PySem PySem.NumText PyProof.Rows PySem.Builtin.Str
abbrev cs (z : PySem.Str) : List Nat := z.cps.toList
noncomputable def FIG : PySem.Str := PySem.Str.ofString "0123456789"
end Txm
end
noncomputable section
namespace L3
open PySem PySem.Spec PyProof.Rows L2
section
variable {X : Cx} {C : Addr}
theorem j99 {x : Addr} {ox : Obj} (Z : ExcK X.K C) (hp : (x, ox) ∈ X.pn) (ho : ox.cls = .ref C ∧ PySem.W.notCls ox = true ∧ ox.dict = none) :
    j3h X (.builtin "isinstance") (fun xs H Q => ∃ T c b, xs = [.ref x, T] ∧ tyVal T = some c ∧ PySem.W.kitOne X.K (.ref C) c = some b ∧ Q (.bl b) H) := by
  intro pins s σ H xs us Q I r h
  obtain ⟨T, c, b, rfl, hc, e, q⟩ := h
  obtain ⟨u, w', rfl, rx, rt⟩ := vals2 r
  cases rx
  have ew : w' = c := by
    cases T with
    | ty n => cases (show w' = Value.type n from rt); exact Option.some.inj hc
    | ref C => cases (show w' = Value.ref C from rt); exact Option.some.inj hc
    | _ => cases hc
  subst ew
  obtain ⟨p1, _⟩ := I.pin (x, ox) (List.mem_append_left _ hp)
  obtain ⟨c1, n1, d1⟩ := ho
  refine PySem.W.kia_one (kitx_exc (x := x) (ox := ox) Z) I.kIn ⟨p1, c1, n1, ?_⟩ e (fun z => nomatch z) fun tk => ⟨.bl b, H, I.tok tk, rfl, q⟩
  rw [d1]
  trivial
theorem j1g {K : PySem.W.Frag} (eK : X.K = K) {x : Addr} {ox : Obj} (Z : ExcK K C) (hp : (x, ox) ∈ X.pn) (ho : ox.cls = .ref C ∧ PySem.W.notCls ox = true ∧ ox.dict = none) :
    j3h X (.builtin "isinstance") (fun xs H Q => ∃ T c b, xs = [.ref x, T] ∧ tyVal T = some c ∧ PySem.W.kitOne K (.ref C) c = some b ∧ Q (.bl b) H) := by
  subst eK
  exact j99 Z hp ho
end
structure OkX (P : Program) (w : World) (K : PySem.W.Frag) (mg : Str → Option Value) (base : Heap) (C : Addr) (k : Nat) (x : Str) (ps : List Str) (sp : Sp) : Prop where
  ex : ∃ (f : Addr) (fd : FuncData), FnOk P w K mg base (CX1 P w C) k f fd ps sp ∧ mg x = some (.ref f) ∧ PySem.W.keepIn K (.ref f) = true ∧ j3i K fd ps []
section
variable {X : Cx} {k : Nat} {ps : List Str} {sp : Sp} {x : Str} {p pos : Pos} {e : Expr} {es : List Expr} {t : TA} {C : Addr} {E : XK}
end
theorem j9a {K : PySem.W.Frag} {a : Addr} {xs : List V} {idx : List Nat} {te : TE} {σ : L2.St} {H : Hp} {Q : VK} {EQ : Hp → Prop} (g : V → Option V) (hS : SqL K H a xs) (hl : xs.length < sizeLine)
    (he : ∀ x ∈ xs, ∀ (H' : Hp) (R : VK), Same H H' → (∀ v H2, g x = some v → Same H' H2 → R v H2) → (g x = none → ∀ H2, Same H' H2 → EQ H2) → te (some x :: capV idx σ) H' R)
    (q : (∀ x ∈ xs, g x ≠ none) → ∀ D H', H D = none → Same H H' → H' D = some (.lst (xs.filterMap g)) → Q (.ref D) H') (hE : ∀ x ∈ xs, g x = none → ∀ H', Same H H' → EQ H') :
    ∀ D, H D = none → ∃ W : Nat → Nat → List V → Hp → Prop, (∃ m, W 0 m [] (upd H D (.lst []))) ∧ ∀ i m ys H2, W i m ys H2 →
      ((Itl K a).stop i H2 ∧ Q (.ref D) H2) ∨ ((Itl K a).go i H2 ∧ ∀ x H3, (Itl K a).yld i H2 x H3 → (fun (_ : L2.St) (H : Hp) (Q : Bool → Hp → Prop) => Q true H) (some x :: capV idx σ) H3 fun b H4 =>
        if b = true then te (some x :: capV idx σ) H4 fun y H5 => H5 D = some (.lst ys) ∧ ys.length < sizeLine ∧ ∃ m', m' < m ∧ W (i + 1) m' (ys ++ [y]) (upd H5 D (.lst (ys ++ [y])))
        else ∃ m', m' < m ∧ W (i + 1) m' ys H4) := by
  intro D hD
  have su : ∀ {H' : Hp} {o : HO}, Same H H' → Same H (upd H' D o) := fun s1 b u e => by rw [j0q (j0m e hD)]; exact s1 b u e
  refine ⟨fun i m ys H2 => m = xs.length - i ∧ i ≤ xs.length ∧ (∀ x ∈ xs.take i, g x ≠ none) ∧ ys = (xs.take i).filterMap g ∧ Same H H2 ∧ H2 D = some (.lst ys), ⟨xs.length, by simp, Nat.zero_le _, by simp, by simp, j03 hD, j01⟩, ?_⟩
  rintro i m ys H2 ⟨rfl, hi, hg, rfl, s2, d2⟩
  have hS2 : SqL K H2 a xs := s2.seq hS
  by_cases hlt : i < xs.length
  · refine .inr ⟨⟨_, _, hS2, List.getElem?_eq_getElem hlt⟩, ?_⟩
    rintro x H3 ⟨rfl, hx⟩
    have hx := hx _ hS2
    have hm : x ∈ xs := List.mem_of_getElem? hx
    have tk : xs.take (i + 1) = xs.take i ++ [x] := by rw [List.take_succ, hx]; rfl
    show if true = true then _ else _
    rw [if_pos rfl]
    refine he x hm _ _ s2 (fun v H5 e s5 => ⟨s5 _ _ d2, ?_, xs.length - (i + 1), by omega, rfl, hlt, ?_, ?_, su (s2.trans s5), j01⟩) fun e H5 s5 => hE x hm e _ (s2.trans s5)
    · have := List.length_filterMap_le g (xs.take i)
      rw [List.length_take] at this
      omega
    · rw [tk]
      intro y hy
      rcases List.mem_append.mp hy with z | z
      · exact hg y z
      · rw [List.mem_singleton] at z
        rw [z, e]
        simp
    · rw [tk, List.filterMap_append]
      simp [e]
  · have : i = xs.length := by omega
    subst this
    refine .inl ⟨⟨_, hS2, Nat.le_refl _⟩, ?_⟩
    rw [List.take_of_length_le (Nat.le_refl _)] at hg d2
    exact q hg D _ hD s2 d2
theorem compX_of {K : PySem.W.Frag} {tl : TE} {a : Addr} {xs : List V} {idx : List Nat} {te : TE} {σ : L2.St} {H H1 : Hp} {Q : VK} {EQ : Hp → Prop} (g : V → Option V) (htl : ∀ R : VK, R (.ref a) H1 → tl σ H R) (hS : SqL K H1 a xs) (hl : xs.length < sizeLine)
    (he : ∀ x ∈ xs, ∀ (H' : Hp) (R : VK), Same H1 H' → (∀ v H2, g x = some v → Same H' H2 → R v H2) → (g x = none → ∀ H2, Same H' H2 → EQ H2) → te (some x :: capV idx σ) H' R)
    (q : (∀ x ∈ xs, g x ≠ none) → ∀ D H', H1 D = none → Same H1 H' → H' D = some (.lst (xs.filterMap g)) → Q (.ref D) H') (hE : ∀ x ∈ xs, g x = none → ∀ H', Same H1 H' → EQ H') : j8r (iList K tl) idx (fun _ H Q => Q true H) te σ H Q :=
  htl _ ⟨a, rfl, ⟨_, hS⟩, j9a g hS hl he q hE⟩
noncomputable def j9b : Expr → Bool
  | .Starred .. => false
  | _ => true
theorem star_one {e : Expr} {es : List Expr} {env : Env} (h : j9b e = true) : starEach (e :: es) env = (false, eval e env) :: starEach es env := by
  cases e <;> first | rfl | cases h
theorem j09 {X : Cx} {e : Expr} {es : List Expr} {te : TE} {t : TA} (ha : PE X e te) (hr : PA X es t) (hn : j9b e = true) : PA X (e :: es) (j06 te t) := j00 ha hr (star_one hn)
noncomputable def sCon : List Expr → Option (List Str)
  | [] => some []
  | .Constant (.str x) _ _ :: es => (sCon es).map (x :: ·)
  | _ => none
end L3
end
noncomputable section
namespace L3
open PySem PySem.Spec PyProof.Rows L2
noncomputable def CX2 (P : Program) (w : World) : CXT := fun outer H s E e s' => ∃ (x C : Addr) (H' : Hp), e = .ref x ∧ s'.os = s.os ∧ AllBare s'.gens ∧ Fly P w outer H s.heap H' x C s'.heap ∧ E e (some C) H'
section
variable {P : Program} {w : World} {K : PySem.W.Frag} {mg : Str → Option Value} {base : Heap} {N : List Str} {qual : Str} {scope : Scope} {f C : Addr} {cd : Value} {A : Around} {outer : List Env} {s : Shared} {H : Hp} {E : XK}
theorem j2h (pins : List (Addr × Obj)) (σ : L2.St) (H1 : Hp) (s1 : Shared) (h' : Heap) (x : Addr) (vs : List Value) (I : L2.Inv (cxOf (CX2 P w) P w K mg base N qual scope f cd A outer s H E) pins σ H1 s1) (r : ∀ x, H1 x = none → E (.ref x) (some C) H1)
    (mx : Heap.MadeExcOf s1.heap h' x (.ref C) vs) : (cxOf (CX2 P w) P w K mg base N qual scope f cd A outer s H E).xe (.ref x) { s1 with heap := h' } :=
  j79 (X := cxOf (CX2 P w) P w K mg base N qual scope f cd A outer s H E) rfl rfl rfl rfl I mx fun h'' fl => ⟨x, C, H1, rfl, I.os, I.bare, fl, r x fl.new⟩
theorem j0z : j3b (CX2 P w) (cxOf (CX2 P w) P w K mg base N qual scope f cd A outer s H E) E := by
  rintro pins σ H1 s1 e s' I ⟨x, C, H', rfl, os, bare, fl, ee⟩
  exact leave_on (X := cxOf (CX2 P w) P w K mg base N qual scope f cd A outer s H E) rfl rfl rfl rfl I os bare fl fun h'' fl' => ⟨x, C, H', rfl, os.trans I.os, bare, fl', ee⟩
theorem own2 : PassesOwn (model P w) (cxOf (CX2 P w) P w K mg base N qual scope f cd A outer s H E).A (cxOf (CX2 P w) P w K mg base N qual scope f cd A outer s H E).env (cxOf (CX2 P w) P w K mg base N qual scope f cd A outer s H E).xe :=
  PassesOwn.leaving (Q₁ := fun e s'' => CX2 P w outer H s E e s'')
end
theorem okX2 {P : Program} {w : World} {K : PySem.W.Frag} {mg : Str → Option Value} {base : Heap} {x qual : Str} {st : Stmt} {f : Addr} {fd : FuncData} {N ps : List Str} {k : Nat} {sp : Sp} (F : Fun K x qual st f fd) (S : FnScope N ps (j08 st)) (len : ∀ vs H Q E, sp vs H Q E → vs.length = ps.length)
    (hbody : ∀ (cdv : Value) (A : Around) (outer : List Env) (s : Shared) (H : Hp) (vs : List V) (Q : VK) (E : XK), Room k (A.deeper (envOfC qual (j08 st) s.heap.objs.size f cdv)) → sp vs H Q E →
      ∃ t, PSs (cxOf (CX2 P w) P w K mg base N qual (j08 st) f cdv A outer s H E) (j1o st) t ∧ t { nx := fun _ H' => Q .non H', rt := Q } (j25 N vs) H) : FnOk P w K mg base (CX2 P w) (k + 1) f fd ps sp := by
  obtain ⟨oc, od, kV, doc, pm, an, cdv, ct, osl, rfl, lk, hcd⟩ := F.ex
  exact fn_of lk hcd S len fun A outer s H vs Q E hr hsp => hbody cdv A outer s H vs Q E hr hsp
structure OkY (P : Program) (w : World) (K : PySem.W.Frag) (mg : Str → Option Value) (base : Heap) (k : Nat) (x : Str) (ps : List Str) (sp : Sp) : Prop where
  ex : ∃ (f : Addr) (fd : FuncData), FnOk P w K mg base (CX2 P w) k f fd ps sp ∧ mg x = some (.ref f) ∧ PySem.W.keepIn K (.ref f) = true ∧ j3i K fd ps []
structure Fv (P : Program) (w : World) (K : PySem.W.Frag) (mg : Str → Option Value) (base : Heap) (k : Nat) (f : Addr) (sp : Sp) : Prop where
  ex : ∃ (fd : FuncData) (ps : List Str), FnOk P w K mg base (CX2 P w) k f fd ps sp ∧ PySem.W.keepIn K (.ref f) = true ∧ j3i K fd ps []
noncomputable def tCallV (P : Program) (w : World) (K : PySem.W.Frag) (mg : Str → Option Value) (base : Heap) (k i : Nat) (E : XK) (t : TA) : TE := fun σ H Q => ∃ f sp, σ[i]? = some (some (.ref f)) ∧ Fv P w K mg base k f sp ∧ t σ H fun vs H1 => sp vs H1 Q E
section
variable {X : Cx} {k : Nat} {ps : List Str} {sp : Sp} {x : Str} {p pos : Pos} {e : Expr} {es : List Expr} {t : TA} {E : XK}
theorem j0b (hx : j3b (CX2 X.prog X.w) X E) (c : OkY X.prog X.w X.K X.mg X.base k x ps sp) (hr : Room k X.A) (hg : Gl X x) (ha : PA X (e :: es) t)
    (hdb : (x == ("__debug__" : Str)) = false := by decide) (he : starEach (e :: es) X.env = (false, eval e X.env) :: starEach es X.env := by rfl) (hpl : (backTo pos (starEach es X.env)).any (·.1) = false := by rfl) :
    PE X (.Call (.Name x p) (e :: es) [] pos) (j33 sp [] E t) := by
  obtain ⟨f, fd, F, g, kp, b⟩ := c.ex
  exact j85 (E := E) F hr hg g kp b .nil hx ha hdb he hpl
theorem j1m : j3b (CX2 X.prog X.w) X (fun _ _ _ => False) := by
  rintro pins σ H1 s1 e s' I ⟨x, C, H', rfl, os, bare, fl, ee⟩
  exact ee.elim
theorem pe_callV (P : Program) (w : World) (K : PySem.W.Frag) (mg : Str → Option Value) (base : Heap) (hX : X.prog = P ∧ X.w = w ∧ X.K = K ∧ X.mg = mg ∧ X.base = base) (i : Nat) (hx : j3b (CX2 X.prog X.w) X E) (hr : Room k X.A) (hn : PE X (.Name x p) (tVar i)) (ha : PA X (e :: es) t)
    (he : starEach (e :: es) X.env = (false, eval e X.env) :: starEach es X.env := by rfl) (hpl : (backTo pos (starEach es X.env)).any (·.1) = false := by rfl) :
    PE X (.Call (.Name x p) (e :: es) [] pos) (tCallV P w K mg base k i E t) := by
  obtain ⟨rfl, rfl, rfl, rfl, rfl⟩ := hX
  intro pins s σ H Q I ⟨f, sp, hi, ⟨fd, ps, F, kp, b⟩, h⟩
  refine wpAny_Call_Name_kw (thn (hn pins s σ H (fun v H1 => v = .ref f ∧ t σ H1 fun vs H2 => sp vs H2 Q E) I ⟨_, hi, rfl, h⟩) fun u s0 ⟨v, H0, I0, r0, ev, q0⟩ => ?_)
  subst ev
  cases (show u = Value.ref f from r0)
  refine PySem.W.callWith_K (h₀ := X.base) I0.ok.mod.kin kp (thn (ha pos pins s0 σ H0 _ I0 q0) fun us s1 ⟨vs, H1, I1, r, q⟩ => ⟨I1.kIn, ?_⟩) he hpl
  exact run_fn (dvs := []) F hr b .nil hx I1 r (by rw [List.append_nil]; exact q)
end
theorem OkY.of {P : Program} {w : World} {K : PySem.W.Frag} {mg : Str → Option Value} {base h : Heap} {x qual : Str} {st : Stmt} {ps : List Str} {k : Nat} {sp : Sp} (t : TopF K x qual st) (X : K.In h) (G : h.Ns mainGlobals mg) (b : BindsBy x qual st ps) (ok : ∀ f fd, Fun K x qual st f fd → FnOk P w K mg base (CX2 P w) k f fd ps sp) : OkY P w K mg base k x ps sp := by
  obtain ⟨f, fd, a, F⟩ := t.ex
  exact ⟨f, fd, ok f fd F, PySem.W.mg_of X G a, F.kp, F.binds b⟩
noncomputable def cxT2 (X : Cx) (pins : List (Addr × Obj)) (EQ : Addr → Hp → Prop) : Cx :=
  { X with pn := X.pn ++ pins, xe := fun e s' => ∃ (x C : Addr) (H' : Hp) (σ' : L2.St) (H : Hp) (s : Shared), e = .ref x ∧ L2.Inv X pins σ' H s ∧ s'.os = s.os ∧ AllBare s'.gens ∧ Fly X.prog X.w X.stack H s.heap H' x C s'.heap ∧ EQ C H' }
section
variable {X : Cx} {pins pins' : List (Addr × Obj)} {σ : L2.St} {H : Hp} {s : Shared} {EQ : Addr → Hp → Prop}
theorem ok_t2 (ok : X.Ok) : (cxT2 X pins EQ).Ok := ⟨ok.mod, ok.kind, ok.glob, ok.blt, ok.above, ok.inj, ok.has, ok.cab, ok.hd, ok.frames, ok.stk, ok.exf, ok.bs, ok.bsz, ok.noex, ok.exfs, ok.funs, ok.frf⟩
theorem un_t2 (ok : (cxT2 X pins EQ).Ok) : X.Ok := ⟨ok.mod, ok.kind, ok.glob, ok.blt, ok.above, ok.inj, ok.has, ok.cab, ok.hd, ok.frames, ok.stk, ok.exf, ok.bs, ok.bsz, ok.noex, ok.exfs, ok.funs, ok.frf⟩
theorem Inv.to_t2 (I : L2.Inv X pins σ H s) : L2.Inv (cxT2 X pins EQ) [] σ H s := ⟨ok_t2 I.ok, I.os, I.bare, I.base, I.loc, I.cell, I.free, I.freeC, fun p hp => I.pin p (by simpa [cxT2] using hp), I.hok, I.len⟩
theorem Inv.of_t2 (I : L2.Inv (cxT2 X pins EQ) pins' σ H s) : L2.Inv X pins σ H s := ⟨un_t2 I.ok, I.os, I.bare, I.base, I.loc, I.cell, I.free, I.freeC, fun p hp => I.pin p (List.mem_append_left _ hp), I.hok, I.len⟩
theorem SP.of_t2 {D : Ends} {f : Flow} {s' : Shared} (h : SP (cxT2 X pins EQ) [] D f s') : SP X pins D f s' := by
  cases f with
  | next => obtain ⟨σ', H', I, q⟩ := h; exact ⟨σ', H', Inv.of_t2 I, q⟩
  | brk => obtain ⟨σ', H', I, q⟩ := h; exact ⟨σ', H', Inv.of_t2 I, q⟩
  | cont => obtain ⟨σ', H', I, q⟩ := h; exact ⟨σ', H', Inv.of_t2 I, q⟩
  | ret u => obtain ⟨v, σ', H', I, r, q⟩ := h; exact ⟨v, σ', H', Inv.of_t2 I, r, q⟩
theorem passT2 : j3b (CX2 X.prog X.w) (cxT2 X pins EQ) (fun _ c H' => ∀ C, c = some C → EQ C H') := by
  rintro pins' σ' H1 s1 e s' I ⟨x, C, H', rfl, os, bare, fl, ee⟩
  exact ⟨x, C, H', σ', H1, s1, rfl, Inv.of_t2 I, os, bare, fl, ee C rfl⟩
structure Cat (K : PySem.W.Frag) (S C : Addr) : Prop where
  Z : ExcK K C
  m : PySem.W.mroIn K C (.ref S) = some true
abbrev tTry2 (K : PySem.W.Frag) (S : Addr) (tb : (Addr → Hp → Prop) → TS) (th : Addr → Addr → TS) (N i : Nat) : TS := fun D σ H => ∃ EQ : Addr → Hp → Prop, (∀ C H', EQ C H' → Cat K S C) ∧ tb EQ D σ H ∧
  ∀ (x C : Addr) (H' : Hp) (σ' : L2.St), σ'.length = N → EQ C H' → H' x = none → th x C { nx := fun _ _ => False, rt := D.rt } (σ'.set i (some (.ref x))) H'
theorem ps_try2 {body suite : List Stmt} {b0 : Stmt} {sup n : Str} {np hpos pos : Pos} {i : Nat} {S : Addr} {tb : (Addr → Hp → Prop) → TS} {th : Addr → Addr → TS} (hg : Gl X sup) (hm : X.mg sup = some (.ref S)) (hS : PySem.W.excIn X.K S VEb "ValueError.__new__" = true) (mS : PySem.W.mroIn X.K S (.type "BaseException") = some true)
    (hN : X.N.Nodup) (hi : X.N[i]? = some n) (hl : X.env.scope.names.lookup n = some .local) (hs : X.stack = X.env :: X.outer) (hf : X.env.frame = some X.env.locals)
    (hb : ∀ pins EQ, PSs (cxT2 X pins EQ) body (tb EQ)) (hh : ∀ pins x ox C, (ox.cls = .ref C ∧ PySem.W.notCls ox = true ∧ ox.dict = none ∧ ∃ vs, ox.data = .fields vs ∧ vs[2]? = some .none) → Cat X.K S C → PSs (cxS X pins x ox) (b0 :: suite) (th x C)) (hd : (sup == ("__debug__" : Str)) = false := by decide) (hk : X.env.kindOf n = some .local := by rfl) :
    PS X (.Try body [.ExceptHandler (some (.Name sup np)) (some n) (b0 :: suite) hpos] [] [] pos) (tTry2 X.K S tb th X.N.length i) := by
  intro pins s σ H D I ⟨EQ, hcat, hbd, hhd⟩
  refine wpAny_Try_except (wpAny_mono (hb pins EQ [] s σ H D (Inv.to_t2 I) hbd) (fun f s1 q => ?_) fun e s1 q => ?_)
  · have q' := SP.of_t2 q
    cases f with
    | next => exact wpAny_execs_nil q'
    | brk => exact q'
    | cont => exact q'
    | ret u => exact q'
  · obtain ⟨x, C, H', σ', H0, s0, rfl, I0, os, bare, ⟨un, new, B, fm, fl, hok, cov⟩, eq⟩ := q
    have cat := hcat C H' eq
    have hfr : X.A.frames = some (X.env :: X.outer) := by rw [← hs]; exact I.ok.frames
    rw [hs] at fl
    refine j93 hfr hf fl fun h2 x2 up2 => j6s (s := { s1 with heap := h2 }) x2 fun h3 x3 up3 => ?_
    have inv : ∀ {h4 : Heap}, Hx B (X.env :: X.outer) x C .none h4 → s1.heap.UpToSlots h4 → L2.Inv X pins σ' H' { s1 with heap := h4 } := fun {h4} x4 up4 =>
      I0.call' (s' := { s1 with heap := h4 }) (ch := []) os (un_on un fl.st x4.st cov up4 (Inv.frmS I0)) (hok.kept x4.st) bare (fun _ z => nomatch z)
    have I3 := inv x3 (up2.trans up3)
    obtain ⟨ox3, p3, i3, _⟩ := hx_pin (s := { s1 with heap := h3 }) I3 (by rw [hs]; exact x3) new hs hf
    have I3s := Inv.to_s I3 p3
    refine wpAny_handleBy_cons (codeAny_handlers_test (j3q (X := cxS X pins x ox3) I3s hg hm ?_ hd)) (by intro z; cases z)
    refine j62 (s := { s1 with heap := h3 }) I3.kIn i3 hS mS cat.m ?_
    show codeAny _ _ (.handlers _ _ _) _ _
    refine codeAny_handlers_suite_as (j6s (s := { s1 with heap := h3 }) x3 fun h4 x4 up4 => ?_)
    have I4 := inv x4 ((up2.trans up3).trans up4)
    obtain ⟨ox, p4, i4, vs, dv, v2⟩ := hx_pin (s := { s1 with heap := h4 }) I4 (by rw [hs]; exact x4) new hs hf
    refine j1u (X := cxS X pins x ox) (Inv.to_s I4 p4) hN hi (.inl hl) (v := .ref x) rfl (fun s5 I5 => ?_) (.inr hl)
    have w5 := hh pins x ox C ⟨i4.cls, i4.no, by
      have := i4.dict
      cases hdx : ox.dict with
      | none => rfl
      | some d => rw [hdx] at this; exact this.elim, vs, dv, v2⟩ cat [] s5 _ H' _ I5 (hhd x C H' σ' (I4.len) eq new)
    refine wpAny_mono w5 (fun f s6 q6 => ?_) fun _ _ z => z.elim
    cases f with
    | next => obtain ⟨_, _, _, z⟩ := q6; exact z.elim
    | brk => obtain ⟨_, _, _, z⟩ := q6; exact z.elim
    | cont => obtain ⟨_, _, _, z⟩ := q6; exact z.elim
    | ret u =>
      obtain ⟨v, σ6, H6, I6, r6, d6⟩ := q6
      obtain ⟨m6, n6, _⟩ := I6.loc
      refine wpAny_nameGoes hk n6 (by rw [I.ok.kind]; rfl) fun h7 m7 n7 sb => ?_
      exact ⟨v, _, H6, Inv.gone (s' := s6) I.ok I6 n7 sb, r6, d6⟩
end
structure RoomH (k : Nat) (A : Around) : Prop where
  dp : A.depth + 3 * k + 5 < recursionLimit
  un : A.units + 16 * k + 200 < cLine
abbrev SpH := Addr → Obj → List V → Hp → VK → Prop
structure FnH (P : Program) (w : World) (K : PySem.W.Frag) (mg : Str → Option Value) (base : Heap) (k : Nat) (f : Addr) (fd : FuncData) (ps : List Str) (sp : SpH) : Prop where
  len : ∀ x ox vs H Q, sp x ox vs H Q → vs.length = ps.length
  run : ∀ (A : Around) (outer : List Env) (s : Shared) (H : Hp) (args : Args) (us : List Value) (vs : List V) (Q : VK) (x : Addr) (ox : Obj), RoomH k A → Env0 P w K mg base A outer s H →
    (s.heap.get? x = some ox ∧ H x = none ∧ x ∉ frs outer ∧ ∀ v, ox.data ≠ .cell v) → BindsTo s fd args (ps.zip us) → Vals vs us → sp x ox vs H Q → codeAny (model P w) A (.call (.ref f) args) (CR CX0 outer P w H s Q E0) s
noncomputable def cxH (P : Program) (w : World) (K : PySem.W.Frag) (mg : Str → Option Value) (base : Heap) (N : List Str) (qual : Str) (scope : Scope) (f : Addr) (cd : Value) (A : Around) (outer : List Env) (s : Shared) (H : Hp) (x : Addr) (ox : Obj) : Cx :=
  { cxOf CX0 P w K mg base N qual scope f cd A outer s H E0 with calm := false, pn := [(x, ox)], xe := fun _ _ => False }
theorem fnH_of {P : Program} {w : World} {K : PySem.W.Frag} {mg : Str → Option Value} {base : Heap} {k : Nat} {f : Addr} {name qual : Str} {params : Arguments} {body : List Stmt} {scope : Scope} {dV kV doc pm cdv ct oc : Value} {an od : Option Addr}
    {osl : Array (Option Value)} {N ps : List Str} {sp : SpH} (lk : K.lookup f = some ⟨oc, od, .func (PySem.W.fnOf name qual params body scope dV kV doc pm an cdv ct), osl⟩) (hcd : PySem.W.codeIn K cdv qual = true) (S : FnScope N ps scope)
    (len : ∀ x ox vs H Q, sp x ox vs H Q → vs.length = ps.length)
    (hbody : ∀ (A : Around) (outer : List Env) (s : Shared) (H : Hp) (vs : List V) (Q : VK) (x : Addr) (ox : Obj), sp x ox vs H Q →
      ∃ t, PSs (cxH P w K mg base N qual scope f cdv A outer s H x ox) body t ∧ t { nx := fun _ H' => Q .non H', rt := Q } (j25 N vs) H) :
    FnH P w K mg base k f (PySem.W.fnOf name qual params body scope dV kV doc pm an cdv ct) ps sp := by
  refine ⟨len, fun A outer s H args us vs Q x ox hr e0 hpin hb r hsp => ?_⟩
  have hl := len _ _ _ _ _ hsp
  have KX : K.In s.heap := e0.mod.kin.keeps fun b o e => (e0.bs b o e).1
  have lim : s.heap.NoLimit := e0.mod.nolimit.keeps fun b o e => (e0.bs b o e).1
  have hkind : ∀ y ∈ ps.zip us, scope.names.lookup y.1 = some .local ∨ (scope.names.lookup y.1 = some .cell ∧ ((cellsFrom (s.heap.objs.size + 1) scope.names []).lookup y.1).isSome = true) := fun ⟨n, v⟩ hy => by
    rcases S.par n (List.of_mem_zip hy).1 with q | q
    · exact .inl q
    · exact .inr ⟨q, PySem.W.cellsFrom_some _ _ _ (.inl q)⟩
  refine codeAny_call_function (by have := hr.dp; omega) (KX _ _ lk) rfl S.co S.gen rfl (PySem.W.codeRec_of KX hcd) (hb _ _ _ _ ?_)
  refine wpAny_newFunctionEnv_cells S.kind hkind fun env he s1 z => ?_
  subst he
  refine ⟨lim.keeps z.toInCall.keep, codeAny_func ?_⟩
  obtain ⟨t, ht, hq⟩ := hbody A outer s H vs Q x ox hsp
  have e0' : Env0 P w K mg base { A with handled := none } outer s H := ⟨e0.frames, e0.mod, e0.bs, e0.bsz, e0.funs, e0.frf, e0.hok, e0.bare⟩
  have I0 : L2.Inv (cxOf CX0 P w K mg base N qual scope f cdv { A with handled := none } outer s H E0) [] (j25 N vs) H s1 := j5c S rfl e0' hl r z
  have ok := I0.ok
  have hlt := Heap.lt_size hpin.1
  have I : L2.Inv (cxH P w K mg base N qual scope f cdv A outer s H x ox) [] (j25 N vs) H s1 :=
    ⟨⟨ok.mod, ok.kind, ok.glob, ok.blt, ok.above, ok.inj, ok.has, ok.cab, fun z => (nomatch z), Around.frames_deeper e0.frames, ok.stk, ok.exf, ok.bs, ok.bsz, ok.noex, ok.exfs, ok.funs, ok.frf⟩, I0.os, I0.bare, I0.base, I0.loc, I0.cell, I0.free, I0.freeC, fun p hp => by
      have hp' : p = (x, ox) := by simpa [cxH] using hp
      subst hp'
      exact ⟨z.toInCall.keep _ _ hpin.1, hpin.2.1, Nat.ne_of_lt hlt, hpin.2.2.1, hpin.2.2.2⟩, I0.hok, I0.len⟩
  refine wpAny_mono (ht [] s1 (j25 N vs) H _ I hq) (fun fl s' hs => ?_) fun e s' hs => hs.elim
  have fin : ∀ {σ' : L2.St} {H' : Hp} {v : V} {u : Value}, L2.Inv (cxH P w K mg base N qual scope f cdv A outer s H x ox) [] σ' H' s' → RelV v u → Q v H' → CE outer P w H s Q u s' :=
    fun {σ' H' v u} J rv q => ⟨v, H', J.os, J.bare, J.base, J.hok, rv, q⟩
  cases fl with
  | ret u =>
    obtain ⟨v, σ', H', J, rv, q⟩ := hs
    exact fin J rv q
  | next =>
    obtain ⟨σ', H', J, q⟩ := hs
    exact fin (v := V.non) (u := Value.none) J rfl q
  | brk =>
    obtain ⟨_, _, _, q⟩ := hs
    exact False.elim q
  | cont =>
    obtain ⟨_, _, _, q⟩ := hs
    exact False.elim q
theorem okH {P : Program} {w : World} {K : PySem.W.Frag} {mg : Str → Option Value} {base : Heap} {x qual : Str} {st : Stmt} {f : Addr} {fd : FuncData} {N ps : List Str} {k : Nat} {sp : SpH} (F : Fun K x qual st f fd) (S : FnScope N ps (j08 st)) (len : ∀ x ox vs H Q, sp x ox vs H Q → vs.length = ps.length)
    (hbody : ∀ (cdv : Value) (A : Around) (outer : List Env) (s : Shared) (H : Hp) (vs : List V) (Q : VK) (x : Addr) (ox : Obj), sp x ox vs H Q →
      ∃ t, PSs (cxH P w K mg base N qual (j08 st) f cdv A outer s H x ox) (j1o st) t ∧ t { nx := fun _ H' => Q .non H', rt := Q } (j25 N vs) H) : FnH P w K mg base k f fd ps sp := by
  obtain ⟨oc, od, kV, doc, pm, an, cdv, ct, osl, rfl, lk, hcd⟩ := F.ex
  exact fnH_of lk hcd S len fun A outer s H vs Q x ox hsp => hbody cdv A outer s H vs Q x ox hsp
structure OkH (P : Program) (w : World) (K : PySem.W.Frag) (mg : Str → Option Value) (base : Heap) (k : Nat) (x : Str) (ps : List Str) (sp : SpH) : Prop where
  ex : ∃ (f : Addr) (fd : FuncData), FnH P w K mg base k f fd ps sp ∧ mg x = some (.ref f) ∧ PySem.W.keepIn K (.ref f) = true ∧ j3i K fd ps []
theorem OkH.of {P : Program} {w : World} {K : PySem.W.Frag} {mg : Str → Option Value} {base h : Heap} {x qual : Str} {st : Stmt} {ps : List Str} {k : Nat} {sp : SpH} (t : TopF K x qual st) (X : K.In h) (G : h.Ns mainGlobals mg) (b : BindsBy x qual st ps) (ok : ∀ f fd, Fun K x qual st f fd → FnH P w K mg base k f fd ps sp) : OkH P w K mg base k x ps sp := by
  obtain ⟨f, fd, a, F⟩ := t.ex
  exact ⟨f, fd, ok f fd F, PySem.W.mg_of X G a, F.kp, F.binds b⟩
section
variable {X : Cx} {k : Nat} {ps : List Str} {sp : SpH} {x : Str} {p pos : Pos} {e : Expr} {es : List Expr} {t : TA} {y : Addr} {oy : Obj}
theorem pe_callH {sp' : List V → Hp → VK → Prop} (hsp : ∀ vs H Q, sp' vs H Q → sp y oy vs H Q) (c : OkH X.prog X.w X.K X.mg X.base k x ps sp) (hp : (y, oy) ∈ X.pn) (hr : RoomH k X.A) (hg : Gl X x) (ha : PA X (e :: es) t)
    (hdb : (x == ("__debug__" : Str)) = false := by decide) (he : starEach (e :: es) X.env = (false, eval e X.env) :: starEach es X.env := by rfl) (hpl : (backTo pos (starEach es X.env)).any (·.1) = false := by rfl) :
    PE X (.Call (.Name x p) (e :: es) [] pos) (fun σ H Q => t σ H fun vs H1 => sp' vs H1 Q) := by
  obtain ⟨f, fd, F, hm, kp, b⟩ := c.ex
  intro pins s σ H Q I h
  refine wpAny_Call_Name_kw (j3q I hg hm ?_ hdb)
  refine PySem.W.callWith_K (h₀ := X.base) I.ok.mod.kin kp (thn (ha pos pins s σ H _ I h) fun us s1 ⟨vs, H1, I1, r, q'⟩ => ⟨I1.kIn, ?_⟩) he hpl
  have q := hsp _ _ _ q'
  have hl : (us ++ []).length = ps.length := by rw [List.append_nil, ← r.length]; exact F.len _ _ _ _ _ q
  have b1 := b s1 us I1.kIn hl
  rw [List.append_nil] at b1
  obtain ⟨p1, p2, p3, p4, p5⟩ := I1.pin (y, oy) (List.mem_append_left _ hp)
  have ns : y ∉ frs X.stack := fun z => by
    rcases List.mem_cons.mp (I1.stkSub y z) with q | q
    · exact p3 q
    · exact p4 q
  refine wpAny_call (codeAny_mono (F.run X.A X.stack s1 H1 ⟨us, []⟩ us vs Q y oy hr I1.env0 ⟨p1, p2, ns, p5⟩ b1 r q) fun r s' hq => ?_)
  cases r with
  | error e => exact False.elim hq
  | ok fl =>
    cases fl with
    | ret u => exact I1.after hq
    | next => exact False.elim hq
    | brk => exact False.elim hq
    | cont => exact False.elim hq
end
end L3
end
noncomputable section
namespace L3
open PySem PySem.Spec PyProof.Rows L2
theorem RoomH.of {k j : Nat} {A : Around} {v : Option Value} (r : Room k A) (h : j ≤ k) : RoomH j (A.mark v) := ⟨by have := r.dp; show A.depth + _ + _ < _; omega, by have := r.un; show A.units + _ + _ < _; omega⟩
section
variable {X : Cx} {pos : Pos}
theorem inv_big {pins : List (Addr × Obj)} {s : Shared} {σ : L2.St} {H : Hp} (I : L2.Inv X pins σ H s) : sysModules < s.heap.objs.size :=
  Nat.lt_trans (by decide) (I.mod.glob.keeps I.bk).lt
theorem op_eqLK {K : PySem.W.Frag} (eK : X.K = K) {α : Type} [DecidableEq α] {R : Hp → α → V → Prop} (hu : X.A.units < cLine) (hE : ItemR X X.A.in1 R) : OpR X (compareOp .Eq) (rEqL K R false) := by
  subst eK
  exact j6p hu hE
noncomputable def tNewD : TE := fun _ H Q => ∀ p, H p = none → Q (.ref p) (upd H p (.dK []))
theorem j9c : PE X (.Dict [] [] pos) tNewD := by
  intro pins s σ H Q I h
  refine wpAny_Dict_empty ?_
  have ok : ∀ H', j1h X.prog X.w H' (s.heap.push { cls := .type "dict", data := .dict #[] }) s.heap.objs.size (.dK []) := fun H' =>
    ⟨Nat.zero_le _, beq_eq_false_iff_ne.mpr (Nat.ne_of_gt (inv_big I)), [], .nil, Heap.DictOf.new s.heap⟩
  exact ⟨.ref s.heap.objs.size, _, I.laid (t' := s.toks) (fun _ _ q => Heap.get?_push_of_some _ q) (Nat.le_refl _) (ok _), rfl, h _ (I.hok.fresh (Nat.le_refl _))⟩
theorem j4y (hc : X.calm = true) : j3h X (.type "list") (fun xs H Q => ∃ p n, xs = [.ref p] ∧ H p = some (.rng 0 ((n : Nat) : Int)) ∧ n ≤ 1000 ∧ ∀ l, H l = none → Q (.ref l) (upd H l (.lst (iV ((List.range n).map fun i : Nat => (i : Int)))))) := by
  intro pins s σ H xs us Q I r h
  obtain ⟨p, n, rfl, hp, hn, q⟩ := h
  obtain ⟨u, rfl, rx⟩ := j4l r
  cases rx
  obtain ⟨t, u, v, e⟩ : j1h X.prog X.w H s.heap p (.rng 0 ((n : Nat) : Int)) := I.hok p _ hp
  refine call_list_range (I.ok.hd hc) (n := n) (show IsRange s.heap p 0 n 1 t u v from e) (small_one (by omega) (by omega) (by omega) (by omega)) (by rw [rangeSize_one]; split <;> omega) (by omega) fun h' tk acc c' kp e' it => ?_
  have ia := j77 it
  have rv := j2o ia
  refine ⟨.ref s.heap.objs.size, _, I.laid (t' := tk) kp (Nat.le_refl _) (show j1h X.prog X.w _ h' _ (.lst (iV ((List.range n).map fun i : Nat => (i : Int)))) from ⟨?_, acc.toList, c', rv, ?_⟩), rfl, q _ (I.hok.fresh (Nat.le_refl _))⟩
  · rw [j0w, List.length_map, List.length_range]
    exact Nat.le_trans hn (by decide)
  · rw [e']
end
noncomputable def Ist (c : Int) (n : Nat) : It := ⟨fun i _ => i < n, fun i H x H' => H' = H ∧ x = .int (i * c), fun i _ => n ≤ i⟩
theorem j9d {P : Program} {w : World} {K : PySem.W.Frag} {tg : Expr} (it : Addr) (c : Int) (n : Nat) : Turn P w K tg (Ist c n) [it] it (fun i h => IsRangeIter h it (0 + (i : Nat) * c) ((n : Int) - (i : Nat)) c) where
  mem := by simp
  obj := fun i h st b hb => by
    have e : b = it := by simpa using hb
    subst e
    exact ⟨_, st, fun v z => by
      have z' : Data.fields _ = Data.cell v := z
      cases z'⟩
  keep := fun i h h' st k => k it (by simp) _ st
  item := by
    intro X hP hw hK hc i pins s σ H E I hf st hg
    subst hP hw hK
    obtain ⟨f0, f1, f2, f3, f4, f5⟩ := hf it (by simp)
    have W := Walks.range (prog := X.prog) (w := X.w) (I.ok.hd hc) it 0 c n
    refine W.item i s _ _ hg st fun v h' tk hv st' kk => ?_
    obtain ⟨t, rfl⟩ := hv
    have I1 : L2.Inv X pins σ H { s with heap := h', toks := tk } := I.turned (fun b o hb e => kk b o (by simpa using hb) e) f0 f1 f3 f4 f5
    refine ⟨_, rfl, go_of (s := { s with heap := h', toks := tk }) (n := "range_iterator") st' rfl rfl (by decide) ⟨.int (i * c), H, I1, ⟨t, ?_⟩, ⟨rfl, rfl⟩, st', fun b hb => (hf b hb).1⟩⟩
    rw [Int.zero_add]
  done := by
    intro X hP hw hK hc i pins s σ H E I hf st hg
    subst hP hw hK
    obtain ⟨f0, f1, f2, f3, f4, f5⟩ := hf it (by simp)
    exact wpAny_pyNext_range_end (I.ok.hd hc) st (by have : n ≤ i := hg; omega) fun h' eb => ⟨rfl, I.turned (t' := s.toks) (fun b o hb e => eb b o hb e) f0 f1 f3 f4 f5⟩
  self := fun _ _ _ _ _ st h => wpAny_pyIter_rangeiter st h
section
variable {X : Cx} {tg : Expr}
theorem j7a {m c : Int} (h0 : 0 ≤ m) (h1 : m ≤ 1000) (c0 : 1 ≤ c) (c1 : c ≤ 1000) : Builtin.Range.small 0 m c = true := by
  unfold Builtin.Range.small
  rw [rangeSize_pos c0 h0]
  have e0 : 0 ≤ (m + c - 1) / c := Int.ediv_nonneg (by omega) (by omega)
  have e1 : (m + c - 1) / c ≤ m + c - 1 := Int.ediv_le_self _ (by omega)
  simp only [Builtin.Range.rangeFitsLong, Bool.and_eq_true, Bool.or_eq_true, decide_eq_true_eq, beq_iff_eq, show c > 0 from by omega, if_true]
  omega
noncomputable def iRng3 (ta : TA) : TI := fun σ H R => ta σ H fun vs H1 => ∃ m c : Int, vs = [.int 0, .int m, .int c] ∧ (0 ≤ m ∧ m ≤ 1000 ∧ 1 ≤ c ∧ c ≤ 1000) ∧ R (Ist c ((m + c - 1) / c).toNat) H1
theorem j9e {a b d : Expr} {ta : TA} {p pos : Pos} (hg : Gl X "range") (hm : X.mg "range" = none) (ha : PA X [a, b, d] ta) (hs : starEach [a, b, d] X.env = [(false, eval a X.env), (false, eval b X.env), (false, eval d X.env)] := by rfl) (hs2 : starEach [b, d] X.env = [(false, eval b X.env), (false, eval d X.env)] := by rfl) :
    PI X tg (.Call (.Name "range" p) [a, b, d] [] pos) (iRng3 ta) := by
  intro pins s σ H R I h
  refine Call_ (j3r I hg hm boot_range (PyProof.Rows.callWith_type1 (thn (ha pos pins s σ H _ I h) fun us s1 ⟨vs, H1, I1, r1, q1⟩ => ?_) (by rw [hs, hs2]) (by rw [hs2]; rfl)))
  obtain ⟨m, c, e, ⟨m0, m1, c0, c1⟩, q⟩ := q1
  subst e
  cases r1 with
  | cons r rr =>
    cases rr with
    | cons r' rr =>
      cases rr with
      | cons r'' rr =>
        cases rr
        obtain ⟨t, rfl⟩ := r
        obtain ⟨t', rfl⟩ := r'
        obtain ⟨t'', rfl⟩ := r''
        refine call_range_3 (by omega) ?_ (.inl (PyProof.noPylong_small (by omega)))
        refine wpAny_pyIter_range (IsRange.new ..) (j7a m0 m1 c0 c1) ?_
        have I2 : L2.Inv X pins σ H1 { s1 with heap := s1.heap.push { cls := .type "range", data := .fields #[.int 0 t, .int m t', .int c t''] }, toks := s1.toks } := I1.kept fun b o e => Heap.get?_push_of_some _ e
        refine ⟨_, [(s1.heap.push { cls := .type "range", data := .fields #[.int 0 t, .int m t', .int c t''] }).objs.size], _, _, H1, rfl, I2.kept (t' := s1.toks) fun b o e => Heap.get?_push_of_some _ e, j9d _ c ((m + c - 1) / c).toNat, ?_, fun b hb => ?_, q⟩
        · have e0 : 0 ≤ (m + c - 1) / c := Int.ediv_nonneg (by omega) (by omega)
          have e1 : (0 : Int) + ((0 : Nat) : Int) * c = 0 := by simp
          have e2 : ((((m + c - 1) / c).toNat : Nat) : Int) - ((0 : Nat) : Int) = Builtin.Range.rangeSize 0 m c := by rw [rangeSize_pos c0 m0]; omega
          show IsRangeIter _ _ (0 + ((0 : Nat) : Int) * c) (((((m + c - 1) / c).toNat : Nat) : Int) - ((0 : Nat) : Int)) c
          rw [e1, e2]
          exact Heap.get?_push_size _ rfl
        · have e : b = (s1.heap.push { cls := .type "range", data := .fields #[.int 0 t, .int m t', .int c t''] }).objs.size := by simpa using hb
          subst e
          exact I2.fpOk (Nat.le_refl _) (I2.hok.fresh (Nat.le_refl _))
end
theorem step_in {m c : Int} {i : Nat} (h0 : 0 ≤ m) (c0 : 1 ≤ c) (hi : i < ((m + c - 1) / c).toNat) : 0 ≤ (i : Int) * c ∧ (i : Int) * c < m := by
  refine start_inside c0 h0 (by omega) ?_
  rw [rangeSize_pos c0 h0]
  omega
theorem for_step {c : Int} {n : Nat} {g : TG} {tb : TS} {D : Ends} {σ : L2.St} {H : Hp} (Pv : Nat → L2.St → Hp → Prop) (h0 : Pv 0 σ H)
    (hs : ∀ i σ H, i < n → Pv i σ H → g (.int (i * c)) σ H fun σ2 H2 => tb { D with nx := Pv (i + 1), ct := Pv (i + 1), bk := D.nx } σ2 H2) (hd : ∀ σ H, Pv n σ H → D.nx σ H) :
    ∃ W : Nat → Nat → L2.St → Hp → Prop, (∃ m, W 0 m σ H) ∧ ∀ i m σ H, W i m σ H →
      ((Ist c n).stop i H ∧ D.nx σ H) ∨ ((Ist c n).go i H ∧ ∃ N : L2.St → Hp → Prop, (∀ σ' H', N σ' H' → ∃ m', m' < m ∧ W (i + 1) m' σ' H') ∧ ∀ x H', (Ist c n).yld i H x H' → g x σ H' fun σ2 H2 => tb { D with nx := N, ct := N, bk := D.nx } σ2 H2) := by
  refine ⟨fun i m σ H => m = n - i ∧ i ≤ n ∧ Pv i σ H, ⟨n, by simp, Nat.zero_le _, h0⟩, ?_⟩
  rintro i m σ H ⟨rfl, hi, p⟩
  by_cases hlt : i < n
  · refine .inr ⟨hlt, Pv (i + 1), fun σ' H' p' => ⟨n - (i + 1), by omega, rfl, hlt, p'⟩, fun x H' y => ?_⟩
    obtain ⟨rfl, rfl⟩ := y
    exact hs i σ _ hlt p
  · have e : i = n := by omega
    subst e
    exact .inl ⟨Nat.le_refl _, hd σ H p⟩
end L3
end
noncomputable section
namespace My
open PySem L2 L3
noncomputable def tp (i : Nat) : Stmt := PySem.Challenge.pw_evenhand_k07_refused.main.body.getD i (.Pass ⟨0, 0, 0, 0⟩)
section
variable {P : Program} {w : World} {K : PySem.W.Frag} {mg : Str → Option Value} {base : Heap}
abbrev s_cell : Stmt := tp 44
theorem j41 : FnScope ["_law_script", "_law_k"] ["_law_script", "_law_k"] (j08 s_cell) := ⟨rfl, rfl, rfl, by decide +kernel, rfl, by decide +kernel, by decide +kernel⟩
noncomputable def j9f (K : PySem.W.Frag) : Sp := fun vs H Q _ => ∃ (a : Addr) (ns : List Int) (k : Int), vs = [.ref a, .int k] ∧ SqL K H a (iV ns) ∧ 0 ≤ k ∧ ∀ n : Int, Q (.int n) H
theorem ok_cell {f : Addr} {fd : FuncData} (F : Fun K "_law_cell_at" "_law_cell_at" s_cell f fd) (B : Bl mg) : FnOk P w K mg base CX0 1 f fd ["_law_script", "_law_k"] (j9f K) := by
  refine F.ok j41 (fun vs H Q E h => ?_) (fun cdv A outer s H vs Q E hr h => ?_)
  · obtain ⟨a, ns, k, rfl, _⟩ := h
    rfl
  · obtain ⟨a, ns, k, rfl, hS, h0, q⟩ := h
    refine ⟨_, (j05 (j12 (j0e j6y (pv 1) (j0d j0n rfl B.len PySem.boot_len (j00 (pv 0) j02)) (j0g _)) (j07 (j0h (j0x j0v (pv 0) (pv 1) (fun _ _ => rfl)))) j0i)
      (j07 (j0h j04))), ?_⟩
    refine ⟨_, rfl, _, rfl, a, _, rfl, .inl hS, _, _, rfl, rfl, _, rfl, ?_⟩
    refine ite2 (fun hlt => ?_) (fun hge => ?_)
    · rw [decide_eq_true_eq, j0w] at hlt
      obtain ⟨j, rfl⟩ : ∃ j : Nat, k = j := ⟨k.toNat, by omega⟩
      have hj : j < ns.length := by omega
      exact ⟨_, rfl, _, rfl, a, _, _, V.int ns[j], rfl, rfl, hS, j3u (by simp [hj]), q _⟩
    · exact q 0
abbrev s_draw : Stmt := tp 45
theorem j3e : FnScope ["_law_cell", "_law_k", "_law_many", "_law_primes"] ["_law_cell", "_law_k", "_law_many"] (j08 s_draw) := ⟨rfl, rfl, rfl, by decide +kernel, rfl, by decide +kernel, by decide +kernel⟩
noncomputable def j4h : List Int := [1000003, 1000033, 1000037, 1000039, 1000081, 1000099, 1000117, 1000121, 1000133, 1000151, 1000159, 1000171, 1000183, 1000187, 1000193, 1000199]
theorem j7b : ∀ p ∈ j4h, (0 : Int) < p := by decide
noncomputable def spDraw : Sp := fun vs H Q _ => ∃ c k m : Int, vs = [.int c, .int k, .int m] ∧ 0 ≤ k ∧ 0 < m ∧ ∀ (n : Int) (H' : Hp), 0 ≤ n → n < m → Same H H' → Q (.int n) H'
theorem j1n {H : Hp} {p : Addr} {o : HO} (h : H p = none) : Same H (upd H p o) := fun b u e => by rw [j0q (j0m e h)]; exact e
theorem ok_draw {f : Addr} {fd : FuncData} (F : Fun K "_law_draw" "_law_draw" s_draw f fd) (B : Bl mg) : FnOk P w K mg base CX0 1 f fd ["_law_cell", "_law_k", "_law_many"] spDraw := by
  refine F.ok j3e (fun vs H Q E h => ?_) (fun cdv A outer s H vs Q E hr h => ?_)
  · obtain ⟨c, k, m, rfl, _⟩ := h
    rfl
  · obtain ⟨c, k, m, rfl, h0, hm, q⟩ := h
    refine ⟨_, @j05 _ _ _ _ _ (@j13 _ _ 3 _ _ _ _ j3e.nd rfl (Or.inl rfl) (@j16 _ _ j4h _ _ (.cons (.cons (.cons (.cons (.cons (.cons (.cons (.cons (.cons (.cons (.cons (.cons (.cons (.cons (.cons (.cons .nil)))))))))))))))) (by decide)) rfl (.inl rfl)) (j07 (j0h (j0p j4b (j0p j4b (j0p j2n (j0p j6d (pv 0) j04) (j0p j6d (pv 1) j04)) (j0x j1k (pv 3) (j0p j4b (pv 1) j04) (fun _ _ => rfl))) (pv 2)))), ?_⟩
    intro t ht
    have hk : (0 : Int) ≤ k % 16 ∧ k % 16 < 16 := ⟨Int.emod_nonneg _ (by decide), Int.emod_lt_of_pos _ (by decide)⟩
    obtain ⟨j, hj⟩ : ∃ j : Nat, k % 16 = (j : Int) := ⟨(k % 16).toNat, by omega⟩
    have hj16 : j < j4h.length := by show j < 16; omega
    have pp := j7b j4h[j] (List.getElem_mem hj16)
    refine ⟨_, rfl, _, _, rfl, rfl, .inr ⟨by decide, by decide⟩, ?_⟩
    refine ⟨_, rfl, _, _, rfl, rfl, .inr ⟨by decide, by decide⟩, ?_⟩
    refine ⟨_, _, rfl, rfl, ?_⟩
    refine ⟨_, rfl, _, rfl, _, _, rfl, rfl, (by decide : (0 : Int) < 16), ?_⟩
    refine ⟨t, iV j4h, _, V.int j4h[j], rfl, rfl, SqT.of j01, ?_, _, _, rfl, rfl, pp, _, rfl, _, _, rfl, rfl, hm, ?_⟩
    · rw [hj]
      exact j3u (by simp [hj16])
    · exact q _ _ (Int.emod_nonneg _ (by omega)) (Int.emod_lt_of_pos _ hm) (j1n ht)
end
end My
end
noncomputable section
namespace My
open PySem L2 L3
theorem _root_.L2.Same.seqT {K : PySem.W.Frag} {H H' : Hp} {a : Addr} {xs : List V} (e : Same H H') (h : SqT K H a xs) : SqT K H' a xs := by
  rcases h with (h | ⟨o, h⟩) | h
  · exact .inl (.inl (e _ _ h))
  · exact .inl (.inr ⟨o, e _ _ h⟩)
  · exact .inr h
theorem j1x {H H' : Hp} {p : Addr} {o : HO} (s : Same H H') (n : H p = none) : Same H (upd H' p o) := fun b u e => by rw [j0q (j0m e n)]; exact s b u e
section
variable {P : Program} {w : World} {K : PySem.W.Frag} {mg : Str → Option Value} {base : Heap}
abbrev s_row : Stmt := tp 46
theorem j1y : FnScope ["_law_script", "_law_most", "_law_row_here", "_law_k"] ["_law_script"] (j08 s_row) := ⟨rfl, rfl, rfl, by decide +kernel, rfl, by decide +kernel, by decide +kernel⟩
noncomputable def Bd (b : Int) (rs : List Int) : Prop := ∀ x ∈ rs, -b ≤ x ∧ x ≤ b
noncomputable def spRow (K : PySem.W.Frag) : Sp := fun vs H Q _ => ∃ (a : Addr) (ns : List Int), vs = [.ref a] ∧ SqL K H a (iV ns) ∧ ns.length ≤ 63 ∧
  ∀ (rs : List Int) (p : Addr) (H' : Hp), rs.length = ns.length + 1 → Bd 900000 rs → H p = none → H' p = some (.lst (iV rs)) → Same H H' → Q (.ref p) H'
theorem ok_row {f : Addr} {fd : FuncData} (F : Fun K "_law_row" "_law_row" s_row f fd) (B : Bl mg) (c_cell_at : Ok P w K mg base 1 "_law_cell_at" ["_law_script", "_law_k"] (j9f K)) (c_draw : Ok P w K mg base 1 "_law_draw" ["_law_cell", "_law_k", "_law_many"] spDraw) :
    FnOk P w K mg base CX0 2 f fd ["_law_script"] (spRow K) := by
  refine F.ok j1y (fun vs H Q E h => ?_) (fun cdv A outer s H vs Q E hr h => ?_)
  · obtain ⟨a, ns, rfl, _⟩ := h
    rfl
  · obtain ⟨a, ns, rfl, hS, hl, q⟩ := h
    refine ⟨_, (j05 (j13 (i := 1) j1y.nd rfl (Or.inl rfl) (j0x j1k (j16 (ns := [2, 9, 400, 900000]) (.cons (.cons (.cons (.cons .nil)))) (by decide)) (j0c c_draw (hr.mono (by decide)) rfl (j00 (j0c c_cell_at (hr.mono (by decide)) rfl (j00 (pv 0) (j00 j04 j02))) (j00 j04 (j00 j04 j02)))) (fun _ _ => rfl)))
      (j05 (j13 (i := 2) j1y.nd rfl (Or.inl rfl) (j0a (j00 (j0p j2f (j0c c_draw (hr.mono (by decide)) rfl (j00 (j0c c_cell_at (hr.mono (by decide)) rfl (j00 (pv 0) (j00 j04 j02))) (j00 j04 (j00 j04 j02)))) j04) j02)))
      (j05 (j3a PassesOwn.never rfl (j55 rfl B.range (j00 (j0d j0n rfl B.len PySem.boot_len (j00 (pv 0) j02)) j02)) (j24 (i := 3) j1y.nd rfl (Or.inl rfl))
      (j07 (j0r (j87 PySem.F.plainAttrs_list PySem.F.slot_list_append PySem.F.type_list_append j1s (pv 2) (j00 (j0p j2f (j0c c_draw (hr.mono (by decide)) rfl (j00 (j0x j0v (pv 0) (pv 3) (fun _ _ => rfl)) (j00 (j0p j2n (j0p j4b (pv 3) j04) j04) (j00 (j0p j2n (j0p j6d j04 (pv 1)) j04) j02)))) (pv 1)) j02)))))
      (j07 (j0h (pv 2)))))), ?_⟩
    intro t ht
    have s1 := j1n (o := .tup (iV [2, 9, 400, 900000])) ht
    refine ⟨_, rfl, a, ns, 0, rfl, s1.seq hS, by decide, fun n => ?_⟩
    refine ⟨_, _, _, rfl, by decide, by decide, fun i H2 i0 i4 s2 => ?_⟩
    obtain ⟨j, rfl⟩ : ∃ j : Nat, i = j := ⟨i.toNat, by omega⟩
    have hj : j < [2, 9, 400, (900000 : Int)].length := by show j < 4; omega
    obtain ⟨most, hmost, mlo, mhi⟩ : ∃ m, [2, 9, 400, (900000 : Int)][j]? = some m ∧ 2 ≤ m ∧ m ≤ 900000 := by
      have : j = 0 ∨ j = 1 ∨ j = 2 ∨ j = 3 := by omega
      rcases this with rfl | rfl | rfl | rfl
      · exact ⟨2, rfl, by decide, by decide⟩
      · exact ⟨9, rfl, by decide, by decide⟩
      · exact ⟨400, rfl, by decide, by decide⟩
      · exact ⟨900000, rfl, by decide, by decide⟩
    refine ⟨t, _, _, V.int most, rfl, rfl, s2.seqT (SqT.of j01), j3u (by rw [List.getElem?_map, hmost]; rfl), ?_⟩
    have s3 : Same H H2 := s1.trans s2
    refine ⟨_, rfl, a, ns, 1, rfl, s3.seq hS, by decide, fun n1 => ?_⟩
    refine ⟨_, _, _, rfl, by decide, by decide, fun r0 H3 r00 r05 s4 => ?_⟩
    refine ⟨_, _, rfl, rfl, by show 1 ≤ sizeLine; decide, fun p hp => ?_⟩
    have s5 : Same H H3 := s3.trans s4
    have hp0 : H p = none := s5.free hp
    refine ⟨_, rfl, a, _, rfl, .inl ((j1x s5 hp0).seq hS), _, rfl, by omega, by rw [j0w]; omega, j4f (n := ((iV ns).length : Int).toNat) (fun i σ H4 => ∃ (rs : List Int) (v : Option V), σ = [some (.ref a), some (.int most), some (.ref p), v] ∧ H4 p = some (.lst (iV rs)) ∧ rs.length = i + 1 ∧ Bd 900000 rs ∧ Same H H4) ⟨[r0 - 2], none, rfl, j01, rfl, ?_, j1x s5 hp0⟩ ?_ ?_⟩
    · intro x hx
      rw [List.mem_singleton.mp hx]
      omega
    · rintro i σ H4 hi ⟨rs, v, rfl, h4, rl, rb, s6⟩
      intro D'
      rw [j0w] at hi
      have hi' : i < ns.length := by omega
      refine ⟨_, rfl, .inl ⟨rfl, _, SqL.of h4⟩, ?_⟩
      refine ⟨_, rfl, _, rfl, a, _, _, V.int ns[i], rfl, rfl, s6.seq hS, by rw [Int.zero_add]; exact j3u (by simp [hi']), ?_⟩
      refine ⟨_, rfl, _, _, rfl, rfl, (by decide : (0 : Int) < 5), _, _, rfl, rfl, ?_⟩
      refine ⟨_, rfl, _, _, rfl, rfl, .inl ⟨by decide, by decide⟩, _, _, rfl, rfl, ?_⟩
      have e5 : (0 : Int) ≤ (0 + (i : Int)) % 5 := Int.emod_nonneg _ (by decide)
      refine ⟨_, _, _, rfl, by omega, by omega, fun d H5 d0 d1 s7 => ?_⟩
      refine ⟨_, rfl, _, _, rfl, rfl, ?_⟩
      refine ⟨p, _, _, rfl, rfl, s7 _ _ h4, by rw [j0w, rl]; exact j1l (by omega), ?_⟩
      refine ⟨rs ++ [d - most], _, rfl, ?_, by simp [rl], ?_, j1x (s6.trans s7) hp0⟩
      · rw [j01]
        simp [iV]
      · intro x hx
        rcases List.mem_append.mp hx with hx | hx
        · exact rb x hx
        · rw [List.mem_singleton.mp hx]; omega
    · rintro σ H4 ⟨rs, v, rfl, h4, rl, rb, s6⟩
      exact ⟨_, rfl, q rs p H4 (by rw [rl]; simp) rb hp0 h4 s6⟩
end
end My
end
noncomputable section
namespace My
open PySem L2 L3
theorem seq_join {t u : TS} {D : Ends} {σ : L2.St} {H : Hp} (M : L2.St → Hp → Prop) (h : ∀ N : L2.St → Hp → Prop, (∀ σ' H', M σ' H' → N σ' H') → t { D with nx := N } σ H) (hu : ∀ σ' H', M σ' H' → u D σ' H') : tSeq t u D σ H := h (u D) hu
theorem j5m {t u : TS} {D : Ends} {σ : L2.St} {H : Hp} (M : L2.St → Hp → Prop) (h : ∀ N : L2.St → Hp → Prop, (∀ σ' H', M σ' H' → N σ' H') → let D' : Ends := { D with nx := N }; t D' σ H) (hu : ∀ σ' H', M σ' H' → u D σ' H') : tSeq t u D σ H := h (u D) hu
theorem gN {i : Nat} {v : V} {σ : L2.St} {H : Hp} {Q : L2.St → Hp → Prop} (h : Q (σ.set i (some v)) H) : j47 i v σ H Q := h
theorem j9g {fs : List Int} {i : Nat} (hi : i < fs.length) : atI (iV fs) (i : Int) = some (.int (fs.getD i 0)) := j3u (by rw [List.getElem?_map, List.getElem?_eq_getElem hi, List.getD_eq_getElem?_getD, List.getElem?_eq_getElem hi]; rfl)
theorem ix_iV {fs : List Int} {i : Nat} (hi : i < fs.length) : ixN (iV fs).length (i : Int) = some i := by
  unfold ixN
  rw [j0w, if_pos (by omega), if_pos (by omega)]
  simp
theorem set_iV (fs : List Int) (i : Nat) (y : Int) : (iV fs).set i (.int y) = iV (fs.set i y) := by
  unfold iV; rw [List.map_set]
section
variable {P : Program} {w : World} {K : PySem.W.Frag} {mg : Str → Option Value} {base : Heap}
abbrev s_other : Stmt := tp 47
noncomputable def spOther (K : PySem.W.Frag) : Sp := fun vs H Q _ => ∃ (a p : Addr) (ns rs : List Int), vs = [.ref a, .ref p] ∧ SqL K H a (iV ns) ∧ H p = some (.lst (iV rs)) ∧ 1 ≤ rs.length ∧ rs.length ≤ 64 ∧ Bd 900000 rs ∧
  ∀ (os : List Int) (q : Addr) (H' : Hp), os.length = rs.length → Bd 999990 os → rs.sum - 1 ≤ os.sum → os.sum ≤ rs.sum + 1 → H q = none → H' q = some (.lst (iV os)) → Same H H' → Q (.ref q) H'
end
end My
end
noncomputable section
namespace My
open PySem L2 L3
section
variable {P : Program} {w : World} {K : PySem.W.Frag} {mg : Str → Option Value} {base : Heap}
noncomputable def isI : V → Bool
  | .int _ => true
  | _ => false
inductive Kd (K : PySem.W.Frag) (H : Hp) : V → Value → Bool → Bool → Bool → Bool → Prop where
  | non : Kd K H .non (.type "NoneType") false false false false
  | bl (x : Bool) : Kd K H (.bl x) (.type "bool") true true false false
  | int (i : Int) : Kd K H (.int i) (.type "int") true false false false
  | str (x : Str) : Kd K H (.str x) (.type "str") false false false false
  | lst {a : Addr} {xs : List V} (e : H a = some (.lst xs)) : Kd K H (.ref a) (.type "list") false false true false
  | tup {a : Addr} {xs : List V} (e : H a = some (.tup xs)) : Kd K H (.ref a) (.type "tuple") false false false true
  | dK {a : Addr} {kvs : List (Key × V)} (e : H a = some (.dK kvs)) : Kd K H (.ref a) (.type "dict") false false false false
theorem Kd.ty {H : Hp} {x : V} {t : Value} {i b l u : Bool} (k : Kd K H x t i b l u) : TyOf K H x t := by
  cases k with
  | non => exact .non
  | bl x => exact .bl x
  | int i => exact .int i
  | str x => exact .str x
  | lst e => exact .lst e
  | tup e => exact .tup e
  | dK e => exact .dK e
theorem Kd.isInt {H : Hp} {x : V} {t : Value} {i b l u : Bool} (k : Kd K H x t i b l u) : PySem.W.kitOne K t (.type "int") = some i := by cases k <;> rfl
theorem Kd.isBool {H : Hp} {x : V} {t : Value} {i b l u : Bool} (k : Kd K H x t i b l u) : PySem.W.kitOne K t (.type "bool") = some b := by cases k <;> rfl
theorem Kd.isList {H : Hp} {x : V} {t : Value} {i b l u : Bool} (k : Kd K H x t i b l u) : PySem.W.kitOne K t (.type "list") = some l := by cases k <;> rfl
theorem Kd.isTuple {H : Hp} {x : V} {t : Value} {i b l u : Bool} (k : Kd K H x t i b l u) : PySem.W.kitOne K t (.type "tuple") = some u := by cases k <;> rfl
theorem Kd.whole {H : Hp} {x : V} {t : Value} {i b l u : Bool} (k : Kd K H x t i b l u) : (i && !b) = isI x := by cases k <;> rfl
noncomputable def Known (K : PySem.W.Frag) (H : Hp) (x : V) : Prop := ∃ t i b l u, Kd K H x t i b l u
abbrev s_whole : Stmt := tp 10
theorem j63 : FnScope ["value"] ["value"] (j08 s_whole) := ⟨rfl, rfl, rfl, by decide +kernel, rfl, by decide +kernel, by decide +kernel⟩
noncomputable def j38 (K : PySem.W.Frag) : Sp := fun vs H Q _ => ∃ x, vs = [x] ∧ Known K H x ∧ Q (.bl (isI x)) H
theorem ok_whole {f : Addr} {fd : FuncData} (F : Fun K "is_whole" "is_whole" s_whole f fd) (B : Bl mg) : FnOk P w K mg base CX0 1 f fd ["value"] (j38 K) := by
  refine F.ok j63 (fun vs H Q E h => ?_) (fun cdv A outer s H vs Q E hr h => ?_)
  · obtain ⟨x, rfl, _⟩ := h
    rfl
  · obtain ⟨x, rfl, ⟨t, i, b, l, u, kd⟩, q⟩ := h
    refine ⟨_, (j07 (j0h (j3s (j0d j2s rfl B.isinstance PyProof.Rows.boot_isinstance (j00 (pv 0) (j00 (j31 (v := .ty "int") rfl B.int boot_int rfl) j02))) (j53 (pe_not (j0d j2s rfl B.isinstance PyProof.Rows.boot_isinstance (j00 (pv 0) (j00 (j31 (v := .ty "bool") rfl B.bool j8y rfl) j02)))))))), ?_⟩
    have kw := kd.whole
    refine ⟨_, rfl, x, _, _, t, i, rfl, rfl, kd.ty, kd.isInt, _, rfl, ?_⟩
    cases i with
    | false =>
      refine iteF ?_
      rw [← kw] at q
      exact q
    | true =>
      refine iteT ?_
      refine ⟨_, rfl, x, _, _, t, b, rfl, rfl, kd.ty, kd.isBool, _, rfl, ?_⟩
      rw [← kw] at q
      exact q
noncomputable def plI (x : V) (n : Int) : Bool := match x with
  | .int i => decide (0 ≤ i) && decide (i < n)
  | _ => false
abbrev s_place : Stmt := tp 13
theorem j64 : FnScope ["value", "count"] ["value", "count"] (j08 s_place) := ⟨rfl, rfl, rfl, by decide +kernel, rfl, by decide +kernel, by decide +kernel⟩
noncomputable def j9h (K : PySem.W.Frag) : Sp := fun vs H Q _ => ∃ x n, vs = [x, .int n] ∧ Known K H x ∧ Q (.bl (plI x n)) H
theorem ok_place {f : Addr} {fd : FuncData} (F : Fun K "is_place" "is_place" s_place f fd) (c_is_whole : Ok P w K mg base 1 "is_whole" ["value"] (j38 K)) : FnOk P w K mg base CX0 2 f fd ["value", "count"] (j9h K) := by
  refine F.ok j64 (fun vs H Q E h => ?_) (fun cdv A outer s H vs Q E hr h => ?_)
  · obtain ⟨x, n, rfl, _⟩ := h
    rfl
  · obtain ⟨x, n, rfl, kn, q⟩ := h
    refine ⟨_, (j07 (j0h (j3s (j0c c_is_whole (hr.mono (by decide)) rfl (j00 (pv 0) j02)) (j53 (j6e j7y j6y j04 (pv 0) (pv 1)))))), ?_⟩
    refine ⟨_, rfl, x, rfl, kn, _, rfl, ?_⟩
    cases x with
    | int i =>
      refine iteT ?_
      refine ⟨_, rfl, _, _, rfl, rfl, _, rfl, ?_⟩
      refine ite2 (fun h => ?_) (fun h => ?_)
      · refine ⟨_, rfl, _, _, rfl, rfl, ?_⟩
        have e : plI (.int i) n = decide (i < n) := by show (decide (0 ≤ i) && decide (i < n)) = _; rw [h]; rfl
        rw [e] at q
        exact q
      · have e : plI (.int i) n = false := by show (decide (0 ≤ i) && decide (i < n)) = _; rw [Bool.eq_false_iff.mpr h]; rfl
        rw [e] at q
        exact q
    | _ => exact iteF q
noncomputable def okE (x y z : V) : Bool := match x, y, z with
  | .int a, .int b, .int c => decide (a ≠ b) && decide (0 < c)
  | _, _, _ => false
noncomputable def okV (n : Int) (xs : List V) : Bool := match xs with
  | [x, y, z] => plI x n && plI y n && okE x y z
  | _ => false
theorem j1t (n : Int) (x y z : V) : okV n [x, y, z] = (plI x n && plI y n && okE x y z) := rfl
theorem okV_no (n : Int) (x y z : V) (hz : isI z = false) : okV n [x, y, z] = false := by
  have e : okE x y z = false := by
    unfold okE
    split
    · cases hz
    · rfl
  rw [j1t, e, Bool.and_false]
abbrev s_gift : Stmt := tp 14
theorem j7c : FnScope ["value", "count"] ["value", "count"] (j08 s_gift) := ⟨rfl, rfl, rfl, by decide +kernel, rfl, by decide +kernel, by decide +kernel⟩
noncomputable def j2w (H : Hp) (n : Int) (x : V) : Bool := match x with
  | .ref p => (match H p with
    | some (.tup xs) => okV n xs
    | _ => false)
  | _ => false
theorem j28 {H : Hp} {n : Int} {p : Addr} {xs : List V} (e : H p = some (.tup xs)) : j2w H n (.ref p) = okV n xs := by
  unfold j2w
  simp only [e]
noncomputable def spGift (K : PySem.W.Frag) : Sp := fun vs H Q _ => ∃ x n, vs = [x, .int n] ∧ Known K H x ∧ (∀ p xs, x = .ref p → H p = some (.tup xs) → ∀ y ∈ xs, Known K H y) ∧
  Q (.bl (j2w H n x)) H
theorem ok_gift {f : Addr} {fd : FuncData} (F : Fun K "is_gift" "is_gift" s_gift f fd) (B : Bl mg) (c_is_whole : Ok P w K mg base 1 "is_whole" ["value"] (j38 K)) (c_is_place : Ok P w K mg base 2 "is_place" ["value", "count"] (j9h K)) :
    FnOk P w K mg base CX0 3 f fd ["value", "count"] (spGift K) := by
  refine F.ok j7c (fun vs H Q E h => ?_) (fun cdv A outer s H vs Q E hr h => ?_)
  · obtain ⟨x, n, rfl, _⟩ := h
    rfl
  · obtain ⟨x, n, rfl, ⟨t, i, b, l, u, kd⟩, kn, q⟩ := h
    refine ⟨_, (j05 (j12 (PW.pt (j4k (j14 (j19 (j0d j2s rfl B.isinstance PyProof.Rows.boot_isinstance (j00 (pv 0) (j00 (j31 (v := .ty "tuple") rfl B.tuple j76 rfl) j02))))) (j2m (j0e op_ne (j0d j0n rfl B.len PySem.boot_len (j00 (pv 0) j02)) j04 (j0g _))))) (j07 (j0h j1i)) j0i)
      (j05 (j12 (PW.pt (j4k (j14 (j19 (j0c c_is_place (hr.mono (by decide)) rfl (j00 (j0x j1k (pv 0) j04 (fun _ _ => rfl)) (j00 (pv 1) j02))))) (j2m (j14 (j19 (j0c c_is_place (hr.mono (by decide)) rfl (j00 (j0x j1k (pv 0) j04 (fun _ _ => rfl)) (j00 (pv 1) j02)))))))) (j07 (j0h j1i)) j0i)
      (j07 (j0h (j3s (j1j op_ne (j0x j1k (pv 0) j04 (fun _ _ => rfl)) (j0x j1k (pv 0) j04 (fun _ _ => rfl)) (j0g _)) (j3s (j0c c_is_whole (hr.mono (by decide)) rfl (j00 (j0x j1k (pv 0) j04 (fun _ _ => rfl)) j02)) (j53 (j1j j7z (j0x j1k (pv 0) j04 (fun _ _ => rfl)) j04 (j0g _))))))))), ?_⟩
    refine ⟨_, rfl, x, _, _, t, u, rfl, rfl, kd.ty, kd.isTuple, _, rfl, ?_⟩
    cases kd with
    | @tup a xs e =>
      refine iteF ?_
      have q' : Q (.bl (okV n xs)) H := by
        rw [j28 e] at q
        exact q
      have kn' := kn a xs rfl e
      refine ⟨_, rfl, a, _, rfl, .inr (SqT.of e), rfl, _, rfl, ?_⟩
      refine ite2 (fun hlen => ?_) (fun hlen => ?_)
      · have e3 : okV n xs = false := by
          unfold okV
          split
          · simp at hlen
          · rfl
        rw [e3] at q'
        exact q'
      · obtain ⟨x0, x1, x2, rfl⟩ : ∃ x0 x1 x2, xs = [x0, x1, x2] := by
          have hl : xs.length = 3 := by
            have : ¬ ((!decide (V.int (xs.length : Int) = V.int 3)) = true) := hlen
            simp at this
            omega
          match xs, hl with
          | [x0, x1, x2], _ => exact ⟨x0, x1, x2, rfl⟩
        have k0 := kn' x0 (by simp)
        have k1 := kn' x1 (by simp)
        have k2 := kn' x2 (by simp)
        refine ⟨_, rfl, a, _, _, x0, rfl, rfl, SqT.of e, rfl, _, rfl, x0, n, rfl, k0, _, rfl, ?_⟩
        cases p0 : plI x0 n with
        | false =>
          refine iteT ?_
          have e3 : okV n [x0, x1, x2] = false := by rw [j1t, p0]; rfl
          rw [e3] at q'
          exact q'
        | true =>
          refine iteF ?_
          refine ⟨_, rfl, a, _, _, x1, rfl, rfl, SqT.of e, rfl, _, rfl, x1, n, rfl, k1, _, rfl, ?_⟩
          cases p1 : plI x1 n with
          | false =>
            refine iteT ?_
            have e3 : okV n [x0, x1, x2] = false := by rw [j1t, p0, p1]; rfl
            rw [e3] at q'
            exact q'
          | true =>
            refine iteF ?_
            obtain ⟨i0, rfl⟩ : ∃ i, x0 = .int i := by
              cases x0 with
              | int i => exact ⟨i, rfl⟩
              | _ => cases p0
            obtain ⟨i1, rfl⟩ : ∃ i, x1 = .int i := by
              cases x1 with
              | int i => exact ⟨i, rfl⟩
              | _ => cases p1
            refine ⟨_, rfl, a, _, _, V.int i0, rfl, rfl, SqT.of e, rfl, _, rfl, a, _, _, V.int i1, rfl, rfl, SqT.of e, rfl, rfl, _, rfl, ?_⟩
            have ed : decide (V.int i0 = V.int i1) = decide (i0 = i1) := by simp
            rw [ed]
            by_cases h01 : i0 = i1
            · have e3 : okV n [.int i0, .int i1, x2] = false := by
                rw [j1t, p0, p1]
                cases x2 <;> simp [okE, h01]
              rw [e3] at q'
              rw [decide_eq_true h01]
              exact q'
            · rw [decide_eq_false h01]
              refine iteT ?_
              refine ⟨_, rfl, a, _, _, x2, rfl, rfl, SqT.of e, rfl, x2, rfl, k2, _, rfl, ?_⟩
              cases x2 with
              | int c =>
                refine iteT ?_
                refine ⟨_, rfl, a, _, _, V.int c, rfl, rfl, SqT.of e, rfl, _, _, rfl, rfl, ?_⟩
                have e3 : okV n [.int i0, .int i1, .int c] = decide (0 < c) := by
                  rw [j1t, p0, p1]
                  simp [okE, h01]
                rw [e3] at q'
                exact q'
              | _ =>
                refine iteF ?_
                rw [okV_no n _ _ _ rfl] at q'
                exact q'
    | @lst a xs e =>
      have z : j2w H n (.ref a) = false := by unfold j2w; simp only [e]
      rw [z] at q
      exact iteT (iteT q)
    | @dK a kvs e =>
      have z : j2w H n (.ref a) = false := by unfold j2w; simp only [e]
      rw [z] at q
      exact iteT (iteT q)
    | _ => exact iteT (iteT q)
end
end My
end
noncomputable section
namespace My
open PySem L2 L3
theorem boot_VE : bootBuiltins "ValueError" = some (.type "ValueError") := by decide +kernel
theorem nxt {D : Ends} {σ : L2.St} {H : Hp} (h : D.nx σ H) : j54 D σ H := h
theorem j15 (H : Hp) : Same H H := fun _ _ e => e
structure ErC (K : PySem.W.Frag) (CR CG CA CU CT CS C : Addr) (j : Nat) : Prop where
  cat : Cat K CS C
  k0 : PySem.W.kitOne K (.ref C) (.ref CR) = some (decide (j = 0))
  k1 : PySem.W.kitOne K (.ref C) (.ref CG) = some (decide (j = 1))
  k2 : PySem.W.kitOne K (.ref C) (.ref CA) = some (decide (j = 2))
  k3 : PySem.W.kitOne K (.ref C) (.ref CU) = some (decide (j = 3))
  k4 : PySem.W.kitOne K (.ref C) (.ref CT) = some false
  k5 : PySem.W.kitOne K (.ref C) (.type "ValueError") = some true
structure Er7 (K : PySem.W.Frag) (mg : Str → Option Value) (CR CG CA CU CT CS : Addr) : Prop where
  gBadRow : mg "BadRow" = some (.ref CR)
  gBadGifts : mg "BadGifts" = some (.ref CG)
  gBadAmount : mg "BadAmount" = some (.ref CA)
  gUnlike : mg "Unlike" = some (.ref CU)
  gBadText : mg "BadText" = some (.ref CT)
  gShareError : mg "ShareError" = some (.ref CS)
  hVE : mg "ValueError" = none
  xBadRow : PySem.W.excIn K CR VEb "ValueError.__new__" = true
  xBadGifts : PySem.W.excIn K CG VEb "ValueError.__new__" = true
  xBadAmount : PySem.W.excIn K CA VEb "ValueError.__new__" = true
  xUnlike : PySem.W.excIn K CU VEb "ValueError.__new__" = true
  xShareError : PySem.W.excIn K CS VEb "ValueError.__new__" = true
  zB : PySem.W.mroIn K CS (.type "BaseException") = some true
  eR : ErC K CR CG CA CU CT CS CR 0
  eG : ErC K CR CG CA CU CT CS CG 1
  eA : ErC K CR CG CA CU CT CS CA 2
  eU : ErC K CR CG CA CU CT CS CU 3
noncomputable def dueL (j : Nat) : List Bool := [decide (j = 0), decide (j = 1), decide (j = 2), decide (j = 3), false, true]
section
variable {P : Program} {w : World} {K : PySem.W.Frag} {mg : Str → Option Value} {base : Heap} {CR CG CA CU CT CS : Addr}
noncomputable def shB : V → Bool
  | .int n => decide (-1000000 ≤ n) && decide (n ≤ 1000000)
  | _ => false
noncomputable def rowB (H : Hp) : V → Bool
  | .ref p => (match H p with
    | some (.lst xs) => !xs.isEmpty && xs.all shB
    | _ => false)
  | _ => false
theorem j3p {H : Hp} {p : Addr} {xs : List V} (e : H p = some (.lst xs)) : rowB H (.ref p) = (!xs.isEmpty && xs.all shB) := by
  unfold rowB
  simp only [e]
noncomputable def j10 (K : PySem.W.Frag) (H : Hp) (x : V) : Prop := Known K H x ∧ ∀ p xs, x = .ref p → H p = some (.lst xs) → ∀ y ∈ xs, Known K H y
abbrev Rs (C : Addr) (H : Hp) (E : XK) : Prop := ∀ H' x, Same H H' → H' x = none → E (.ref x) (some C) H'
abbrev s_share : Stmt := tp 11
theorem j65 : FnScope ["value"] ["value"] (j08 s_share) := ⟨rfl, rfl, rfl, by decide +kernel, rfl, by decide +kernel, by decide +kernel⟩
noncomputable def j4z (K : PySem.W.Frag) : Sp := fun vs H Q _ => ∃ x, vs = [x] ∧ Known K H x ∧ Q (.bl (shB x)) H
theorem ok_share {f : Addr} {fd : FuncData} {tB : Tok} (F : Fun K "is_share" "is_share" s_share f fd) (g_BOUND : mg "BOUND" = some (.int 1000000 tB)) (c_is_whole : Ok P w K mg base 1 "is_whole" ["value"] (j38 K)) : FnOk P w K mg base CX0 2 f fd ["value"] (j4z K) := by
  refine F.ok j65 (fun vs H Q E h => ?_) (fun cdv A outer s H vs Q E hr h => ?_)
  · obtain ⟨x, rfl, _⟩ := h
    rfl
  · obtain ⟨x, rfl, kn, q⟩ := h
    refine ⟨_, (j07 (j0h (j3s (j0c c_is_whole (hr.mono (by decide)) rfl (j00 (pv 0) j02)) (j53 (j6e j7y j7y (j32 j1q (j0o (v := .int 1000000) rfl g_BOUND ⟨_, rfl⟩)) (pv 0) (j0o (v := .int 1000000) rfl g_BOUND ⟨_, rfl⟩)))))), ?_⟩
    refine ⟨_, rfl, x, rfl, kn, _, rfl, ?_⟩
    cases x with
    | int n =>
      refine iteT ?_
      refine ⟨_, rfl, _, rfl, _, _, rfl, rfl, _, rfl, ?_⟩
      have q' : Q (.bl (decide (-1000000 ≤ n) && decide (n ≤ 1000000))) H := q
      by_cases h1 : (-1000000 : Int) ≤ n
      · rw [decide_eq_true h1] at q' ⊢
        exact ⟨_, _, rfl, rfl, q'⟩
      · rw [decide_eq_false h1] at q' ⊢
        exact q'
    | _ => exact iteF q
abbrev s_ckrow : Stmt := tp 12
theorem j3f : FnScope ["row", "share"] ["row"] (j08 s_ckrow) := ⟨rfl, rfl, rfl, by decide +kernel, rfl, by decide +kernel, by decide +kernel⟩
noncomputable def spCk (K : PySem.W.Frag) (CR : Addr) : Sp := fun vs H Q E => ∃ x, vs = [x] ∧ j10 K H x ∧ (rowB H x = true → Q .non H) ∧ (rowB H x = false → Rs CR H E)
theorem ok_ckrow {f : Addr} {fd : FuncData} (F : Fun K "check_row" "check_row" s_ckrow f fd) (B : Bl mg) (er : Er7 K mg CR CG CA CU CT CS) (c_is_share : Ok P w K mg base 2 "is_share" ["value"] (j4z K)) : FnOk P w K mg base (CX2 P w) 3 f fd ["row"] (spCk K CR) := by
  refine okX2 F j3f (fun vs H Q E h => ?_) (fun cdv A outer s H vs Q E hr h => ?_)
  · obtain ⟨x, rfl, _⟩ := h
    rfl
  · obtain ⟨x, rfl, ⟨⟨t, i, b, l, u, kd⟩, kn⟩, q, e⟩ := h
    refine ⟨_, (j05 (j12 (PW.pt (j4k (j14 (j19 (j0d j2s rfl B.isinstance PyProof.Rows.boot_isinstance (j00 (pv 0) (j00 (j31 (v := .ty "list") rfl B.list j27 rfl) j02))))) (j2m (j0e j2e (j0d j0n rfl B.len PySem.boot_len (j00 (pv 0) j02)) j04 (j0g _))))) (j07 (j18 rfl er.gBadRow er.xBadRow rfl j2h)) j0i)
      (j07 (j3a own2 rfl (j1v (pv 0)) (j24 (i := 1) j3f.nd rfl (Or.inl rfl))
      (j07 (j12 (j14 (j19 (j0c c_is_share (hr.mono (by decide)) rfl (j00 (pv 1) j02)))) (j07 (j18 rfl er.gBadRow er.xBadRow rfl j2h)) j0i))))), ?_⟩
    try dsimp only [cxOf]
    refine ⟨_, rfl, x, _, _, t, l, rfl, rfl, kd.ty, kd.isList, _, rfl, ?_⟩
    cases kd with
    | @lst a xs ea =>
      have kn' := kn a xs rfl ea
      rw [j3p ea] at q e
      refine iteF ?_
      refine ⟨_, rfl, a, _, rfl, .inl (SqL.of ea), rfl, _, rfl, ?_⟩
      cases xs with
      | nil => exact iteT (fun y hy => e rfl H y (j15 H) hy)
      | cons x0 xt =>
        have e0 : decide (V.int (((x0 :: xt).length : Nat) : Int) = V.int 0) = false := decide_eq_false fun z => by
          injection z with z
          rw [List.length_cons] at z
          omega
        rw [e0]
        refine iteF (nxt ?_)
        dsimp only
        generalize hxs : x0 :: xt = xs at ea kn' q e
        have ne : xs.isEmpty = false := by rw [← hxs]; rfl
        rw [ne] at q e
        refine ⟨_, rfl, a, rfl, ⟨_, SqL.of ea⟩, j2u (K := K) (a := a) (xs := xs) (fun i σ H2 => ∃ v, σ = [some (.ref a), v] ∧ H2 = H ∧ (xs.take i).all shB = true) ⟨none, rfl, rfl, rfl⟩ (fun i σ H2 _ ⟨_, _, e, _⟩ => by rw [e]; exact SqL.of ea) ?_ ?_⟩
        · rintro i y σ H2 hi ⟨v, rfl, rfl, ha⟩
          intro D'
          have hm := List.mem_of_getElem? hi
          refine ⟨_, rfl, y, rfl, kn' y hm, _, rfl, ?_⟩
          cases hb : shB y with
          | false =>
            refine iteT ?_
            refine fun z hz => e ?_ H2 z (j15 H2) hz
            rw [Bool.not_false, Bool.true_and]
            refine Bool.eq_false_iff.mpr fun c => ?_
            rw [List.all_eq_true.mp c y hm] at hb
            cases hb
          | true =>
            refine iteF ⟨_, rfl, rfl, ?_⟩
            have tk : xs.take (i + 1) = xs.take i ++ [y] := by rw [List.take_succ, hi]; rfl
            rw [tk, List.all_append, ha, List.all_cons, hb]
            rfl
        · rintro σ H2 ⟨v, rfl, rfl, ha⟩
          rw [List.take_of_length_le (Nat.le_refl _)] at ha
          exact q (by rw [ha]; rfl)
    | @tup a xs ea =>
      have z : rowB H (.ref a) = false := by unfold rowB; simp only [ea]
      exact iteT (iteT fun y hy => e z H y (j15 H) hy)
    | @dK a xs ea =>
      have z : rowB H (.ref a) = false := by unfold rowB; simp only [ea]
      exact iteT (iteT fun y hy => e z H y (j15 H) hy)
    | _ => exact iteT (iteT fun y hy => e rfl H y (j15 H) hy)
abbrev s_ckamt : Stmt := tp 35
theorem j42 : FnScope ["amount"] ["amount"] (j08 s_ckamt) := ⟨rfl, rfl, rfl, by decide +kernel, rfl, by decide +kernel, by decide +kernel⟩
noncomputable def amB : V → Bool
  | .int n => decide (0 ≤ n) && decide (n ≤ 1000000000)
  | _ => false
noncomputable def spCkA (K : PySem.W.Frag) (CA : Addr) : Sp := fun vs H Q E => ∃ x, vs = [x] ∧ Known K H x ∧ (amB x = true → Q .non H) ∧ (amB x = false → Rs CA H E)
theorem ok_ckamt {f : Addr} {fd : FuncData} {tB : Tok} (F : Fun K "check_amount" "check_amount" s_ckamt f fd) (er : Er7 K mg CR CG CA CU CT CS) (g_MOST : mg "MOST" = some (.int 1000000000 tB)) (c_is_whole : Ok P w K mg base 1 "is_whole" ["value"] (j38 K)) : FnOk P w K mg base (CX2 P w) 2 f fd ["amount"] (spCkA K CA) := by
  refine okX2 F j42 (fun vs H Q E h => ?_) (fun cdv A outer s H vs Q E hr h => ?_)
  · obtain ⟨x, rfl, _⟩ := h
    rfl
  · obtain ⟨x, rfl, kn, q, e⟩ := h
    refine ⟨_, (j07 (j12 (PW.pt (j4k (j14 (j19 (j0c c_is_whole (hr.mono (by decide)) rfl (j00 (pv 0) j02)))) (j2m (j14 (pt_chain j7y j7y j04 (pv 0) (j0o (v := .int 1000000000) rfl g_MOST ⟨_, rfl⟩)))))) (j07 (j18 rfl er.gBadAmount er.xBadAmount rfl j2h)) j0i)), ?_⟩
    try dsimp only [cxOf]
    refine ⟨_, rfl, x, rfl, kn, _, rfl, ?_⟩
    cases x with
    | int n =>
      refine iteF ?_
      have q' : (decide (0 ≤ n) && decide (n ≤ 1000000000)) = true → Q .non H := q
      have e' : (decide (0 ≤ n) && decide (n ≤ 1000000000)) = false → Rs CA H E := e
      refine ⟨_, rfl, _, _, rfl, rfl, _, rfl, ?_⟩
      by_cases h0 : (0 : Int) ≤ n
      · rw [decide_eq_true h0] at q' e' ⊢
        refine ⟨_, _, rfl, rfl, _, rfl, ?_⟩
        by_cases h1 : n ≤ 1000000000
        · rw [decide_eq_true h1] at q' ⊢
          exact iteF (q' rfl)
        · rw [decide_eq_false h1] at e' ⊢
          exact iteT fun y hy => e' rfl H y (j15 H) hy
      · rw [decide_eq_false h0] at e' ⊢
        refine ⟨_, rfl, ?_⟩
        exact iteT fun y hy => e' rfl H y (j15 H) hy
    | _ => exact iteT (iteT fun y hy => e rfl H y (j15 H) hy)
noncomputable def j4i (K : PySem.W.Frag) (CR : Addr) : Sp := fun vs H _ E => ∃ x, vs = [x] ∧ j10 K H x ∧ rowB H x = false ∧ Rs CR H E
abbrev s_rsums : Stmt := tp 16
theorem j49 : FnScope ["row", "sums", "so_far", "share"] ["row"] (j08 s_rsums) := ⟨rfl, rfl, rfl, by decide +kernel, rfl, by decide +kernel, by decide +kernel⟩
theorem ok_rsums {f : Addr} {fd : FuncData} (F : Fun K "rising_sums" "rising_sums" s_rsums f fd) (c_check_row : OkY P w K mg base 3 "check_row" ["row"] (spCk K CR)) : FnOk P w K mg base (CX2 P w) 4 f fd ["row"] (j4i K CR) := by
  refine okX2 F j49 (fun vs H Q E h => ?_) (fun cdv A outer s H vs Q E hr h => ?_)
  · obtain ⟨x, rfl, _⟩ := h
    rfl
  · obtain ⟨x, rfl, kn, hb, e⟩ := h
    refine ⟨_, (j05 (j0r (j0b j0z c_check_row (hr.mono (by decide)) rfl (j00 (pv 0) j02)))
      j23), ?_⟩
    exact ⟨_, rfl, x, rfl, kn, fun z => (by rw [hb] at z; cases z), fun _ => e⟩
abbrev s_evn : Stmt := tp 20
theorem j7d : FnScope ["row", "whole", "low", "rest"] ["row"] (j08 s_evn) := ⟨rfl, rfl, rfl, by decide +kernel, rfl, by decide +kernel, by decide +kernel⟩
theorem ok_evn {f : Addr} {fd : FuncData} (F : Fun K "evenest" "evenest" s_evn f fd) (c_check_row : OkY P w K mg base 3 "check_row" ["row"] (spCk K CR)) : FnOk P w K mg base (CX2 P w) 4 f fd ["row"] (j4i K CR) := by
  refine okX2 F j7d (fun vs H Q E h => ?_) (fun cdv A outer s H vs Q E hr h => ?_)
  · obtain ⟨x, rfl, _⟩ := h
    rfl
  · obtain ⟨x, rfl, kn, hb, e⟩ := h
    refine ⟨_, (j05 (j0r (j0b j0z c_check_row (hr.mono (by decide)) rfl (j00 (pv 0) j02)))
      j23), ?_⟩
    exact ⟨_, rfl, x, rfl, kn, fun z => (by rw [hb] at z; cases z), fun _ => e⟩
abbrev s_written : Stmt := tp 42
theorem j7e : FnScope ["row"] ["row"] (j08 s_written) := ⟨rfl, rfl, rfl, by decide +kernel, rfl, by decide +kernel, by decide +kernel⟩
theorem j7f {f : Addr} {fd : FuncData} (F : Fun K "written" "written" s_written f fd) (c_check_row : OkY P w K mg base 3 "check_row" ["row"] (spCk K CR)) : FnOk P w K mg base (CX2 P w) 4 f fd ["row"] (j4i K CR) := by
  refine okX2 F j7e (fun vs H Q E h => ?_) (fun cdv A outer s H vs Q E hr h => ?_)
  · obtain ⟨x, rfl, _⟩ := h
    rfl
  · obtain ⟨x, rfl, kn, hb, e⟩ := h
    refine ⟨_, (j05 (j0r (j0b j0z c_check_row (hr.mono (by decide)) rfl (j00 (pv 0) j02)))
      j23), ?_⟩
    exact ⟨_, rfl, x, rfl, kn, fun z => (by rw [hb] at z; cases z), fun _ => e⟩
abbrev s_ckpair : Stmt := tp 27
theorem j50 : FnScope ["one", "other"] ["one", "other"] (j08 s_ckpair) := ⟨rfl, rfl, rfl, by decide +kernel, rfl, by decide +kernel, by decide +kernel⟩
noncomputable def lenV (H : Hp) : V → Nat
  | .ref p => (match H p with
    | some (.lst xs) => xs.length
    | _ => 0)
  | _ => 0
noncomputable def j9i (K : PySem.W.Frag) (CR CU : Addr) : Sp := fun vs H Q E => ∃ x y, vs = [x, y] ∧ j10 K H x ∧ j10 K H y ∧ ((rowB H x = false ∨ rowB H y = false) → Rs CR H E) ∧
  (rowB H x = true → rowB H y = true → lenV H x ≠ lenV H y → Rs CU H E) ∧ (rowB H x = true → rowB H y = true → lenV H x = lenV H y → Q .non H)
theorem row_is {H : Hp} {x : V} (h : rowB H x = true) : ∃ p xs, x = .ref p ∧ H p = some (.lst xs) ∧ xs ≠ [] ∧ xs.all shB = true := by
  cases x with
  | ref p =>
    cases e : H p with
    | none => unfold rowB at h; simp only [e] at h; cases h
    | some o =>
      cases o with
      | lst xs =>
        rw [j3p e, Bool.and_eq_true, Bool.not_eq_true'] at h
        refine ⟨p, xs, rfl, e, fun z => ?_, h.2⟩
        rw [z] at h
        cases h.1
      | _ => unfold rowB at h; simp only [e] at h; cases h
  | _ => cases h
theorem j9j {f : Addr} {fd : FuncData} (F : Fun K "check_pair" "check_pair" s_ckpair f fd) (B : Bl mg) (er : Er7 K mg CR CG CA CU CT CS) (c_check_row : OkY P w K mg base 3 "check_row" ["row"] (spCk K CR)) : FnOk P w K mg base (CX2 P w) 4 f fd ["one", "other"] (j9i K CR CU) := by
  refine okX2 F j50 (fun vs H Q E h => ?_) (fun cdv A outer s H vs Q E hr h => ?_)
  · obtain ⟨x, y, rfl, _⟩ := h
    rfl
  · obtain ⟨x, y, rfl, kx, ky, e1, e2, q⟩ := h
    refine ⟨_, (j05 (j0r (j0b j0z c_check_row (hr.mono (by decide)) rfl (j00 (pv 0) j02)))
      (j05 (j0r (j0b j0z c_check_row (hr.mono (by decide)) rfl (j00 (pv 1) j02)))
      (j07 (j12 (j0e op_ne (j0d j0n rfl B.len PySem.boot_len (j00 (pv 0) j02)) (j0d j0n rfl B.len PySem.boot_len (j00 (pv 1) j02)) (j0g _)) (j07 (j18 rfl er.gUnlike er.xUnlike rfl j2h)) j0i)))), ?_⟩
    try dsimp only [cxOf]
    refine ⟨_, rfl, x, rfl, kx, fun hx => ?_, fun hx => e1 (.inl hx)⟩
    refine ⟨_, rfl, y, rfl, ky, fun hy => ?_, fun hy => e1 (.inr hy)⟩
    obtain ⟨p, xs, rfl, hp, _⟩ := row_is hx
    obtain ⟨p', ys, rfl, hp', _⟩ := row_is hy
    refine ⟨_, rfl, p, _, rfl, .inl (SqL.of hp), _, rfl, p', _, rfl, .inl (SqL.of hp'), rfl, _, rfl, ?_⟩
    have l1 : lenV H (.ref p) = xs.length := by unfold lenV; simp only [hp]
    have l2 : lenV H (.ref p') = ys.length := by unfold lenV; simp only [hp']
    refine ite2 (fun h => ?_) (fun h => ?_)
    · refine fun z hz => e2 hx hy ?_ H z (j15 H) hz
      rw [l1, l2]
      intro c
      simp [c] at h
    · refine q hx hy ?_
      rw [l1, l2]
      simp at h
      omega
abbrev s_cmp : Stmt := tp 31
theorem j66 : FnScope ["one", "other", "many"] ["one", "other"] (j08 s_cmp) := ⟨rfl, rfl, rfl, by decide +kernel, rfl, by decide +kernel, by decide +kernel⟩
noncomputable def j7g (K : PySem.W.Frag) (CR CU : Addr) : Sp := fun vs H _ E => ∃ x y, vs = [x, y] ∧ j10 K H x ∧ j10 K H y ∧ (((rowB H x = false ∨ rowB H y = false) ∧ Rs CR H E) ∨ (rowB H x = true ∧ rowB H y = true ∧ lenV H x ≠ lenV H y ∧ Rs CU H E))
theorem ok_cmp {f : Addr} {fd : FuncData} (F : Fun K "compared" "compared" s_cmp f fd) (c_check_pair : OkY P w K mg base 4 "check_pair" ["one", "other"] (j9i K CR CU)) : FnOk P w K mg base (CX2 P w) 5 f fd ["one", "other"] (j7g K CR CU) := by
  refine okX2 F j66 (fun vs H Q E h => ?_) (fun cdv A outer s H vs Q E hr h => ?_)
  · obtain ⟨x, y, rfl, _⟩ := h
    rfl
  · obtain ⟨x, y, rfl, kx, ky, h⟩ := h
    refine ⟨_, (j05 (j0r (j0b j0z c_check_pair (hr.mono (by decide)) rfl (j00 (pv 0) (j00 (pv 1) j02))))
      j23), ?_⟩
    try dsimp only [cxOf]
    refine ⟨_, rfl, _, rfl, x, y, rfl, kx, ky, ?_⟩
    rcases h with ⟨h, e⟩ | ⟨h1, h2, h3, e⟩
    · refine ⟨fun _ => e, fun z1 z2 => ?_, fun z1 z2 => ?_⟩ <;> (rcases h with h | h <;> (first | (rw [z1] at h; cases h) | (rw [z2] at h; cases h)))
    · refine ⟨fun z => ?_, fun _ _ _ => e, fun _ _ z => absurd z h3⟩
      rcases z with z | z
      · rw [h1] at z; cases z
      · rw [h2] at z; cases z
abbrev s_und : Stmt := tp 32
theorem sc_under : FnScope ["one", "other", "row", "so_far", "first", "second"] ["one", "other"] (j08 s_und) := ⟨rfl, rfl, rfl, by decide +kernel, rfl, by decide +kernel, by decide +kernel⟩
noncomputable def j67 (K : PySem.W.Frag) (CR CU : Addr) : Sp := fun vs H _ E => ∃ x y, vs = [x, y] ∧ j10 K H x ∧ j10 K H y ∧ (((rowB H x = false ∨ rowB H y = false) ∧ Rs CR H E) ∨ (rowB H x = true ∧ rowB H y = true ∧ lenV H x ≠ lenV H y ∧ Rs CU H E) ∨
  (∃ p q rs ts, x = .ref p ∧ y = .ref q ∧ H p = some (.lst (iV rs)) ∧ H q = some (.lst (iV ts)) ∧ rowB H x = true ∧ rowB H y = true ∧ rs.length = ts.length ∧ rs.length ≤ 1000 ∧ Bd 1000000 rs ∧ Bd 1000000 ts ∧ rs.sum ≠ ts.sum ∧ Rs CU H E))
theorem ok_und {f : Addr} {fd : FuncData} (F : Fun K "under" "under" s_und f fd) (B : Bl mg) (er : Er7 K mg CR CG CA CU CT CS) (c_check_pair : OkY P w K mg base 4 "check_pair" ["one", "other"] (j9i K CR CU)) : FnOk P w K mg base (CX2 P w) 5 f fd ["one", "other"] (j67 K CR CU) := by
  refine okX2 F sc_under (fun vs H Q E h => ?_) (fun cdv A outer s H vs Q E hr h => ?_)
  · obtain ⟨x, y, rfl, _⟩ := h
    rfl
  · obtain ⟨x, y, rfl, kx, ky, h⟩ := h
    refine ⟨_, (j05 (j0r (j0b j0z c_check_pair (hr.mono (by decide)) rfl (j00 (pv 0) (j00 (pv 1) j02))))
      (j05 (j12 (j0e op_ne (j0d (j3n rfl) rfl B.sum j3o (j00 (pv 0) j02)) (j0d (j3n rfl) rfl B.sum j3o (j00 (pv 1) j02)) (j0g _)) (j07 (j18 rfl er.gUnlike er.xUnlike rfl j2h)) j0i)
      j23)), ?_⟩
    try dsimp only [cxOf]
    refine ⟨_, rfl, _, rfl, x, y, rfl, kx, ky, ?_⟩
    rcases h with ⟨h, e⟩ | ⟨h1, h2, h3, e⟩ | ⟨p, q, rs, ts, rfl, rfl, hp, hq, h1, h2, hl, h4, b1, b2, hs, e⟩
    · refine ⟨fun _ => e, fun z1 z2 => ?_, fun z1 z2 => ?_⟩ <;> (rcases h with h | h <;> (first | (rw [z1] at h; cases h) | (rw [z2] at h; cases h)))
    · refine ⟨fun z => ?_, fun _ _ _ => e, fun _ _ z => absurd z h3⟩
      rcases z with z | z
      · rw [h1] at z; cases z
      · rw [h2] at z; cases z
    · have l1 : lenV H (.ref p) = rs.length := by unfold lenV; simp only [hp, j0w]
      have l2 : lenV H (.ref q) = ts.length := by unfold lenV; simp only [hq, j0w]
      refine ⟨fun z => ?_, fun _ _ z => absurd (by rw [l1, l2]; exact hl) z, fun _ _ _ => ?_⟩
      · rcases z with z | z
        · rw [h1] at z; cases z
        · rw [h2] at z; cases z
      · refine ⟨_, rfl, p, _, rfl, SqL.of hp, _, rfl, q, _, rfl, SqL.of hq, rfl, _, rfl, ?_⟩
        have e0 : decide (V.int rs.sum = V.int ts.sum) = false := decide_eq_false fun z => hs (V.int.inj z)
        rw [e0]
        exact iteT fun z hz => e H z (j15 H) hz
end
end My
end
noncomputable section
namespace My
open PySem L2 L3
theorem cb1 {R : List V → Hp → VK → Prop} {te : TE} {σ : L2.St} {H : Hp} {Q : VK} (h : te σ H fun x H1 => R [x] H1 Q) : tCB R (j06 te tNil) σ H Q := h
theorem cset {i : Nat} {v : V} {U : TS} {D : Ends} {σ : L2.St} {H : Hp} (h : U D (σ.set i (some v)) H) : tSeq (tAsg (tC v) (j47 i)) U D σ H := h
theorem fm_abv (L : Int) : ∀ rs : List Int, (rs.filterMap fun n => if L < n then some (n - L) else none).sum = abv rs L
  | [] => rfl
  | x :: t => by
    rw [j4u, List.filterMap_cons, ← fm_abv L t]
    unfold ab1
    by_cases h : L < x
    · rw [if_pos h, if_pos h, List.sum_cons]
    · rw [if_neg h, if_neg h, Int.zero_add]
noncomputable def rstL (L r : Int) (l : List Int) : Int := if cn L l < r then r - cn L l else 0
section
variable {P : Program} {w : World} {K : PySem.W.Frag} {mg : Str → Option Value} {base : Heap} {CR CG CA CU CT CS : Addr}
abbrev s_lvl : Stmt := tp 36
theorem j0s : FnScope ["row", "amount", "together", "many", "share"] ["row", "amount"] (j08 s_lvl) := ⟨rfl, rfl, rfl, by decide +kernel, rfl, by decide +kernel, by decide +kernel⟩
noncomputable def spLvl : Sp := fun vs H Q _ => ∃ (p : Addr) (rs : List Int) (a : Int), vs = [.ref p, .int a] ∧ H p = some (.lst (iV rs)) ∧ rs ≠ [] ∧ rs.length ≤ 1000 ∧ 0 ≤ a ∧ ∀ (L : Int) (H' : Hp), abv rs L ≤ a → a < abv rs (L - 1) → Same H H' → Q (.int L) H'
theorem ok_lvl {f : Addr} {fd : FuncData} (F : Fun K "level_behind" "level_behind" s_lvl f fd) (B : Bl mg) : FnOk P w K mg base CX0 1 f fd ["row", "amount"] spLvl := by
  refine F.ok j0s (fun vs H Q E h => ?_) (fun cdv A outer s H vs Q E hr h => ?_)
  · obtain ⟨p, rs, a, rfl, _⟩ := h
    rfl
  · obtain ⟨p, rs, a, rfl, hp, hne, hl, h0, k⟩ := h
    refine ⟨_, (j05 (j13 (i := 2) j0s.nd rfl (Or.inl rfl) j04)
      (j05 (j13 (i := 3) j0s.nd rfl (Or.inl rfl) j04)
      (j05 (j3a PassesOwn.never rfl (j1v (j71 rfl B.sorted (j00 (pv 0) j02))) (j24 (i := 4) j0s.nd rfl (Or.inl rfl))
      (j05 (j12 (j0e j7z (j0p j2f (pv 2) (j0p j6d (pv 3) (pv 4))) (pv 1) (j0g _)) (j07 ps_break) j0i)
      (j05 (j6b (i := 2) j0s.nd rfl (Or.inl rfl) (pv 4) j7p)
      (j07 (j6b (i := 3) j0s.nd rfl (Or.inl rfl) j04 j7p)))))
      (j07 (j0h (j32 j1q (j0p j7u (j0p j2f (pv 1) (pv 2)) (pv 3)))))))), ?_⟩
    have np : 1 ≤ rs.length := by cases rs with | nil => exact absurd rfl hne | cons _ _ => simp
    generalize hw : (srt rs).reverse = w
    have wl : w.length = rs.length := by rw [← hw]; exact j6l rs
    have tw : ∀ m, m ≤ rs.length → (w.take m).sum = top m rs := fun m hm => by rw [← hw]; exact j8m hm
    refine cset (cset ?_)
    refine j5m (fun σ' H' => ∃ (m : Nat) (v : Option V), σ' = [some (.ref p), some (.int a), some (.int (top m rs)), some (.int m), v] ∧ 1 ≤ m ∧ m ≤ rs.length ∧ top m rs - m * (w.getD (m - 1) 0) ≤ a ∧ (m < rs.length → a < top m rs - m * (w.getD m 0)) ∧ Same H H') ?_ ?_
    · intro N hN D'
      refine ⟨_, rfl, p, rs, rfl, SqL.of hp, fun l hl2 => ?_⟩
      rw [if_pos rfl, hw]
      have s2 := j1n (o := .lst (iV w)) hl2
      refine ⟨l, rfl, ⟨_, SqL.of j01⟩, j2u (K := K) (a := l) (xs := iV w) (fun i σ H2 => ∃ v, σ = [some (.ref p), some (.int a), some (.int ((w.take i).sum)), some (.int i), v] ∧ H2 = upd H l (.lst (iV w)) ∧ (1 ≤ i → top i rs - i * (w.getD (i - 1) 0) ≤ a)) ⟨none, rfl, rfl, fun z => absurd z (by decide)⟩ (fun i σ H2 _ ⟨_, _, e, _⟩ => by rw [e]; exact SqL.of j01) ?_ ?_⟩
      · rintro i y σ H2 hi ⟨v, rfl, rfl, hin⟩
        intro D'
        obtain ⟨n, hn, rfl⟩ := j8z hi
        have hiw : i < w.length := (List.getElem?_eq_some_iff.mp hn).1
        have gd : w.getD i 0 = n := by rw [List.getD_eq_getElem?_getD, hn]; rfl
        refine ⟨_, rfl, _, rfl, _, rfl, _, _, rfl, rfl, .inl ⟨by omega, by omega⟩, _, _, rfl, rfl, _, rfl, _, _, rfl, rfl, _, rfl, ?_⟩
        refine ite2 (fun h1 => ?_) (fun h1 => ?_)
        · rw [decide_eq_true_eq] at h1
          have i1 : 1 ≤ i := by
            by_cases z : i = 0
            · subst z; simp at h1; omega
            · omega
          refine hN _ _ ⟨i, some (.int n), ?_, i1, by omega, hin i1, fun _ => ?_, s2⟩
          · rw [tw i (by omega)]; rfl
          · rw [← tw i (by omega), gd]; exact h1
        · rw [decide_eq_true_eq] at h1
          refine ⟨_, rfl, _, rfl, _, _, rfl, rfl, ?_⟩
          refine ⟨_, rfl, _, _, rfl, rfl, ?_⟩
          refine ⟨some (.int n), ?_, rfl, fun _ => ?_⟩
          · rw [j37 hn, List.sum_append]
            simp
          · rw [← tw (i + 1) (by omega), j37 hn, List.sum_append, Nat.add_sub_cancel, gd]
            simp only [List.sum_cons, List.sum_nil, Int.add_zero, Int.natCast_add, Int.natCast_one]
            rw [Int.add_mul, Int.one_mul]
            omega
      · rintro σ H2 ⟨v, rfl, rfl, hin⟩
        rw [j0w, wl] at hin ⊢
        refine hN _ _ ⟨rs.length, v, ?_, np, Nat.le_refl _, hin np, fun z => absurd z (Nat.lt_irrefl _), s2⟩
        rw [tw _ (Nat.le_refl _)]
    · rintro σ' H' ⟨m, v, rfl, h1, hm, hin, hout, s1⟩
      refine ⟨_, rfl, _, rfl, _, _, rfl, rfl, _, rfl, _, _, rfl, rfl, ⟨by omega, by omega⟩, _, rfl, ?_⟩
      subst hw
      have := level_ok h1 hm hin hout
      exact k _ _ this.1 this.2 s1
abbrev s_turned : Stmt := tp 38
theorem j9k : FnScope ["row"] ["row"] (j08 s_turned) := ⟨rfl, rfl, rfl, by decide +kernel, rfl, by decide +kernel, by decide +kernel⟩
noncomputable def spTurn : Sp := fun vs H Q _ => ∃ (p : Addr) (rs : List Int), vs = [.ref p] ∧ H p = some (.lst (iV rs)) ∧ rs.length ≤ 1000 ∧ ∀ q, H q = none → Q (.ref q) (upd H q (.lst (iV (rs.map Int.neg))))
theorem j9l {f : Addr} {fd : FuncData} (F : Fun K "turned" "turned" s_turned f fd) : FnOk P w K mg base CX0 1 f fd ["row"] spTurn := by
  refine F.ok j9k (fun vs H Q E h => ?_) (fun cdv A outer s H vs Q E hr h => ?_)
  · obtain ⟨p, rs, rfl, _⟩ := h
    rfl
  · obtain ⟨p, rs, rfl, hp, hl, k⟩ := h
    refine ⟨_, (j07 (j0h (j4w rfl rfl (j2v (sc0 := j08 s_turned) (N := ["row"]) (caps := []) (idx := []) rfl rfl (by decide +kernel)) (j1v (pv 0)) (fun _ _ _ _ _ => j8p) (fun _ _ _ _ _ => (j32 j1q (pv 0)))))), ?_⟩
    refine j61 (a := p) (fun n => some (.int (Int.neg n))) (fun R r => ⟨_, rfl, r⟩) (SqL.of hp) hl (fun n _ H' R r => r) (fun n _ v e H' R r => ?_) (fun D hD => ?_)
    · cases e
      exact ⟨_, rfl, _, rfl, r⟩
    · rw [fm_some]
      exact k D hD
abbrev s_lowd : Stmt := tp 37
theorem j11 : FnScope ["row", "amount", "level", "rest", "behind", "share", "left"] ["row", "amount"] (j08 s_lowd) := ⟨rfl, rfl, rfl, by decide +kernel, rfl, by decide +kernel, by decide +kernel⟩
noncomputable def j9m (CA : Addr) : Sp := fun vs H Q E => ∃ (p : Addr) (rs : List Int) (a : Int), vs = [.ref p, .int a] ∧ H p = some (.lst (iV rs)) ∧ rs ≠ [] ∧ rs.length ≤ 1000 ∧ 0 ≤ a ∧
  (∀ (out : List Int) (q : Addr) (H' : Hp), Low rs a out → (∀ y ∈ out, -1000000 ≤ y) → H q = none → H' q = some (.lst (iV out)) → Same H H' → Q (.ref q) H') ∧ (∀ out, Low rs a out → (∃ y ∈ out, y < -1000000) → Rs CA H E)
theorem ok_lowd {f : Addr} {fd : FuncData} {tB : Tok} (F : Fun K "lowered" "lowered" s_lowd f fd) (B : Bl mg) (er : Er7 K mg CR CG CA CU CT CS) (g_BOUND : mg "BOUND" = some (.int 1000000 tB)) (c_level_behind : Ok P w K mg base 1 "level_behind" ["row", "amount"] spLvl) : FnOk P w K mg base (CX2 P w) 2 f fd ["row", "amount"] (j9m CA) := by
  refine okX2 F j11 (fun vs H Q E h => ?_) (fun cdv A outer s H vs Q E hr h => ?_)
  · obtain ⟨p, rs, a, rfl, _⟩ := h
    rfl
  · obtain ⟨p, rs, a, rfl, hp, hne, hl, h0, k, er2⟩ := h
    refine ⟨_, (j05 (j13 (i := 2) j11.nd rfl (Or.inr rfl) (j0c c_level_behind (hr.mono (by decide)) rfl (j00 (pv 0) (j00 (pv 1) j02))))
      (j05 (j13 (i := 3) j11.nd rfl (Or.inl rfl) (j0p j2f (pv 1) (j0d (j3n rfl) rfl B.sum j3o (j00 (PE.nox (j4w rfl rfl (j2v (sc0 := j08 s_lowd) (N := ["row", "amount", "level", "rest", "behind", "share", "left"]) (caps := ["level"]) (idx := [2]) rfl rfl (by decide +kernel)) (j1v (pv 0)) (fun _ _ _ _ _ => (j8q (j0e j7z (pv 0) (pv 1) (j0g _)))) (fun _ _ _ _ _ => (j0p j2f (pv 0) (pv 1))))) j02))))
      (j05 (j13 (i := 4) j11.nd rfl (Or.inl rfl) (j0a j02))
      (j05 (j3a own2 rfl (j1v (pv 0)) (j24 (i := 5) j11.nd rfl (Or.inl rfl))
      (j05 (j13 (i := 6) j11.nd rfl (Or.inl rfl) (j0d (j81 rfl) rfl B.min j6q (j00 (pv 5) (j00 (pv 2) j02))))
      (j05 (j12 (PW.pt (pw_and (j0e j2e (pv 6) (pv 2) (j0g _)) (pw_and1 (j0e j7z (pv 3) j04 (j0g _))))) (j05 (j6b (i := 6) j11.nd rfl (Or.inl rfl) j04 j7q)
      (j07 (j6b (i := 3) j11.nd rfl (Or.inl rfl) j04 j7q))) j0i)
      (j07 (j0r (j87 PySem.F.plainAttrs_list PySem.F.slot_list_append PySem.F.type_list_append j1s (pv 4) (j00 (pv 6) j02)))))))
      (j05 (j12 (j0e j6y (j0d (j8u rfl) rfl B.min j6q (j00 (pv 4) j02)) (j32 j1q (j0o (v := .int 1000000) rfl g_BOUND ⟨_, rfl⟩)) (j0g _)) (j07 (j18 rfl er.gBadAmount er.xBadAmount rfl j2h)) j0i)
      (j07 (j0h (pv 4)))))))), ?_⟩
    refine ⟨_, rfl, _, rfl, p, rs, a, rfl, hp, hne, hl, h0, fun L H1 hlo hhi s1 => ?_⟩
    have hp1 := s1 _ _ hp
    refine ⟨_, rfl, ?_⟩
    refine cb1 ?_
    refine j61 (a := p) (fun n => (if L < n then some (n - L) else none : Option Int).map V.int) (fun R r => ⟨_, rfl, r⟩) (SqL.of hp1) hl (fun n _ H' R r => ?_) (fun n _ v e H' R r => ?_) (fun D hD => ?_)
    · refine ⟨_, rfl, _, rfl, _, _, rfl, rfl, _, rfl, ?_⟩
      by_cases h : L < n
      · rw [if_pos h] at r
        rw [decide_eq_true h]
        exact r
      · rw [if_neg h] at r
        rw [decide_eq_false h]
        exact r
    · by_cases h : L < n
      · rw [if_pos h] at e
        cases e
        exact ⟨_, rfl, _, rfl, _, _, rfl, rfl, r⟩
      · rw [if_neg h] at e
        cases e
    rw [j91]
    have s2 := s1.trans (j1n (o := .lst (iV (rs.filterMap fun n => if L < n then some (n - L) else none))) hD)
    refine ⟨D, _, rfl, SqL.of j01, _, _, rfl, rfl, ?_⟩
    rw [fm_abv]
    refine gN ?_
    dsimp only
    generalize hH2 : upd H1 D (.lst (iV (rs.filterMap fun n => if L < n then some (n - L) else none))) = H2 at s2
    generalize hr' : a - abv rs L = r
    have r0 : 0 ≤ r := by omega
    refine ⟨Nat.zero_le _, fun b hb => ?_⟩
    refine gN ?_
    dsimp only
    have hb0 : H b = none := s2.free hb
    have low : Low rs a (cutL L r rs) := ⟨L, hlo, hhi, by rw [hr']⟩
    have ol := j3m L rs r
    refine j5m (fun σ' H' => ∃ v3 v5 v6, σ' = [some (.ref p), some (.int a), some (.int L), v3, some (.ref b), v5, v6] ∧ Same H H' ∧ H' b = some (.lst (iV (cutL L r rs)))) ?_ ?_
    · intro N hN D'
      refine ⟨_, rfl, p, rfl, ⟨_, SqL.of ((j1x s2 hb0) _ _ hp)⟩, j6c (K := K) (a := p) (xs := iV rs) (fun i σ H3 => ∃ v5 v6, σ = [some (.ref p), some (.int a), some (.int L), some (.int (rstL L r (rs.take i))), some (.ref b), v5, v6] ∧ Same H H3 ∧ H3 b = some (.lst (iV ((cutL L r rs).take i)))) ⟨none, none, ?_, j1x s2 hb0, j01⟩ (fun i σ H3 _ ⟨_, _, _, e, _⟩ => SqL.of (e _ _ hp)) ?_ ?_⟩
      · unfold rstL
        rw [List.take_zero]
        show _ = [_, _, _, some (V.int (if (0 : Int) < r then r - 0 else 0)), _, _, _]
        have : (if (0 : Int) < r then r - 0 else 0) = r := by split <;> omega
        rw [this]
        rfl
      · rintro i y σ H3 hi ⟨v5, v6, rfl, s3, h3⟩
        obtain ⟨x, hx, rfl⟩ := j8z hi
        have hil : i < rs.length := (List.getElem?_eq_some_iff.mp hx).1
        have hy := j4v L rs r i x hx
        generalize hyy : (if L ≤ x then (if cn L (rs.take i) < r then L - 1 else L) else x) = y at hy
        have hc := cn_nn L (rs.take i)
        have rn : rstL L r (rs.take (i + 1)) = if L ≤ x then (if cn L (rs.take i) < r then rstL L r (rs.take i) - 1 else rstL L r (rs.take i)) else rstL L r (rs.take i) := by
          unfold rstL
          rw [j37 hx, j8o]
          by_cases c1 : L ≤ x
          · rw [if_pos c1, if_pos c1]
            by_cases c2 : cn L (rs.take i) < r
            · rw [if_pos c2, if_pos c2]; split <;> omega
            · rw [if_neg c2, if_neg c2, if_neg (by omega)]
          · rw [if_neg c1, if_neg c1, Int.add_zero]
        refine ⟨_, rfl, _, rfl, _, _, rfl, ?_⟩
        refine gN ?_
        dsimp only
        refine seq_join (fun σ' H' => σ' = [some (.ref p), some (.int a), some (.int L), some (.int (rstL L r (rs.take (i + 1)))), some (.ref b), some (.int x), some (.int y)] ∧ H' = H3) (fun N2 hN2 => ?_) ?_
        · refine ⟨_, rfl, _, rfl, rfl, _, rfl, ?_⟩
          by_cases c1 : L ≤ x
          · have e1 : (if L < x then L else x) = L := by split <;> omega
            rw [if_pos c1] at hyy rn
            rw [e1, decide_eq_true rfl]
            refine iteT ?_
            refine ⟨_, rfl, _, _, rfl, rfl, _, rfl, ?_⟩
            by_cases c2 : cn L (rs.take i) < r
            · rw [if_pos c2] at hyy rn
              have e2 : rstL L r (rs.take i) > 0 := by unfold rstL; rw [if_pos c2]; omega
              rw [decide_eq_true e2]
              refine iteT ?_
              refine ⟨_, rfl, _, _, rfl, rfl, ?_⟩
              refine ⟨_, rfl, _, _, rfl, rfl, ?_⟩
              refine hN2 _ _ ⟨?_, rfl⟩
              rw [rn, ← hyy]
              rfl
            · rw [if_neg c2] at hyy rn
              have e2 : ¬ rstL L r (rs.take i) > 0 := by unfold rstL; rw [if_neg c2]; omega
              rw [decide_eq_false e2]
              refine iteF (hN2 _ _ ⟨?_, rfl⟩)
              rw [rn, ← hyy]
              rfl
          · have e1 : (if L < x then L else x) = x := by split <;> omega
            rw [if_neg c1] at hyy rn
            have e2 : decide (V.int x = V.int L) = false := decide_eq_false fun z => by injection z with z; omega
            rw [e1, e2]
            refine iteF (hN2 _ _ ⟨?_, rfl⟩)
            rw [rn, ← hyy]
            rfl
        · rintro σ' H' ⟨rfl, rfl⟩
          refine ⟨_, rfl, .inl ⟨rfl, _, SqL.of h3⟩, _, rfl, b, _, _, rfl, rfl, h3, ?_, ?_⟩
          · rw [j0w, List.length_take]; exact j1l (by omega)
          · rw [iV_sn, ← j37 hy]
            refine ⟨_, _, rfl, fun c o e => ?_, j01⟩
            rw [j0q (j0m e hb0)]; exact s3 _ _ e
      · rintro σ H3 ⟨v5, v6, rfl, s3, h3⟩
        rw [j0w, ← ol, List.take_of_length_le (Nat.le_refl _)] at h3
        exact hN _ _ ⟨_, _, _, rfl, s3, h3⟩
    · rintro σ' H' ⟨v3, v5, v6, rfl, s3, h3⟩
      have on : cutL L r rs ≠ [] := fun z => by rw [z] at ol; exact hne (List.length_eq_zero_iff.mp ol.symm)
      refine ⟨_, rfl, b, _, rfl, SqL.of h3, on, fun M hM hmin => ?_⟩
      refine ⟨_, rfl, _, _, rfl, rfl, _, rfl, ?_⟩
      by_cases hc : M < -1000000
      · rw [decide_eq_true hc]
        exact iteT fun z hz => er2 _ low ⟨M, hM, hc⟩ _ z s3 hz
      · rw [decide_eq_false hc]
        refine iteF ?_
        refine ⟨_, rfl, k _ b _ low (fun y hy => ?_) hb0 h3 s3⟩
        have := hmin y hy
        omega
theorem j0u {H : Hp} {p : Addr} {rs : List Int} (hp : H p = some (.lst (iV rs))) (hne : rs ≠ []) (hb : Bd 1000000 rs) : rowB H (.ref p) = true := by
  rw [j3p hp, Bool.and_eq_true]
  constructor
  · cases rs with
    | nil => exact absurd rfl hne
    | cons _ _ => rfl
  · rw [List.all_eq_true]
    intro x hx
    obtain ⟨n, hn, rfl⟩ := List.mem_map.mp hx
    have := hb n hn
    show (decide (-1000000 ≤ n) && decide (n ≤ 1000000)) = true
    rw [decide_eq_true this.1, decide_eq_true this.2]
    rfl
abbrev s_taken : Stmt := tp 39
theorem sc_taken : FnScope ["row", "amount"] ["row", "amount"] (j08 s_taken) := ⟨rfl, rfl, rfl, by decide +kernel, rfl, by decide +kernel, by decide +kernel⟩
noncomputable def j4j (K : PySem.W.Frag) (CR CA : Addr) : Sp := fun vs H Q E => ∃ x y, vs = [x, y] ∧ j10 K H x ∧ Known K H y ∧ ((rowB H x = false ∧ Rs CR H E) ∨ (rowB H x = true ∧ amB y = false ∧ Rs CA H E) ∨
  ∃ (p : Addr) (rs : List Int) (a : Int), x = .ref p ∧ y = .int a ∧ H p = some (.lst (iV rs)) ∧ rs ≠ [] ∧ rs.length ≤ 1000 ∧ Bd 1000000 rs ∧ amB y = true ∧
  (∀ (out : List Int) (q : Addr) (H' : Hp), Low rs a out → (∀ y ∈ out, -1000000 ≤ y) → H q = none → H' q = some (.lst (iV out)) → Same H H' → Q (.ref q) H') ∧ (∀ out, Low rs a out → (∃ y ∈ out, y < -1000000) → Rs CA H E))
theorem amB_nn {a : Int} (h : amB (.int a) = true) : 0 ≤ a := by
  have h' : (decide (0 ≤ a) && decide (a ≤ 1000000000)) = true := h
  rw [Bool.and_eq_true] at h'
  exact of_decide_eq_true h'.1
theorem ok_taken {f : Addr} {fd : FuncData} (F : Fun K "taken" "taken" s_taken f fd) (c_check_row : OkY P w K mg base 3 "check_row" ["row"] (spCk K CR)) (c_check_amount : OkY P w K mg base 2 "check_amount" ["amount"] (spCkA K CA)) (c_lowered : OkY P w K mg base 2 "lowered" ["row", "amount"] (j9m CA)) : FnOk P w K mg base (CX2 P w) 4 f fd ["row", "amount"] (j4j K CR CA) := by
  refine okX2 F sc_taken (fun vs H Q E h => ?_) (fun cdv A outer s H vs Q E hr h => ?_)
  · obtain ⟨x, y, rfl, _⟩ := h
    rfl
  · obtain ⟨x, y, rfl, kx, ky, h⟩ := h
    refine ⟨_, (j05 (j0r (j0b j0z c_check_row (hr.mono (by decide)) rfl (j00 (pv 0) j02)))
      (j05 (j0r (j0b j0z c_check_amount (hr.mono (by decide)) rfl (j00 (pv 1) j02)))
      (j07 (j0h (j0b j0z c_lowered (hr.mono (by decide)) rfl (j00 (pv 0) (j00 (pv 1) j02))))))), ?_⟩
    refine ⟨_, rfl, x, rfl, kx, fun h1 => ?_, fun h1 => ?_⟩
    · refine ⟨_, rfl, y, rfl, ky, fun h2 => ?_, fun h2 => ?_⟩
      · rcases h with ⟨z, _⟩ | ⟨_, z, _⟩ | ⟨p, rs, a, rfl, rfl, hp, hne, hl, hb, ha, k, e⟩
        · rw [h1] at z; cases z
        · rw [h2] at z; cases z
        · exact ⟨_, rfl, _, rfl, p, rs, a, rfl, hp, hne, hl, amB_nn ha, k, e⟩
      · rcases h with ⟨z, _⟩ | ⟨_, _, e⟩ | ⟨p, rs, a, rfl, rfl, hp, hne, hl, hb, ha, k, e⟩
        · rw [h1] at z; cases z
        · exact e
        · rw [h2] at ha; cases ha
    · rcases h with ⟨_, e⟩ | ⟨z, _⟩ | ⟨p, rs, a, rfl, rfl, hp, hne, hl, hb, ha, k, e⟩
      · exact e
      · rw [h1] at z; cases z
      · rw [j0u hp hne hb] at h1; cases h1
abbrev s_poured : Stmt := tp 40
theorem j9n : FnScope ["row", "amount"] ["row", "amount"] (j08 s_poured) := ⟨rfl, rfl, rfl, by decide +kernel, rfl, by decide +kernel, by decide +kernel⟩
noncomputable def j6t (K : PySem.W.Frag) (CR CA : Addr) : Sp := fun vs H Q E => ∃ x y, vs = [x, y] ∧ j10 K H x ∧ Known K H y ∧ ((rowB H x = false ∧ Rs CR H E) ∨ (rowB H x = true ∧ amB y = false ∧ Rs CA H E) ∨
  ∃ (p : Addr) (rs : List Int) (a : Int), x = .ref p ∧ y = .int a ∧ H p = some (.lst (iV rs)) ∧ rs ≠ [] ∧ rs.length ≤ 1000 ∧ Bd 1000000 rs ∧ amB y = true ∧
  (∀ (out : List Int) (q : Addr) (H' : Hp), Low (rs.map Int.neg) a out → (∀ y ∈ out, -1000000 ≤ y) → H q = none → H' q = some (.lst (iV (out.map Int.neg))) → Same H H' → Q (.ref q) H') ∧ (∀ out, Low (rs.map Int.neg) a out → (∃ y ∈ out, y < -1000000) → Rs CA H E))
theorem j9o {f : Addr} {fd : FuncData} (F : Fun K "poured" "poured" s_poured f fd) (c_check_row : OkY P w K mg base 3 "check_row" ["row"] (spCk K CR)) (c_check_amount : OkY P w K mg base 2 "check_amount" ["amount"] (spCkA K CA)) (c_lowered : OkY P w K mg base 2 "lowered" ["row", "amount"] (j9m CA)) (c_turned : Ok P w K mg base 1 "turned" ["row"] spTurn) : FnOk P w K mg base (CX2 P w) 4 f fd ["row", "amount"] (j6t K CR CA) := by
  refine okX2 F j9n (fun vs H Q E h => ?_) (fun cdv A outer s H vs Q E hr h => ?_)
  · obtain ⟨x, y, rfl, _⟩ := h
    rfl
  · obtain ⟨x, y, rfl, kx, ky, h⟩ := h
    refine ⟨_, (j05 (j0r (j0b j0z c_check_row (hr.mono (by decide)) rfl (j00 (pv 0) j02)))
      (j05 (j0r (j0b j0z c_check_amount (hr.mono (by decide)) rfl (j00 (pv 1) j02)))
      (j07 (j0h (j0c c_turned (hr.mono (by decide)) rfl (j00 (j0b j0z c_lowered (hr.mono (by decide)) rfl (j00 (j0c c_turned (hr.mono (by decide)) rfl (j00 (pv 0) j02)) (j00 (pv 1) j02))) j02)))))), ?_⟩
    refine ⟨_, rfl, x, rfl, kx, fun h1 => ?_, fun h1 => ?_⟩
    · refine ⟨_, rfl, y, rfl, ky, fun h2 => ?_, fun h2 => ?_⟩
      · rcases h with ⟨z, _⟩ | ⟨_, z, _⟩ | ⟨p, rs, a, rfl, rfl, hp, hne, hl, hb, ha, k, e⟩
        · rw [h1] at z; cases z
        · rw [h2] at z; cases z
        · refine ⟨_, rfl, p, rs, rfl, hp, hl, fun q1 hq1 => ?_⟩
          have s1 := j1n (o := .lst (iV (rs.map Int.neg))) hq1
          refine ⟨_, rfl, q1, rs.map Int.neg, a, rfl, j01, fun z => hne (List.map_eq_nil_iff.mp z), by rw [List.length_map]; exact hl, amB_nn ha, fun out q2 H2 low hge hq2 h2 s2 => ?_, fun out low hlt H2 z s2 hz => e out low hlt H2 z (s1.trans s2) hz⟩
          refine ⟨q2, out, rfl, h2, by rw [low.len, List.length_map]; exact hl, fun q3 hq3 => ?_⟩
          have s3 := (s1.trans s2).trans (j1n (o := .lst (iV (out.map Int.neg))) hq3)
          exact k out q3 _ low hge ((s1.trans s2).free hq3) j01 s3
      · rcases h with ⟨z, _⟩ | ⟨_, _, e⟩ | ⟨p, rs, a, rfl, rfl, hp, hne, hl, hb, ha, k, e⟩
        · rw [h1] at z; cases z
        · exact e
        · rw [h2] at ha; cases ha
    · rcases h with ⟨_, e⟩ | ⟨z, _⟩ | ⟨p, rs, a, rfl, rfl, hp, hne, hl, hb, ha, k, e⟩
      · exact e
      · rw [h1] at z; cases z
      · rw [j0u hp hne hb] at h1; cases h1
end
end My
end
noncomputable section
namespace My
open PySem L2 L3
theorem rs1 {R : List V → Hp → VK → Prop} {te : TE} {D : Ends} {σ : L2.St} {H : Hp} (h : te σ H fun x H1 => R [x] H1 D.rt) : tRet (tCB R (j06 te tNil)) D σ H := h
abbrev gV (g : G3) : List V := [.int g.1, .int g.2.1, .int g.2.2]
theorem j51 (n : Nat) (g : G3) : okV n (gV g) = okG n g := by
  show (plI (.int g.1) n && plI (.int g.2.1) n && okE (.int g.1) (.int g.2.1) (.int g.2.2)) = _
  unfold okG plI okE
  simp only [Bool.decide_and, Bool.and_assoc]
theorem abv_fm (m : Int) : ∀ ns : List Int, (ns.filterMap fun n => if m < n then some (n - m) else none).sum = abv ns m
  | [] => rfl
  | x :: t => by
    have ih := abv_fm m t
    unfold abv at ih ⊢
    by_cases h : m < x
    · rw [List.filterMap_cons, if_pos h]
      simp [ab1, ih]
      omega
    · rw [List.filterMap_cons, if_neg h]
      simp [ab1, ih]
      omega
noncomputable def shI (n : Int) : Bool := decide (-1000000 ≤ n) && decide (n ≤ 1000000)
noncomputable def stX (H : Hp) (rs : List Int) (x : V) : Option (List Int) := match x with
  | .ref p => (match H p with
    | some (.tup [.int a, .int b, .int c]) => if okG rs.length (a, b, c) = true then
        (if (shI ((L3.give rs a.toNat b.toNat c).getD a.toNat 0) && shI ((L3.give rs a.toNat b.toNat c).getD b.toNat 0)) = true then some (L3.give rs a.toNat b.toNat c) else none) else none
    | _ => none)
  | _ => none
noncomputable def runX (H : Hp) (rs : List Int) (xs : List V) : Option (List Int) := xs.foldlM (fun r x => stX H r x) rs
theorem j5n {H : Hp} {rs : List Int} {xs : List V} {x : V} {bs : List Int} (h : runX H rs xs = some bs) : runX H rs (xs ++ [x]) = stX H bs x := by
  unfold runX at h ⊢
  rw [List.foldlM_append, h]
  show (List.foldlM (fun r x => stX H r x) bs [x]) = _
  rw [List.foldlM_cons]
  cases stX H bs x <;> rfl
theorem runX_cut {H : Hp} {rs : List Int} {xs : List V} {x : V} {bs : List Int} {i : Nat} (hi : xs[i]? = some x) (h : runX H rs (xs.take i) = some bs) (hn : stX H bs x = none) : runX H rs xs = none := by
  have e : xs = xs.take (i + 1) ++ xs.drop (i + 1) := (List.take_append_drop _ _).symm
  have h1 : runX H rs (xs.take (i + 1)) = none := by rw [j37 hi, j5n h, hn]
  unfold runX at h1 ⊢
  rw [e, List.foldlM_append, h1]
  rfl
theorem okV_is {n : Nat} {ys : List V} (h : okV n ys = true) : ∃ a b c, ys = [.int a, .int b, .int c] ∧ okG n (a, b, c) = true := by
  match ys, h with
  | [x, y, z], h =>
    rw [j1t] at h
    have h3 : okE x y z = true := by
      cases e : okE x y z with
      | true => rfl
      | false => rw [e, Bool.and_false] at h; cases h
    match x, y, z, h3 with
    | .int a, .int b, .int c, _ => exact ⟨a, b, c, rfl, by rw [← j51 n (a, b, c)]; exact h⟩
section
variable {P : Program} {w : World} {K : PySem.W.Frag} {mg : Str → Option Value} {base : Heap} {CR CG CA CU CT CS : Addr}
theorem j7h {H H' : Hp} {n : Int} {x : V} (kn : Known K H x) (s : Same H H') : j2w H' n x = j2w H n x := by
  obtain ⟨t, i, b, l, u, kd⟩ := kn
  cases kd with
  | @tup a xs e => rw [j28 e, j28 (s _ _ e)]
  | @lst a xs e => unfold j2w; simp only [e, s _ _ e]
  | @dK a xs e => unfold j2w; simp only [e, s _ _ e]
  | _ => rfl
theorem Known.same {H H' : Hp} {x : V} (kn : Known K H x) (s : Same H H') : Known K H' x := by
  obtain ⟨t, i, b, l, u, kd⟩ := kn
  cases kd with
  | @tup a xs e => exact ⟨_, _, _, _, _, .tup (s _ _ e)⟩
  | @lst a xs e => exact ⟨_, _, _, _, _, .lst (s _ _ e)⟩
  | @dK a xs e => exact ⟨_, _, _, _, _, .dK (s _ _ e)⟩
  | non => exact ⟨_, _, _, _, _, .non⟩
  | bl x => exact ⟨_, _, _, _, _, .bl x⟩
  | int i => exact ⟨_, _, _, _, _, .int i⟩
  | str x => exact ⟨_, _, _, _, _, .str x⟩
theorem Known.there {H H' : Hp} {p : Addr} (kn : Known K H (.ref p)) (s : Same H H') : H' p = H p := by
  obtain ⟨t, i, b, l, u, kd⟩ := kn
  cases kd with
  | tup e => rw [e, s _ _ e]
  | lst e => rw [e, s _ _ e]
  | dK e => rw [e, s _ _ e]
theorem j10.same {H H' : Hp} {x : V} (kn : j10 K H x) (s : Same H H') : j10 K H' x := by
  refine ⟨kn.1.same s, fun p xs ex e y hy => ?_⟩
  subst ex
  rw [kn.1.there s] at e
  exact (kn.2 p xs rfl e y hy).same s
theorem j29 {H H' : Hp} {x : V} (kn : Known K H x) (s : Same H H') : rowB H' x = rowB H x := by
  cases x with
  | ref p =>
    unfold rowB
    simp only [kn.there s]
  | _ => rfl
abbrev s_abve : Stmt := tp 17
theorem sc_above : FnScope ["row", "mark"] ["row", "mark"] (j08 s_abve) := ⟨rfl, rfl, rfl, by decide +kernel, rfl, by decide +kernel, by decide +kernel⟩
noncomputable def j5o (K : PySem.W.Frag) (CR CA : Addr) : Sp := fun vs H Q E => ∃ x y, vs = [x, y] ∧ j10 K H x ∧ Known K H y ∧ ((rowB H x = false ∧ Rs CR H E) ∨ (rowB H x = true ∧ isI y = false ∧ Rs CA H E) ∨
  ∃ (p : Addr) (rs : List Int) (m : Int), x = .ref p ∧ y = .int m ∧ H p = some (.lst (iV rs)) ∧ rs ≠ [] ∧ Bd 1000000 rs ∧ rs.length ≤ 1000 ∧ ∀ H' : Hp, Same H H' → Q (.int (abv rs m)) H')
theorem ok_abve {f : Addr} {fd : FuncData} (F : Fun K "above" "above" s_abve f fd) (B : Bl mg) (er : Er7 K mg CR CG CA CU CT CS) (c_check_row : OkY P w K mg base 3 "check_row" ["row"] (spCk K CR)) (c_is_whole : Ok P w K mg base 1 "is_whole" ["value"] (j38 K)) : FnOk P w K mg base (CX2 P w) 4 f fd ["row", "mark"] (j5o K CR CA) := by
  refine okX2 F sc_above (fun vs H Q E h => ?_) (fun cdv A outer s H vs Q E hr h => ?_)
  · obtain ⟨x, y, rfl, _⟩ := h
    rfl
  · obtain ⟨x, y, rfl, kx, ky, h⟩ := h
    refine ⟨_, (j05 (j0r (j0b j0z c_check_row (hr.mono (by decide)) rfl (j00 (pv 0) j02)))
      (j05 (j12 (j14 (j19 (j0c c_is_whole (hr.mono (by decide)) rfl (j00 (pv 1) j02)))) (j07 (j18 rfl er.gBadAmount er.xBadAmount rfl j2h)) j0i)
      (j07 (j0h (j0d (j3n rfl) rfl B.sum j3o (j00 (PE.nox (j4w rfl rfl (j2v (sc0 := j08 s_abve) (N := ["row", "mark"]) (caps := ["mark"]) (idx := [1]) rfl rfl (by decide +kernel)) (j1v (pv 0)) (fun _ _ _ _ _ => (j8q (j0e j7z (pv 0) (pv 1) (j0g _)))) (fun _ _ _ _ _ => (j0p j2f (pv 0) (pv 1))))) j02)))))), ?_⟩
    try dsimp only [cxOf]
    refine ⟨_, rfl, x, rfl, kx, fun h1 => ?_, fun h1 => ?_⟩
    · refine ⟨_, rfl, y, rfl, ky, _, rfl, ?_⟩
      rcases h with ⟨z, _⟩ | ⟨_, z, e⟩ | ⟨p, rs, m, rfl, rfl, hp, hne, hb6, hl, k⟩
      · rw [h1] at z; cases z
      · rw [z]
        exact iteT fun z hz => e H z (j15 H) hz
      · refine iteF (nxt ?_)
        try dsimp only
        refine rs1 ?_
        refine j61 (a := p) (fun n => (if m < n then some (n - m) else none).map V.int) (fun R r => ⟨_, rfl, r⟩) (SqL.of hp) hl (fun n _ H' R r => ?_) (fun n _ v e H' R r => ?_) (fun D hD => ?_)
        · refine ⟨_, rfl, _, rfl, _, _, rfl, rfl, _, rfl, ?_⟩
          by_cases c : m < n
          · rw [if_pos c] at r
            rw [decide_eq_true c]
            exact r
          · rw [if_neg c] at r
            rw [decide_eq_false c]
            exact r
        · by_cases c : m < n
          · rw [if_pos c] at e
            cases e
            exact ⟨_, rfl, _, rfl, _, _, rfl, rfl, r⟩
          · rw [if_neg c] at e
            cases e
        · rw [j91]
          refine ⟨D, _, rfl, SqL.of j01, ?_⟩
          rw [abv_fm]
          exact k _ (j1n hD)
    · rcases h with ⟨_, e⟩ | ⟨z, _⟩ | ⟨p, rs, m, rfl, rfl, hp, hne, hb6, hl, k⟩
      · exact e
      · rw [h1] at z; cases z
      · rw [j0u hp hne hb6] at h1; cases h1
abbrev s_give : Stmt := tp 18
theorem sc_give : FnScope ["row", "gift"] ["row", "gift"] (j08 s_give) := ⟨rfl, rfl, rfl, by decide +kernel, rfl, by decide +kernel, by decide +kernel⟩
noncomputable def spGive : Sp := fun vs H Q _ => ∃ (p t : Addr) (rs : List Int) (g : G3) (i j : Nat), vs = [.ref p, .ref t] ∧ H p = some (.lst (iV rs)) ∧ H t = some (.tup (gV g)) ∧ g.1 = i ∧ g.2.1 = j ∧ i < rs.length ∧ j < rs.length ∧ Q .non (upd H p (.lst (iV (L3.give rs i j g.2.2))))
theorem ok_give {f : Addr} {fd : FuncData} (F : Fun K "give" "give" s_give f fd) : FnOk P w K mg base CX0 1 f fd ["row", "gift"] spGive := by
  refine F.ok sc_give (fun vs H Q E h => ?_) (fun cdv A outer s H vs Q E hr h => ?_)
  · obtain ⟨p, t, rs, g, i, j, rfl, _⟩ := h
    rfl
  · obtain ⟨p, t, rs, ⟨g1, g2, a⟩, i, j, rfl, hp, ht, e1, e2, hi, hj, q⟩ := h
    dsimp only at e1 e2
    subst e1 e2
    have npt : t ≠ p := ne_of ht hp (by intro z; cases z)
    refine ⟨_, (j05 (j7o (pv 0) (j0x j1k (pv 1) j04 (fun _ _ => rfl)) j6r (j0x j1k (pv 1) j04 (fun _ _ => rfl)) j7q j6g)
      (j07 (j7o (pv 0) (j0x j1k (pv 1) j04 (fun _ _ => rfl)) j6r (j0x j1k (pv 1) j04 (fun _ _ => rfl)) j7p j6g))), ?_⟩
    refine ⟨_, rfl, _, rfl, t, _, _, _, rfl, rfl, SqT.of ht, rfl, p, _, _, _, rfl, rfl, SqL.of hp, j9g hi, _, rfl, t, _, _, _, rfl, rfl, SqT.of ht, rfl, _, _, rfl, rfl, p, _, _, i, rfl, rfl, hp, ix_iV hi, ?_⟩
    rw [set_iV]
    have ht' : ∀ o, (upd H p o) t = some (.tup (gV ((i : Int), (j : Int), a))) := fun o => by rw [j0q npt]; exact ht
    have hj2 : j < (rs.set i (rs.getD i 0 - a)).length := by simpa using hj
    refine ⟨_, rfl, _, rfl, t, _, _, _, rfl, rfl, SqT.of (ht' _), rfl, p, _, _, _, rfl, rfl, SqL.of j01, j9g hj2, _, rfl, t, _, _, _, rfl, rfl, SqT.of (ht' _), rfl, _, _, rfl, rfl, p, _, _, j, rfl, rfl, j01, ix_iV hj2, ?_⟩
    rw [set_iV, j7l]
    exact q
abbrev s_dn : Stmt := tp 19
theorem j68 : FnScope ["row", "gifts", "behind", "gift"] ["row", "gifts"] (j08 s_dn) := ⟨rfl, rfl, rfl, by decide +kernel, rfl, by decide +kernel, by decide +kernel⟩
noncomputable def isL (H : Hp) : V → Bool
  | .ref p => (match H p with
    | some (.lst _) => true
    | _ => false)
  | _ => false
noncomputable def j6u (K : PySem.W.Frag) (H : Hp) (y : V) : Prop := ∀ l xs, y = .ref l → H l = some (.lst xs) → ∀ z ∈ xs, Known K H z ∧ ∀ t ys, z = .ref t → H t = some (.tup ys) → ∀ u ∈ ys, Known K H u
noncomputable def j1z (K : PySem.W.Frag) (CR CG : Addr) : Sp := fun vs H Q E => ∃ x y, vs = [x, y] ∧ j10 K H x ∧ Known K H y ∧ j6u K H y ∧ ((rowB H x = false ∧ Rs CR H E) ∨ (rowB H x = true ∧ isL H y = false ∧ Rs CG H E) ∨
  ∃ (p l : Addr) (rs : List Int) (xs : List V), x = .ref p ∧ y = .ref l ∧ H p = some (.lst (iV rs)) ∧ rs ≠ [] ∧ Bd 1000000 rs ∧ H l = some (.lst xs) ∧ (runX H rs xs = none → Rs CG H E) ∧
    ∀ r, runX H rs xs = some r → ∀ (q : Addr) (H' : Hp), H q = none → Same H H' → H' q = some (.lst (iV r)) → Q (.ref q) H')
theorem ok_dn {f : Addr} {fd : FuncData} (F : Fun K "done" "done" s_dn f fd) (B : Bl mg) (er : Er7 K mg CR CG CA CU CT CS) (c_check_row : OkY P w K mg base 3 "check_row" ["row"] (spCk K CR)) (c_is_gift : Ok P w K mg base 3 "is_gift" ["value", "count"] (spGift K)) (c_give : Ok P w K mg base 1 "give" ["row", "gift"] spGive) (c_is_share : Ok P w K mg base 2 "is_share" ["value"] (j4z K)) :
    FnOk P w K mg base (CX2 P w) 4 f fd ["row", "gifts"] (j1z K CR CG) := by
  refine okX2 F j68 (fun vs H Q E h => ?_) (fun cdv A outer s H vs Q E hr h => ?_)
  · obtain ⟨x, y, rfl, _⟩ := h
    rfl
  · obtain ⟨x, y, rfl, kx, ⟨t, i, b, l, u, kd⟩, kg, h⟩ := h
    refine ⟨_, (j05 (j0r (j0b j0z c_check_row (hr.mono (by decide)) rfl (j00 (pv 0) j02)))
      (j05 (j12 (j14 (j19 (j0d j2s rfl B.isinstance PyProof.Rows.boot_isinstance (j00 (pv 1) (j00 (j31 (v := .ty "list") rfl B.list j27 rfl) j02))))) (j07 (j18 rfl er.gBadGifts er.xBadGifts rfl j2h)) j0i)
      (j05 (j13 (i := 2) j68.nd rfl (Or.inl rfl) (j3t j3c rfl B.list j27 (j00 (pv 0) j02)))
      (j05 (j3a own2 rfl (j1v (pv 1)) (j24 (i := 3) j68.nd rfl (Or.inl rfl))
      (j05 (j12 (j14 (j19 (j0c c_is_gift (hr.mono (by decide)) rfl (j00 (pv 3) (j00 (j0d j0n rfl B.len PySem.boot_len (j00 (pv 2) j02)) j02))))) (j07 (j18 rfl er.gBadGifts er.xBadGifts rfl j2h)) j0i)
      (j05 (j0r (j0c c_give (hr.mono (by decide)) rfl (j00 (pv 2) (j00 (pv 3) j02))))
      (j07 (j12 (PW.pt (j4k (j14 (j19 (j0c c_is_share (hr.mono (by decide)) rfl (j00 (j0x j0v (pv 2) (j0x j1k (pv 3) j04 (fun _ _ => rfl)) (fun _ _ => rfl)) j02)))) (j2m (j14 (j19 (j0c c_is_share (hr.mono (by decide)) rfl (j00 (j0x j0v (pv 2) (j0x j1k (pv 3) j04 (fun _ _ => rfl)) (fun _ _ => rfl)) j02))))))) (j07 (j18 rfl er.gBadGifts er.xBadGifts rfl j2h)) j0i)))))
      (j07 (j0h (pv 2))))))), ?_⟩
    try dsimp only [cxOf]
    refine ⟨_, rfl, x, rfl, kx, fun h1 => ?_, fun h1 => ?_⟩
    · refine ⟨_, rfl, y, _, _, t, l, rfl, rfl, kd.ty, kd.isList, _, rfl, ?_⟩
      rcases h with ⟨z, _⟩ | ⟨_, z, e⟩ | ⟨p, l, rs, xs, rfl, rfl, hp, hne, hb6, hl, e, k⟩
      · rw [h1] at z; cases z
      · have el : l = false := by
          cases kd with
          | @lst a xs ea => unfold isL at z; simp only [ea] at z; cases z
          | _ => rfl
        rw [el]
        exact iteT fun z hz => e H z (j15 H) hz
      · cases kd with
        | tup ea => rw [hl] at ea; cases ea
        | dK ea => rw [hl] at ea; cases ea
        | lst ea =>
          refine iteF (nxt ?_)
          try dsimp only
          refine ⟨_, rfl, p, _, rfl, .inl (SqL.of hp), fun b hb => ?_⟩
          have s1 := j1n (o := .lst (iV rs)) hb
          refine gN ?_
          try dsimp only
          refine ⟨_, rfl, l, rfl, ⟨_, SqL.of (s1 _ _ hl)⟩, j2u (K := K) (a := l) (xs := xs) (fun i σ H2 => ∃ (v : Option V) (bs : List Int), σ = [some (.ref p), some (.ref l), some (.ref b), v] ∧ Same H H2 ∧ H2 b = some (.lst (iV bs)) ∧ runX H rs (xs.take i) = some bs)
            ⟨none, rs, rfl, s1, j01, rfl⟩ (fun i σ H2 _ ⟨_, _, _, s2, _⟩ => SqL.of (s2 _ _ hl)) ?_ ?_⟩
          · rintro i y σ H2 hi ⟨v, bs, rfl, s2, h2, hr2⟩
            intro D'
            have hm := List.mem_of_getElem? hi
            obtain ⟨ky, kt⟩ := kg l xs rfl hl y hm
            refine ⟨_, rfl, _, rfl, b, _, rfl, .inl (SqL.of h2), _, _, rfl, ky.same s2, ?_, _, rfl, ?_⟩
            · intro t ys e1 e2 u hu
              subst e1
              rw [ky.there s2] at e2
              exact (kt t ys rfl e2 u hu).same s2
            · rw [j7h ky s2, j0w]
              have bad : stX H bs y = none → ∀ H3, Same H H3 → ∀ z, H3 z = none → E (.ref z) (some CG) H3 := fun hn H3 s3 z hz => e (runX_cut hi hr2 hn) H3 z s3 hz
              cases hg : j2w H bs.length y with
              | false =>
                refine iteT (bad ?_ H2 s2)
                cases y with
                | ref t =>
                  cases et : H t with
                  | none => unfold stX; simp only [et]
                  | some o =>
                    cases o with
                    | tup ys =>
                      rw [j28 et] at hg
                      unfold stX
                      simp only [et]
                      split
                      · rename_i e3
                        cases e3
                        rename_i a b' c
                        have := j51 bs.length (a, b', c)
                        have e4 : okG bs.length (a, b', c) = false := by rw [← this]; exact hg
                        rw [e4]
                        rfl
                      · rfl
                    | _ => unfold stX; simp only [et]
                | _ => rfl
              | true =>
                refine iteF (nxt ?_)
                try dsimp only
                obtain ⟨t, ys, rfl, ht⟩ : ∃ t ys, y = .ref t ∧ H t = some (.tup ys) := by
                  cases y with
                  | ref t =>
                    cases et : H t with
                    | none => unfold j2w at hg; simp only [et] at hg; cases hg
                    | some o =>
                      cases o with
                      | tup ys => exact ⟨t, ys, rfl, et⟩
                      | _ => unfold j2w at hg; simp only [et] at hg; cases hg
                  | _ => cases hg
                rw [j28 ht] at hg
                obtain ⟨g1, g2, g3, rfl, ok1⟩ := okV_is hg
                have ht2 := s2 _ _ ht
                have bn : b ≠ t := ne_of h2 ht2 (by intro z; cases z)
                have okp := ok1
                unfold okG at okp
                simp only [Bool.and_eq_true, decide_eq_true_eq] at okp
                obtain ⟨⟨⟨o1, o2⟩, o3⟩, o4⟩ := okp
                have i1 : g1 = (g1.toNat : Int) := by omega
                have i2 : g2 = (g2.toNat : Int) := by omega
                have l1 : g1.toNat < bs.length := by omega
                have l2 : g2.toNat < bs.length := by omega
                have ex : stX H bs (.ref t) = (if (shI ((L3.give bs g1.toNat g2.toNat g3).getD g1.toNat 0) && shI ((L3.give bs g1.toNat g2.toNat g3).getD g2.toNat 0)) = true then some (L3.give bs g1.toNat g2.toNat g3) else none) := by
                  unfold stX
                  simp only [ht]
                  rw [if_pos ok1]
                refine ⟨_, rfl, _, rfl, b, t, bs, (g1, g2, g3), g1.toNat, g2.toNat, rfl, h2, ht2, i1, i2, l1, l2, ?_⟩
                have h3 : ∀ o, (upd H2 b o) t = some (.tup (gV (g1, g2, g3))) := fun o => by rw [j0q (Ne.symm bn)]; exact ht2
                have s3 : ∀ o, Same H (upd H2 b o) := fun o => j1x s2 hb
                have l1' : g1.toNat < (L3.give bs g1.toNat g2.toNat g3).length := by rw [j6k]; exact l1
                have l2' : g2.toNat < (L3.give bs g1.toNat g2.toNat g3).length := by rw [j6k]; exact l2
                have q1 := j9g l1'
                have q2 := j9g l2'
                rw [← i1] at q1
                rw [← i2] at q2
                try dsimp only
                refine ⟨_, rfl, _, rfl, t, _, _, _, rfl, rfl, SqT.of (h3 _), rfl, b, _, _, _, rfl, rfl, SqL.of j01, q1, _, rfl, ⟨_, _, _, _, _, Kd.int _⟩, _, rfl, ?_⟩
                generalize L3.give bs g1.toNat g2.toNat g3 = bs' at *
                have c1 : ∀ n, shB (.int n) = shI n := fun n => rfl
                rw [c1]
                cases d1 : shI (bs'.getD g1.toNat 0) with
                | false =>
                  refine iteT (iteT (bad ?_ _ (s3 _)))
                  rw [ex, d1]
                  rfl
                | true =>
                  refine iteF ?_
                  refine ⟨_, rfl, _, rfl, t, _, _, _, rfl, rfl, SqT.of (h3 _), rfl, b, _, _, _, rfl, rfl, SqL.of j01, q2, _, rfl, ⟨_, _, _, _, _, Kd.int _⟩, _, rfl, ?_⟩
                  rw [c1]
                  cases d2 : shI (bs'.getD g2.toNat 0) with
                  | false =>
                    refine iteT (bad ?_ _ (s3 _))
                    rw [ex, d1, d2]
                    rfl
                  | true =>
                    refine iteF ?_
                    refine ⟨_, bs', rfl, s3 _, j01, ?_⟩
                    rw [j37 hi, j5n hr2, ex, d1, d2]
                    rfl
          · rintro σ H2 ⟨v, bs, rfl, s2, h2, hr2⟩
            rw [List.take_length] at hr2
            exact ⟨_, rfl, k bs hr2 b _ hb s2 h2⟩
    · rcases h with ⟨_, e⟩ | ⟨z, _⟩ | ⟨p, l, rs, xs, rfl, rfl, hp, hne, hb6, hl, e, k⟩
      · exact e
      · rw [h1] at z; cases z
      · rw [j0u hp hne hb6] at h1; cases h1
end
end My
end
noncomputable section
namespace My
open PySem L2 L3
theorem all_t (xs : List V) : (xs.map fun _ => V.bl true) = bV (xs.map fun _ => true) := by rw [bV, List.map_map]; rfl
theorem all_tt (xs : List V) : ((xs.map fun _ => true).all id) = true := by simp
theorem ifN1 {R : List V → Hp → VK → Prop} {te : TE} {t u : TS} {D : Ends} {σ : L2.St} {H : Hp} (h : te σ H fun x H1 => R [x] H1 fun v H2 => ∃ k, v = .bl k ∧ (if (!k) = true then t D σ H2 else u D σ H2)) : tIfS (tNot (tB (tCB R (j06 te tNil)))) t u D σ H := h
theorem j52 {C : Addr} {H H1 : Hp} {E : XK} (s : Same H H1) (e : Rs C H E) : Rs C H1 E := fun H' x s2 hx => e H' x (s.trans s2) hx
theorem low53 {out : List Int} (h : Low [5, 3] 3000000 out) : out = [-1499996, -1499996] := h.uniq ⟨-1499996, by decide, by decide, by decide⟩
theorem low53n {out : List Int} (h : Low [-5, -3] 3000000 out) : out = [-1500004, -1500004] := h.uniq ⟨-1500004, by decide, by decide, by decide⟩
section
variable {P : Program} {w : World} {K : PySem.W.Frag} {mg : Str → Option Value} {base : Heap} {CR CG CA CU CT CS : Addr}
theorem knI {H : Hp} (i : Int) : Known K H (.int i) := ⟨_, _, _, _, _, .int i⟩
theorem knN {H : Hp} : Known K H .non := ⟨_, _, _, _, _, .non⟩
theorem knL {H : Hp} {p : Addr} {xs : List V} (e : H p = some (.lst xs)) : Known K H (.ref p) := ⟨_, _, _, _, _, .lst e⟩
theorem kdL {H : Hp} {p : Addr} {xs : List V} (e : H p = some (.lst xs)) (h : ∀ y ∈ xs, Known K H y) : j10 K H (.ref p) := ⟨knL e, fun q ys eq e2 => by
  cases eq
  rw [e] at e2
  cases e2
  exact h⟩
theorem kdI {H : Hp} {p : Addr} {ns : List Int} (e : H p = some (.lst (iV ns))) : j10 K H (.ref p) := kdL e fun y hy => by
  obtain ⟨n, _, rfl⟩ := List.mem_map.mp hy
  exact knI n
abbrev s_kinds : Stmt := tp 49
theorem j2x : FnScope ["_law_error", "_law_found"] ["_law_error"] (j08 s_kinds) := ⟨rfl, rfl, rfl, by decide +kernel, rfl, by decide +kernel, by decide +kernel⟩
noncomputable def spK (K : PySem.W.Frag) (CR CG CA CU CT CS : Addr) : SpH := fun x ox vs H Q => ∃ C j, vs = [.ref x] ∧ ErC K CR CG CA CU CT CS C j ∧ (ox.cls = .ref C ∧ PySem.W.notCls ox = true ∧ ox.dict = none) ∧ ∀ p H', Same H H' → H' p = some (.lst (bV (dueL j))) → Q (.ref p) H'
noncomputable def spKc (K : PySem.W.Frag) (CR CG CA CU CT CS x C : Addr) : List V → Hp → VK → Prop := fun vs H Q => ∃ j, vs = [.ref x] ∧ ErC K CR CG CA CU CT CS C j ∧ ∀ p H', Same H H' → H' p = some (.lst (bV (dueL j))) → Q (.ref p) H'
theorem spK_of {x C : Addr} {ox : Obj} {vs : List V} {H : Hp} {Q : VK} (ho : ox.cls = .ref C ∧ PySem.W.notCls ox = true ∧ ox.dict = none) (h : spKc K CR CG CA CU CT CS x C vs H Q) : spK K CR CG CA CU CT CS x ox vs H Q := by
  obtain ⟨j, h1, h2, h3⟩ := h
  exact ⟨C, j, h1, h2, ho, h3⟩
theorem ok_kinds {f : Addr} {fd : FuncData} (F : Fun K "_law_kinds" "_law_kinds" s_kinds f fd) (B : Bl mg) (er : Er7 K mg CR CG CA CU CT CS) : FnH P w K mg base 1 f fd ["_law_error"] (spK K CR CG CA CU CT CS) := by
  refine okH F j2x (fun x ox vs H Q h => ?_) (fun cdv A outer s H vs Q x ox h => ?_)
  · obtain ⟨C, j, rfl, _⟩ := h
    rfl
  · obtain ⟨C, j, rfl, ec, ho, k⟩ := h
    have Z := ec.cat.Z
    refine ⟨_, (j05 (j13 (i := 1) j2x.nd rfl (Or.inl rfl) (j0a (j00 (j0d (j1g (K := K) rfl Z (List.mem_singleton_self _) ho) rfl B.isinstance PyProof.Rows.boot_isinstance (j00 (pv 0) (j00 (j0o (v := .ref _) rfl er.gBadRow rfl) j02))) (j00 (j0d (j1g (K := K) rfl Z (List.mem_singleton_self _) ho) rfl B.isinstance PyProof.Rows.boot_isinstance (j00 (pv 0) (j00 (j0o (v := .ref _) rfl er.gBadGifts rfl) j02))) (j00 (j0d (j1g (K := K) rfl Z (List.mem_singleton_self _) ho) rfl B.isinstance PyProof.Rows.boot_isinstance (j00 (pv 0) (j00 (j0o (v := .ref _) rfl er.gBadAmount rfl) j02))) j02)))))
      (j07 (j0h (j0p j3v (pv 1) (j0a (j00 (j0d (j1g (K := K) rfl Z (List.mem_singleton_self _) ho) rfl B.isinstance PyProof.Rows.boot_isinstance (j00 (pv 0) (j00 (j0o (v := .ref _) rfl er.gUnlike rfl) j02))) (j00 (j0d (j1g (K := K) rfl Z (List.mem_singleton_self _) ho) rfl B.isinstance PyProof.Rows.boot_isinstance (j00 (pv 0) (j00 (j0o (v := .ref _) rfl er.gBadText rfl) j02))) (j00 (j0d (j1g (K := K) rfl Z (List.mem_singleton_self _) ho) rfl B.isinstance PyProof.Rows.boot_isinstance (j00 (pv 0) (j00 (j31 (v := .ty "ValueError") rfl er.hVE boot_VE rfl) j02))) j02)))))))), ?_⟩
    refine ⟨_, rfl, _, _, _, rfl, rfl, ec.k0, _, rfl, _, _, _, rfl, rfl, ec.k1, _, rfl, _, _, _, rfl, rfl, ec.k2, by show 3 ≤ sizeLine; decide, fun p hp => ?_⟩
    refine gN ?_
    try dsimp only
    refine ⟨_, rfl, _, rfl, _, _, _, rfl, rfl, ec.k3, _, rfl, _, _, _, rfl, rfl, ec.k4, _, rfl, _, _, _, rfl, rfl, ec.k5, by show 3 ≤ sizeLine; decide, fun p2 hp2 => ?_⟩
    refine ⟨p, p2, _, _, rfl, rfl, j03 hp2 _ _ j01, j01, by show 3 + 3 ≤ sizeLine; decide, fun p3 hp3 => ?_⟩
    exact k p3 _ (((j03 hp).trans (j03 hp2)).trans (j03 hp3)) j01
abbrev s_wrow : Stmt := tp 50
theorem j3j : FnScope ["_law_door", "_law_row_here"] ["_law_door", "_law_row_here"] (j08 s_wrow) := ⟨rfl, rfl, rfl, by decide +kernel, rfl, by decide +kernel, by decide +kernel⟩
noncomputable def spWR (K : PySem.W.Frag) (CR : Addr) : Sp := fun vs H _ E => ∃ d x, vs = [.int d, x] ∧ j10 K H x ∧ rowB H x = false ∧ Rs CR H E
theorem ok_wrow {f : Addr} {fd : FuncData} (F : Fun K "_law_with_row" "_law_with_row" s_wrow f fd) (c_rising_sums : OkY P w K mg base 4 "rising_sums" ["row"] (j4i K CR)) (c_evenest : OkY P w K mg base 4 "evenest" ["row"] (j4i K CR)) (c_written : OkY P w K mg base 4 "written" ["row"] (j4i K CR)) (c_above : OkY P w K mg base 4 "above" ["row", "mark"] (j5o K CR CA)) (c_done : OkY P w K mg base 4 "done" ["row", "gifts"] (j1z K CR CG)) (c_taken : OkY P w K mg base 4 "taken" ["row", "amount"] (j4j K CR CA)) (c_poured : OkY P w K mg base 4 "poured" ["row", "amount"] (j6t K CR CA))
    (c_compared : OkY P w K mg base 5 "compared" ["one", "other"] (j7g K CR CU)) (c_under : OkY P w K mg base 5 "under" ["one", "other"] (j67 K CR CU)) : FnOk P w K mg base (CX2 P w) 6 f fd ["_law_door", "_law_row_here"] (spWR K CR) := by
  refine okX2 F j3j (fun vs H Q E h => ?_) (fun cdv A outer s H vs Q E hr h => ?_)
  · obtain ⟨d, x, rfl, _⟩ := h
    rfl
  · obtain ⟨d, x, rfl, kx, hx, e⟩ := h
    refine ⟨_, (j05 (j12 (j0e j6y (pv 0) j04 (j0g _)) (j07 (j0h (j1e (j0e j2e (pv 0) j04 (j0g _)) (j0b j0z c_rising_sums (hr.mono (by decide)) rfl (j00 (pv 1) j02)) (j1e (j0e j2e (pv 0) j04 (j0g _)) (j0b j0z c_evenest (hr.mono (by decide)) rfl (j00 (pv 1) j02)) (j0b j0z c_written (hr.mono (by decide)) rfl (j00 (pv 1) j02)))))) j0i)
      (j05 (j12 (j0e j6y (pv 0) j04 (j0g _)) (j07 (j0h (j1e (j0e j2e (pv 0) j04 (j0g _)) (j0b j0z c_above (hr.mono (by decide)) rfl (j00 (pv 1) (j00 j22 j02))) (j1e (j0e j2e (pv 0) j04 (j0g _)) (j0b j0z c_done (hr.mono (by decide)) rfl (j00 (pv 1) (j00 j22 j02))) (j0b j0z c_taken (hr.mono (by decide)) rfl (j00 (pv 1) (j00 j22 j02))))))) j0i)
      (j05 (j12 (j0e j6y (pv 0) j04 (j0g _)) (j07 (j0h (j1e (j0e j2e (pv 0) j04 (j0g _)) (j0b j0z c_poured (hr.mono (by decide)) rfl (j00 (pv 1) (j00 (j32 j1q j04) j02))) (j1e (j0e j2e (pv 0) j04 (j0g _)) (j0b j0z c_compared (hr.mono (by decide)) rfl (j00 (pv 1) (j00 (j0a (j00 j04 j02)) j02))) (j0b j0z c_compared (hr.mono (by decide)) rfl (j00 (j0a (j00 j04 j02)) (j00 (pv 1) j02))))))) j0i)
      (j07 (j0h (j1e (j0e j2e (pv 0) j04 (j0g _)) (j0b j0z c_under (hr.mono (by decide)) rfl (j00 (pv 1) (j00 (j0a (j00 j04 j02)) j02))) (j0b j0z c_under (hr.mono (by decide)) rfl (j00 (j0a (j00 j04 j02)) (j00 (pv 1) j02))))))))), ?_⟩
    try dsimp only [cxOf]
    have s0 : ∀ {p : Addr}, H p = none → Same H (upd H p (.lst [.int 0])) := fun hp => j03 hp
    refine ⟨_, rfl, _, _, rfl, rfl, _, rfl, ?_⟩
    refine ite2 (fun h => ?_) (fun h => ?_)
    · refine ⟨_, rfl, rfl, _, rfl, ?_⟩
      refine ite2 (fun h => ?_) (fun h => ?_)
      · exact ⟨_, rfl, x, rfl, kx, hx, e⟩
      · refine ⟨_, rfl, rfl, _, rfl, ?_⟩
        refine ite2 (fun h => ?_) (fun h => ?_)
        · exact ⟨_, rfl, x, rfl, kx, hx, e⟩
        · exact ⟨_, rfl, x, rfl, kx, hx, e⟩
    · refine ⟨_, rfl, _, _, rfl, rfl, _, rfl, ?_⟩
      refine ite2 (fun h => ?_) (fun h => ?_)
      · refine ⟨_, rfl, rfl, _, rfl, ?_⟩
        refine ite2 (fun h => ?_) (fun h => ?_)
        · exact ⟨_, rfl, x, .non, rfl, kx, knN, .inl ⟨hx, e⟩⟩
        · refine ⟨_, rfl, rfl, _, rfl, ?_⟩
          refine ite2 (fun h => ?_) (fun h => ?_)
          · exact ⟨_, rfl, x, .non, rfl, kx, knN, fun _ _ z => (nomatch z), .inl ⟨hx, e⟩⟩
          · exact ⟨_, rfl, x, .non, rfl, kx, knN, .inl ⟨hx, e⟩⟩
      · refine ⟨_, rfl, _, _, rfl, rfl, _, rfl, ?_⟩
        refine ite2 (fun h => ?_) (fun h => ?_)
        · refine ⟨_, rfl, rfl, _, rfl, ?_⟩
          refine ite2 (fun h => ?_) (fun h => ?_)
          · exact ⟨_, rfl, _, rfl, x, .int (-1), rfl, kx, knI _, .inl ⟨hx, e⟩⟩
          · refine ⟨_, rfl, rfl, _, rfl, ?_⟩
            refine ite2 (fun h => ?_) (fun h => ?_)
            · exact ⟨_, rfl, by show 1 ≤ sizeLine; decide, fun p hp => ⟨x, .ref p, rfl, kx.same (s0 hp), kdI (ns := [0]) j01, .inl ⟨.inl (by rw [j29 kx.1 (s0 hp)]; exact hx), j52 (s0 hp) e⟩⟩⟩
            · exact ⟨by show 1 ≤ sizeLine; decide, fun p hp => ⟨_, rfl, .ref p, x, rfl, kdI (ns := [0]) j01, kx.same (s0 hp), .inl ⟨.inr (by rw [j29 kx.1 (s0 hp)]; exact hx), j52 (s0 hp) e⟩⟩⟩
        · refine ⟨_, rfl, rfl, _, rfl, ?_⟩
          refine ite2 (fun h => ?_) (fun h => ?_)
          · exact ⟨_, rfl, by show 1 ≤ sizeLine; decide, fun p hp => ⟨x, .ref p, rfl, kx.same (s0 hp), kdI (ns := [0]) j01, .inl ⟨.inl (by rw [j29 kx.1 (s0 hp)]; exact hx), j52 (s0 hp) e⟩⟩⟩
          · exact ⟨by show 1 ≤ sizeLine; decide, fun p hp => ⟨_, rfl, .ref p, x, rfl, kdI (ns := [0]) j01, kx.same (s0 hp), .inl ⟨.inr (by rw [j29 kx.1 (s0 hp)]; exact hx), j52 (s0 hp) e⟩⟩⟩
abbrev s_wamt : Stmt := tp 51
theorem j2k : FnScope ["_law_door", "_law_thing"] ["_law_door", "_law_thing"] (j08 s_wamt) := ⟨rfl, rfl, rfl, by decide +kernel, rfl, by decide +kernel, by decide +kernel⟩
noncomputable def spWA (K : PySem.W.Frag) (CA : Addr) : Sp := fun vs H _ E => ∃ d x, vs = [.int d, x] ∧ Known K H x ∧ (((d = 0 ∨ d = 1) ∧ (amB x = false ∨ x = .int 3000000)) ∨ (d = 2 ∧ isI x = false)) ∧ Rs CA H E
theorem ok_wamt {f : Addr} {fd : FuncData} (F : Fun K "_law_with_amount" "_law_with_amount" s_wamt f fd) (c_above : OkY P w K mg base 4 "above" ["row", "mark"] (j5o K CR CA)) (c_taken : OkY P w K mg base 4 "taken" ["row", "amount"] (j4j K CR CA)) (c_poured : OkY P w K mg base 4 "poured" ["row", "amount"] (j6t K CR CA)) : FnOk P w K mg base (CX2 P w) 5 f fd ["_law_door", "_law_thing"] (spWA K CA) := by
  refine okX2 F j2k (fun vs H Q E h => ?_) (fun cdv A outer s H vs Q E hr h => ?_)
  · obtain ⟨d, x, rfl, _⟩ := h
    rfl
  · obtain ⟨d, x, rfl, kx, hx, e⟩ := h
    refine ⟨_, (j07 (j0h (j1e (j0e j2e (pv 0) j04 (j0g _)) (j0b j0z c_taken (hr.mono (by decide)) rfl (j00 (j0a (j00 j04 (j00 j04 j02))) (j00 (pv 1) j02))) (j1e (j0e j2e (pv 0) j04 (j0g _)) (j0b j0z c_poured (hr.mono (by decide)) rfl (j00 (j0a (j00 j04 (j00 j04 j02))) (j00 (pv 1) j02))) (j0b j0z c_above (hr.mono (by decide)) rfl (j00 (j0a (j00 j04 (j00 j04 j02))) (j00 (pv 1) j02))))))), ?_⟩
    try dsimp only [cxOf]
    have s0 : ∀ {p : Addr}, H p = none → Same H (upd H p (.lst (iV [5, 3]))) := fun hp => j03 hp
    have b53 : Bd 1000000 [5, 3] := by unfold Bd; decide
    have rb : ∀ {p : Addr}, rowB (upd H p (.lst (iV [5, 3]))) (.ref p) = true := j0u j01 (by decide) b53
    refine ⟨_, rfl, rfl, _, rfl, ?_⟩
    refine ite2 (fun h => ?_) (fun h => ?_)
    · rw [decide_eq_true_eq] at h
      have h := V.int.inj h
      subst h
      refine ⟨by show 2 ≤ sizeLine; decide, fun p hp => ⟨_, rfl, .ref p, x, rfl, kdI (ns := [5, 3]) j01, kx.same (s0 hp), ?_⟩⟩
      rcases hx with ⟨_, hx | hx⟩ | ⟨z, _⟩
      · exact .inr (.inl ⟨rb, hx, j52 (s0 hp) e⟩)
      · subst hx
        refine .inr (.inr ⟨p, [5, 3], 3000000, rfl, rfl, j01, by decide, by decide, b53, by decide, fun out q H' low ge => ?_, fun out low _ => j52 (s0 hp) e⟩)
        rw [low53 low] at ge
        exact absurd (ge (-1499996) (by simp)) (by decide)
      · cases z
    · rw [decide_eq_true_eq] at h
      refine ⟨_, rfl, rfl, _, rfl, ?_⟩
      refine ite2 (fun h => ?_) (fun h2 => ?_)
      · rw [decide_eq_true_eq] at h
        have h := V.int.inj h
        subst h
        refine ⟨by show 2 ≤ sizeLine; decide, fun p hp => ⟨_, rfl, .ref p, x, rfl, kdI (ns := [5, 3]) j01, kx.same (s0 hp), ?_⟩⟩
        rcases hx with ⟨_, hx | hx⟩ | ⟨z, _⟩
        · exact .inr (.inl ⟨rb, hx, j52 (s0 hp) e⟩)
        · subst hx
          refine .inr (.inr ⟨p, [5, 3], 3000000, rfl, rfl, j01, by decide, by decide, b53, by decide, fun out q H' low ge => ?_, fun out low _ => j52 (s0 hp) e⟩)
          rw [low53n low] at ge
          exact absurd (ge (-1500004) (by simp)) (by decide)
        · cases z
      · rw [decide_eq_true_eq] at h2
        refine ⟨by show 2 ≤ sizeLine; decide, fun p hp => ⟨_, rfl, .ref p, x, rfl, kdI (ns := [5, 3]) j01, kx.same (s0 hp), ?_⟩⟩
        rcases hx with ⟨z | z, _⟩ | ⟨_, hx⟩
        · exact absurd (congrArg V.int z) h
        · exact absurd (congrArg V.int z) h2
        · exact .inr (.inl ⟨rb, hx, j52 (s0 hp) e⟩)
abbrev s_wgif : Stmt := tp 52
theorem j2y : FnScope ["_law_row_here", "_law_gifts"] ["_law_row_here", "_law_gifts"] (j08 s_wgif) := ⟨rfl, rfl, rfl, by decide +kernel, rfl, by decide +kernel, by decide +kernel⟩
theorem ok_wgif {f : Addr} {fd : FuncData} (F : Fun K "_law_with_gifts" "_law_with_gifts" s_wgif f fd) (c_done : OkY P w K mg base 4 "done" ["row", "gifts"] (j1z K CR CG)) : FnOk P w K mg base (CX2 P w) 5 f fd ["_law_row_here", "_law_gifts"] (j1z K CR CG) := by
  refine okX2 F j2y (fun vs H Q E h => ?_) (fun cdv A outer s H vs Q E hr h => ?_)
  · obtain ⟨x, y, rfl, _⟩ := h
    rfl
  · obtain ⟨x, y, rfl, h⟩ := h
    refine ⟨_, (j07 (j0h (j0b j0z c_done (hr.mono (by decide)) rfl (j00 (pv 0) (j00 (pv 1) j02))))), ?_⟩
    exact ⟨_, rfl, _, rfl, x, y, rfl, h⟩
abbrev s_wtwo : Stmt := tp 53
theorem j3k : FnScope ["_law_one", "_law_other_here"] ["_law_one", "_law_other_here"] (j08 s_wtwo) := ⟨rfl, rfl, rfl, by decide +kernel, rfl, by decide +kernel, by decide +kernel⟩
theorem ok_wtwo {f : Addr} {fd : FuncData} (F : Fun K "_law_with_two" "_law_with_two" s_wtwo f fd) (c_compared : OkY P w K mg base 5 "compared" ["one", "other"] (j7g K CR CU)) : FnOk P w K mg base (CX2 P w) 6 f fd ["_law_one", "_law_other_here"] (j7g K CR CU) := by
  refine okX2 F j3k (fun vs H Q E h => ?_) (fun cdv A outer s H vs Q E hr h => ?_)
  · obtain ⟨x, y, rfl, _⟩ := h
    rfl
  · obtain ⟨x, y, rfl, h⟩ := h
    refine ⟨_, (j07 (j0h (j0b j0z c_compared (hr.mono (by decide)) rfl (j00 (pv 0) (j00 (pv 1) j02))))), ?_⟩
    exact ⟨_, rfl, _, rfl, x, y, rfl, h⟩
abbrev s_wwho : Stmt := tp 54
theorem j2l : FnScope ["_law_one", "_law_other_here"] ["_law_one", "_law_other_here"] (j08 s_wwho) := ⟨rfl, rfl, rfl, by decide +kernel, rfl, by decide +kernel, by decide +kernel⟩
theorem ok_wwho {f : Addr} {fd : FuncData} (F : Fun K "_law_with_wholes" "_law_with_wholes" s_wwho f fd) (c_under : OkY P w K mg base 5 "under" ["one", "other"] (j67 K CR CU)) : FnOk P w K mg base (CX2 P w) 6 f fd ["_law_one", "_law_other_here"] (j67 K CR CU) := by
  refine okX2 F j2l (fun vs H Q E h => ?_) (fun cdv A outer s H vs Q E hr h => ?_)
  · obtain ⟨x, y, rfl, _⟩ := h
    rfl
  · obtain ⟨x, y, rfl, h⟩ := h
    refine ⟨_, (j07 (j0h (j0b j0z c_under (hr.mono (by decide)) rfl (j00 (pv 0) (j00 (pv 1) j02))))), ?_⟩
    exact ⟨_, rfl, _, rfl, x, y, rfl, h⟩
noncomputable def Rz (P : Program) (w : World) (K : PySem.W.Frag) (mg : Str → Option Value) (base : Heap) (f : Addr) (vs : List V) (C : Addr) (H : Hp) : Prop := ∃ sp, Fv P w K mg base 6 f sp ∧ ∀ (Q : VK) (E : XK), Rs C H E → sp vs H Q E
abbrev s_told : Stmt := tp 55
theorem j3g : FnScope ["_law_ask", "_law_one", "_law_other_here", "_law_error"] ["_law_ask", "_law_one", "_law_other_here"] (j08 s_told) := ⟨rfl, rfl, rfl, by decide +kernel, rfl, by decide +kernel, by decide +kernel⟩
noncomputable def j43 (P : Program) (w : World) (K : PySem.W.Frag) (mg : Str → Option Value) (base : Heap) (CR CG CA CU CT CS : Addr) : Sp := fun vs H Q _ => ∃ f x y C j, vs = [.ref f, x, y] ∧ ErC K CR CG CA CU CT CS C j ∧ Rz P w K mg base f [x, y] C H ∧ ∀ p H', Same H H' → H' p = some (.lst (bV (dueL j))) → Q (.ref p) H'
theorem ok_told {f : Addr} {fd : FuncData} (F : Fun K "_law_told" "_law_told" s_told f fd) (er : Er7 K mg CR CG CA CU CT CS) (c_kinds : OkH P w K mg base 1 "_law_kinds" ["_law_error"] (spK K CR CG CA CU CT CS)) : FnOk P w K mg base CX0 7 f fd ["_law_ask", "_law_one", "_law_other_here"] (j43 P w K mg base CR CG CA CU CT CS) := by
  refine F.ok j3g (fun vs H Q E h => ?_) (fun cdv A outer s H vs Q E hr h => ?_)
  · obtain ⟨f, x, y, C, j, rfl, _⟩ := h
    rfl
  · obtain ⟨f, x, y, C, j, rfl, ec, ⟨sp, fv, rz⟩, k⟩ := h
    refine ⟨_, (j05 (ps_try2 (i := 3) rfl er.gShareError er.xShareError er.zB j3g.nd rfl rfl rfl rfl (fun pins EQ => (j07 (j0r (pe_callV P w K mg base ⟨rfl, rfl, rfl, rfl, rfl⟩ (k := 6) 0 passT2 (hr.mono (by decide)) (pv 0) (j00 (pv 1) (j00 (pv 2) j02))))))
      (fun pins x ox C hox cat => (j07 (j0h (pe_callH (sp' := spKc K CR CG CA CU CT CS x C) (fun _ _ _ h => spK_of ⟨hox.1, hox.2.1, hox.2.2.1⟩ h) c_kinds (List.mem_append_right _ (List.mem_singleton_self _)) (RoomH.of hr (by decide)) rfl (j00 (pv 3) j02))))))
      (j07 (j0h (j0a j02)))), ?_⟩
    try dsimp only [cxOf, Cx.nox, Cx.wish]
    refine ⟨fun C' H' => C' = C ∧ Same H H', fun C' H' e => e.1 ▸ ec.cat, ?_, ?_⟩
    · refine ⟨f, sp, rfl, fv, _, rfl, _, rfl, ?_⟩
      exact rz _ (fun _ c H' => ∀ C', c = some C' → C' = C ∧ Same H H') fun H' x s hx C' e => ⟨(Option.some.inj e).symm, s⟩
    · rintro x' C' H' σ' hl ⟨rfl, s1⟩ hx
      have e3 : (σ'.set 3 (some (V.ref x')))[3]? = some (some (V.ref x')) := by
        have h4 : σ'.length = 4 := hl
        rw [List.getElem?_set_self (by omega)]
      exact ⟨_, e3, j, rfl, ec, fun p H2 s2 h2 => k p H2 (s1.trans s2) h2⟩
abbrev s_lall : Stmt := tp 56
theorem j44 : FnScope ["_law_ask", "_law_doors", "_law_things", "_law_due", "_law_door"] ["_law_ask", "_law_doors", "_law_things", "_law_due"] (j08 s_lall) := ⟨rfl, rfl, rfl, by decide +kernel, rfl, by decide +kernel, by decide +kernel⟩
noncomputable def j7i (P : Program) (w : World) (K : PySem.W.Frag) (mg : Str → Option Value) (base : Heap) (CR CG CA CU CT CS : Addr) : Sp := fun vs H Q _ => ∃ (f dp tp up : Addr) (doors things : List V) (C : Addr) (j : Nat), vs = [.ref f, .ref dp, .ref tp, .ref up] ∧ H dp = some (.lst doors) ∧ H tp = some (.lst things) ∧ H up = some (.lst (bV (dueL j))) ∧
  ErC K CR CG CA CU CT CS C j ∧ things.length ≤ 1000 ∧ (∀ d ∈ doors, ∀ x ∈ things, ∀ H', Same H H' → Rz P w K mg base f [d, x] C H') ∧ ∀ H', Same H H' → Q (.bl true) H'
theorem j21 {H : Hp} {p : Addr} {ns : List Bool} (h : H p = some (.lst (bV ns))) : IsL K rBl H ns (.ref p) := ⟨p, _, rfl, SqL.of h, j4e H ns⟩
theorem j4a {H : Hp} {p : Addr} {ns : List Int} (h : H p = some (.lst (iV ns))) : IsL K rInt H ns (.ref p) := ⟨p, _, rfl, SqL.of h, j40 H ns⟩
theorem ok_lall {f : Addr} {fd : FuncData} (F : Fun K "_law_all" "_law_all" s_lall f fd) (B : Bl mg) (c_told : Ok P w K mg base 7 "_law_told" ["_law_ask", "_law_one", "_law_other_here"] (j43 P w K mg base CR CG CA CU CT CS)) : FnOk P w K mg base CX0 8 f fd ["_law_ask", "_law_doors", "_law_things", "_law_due"] (j7i P w K mg base CR CG CA CU CT CS) := by
  refine F.ok j44 (fun vs H Q E h => ?_) (fun cdv A outer s H vs Q E hr h => ?_)
  · obtain ⟨f, dp, tp, up, doors, things, C, j, rfl, _⟩ := h
    rfl
  · obtain ⟨f, dp, tp, up, doors, things, C, j, rfl, hd, ht, hu', ec, hl, rz, k⟩ := h
    have hu := hr.units0
    refine ⟨_, (j05 (j3a PassesOwn.never rfl (j1v (pv 1)) (j24 (i := 4) j44.nd rfl (Or.inr rfl))
      (j07 (j12 (j14 (j19 (j0d (j8v rfl) rfl B.all boot_all (j00 (j4w rfl rfl (j2v (sc0 := j08 s_lall) (N := ["_law_ask", "_law_doors", "_law_things", "_law_due", "_law_door"]) (caps := ["_law_due", "_law_ask", "_law_door"]) (idx := [3, 0, 4]) rfl rfl (by decide +kernel)) (j1v (pv 2)) (fun _ _ _ _ _ => j8p) (fun _ _ _ _ _ => (j1j (op_eqLK (K := K) rfl hu j2t) (j0c c_told (hr.mono (by decide)) rfl (j00 (pv 2) (j00 (pv 3) (j00 (pv 0) j02)))) (pv 1) (j0g _)))) j02)))) (j07 (j0h j1i)) j0i)))
      (j07 (j0h j1i))), ?_⟩
    try dsimp only [cxOf, Cx.nox, Cx.wish]
    refine ⟨_, rfl, dp, rfl, ⟨_, SqL.of hd⟩, j2u (K := K) (a := dp) (xs := doors) (fun i σ H2 => ∃ v, σ = [some (.ref f), some (.ref dp), some (.ref tp), some (.ref up), v] ∧ Same H H2) ⟨none, rfl, j15 H⟩ (fun i σ H2 _ ⟨_, _, s2⟩ => SqL.of (s2 _ _ hd)) ?_ ?_⟩
    · rintro i d σ H2 hi ⟨v, rfl, s2⟩
      intro D'
      have hm := List.mem_of_getElem? hi
      refine gN (ifN1 ?_)
      refine compX_of (a := tp) (xs := things) (H1 := H2) (EQ := fun _ => False) (fun _ => some (V.bl true)) (fun R r => ⟨_, rfl, r⟩) (SqL.of (s2 _ _ ht)) (j1l hl) (fun x hx H3 R s3 h1 _ => ?_) (fun _ D H3 hD s3 d3 => ?_) (fun x hx h1 => ?_)
      · refine ⟨_, rfl, _, rfl, _, rfl, f, d, x, C, j, rfl, ec, rz d hm x hx H3 (s2.trans s3), fun p H4 s4 h4 => ?_⟩
        refine ⟨_, rfl, dueL j, dueL j, j21 h4, j21 (s4 _ _ (s3 _ _ (s2 _ _ hu'))), ?_⟩
        have e : (if false = true then !decide (dueL j = dueL j) else decide (dueL j = dueL j)) = true := by simp
        rw [e]
        exact h1 _ _ rfl s4
      · have e : things.filterMap (fun _ => some (V.bl true)) = things.map fun _ => V.bl true := congrFun List.filterMap_eq_map' things
        rw [e, all_t] at d3
        refine ⟨D, things.map fun _ => true, rfl, SqL.of d3, ?_⟩
        rw [all_tt]
        exact ⟨_, rfl, iteF ⟨_, rfl, s2.trans s3⟩⟩
      · cases h1
    · rintro σ H2 ⟨v, rfl, s2⟩
      exact k H2 s2
end
end My
end
noncomputable section
namespace My
open PySem L2 L3
theorem low66 {out : List Int} (h : Low [1000000, 1000000, 1000000] 6000000 out) : out = [-1000000, -1000000, -1000000] := h.uniq ⟨-1000000, by decide, by decide, by decide⟩
theorem low00 {out : List Int} (h : Low [5] 0 out) : out = [5] := h.uniq ⟨5, by decide, by decide, by decide⟩
theorem cut {U : TS} {D : Ends} {σ : L2.St} {H0 : Hp} (M : Hp → Prop) (hm : M H0) (h : ∀ H4, M H4 → U D σ H4) : U D σ H0 := h _ hm
theorem neF {α : Type} [DecidableEq α] (x : α) : (if true = true then !decide (x = x) else decide (x = x)) = false := by simp
theorem eqT {α : Type} [DecidableEq α] (x : α) : (if false = true then !decide (x = x) else decide (x = x)) = true := by simp
section
variable {P : Program} {w : World} {K : PySem.W.Frag} {mg : Str → Option Value} {base : Heap} {CR CG CA CU CT CS : Addr}
theorem j2z {fA : Addr} (fv : Fv P w K mg base 6 fA (spWA K CA)) {d : Int} {x : V} {H : Hp} (kn : Known K H x) (h : ((d = 0 ∨ d = 1) ∧ (amB x = false ∨ x = .int 3000000)) ∨ (d = 2 ∧ isI x = false)) : Rz P w K mg base fA [.int d, x] CA H :=
  ⟨_, fv, fun Q E e => ⟨d, x, rfl, kn, h, e⟩⟩
theorem j6v {fG : Addr} (fv : Fv P w K mg base 6 fG (j1z K CR CG)) {p : Addr} {rs : List Int} {y : V} {H : Hp} (hp : H p = some (.lst (iV rs))) (hne : rs ≠ []) (hb : Bd 1000000 rs) (ky : Known K H y) (kg : j6u K H y) (h : ∀ l xs, y = .ref l → H l = some (.lst xs) → runX H rs xs = none) : Rz P w K mg base fG [.ref p, y] CG H := by
  refine ⟨_, fv, fun Q E e => ⟨.ref p, y, rfl, kdI hp, ky, kg, .inr ?_⟩⟩
  cases hl : isL H y with
  | false => exact .inl ⟨j0u hp hne hb, rfl, e⟩
  | true =>
    obtain ⟨l, xs, rfl, hx⟩ : ∃ l xs, y = .ref l ∧ H l = some (.lst xs) := by
      cases y with
      | ref l =>
        cases e : H l with
        | none => unfold isL at hl; simp only [e] at hl; cases hl
        | some o =>
          cases o with
          | lst xs => exact ⟨l, xs, rfl, e⟩
          | _ => unfold isL at hl; simp only [e] at hl; cases hl
      | _ => cases hl
    have n := h l xs rfl hx
    exact .inr ⟨p, l, rs, xs, rfl, rfl, hp, hne, hb, hx, fun _ => e, fun r z => by rw [n] at z; cases z⟩
noncomputable def stI (rs : List Int) (g : G3) : Option (List Int) := if okG rs.length g = true then
        (if (shI ((L3.give rs g.1.toNat g.2.1.toNat g.2.2).getD g.1.toNat 0) && shI ((L3.give rs g.1.toNat g.2.1.toNat g.2.2).getD g.2.1.toNat 0)) = true then some (L3.give rs g.1.toNat g.2.1.toNat g.2.2) else none) else none
theorem j9p {H : Hp} {rs : List Int} {t : Addr} {a b c : Int} (e : H t = some (.tup (iV [a, b, c]))) : stX H rs (.ref t) = stI rs (a, b, c) := by
  have e' : H t = some (.tup [.int a, .int b, .int c]) := e
  unfold stX
  simp only [e']
  rfl
theorem j1a {H : Hp} {rs : List Int} {x : V} {xs : List V} : runX H rs (x :: xs) = (stX H rs x).bind fun r => runX H r xs := by
  unfold runX
  rw [List.foldlM_cons]
  rfl
theorem kgT {H : Hp} {pg : Addr} {xs : List V} (e : H pg = some (.lst xs)) (h : ∀ z ∈ xs, ∃ t ns, z = .ref t ∧ H t = some (.tup (iV ns))) : j6u K H (.ref pg) := by
  intro l ys e1 e2 z hz
  cases e1
  rw [e] at e2
  cases e2
  obtain ⟨t, ns, rfl, ht⟩ := h z hz
  refine ⟨⟨_, _, _, _, _, .tup ht⟩, fun t' zs e3 e4 u hu => ?_⟩
  cases e3
  rw [ht] at e4
  cases e4
  obtain ⟨n, _, rfl⟩ := List.mem_map.mp hu
  exact knI n
theorem xs_of {H : Hp} {pg l : Addr} {xs ys : List V} {p : List V → Prop} (e : H pg = some (.lst xs)) (e1 : V.ref pg = V.ref l) (e2 : H l = some (.lst ys)) (h : p xs) : p ys := by
  cases e1
  rw [e] at e2
  cases e2
  exact h
abbrev s_lbr : Stmt := tp 57
theorem j1d : FnScope ["_law_due", "_law_low", "_law_high"] ["_law_due"] (j08 s_lbr) := ⟨rfl, rfl, rfl, by decide +kernel, rfl, by decide +kernel, by decide +kernel⟩
noncomputable def spBR : Sp := fun vs H Q _ => ∃ dp d0 d1 d2 d3, vs = [.ref dp] ∧ H dp = some (.lst [.ref d0, .ref d1, .ref d2, .ref d3]) ∧ H d1 = some (.lst (bV (dueL 1))) ∧ H d2 = some (.lst (bV (dueL 2))) ∧ ∀ H', Same H H' → Q (.bl true) H'
theorem ok_lbr {f fA fG : Addr} {fd : FuncData} (F : Fun K "_law_bounds_right" "_law_bounds_right" s_lbr f fd) (er : Er7 K mg CR CG CA CU CT CS) (g_law_with_amount : mg "_law_with_amount" = some (.ref fA)) (fvA : Fv P w K mg base 6 fA (spWA K CA)) (g_law_with_gifts : mg "_law_with_gifts" = some (.ref fG)) (fvG : Fv P w K mg base 6 fG (j1z K CR CG))
    (c_told : Ok P w K mg base 7 "_law_told" ["_law_ask", "_law_one", "_law_other_here"] (j43 P w K mg base CR CG CA CU CT CS)) (c_taken : OkY P w K mg base 4 "taken" ["row", "amount"] (j4j K CR CA)) (c_poured : OkY P w K mg base 4 "poured" ["row", "amount"] (j6t K CR CA)) (c_done : OkY P w K mg base 4 "done" ["row", "gifts"] (j1z K CR CG)) : FnOk P w K mg base CX0 8 f fd ["_law_due"] spBR := by
  refine F.ok j1d (fun vs H Q E h => ?_) (fun cdv A outer s H vs Q E hr h => ?_)
  · obtain ⟨dp, d0, d1, d2, d3, rfl, _⟩ := h
    rfl
  · obtain ⟨dp, d0, d1, d2, d3, rfl, hd, h1, h2, k⟩ := h
    have hu := hr.units0
    refine ⟨_, (j05 (ps_par rfl j1d.nd (i := 1) (j := 2) rfl rfl (by decide) rfl rfl (j00 (j0p op_rep (j0a (j00 (j32 j1q j04) j02)) j04) (j00 (j0p op_rep (j0a (j00 j04 j02)) j04) j02)) rfl)
      (j05 (j12 (PW.pt (j4k (j0e (j2g hu j2t) (j0c c_told (hr.mono (by decide)) rfl (j00 (j0o (v := .ref _) rfl g_law_with_amount rfl) (j00 j04 (j00 j04 j02)))) (j0x j0v (pv 0) j04 (fun _ _ => rfl)) (j0g _)) (j2m (j0e (j2g hu j2t) (j0c c_told (hr.mono (by decide)) rfl (j00 (j0o (v := .ref _) rfl g_law_with_amount rfl) (j00 j04 (j00 j04 j02)))) (j0x j0v (pv 0) j04 (fun _ _ => rfl)) (j0g _))))) (j07 (j0h j1i)) j0i)
      (j05 (j12 (PW.pt (j4k (j0e (j2g hu j3z) (j0b j1m c_taken (hr.mono (by decide)) rfl (j00 (pv 2) (j00 j04 j02))) (pv 1) (j0g _)) (j2m (j0e (j2g hu j3z) (j0b j1m c_poured (hr.mono (by decide)) rfl (j00 (pv 1) (j00 j04 j02))) (pv 2) (j0g _))))) (j07 (j0h j1i)) j0i)
      (j05 (j12 (j0e (j2g hu j2t) (j0c c_told (hr.mono (by decide)) rfl (j00 (j0o (v := .ref _) rfl g_law_with_gifts rfl) (j00 (j0a (j00 j04 (j00 j04 j02))) (j00 (j0a (j00 (j16 (ns := [0, 1, 1]) (.cons (.cons (.cons .nil))) (by decide)) j02)) j02)))) (j0x j0v (pv 0) j04 (fun _ _ => rfl)) (j0g _)) (j07 (j0h j1i)) j0i)
      (j05 (j12 (j0e (j2g hu j3z) (j0b j1m c_done (hr.mono (by decide)) rfl (j00 (j0a (j00 j04 (j00 j04 j02))) (j00 (j0a (j00 (j16 (ns := [0, 1, 1]) (.cons (.cons (.cons .nil))) (by decide)) j02)) j02))) (j0a (j00 j04 (j00 j04 j02))) (j0g _)) (j07 (j0h j1i)) j0i)
      (j05 (j12 (j0e (j2g hu j2t) (j0c c_told (hr.mono (by decide)) rfl (j00 (j0o (v := .ref _) rfl g_law_with_gifts rfl) (j00 (j0a (j00 (j32 j1q j04) (j00 j04 j02))) (j00 (j0a (j00 (j16 (ns := [0, 1, 1]) (.cons (.cons (.cons .nil))) (by decide)) (j00 (j16 (ns := [1, 0, 1]) (.cons (.cons (.cons .nil))) (by decide)) j02))) j02)))) (j0x j0v (pv 0) j04 (fun _ _ => rfl)) (j0g _)) (j07 (j0h j1i)) j0i)
      (j07 (j0h (j1j (j6p hu j2t) (j0c c_told (hr.mono (by decide)) rfl (j00 (j0o (v := .ref _) rfl g_law_with_gifts rfl) (j00 (j0a (j00 j04 (j00 j04 j02))) (j00 (j0a (j00 (j16 (ns := [0, 1, 1]) (.cons (.cons (.cons .nil))) (by decide)) (j00 (j16 (ns := [1, 0, 1]) (.cons (.cons (.cons .nil))) (by decide)) j02))) j02)))) (j0x j0v (pv 0) j04 (fun _ _ => rfl)) (j0g _)))))))))), ?_⟩
    try dsimp only [cxOf, Cx.nox, Cx.wish]
    refine ⟨_, rfl, by show 1 ≤ sizeLine; decide, fun q1 hq1 => ⟨q1, 3, _, rfl, rfl, j01, by decide, by decide, by show 1 * 3 ≤ sizeLine; decide, fun pl hpl => ?_⟩⟩
    refine ⟨by show 1 ≤ sizeLine; decide, fun q2 hq2 => ⟨q2, 3, _, rfl, rfl, j01, by decide, by decide, by show 1 * 3 ≤ sizeLine; decide, fun ph hph => ?_⟩⟩
    refine ⟨_, _, rfl, ?_⟩
    try dsimp only
    refine cut (fun H4 => Same H H4 ∧ H4 pl = some (.lst (iV [-1000000, -1000000, -1000000])) ∧ H4 ph = some (.lst (iV [1000000, 1000000, 1000000]))) ⟨(((j03 hq1).trans (j03 hpl)).trans (j03 hq2)).trans (j03 hph), j03 hph _ _ (j03 hq2 _ _ j01), j01⟩ ?_
    rintro H4 ⟨s4, hl4, hh4⟩
    refine ⟨fA, .int 0, .int 3000000, CA, 2, rfl, er.eA, j2z fvA (knI _) (.inl ⟨.inl rfl, .inr rfl⟩), fun p5 H5 s5 h5 => ?_⟩
    refine ⟨_, rfl, dp, _, _, _, rfl, rfl, SqL.of ((s4.trans s5) _ _ hd), rfl, dueL 2, dueL 2, j21 h5, j21 ((s4.trans s5) _ _ h2), _, rfl, ?_⟩
    rw [neF]
    refine iteF ?_
    refine ⟨fA, .int 1, .int 3000000, CA, 2, rfl, er.eA, j2z fvA (knI _) (.inl ⟨.inr rfl, .inr rfl⟩), fun p6 H6 s6 h6 => ?_⟩
    have t6 := (s4.trans s5).trans s6
    refine ⟨_, rfl, dp, _, _, _, rfl, rfl, SqL.of (t6 _ _ hd), rfl, dueL 2, dueL 2, j21 h6, j21 (t6 _ _ h2), _, rfl, ?_⟩
    rw [neF]
    refine iteF (nxt ?_)
    try dsimp only
    have hl6 := (s5.trans s6) _ _ hl4
    have hh6 := (s5.trans s6) _ _ hh4
    have bH : Bd 1000000 [1000000, 1000000, 1000000] := by unfold Bd; decide
    have bL : Bd 1000000 [-1000000, -1000000, -1000000] := by unfold Bd; decide
    refine ⟨_, rfl, .ref ph, .int 6000000, rfl, kdI hh6, knI _, .inr (.inr ⟨ph, _, _, rfl, rfl, hh6, by decide, by decide, bH, by decide, fun out p7 H7 low ge hp7 h7 s7 => ?_, fun out low lt => ?_⟩)⟩
    rotate_left
    · rw [low66 low] at lt
      obtain ⟨y, hy, lt⟩ := lt
      simp only [List.mem_cons, List.not_mem_nil, or_false] at hy
      omega
    rw [low66 low] at h7
    refine ⟨_, rfl, _, _, j4a h7, j4a (s7 _ _ hl6), _, rfl, ?_⟩
    rw [neF]
    refine iteF ?_
    refine ⟨_, rfl, .ref pl, .int 6000000, rfl, kdI (s7 _ _ hl6), knI _, .inr (.inr ⟨pl, _, _, rfl, rfl, s7 _ _ hl6, by decide, by decide, bL, by decide, fun out p8 H8 low ge hp8 h8 s8 => ?_, fun out low lt => ?_⟩)⟩
    rotate_left
    · have low' : Low [1000000, 1000000, 1000000] 6000000 out := low
      rw [low66 low'] at lt
      obtain ⟨y, hy, lt⟩ := lt
      simp only [List.mem_cons, List.not_mem_nil, or_false] at hy
      omega
    have low' : Low [1000000, 1000000, 1000000] 6000000 out := low
    rw [low66 low'] at h8
    have h8' : H8 p8 = some (.lst (iV [1000000, 1000000, 1000000])) := h8
    refine ⟨_, rfl, _, _, j4a h8', j4a ((s7.trans s8) _ _ hh6), _, rfl, ?_⟩
    rw [neF]
    refine iteF (nxt ?_)
    try dsimp only
    have t8 := (t6.trans s7).trans s8
    refine cut (fun H9 => Same H H9) t8 ?_
    intro H9 t9
    have bA : Bd 1000000 [0, 1000000] := by unfold Bd; decide
    have bB : Bd 1000000 [1, 999999] := by unfold Bd; decide
    have bC : Bd 1000000 [-1000000, 0] := by unfold Bd; decide
    refine ⟨by show 2 ≤ sizeLine; decide, fun pa hpa pt hpt => ⟨by show 1 ≤ sizeLine; decide, fun pg hpg => ?_⟩⟩
    refine ⟨fG, .ref pa, .ref pg, CG, 1, rfl, er.eG, j6v fvG (rs := [0, 1000000]) (j03 hpg _ _ (j03 hpt _ _ j01)) (by decide) bA (knL j01) (kgT j01 fun z hz => ?_) (fun l xs e1 e2 => xs_of (p := fun ys => runX _ _ ys = none) j01 e1 e2 ?_), fun p1 K1 u1 v1 => ?_⟩
    · rw [List.mem_singleton] at hz
      exact ⟨pt, [0, 1, 1], hz, j03 hpg _ _ j01⟩
    · rw [j1a, j9p (a := 0) (b := 1) (c := 1) (j03 hpg _ _ j01), show stI [0, 1000000] (0, 1, 1) = none from by decide]
      rfl
    have w1 := (((t9.trans (j03 hpa)).trans (j03 hpt)).trans (j03 hpg)).trans u1
    refine ⟨_, rfl, dp, _, _, _, rfl, rfl, SqL.of (w1 _ _ hd), rfl, dueL 1, dueL 1, j21 v1, j21 (w1 _ _ h1), _, rfl, ?_⟩
    rw [neF]
    refine iteF (nxt ?_)
    try dsimp only
    refine cut (fun H9 => Same H H9) w1 ?_
    clear w1 v1 u1 p1 hpg pg hpt pt hpa pa K1 t9 H9
    intro H9 t9
    refine ⟨by show 2 ≤ sizeLine; decide, fun pa hpa pt hpt => ⟨by show 1 ≤ sizeLine; decide, fun pg hpg => ?_⟩⟩
    have rx : runX (upd (upd (upd H9 pa (.lst [.int 1, .int 999999])) pt (.tup (iV [0, 1, 1]))) pg (.lst [.ref pt])) [1, 999999] [.ref pt] = some [0, 1000000] := by
      rw [j1a, j9p (a := 0) (b := 1) (c := 1) (j03 hpg _ _ j01), show stI [1, 999999] (0, 1, 1) = some [0, 1000000] from by decide]
      rfl
    refine ⟨.ref pa, .ref pg, rfl, kdI (ns := [1, 999999]) (j03 hpg _ _ (j03 hpt _ _ j01)), knL j01, kgT j01 fun z hz => ?_, .inr (.inr ⟨pa, pg, [1, 999999], [.ref pt], rfl, rfl, j03 hpg _ _ (j03 hpt _ _ j01), by decide, bB, j01, fun z => ?_, fun r hr' p1 K1 hp1 u1 v1 => ?_⟩)⟩
    · rw [List.mem_singleton] at hz
      exact ⟨pt, [0, 1, 1], hz, j03 hpg _ _ j01⟩
    · rw [rx] at z
      cases z
    rw [rx] at hr'
    cases hr'
    refine ⟨by show 2 ≤ sizeLine; decide, fun p2 hp2 => ⟨[0, 1000000], [0, 1000000], j4a (j03 hp2 _ _ v1), j4a j01, _, rfl, ?_⟩⟩
    rw [neF]
    refine iteF (nxt ?_)
    try dsimp only
    have w1 := (((t9.trans (j03 hpa)).trans (j03 hpt)).trans (j03 hpg)).trans u1
    refine cut (fun H9 => Same H H9) (w1.trans (j03 hp2)) ?_
    clear w1 hp2 p2 v1 u1 hp1 p1 rx hpg pg hpt pt hpa pa K1 t9 H9
    intro H9 t9
    refine ⟨_, rfl, by show 2 ≤ sizeLine; decide, fun pa hpa pt hpt pu hpu => ⟨by show 2 ≤ sizeLine; decide, fun pg hpg => ?_⟩⟩
    refine ⟨fG, .ref pa, .ref pg, CG, 1, rfl, er.eG, j6v fvG (rs := [-1000000, 0]) (j03 hpg _ _ (j03 hpu _ _ (j03 hpt _ _ j01))) (by decide) bC (knL j01) (kgT j01 fun z hz => ?_) (fun l xs e1 e2 => xs_of (p := fun ys => runX _ _ ys = none) j01 e1 e2 ?_), fun p1 K1 u1 v1 => ?_⟩
    · simp only [List.mem_cons, List.not_mem_nil, or_false] at hz
      rcases hz with rfl | rfl
      · exact ⟨pt, [0, 1, 1], rfl, j03 hpg _ _ (j03 hpu _ _ j01)⟩
      · exact ⟨pu, [1, 0, 1], rfl, j03 hpg _ _ j01⟩
    · rw [j1a, j9p (a := 0) (b := 1) (c := 1) (j03 hpg _ _ (j03 hpu _ _ j01)), show stI [-1000000, 0] (0, 1, 1) = none from by decide]
      rfl
    have w1 := ((((t9.trans (j03 hpa)).trans (j03 hpt)).trans (j03 hpu)).trans (j03 hpg)).trans u1
    refine ⟨_, rfl, dp, _, _, _, rfl, rfl, SqL.of (w1 _ _ hd), rfl, dueL 1, dueL 1, j21 v1, j21 (w1 _ _ h1), _, rfl, ?_⟩
    rw [neF]
    refine iteF (nxt ?_)
    try dsimp only
    refine cut (fun H9 => Same H H9) w1 ?_
    clear w1 v1 u1 p1 hpg pg hpu pu hpt pt hpa pa K1 t9 H9
    intro H9 t9
    refine ⟨by show 2 ≤ sizeLine; decide, fun pa hpa pt hpt pu hpu => ⟨by show 2 ≤ sizeLine; decide, fun pg hpg => ?_⟩⟩
    refine ⟨fG, .ref pa, .ref pg, CG, 1, rfl, er.eG, j6v fvG (rs := [0, 1000000]) (j03 hpg _ _ (j03 hpu _ _ (j03 hpt _ _ j01))) (by decide) bA (knL j01) (kgT j01 fun z hz => ?_) (fun l xs e1 e2 => xs_of (p := fun ys => runX _ _ ys = none) j01 e1 e2 ?_), fun p1 K1 u1 v1 => ?_⟩
    · simp only [List.mem_cons, List.not_mem_nil, or_false] at hz
      rcases hz with rfl | rfl
      · exact ⟨pt, [0, 1, 1], rfl, j03 hpg _ _ (j03 hpu _ _ j01)⟩
      · exact ⟨pu, [1, 0, 1], rfl, j03 hpg _ _ j01⟩
    · rw [j1a, j9p (a := 0) (b := 1) (c := 1) (j03 hpg _ _ (j03 hpu _ _ j01)), show stI [0, 1000000] (0, 1, 1) = none from by decide]
      rfl
    have w1 := ((((t9.trans (j03 hpa)).trans (j03 hpt)).trans (j03 hpu)).trans (j03 hpg)).trans u1
    refine ⟨_, rfl, dp, _, _, _, rfl, rfl, SqL.of (w1 _ _ hd), rfl, dueL 1, dueL 1, j21 v1, j21 (w1 _ _ h1), ?_⟩
    rw [eqT]
    exact k _ w1
end
end My
end
noncomputable section
namespace My
open PySem L2 L3
section
variable {K : PySem.W.Frag}
noncomputable def j20 (K : PySem.W.Frag) (H : Hp) (x : V) : Prop := j10 K H x ∧ rowB H x = false
theorem j20.same {H H' : Hp} {x : V} (h : j20 K H x) (s : Same H H') : j20 K H' x := ⟨h.1.same s, by rw [j29 h.1.1 s]; exact h.2⟩
theorem knS {H : Hp} {z : Str} : Known K H (.str z) := ⟨_, _, _, _, _, .str z⟩
theorem knB {H : Hp} {z : Bool} : Known K H (.bl z) := ⟨_, _, _, _, _, .bl z⟩
theorem knT {H : Hp} {p : Addr} {xs : List V} (e : H p = some (.tup xs)) : Known K H (.ref p) := ⟨_, _, _, _, _, .tup e⟩
theorem knD {H : Hp} {p : Addr} {xs : List (Key × V)} (e : H p = some (.dK xs)) : Known K H (.ref p) := ⟨_, _, _, _, _, .dK e⟩
theorem kdN {H : Hp} {x : V} (k : Known K H x) (n : isL H x = false) : j10 K H x := ⟨k, fun p xs e e2 => by
  subst e
  unfold isL at n
  simp only [e2] at n
  cases n⟩
theorem rbN {H : Hp} {x : V} (k : Known K H x) (n : isL H x = false) : j20 K H x := ⟨kdN k n, by
  cases x with
  | ref p =>
    unfold rowB
    unfold isL at n
    cases e : H p with
    | none => simp only [e]
    | some o =>
      cases o with
      | lst xs => simp only [e] at n; cases n
      | _ => simp only [e]
  | _ => rfl⟩
theorem nT {H : Hp} {p : Addr} {xs : List V} (e : H p = some (.tup xs)) : isL H (.ref p) = false := by unfold isL; simp only [e]
theorem nD {H : Hp} {p : Addr} {xs : List (Key × V)} (e : H p = some (.dK xs)) : isL H (.ref p) = false := by unfold isL; simp only [e]
theorem rbL {H : Hp} {p : Addr} {xs : List V} (e : H p = some (.lst xs)) (k : ∀ y ∈ xs, Known K H y) (b : (!xs.isEmpty && xs.all shB) = false) : j20 K H (.ref p) := ⟨kdL e k, by rw [j3p e]; exact b⟩
theorem rb1 {H : Hp} {p : Addr} {y : V} (e : H p = some (.lst [y])) (k : Known K H y) (b : shB y = false) : j20 K H (.ref p) := rbL e (fun z hz => by rw [List.mem_singleton] at hz; rw [hz]; exact k) (by
  show (true && (shB y && true)) = false
  rw [b]
  rfl)
theorem sh_lo {n : Int} (h : n < -1000000) : shB (.int n) = false := by
  show (decide (-1000000 ≤ n) && decide (n ≤ 1000000)) = false
  rw [decide_eq_false (by omega)]
  rfl
theorem sh_hi {n : Int} (h : 1000000 < n) : shB (.int n) = false := by
  show (decide (-1000000 ≤ n) && decide (n ≤ 1000000)) = false
  rw [decide_eq_false (show ¬ n ≤ 1000000 by omega), Bool.and_false]
theorem st_rows {U : TS} {D : Ends} {H : Hp} {v0 v2 v3 v4 v5 : Option V} {far : Int} (h0 : 0 ≤ far) (k : ∀ rp Hb xs, Same H Hb → Hb rp = none → (∀ x ∈ xs, j20 K Hb x) → xs.length = 13 → U D [v0, some (.int far), v2, v3, v4, v5, some (.ref rp), none, none, none] (upd Hb rp (.lst xs))) :
    tSeq (tAsg
                (tLst
                  (j06 (tC V.non)
                    (j06 (tTup tNil)
                      (j06 (tLst tNil)
                        (j06 (tTup (j06 (tC (V.int 1)) (j06 (tC (V.int 2)) tNil)))
                          (j06 (tC (V.str (Str.ofString "1")))
                            (j06 tNewD
                              (j06 (tC (V.int 5))
                                (j06 (tLst (j06 (tC V.non) tNil))
                                  (j06 (tLst (j06 (tC (V.str (Str.ofString "1"))) tNil))
                                    (j06 (tLst (j06 (tC (V.bl true)) tNil))
                                      (j06 (tLst (j06 (tC (V.int 1000001)) tNil))
                                        (j06
                                          (tLst
                                            (j06
                                              (tOp (rI0 fun i j => V.int (i - j))
                                                (tUn (rU fun i => V.int (-i)) (tC (V.int 1000001))) (tVar 1))
                                              tNil))
                                          (j06 (tLst (j06 (tLst (j06 (tC (V.int 1)) tNil)) tNil))
                                            tNil))))))))))))))
                (j47 6)) U D [v0, some (.int far), v2, v3, v4, v5, none, none, none, none] H := by
  have l1 : 1 ≤ sizeLine := by decide
  refine ⟨Nat.zero_le _, fun p1 hp1 => ⟨Nat.zero_le _, fun p2 hp2 => ⟨by show 2 ≤ sizeLine; decide, fun p3 hp3 => fun p4 hp4 => ⟨l1, fun p5 hp5 => ⟨l1, fun p6 hp6 => ⟨l1, fun p7 hp7 => ⟨l1, fun p8 hp8 => ⟨_, rfl, _, rfl, _, _, rfl, rfl, l1, fun p9 hp9 => ⟨l1, fun p10 hp10 => ⟨l1, fun p11 hp11 => ⟨by show 13 ≤ sizeLine; decide, fun rp hrp => ?_⟩⟩⟩⟩⟩⟩⟩⟩⟩⟩⟩
  refine gN ?_
  refine k rp _ _ ?_ hrp ?_ rfl
  · repeat (first | exact j15 _ | refine Same.trans ?_ (j03 (by assumption)))
  · intro x hx
    simp only [List.mem_cons, List.not_mem_nil, or_false] at hx
    rcases hx with rfl | rfl | rfl | rfl | rfl | rfl | rfl | rfl | rfl | rfl | rfl | rfl | rfl
    · exact rbN knN rfl
    · refine rbN (knT (xs := []) ?_) (nT (xs := []) ?_) <;> repeat (first | exact j01 | refine j03 (by assumption) _ _ ?_)
    · refine rbL (xs := []) ?_ (fun y hy => nomatch hy) rfl
      repeat (first | exact j01 | refine j03 (by assumption) _ _ ?_)
    · refine rbN (knT (xs := [.int 1, .int 2]) ?_) (nT (xs := [.int 1, .int 2]) ?_) <;> repeat (first | exact j01 | refine j03 (by assumption) _ _ ?_)
    · exact rbN knS rfl
    · refine rbN (knD (xs := []) ?_) (nD (xs := []) ?_) <;> repeat (first | exact j01 | refine j03 (by assumption) _ _ ?_)
    · exact rbN (knI _) rfl
    · refine rb1 (y := .non) ?_ knN rfl
      repeat (first | exact j01 | refine j03 (by assumption) _ _ ?_)
    · refine rb1 (y := .str "1") ?_ knS rfl
      repeat (first | exact j01 | refine j03 (by assumption) _ _ ?_)
    · refine rb1 (y := .bl true) ?_ knB rfl
      repeat (first | exact j01 | refine j03 (by assumption) _ _ ?_)
    · refine rb1 (y := .int 1000001) ?_ (knI _) rfl
      repeat (first | exact j01 | refine j03 (by assumption) _ _ ?_)
    · refine rb1 (y := .int (-1000001 - far)) ?_ (knI _) (sh_lo (by omega))
      repeat (first | exact j01 | refine j03 (by assumption) _ _ ?_)
    · refine rb1 (y := .ref p10) ?_ (knL (xs := [.int 1]) ?_) rfl <;> repeat (first | exact j01 | refine j03 (by assumption) _ _ ?_)
theorem rbM {H : Hp} {p : Addr} {xs : List V} {y : V} (e : H p = some (.lst xs)) (k : ∀ z ∈ xs, Known K H z) (hy : y ∈ xs) (b : shB y = false) : j20 K H (.ref p) := by
  refine rbL e k ?_
  have : xs.all shB = false := Bool.eq_false_iff.mpr fun c => by
    rw [List.all_eq_true.mp c y hy] at b
    cases b
  rw [this, Bool.and_false]
noncomputable def tv (far : Int) : List V := [.non, .str "1", .bl true, .int (1000001 + far), .int (-1000001)]
theorem tv_at {H : Hp} {far m : Int} (h0 : 0 ≤ far) (hm : 0 ≤ m) (h5 : m < 5) : ∃ v, atI (tv far) m = some v ∧ shB v = false ∧ Known K H v := by
  have h : m = 0 ∨ m = 1 ∨ m = 2 ∨ m = 3 ∨ m = 4 := by omega
  rcases h with rfl | rfl | rfl | rfl | rfl
  · exact ⟨_, rfl, rfl, knN⟩
  · exact ⟨_, rfl, rfl, knS⟩
  · exact ⟨_, rfl, rfl, knB⟩
  · exact ⟨_, rfl, sh_hi (by omega), knI _⟩
  · exact ⟨_, rfl, rfl, knI _⟩
theorem kn_cut {H : Hp} {rs : List Int} {lo hi : Option Int} : ∀ z ∈ cutV (iV rs) lo hi, Known K H z := fun z hz => by
  have := List.mem_of_mem_drop (List.mem_of_mem_take hz)
  obtain ⟨n, _, rfl⟩ := List.mem_map.mp this
  exact knI n
noncomputable def hidR (G : Hp) (rp : Addr) : Hp := fun b => if b = rp then none else G b
theorem j6w {G : Hp} {rp : Addr} {o : HO} : upd G rp o = upd (hidR G rp) rp o := by
  funext b
  unfold upd hidR
  by_cases h : b = rp
  · rw [if_pos h, if_pos h]
  · rw [if_neg h, if_neg h, if_neg h]
theorem j5p {G : Hp} {rp : Addr} : hidR G rp rp = none := by unfold hidR; rw [if_pos rfl]
theorem j45 {Hb G : Hp} {rp : Addr} (h : Hb rp = none) (s : Same Hb G) : Same Hb (hidR G rp) := fun b o e => by
  unfold hidR
  rw [if_neg (j0m e h)]
  exact s b o e
theorem j69 {G : Hp} {rp b : Addr} (h : b ≠ rp) : hidR G rp b = G b := by unfold hidR; rw [if_neg h]
theorem st_loop {U : TS} {D : Ends} {Hb : Hp} {v0 v2 v3 v5 : Option V} {far : Int} {p rp : Addr} {rs : List Int} {xs : List V} (h0 : 0 ≤ far) (hp : Hb p = some (.lst (iV rs))) (hl : rs.length ≤ 64) (hne : 1 ≤ rs.length) (hrp : Hb rp = none) (hx : ∀ x ∈ xs, j20 K Hb x) (hxl : xs.length = 13)
    (k : ∀ v7 Hc ys, Same Hb Hc → Hc rp = none → (∀ x ∈ ys, j20 K Hc x) → ys.length ≤ 1000 → U D [v0, some (.int far), v2, v3, some (.ref p), v5, some (.ref rp), v7, none, none] (upd Hc rp (.lst ys))) :
    tSeq (tFor
                  (iRng3
                    (j06 (tC (V.int 0))
                      (j06
                        (tCB
                          (fun xs H Q =>
                            ∃ p ys, xs = [V.ref p] ∧ (SqL K H p ys ∨ SqT K H p ys) ∧ Q (V.int ↑ys.length) H)
                          (j06 (tVar 4) tNil))
                        (j06
                          (tOp (rI0 fun i j => V.int (i + j)) (tC (V.int 1))
                            (tOp (rI CDiv fun i j => V.int (i / j))
                              (tCB
                                (fun xs H Q =>
                                  ∃ p ys, xs = [V.ref p] ∧ (SqL K H p ys ∨ SqT K H p ys) ∧ Q (V.int ↑ys.length) H)
                                (j06 (tVar 4) tNil))
                              (tC (V.int 20))))
                          tNil))))
                  (j47 7)
                  (tDrop
                    (tBM K "list" j4p (tVar 6)
                      (j06
                        (tOp rCat
                          (tOp rCat (tSl (rSlL K) (tVar 4) j4m (tPart (tVar 7)))
                            (tLst
                              (j06
                                (tOp (rIxT K)
                                  (tTup
                                    (j06 (tC V.non)
                                      (j06 (tC (V.str (Str.ofString "1")))
                                        (j06 (tC (V.bl true))
                                          (j06 (tOp (rI0 fun i j => V.int (i + j)) (tC (V.int 1000001)) (tVar 1))
                                            (j06 (tUn (rU fun i => V.int (-i)) (tC (V.int 1000001))) tNil))))))
                                  (tOp (rI (fun x j => 0 < j) fun i j => V.int (i % j)) (tVar 7) (tC (V.int 5))))
                                tNil)))
                          (tSl (rSlL K) (tVar 4) (tPart (tOp (rI0 fun i j => V.int (i + j)) (tVar 7) (tC (V.int 1))))
                            j4m))
                        tNil)))) U D [v0, some (.int far), v2, v3, some (.ref p), v5, some (.ref rp), none, none, none] (upd Hb rp (.lst xs)) := by
  have s1 : Same Hb (upd Hb rp (.lst xs)) := j03 hrp
  have sq := SqL.of (K := K) (s1 _ _ hp)
  refine ⟨_, rfl, p, _, rfl, .inl sq, _, rfl, p, _, rfl, .inl sq, _, _, rfl, rfl, ⟨by decide, by decide⟩, _, _, rfl, rfl, _, _, rfl, ?_, ?_⟩
  · rw [j0w]
    omega
  rw [j0w]
  generalize hc : (1 : Int) + (rs.length : Int) / 20 = c
  have c0 : 1 ≤ c := by omega
  refine for_step (fun i σ H2 => ∃ v7 Hc ys, σ = [v0, some (.int far), v2, v3, some (.ref p), v5, some (.ref rp), v7, none, none] ∧ H2 = upd Hc rp (.lst ys) ∧ Same Hb Hc ∧ Hc rp = none ∧ (∀ x ∈ ys, j20 K Hc x) ∧ ys.length = 13 + i) ⟨none, Hb, xs, rfl, rfl, j15 _, hrp, hx, hxl⟩ ?_ ?_
  · rintro i σ H2 hi ⟨v7, Hc, ys, rfl, rfl, sc, hcr, hy, yl⟩
    obtain ⟨i0, i1⟩ := step_in (m := (rs.length : Int)) (by omega) c0 hi
    generalize (i : Int) * c = at' at i0 i1
    have hi64 : i < 100 := by
      have : ((rs.length : Int) + c - 1) / c ≤ (rs.length : Int) + c - 1 := Int.ediv_le_self _ (by omega)
      omega
    have hpc := sc _ _ hp
    have s2 : Same Hc (upd Hc rp (.lst ys)) := j03 hcr
    have pr : p ≠ rp := j0m hpc hcr
    obtain ⟨v, ev, bv, kv⟩ := tv_at (K := K) (H := Hc) (m := at' % 5) h0 (Int.emod_nonneg _ (by decide)) (Int.emod_lt_of_pos _ (by decide))
    have hlen : ∀ {lo hi : Option Int}, (cutV (iV rs) lo hi).length ≤ 64 := fun {lo hi} => by
      have := j2i (iV rs) lo hi
      rw [j0w] at this
      omega
    refine gN ?_
    refine ⟨_, rfl, .inl ⟨rfl, _, SqL.of j01⟩, ?_⟩
    refine ⟨_, rfl, _, rfl, _, rfl, p, _, rfl, SqL.of (s2 _ _ hpc), fun q1 hq1 => ?_⟩
    refine ⟨_, rfl, _, _, rfl, rfl, _, rfl, by show 5 ≤ sizeLine; decide, fun q2 hq2 => ?_⟩
    refine ⟨_, rfl, _, _, rfl, rfl, by show (0 : Int) < 5; decide, q2, _, _, v, rfl, rfl, SqT.of j01, ev, by show 1 ≤ sizeLine; decide, fun q3 hq3 => ?_⟩
    refine ⟨q1, q3, cutV (iV rs) none (some at'), [v], rfl, rfl, j03 hq3 _ _ (j03 hq2 _ _ j01), j01, ?_, fun q4 hq4 => ?_⟩
    · have := hlen (lo := none) (hi := some at')
      exact Nat.le_trans (Nat.add_le_add_right this 1) (by decide)
    have hp4 := j03 (o := .lst (cutV (iV rs) none (some at') ++ [v])) hq4 _ _ (j03 (o := .lst [v]) hq3 _ _ (j03 (o := .tup (tv far)) hq2 _ _ (j03 (o := .lst (cutV (iV rs) none (some at'))) hq1 _ _ (s2 _ _ hpc))))
    refine ⟨_, rfl, _, rfl, _, _, rfl, rfl, _, rfl, p, _, rfl, SqL.of hp4, fun q5 hq5 => ?_⟩
    refine ⟨q4, q5, _, _, rfl, rfl, j03 hq5 _ _ j01, j01, ?_, fun q6 hq6 => ?_⟩
    · have a1 := hlen (lo := none) (hi := some at')
      have a2 := hlen (lo := some (at' + 1)) (hi := none)
      rw [List.length_append]
      exact Nat.le_trans (Nat.add_le_add (Nat.add_le_add_right a1 1) a2) (by decide)
    refine ⟨rp, ys, .ref q6, rfl, rfl, ?_, j1l (by omega), ?_⟩
    · exact j03 hq6 _ _ (j03 hq5 _ _ (j03 hq4 _ _ (j03 hq3 _ _ (j03 hq2 _ _ (j03 hq1 _ _ j01)))))
    have sG : Same (upd Hc rp (.lst ys)) (upd (upd (upd (upd (upd (upd (upd Hc rp (.lst ys)) q1 (.lst (cutV (iV rs) none (some at')))) q2 (.tup (tv far))) q3 (.lst [v])) q4 (.lst (cutV (iV rs) none (some at') ++ [v]))) q5 (.lst (cutV (iV rs) (some (at' + 1)) none))) q6 (.lst (cutV (iV rs) none (some at') ++ [v] ++ cutV (iV rs) (some (at' + 1)) none))) := by
      exact (((((j03 hq1).trans (j03 hq2)).trans (j03 hq3)).trans (j03 hq4)).trans (j03 hq5)).trans (j03 hq6)
    refine ⟨some (.int at'), hidR (upd (upd (upd (upd (upd (upd (upd Hc rp (.lst ys)) q1 (.lst (cutV (iV rs) none (some at')))) q2 (.tup (tv far))) q3 (.lst [v])) q4 (.lst (cutV (iV rs) none (some at') ++ [v]))) q5 (.lst (cutV (iV rs) (some (at' + 1)) none))) q6 (.lst (cutV (iV rs) none (some at') ++ [v] ++ cutV (iV rs) (some (at' + 1)) none))) rp, ys ++ [.ref q6], rfl, j6w, ?_, j5p, ?_, ?_⟩
    · exact j45 hrp ((sc.trans s2).trans sG)
    · have sH := j45 hcr (s2.trans sG)
      intro x hx
      rcases List.mem_append.mp hx with hx | hx
      · exact (hy x hx).same sH
      · rw [List.mem_singleton] at hx
        subst hx
        have n6 : q6 ≠ rp := fun z => by
          have h1 := j03 (o := .lst (cutV (iV rs) (some (at' + 1)) none)) hq5 _ _ (j03 (o := .lst (cutV (iV rs) none (some at') ++ [v])) hq4 _ _ (j03 (o := .lst [v]) hq3 _ _ (j03 (o := .tup (tv far)) hq2 _ _ (j03 (o := .lst (cutV (iV rs) none (some at'))) hq1 _ _ (j01 (H := Hc) (a := rp) (o := .lst ys))))))
          rw [z] at hq6
          rw [hq6] at h1
          cases h1
        refine rbM (y := v) ((j69 n6).trans j01) (fun z hz => ?_) (List.mem_append_left _ (List.mem_append_right _ (List.mem_singleton_self _))) bv
        rcases List.mem_append.mp hz with hz | hz
        · rcases List.mem_append.mp hz with hz | hz
          · exact kn_cut z hz
          · rw [List.mem_singleton] at hz
            rw [hz]
            exact kv.same sH
        · exact kn_cut z hz
    · rw [List.length_append, yl]
      rfl
  · rintro σ H2 ⟨v7, Hc, ys, rfl, rfl, sc, hcr, hy, yl⟩
    refine k v7 Hc ys sc hcr hy ?_
    have : ((rs.length : Int) + c - 1) / c ≤ (rs.length : Int) + c - 1 := Int.ediv_le_self _ (by omega)
    omega
end
end My
end
noncomputable section
namespace My
open PySem L2 L3
section
variable {K : PySem.W.Frag}
noncomputable def Dues (H : Hp) (dp : Addr) : Prop := ∃ d0 d1 d2 d3, H dp = some (.lst [.ref d0, .ref d1, .ref d2, .ref d3]) ∧ H d0 = some (.lst (bV (dueL 0))) ∧ H d1 = some (.lst (bV (dueL 1))) ∧ H d2 = some (.lst (bV (dueL 2))) ∧ H d3 = some (.lst (bV (dueL 3)))
theorem dI (i j : Nat) : decide (V.int (0 + (i : Int)) = V.int (j : Int)) = decide (i = j) := by
  by_cases h : i = j
  · rw [decide_eq_true h]
    exact decide_eq_true (by rw [h, Int.zero_add])
  · rw [decide_eq_false h]
    exact decide_eq_false fun z => h (by have := V.int.inj z; omega)
theorem st_due {U : TS} {D : Ends} {H0 H : Hp} {v0 v1 : Option V} {dp : Addr} (hdp : H dp = some (.lst [])) (hd0 : H0 dp = none) (s : Same H0 H)
    (k : ∀ v3 H', Same H0 H' → Dues H' dp → U D [v0, v1, some (.ref dp), v3, none, none, none, none, none, none] H') :
    tSeq (tFor (iRng1 (j06 (tC (V.int 4)) tNil)) (j47 3)
          (tDrop
            (tBM K "list" j4p (tVar 2)
              (j06
                (tLst
                  (j06 (tOp rEq (tVar 3) (tC (V.int 0)))
                    (j06 (tOp rEq (tVar 3) (tC (V.int 1)))
                      (j06 (tOp rEq (tVar 3) (tC (V.int 2)))
                        (j06 (tOp rEq (tVar 3) (tC (V.int 3)))
                          (j06 (tC (V.bl false)) (j06 (tC (V.bl true)) tNil)))))))
                tNil)))) U D [v0, v1, some (.ref dp), none, none, none, none, none, none, none] H := by
  refine ⟨4, rfl, by decide, by decide, ?_⟩
  refine j4f (lo := 0) (n := 4) (fun i σ H2 => ∃ v3 ds, σ = [v0, v1, some (.ref dp), v3, none, none, none, none, none, none] ∧ Same H0 H2 ∧ H2 dp = some (.lst ds) ∧ ds.length = i ∧ ∀ j, j < i → ∃ d, ds[j]? = some (.ref d) ∧ H2 d = some (.lst (bV (dueL j)))) ⟨none, [], rfl, s, hdp, rfl, fun j hj => absurd hj (Nat.not_lt_zero _)⟩ ?_ ?_
  · rintro i σ H2 hi ⟨v3, ds, rfl, s2, h2, hl, hd⟩
    intro D'
    refine gN ?_
    refine ⟨_, rfl, .inl ⟨rfl, _, SqL.of h2⟩, ?_⟩
    refine ⟨_, rfl, rfl, _, rfl, rfl, _, rfl, rfl, _, rfl, rfl, by show 6 ≤ sizeLine; decide, fun q hq => ?_⟩
    have e : [V.bl (decide (V.int (0 + (i : Int)) = V.int 0)), V.bl (decide (V.int (0 + (i : Int)) = V.int 1)), V.bl (decide (V.int (0 + (i : Int)) = V.int 2)), V.bl (decide (V.int (0 + (i : Int)) = V.int 3)), V.bl false, V.bl true] = bV (dueL i) := by
      have a0 := dI i 0
      have a1 := dI i 1
      have a2 := dI i 2
      have a3 := dI i 3
      show [V.bl (decide (V.int (0 + (i : Int)) = V.int ((0 : Nat) : Int))), V.bl (decide (V.int (0 + (i : Int)) = V.int ((1 : Nat) : Int))), V.bl (decide (V.int (0 + (i : Int)) = V.int ((2 : Nat) : Int))), V.bl (decide (V.int (0 + (i : Int)) = V.int ((3 : Nat) : Int))), V.bl false, V.bl true] = _
      rw [a0, a1, a2, a3]
      rfl
    rw [e]
    have sq := j03 (o := .lst (bV (dueL i))) hq
    refine ⟨dp, ds, .ref q, rfl, rfl, sq _ _ h2, j1l (by omega), ?_⟩
    have qn : q ≠ dp := fun z => by rw [z, h2] at hq; cases hq
    refine ⟨_, ds ++ [.ref q], rfl, j1x (s2.trans sq) hd0, j01, by rw [List.length_append, hl]; rfl, fun j hj => ?_⟩
    by_cases c : j < i
    · obtain ⟨d, e1, e2⟩ := hd j c
      refine ⟨d, by rw [List.getElem?_append_left (by omega)]; exact e1, ?_⟩
      have dn : d ≠ dp := fun z => by
        rw [z, h2] at e2
        have := congrArg List.length (HO.lst.inj (Option.some.inj e2))
        rw [hl] at this
        have l6 : (bV (dueL j)).length = 6 := rfl
        omega
      rw [j0q dn]
      exact sq _ _ e2
    · have : j = i := by omega
      subst this
      refine ⟨q, by rw [List.getElem?_append_right (by omega), hl, Nat.sub_self]; rfl, ?_⟩
      rw [j0q qn]
      exact j01
  · rintro σ H2 ⟨v3, ds, rfl, s2, h2, hl, hd⟩
    obtain ⟨d0, a0, b0⟩ := hd 0 (by decide)
    obtain ⟨d1, a1, b1⟩ := hd 1 (by decide)
    obtain ⟨d2, a2, b2⟩ := hd 2 (by decide)
    obtain ⟨d3, a3, b3⟩ := hd 3 (by decide)
    have e : ds = [.ref d0, .ref d1, .ref d2, .ref d3] := by
      match ds, hl with
      | [x0, x1, x2, x3], _ =>
        cases a0
        cases a1
        cases a2
        cases a3
        rfl
    rw [e] at h2
    exact k v3 H2 s2 ⟨d0, d1, d2, d3, h2, b0, b1, b2, b3⟩
theorem Dues.same {H H' : Hp} {dp : Addr} (h : Dues H dp) (s : Same H H') : Dues H' dp := by
  obtain ⟨d0, d1, d2, d3, a, b0, b1, b2, b3⟩ := h
  exact ⟨d0, d1, d2, d3, s _ _ a, s _ _ b0, s _ _ b1, s _ _ b2, s _ _ b3⟩
noncomputable def AmBad (K : PySem.W.Frag) (H : Hp) (x : V) : Prop := Known K H x ∧ amB x = false
theorem am_lo {n : Int} (h : n < 0) : amB (.int n) = false := by
  show (decide (0 ≤ n) && decide (n ≤ 1000000000)) = false
  rw [decide_eq_false (by omega)]
  rfl
theorem am_hi {n : Int} (h : 1000000000 < n) : amB (.int n) = false := by
  show (decide (0 ≤ n) && decide (n ≤ 1000000000)) = false
  rw [decide_eq_false (show ¬ n ≤ 1000000000 by omega), Bool.and_false]
theorem j7j {U : TS} {D : Ends} {H : Hp} {v0 v2 v3 v4 v5 v6 v7 : Option V} {far : Int} (h0 : 0 ≤ far) (k : ∀ ap H' xs, Same H H' → H' ap = some (.lst xs) → (∀ x ∈ xs, AmBad K H' x) → xs.length = 8 → U D [v0, some (.int far), v2, v3, v4, v5, v6, v7, some (.ref ap), none] H') :
    tSeq (tAsg
                      (tLst
                        (j06 (tC V.non)
                          (j06 (tC (V.str (Str.ofString "1")))
                            (j06 (tUn (rU fun i => V.int (-i)) (tC (V.int 1)))
                              (j06
                                (tOp (rI0 fun i j => V.int (i - j)) (tUn (rU fun i => V.int (-i)) (tC (V.int 1)))
                                  (tVar 1))
                                (j06 (tC (V.int 1000000001))
                                  (j06 (tOp (rI0 fun i j => V.int (i + j)) (tC (V.int 1000000001)) (tVar 1))
                                    (j06 (tC (V.bl true)) (j06 (tLst (j06 (tC (V.int 1)) tNil)) tNil)))))))))
                      (j47 8)) U D [v0, some (.int far), v2, v3, v4, v5, v6, v7, none, none] H := by
  refine ⟨_, rfl, _, rfl, _, rfl, _, _, rfl, rfl, _, rfl, _, _, rfl, rfl, by show 1 ≤ sizeLine; decide, fun p1 hp1 => ⟨by show 8 ≤ sizeLine; decide, fun ap hap => gN ?_⟩⟩
  refine k ap _ _ ((j03 hp1).trans (j03 hap)) j01 ?_ rfl
  intro x hx
  simp only [List.mem_cons, List.not_mem_nil, or_false] at hx
  rcases hx with rfl | rfl | rfl | rfl | rfl | rfl | rfl | rfl
  · exact ⟨knN, rfl⟩
  · exact ⟨knS, rfl⟩
  · exact ⟨knI _, rfl⟩
  · exact ⟨knI _, am_lo (by omega)⟩
  · exact ⟨knI _, rfl⟩
  · exact ⟨knI _, am_hi (by omega)⟩
  · exact ⟨knB, rfl⟩
  · exact ⟨knL (j03 hap _ _ j01), rfl⟩
noncomputable def j17 (K : PySem.W.Frag) (H : Hp) (y : V) : Prop := Known K H y ∧ j6u K H y ∧ ∀ l xs, y = .ref l → H l = some (.lst xs) → runX H [5, 3] xs = none
theorem stX_same {H H' : Hp} {z : V} (kn : Known K H z) (s : Same H H') (r : List Int) : stX H' r z = stX H r z := by
  cases z with
  | ref t => unfold stX; simp only [kn.there s]
  | _ => rfl
theorem j5q {H H' : Hp} (s : Same H H') : ∀ {xs : List V}, (∀ z ∈ xs, Known K H z) → ∀ r, runX H' r xs = runX H r xs
  | [], _, _ => rfl
  | z :: xs, h, r => by
    rw [j1a, j1a, stX_same (h z (List.mem_cons_self ..)) s]
    congr 1
    funext r'
    exact j5q s (fun y hy => h y (List.mem_cons_of_mem _ hy)) r'
theorem j17.same {H H' : Hp} {y : V} (h : j17 K H y) (s : Same H H') : j17 K H' y := by
  obtain ⟨kn, kg, n⟩ := h
  refine ⟨kn.same s, fun l xs e e2 z hz => ?_, fun l xs e e2 => ?_⟩
  · subst e
    rw [kn.there s] at e2
    obtain ⟨k1, k2⟩ := kg l xs rfl e2 z hz
    refine ⟨k1.same s, fun t ys e3 e4 u hu => ?_⟩
    subst e3
    rw [k1.there s] at e4
    exact (k2 t ys rfl e4 u hu).same s
  · subst e
    rw [kn.there s] at e2
    rw [j5q s (fun z hz => (kg l xs rfl e2 z hz).1)]
    exact n l xs rfl e2
theorem gbN {H : Hp} {y : V} (kn : Known K H y) (h : isL H y = false) : j17 K H y := by
  refine ⟨kn, fun l xs e e2 => ?_, fun l xs e e2 => ?_⟩ <;>
  · subst e
    unfold isL at h
    simp only [e2] at h
    cases h
theorem gb1 {H : Hp} {l : Addr} {z : V} (e : H l = some (.lst [z])) (kz : Known K H z) (kt : ∀ t ys, z = .ref t → H t = some (.tup ys) → ∀ u ∈ ys, Known K H u) (n : stX H [5, 3] z = none) : j17 K H (.ref l) := by
  refine ⟨knL e, fun l' xs e1 e2 y hy => ?_, fun l' xs e1 e2 => ?_⟩
  · cases e1
    rw [e] at e2
    cases e2
    rw [List.mem_singleton] at hy
    subst hy
    exact ⟨kz, kt⟩
  · cases e1
    rw [e] at e2
    cases e2
    rw [j1a, n]
    rfl
theorem gbT {H : Hp} {l t : Addr} {ys : List V} (e : H l = some (.lst [.ref t])) (et : H t = some (.tup ys)) (kt : ∀ u ∈ ys, Known K H u) (n : okV 2 ys = false) : j17 K H (.ref l) := by
  refine gb1 e (knT et) (fun t' zs e1 e2 => ?_) ?_
  · cases e1
    rw [et] at e2
    cases e2
    exact kt
  · unfold stX
    simp only [et]
    split
    · rename_i e3
      cases e3
      rename_i a b c
      have e4 : okG 2 (a, b, c) = false := by rw [← j51 2 (a, b, c)]; exact n
      show (if okG 2 (a, b, c) = true then _ else _) = none
      rw [e4]
      rfl
    · rfl
theorem knIs {H : Hp} {ns : List Int} : ∀ u ∈ iV ns, Known K H u := fun u hu => by
  obtain ⟨n, _, rfl⟩ := List.mem_map.mp hu
  exact knI n
theorem st_gifts {U : TS} {D : Ends} {H : Hp} {v0 v1 v2 v3 v4 v5 v6 v7 v8 : Option V} (k : ∀ gp Hb xs, Same H Hb → Hb gp = none → (∀ x ∈ xs, j17 K Hb x) → xs.length = 11 → U D [v0, v1, v2, v3, v4, v5, v6, v7, v8, some (.ref gp)] (upd Hb gp (.lst xs))) :
    tSeq (tAsg
                            (tLst
                              (j06 (tC V.non)
                                (j06 (tTup tNil)
                                  (j06 (tC (V.str (Str.ofString "")))
                                    (j06 tNewD
                                      (j06 (tLst (j06 (tC V.non) tNil))
                                        (j06
                                          (tLst (j06 (tTup (j06 (tC (V.int 0)) (j06 (tC (V.int 1)) tNil))) tNil))
                                          (j06
                                            (tLst
                                              (j06
                                                (tLst
                                                  (j06 (tC (V.int 0))
                                                    (j06 (tC (V.int 1)) (j06 (tC (V.int 1)) tNil))))
                                                tNil))
                                            (j06
                                              (tLst
                                                (j06
                                                  (fun x H Q =>
                                                    ∀ (p : Addr),
                                                      H p = none → Q (V.ref p) (upd H p (HO.tup (iV [0, 1, 1, 1]))))
                                                  tNil))
                                              (j06
                                                (tLst
                                                  (j06
                                                    (fun x H Q =>
                                                      ∀ (p : Addr),
                                                        H p = none → Q (V.ref p) (upd H p (HO.tup (iV [0, 0, 1]))))
                                                    tNil))
                                                (j06
                                                  (tLst
                                                    (j06
                                                      (fun x H Q =>
                                                        ∀ (p : Addr),
                                                          H p = none → Q (V.ref p) (upd H p (HO.tup (iV [0, 2, 1]))))
                                                      tNil))
                                                  (j06
                                                    (tLst
                                                      (j06
                                                        (tTup
                                                          (j06 (tUn (rU fun i => V.int (-i)) (tC (V.int 1)))
                                                            (j06 (tC (V.int 0)) (j06 (tC (V.int 1)) tNil))))
                                                        tNil))
                                                    tNil))))))))))))
                            (j47 9)) U D [v0, v1, v2, v3, v4, v5, v6, v7, v8, none] H := by
  have l1 : 1 ≤ sizeLine := by decide
  have l3 : 3 ≤ sizeLine := by decide
  refine ⟨Nat.zero_le _, fun p1 hp1 p2 hp2 => ⟨l1, fun p3 hp3 => ⟨by show 2 ≤ sizeLine; decide, fun p4 hp4 => ⟨l1, fun p5 hp5 => ⟨l3, fun p6 hp6 => ⟨l1, fun p7 hp7 p8 hp8 => ⟨l1, fun p9 hp9 p10 hp10 => ⟨l1, fun p11 hp11 p12 hp12 => ⟨l1, fun p13 hp13 => ⟨_, rfl, l3, fun p14 hp14 => ⟨l1, fun p15 hp15 => ⟨by show 11 ≤ sizeLine; decide, fun gp hgp => gN ?_⟩⟩⟩⟩⟩⟩⟩⟩⟩⟩⟩⟩
  refine k gp _ _ ?_ hgp ?_ rfl
  · repeat (first | exact j15 _ | refine Same.trans ?_ (j03 (by assumption)))
  · intro x hx
    simp only [List.mem_cons, List.not_mem_nil, or_false] at hx
    rcases hx with rfl | rfl | rfl | rfl | rfl | rfl | rfl | rfl | rfl | rfl | rfl
    · exact gbN knN rfl
    · refine gbN (knT (xs := []) ?_) (nT (xs := []) ?_) <;> repeat (first | exact j01 | refine j03 (by assumption) _ _ ?_)
    · exact gbN knS rfl
    · refine gbN (knD (xs := []) ?_) (nD (xs := []) ?_) <;> repeat (first | exact j01 | refine j03 (by assumption) _ _ ?_)
    · refine gb1 (z := .non) ?_ knN (fun t ys e => nomatch e) rfl
      repeat (first | exact j01 | refine j03 (by assumption) _ _ ?_)
    · refine gbT (t := p4) (ys := iV [0, 1]) ?_ ?_ knIs rfl <;> repeat (first | exact j01 | refine j03 (by assumption) _ _ ?_)
    · have e6 : ∀ {G : Hp}, G p6 = some (.lst [.int 0, .int 1, .int 1]) → stX G [5, 3] (.ref p6) = none := fun e => by unfold stX; simp only [e]
      refine gb1 (z := .ref p6) ?_ (knL (xs := [.int 0, .int 1, .int 1]) ?_) (fun t ys e e2 => ?_) (e6 ?_)
      · repeat (first | exact j01 | refine j03 (by assumption) _ _ ?_)
      · repeat (first | exact j01 | refine j03 (by assumption) _ _ ?_)
      · cases e
        have e3 : ∀ {G : Hp}, G p6 = some (.lst [.int 0, .int 1, .int 1]) → G p6 = some (.tup ys) → False := fun a b => by rw [a] at b; cases b
        refine (e3 ?_ e2).elim
        repeat (first | exact j01 | refine j03 (by assumption) _ _ ?_)
      · repeat (first | exact j01 | refine j03 (by assumption) _ _ ?_)
    · refine gbT (t := p8) (ys := iV [0, 1, 1, 1]) ?_ ?_ knIs rfl <;> repeat (first | exact j01 | refine j03 (by assumption) _ _ ?_)
    · refine gbT (t := p10) (ys := iV [0, 0, 1]) ?_ ?_ knIs (by decide) <;> repeat (first | exact j01 | refine j03 (by assumption) _ _ ?_)
    · refine gbT (t := p12) (ys := iV [0, 2, 1]) ?_ ?_ knIs (by decide) <;> repeat (first | exact j01 | refine j03 (by assumption) _ _ ?_)
    · refine gbT (t := p14) (ys := iV [-1, 0, 1]) ?_ ?_ knIs (by decide) <;> repeat (first | exact j01 | refine j03 (by assumption) _ _ ?_)
end
end My
end
noncomputable section
namespace My
open PySem L2 L3
section
variable {K : PySem.W.Frag}
theorem st_gapp {U : TS} {D : Ends} {Hb : Hp} {v0 v2 v3 v4 v5 v6 v7 v8 : Option V} {far : Int} {gp : Addr} {xs : List V} (h0 : 0 ≤ far) (hg : Hb gp = none) (hx : ∀ x ∈ xs, j17 K Hb x) (hl : xs.length = 11)
    (k : ∀ Hc ys, Same Hb Hc → Hc gp = none → (∀ x ∈ ys, j17 K Hc x) → ys.length = 12 → U D [v0, some (.int far), v2, v3, v4, v5, v6, v7, v8, some (.ref gp)] (upd Hc gp (.lst ys))) :
    tSeq (tDrop
                              (tBM K "list" j4p (tVar 9)
                                (j06
                                  (tLst
                                    (j06
                                      (tTup
                                        (j06 (tOp (rI0 fun i j => V.int (i + j)) (tC (V.int 2)) (tVar 1))
                                          (j06 (tC (V.int 0)) (j06 (tC (V.int 1)) tNil))))
                                      tNil))
                                  tNil))) U D [v0, some (.int far), v2, v3, v4, v5, v6, v7, v8, some (.ref gp)] (upd Hb gp (.lst xs)) := by
  refine ⟨_, rfl, .inl ⟨rfl, _, SqL.of j01⟩, ?_⟩
  refine ⟨_, rfl, _, _, rfl, rfl, by show 3 ≤ sizeLine; decide, fun p1 hp1 => ⟨by show 1 ≤ sizeLine; decide, fun p2 hp2 => ?_⟩⟩
  refine ⟨gp, xs, .ref p2, rfl, rfl, j03 hp2 _ _ (j03 hp1 _ _ j01), j1l (by omega), ?_⟩
  have sG : Same (upd Hb gp (.lst xs)) (upd (upd (upd Hb gp (.lst xs)) p1 (.tup [.int (2 + far), .int 0, .int 1])) p2 (.lst [.ref p1])) := (j03 hp1).trans (j03 hp2)
  have n1 : p1 ≠ gp := fun z => by rw [z, j01] at hp1; cases hp1
  have n2 : p2 ≠ gp := fun z => by
    have h1 := j03 (o := .tup [.int (2 + far), .int 0, .int 1]) hp1 _ _ (j01 (H := Hb) (a := gp) (o := .lst xs))
    rw [z] at hp2
    rw [hp2] at h1
    cases h1
  show U D _ (upd (upd (upd (upd Hb gp (.lst xs)) p1 (.tup [.int (2 + far), .int 0, .int 1])) p2 (.lst [.ref p1])) gp (.lst (xs ++ [.ref p2])))
  rw [j6w]
  have sH := j45 hg ((j03 (o := .lst xs) hg).trans sG)
  refine k _ _ sH j5p (fun x h => ?_) (by rw [List.length_append, hl]; rfl)
  rcases List.mem_append.mp h with h | h
  · exact (hx x h).same sH
  · rw [List.mem_singleton] at h
    subst h
    refine gbT (t := p1) (ys := iV [2 + far, 0, 1]) ((j69 n2).trans j01) ((j69 n1).trans (j03 hp2 _ _ j01)) knIs ?_
    show (plI (.int (2 + far)) 2 && _ && _) = false
    have : plI (.int (2 + far)) 2 = false := by
      show (decide (0 ≤ 2 + far) && decide (2 + far < 2)) = false
      rw [decide_eq_false (show ¬ 2 + far < 2 by omega), Bool.and_false]
    rw [this]
    rfl
theorem st_gcat {U : TS} {D : Ends} {Hc : Hp} {v0 v2 v3 v4 v5 v6 v7 v8 : Option V} {far : Int} {gp : Addr} {ys : List V} (h0 : 0 ≤ far) (hg : Hc gp = none) (hy : ∀ x ∈ ys, j17 K Hc x) (hl : ys.length = 12)
    (k : ∀ gq H' zs, Same Hc H' → H' gq = some (.lst zs) → (∀ x ∈ zs, j17 K H' x) → zs.length = 18 → U D [v0, some (.int far), v2, v3, v4, v5, v6, v7, v8, some (.ref gq)] H') :
    tSeq (tAsg
                                (tOp rCat (tVar 9)
                                  (tLst
                                    (j06
                                      (tLst
                                        (j06
                                          (fun x H Q =>
                                            ∀ (p : Addr), H p = none → Q (V.ref p) (upd H p (HO.tup (iV [0, 1, 0]))))
                                          tNil))
                                      (j06
                                        (tLst
                                          (j06
                                            (tTup
                                              (j06 (tC (V.int 0))
                                                (j06 (tC (V.int 1))
                                                  (j06
                                                    (tOp (rI0 fun i j => V.int (i - j))
                                                      (tUn (rU fun i => V.int (-i)) (tC (V.int 1))) (tVar 1))
                                                    tNil))))
                                            tNil))
                                        (j06
                                          (tLst
                                            (j06
                                              (tTup
                                                (j06 (tC (V.int 0))
                                                  (j06 (tC (V.int 1)) (j06 (tC (V.bl true)) tNil))))
                                              tNil))
                                          (j06
                                            (tLst
                                              (j06
                                                (tTup
                                                  (j06 (tC (V.str (Str.ofString "0")))
                                                    (j06 (tC (V.int 1)) (j06 (tC (V.int 1)) tNil))))
                                                tNil))
                                            (j06
                                              (tLst
                                                (j06
                                                  (fun x H Q =>
                                                    ∀ (p : Addr),
                                                      H p = none → Q (V.ref p) (upd H p (HO.tup (iV [0, 1, 1]))))
                                                  (j06 (tC (V.int 5)) tNil)))
                                              (j06
                                                (tLst
                                                  (j06
                                                    (tTup
                                                      (j06 (tC (V.int 0))
                                                        (j06 (tC (V.int 1)) (j06 (tC V.non) tNil))))
                                                    tNil))
                                                tNil))))))))
                                (j47 9)) U D [v0, some (.int far), v2, v3, v4, v5, v6, v7, v8, some (.ref gp)] (upd Hc gp (.lst ys)) := by
  have l1 : 1 ≤ sizeLine := by decide
  have l3 : 3 ≤ sizeLine := by decide
  have sg : Same Hc (upd Hc gp (.lst ys)) := j03 hg
  refine ⟨_, rfl, fun p1 hp1 => ⟨l1, fun p2 hp2 => ⟨_, rfl, _, rfl, _, _, rfl, rfl, l3, fun p3 hp3 => ⟨l1, fun p4 hp4 => ⟨l3, fun p5 hp5 => ⟨l1, fun p6 hp6 => ⟨l3, fun p7 hp7 => ⟨l1, fun p8 hp8 p9 hp9 => ⟨by show 2 ≤ sizeLine; decide, fun p10 hp10 => ⟨l3, fun p11 hp11 => ⟨l1, fun p12 hp12 => ⟨by show 6 ≤ sizeLine; decide, fun p13 hp13 => ⟨gp, p13, ys, _, rfl, rfl, ?_, j01, ?_, fun gq hgq => gN ?_⟩⟩⟩⟩⟩⟩⟩⟩⟩⟩⟩⟩⟩
  · repeat (first | exact j01 | refine j03 (by assumption) _ _ ?_)
  · rw [hl]
    show 12 + 6 ≤ sizeLine
    decide
  have sAll : ∀ {G : Hp}, Same (upd Hc gp (.lst ys)) G → Same Hc G := fun s => sg.trans s
  refine k gq _ _ (sAll ?_) j01 ?_ (by rw [List.length_append, hl]; rfl)
  · repeat (first | exact j15 _ | refine Same.trans ?_ (j03 (by assumption)))
  · intro x hx
    rcases List.mem_append.mp hx with hx | hx
    · refine (hy x hx).same (sAll ?_)
      repeat (first | exact j15 _ | refine Same.trans ?_ (j03 (by assumption)))
    · simp only [List.mem_cons, List.not_mem_nil, or_false] at hx
      rcases hx with rfl | rfl | rfl | rfl | rfl | rfl
      · refine gbT (t := p1) (ys := iV [0, 1, 0]) ?_ ?_ knIs (by decide) <;> repeat (first | exact j01 | refine j03 (by assumption) _ _ ?_)
      · refine gbT (t := p3) (ys := iV [0, 1, -1 - far]) ?_ ?_ knIs ?_
        · repeat (first | exact j01 | refine j03 (by assumption) _ _ ?_)
        · repeat (first | exact j01 | refine j03 (by assumption) _ _ ?_)
        · show (true && true && okE (.int 0) (.int 1) (.int (-1 - far))) = false
          have : okE (.int 0) (.int 1) (.int (-1 - far)) = false := by
            show (decide ((0 : Int) ≠ 1) && decide (0 < -1 - far)) = false
            rw [decide_eq_false (show ¬ 0 < -1 - far by omega), Bool.and_false]
          rw [this]
          rfl
      · refine gbT (t := p5) (ys := [.int 0, .int 1, .bl true]) ?_ ?_ (fun u hu => ?_) rfl
        · repeat (first | exact j01 | refine j03 (by assumption) _ _ ?_)
        · repeat (first | exact j01 | refine j03 (by assumption) _ _ ?_)
        · simp only [List.mem_cons, List.not_mem_nil, or_false] at hu
          rcases hu with rfl | rfl | rfl
          · exact knI _
          · exact knI _
          · exact knB
      · refine gbT (t := p7) (ys := [.str "0", .int 1, .int 1]) ?_ ?_ (fun u hu => ?_) rfl
        · repeat (first | exact j01 | refine j03 (by assumption) _ _ ?_)
        · repeat (first | exact j01 | refine j03 (by assumption) _ _ ?_)
        · simp only [List.mem_cons, List.not_mem_nil, or_false] at hu
          rcases hu with rfl | rfl | rfl
          · exact knS
          · exact knI _
          · exact knI _
      · have key : ∀ {G : Hp}, G p10 = some (.lst [.ref p9, .int 5]) → G p9 = some (.tup (iV [0, 1, 1])) → j17 K G (.ref p10) := fun {G} e et => by
          refine ⟨knL e, fun l xs e1 e2 z hz => ?_, fun l xs e1 e2 => ?_⟩
          · cases e1
            rw [e] at e2
            cases e2
            simp only [List.mem_cons, List.not_mem_nil, or_false] at hz
            rcases hz with rfl | rfl
            · refine ⟨knT et, fun t zs e3 e4 => ?_⟩
              cases e3
              rw [et] at e4
              cases e4
              exact knIs
            · exact ⟨knI _, fun t zs e3 => nomatch e3⟩
          · cases e1
            rw [e] at e2
            cases e2
            rw [j1a, j9p (a := 0) (b := 1) (c := 1) et, show stI [5, 3] (0, 1, 1) = some [4, 4] from by decide]
            rfl
        refine key ?_ ?_ <;> repeat (first | exact j01 | refine j03 (by assumption) _ _ ?_)
      · refine gbT (t := p11) (ys := [.int 0, .int 1, .non]) ?_ ?_ (fun u hu => ?_) rfl
        · repeat (first | exact j01 | refine j03 (by assumption) _ _ ?_)
        · repeat (first | exact j01 | refine j03 (by assumption) _ _ ?_)
        · simp only [List.mem_cons, List.not_mem_nil, or_false] at hu
          rcases hu with rfl | rfl | rfl
          · exact knI _
          · exact knI _
          · exact knN
end
end My
end
noncomputable section
namespace My
open PySem L2 L3
section
variable {P : Program} {w : World} {K : PySem.W.Frag} {mg : Str → Option Value} {base : Heap} {CR CG CA CU CT CS fR fA fG f2 fW : Addr}
theorem st_allR {U : TS} {D : Ends} {Hc : Hp} {v0 v1 v3 v4 v5 v7 v8 v9 : Option V} {dp rp : Addr} {ys : List V} (er : Er7 K mg CR CG CA CU CT CS) (fvR : Fv P w K mg base 6 fR (spWR K CR)) (hcr : Hc rp = none) (hy : ∀ x ∈ ys, j20 K Hc x) (hl : ys.length ≤ 1000) (hd : Dues Hc dp)
    (k : ∀ H', Same (upd Hc rp (.lst ys)) H' → U D [v0, v1, some (.ref dp), v3, v4, v5, some (.ref rp), v7, v8, v9] H') :
    tSeq (tIfS
                    (tNot
                      (tB
                        (j33 (j7i P w K mg base CR CG CA CU CT CS) [] E0
                          (j06 (tC (V.ref fR))
                            (j06
                              (tCB
                                (fun xs H Q =>
                                  ∃ p n,
                                    xs = [V.ref p] ∧
                                      H p = some (HO.rng 0 ((n : Nat) : Int)) ∧
                                        n ≤ 1000 ∧
                                          ∀ (l : Addr),
                                            H l = none →
                                              Q (V.ref l)
                                                (upd H l (HO.lst (iV (List.map (fun i : Nat => (i : Int)) (List.range n))))))
                                (j06
                                  (fun σ H Q =>
                                    j06 (tC (V.int 11)) tNil σ H fun vs H1 =>
                                      ∃ j : Int,
                                        vs = [V.int j] ∧
                                          -(2 ^ 62) ≤ j ∧
                                            j < 2 ^ 62 ∧
                                              ∀ (r : Addr), H1 r = none → Q (V.ref r) (upd H1 r (HO.rng 0 j)))
                                  tNil))
                              (j06 (tVar 6) (j06 (tOp (rIxL K) (tVar 2) (tC (V.int 0))) tNil)))))))
                    (tRet (tC (V.bl false))) j54) U D [v0, v1, some (.ref dp), v3, v4, v5, some (.ref rp), v7, v8, v9] (upd Hc rp (.lst ys)) := by
  have s1 : Same Hc (upd Hc rp (.lst ys)) := j03 hcr
  refine ⟨11, rfl, by decide, by decide, fun r hr' => ⟨r, 11, rfl, j01, by decide, fun l hl' => ?_⟩⟩
  obtain ⟨d0, d1, d2, d3, e, b0, b1, b2, b3⟩ := hd.same ((s1.trans (j03 (o := .rng 0 11) hr')).trans (j03 (o := .lst (iV (List.map (fun i : Nat => (i : Int)) (List.range 11)))) hl'))
  refine ⟨_, rfl, _, rfl, dp, _, _, _, rfl, rfl, SqL.of e, rfl, fR, l, rp, d0, _, ys, CR, 0, rfl, j01, j03 hl' _ _ (j03 hr' _ _ j01), b0, er.eR, hl, fun d hd' x hx H' s' => ?_, fun H' s' => ?_⟩
  · obtain ⟨n, _, rfl⟩ := List.mem_map.mp hd'
    have rb := (hy x hx).same (((s1.trans (j03 (o := .rng 0 11) hr')).trans (j03 hl')).trans s')
    exact ⟨_, fvR, fun Q E e => ⟨n, x, rfl, rb.1, rb.2, e⟩⟩
  · refine ⟨_, rfl, iteF (nxt (k H' (((j03 hr').trans (j03 hl')).trans s')))⟩
theorem st_allA {U : TS} {D : Ends} {H : Hp} {v0 v1 v3 v4 v5 v6 v7 v9 : Option V} {dp ap : Addr} {xs : List V} (er : Er7 K mg CR CG CA CU CT CS) (fvA : Fv P w K mg base 6 fA (spWA K CA)) (ha : H ap = some (.lst xs)) (hx : ∀ x ∈ xs, AmBad K H x) (hl : xs.length = 8) (hd : Dues H dp)
    (k : ∀ H', Same H H' → U D [v0, v1, some (.ref dp), v3, v4, v5, v6, v7, some (.ref ap), v9] H') :
    tSeq (tIfS
                        (tNot
                          (tB
                            (j33 (j7i P w K mg base CR CG CA CU CT CS) [] E0
                              (j06 (tC (V.ref fA))
                                (j06 (tLst (j06 (tC (V.int 0)) (j06 (tC (V.int 1)) tNil)))
                                  (j06 (tVar 8) (j06 (tOp (rIxL K) (tVar 2) (tC (V.int 2))) tNil)))))))
                        (tRet (tC (V.bl false))) j54) U D [v0, v1, some (.ref dp), v3, v4, v5, v6, v7, some (.ref ap), v9] H := by
  refine ⟨by show 2 ≤ sizeLine; decide, fun l hl' => ?_⟩
  have s1 : Same H (upd H l (.lst [.int 0, .int 1])) := j03 hl'
  obtain ⟨d0, d1, d2, d3, e, b0, b1, b2, b3⟩ := hd.same s1
  refine ⟨_, rfl, _, rfl, dp, _, _, _, rfl, rfl, SqL.of e, rfl, fA, l, ap, d2, _, xs, CA, 2, rfl, j01, s1 _ _ ha, b2, er.eA, by omega, fun d hd' x hx' H' s' => ?_, fun H' s' => ?_⟩
  · have am := hx x hx'
    simp only [List.mem_cons, List.not_mem_nil, or_false] at hd'
    rcases hd' with rfl | rfl
    · exact j2z fvA (am.1.same (s1.trans s')) (.inl ⟨.inl rfl, .inl am.2⟩)
    · exact j2z fvA (am.1.same (s1.trans s')) (.inl ⟨.inr rfl, .inl am.2⟩)
  · refine ⟨_, rfl, iteF (nxt (k H' (s1.trans s')))⟩
theorem st_allB {U : TS} {D : Ends} {H : Hp} {v0 v1 v3 v4 v5 v6 v7 v8 v9 : Option V} {dp : Addr} (er : Er7 K mg CR CG CA CU CT CS) (fvA : Fv P w K mg base 6 fA (spWA K CA)) (hd : Dues H dp)
    (k : ∀ H', Same H H' → U D [v0, v1, some (.ref dp), v3, v4, v5, v6, v7, v8, v9] H') :
    tSeq (tIfS
                          (tNot
                            (tB
                              (j33 (j7i P w K mg base CR CG CA CU CT CS) [] E0
                                (j06 (tC (V.ref fA))
                                  (j06 (tLst (j06 (tC (V.int 2)) tNil))
                                    (j06
                                      (tLst
                                        (j06 (tC V.non)
                                          (j06 (tC (V.str (Str.ofString "1")))
                                            (j06 (tC (V.bl true))
                                              (j06 (tLst (j06 (tC (V.int 1)) tNil))
                                                (j06 (tTup (j06 (tC (V.int 1)) tNil)) tNil))))))
                                      (j06 (tOp (rIxL K) (tVar 2) (tC (V.int 2))) tNil)))))))
                          (tRet (tC (V.bl false))) j54) U D [v0, v1, some (.ref dp), v3, v4, v5, v6, v7, v8, v9] H := by
  have l1 : 1 ≤ sizeLine := by decide
  refine ⟨l1, fun l hl' => ⟨l1, fun q1 hq1 => ⟨l1, fun q2 hq2 => ⟨by show 5 ≤ sizeLine; decide, fun q3 hq3 => ?_⟩⟩⟩⟩
  have s1 : Same H (upd (upd (upd (upd H l (.lst [.int 2])) q1 (.lst [.int 1])) q2 (.tup [.int 1])) q3 (.lst [.non, .str "1", .bl true, .ref q1, .ref q2])) := (((j03 hl').trans (j03 hq1)).trans (j03 hq2)).trans (j03 hq3)
  obtain ⟨d0, d1, d2, d3, e, b0, b1, b2, b3⟩ := hd.same s1
  refine ⟨_, rfl, dp, _, _, _, rfl, rfl, SqL.of e, rfl, fA, l, q3, d2, _, _, CA, 2, rfl, j03 hq3 _ _ (j03 hq2 _ _ (j03 hq1 _ _ j01)), j01, b2, er.eA, by show 5 ≤ 1000; decide, fun d hd' x hx' H' s' => ?_, fun H' s' => ?_⟩
  · rw [List.mem_singleton] at hd'
    subst hd'
    have e1 := s' _ _ (j03 (o := .lst [.non, .str "1", .bl true, .ref q1, .ref q2]) hq3 _ _ (j03 (o := .tup [.int 1]) hq2 _ _ (j01 (H := upd H l (.lst [.int 2])) (a := q1) (o := .lst [.int 1]))))
    have e2 := s' _ _ (j03 (o := .lst [.non, .str "1", .bl true, .ref q1, .ref q2]) hq3 _ _ (j01 (H := upd (upd H l (.lst [.int 2])) q1 (.lst [.int 1])) (a := q2) (o := .tup [.int 1])))
    simp only [List.mem_cons, List.not_mem_nil, or_false] at hx'
    rcases hx' with rfl | rfl | rfl | rfl | rfl
    · exact j2z fvA knN (.inr ⟨rfl, rfl⟩)
    · exact j2z fvA knS (.inr ⟨rfl, rfl⟩)
    · exact j2z fvA knB (.inr ⟨rfl, rfl⟩)
    · exact j2z fvA (knL e1) (.inr ⟨rfl, rfl⟩)
    · exact j2z fvA (knT e2) (.inr ⟨rfl, rfl⟩)
  · refine ⟨_, rfl, iteF (nxt (k H' (s1.trans s')))⟩
theorem st_allG {U : TS} {D : Ends} {H : Hp} {v0 v1 v3 v4 v5 v6 v7 v8 : Option V} {dp gp : Addr} {xs : List V} (er : Er7 K mg CR CG CA CU CT CS) (fvG : Fv P w K mg base 6 fG (j1z K CR CG)) (ha : H gp = some (.lst xs)) (hx : ∀ x ∈ xs, j17 K H x) (hl : xs.length = 18) (hd : Dues H dp)
    (k : ∀ H', Same H H' → U D [v0, v1, some (.ref dp), v3, v4, v5, v6, v7, v8, some (.ref gp)] H') :
    tSeq (tIfS
                                  (tNot
                                    (tB
                                      (j33 (j7i P w K mg base CR CG CA CU CT CS) [] E0
                                        (j06 (tC (V.ref fG))
                                          (j06
                                            (tLst
                                              (j06 (tLst (j06 (tC (V.int 5)) (j06 (tC (V.int 3)) tNil))) tNil))
                                            (j06 (tVar 9) (j06 (tOp (rIxL K) (tVar 2) (tC (V.int 1))) tNil)))))))
                                  (tRet (tC (V.bl false))) j54) U D [v0, v1, some (.ref dp), v3, v4, v5, v6, v7, v8, some (.ref gp)] H := by
  refine ⟨by show 2 ≤ sizeLine; decide, fun q hq => ⟨by show 1 ≤ sizeLine; decide, fun l hl' => ?_⟩⟩
  have s1 : Same H (upd (upd H q (.lst (iV [5, 3]))) l (.lst [.ref q])) := (j03 hq).trans (j03 hl')
  obtain ⟨d0, d1, d2, d3, e, b0, b1, b2, b3⟩ := hd.same s1
  refine ⟨_, rfl, _, rfl, dp, _, _, _, rfl, rfl, SqL.of e, rfl, fG, l, gp, d1, _, xs, CG, 1, rfl, j01, s1 _ _ ha, b1, er.eG, by omega, fun d hd' x hx' H' s' => ?_, fun H' s' => ?_⟩
  · rw [List.mem_singleton] at hd'
    subst hd'
    have gb := (hx x hx').same (s1.trans s')
    have e1 : H' q = some (.lst (iV [5, 3])) := s' _ _ (j03 hl' _ _ j01)
    exact j6v fvG e1 (by decide) (by unfold Bd; decide) gb.1 gb.2.1 gb.2.2
  · refine ⟨_, rfl, iteF (nxt (k H' (s1.trans s')))⟩
theorem st_two {U : TS} {D : Ends} {H : Hp} {v0 v1 v3 v5 v6 v7 v8 v9 : Option V} {dp p : Addr} {rs : List Int} (er : Er7 K mg CR CG CA CU CT CS) (fv2 : Fv P w K mg base 6 f2 (j7g K CR CU)) (fvW : Fv P w K mg base 6 fW (j67 K CR CU)) (hp : H p = some (.lst (iV rs))) (hb : Bd 1000000 rs) (hne : rs ≠ []) (hl : rs.length ≤ 64) (hd : Dues H dp)
    (k : ∀ H', Same H H' → U D [v0, v1, some (.ref dp), v3, some (.ref p), v5, v6, v7, v8, v9] H') :
    tSeq (tIfS
                                    (tOr
                                      (j80
                                        (tOp (rEqL K rBl true)
                                          (j33 (j43 P w K mg base CR CG CA CU CT CS) [] E0
                                            (j06 (tC (V.ref f2))
                                              (j06 (tVar 4)
                                                (j06 (tOp rCat (tVar 4) (tLst (j06 (tC (V.int 0)) tNil))) tNil))))
                                          (tOp (rIxL K) (tVar 2) (tC (V.int 3)))))
                                      (j80
                                        (tOp (rEqL K rBl true)
                                          (j33 (j43 P w K mg base CR CG CA CU CT CS) [] E0
                                            (j06 (tC (V.ref fW))
                                              (j06 (tVar 4)
                                                (j06 (tOp rCat (tVar 4) (tLst (j06 (tC (V.int 0)) tNil))) tNil))))
                                          (tOp (rIxL K) (tVar 2) (tC (V.int 3))))))
                                    (tRet (tC (V.bl false))) j54) U D [v0, v1, some (.ref dp), v3, some (.ref p), v5, v6, v7, v8, v9] H := by
  have l1 : 1 ≤ sizeLine := by decide
  have lc : (iV rs).length + [V.int 0].length ≤ sizeLine := by
    rw [j0w]
    exact Nat.le_trans (Nat.add_le_add_right hl 1) (by decide)
  have ea : iV rs ++ [V.int 0] = iV (rs ++ [0]) := iV_sn rs 0
  have hb1 : Bd 1000000 (rs ++ [0]) := fun x hx => by
    rcases List.mem_append.mp hx with hx | hx
    · exact hb x hx
    · rw [List.mem_singleton] at hx
      rw [hx]
      decide
  have hn1 : rs ++ [0] ≠ [] := by simp
  have ln : ∀ {G : Hp} {q2 : Addr}, G p = some (.lst (iV rs)) → G q2 = some (.lst (iV (rs ++ [0]))) → lenV G (.ref p) ≠ lenV G (.ref q2) := fun e1 e2 => by
    unfold lenV
    simp only [e1, e2, j0w, List.length_append]
    show rs.length ≠ rs.length + 1
    omega
  refine ⟨_, rfl, _, rfl, l1, fun q1 hq1 => ⟨p, q1, _, _, rfl, rfl, j03 hq1 _ _ hp, j01, lc, fun q2 hq2 => ?_⟩⟩
  rw [ea]
  have s2 : Same H (upd (upd H q1 (.lst [.int 0])) q2 (.lst (iV (rs ++ [0])))) := (j03 hq1).trans (j03 hq2)
  refine ⟨f2, .ref p, .ref q2, CU, 3, rfl, er.eU, ⟨_, fv2, fun Q E e => ⟨.ref p, .ref q2, rfl, kdI (s2 _ _ hp), kdI j01, .inr ⟨j0u (s2 _ _ hp) hne hb, j0u j01 hn1 hb1, ln (s2 _ _ hp) j01, e⟩⟩⟩, fun p3 H3 s3 h3 => ?_⟩
  have t3 := s2.trans s3
  obtain ⟨d0, d1, d2, d3, e, b0, b1, b2, b3⟩ := hd.same t3
  refine ⟨_, rfl, dp, _, _, _, rfl, rfl, SqL.of e, rfl, dueL 3, dueL 3, j21 h3, j21 b3, _, rfl, ?_⟩
  rw [neF]
  refine iteF ?_
  refine ⟨_, rfl, _, rfl, l1, fun q4 hq4 => ⟨p, q4, _, _, rfl, rfl, j03 hq4 _ _ (t3 _ _ hp), j01, lc, fun q5 hq5 => ?_⟩⟩
  rw [ea]
  have s5 : Same H3 (upd (upd H3 q4 (.lst [.int 0])) q5 (.lst (iV (rs ++ [0])))) := (j03 hq4).trans (j03 hq5)
  have t5 := t3.trans s5
  refine ⟨fW, .ref p, .ref q5, CU, 3, rfl, er.eU, ⟨_, fvW, fun Q E e => ⟨.ref p, .ref q5, rfl, kdI (t5 _ _ hp), kdI j01, .inr (.inl ⟨j0u (t5 _ _ hp) hne hb, j0u j01 hn1 hb1, ln (t5 _ _ hp) j01, e⟩)⟩⟩, fun p6 H6 s6 h6 => ?_⟩
  have t6 := t5.trans s6
  obtain ⟨d0, d1, d2, d3, e, b0, b1, b2, b3⟩ := hd.same t6
  refine ⟨_, rfl, dp, _, _, _, rfl, rfl, SqL.of e, rfl, dueL 3, dueL 3, j21 h6, j21 b3, _, rfl, ?_⟩
  rw [neF]
  exact iteF (nxt (k H6 t6))
theorem st_end {D : Ends} {H : Hp} {v0 v1 v3 v6 v7 v8 v9 : Option V} {dp p kp : Addr} {rs : List Int} (er : Er7 K mg CR CG CA CU CT CS) (fvW : Fv P w K mg base 6 fW (j67 K CR CU)) (hp : H p = some (.lst (iV rs))) (hk : H kp = some (.lst (iV rs))) (hb : Bd 900000 rs) (hne : rs ≠ []) (hl : rs.length ≤ 64) (hd : Dues H dp)
    (ret : ∀ H', D.rt (.bl true) H') :
    tSeq
                                    (tIfS
                                      (tOr
                                        (j80
                                          (tOp (rEqL K rBl true)
                                            (j33 (j43 P w K mg base CR CG CA CU CT CS) [] E0
                                              (j06 (tC (V.ref fW))
                                                (j06 (tVar 4)
                                                  (j06
                                                    (tOp rCat
                                                      (tLst
                                                        (j06
                                                          (tOp (rI0 fun i j => V.int (i + j))
                                                            (tOp (rIxL K) (tVar 4) (tC (V.int 0))) (tC (V.int 1)))
                                                          tNil))
                                                      (tSl (rSlL K) (tVar 4) (tPart (tC (V.int 1))) j4m))
                                                    tNil))))
                                            (tOp (rIxL K) (tVar 2) (tC (V.int 3)))))
                                        (tNot (tB (j33 spBR [] E0 (j06 (tVar 2) tNil)))))
                                      (tRet (tC (V.bl false))) j54)
                                    (tRet
                                      (tAndV (tOp (rEqL K rInt false) (tVar 4) (tVar 5))
                                        (tAndV
                                          (tOp rEq
                                            (j33 (j5o K CR CA) [] (fun x x_1 x_2 => False)
                                              (j06 (tLst (j06 (tC (V.int 1)) tNil))
                                                (j06
                                                  (tOp (rI CPow fun i j => V.int (i ^ j.toNat)) (tC (V.int 10))
                                                    (tC (V.int 9)))
                                                  tNil)))
                                            (tC (V.int 0)))
                                          (tOp (rEqL K rInt false)
                                            (j33 (j4j K CR CA) [] (fun x x_1 x_2 => False)
                                              (j06 (tLst (j06 (tC (V.int 5)) tNil)) (j06 (tC (V.int 0)) tNil)))
                                            (tLst (j06 (tC (V.int 5)) tNil)))))) D [v0, v1, some (.ref dp), v3, some (.ref p), some (.ref kp), v6, v7, v8, v9] H := by
  have l1 : 1 ≤ sizeLine := by decide
  have hb6 : Bd 1000000 rs := fun x hx => by have := hb x hx; omega
  obtain ⟨r0, rt, rfl⟩ : ∃ r0 rt, rs = r0 :: rt := by
    cases rs with
    | nil => exact absurd rfl hne
    | cons r0 rt => exact ⟨r0, rt, rfl⟩
  have hb1 : Bd 1000000 ((r0 + 1) :: rt) := fun x hx => by
    rcases List.mem_cons.mp hx with hx | hx
    · have := hb r0 (List.mem_cons_self ..)
      omega
    · exact hb6 x (List.mem_cons_of_mem _ hx)
  have ec : [V.int (r0 + 1)] ++ cutV (iV (r0 :: rt)) (some 1) none = iV ((r0 + 1) :: rt) := by
    rw [ct_from (by decide) (by rw [List.length_cons]; omega)]
    rfl
  have lcut : [V.int (r0 + 1)].length + (cutV (iV (r0 :: rt)) (some 1) none).length ≤ sizeLine := by
    have := j2i (iV (r0 :: rt)) (some 1) none
    rw [j0w] at this
    exact Nat.le_trans (Nat.add_le_add_left (Nat.le_trans this hl) 1) (by decide)
  refine ⟨_, rfl, _, rfl, p, _, _, _, rfl, rfl, SqL.of hp, (show atI (iV (r0 :: rt)) 0 = some (V.int r0) from j9g (fs := r0 :: rt) (i := 0) (by simp)), _, _, rfl, rfl, l1, fun q1 hq1 => ⟨_, rfl, 1, rfl, p, _, rfl, SqL.of (j03 hq1 _ _ hp), fun q2 hq2 => ⟨q1, q2, _, _, rfl, rfl, j03 hq2 _ _ j01, j01, lcut, fun q3 hq3 => ?_⟩⟩⟩
  rw [ec]
  have s3 : Same H (upd (upd (upd H q1 (.lst [.int (r0 + 1)])) q2 (.lst (cutV (iV (r0 :: rt)) (some 1) none))) q3 (.lst (iV ((r0 + 1) :: rt)))) := ((j03 hq1).trans (j03 hq2)).trans (j03 hq3)
  have hsum : (r0 :: rt).sum ≠ ((r0 + 1) :: rt).sum := by
    rw [List.sum_cons, List.sum_cons]
    omega
  refine ⟨fW, .ref p, .ref q3, CU, 3, rfl, er.eU, ⟨_, fvW, fun Q E e => ⟨.ref p, .ref q3, rfl, kdI (s3 _ _ hp), kdI j01, .inr (.inr ⟨p, q3, r0 :: rt, (r0 + 1) :: rt, rfl, rfl, s3 _ _ hp, j01, j0u (s3 _ _ hp) (by simp) hb6, j0u j01 (by simp) hb1, rfl, by omega, hb6, hb1, hsum, e⟩)⟩⟩, fun p4 H4 s4 h4 => ?_⟩
  have t4 := s3.trans s4
  obtain ⟨d0, d1, d2, d3, e, b0, b1, b2, b3⟩ := hd.same t4
  refine ⟨_, rfl, dp, _, _, _, rfl, rfl, SqL.of e, rfl, dueL 3, dueL 3, j21 h4, j21 b3, _, rfl, ?_⟩
  rw [neF]
  refine iteF ?_
  refine ⟨_, rfl, dp, d0, d1, d2, d3, rfl, e, b1, b2, fun H5 s5 => ⟨_, rfl, iteF (nxt ?_)⟩⟩
  have t5 := t4.trans s5
  refine ⟨_, rfl, _, rfl, r0 :: rt, r0 :: rt, j4a (t5 _ _ hp), j4a (t5 _ _ hk), _, rfl, ?_⟩
  rw [eqT]
  refine iteT ?_
  refine ⟨l1, fun q6 hq6 => ⟨_, _, rfl, rfl, ⟨by decide, by decide, by decide⟩, .ref q6, _, rfl, kdI (ns := [1]) j01, knI _, .inr (.inr ⟨q6, [1], _, rfl, rfl, j01, by decide, by unfold Bd; decide, by decide, fun H7 s7 => ⟨rfl, _, rfl, ?_⟩⟩)⟩⟩
  have ea : decide (V.int (abv [1] ((10 : Int) ^ (9 : Int).toNat)) = V.int 0) = true := by decide +kernel
  rw [ea]
  refine iteT ?_
  refine ⟨l1, fun q8 hq8 => ⟨.ref q8, .int 0, rfl, kdI (ns := [5]) j01, knI _, .inr (.inr ⟨q8, [5], 0, rfl, rfl, j01, by decide, by decide, by unfold Bd; decide, by decide, fun out q9 H9 low ge hq9 h9 s9 => ?_, fun out low lt => ?_⟩)⟩⟩
  · rw [low00 low] at h9
    refine ⟨l1, fun q10 hq10 => ⟨[5], [5], j4a (j03 hq10 _ _ h9), j4a j01, ?_⟩⟩
    rw [eqT]
    exact ret _
  · rw [low00 low] at lt
    obtain ⟨y, hy, lt⟩ := lt
    rw [List.mem_singleton] at hy
    omega
end
end My
end
noncomputable section
namespace My
open PySem L2 L3
section
variable {P : Program} {w : World} {K : PySem.W.Frag} {mg : Str → Option Value} {base : Heap} {CR CG CA CU CT CS : Addr}
abbrev s_law : Stmt := tp 58
theorem j2a : FnScope ["_law_script", "_law_far", "_law_due", "_law_k", "_law_row_here", "_law_kept", "_law_rows", "_law_at", "_law_amounts", "_law_gifts"] ["_law_script"] (j08 s_law) := ⟨rfl, rfl, rfl, by decide +kernel, rfl, by decide +kernel, by decide +kernel⟩
noncomputable def spLaw (K : PySem.W.Frag) : Sp := fun vs H Q _ => ∃ (a : Addr) (ns : List Int), vs = [.ref a] ∧ SqL K H a (iV ns) ∧ ns.length ≤ 63 ∧ ∀ H', Q (.bl true) H'
structure Tx7 (P : Program) (w : World) (K : PySem.W.Frag) (mg : Str → Option Value) (base : Heap) (CR CG CA CU CT CS fR fA fG f2 fW : Addr) : Prop where
  B : Bl mg
  er : Er7 K mg CR CG CA CU CT CS
  g_law_with_row : mg "_law_with_row" = some (.ref fR)
  fvR : Fv P w K mg base 6 fR (spWR K CR)
  g_law_with_amount : mg "_law_with_amount" = some (.ref fA)
  fvA : Fv P w K mg base 6 fA (spWA K CA)
  g_law_with_gifts : mg "_law_with_gifts" = some (.ref fG)
  fvG : Fv P w K mg base 6 fG (j1z K CR CG)
  g_law_with_two : mg "_law_with_two" = some (.ref f2)
  fv2 : Fv P w K mg base 6 f2 (j7g K CR CU)
  g_law_with_wholes : mg "_law_with_wholes" = some (.ref fW)
  fvW : Fv P w K mg base 6 fW (j67 K CR CU)
  c_cell_at : Ok P w K mg base 1 "_law_cell_at" ["_law_script", "_law_k"] (j9f K)
  c_row : Ok P w K mg base 2 "_law_row" ["_law_script"] (spRow K)
  c_told : Ok P w K mg base 7 "_law_told" ["_law_ask", "_law_one", "_law_other_here"] (j43 P w K mg base CR CG CA CU CT CS)
  c_all : Ok P w K mg base 8 "_law_all" ["_law_ask", "_law_doors", "_law_things", "_law_due"] (j7i P w K mg base CR CG CA CU CT CS)
  c_bounds_right : Ok P w K mg base 8 "_law_bounds_right" ["_law_due"] spBR
  c_above : OkY P w K mg base 4 "above" ["row", "mark"] (j5o K CR CA)
  c_taken : OkY P w K mg base 4 "taken" ["row", "amount"] (j4j K CR CA)
theorem ok_law {f fR fA fG f2 fW : Addr} {fd : FuncData} (F : Fun K "law" "law" s_law f fd) (T : Tx7 P w K mg base CR CG CA CU CT CS fR fA fG f2 fW) : FnOk P w K mg base CX0 9 f fd ["_law_script"] (spLaw K) := by
  refine F.ok j2a (fun vs H Q E h => ?_) (fun cdv A outer s H vs Q E hr h => ?_)
  · obtain ⟨a, ns, rfl, _⟩ := h
    rfl
  · obtain ⟨a, ns, rfl, hS, hl, ret⟩ := h
    obtain ⟨B, er, g_law_with_row, fvR, g_law_with_amount, fvA, g_law_with_gifts, fvG, g_law_with_two, fv2, g_law_with_wholes, fvW, c_cell_at, c_row, c_told, c_all, c_bounds_right, c_above, c_taken⟩ := T
    have hu := hr.units0
    refine ⟨_, (j05 (j13 (i := 1) j2a.nd rfl (Or.inl rfl) (j0p j4b (j0c c_cell_at (hr.mono (by decide)) rfl (j00 (pv 0) (j00 j04 j02))) (j0p op_pow j04 j04)))
      (j05 (j13 (i := 2) j2a.nd rfl (Or.inl rfl) (j0a j02))
      (@j05 _ _ _ _ _ (j3a PassesOwn.never rfl (j55 rfl B.range (j00 j04 j02)) (j24 (i := 3) j2a.nd rfl (Or.inl rfl))
      (j07 (j0r (j87 PySem.F.plainAttrs_list PySem.F.slot_list_append PySem.F.type_list_append j1s (pv 2) (j00 (@j0a _ _ _ _ (@j09 _ _ _ _ _ (j1j j2e (pv 3) j04 (j0g _)) (@j09 _ _ _ _ _ (j1j j2e (pv 3) j04 (j0g _)) (@j09 _ _ _ _ _ (j1j j2e (pv 3) j04 (j0g _)) (@j09 _ _ _ _ _ (j1j j2e (pv 3) j04 (j0g _)) (@j09 _ _ _ _ _ j1i (@j09 _ _ _ _ _ j1i j02 rfl) rfl) rfl) rfl) rfl) rfl)) j02)))))
      (j05 (j13 (i := 4) j2a.nd rfl (Or.inl rfl) (j0c c_row (hr.mono (by decide)) rfl (j00 (pv 0) j02)))
      (j05 (j13 (i := 5) j2a.nd rfl (Or.inl rfl) (j3t j3c rfl B.list j27 (j00 (pv 4) j02)))
      (@j05 _ _ _ _ _ (@j13 _ _ 6 _ _ _ _ j2a.nd rfl (Or.inl rfl) (@j0a _ _ _ _ (@j09 _ _ _ _ _ j22 (@j09 _ _ _ _ _ (j1r j02) (@j09 _ _ _ _ _ (j0a j02) (@j09 _ _ _ _ _ (j1r (j00 j04 (j00 j04 j02))) (@j09 _ _ _ _ _ j39 (@j09 _ _ _ _ _ j9c (@j09 _ _ _ _ _ j04 (@j09 _ _ _ _ _ (j0a (j00 j22 j02)) (@j09 _ _ _ _ _ (j0a (j00 j39 j02)) (@j09 _ _ _ _ _ (j0a (j00 j1i j02)) (@j09 _ _ _ _ _ (j0a (j00 j04 j02)) (@j09 _ _ _ _ _ (j0a (j00 (j0p j2f (j32 j1q j04) (pv 1)) j02)) (@j09 _ _ _ _ _ (j0a (j00 (j0a (j00 j04 j02)) j02)) j02 rfl) rfl) rfl) rfl) rfl) rfl) rfl) rfl) rfl) rfl) rfl) rfl) rfl)) rfl (.inl rfl))
      (j05 (j3a PassesOwn.never rfl (j9e rfl B.range (j00 j04 (j00 (j0d j0n rfl B.len PySem.boot_len (j00 (pv 4) j02)) (j00 (j0p j2n j04 (j0p j7u (j0d j0n rfl B.len PySem.boot_len (j00 (pv 4) j02)) j04)) j02)))) (j24 (i := 7) j2a.nd rfl (Or.inl rfl))
      (j07 (j0r (j87 PySem.F.plainAttrs_list PySem.F.slot_list_append PySem.F.type_list_append j1s (pv 6) (j00 (j0p j3v (j0p j3v (j4n j5v (pv 4) j5s (j5t (pv 7))) (j0a (j00 (j0x j1k (j1r (j00 j22 (j00 j39 (j00 j1i (j00 (j0p j2n j04 (pv 1)) (j00 (j32 j1q j04) j02)))))) (j0p j4b (pv 7) j04) (fun _ _ => rfl)) j02))) (j4n j5v (pv 4) (j5t (j0p j2n (pv 7) j04)) j5s)) j02)))))
      (j05 (j12 (j14 (j19 (j0c c_all (hr.mono (by decide)) rfl (j00 (j0o (v := .ref _) rfl g_law_with_row rfl) (j00 (j3t (j4y rfl) rfl B.list j27 (j00 (pe_rng1 rfl B.range (j00 j04 j02)) j02)) (j00 (pv 6) (j00 (j0x j0v (pv 2) j04 (fun _ _ => rfl)) j02))))))) (j07 (j0h j1i)) j0i)
      (@j05 _ _ _ _ _ (@j13 _ _ 8 _ _ _ _ j2a.nd rfl (Or.inl rfl) (@j0a _ _ _ _ (@j09 _ _ _ _ _ j22 (@j09 _ _ _ _ _ j39 (@j09 _ _ _ _ _ (j32 j1q j04) (@j09 _ _ _ _ _ (j0p j2f (j32 j1q j04) (pv 1)) (@j09 _ _ _ _ _ j04 (@j09 _ _ _ _ _ (j0p j2n j04 (pv 1)) (@j09 _ _ _ _ _ j1i (@j09 _ _ _ _ _ (j0a (j00 j04 j02)) j02 rfl) rfl) rfl) rfl) rfl) rfl) rfl) rfl)) rfl (.inl rfl))
      (j05 (j12 (j14 (j19 (j0c c_all (hr.mono (by decide)) rfl (j00 (j0o (v := .ref _) rfl g_law_with_amount rfl) (j00 (j0a (j00 j04 (j00 j04 j02))) (j00 (pv 8) (j00 (j0x j0v (pv 2) j04 (fun _ _ => rfl)) j02))))))) (j07 (j0h j1i)) j0i)
      (@j05 _ _ _ _ _ (j12 (j14 (j19 (j0c c_all (hr.mono (by decide)) rfl (j00 (j0o (v := .ref _) rfl g_law_with_amount rfl) (j00 (j0a (j00 j04 j02)) (j00 (@j0a _ _ _ _ (@j09 _ _ _ _ _ j22 (@j09 _ _ _ _ _ j39 (@j09 _ _ _ _ _ j1i (@j09 _ _ _ _ _ (j0a (j00 j04 j02)) (@j09 _ _ _ _ _ (j1r (j00 j04 j02)) j02 rfl) rfl) rfl) rfl) rfl)) (j00 (j0x j0v (pv 2) j04 (fun _ _ => rfl)) j02))))))) (j07 (j0h j1i)) j0i)
      (@j05 _ _ _ _ _ (@j13 _ _ 9 _ _ _ _ j2a.nd rfl (Or.inl rfl) (@j0a _ _ _ _ (@j09 _ _ _ _ _ j22 (@j09 _ _ _ _ _ (j1r j02) (@j09 _ _ _ _ _ j39 (@j09 _ _ _ _ _ j9c (@j09 _ _ _ _ _ (j0a (j00 j22 j02)) (@j09 _ _ _ _ _ (j0a (j00 (j1r (j00 j04 (j00 j04 j02))) j02)) (@j09 _ _ _ _ _ (j0a (j00 (j0a (j00 j04 (j00 j04 (j00 j04 j02)))) j02)) (@j09 _ _ _ _ _ (j0a (j00 (j16 (ns := [0, 1, 1, 1]) (.cons (.cons (.cons (.cons .nil)))) (by decide)) j02)) (@j09 _ _ _ _ _ (j0a (j00 (j16 (ns := [0, 0, 1]) (.cons (.cons (.cons .nil))) (by decide)) j02)) (@j09 _ _ _ _ _ (j0a (j00 (j16 (ns := [0, 2, 1]) (.cons (.cons (.cons .nil))) (by decide)) j02)) (@j09 _ _ _ _ _ (j0a (j00 (j1r (j00 (j32 j1q j04) (j00 j04 (j00 j04 j02)))) j02)) j02 rfl) rfl) rfl) rfl) rfl) rfl) rfl) rfl) rfl) rfl) rfl)) rfl (.inl rfl))
      (j05 (j0r (j87 PySem.F.plainAttrs_list PySem.F.slot_list_append PySem.F.type_list_append j1s (pv 9) (j00 (j0a (j00 (j1r (j00 (j0p j2n j04 (pv 1)) (j00 j04 (j00 j04 j02)))) j02)) j02)))
      (@j05 _ _ _ _ _ (@j13 _ _ 9 _ _ _ _ j2a.nd rfl (Or.inl rfl) (j0p j3v (pv 9) (@j0a _ _ _ _ (@j09 _ _ _ _ _ (j0a (j00 (j16 (ns := [0, 1, 0]) (.cons (.cons (.cons .nil))) (by decide)) j02)) (@j09 _ _ _ _ _ (j0a (j00 (j1r (j00 j04 (j00 j04 (j00 (j0p j2f (j32 j1q j04) (pv 1)) j02)))) j02)) (@j09 _ _ _ _ _ (j0a (j00 (j1r (j00 j04 (j00 j04 (j00 j1i j02)))) j02)) (@j09 _ _ _ _ _ (j0a (j00 (j1r (j00 j39 (j00 j04 (j00 j04 j02)))) j02)) (@j09 _ _ _ _ _ (j0a (j00 (j16 (ns := [0, 1, 1]) (.cons (.cons (.cons .nil))) (by decide)) (j00 j04 j02))) (@j09 _ _ _ _ _ (j0a (j00 (j1r (j00 j04 (j00 j04 (j00 j22 j02)))) j02)) j02 rfl) rfl) rfl) rfl) rfl) rfl))) rfl (.inl rfl))
      (j05 (j12 (j14 (j19 (j0c c_all (hr.mono (by decide)) rfl (j00 (j0o (v := .ref _) rfl g_law_with_gifts rfl) (j00 (j0a (j00 (j0a (j00 j04 (j00 j04 j02))) j02)) (j00 (pv 9) (j00 (j0x j0v (pv 2) j04 (fun _ _ => rfl)) j02))))))) (j07 (j0h j1i)) j0i)
      (j05 (j12 (PW.pt (j4k (j0e (j2g hu j2t) (j0c c_told (hr.mono (by decide)) rfl (j00 (j0o (v := .ref _) rfl g_law_with_two rfl) (j00 (pv 4) (j00 (j0p j3v (pv 4) (j0a (j00 j04 j02))) j02)))) (j0x j0v (pv 2) j04 (fun _ _ => rfl)) (j0g _)) (j2m (j0e (j2g hu j2t) (j0c c_told (hr.mono (by decide)) rfl (j00 (j0o (v := .ref _) rfl g_law_with_wholes rfl) (j00 (pv 4) (j00 (j0p j3v (pv 4) (j0a (j00 j04 j02))) j02)))) (j0x j0v (pv 2) j04 (fun _ _ => rfl)) (j0g _))))) (j07 (j0h j1i)) j0i)
      (j05 (j12 (PW.pt (j4k (j0e (j2g hu j2t) (j0c c_told (hr.mono (by decide)) rfl (j00 (j0o (v := .ref _) rfl g_law_with_wholes rfl) (j00 (pv 4) (j00 (j0p j3v (j0a (j00 (j0p j2n (j0x j0v (pv 4) j04 (fun _ _ => rfl)) j04) j02)) (j4n j5v (pv 4) (j5t j04) j5s)) j02)))) (j0x j0v (pv 2) j04 (fun _ _ => rfl)) (j0g _)) (j2m (j14 (j19 (j0c c_bounds_right (hr.mono (by decide)) rfl (j00 (pv 2) j02))))))) (j07 (j0h j1i)) j0i)
      (j07 (j0h (j3s (j1j (j6p hu j3z) (pv 4) (pv 5) (j0g _)) (j3s (j1j j2e (j0b j1m c_above (hr.mono (by decide)) rfl (j00 (j0a (j00 j04 j02)) (j00 (j0p op_pow j04 j04) j02))) j04 (j0g _)) (j53 (j1j (j6p hu j3z) (j0b j1m c_taken (hr.mono (by decide)) rfl (j00 (j0a (j00 j04 j02)) (j00 j04 j02))) (j0a (j00 j04 j02)) (j0g _)))))))))))))))))))))))), ?_⟩
    try dsimp only [cxOf, Cx.nox, Cx.wish]
    refine ⟨_, rfl, a, ns, 0, rfl, hS, by decide, fun n => ⟨10, 6, rfl, rfl, ⟨by decide, by decide, by decide⟩, n, _, rfl, rfl, (show (0 : Int) < 10 ^ (6 : Int).toNat from by decide), gN ?_⟩⟩
    try dsimp only
    have f0 : 0 ≤ n % ((10 : Int) ^ (6 : Int).toNat) := Int.emod_nonneg _ (by decide)
    generalize n % ((10 : Int) ^ (6 : Int).toNat) = far at f0 ⊢
    refine ⟨Nat.zero_le _, fun dp hdp => gN ?_⟩
    try dsimp only
    refine st_due (K := K) (H0 := H) j01 hdp (j03 hdp) fun v3 H1 s1 hd1 => ?_
    refine ⟨_, rfl, a, ns, rfl, s1.seq hS, hl, fun rs p H2 rl rb hp0 hp s2 => gN ?_⟩
    try dsimp only
    refine ⟨_, rfl, p, _, rfl, .inl (SqL.of hp), fun kp hkp => gN ?_⟩
    try dsimp only
    have rne : rs ≠ [] := fun z => by rw [z] at rl; simp at rl
    have rb6 : Bd 1000000 rs := fun x hx => by have := rb x hx; omega
    have s3 : Same H2 (upd H2 kp (.lst (iV rs))) := j03 hkp
    refine st_rows (K := K) f0 fun rp Hb xs sb hrp hx hxl => ?_
    refine st_loop (K := K) f0 (sb _ _ (s3 _ _ hp)) (by omega) (by omega) hrp hx hxl fun v7 Hc ys sc hcr hy yl => ?_
    have t1 : Same H2 Hc := (s3.trans sb).trans sc
    have hkc : Hc kp = some (.lst (iV rs)) := sc _ _ (sb _ _ j01)
    refine st_allR er fvR hcr hy yl ((hd1.same s2).same t1) fun H5 s5 => ?_
    have t5 : Same Hc H5 := (j03 hcr).trans s5
    refine j7j (K := K) f0 fun ap H6 as s6 ha hax hal => ?_
    have t6 := t5.trans s6
    refine st_allA er fvA ha hax hal (((hd1.same s2).same t1).same t6) fun H7 s7 => ?_
    have t7 := t6.trans s7
    refine st_allB er fvA (((hd1.same s2).same t1).same t7) fun H8 s8 => ?_
    have t8 := t7.trans s8
    refine st_gifts (K := K) fun gp Hg gs sg hgp hgx hgl => ?_
    refine st_gapp (K := K) f0 hgp hgx hgl fun Hg2 gs2 sg2 hgp2 hgx2 hgl2 => ?_
    refine st_gcat (K := K) f0 hgp2 hgx2 hgl2 fun gq H9 zs s9 hz hzx hzl => ?_
    have t9 := ((t8.trans sg).trans sg2).trans s9
    refine st_allG er fvG hz hzx hzl (((hd1.same s2).same t1).same t9) fun H10 s10 => ?_
    have t10 := t9.trans s10
    refine st_two er fv2 fvW (t10 _ _ (t1 _ _ hp)) rb6 rne (by omega) (((hd1.same s2).same t1).same t10) fun H11 s11 => ?_
    have t11 := t10.trans s11
    exact st_end er fvW (t11 _ _ (t1 _ _ hp)) (t11 _ _ hkc) rb rne (by omega) (((hd1.same s2).same t1).same t11) ret
end
end My
end
noncomputable section
namespace My
open PySem L2 L3
theorem len1 {α : Type} {p : List α → Prop} (h : ∀ a, p [a]) : ∀ l : List α, l.length = 1 → p l
  | [a], _ => h a
theorem len2 {α : Type} {p : List α → Prop} (h : ∀ a b, p [a, b]) : ∀ l : List α, l.length = 2 → p l
  | [a, b], _ => h a b
theorem len3 {α : Type} {p : List α → Prop} (h : ∀ a b c, p [a, b, c]) : ∀ l : List α, l.length = 3 → p l
  | [a, b, c], _ => h a b c
theorem len4 {α : Type} {p : List α → Prop} (h : ∀ a b c d, p [a, b, c, d]) : ∀ l : List α, l.length = 4 → p l
  | [a, b, c, d], _ => h a b c d
theorem all_mk {l : PySem.W.OpenLaw} {w : World} {K : PySem.W.Frag} {h : Heap} {mg : Str → Option Value} {fa CR CG CA CU CT CS : Addr} {tBOUND tMOST : Tok} (X : K.In h) (G : h.Ns mainGlobals mg) (hfa : mg "law" = some (.ref fa))
    (aCR : PySem.W.nsIn K mainGlobals "BadRow" = some (some (.ref CR)))
    (aCG : PySem.W.nsIn K mainGlobals "BadGifts" = some (some (.ref CG)))
    (aCA : PySem.W.nsIn K mainGlobals "BadAmount" = some (some (.ref CA)))
    (aCU : PySem.W.nsIn K mainGlobals "Unlike" = some (some (.ref CU)))
    (aCT : PySem.W.nsIn K mainGlobals "BadText" = some (some (.ref CT)))
    (aCS : PySem.W.nsIn K mainGlobals "ShareError" = some (some (.ref CS)))
    (zVE : PySem.W.nsIn K mainGlobals "ValueError" = some none)
    (yS1 : PySem.W.excIn K CS VEb "ValueError.__new__" = true)
    (yS2 : PySem.W.mroIn K CS (.type "BaseException") = some true)
    (x1CR : PySem.W.excIn K CR VEb "ValueError.__new__" = true)
    (x2CR : PySem.W.findIn K (.ref CR) "__getattribute__" = some (some (.builtin "BaseException.__getattribute__")))
    (x3CR : PySem.W.findIn K (.ref CR) "__getattr__" = some none)
    (x4CR : PySem.W.findObj K CR none "__class__" = some (.bind (.builtin "getset_descriptor.__get__") (.builtin "object.__class__")))
    (x5CR : PySem.W.mroIn K CR (.type "object") = some true)
    (x6CR : PySem.W.mroIn K CR (.type "BaseException") = some true)
    (x7CR : PySem.W.mroIn K CR (.ref CS) = some true)
    (kCRCR : PySem.W.kitOne K (.ref CR) (.ref CR) = some true)
    (kCRCG : PySem.W.kitOne K (.ref CR) (.ref CG) = some false)
    (kCRCA : PySem.W.kitOne K (.ref CR) (.ref CA) = some false)
    (kCRCU : PySem.W.kitOne K (.ref CR) (.ref CU) = some false)
    (kCRCT : PySem.W.kitOne K (.ref CR) (.ref CT) = some false)
    (kCRV : PySem.W.kitOne K (.ref CR) (.type "ValueError") = some true)
    (x1CG : PySem.W.excIn K CG VEb "ValueError.__new__" = true)
    (x2CG : PySem.W.findIn K (.ref CG) "__getattribute__" = some (some (.builtin "BaseException.__getattribute__")))
    (x3CG : PySem.W.findIn K (.ref CG) "__getattr__" = some none)
    (x4CG : PySem.W.findObj K CG none "__class__" = some (.bind (.builtin "getset_descriptor.__get__") (.builtin "object.__class__")))
    (x5CG : PySem.W.mroIn K CG (.type "object") = some true)
    (x6CG : PySem.W.mroIn K CG (.type "BaseException") = some true)
    (x7CG : PySem.W.mroIn K CG (.ref CS) = some true)
    (kCGCR : PySem.W.kitOne K (.ref CG) (.ref CR) = some false)
    (kCGCG : PySem.W.kitOne K (.ref CG) (.ref CG) = some true)
    (kCGCA : PySem.W.kitOne K (.ref CG) (.ref CA) = some false)
    (kCGCU : PySem.W.kitOne K (.ref CG) (.ref CU) = some false)
    (kCGCT : PySem.W.kitOne K (.ref CG) (.ref CT) = some false)
    (kCGV : PySem.W.kitOne K (.ref CG) (.type "ValueError") = some true)
    (x1CA : PySem.W.excIn K CA VEb "ValueError.__new__" = true)
    (x2CA : PySem.W.findIn K (.ref CA) "__getattribute__" = some (some (.builtin "BaseException.__getattribute__")))
    (x3CA : PySem.W.findIn K (.ref CA) "__getattr__" = some none)
    (x4CA : PySem.W.findObj K CA none "__class__" = some (.bind (.builtin "getset_descriptor.__get__") (.builtin "object.__class__")))
    (x5CA : PySem.W.mroIn K CA (.type "object") = some true)
    (x6CA : PySem.W.mroIn K CA (.type "BaseException") = some true)
    (x7CA : PySem.W.mroIn K CA (.ref CS) = some true)
    (kCACR : PySem.W.kitOne K (.ref CA) (.ref CR) = some false)
    (kCACG : PySem.W.kitOne K (.ref CA) (.ref CG) = some false)
    (kCACA : PySem.W.kitOne K (.ref CA) (.ref CA) = some true)
    (kCACU : PySem.W.kitOne K (.ref CA) (.ref CU) = some false)
    (kCACT : PySem.W.kitOne K (.ref CA) (.ref CT) = some false)
    (kCAV : PySem.W.kitOne K (.ref CA) (.type "ValueError") = some true)
    (x1CU : PySem.W.excIn K CU VEb "ValueError.__new__" = true)
    (x2CU : PySem.W.findIn K (.ref CU) "__getattribute__" = some (some (.builtin "BaseException.__getattribute__")))
    (x3CU : PySem.W.findIn K (.ref CU) "__getattr__" = some none)
    (x4CU : PySem.W.findObj K CU none "__class__" = some (.bind (.builtin "getset_descriptor.__get__") (.builtin "object.__class__")))
    (x5CU : PySem.W.mroIn K CU (.type "object") = some true)
    (x6CU : PySem.W.mroIn K CU (.type "BaseException") = some true)
    (x7CU : PySem.W.mroIn K CU (.ref CS) = some true)
    (kCUCR : PySem.W.kitOne K (.ref CU) (.ref CR) = some false)
    (kCUCG : PySem.W.kitOne K (.ref CU) (.ref CG) = some false)
    (kCUCA : PySem.W.kitOne K (.ref CU) (.ref CA) = some false)
    (kCUCU : PySem.W.kitOne K (.ref CU) (.ref CU) = some true)
    (kCUCT : PySem.W.kitOne K (.ref CU) (.ref CT) = some false)
    (kCUV : PySem.W.kitOne K (.ref CU) (.type "ValueError") = some true)
    (tis_whole : TopF K "is_whole" "is_whole" s_whole)
    (tis_place : TopF K "is_place" "is_place" s_place)
    (tis_gift : TopF K "is_gift" "is_gift" s_gift)
    (tgive : TopF K "give" "give" s_give)
    (tis_share : TopF K "is_share" "is_share" s_share)
    (tcheck_row : TopF K "check_row" "check_row" s_ckrow)
    (tcheck_amount : TopF K "check_amount" "check_amount" s_ckamt)
    (trising_sums : TopF K "rising_sums" "rising_sums" s_rsums)
    (tevenest : TopF K "evenest" "evenest" s_evn)
    (twritten : TopF K "written" "written" s_written)
    (tcheck_pair : TopF K "check_pair" "check_pair" s_ckpair)
    (tcompared : TopF K "compared" "compared" s_cmp)
    (tunder : TopF K "under" "under" s_und)
    (tlevel_behind : TopF K "level_behind" "level_behind" s_lvl)
    (tturned : TopF K "turned" "turned" s_turned)
    (tlowered : TopF K "lowered" "lowered" s_lowd)
    (ttaken : TopF K "taken" "taken" s_taken)
    (tpoured : TopF K "poured" "poured" s_poured)
    (tabove : TopF K "above" "above" s_abve)
    (tdone : TopF K "done" "done" s_dn)
    (t_law_cell_at : TopF K "_law_cell_at" "_law_cell_at" s_cell)
    (t_law_draw : TopF K "_law_draw" "_law_draw" s_draw)
    (t_law_row : TopF K "_law_row" "_law_row" s_row)
    (t_law_kinds : TopF K "_law_kinds" "_law_kinds" s_kinds)
    (t_law_with_row : TopF K "_law_with_row" "_law_with_row" s_wrow)
    (t_law_with_amount : TopF K "_law_with_amount" "_law_with_amount" s_wamt)
    (t_law_with_gifts : TopF K "_law_with_gifts" "_law_with_gifts" s_wgif)
    (t_law_with_two : TopF K "_law_with_two" "_law_with_two" s_wtwo)
    (t_law_with_wholes : TopF K "_law_with_wholes" "_law_with_wholes" s_wwho)
    (t_law_told : TopF K "_law_told" "_law_told" s_told)
    (t_law_all : TopF K "_law_all" "_law_all" s_lall)
    (t_law_bounds_right : TopF K "_law_bounds_right" "_law_bounds_right" s_lbr)
    (tlaw : TopF K "law" "law" s_law)
    (zzip : PySem.W.nsIn K mainGlobals "zip" = some none)
    (z0 : PySem.W.nsIn K mainGlobals "len" = some none)
    (z1 : PySem.W.nsIn K mainGlobals "range" = some none)
    (z2 : PySem.W.nsIn K mainGlobals "list" = some none)
    (z3 : PySem.W.nsIn K mainGlobals "tuple" = some none)
    (z4 : PySem.W.nsIn K mainGlobals "int" = some none)
    (z5 : PySem.W.nsIn K mainGlobals "bool" = some none)
    (z6 : PySem.W.nsIn K mainGlobals "str" = some none)
    (z7 : PySem.W.nsIn K mainGlobals "isinstance" = some none)
    (z8 : PySem.W.nsIn K mainGlobals "sum" = some none)
    (z9 : PySem.W.nsIn K mainGlobals "sorted" = some none)
    (z10 : PySem.W.nsIn K mainGlobals "any" = some none)
    (z11 : PySem.W.nsIn K mainGlobals "all" = some none)
    (z12 : PySem.W.nsIn K mainGlobals "abs" = some none)
    (z13 : PySem.W.nsIn K mainGlobals "max" = some none)
    (z14 : PySem.W.nsIn K mainGlobals "min" = some none)
    (aBOUND : PySem.W.nsIn K mainGlobals "BOUND" = some (some (.int 1000000 tBOUND)))
    (aMOST : PySem.W.nsIn K mainGlobals "MOST" = some (some (.int 1000000000 tMOST)))
    :
    ∃ fd : FuncData, (∀ (s : Shared) (v : Value), BindsTo s fd ⟨[v], []⟩ [("_law_script", v)]) ∧ ∀ base : Heap, K.In base → base.Ns mainGlobals mg → FnOk l.prog w K mg base CX0 9 fa fd ["_law_script"] (spLaw K) := by
  obtain ⟨f, fd, a, F⟩ := tlaw.ex
  have e := hfa.symm.trans (PySem.W.mg_of X G a)
  cases e
  obtain ⟨f_law_with_row, fd_law_with_row, b_law_with_row, F_law_with_row⟩ := t_law_with_row.ex
  have g_law_with_row := PySem.W.mg_of X G b_law_with_row
  obtain ⟨f_law_with_amount, fd_law_with_amount, b_law_with_amount, F_law_with_amount⟩ := t_law_with_amount.ex
  have g_law_with_amount := PySem.W.mg_of X G b_law_with_amount
  obtain ⟨f_law_with_gifts, fd_law_with_gifts, b_law_with_gifts, F_law_with_gifts⟩ := t_law_with_gifts.ex
  have g_law_with_gifts := PySem.W.mg_of X G b_law_with_gifts
  obtain ⟨f_law_with_two, fd_law_with_two, b_law_with_two, F_law_with_two⟩ := t_law_with_two.ex
  have g_law_with_two := PySem.W.mg_of X G b_law_with_two
  obtain ⟨f_law_with_wholes, fd_law_with_wholes, b_law_with_wholes, F_law_with_wholes⟩ := t_law_with_wholes.ex
  have g_law_with_wholes := PySem.W.mg_of X G b_law_with_wholes
  have B : Bl mg := Bl.of X G z0 z1 z2 z3 z4 z5 z6 z7 z8 z9 z10 z11 z12 z13 z14
  have hzip := PySem.W.mg_none_of X G zzip
  have gBOUND := PySem.W.mg_of X G aBOUND
  have gMOST := PySem.W.mg_of X G aMOST
  refine ⟨fd, fun s v => ?_, fun base kb nb => ok_law (CR := CR) (CG := CG) (CA := CA) (CU := CU) (CT := CT) (CS := CS) (fR := f_law_with_row) (fA := f_law_with_amount) (fG := f_law_with_gifts) (f2 := f_law_with_two) (fW := f_law_with_wholes) F ?_⟩
  · obtain ⟨oc, od, kV, doc, pm, an, cdv, ct, osl, rfl, lk, hcd⟩ := F.ex
    exact .of_eq rfl
  have er : Er7 K mg CR CG CA CU CT CS := ⟨PySem.W.mg_of X G aCR, PySem.W.mg_of X G aCG, PySem.W.mg_of X G aCA, PySem.W.mg_of X G aCU, PySem.W.mg_of X G aCT, PySem.W.mg_of X G aCS, PySem.W.mg_none_of X G zVE, x1CR, x1CG, x1CA, x1CU, yS1, yS2, ⟨⟨⟨x1CR, x2CR, x3CR, x4CR, x5CR, x6CR⟩, x7CR⟩, kCRCR, kCRCG, kCRCA, kCRCU, kCRCT, kCRV⟩, ⟨⟨⟨x1CG, x2CG, x3CG, x4CG, x5CG, x6CG⟩, x7CG⟩, kCGCR, kCGCG, kCGCA, kCGCU, kCGCT, kCGV⟩, ⟨⟨⟨x1CA, x2CA, x3CA, x4CA, x5CA, x6CA⟩, x7CA⟩, kCACR, kCACG, kCACA, kCACU, kCACT, kCAV⟩, ⟨⟨⟨x1CU, x2CU, x3CU, x4CU, x5CU, x6CU⟩, x7CU⟩, kCUCR, kCUCG, kCUCA, kCUCU, kCUCT, kCUV⟩⟩
  have c_is_whole := Ok.of (P := l.prog) (w := w) (base := base) (ps := ["value"]) tis_whole X G (fun _ _ _ _ _ _ => len1 fun _  => rfl) fun f fd F => ok_whole F B
  have c_is_place := Ok.of (P := l.prog) (w := w) (base := base) (ps := ["value", "count"]) tis_place X G (fun _ _ _ _ _ _ => len2 fun _ _  => rfl) fun f fd F => ok_place F c_is_whole
  have c_is_gift := Ok.of (P := l.prog) (w := w) (base := base) (ps := ["value", "count"]) tis_gift X G (fun _ _ _ _ _ _ => len2 fun _ _  => rfl) fun f fd F => ok_gift F B c_is_whole c_is_place
  have c_give := Ok.of (P := l.prog) (w := w) (base := base) (ps := ["row", "gift"]) tgive X G (fun _ _ _ _ _ _ => len2 fun _ _  => rfl) fun f fd F => ok_give F
  have c_is_share := Ok.of (P := l.prog) (w := w) (base := base) (ps := ["value"]) tis_share X G (fun _ _ _ _ _ _ => len1 fun _  => rfl) fun f fd F => ok_share F gBOUND c_is_whole
  have c_check_row := OkY.of (P := l.prog) (w := w) (base := base) (ps := ["row"]) tcheck_row X G (fun _ _ _ _ _ _ => len1 fun _  => rfl) fun f fd F => ok_ckrow F B er c_is_share
  have c_check_amount := OkY.of (P := l.prog) (w := w) (base := base) (ps := ["amount"]) tcheck_amount X G (fun _ _ _ _ _ _ => len1 fun _  => rfl) fun f fd F => ok_ckamt F er gMOST c_is_whole
  have c_rising_sums := OkY.of (P := l.prog) (w := w) (base := base) (ps := ["row"]) trising_sums X G (fun _ _ _ _ _ _ => len1 fun _  => rfl) fun f fd F => ok_rsums F c_check_row
  have c_evenest := OkY.of (P := l.prog) (w := w) (base := base) (ps := ["row"]) tevenest X G (fun _ _ _ _ _ _ => len1 fun _  => rfl) fun f fd F => ok_evn F c_check_row
  have c_written := OkY.of (P := l.prog) (w := w) (base := base) (ps := ["row"]) twritten X G (fun _ _ _ _ _ _ => len1 fun _  => rfl) fun f fd F => j7f F c_check_row
  have c_check_pair := OkY.of (P := l.prog) (w := w) (base := base) (ps := ["one", "other"]) tcheck_pair X G (fun _ _ _ _ _ _ => len2 fun _ _  => rfl) fun f fd F => j9j F B er c_check_row
  have c_compared := OkY.of (P := l.prog) (w := w) (base := base) (ps := ["one", "other"]) tcompared X G (fun _ _ _ _ _ _ => len2 fun _ _  => rfl) fun f fd F => ok_cmp F c_check_pair
  have c_under := OkY.of (P := l.prog) (w := w) (base := base) (ps := ["one", "other"]) tunder X G (fun _ _ _ _ _ _ => len2 fun _ _  => rfl) fun f fd F => ok_und F B er c_check_pair
  have c_level_behind := Ok.of (P := l.prog) (w := w) (base := base) (ps := ["row", "amount"]) tlevel_behind X G (fun _ _ _ _ _ _ => len2 fun _ _  => rfl) fun f fd F => ok_lvl F B
  have c_turned := Ok.of (P := l.prog) (w := w) (base := base) (ps := ["row"]) tturned X G (fun _ _ _ _ _ _ => len1 fun _  => rfl) fun f fd F => j9l F
  have c_lowered := OkY.of (P := l.prog) (w := w) (base := base) (ps := ["row", "amount"]) tlowered X G (fun _ _ _ _ _ _ => len2 fun _ _  => rfl) fun f fd F => ok_lowd F B er gBOUND c_level_behind
  have c_taken := OkY.of (P := l.prog) (w := w) (base := base) (ps := ["row", "amount"]) ttaken X G (fun _ _ _ _ _ _ => len2 fun _ _  => rfl) fun f fd F => ok_taken F c_check_row c_check_amount c_lowered
  have c_poured := OkY.of (P := l.prog) (w := w) (base := base) (ps := ["row", "amount"]) tpoured X G (fun _ _ _ _ _ _ => len2 fun _ _  => rfl) fun f fd F => j9o F c_check_row c_check_amount c_lowered c_turned
  have c_above := OkY.of (P := l.prog) (w := w) (base := base) (ps := ["row", "mark"]) tabove X G (fun _ _ _ _ _ _ => len2 fun _ _  => rfl) fun f fd F => ok_abve F B er c_check_row c_is_whole
  have c_done := OkY.of (P := l.prog) (w := w) (base := base) (ps := ["row", "gifts"]) tdone X G (fun _ _ _ _ _ _ => len2 fun _ _  => rfl) fun f fd F => ok_dn F B er c_check_row c_is_gift c_give c_is_share
  have c_cell_at := Ok.of (P := l.prog) (w := w) (base := base) (ps := ["_law_script", "_law_k"]) t_law_cell_at X G (fun _ _ _ _ _ _ => len2 fun _ _  => rfl) fun f fd F => ok_cell F B
  have c_draw := Ok.of (P := l.prog) (w := w) (base := base) (ps := ["_law_cell", "_law_k", "_law_many"]) t_law_draw X G (fun _ _ _ _ _ _ => len3 fun _ _ _  => rfl) fun f fd F => ok_draw F B
  have c_row := Ok.of (P := l.prog) (w := w) (base := base) (ps := ["_law_script"]) t_law_row X G (fun _ _ _ _ _ _ => len1 fun _  => rfl) fun f fd F => ok_row F B c_cell_at c_draw
  have c_kinds := OkH.of (P := l.prog) (w := w) (base := base) (ps := ["_law_error"]) t_law_kinds X G (fun _ _ _ _ _ _ => len1 fun _  => rfl) fun f fd F => ok_kinds F B er
  have fv_law_with_row : Fv l.prog w K mg base 6 f_law_with_row _ := ⟨fd_law_with_row, ["_law_door", "_law_row_here"], (ok_wrow F_law_with_row c_rising_sums c_evenest c_written c_above c_done c_taken c_poured c_compared c_under).mono (by decide), F_law_with_row.kp, F_law_with_row.binds (fun _ _ _ _ _ _ => len2 fun _ _  => rfl)⟩
  have fv_law_with_amount : Fv l.prog w K mg base 6 f_law_with_amount _ := ⟨fd_law_with_amount, ["_law_door", "_law_thing"], (ok_wamt F_law_with_amount c_above c_taken c_poured).mono (by decide), F_law_with_amount.kp, F_law_with_amount.binds (fun _ _ _ _ _ _ => len2 fun _ _  => rfl)⟩
  have fv_law_with_gifts : Fv l.prog w K mg base 6 f_law_with_gifts _ := ⟨fd_law_with_gifts, ["_law_row_here", "_law_gifts"], (ok_wgif F_law_with_gifts c_done).mono (by decide), F_law_with_gifts.kp, F_law_with_gifts.binds (fun _ _ _ _ _ _ => len2 fun _ _  => rfl)⟩
  have fv_law_with_two : Fv l.prog w K mg base 6 f_law_with_two _ := ⟨fd_law_with_two, ["_law_one", "_law_other_here"], (ok_wtwo F_law_with_two c_compared).mono (by decide), F_law_with_two.kp, F_law_with_two.binds (fun _ _ _ _ _ _ => len2 fun _ _  => rfl)⟩
  have fv_law_with_wholes : Fv l.prog w K mg base 6 f_law_with_wholes _ := ⟨fd_law_with_wholes, ["_law_one", "_law_other_here"], (ok_wwho F_law_with_wholes c_under).mono (by decide), F_law_with_wholes.kp, F_law_with_wholes.binds (fun _ _ _ _ _ _ => len2 fun _ _  => rfl)⟩
  have c_told := Ok.of (P := l.prog) (w := w) (base := base) (ps := ["_law_ask", "_law_one", "_law_other_here"]) t_law_told X G (fun _ _ _ _ _ _ => len3 fun _ _ _  => rfl) fun f fd F => ok_told F er c_kinds
  have c_all := Ok.of (P := l.prog) (w := w) (base := base) (ps := ["_law_ask", "_law_doors", "_law_things", "_law_due"]) t_law_all X G (fun _ _ _ _ _ _ => len4 fun _ _ _ _  => rfl) fun f fd F => ok_lall F B c_told
  have c_bounds_right := Ok.of (P := l.prog) (w := w) (base := base) (ps := ["_law_due"]) t_law_bounds_right X G (fun _ _ _ _ _ _ => len1 fun _  => rfl) fun f fd F => ok_lbr F er g_law_with_amount fv_law_with_amount g_law_with_gifts fv_law_with_gifts c_told c_taken c_poured c_done
  exact ⟨B, er, g_law_with_row, fv_law_with_row, g_law_with_amount, fv_law_with_amount, g_law_with_gifts, fv_law_with_gifts, g_law_with_two, fv_law_with_two, g_law_with_wholes, fv_law_with_wholes, c_cell_at, c_row, c_told, c_all, c_bounds_right, c_above, c_taken⟩
theorem walk {l : PySem.W.OpenLaw} {q : Program} {loose : List Str} {XP : (Str → Option Value) → Heap → Prop} {YP : World → Heap → Prop} {d : DefRec} {K : Params → PySem.W.Frag} (hn : l.most = some 63) (hdf : d.params.defaults = [])
    (hY : ∀ (w : World) (h : Heap), YP w h → (K w.params).In h)
    (F : ∀ (w : World) (mg : Str → Option Value) (fa : Addr) (h : Heap), (K w.params).In h → h.Ns mainGlobals mg → mg d.name = some (.ref fa) →
      ∃ fd : FuncData, (∀ (s : Shared) (u : Value), BindsTo s fd ⟨[u], []⟩ [("_law_script", u)]) ∧ ∀ base : Heap, (K w.params).In base → base.Ns mainGlobals mg → FnOk l.prog w (K w.params) mg base CX0 9 fa fd ["_law_script"] (spLaw (K w.params))) :
    PySem.W.WalkO q loose XP YP l.row.toRowW d [] (fun f vs => PySem.call f vs) :=
  j8a (n := 63) (k := 9) (x := "_law_script") (CX := fun _ => CX0) (sp := fun w => spLaw (K w.params)) hn (by decide) hdf ⟨rfl, by decide, by decide⟩ hY F (fun _ _ a ns hl _ hS => ⟨a, ns, rfl, hS, hl, fun _ => rfl⟩) fun _ _ _ _ _ z => z
end My
end
noncomputable section
open PySem PySem.W PyProof.Rows
noncomputable def PySem.W.Fast.tw389692352428245281 : Unit := ()
noncomputable def PySem.W.Fast.tw2945651818685883879 : Unit := ()
noncomputable def PySem.W.Fast.tw12844882689035407511 : Unit := ()
noncomputable def PySem.W.Fast.tw59170716857744993 : Unit := ()
noncomputable def PySem.W.Fast.tw12659390034858213810 : Unit := ()
noncomputable def PySem.W.Fast.tw8713282896900007746 : Unit := ()
noncomputable def PySem.W.Fast.tw2111852020462214197 : Unit := ()
noncomputable def PySem.W.Fast.tw12348967501573329205 : Unit := ()
noncomputable def PySem.W.Fast.tw16366108127756315381 : Unit := ()
noncomputable def PySem.W.Fast.tw7163196718440418442 : Unit := ()
noncomputable def PySem.W.Fast.tw13718388113505754798 : Unit := ()
noncomputable def PySem.W.Fast.tw9294944063503286296 : Unit := ()
set_option maxRecDepth 100000 in
set_option maxHeartbeats 0 in
theorem PySem.Challenge.cw_evenhand_k07_refused_holds : PySem.Challenge.rw_evenhand_k07_refused.Holds := by
  w_on; o_law; k_head; (case hw => w_witness2)
  k_fill
  refine My.walk (l := PySem.Challenge.rw_evenhand_k07_refused) rfl rfl (fun w h Y => PySem.W.km_in_of Y) ?hF1
  case hF1 =>
    intro w mg fa h KX G hmg
    refine' My.all_mk KX G hmg ?aCR ?aCG ?aCA ?aCU ?aCT ?aCS ?zVE ?yS1 ?yS2 ?x1CR ?x2CR ?x3CR ?x4CR ?x5CR ?x6CR ?x7CR ?kCRCR ?kCRCG ?kCRCA ?kCRCU ?kCRCT ?kCRV ?x1CG ?x2CG ?x3CG ?x4CG ?x5CG ?x6CG ?x7CG ?kCGCR ?kCGCG ?kCGCA ?kCGCU ?kCGCT ?kCGV ?x1CA ?x2CA ?x3CA ?x4CA ?x5CA ?x6CA ?x7CA ?kCACR ?kCACG ?kCACA ?kCACU ?kCACT ?kCAV ?x1CU ?x2CU ?x3CU ?x4CU ?x5CU ?x6CU ?x7CU ?kCUCR ?kCUCG ?kCUCA ?kCUCU ?kCUCT ?kCUV ?tis_whole ?tis_place ?tis_gift ?tgive ?tis_share ?tcheck_row ?tcheck_amount ?trising_sums ?tevenest ?twritten ?tcheck_pair ?tcompared ?tunder ?tlevel_behind ?tturned ?tlowered ?ttaken ?tpoured ?tabove ?tdone ?t_law_cell_at ?t_law_draw ?t_law_row ?t_law_kinds ?t_law_with_row ?t_law_with_amount ?t_law_with_gifts ?t_law_with_two ?t_law_with_wholes ?t_law_told ?t_law_all ?t_law_bounds_right ?tlaw ?zzip ?z0 ?z1 ?z2 ?z3 ?z4 ?z5 ?z6 ?z7 ?z8 ?z9 ?z10 ?z11 ?z12 ?z13 ?z14 ?aBOUND ?aMOST
    (case aCR => k_is)
    (case aCG => k_is)
    (case aCA => k_is)
    (case aCU => k_is)
    (case aCT => k_is)
    (case aCS => k_is)
    (case zVE => k_is)
    (case yS1 => (first | k_is | kernel_rfl))
    (case yS2 => (first | k_is | kernel_rfl))
    (case x1CR => (first | k_is | kernel_rfl))
    (case x2CR => (first | k_is | kernel_rfl))
    (case x3CR => (first | k_is | kernel_rfl))
    (case x4CR => (first | k_is | kernel_rfl))
    (case x5CR => (first | k_is | kernel_rfl))
    (case x6CR => (first | k_is | kernel_rfl))
    (case x7CR => (first | k_is | kernel_rfl))
    (case kCRCR => kernel_rfl)
    (case kCRCG => kernel_rfl)
    (case kCRCA => kernel_rfl)
    (case kCRCU => kernel_rfl)
    (case kCRCT => kernel_rfl)
    (case kCRV => kernel_rfl)
    (case x1CG => (first | k_is | kernel_rfl))
    (case x2CG => (first | k_is | kernel_rfl))
    (case x3CG => (first | k_is | kernel_rfl))
    (case x4CG => (first | k_is | kernel_rfl))
    (case x5CG => (first | k_is | kernel_rfl))
    (case x6CG => (first | k_is | kernel_rfl))
    (case x7CG => (first | k_is | kernel_rfl))
    (case kCGCR => kernel_rfl)
    (case kCGCG => kernel_rfl)
    (case kCGCA => kernel_rfl)
    (case kCGCU => kernel_rfl)
    (case kCGCT => kernel_rfl)
    (case kCGV => kernel_rfl)
    (case x1CA => (first | k_is | kernel_rfl))
    (case x2CA => (first | k_is | kernel_rfl))
    (case x3CA => (first | k_is | kernel_rfl))
    (case x4CA => (first | k_is | kernel_rfl))
    (case x5CA => (first | k_is | kernel_rfl))
    (case x6CA => (first | k_is | kernel_rfl))
    (case x7CA => (first | k_is | kernel_rfl))
    (case kCACR => kernel_rfl)
    (case kCACG => kernel_rfl)
    (case kCACA => kernel_rfl)
    (case kCACU => kernel_rfl)
    (case kCACT => kernel_rfl)
    (case kCAV => kernel_rfl)
    (case x1CU => (first | k_is | kernel_rfl))
    (case x2CU => (first | k_is | kernel_rfl))
    (case x3CU => (first | k_is | kernel_rfl))
    (case x4CU => (first | k_is | kernel_rfl))
    (case x5CU => (first | k_is | kernel_rfl))
    (case x6CU => (first | k_is | kernel_rfl))
    (case x7CU => (first | k_is | kernel_rfl))
    (case kCUCR => kernel_rfl)
    (case kCUCG => kernel_rfl)
    (case kCUCA => kernel_rfl)
    (case kCUCU => kernel_rfl)
    (case kCUCT => kernel_rfl)
    (case kCUV => kernel_rfl)
    (case tis_whole => (refine' L3.j0f ?p1 ?p2 ?p3 ?p4; (case p1 => k_is); (case p2 => k_is); (case p3 => k_is); (case p4 => k_is)))
    (case tis_place => (refine' L3.j0f ?p1 ?p2 ?p3 ?p4; (case p1 => k_is); (case p2 => k_is); (case p3 => k_is); (case p4 => k_is)))
    (case tis_gift => (refine' L3.j0f ?p1 ?p2 ?p3 ?p4; (case p1 => k_is); (case p2 => k_is); (case p3 => k_is); (case p4 => k_is)))
    (case tgive => (refine' L3.j0f ?p1 ?p2 ?p3 ?p4; (case p1 => k_is); (case p2 => k_is); (case p3 => k_is); (case p4 => k_is)))
    (case tis_share => (refine' L3.j0f ?p1 ?p2 ?p3 ?p4; (case p1 => k_is); (case p2 => k_is); (case p3 => k_is); (case p4 => k_is)))
    (case tcheck_row => (refine' L3.j0f ?p1 ?p2 ?p3 ?p4; (case p1 => k_is); (case p2 => k_is); (case p3 => k_is); (case p4 => k_is)))
    (case tcheck_amount => (refine' L3.j0f ?p1 ?p2 ?p3 ?p4; (case p1 => k_is); (case p2 => k_is); (case p3 => k_is); (case p4 => k_is)))
    (case trising_sums => (refine' L3.j0f ?p1 ?p2 ?p3 ?p4; (case p1 => k_is); (case p2 => k_is); (case p3 => k_is); (case p4 => k_is)))
    (case tevenest => (refine' L3.j0f ?p1 ?p2 ?p3 ?p4; (case p1 => k_is); (case p2 => k_is); (case p3 => k_is); (case p4 => k_is)))
    (case twritten => (refine' L3.j0f ?p1 ?p2 ?p3 ?p4; (case p1 => k_is); (case p2 => k_is); (case p3 => k_is); (case p4 => k_is)))
    (case tcheck_pair => (refine' L3.j0f ?p1 ?p2 ?p3 ?p4; (case p1 => k_is); (case p2 => k_is); (case p3 => k_is); (case p4 => k_is)))
    (case tcompared => (refine' L3.j0f ?p1 ?p2 ?p3 ?p4; (case p1 => k_is); (case p2 => k_is); (case p3 => k_is); (case p4 => k_is)))
    (case tunder => (refine' L3.j0f ?p1 ?p2 ?p3 ?p4; (case p1 => k_is); (case p2 => k_is); (case p3 => k_is); (case p4 => k_is)))
    (case tlevel_behind => (refine' L3.j0f ?p1 ?p2 ?p3 ?p4; (case p1 => k_is); (case p2 => k_is); (case p3 => k_is); (case p4 => k_is)))
    (case tturned => (refine' L3.j0f ?p1 ?p2 ?p3 ?p4; (case p1 => k_is); (case p2 => k_is); (case p3 => k_is); (case p4 => k_is)))
    (case tlowered => (refine' L3.j0f ?p1 ?p2 ?p3 ?p4; (case p1 => k_is); (case p2 => k_is); (case p3 => k_is); (case p4 => k_is)))
    (case ttaken => (refine' L3.j0f ?p1 ?p2 ?p3 ?p4; (case p1 => k_is); (case p2 => k_is); (case p3 => k_is); (case p4 => k_is)))
    (case tpoured => (refine' L3.j0f ?p1 ?p2 ?p3 ?p4; (case p1 => k_is); (case p2 => k_is); (case p3 => k_is); (case p4 => k_is)))
    (case tabove => (refine' L3.j0f ?p1 ?p2 ?p3 ?p4; (case p1 => k_is); (case p2 => k_is); (case p3 => k_is); (case p4 => k_is)))
    (case tdone => (refine' L3.j0f ?p1 ?p2 ?p3 ?p4; (case p1 => k_is); (case p2 => k_is); (case p3 => k_is); (case p4 => k_is)))
    (case t_law_cell_at => (refine' L3.j0f ?p1 ?p2 ?p3 ?p4; (case p1 => k_is); (case p2 => k_is); (case p3 => k_is); (case p4 => k_is)))
    (case t_law_draw => (refine' L3.j0f ?p1 ?p2 ?p3 ?p4; (case p1 => k_is); (case p2 => k_is); (case p3 => k_is); (case p4 => k_is)))
    (case t_law_row => (refine' L3.j0f ?p1 ?p2 ?p3 ?p4; (case p1 => k_is); (case p2 => k_is); (case p3 => k_is); (case p4 => k_is)))
    (case t_law_kinds => (refine' L3.j0f ?p1 ?p2 ?p3 ?p4; (case p1 => k_is); (case p2 => k_is); (case p3 => k_is); (case p4 => k_is)))
    (case t_law_with_row => (refine' L3.j0f ?p1 ?p2 ?p3 ?p4; (case p1 => k_is); (case p2 => k_is); (case p3 => k_is); (case p4 => k_is)))
    (case t_law_with_amount => (refine' L3.j0f ?p1 ?p2 ?p3 ?p4; (case p1 => k_is); (case p2 => k_is); (case p3 => k_is); (case p4 => k_is)))
    (case t_law_with_gifts => (refine' L3.j0f ?p1 ?p2 ?p3 ?p4; (case p1 => k_is); (case p2 => k_is); (case p3 => k_is); (case p4 => k_is)))
    (case t_law_with_two => (refine' L3.j0f ?p1 ?p2 ?p3 ?p4; (case p1 => k_is); (case p2 => k_is); (case p3 => k_is); (case p4 => k_is)))
    (case t_law_with_wholes => (refine' L3.j0f ?p1 ?p2 ?p3 ?p4; (case p1 => k_is); (case p2 => k_is); (case p3 => k_is); (case p4 => k_is)))
    (case t_law_told => (refine' L3.j0f ?p1 ?p2 ?p3 ?p4; (case p1 => k_is); (case p2 => k_is); (case p3 => k_is); (case p4 => k_is)))
    (case t_law_all => (refine' L3.j0f ?p1 ?p2 ?p3 ?p4; (case p1 => k_is); (case p2 => k_is); (case p3 => k_is); (case p4 => k_is)))
    (case t_law_bounds_right => (refine' L3.j0f ?p1 ?p2 ?p3 ?p4; (case p1 => k_is); (case p2 => k_is); (case p3 => k_is); (case p4 => k_is)))
    (case tlaw => (refine' L3.j0f ?p1 ?p2 ?p3 ?p4; (case p1 => k_is); (case p2 => k_is); (case p3 => k_is); (case p4 => k_is)))
    (case zzip => k_is)
    (case z0 => k_is)
    (case z1 => k_is)
    (case z2 => k_is)
    (case z3 => k_is)
    (case z4 => k_is)
    (case z5 => k_is)
    (case z6 => k_is)
    (case z7 => k_is)
    (case z8 => k_is)
    (case z9 => k_is)
    (case z10 => k_is)
    (case z11 => k_is)
    (case z12 => k_is)
    (case z13 => k_is)
    (case z14 => k_is)
    (case aBOUND => k_is)
    (case aMOST => k_is)
end

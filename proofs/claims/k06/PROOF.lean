import PyProof.Rows.All
import Wide.All
import OpenK.AllK
import Wide.FinOn
import Lean
import PyProof.EqAt
import PyProof.EqKinds
import PyProof.TupleCall
import PyProof.NeKinds
import KE.KLam
import KE.KSortKey
import PyProof.ListRange
import PyProof.ZipIter
import PyProof.Rows.ZipGen
import PyProof.Rows.FactsT2
import OpenK.KOwn
import PyProof.StrCalls6
import PyProof.Rows.StrItems
import PyProof.StrWalks
import PyProof.StrLawsChain
import KE.KIntText
import PyProof.Rows.StrCut
import PyProof.StrLawsIn
import PyProof.StrBlockI
import PySem.Challenge.RW_evenhand_k06_written
set_option maxRecDepth 100000
set_option Elab.async false
set_option linter.all false
set_option maxHeartbeats 0
noncomputable section
namespace L2
open PySem PySem.Spec PyProof.Rows
abbrev Key := Sum Int Str
noncomputable def keyIs : Key → Value → Bool
  | .inl k, v => Value.isInt k v
  | .inr x, v => Value.isStrOf x v
noncomputable def keyH (w : World) : Key → Int
  | .inl k => hashInt k
  | .inr x => hashStr w x
theorem j0b : ∀ {k : Key} {v : Value}, keyIs k v = true → (∃ i t, k = Sum.inl i ∧ v = Value.int i t) ∨ (∃ x t, k = Sum.inr x ∧ v = Value.str x t)
  | .inl i, v, h => by
    obtain ⟨t, e⟩ := Value.isInt_shape (k := i) (v := v) h
    exact .inl ⟨i, t, rfl, e⟩
  | .inr x, v, h => by
    obtain ⟨t, e⟩ := Value.isStrOf_shape (x := x) (v := v) h
    exact .inr ⟨x, t, rfl, e⟩
theorem key_ll (a b : Int) : decide ((Sum.inl a : Key) = Sum.inl b) = (a == b) := by
  by_cases e : a = b
  · subst e; simp
  · have h : ¬ (Sum.inl a : Key) = Sum.inl b := fun q => e (Sum.inl.inj q)
    rw [decide_eq_false h]
    exact (beq_eq_false_iff_ne.mpr e).symm
theorem key_rr (a b : Str) : decide ((Sum.inr a : Key) = Sum.inr b) = decide (a = b) := by
  by_cases e : a = b
  · subst e; simp
  · have h : ¬ (Sum.inr a : Key) = Sum.inr b := fun q => e (Sum.inr.inj q)
    rw [decide_eq_false h, decide_eq_false e]
theorem key_lr (a : Int) (b : Str) : decide ((Sum.inl a : Key) = Sum.inr b) = false := decide_eq_false (fun q => nomatch q)
theorem key_rl (a : Str) (b : Int) : decide ((Sum.inr a : Key) = Sum.inl b) = false := decide_eq_false (fun q => nomatch q)
noncomputable def j58 (prog : Program) (w : World) : PySem.KeyKind prog w Key where
  is := keyIs
  hash := keyH w
  inj := fun v a b ha hb => by
    rcases j0b ha with ⟨i, t, rfl, rfl⟩ | ⟨x, t, rfl, rfl⟩
    · rcases j0b hb with ⟨j, u, rfl, e⟩ | ⟨y, u, rfl, e⟩
      · injection e with e1 _; rw [e1]
      · exact nomatch e
    · rcases j0b hb with ⟨j, u, rfl, e⟩ | ⟨y, u, rfl, e⟩
      · exact nomatch e
      · injection e with e1 _; rw [e1]
  byValue := fun k v h => by
    rcases j0b h with ⟨i, t, rfl, rfl⟩ | ⟨x, t, rfl, rfl⟩ <;> rfl
  pyHash := fun hv h => by
    rcases j0b hv with ⟨i, t, rfl, rfl⟩ | ⟨x, t, rfl, rfl⟩
    · exact wpAny_pyHash_int h
    · exact wpAny_pyHash_str h
  eqBool := fun hu hv h => by
    rcases j0b hu with ⟨i, t, rfl, rfl⟩ | ⟨x, t, rfl, rfl⟩
    · rcases j0b hv with ⟨j, u, rfl, rfl⟩ | ⟨y, u, rfl, rfl⟩
      · rw [key_ll] at h; exact wpAny_eqBool_int h
      · rw [key_lr] at h; exact SeqAt.EqAt.int_str i t y u _ _ _ _ h
    · rcases j0b hv with ⟨j, u, rfl, rfl⟩ | ⟨y, u, rfl, rfl⟩
      · rw [key_rl] at h; exact SeqAt.EqAt.str_int x t j u _ _ _ _ h
      · rw [key_rr] at h; exact wpAny_eqBool_str h
  «strs» := fun k x t v h => by
    rcases j0b h with ⟨i, u, rfl, e⟩ | ⟨y, u, rfl, e⟩
    · exact nomatch e
    · injection e with e1 _
      subst e1
      cases v <;> rfl
end L2
namespace L2
open PySem PySem.Spec PyProof.Rows
inductive V where
  | non | bl (b : Bool) | int (i : Int) | str (x : Str) | byt (b : Array UInt8) | flt (b : UInt64) | ref (a : Addr) | ty (n : String)
  deriving DecidableEq
noncomputable def RelV : V → Value → Prop
  | .non, u => u = Value.none
  | .bl b, u => u = Value.bool b
  | .int i, u => ∃ t, u = Value.int i t
  | .str x, u => ∃ t, u = Value.str x t
  | .byt b, u => ∃ t, u = Value.bytes b t
  | .flt b, u => ∃ t, u = Value.float b t
  | .ref a, u => u = Value.ref a
  | .ty n, u => u = Value.type n
abbrev Vals : List V → List Value → Prop := Paired RelV
theorem Vals.length {xs : List V} {us : List Value} (r : Vals xs us) : xs.length = us.length := Paired.length r
theorem Vals.get : ∀ {xs : List V} {us : List Value} {i : Nat} {x : V}, Vals xs us → xs[i]? = some x → ∃ u, us[i]? = some u ∧ RelV x u
  | _, _, _, _, .nil, e => by simp at e
  | _, _, 0, _, .cons r _, e => by simp at e; subst e; exact ⟨_, rfl, r⟩
  | _, _, i + 1, x, .cons _ t, e => by
    obtain ⟨u, h1, h2⟩ := Vals.get (i := i) (x := x) t (by simpa using e)
    exact ⟨u, by simpa using h1, h2⟩
theorem Vals.append : ∀ {xs ys : List V} {us ws : List Value}, Vals xs us → Vals ys ws → Vals (xs ++ ys) (us ++ ws)
  | _, _, _, _, .nil, s => s
  | _, _, _, _, .cons r t, s => .cons r (Vals.append t s)
noncomputable def RelO : Option V → Option Value → Prop
  | some v, some u => RelV v u
  | none, none => True
  | _, _ => False
noncomputable def KV {κ : Type} : List (κ × V) → List (κ × Value) → Prop := Paired fun (p : κ × V) (q : κ × Value) => p.1 = q.1 ∧ RelV p.2 q.2
noncomputable def kV : Key → V
  | .inl i => .int i
  | .inr x => .str x
inductive HO where
  | lst (xs : List V)
  | tup (xs : List V)
  | dK (kvs : List (Key × V)) | dT (kvs : List (List Key × V))
  | set (S : Int → Bool) (n : Nat)
  | ins (C dx : Addr) (fs : List (Str × V))
  | own (x : Addr)
  | xd (fs : List (Str × V))
  | met (f x : Addr)
  | rng (lo hi : Int)
  | frz (o : Obj) (u : HO)
  | tbl (ps : Array Value)
  | ext (φ : Heap → Prop)
abbrev Hp := Addr → Option HO
noncomputable def upd (H : Hp) (a : Addr) (o : HO) : Hp := fun b => if b = a then some o else H b
theorem j04 {H : Hp} {a : Addr} {o : HO} : upd H a o a = some o := by unfold upd; rw [if_pos rfl]
theorem j0c {H : Hp} {a b : Addr} {o : HO} (h : b ≠ a) : upd H a o b = H b := by unfold upd; rw [if_neg h]
theorem upd_upd {H : Hp} {a : Addr} {o u : HO} : upd (upd H a o) a u = upd H a u := by
  funext b; unfold upd; split <;> rfl
theorem j0e {H : Hp} {a b : Addr} {o : HO} (h : H a = some o) (h' : H b = none) : a ≠ b := by
  intro e; subst e; rw [h] at h'; cases h'
section
variable (P : Program) (w : World)
noncomputable def j0v (H : Hp) (h : Heap) (a : Addr) : HO → Prop
  | .lst xs => xs.length ≤ sizeLine ∧ ∃ (its : List Value) (n : Nat), Vals xs its ∧ h.get? a = some { cls := .type "list", data := .seq its.toArray n }
  | .tup xs => xs.length ≤ sizeLine ∧ ∃ its : List Value, Vals xs its ∧ IsTup h a its.toArray
  | .dK kvs => kvs.length ≤ sizeLine ∧ (a == sysModules) = false ∧ ∃ vs, KV kvs vs ∧ h.DictOf (j58 P w) a vs
  | .dT kvs => kvs.length ≤ sizeLine ∧ (a == sysModules) = false ∧ ∃ xs : List (List Key × Addr × Value),
      Paired (fun (p : List Key × V) (q : List Key × Addr × Value) => p.1 = q.1 ∧ H q.2.1 = some (.tup (p.1.map kV)) ∧ RelV p.2 q.2.2) kvs xs ∧
      ∃ o es ep, h.get? a = some o ∧ o.ExactDict ∧ o.data = .dict es ep ∧ es.toList = xs.map (entryOfKey (tupleKind (j58 P w))) ∧ (xs.map (·.1)).Nodup
  | .set S n => h.SetOf (intKind P w) a S n
  | .ins C dx fs => H dx = some (.own a) ∧ fs.length ≤ 1000 ∧ dx ≠ a ∧ h.get? a = some (PySem.W.instObj C dx) ∧
      ∃ mA, h.Ns1 dx mA ∧ (∀ f, RelO (fs.lookup f) (mA f)) ∧ PySem.Within mA (fs.map (·.1))
  | .own _ => ∃ o, h.get? a = some o
  | .xd fs => ∃ mA, h.Ns1 a mA ∧ ∀ f, RelO (fs.lookup f) (mA f)
  | .rng lo hi => ∃ t u v, h.get? a = some { cls := .type "range", data := .fields #[.int lo t, .int hi u, .int 1 v] }
  | .frz o u => h.get? a = some o ∧ j0v H h a u
  | .tbl ps => h.get? a = some { cls := .none, data := .fields ps }
  | .met f x => h.get? a = some (PySem.W.methodObj (.ref f) (.ref x))
  | .ext φ => φ h ∧ (∃ o, h.get? a = some o) ∧ ∀ h1 h2 : Heap, φ h1 → (∀ o, h1.get? a = some o → h2.get? a = some o) → φ h2
noncomputable def HOk (H : Hp) (h : Heap) : Prop := ∀ a o, H a = some o → j0v P w H h a o
end
section
variable {P : Program} {w : World} {H H' : Hp} {h h' : Heap} {a : Addr} {o : HO}
theorem j0v.lt (x : j0v P w H h a o) : a < h.objs.size := by
  cases o with
  | lst xs => obtain ⟨_, _, _, _, e⟩ := x; exact Heap.lt_size e
  | tup xs => obtain ⟨_, _, _, p⟩ := x; exact p.lt
  | dK kvs => obtain ⟨_, _, _, _, o, _, _, e, _⟩ := x; exact Heap.lt_size e
  | dT kvs => obtain ⟨_, _, _, _, o, _, _, e, _⟩ := x; exact Heap.lt_size e
  | set S n => obtain ⟨o, _, _, _, e, _⟩ := x; exact Heap.lt_size e
  | ins C dx fs => obtain ⟨_, _, _, e, _⟩ := x; exact Heap.lt_size e
  | own y => obtain ⟨_, e⟩ := x; exact Heap.lt_size e
  | xd fs => obtain ⟨_, ⟨_, _, _, e, _⟩, _⟩ := x; exact Heap.lt_size e
  | rng lo hi => obtain ⟨_, _, _, e⟩ := x; exact Heap.lt_size e
  | frz ob u => obtain ⟨e, _⟩ := x; exact Heap.lt_size e
  | tbl ps => exact Heap.lt_size (show h.get? a = some _ from x)
  | met f y => exact Heap.lt_size (show h.get? a = some _ from x)
  | ext φ => obtain ⟨_, ⟨_, e⟩, _⟩ := x; exact Heap.lt_size e
theorem Paired.mapP {α β : Type} {F G : α → β → Prop} : ∀ {l₁ : List α} {l₂ : List β}, Paired F l₁ l₂ → (∀ a b, F a b → G a b) → Paired G l₁ l₂
  | _, _, .nil, _ => .nil
  | _, _, .cons r t, f => .cons (f _ _ r) (Paired.mapP t f)
theorem j0v.stay (x : j0v P w H h a o) (k : ∀ b u, (b = a ∨ H b = some (.own a)) → h.get? b = some u → h'.get? b = some u)
    (ho : ∀ b, H b = some (.own a) → H' b = some (.own a)) (ht : ∀ b xs, H b = some (.tup xs) → H' b = some (.tup xs)) : j0v P w H' h' a o := by
  induction o with
  | lst xs => obtain ⟨z, its, n, r, e⟩ := x; exact ⟨z, its, n, r, k _ _ (.inl rfl) e⟩
  | tup xs => obtain ⟨z, its, r, ob, e, c⟩ := x; exact ⟨z, its, r, ob, k _ _ (.inl rfl) e, c⟩
  | dK kvs => obtain ⟨z, y, vs, r, ob, es, ep, e, c⟩ := x; exact ⟨z, y, vs, r, ob, es, ep, k _ _ (.inl rfl) e, c⟩
  | dT kvs =>
    obtain ⟨z, y, xs, r, ob, es, ep, e, c⟩ := x
    exact ⟨z, y, xs, Paired.mapP r fun p q z => ⟨z.1, ht _ _ z.2.1, z.2.2⟩, ob, es, ep, k _ _ (.inl rfl) e, c⟩
  | set S n => obtain ⟨ob, es, ep, t, e, c⟩ := x; exact ⟨ob, es, ep, t, k _ _ (.inl rfl) e, c⟩
  | ins C dx fs =>
    obtain ⟨d, z, ne, e, mA, ⟨od, es, ep, e2, c⟩, r⟩ := x
    exact ⟨ho _ d, z, ne, k _ _ (.inl rfl) e, mA, ⟨od, es, ep, k _ _ (.inr d) e2, c⟩, r⟩
  | own y => obtain ⟨ob, e⟩ := x; exact ⟨ob, k _ _ (.inl rfl) e⟩
  | xd fs => obtain ⟨mA, ⟨od, es, ep, e, c⟩, r⟩ := x; exact ⟨mA, ⟨od, es, ep, k _ _ (.inl rfl) e, c⟩, r⟩
  | rng lo hi => obtain ⟨t, u, v, e⟩ := x; exact ⟨t, u, v, k _ _ (.inl rfl) e⟩
  | frz ob u ih => obtain ⟨e, q⟩ := x; exact ⟨k _ _ (.inl rfl) e, ih q⟩
  | tbl ps =>
    have e : h.get? a = some { cls := .none, data := .fields ps } := x
    show h'.get? a = some { cls := .none, data := .fields ps }
    exact k a _ (.inl rfl) e
  | met f y =>
    have e : h.get? a = some (PySem.W.methodObj (.ref f) (.ref y)) := x
    show h'.get? a = some (PySem.W.methodObj (.ref f) (.ref y))
    exact k a _ (.inl rfl) e
  | ext φ => obtain ⟨p, ⟨o, e⟩, st⟩ := x; exact ⟨st _ _ p fun o q => k _ _ (.inl rfl) q, ⟨o, k _ _ (.inl rfl) e⟩, st⟩
theorem HOk.lt (x : HOk P w H h) (e : H a = some o) : a < h.objs.size := (x a o e).lt
theorem HOk.fresh (x : HOk P w H h) (e : h.objs.size ≤ a) : H a = none := by
  cases q : H a with
  | none => rfl
  | some u => exact absurd (Nat.lt_of_lt_of_le (x.lt q) e) (Nat.lt_irrefl _)
theorem HOk.kept (x : HOk P w H h) (k : ∀ b u, h.get? b = some u → h'.get? b = some u) : HOk P w H h' := fun a o e =>
  (x a o e).stay (fun b u _ q => k b u q) (fun _ q => q) fun _ _ q => q
theorem HOk.laid (x : HOk P w H h) (k : ∀ b u, h.get? b = some u → h'.get? b = some u) (hp : h.objs.size ≤ a) (new : j0v P w (upd H a o) h' a o) : HOk P w (upd H a o) h' := fun b u e => by
  have hn := x.fresh hp
  by_cases hb : b = a
  · subst hb; rw [j04] at e; cases e; exact new
  · rw [j0c hb] at e
    exact (x b u e).stay (fun c v _ q => k c v q) (fun c q => by rw [j0c (j0e q hn)]; exact q) fun c xs q => by rw [j0c (j0e q hn)]; exact q
end
noncomputable def Rd (H : Hp) (a : Addr) (u : HO) : Prop := H a = some u ∨ ∃ o, H a = some (.frz o u)
theorem Rd.ok {P : Program} {w : World} {H : Hp} {h : Heap} {a : Addr} {u : HO} (r : Rd H a u) (x : HOk P w H h) : j0v P w H h a u := by
  rcases r with r | ⟨o, r⟩
  · exact x a u r
  · obtain ⟨_, q⟩ := x a _ r
    exact q
noncomputable def Mut : Option HO → Prop
  | some (.lst _) => True
  | some (.dK _) => True
  | some (.dT _) => True
  | some (.set _ _) => True
  | some (.ins _ _ _) => True
  | some (.ext _) => True
  | _ => False
section
variable {P : Program} {w : World} {H : Hp} {h h' : Heap} {x e : Addr} {o' : HO}
theorem HOk.write (ok : HOk P w H h) (mu : Mut (H x)) (he : e = x ∨ H e = some (.own x)) (k : ∀ b u, b ≠ e → h.get? b = some u → h'.get? b = some u) (heo : ∃ u, h'.get? e = some u)
    (new : j0v P w (upd H x o') h' x o') : HOk P w (upd H x o') h' := fun b u q => by
  have nown : ∀ c y, H c = some (.own y) → c ≠ x := fun c y r z => by subst z; rw [r] at mu; exact mu
  have ntup : ∀ c xs, H c = some (.tup xs) → c ≠ x := fun c xs r z => by subst z; rw [r] at mu; exact mu
  by_cases hb : b = x
  · subst hb; rw [j04] at q; cases q; exact new
  · rw [j0c hb] at q
    by_cases hbe : b = e
    · have q' : H b = some (.own x) := by
        rcases he with z | z
        · exact absurd (hbe.trans z) hb
        · rw [hbe]; exact z
      rw [q] at q'; cases q'
      obtain ⟨v, hv⟩ := heo
      exact ⟨v, by rw [hbe]; exact hv⟩
    · refine (ok b u q).stay (fun c v hc r => k c v ?_ r) (fun c r => by rw [j0c (nown c b r)]; exact r) fun c xs r => by rw [j0c (ntup c xs r)]; exact r
      rcases hc with rfl | hc
      · exact hbe
      · rintro rfl
        rcases he with z | z
        · exact nown c b hc z
        · rw [hc] at z; cases z; exact hb rfl
end
structure Un (fs ex : List Addr) (H H' : Hp) (h h' : Heap) : Prop where
  keep : ∀ b o, h.get? b = some o → H b = none → b ∉ fs → b ∉ ex → h'.get? b = some o
  slot : ∀ b o, h.get? b = some o → H b = none → b ∈ fs → b ∉ ex → ∃ sl, h'.get? b = some { o with slots := sl }
  free : ∀ b o, h.get? b = some o → H b = none → b ∉ ex → H' b = none
  there : ∀ b o, h.get? b = some o → b ∉ ex → ∃ o', h'.get? b = some o'
  tups : ∀ b xs, H b = some (.tup xs) → H' b = some (.tup xs)
  frzs : ∀ b o u, H b = some (.frz o u) → H' b = some (.frz o u)
  tbls : ∀ b ps, H b = some (.tbl ps) → ∃ more, H' b = some (.tbl (ps ++ more))
section
variable {fs fs' ex ex' : List Addr} {H H1 H2 : Hp} {h h1 h2 h' : Heap} {a x e : Addr} {o : HO}
theorem Un.any (u : Un fs ex H H1 h h1) {b : Addr} {ob : Obj} (q : h.get? b = some ob) (n : H b = none) (hx : b ∉ ex) : ∃ sl, h1.get? b = some { ob with slots := sl } := by
  by_cases hb : b ∈ fs
  · exact u.slot b ob q n hb hx
  · exact ⟨ob.slots, u.keep b ob q n hb hx⟩
theorem Un.kept (k : ∀ b u, h.get? b = some u → h'.get? b = some u) : Un fs ex H H h h' :=
  ⟨fun b ob q _ _ _ => k b ob q, fun b ob q _ _ _ => ⟨ob.slots, k b ob q⟩, fun _ _ _ n _ => n, fun b ob q _ => ⟨ob, k b ob q⟩, fun _ _ q => q, fun _ _ _ q => q, fun _ ps q => ⟨#[], by rw [q]; simp⟩⟩
theorem Un.refl : Un fs ex H H h h := Un.kept fun _ _ q => q
theorem Un.laid (k : ∀ b u, h.get? b = some u → h'.get? b = some u) (hp : h.objs.size ≤ a) (hn : H a = none) : Un fs ex H (upd H a o) h h' where
  keep := fun b u q _ _ _ => k b u q
  slot := fun b u q _ _ _ => ⟨u.slots, k b u q⟩
  free := fun b u q n _ => by rw [j0c (Nat.ne_of_lt (Nat.lt_of_lt_of_le (Heap.lt_size q) hp))]; exact n
  there := fun b u q _ => ⟨u, k b u q⟩
  tups := fun b xs q => by rw [j0c (j0e q hn)]; exact q
  frzs := fun b u xs q => by rw [j0c (j0e q hn)]; exact q
  tbls := fun b ps q => ⟨#[], by rw [j0c (j0e q hn), q]; simp⟩
theorem Un.write (mu : Mut (H x)) (he : e = x ∨ H e = some (.own x)) (k : ∀ b u, b ≠ e → h.get? b = some u → h'.get? b = some u) (heo : ∃ u, h'.get? e = some u) : Un fs ex H (upd H x o) h h' := by
  have hx : ∀ b, H b = none → b ≠ x := fun b n z => by subst z; rw [n] at mu; exact mu
  have hb : ∀ b, H b = none → b ≠ e := fun b n z => by
    subst z
    rcases he with r | r
    · exact hx b n r
    · rw [n] at r; cases r
  have hm : ∀ b u, H b = some u → ¬ Mut (some u) → b ≠ x := fun b u q nm z => by subst z; rw [q] at mu; exact nm mu
  refine ⟨fun b u q n _ _ => k b u (hb b n) q, fun b u q n _ _ => ⟨u.slots, k b u (hb b n) q⟩, fun b u q n _ => by rw [j0c (hx b n)]; exact n, fun b u q _ => ?_,
    fun b xs q => by rw [j0c (hm b _ q fun z => z)]; exact q, fun b u xs q => by rw [j0c (hm b _ q fun z => z)]; exact q, fun b ps q => ⟨#[], by rw [j0c (hm b _ q fun z => z), q]; simp⟩⟩
  by_cases hbe : b = e
  · subst hbe; exact heo
  · exact ⟨u, k b u hbe q⟩
end
noncomputable def trk (h : Heap) (H : Hp) : List Addr := (List.range h.objs.size).filter fun a => (H a).isSome
noncomputable def hidT (h : Heap) (H : Hp) : Heap := PySem.W.hideAll h (trk h H)
theorem j59 (h : Heap) (H : Hp) : (hidT h H).objs.size = h.objs.size := PySem.W.hideAll_size _ _
theorem hidT_get {h : Heap} {H : Hp} {b : Addr} {o : Obj} (e : h.get? b = some o) (n : H b = none) : (hidT h H).get? b = some o :=
  PySem.W.hideAll_get _ e fun hm => by
    have q : (H b).isSome = true := (List.mem_filter.mp hm).2
    rw [n] at q; simp at q
theorem of_hidT {h : Heap} {H : Hp} {b : Addr} {o : Obj} (e : (hidT h H).get? b = some o) : h.get? b = some o ∧ H b = none := by
  have e' : h.get? b = some o := PySem.W.of_hideAll (trk h H) e
  refine ⟨e', ?_⟩
  cases q : H b with
  | none => rfl
  | some x =>
    have hm : b ∈ trk h H := List.mem_filter.mpr ⟨List.mem_range.mpr (Heap.lt_size e'), by simp [q]⟩
    have z : (hidT h H).get? b = none := PySem.W.hideAll_none (trk h H) hm
    rw [z] at e; cases e
noncomputable def j1m (g h : Heap) (L : Addr) : List (Addr × Obj) := (List.range h.objs.size).filterMap fun a => if a = L ∨ (g.get? a).isSome = true then none else (h.get? a).map fun o => (a, o)
theorem j3q {g h : Heap} {L a : Addr} {o : Obj} (h1 : a ≠ L) (h2 : g.get? a = none) (h3 : h.get? a = some o) : (a, o) ∈ j1m g h L :=
  List.mem_filterMap.mpr ⟨a, List.mem_range.mpr (Heap.lt_size h3), by simp [h1, h2, h3]⟩
theorem j2l {g h : Heap} {L : Addr} {p : Addr × Obj} (hp : p ∈ j1m g h L) : p.1 ≠ L ∧ g.get? p.1 = none ∧ h.get? p.1 = some p.2 := by
  obtain ⟨b, _, e⟩ := List.mem_filterMap.mp hp
  split at e
  · cases e
  · rename_i hn
    cases q : h.get? b with
    | none => rw [q] at e; simp at e
    | some u =>
      rw [q] at e
      simp only [Option.map_some, Option.some.injEq] at e
      subst e
      refine ⟨fun z => hn (.inl z), ?_, q⟩
      show g.get? b = none
      cases r : g.get? b with
      | none => rfl
      | some v => exact (hn (.inr (by simp [r]))).elim
noncomputable def rest (g h : Heap) (L d : Addr) : List (Addr × Obj) := (j1m g h L).filter fun p => decide (p.1 ≠ d)
theorem news_all {g h : Heap} {L : Addr} : News g L h (j1m g h L) := fun p hp => let ⟨a, b, c⟩ := j2l hp; ⟨c, a, b⟩
end L2
namespace L2
open PySem PySem.Spec PyProof.Rows
structure Mod (K : PySem.W.Frag) (mg : Str → Option Value) (base : Heap) : Prop where
  kin : K.In base
  glob : base.Ns mainGlobals mg
  blt : ∃ mb, base.Ns builtinsNs mb ∧ ∀ x : Str, x ≠ "__name__" → mb x = bootBuiltins x
  nolimit : base.NoLimit
/-- the context: a def's body (or a comprehension's block) running. base: fixed through the whole law; s₀, H₀: the entry; outer: the frames whose slots others may change (a def's callers); stack: all frames that run;
   ex: iterators that were made ahead of the entry and are walked here (a comprehension's); fn: the names whose cells were made at the entry (a def: all; a comprehension's block: its own); calm: not within an except suite; pn: pins that every state bears; xe: what is wanted of an exception that leaves the code -/
structure Cx where
  prog : Program
  w : World
  K : PySem.W.Frag
  mg : Str → Option Value
  base : Heap
  A : Around
  N : List Str
  s₀ : Shared
  H₀ : Hp
  env : Env
  outer : List Env
  stack : List Env
  ex : List Addr
  fn : Str → Bool
  calm : Bool
  pn : List (Addr × Obj)
  xe : Value → Shared → Prop
noncomputable def frs (l : List Env) : List Addr := l.filterMap (·.frame)
abbrev Cx.fs (X : Cx) : List Addr := frs X.outer
noncomputable def Vis (sc : Scope) (x : Str) : Prop := sc.names.lookup x = some .local ∨ sc.names.lookup x = some .cell ∨ sc.names.lookup x = some .free
noncomputable def Loc (sc : Scope) (x : Str) : Prop := sc.names.lookup x = some .local ∨ sc.names.lookup x = some .cell
noncomputable def Look (env : Env) (h : Heap) (m : Str → Option Value) (x : Str) (u : Value) : Prop :=
  (env.kindOf x = some .local ∧ m x = some u) ∨ ((env.kindOf x = some .cell ∨ env.kindOf x = some .free) ∧ ∃ c, env.cells.lookup x = some c ∧ h.IsCell c (some u))
structure Cx.Ok (X : Cx) : Prop where
  mod : Mod X.K X.mg X.base
  kind : X.env.scope.kind = .function
  glob : X.env.globals = mainGlobals
  blt : X.env.builtins = builtinsNs
  above : X.s₀.heap.objs.size ≤ X.env.locals
  inj : ∀ x y c, X.env.cells.lookup x = some c → X.env.cells.lookup y = some c → x = y
  has : ∀ x, (X.env.kindOf x = some .cell ∨ X.env.kindOf x = some .free) → ∃ c, X.env.cells.lookup x = some c
  cab : ∀ x c, X.fn x = true → X.env.cells.lookup x = some c → X.s₀.heap.objs.size ≤ c
  hd : X.calm = true → X.A.handled = none
  frames : X.A.frames = some X.stack
  stk : X.stack = X.outer ∨ (X.stack = X.env :: X.outer ∧ X.env.frame = some X.env.locals)
  exf : ∀ b ∈ X.ex, b ≠ X.env.locals ∧ ∀ x c, X.env.cells.lookup x = some c → c ≠ b
  bs : ∀ b o, X.base.get? b = some o → X.s₀.heap.get? b = some o ∧ X.H₀ b = none
  bsz : X.base.objs.size ≤ X.s₀.heap.objs.size
  noex : ∀ b o, X.base.get? b = some o → b ∉ X.ex
  exfs : ∀ b ∈ X.ex, b ∉ X.fs
  funs : X.s₀.heap.FunFrames X.base X.outer
  frf : ∀ b ∈ X.fs, X.H₀ b = none
structure Inv (X : Cx) (pins : List (Addr × Obj)) (σ : List (Option V)) (H : Hp) (s : Shared) : Prop where
  ok : X.Ok
  os : s.os = X.s₀.os
  bare : AllBare s.gens
  base : Un X.fs X.ex X.H₀ H X.s₀.heap s.heap
  loc : ∃ m, s.heap.Ns X.env.locals m ∧ ∀ (i : Nat) (x : Str) (v : V), X.N[i]? = some x → σ[i]? = some (some v) → Vis X.env.scope x → ∃ u, RelV v u ∧ Look X.env s.heap m x u
  cell : ∀ x c, X.env.cells.lookup x = some c → ∃ v, s.heap.IsCell c v
  free : H X.env.locals = none
  freeC : ∀ x c, X.env.cells.lookup x = some c → H c = none
  pin : ∀ p ∈ X.pn ++ pins, s.heap.get? p.1 = some p.2 ∧ H p.1 = none ∧ p.1 ≠ X.env.locals ∧ p.1 ∉ X.fs ∧ ∀ v, p.2.data ≠ .cell v
  hok : HOk X.prog X.w H s.heap
  len : σ.length = X.N.length
section
variable {X : Cx} {pins : List (Addr × Obj)} {σ : List (Option V)} {H H' : Hp} {s : Shared} {h' : Heap}
theorem Cx.Ok.nofr (ok : X.Ok) {b : Addr} {o : Obj} (e : X.base.get? b = some o) : b ∉ X.fs := fun hb => by
  have := (ok.funs.mem hb).1
  rw [e] at this; cases this
theorem Inv.bs (I : Inv X pins σ H s) : ∀ b o, X.base.get? b = some o → s.heap.get? b = some o ∧ H b = none := fun b o e =>
  ⟨I.base.keep b o (I.ok.bs b o e).1 (I.ok.bs b o e).2 (I.ok.nofr e) (I.ok.noex b o e), I.base.free b o (I.ok.bs b o e).1 (I.ok.bs b o e).2 (I.ok.noex b o e)⟩
theorem Inv.bk (I : Inv X pins σ H s) : ∀ b o, X.base.get? b = some o → s.heap.get? b = some o := fun b o e => (I.bs b o e).1
theorem Inv.mod (I : Inv X pins σ H s) : Mod X.K X.mg X.base := I.ok.mod
theorem Inv.kIn (I : Inv X pins σ H s) : X.K.In s.heap := I.ok.mod.kin.keeps I.bk
theorem Inv.fr (I : Inv X pins σ H s) : ∃ m, Fr X.base X.env.locals s.heap m :=
  let ⟨m, hn, _⟩ := I.loc
  ⟨m, hn, I.bk, Nat.le_trans I.ok.bsz I.ok.above⟩
theorem Inv.lt (I : Inv X pins σ H s) : X.env.locals < s.heap.objs.size := let ⟨_, hn, _⟩ := I.loc; hn.lt
theorem Inv.sz (I : Inv X pins σ H s) : X.s₀.heap.objs.size ≤ s.heap.objs.size := Nat.le_trans I.ok.above (Nat.le_of_lt I.lt)
theorem Inv.nofs (I : Inv X pins σ H s) {a : Addr} (h : s.heap.objs.size ≤ a) : a ∉ X.fs := fun hb => by
  obtain ⟨_, o, ho, _⟩ := I.ok.funs.mem hb
  exact absurd (Nat.lt_of_lt_of_le (Heap.lt_size ho) (Nat.le_trans I.sz h)) (Nat.lt_irrefl _)
theorem Inv.cne (I : Inv X pins σ H s) : ∀ x c, X.env.cells.lookup x = some c → c ≠ X.env.locals := fun x c e z => by
  obtain ⟨v, o, ho, hd⟩ := I.cell x c e
  obtain ⟨m, ⟨o', es, ep, ho', hd', _⟩, _⟩ := I.loc
  rw [z, ho'] at ho; cases ho; rw [hd'] at hd; cases hd
theorem Inv.funs (I : Inv X pins σ H s) : s.heap.FunFrames X.base X.outer := by
  have all : ∀ (l : List Env), (∀ b ∈ frs l, b ∈ X.fs) → X.s₀.heap.FunFrames X.base l → s.heap.FunFrames X.base l := by
    intro l
    induction l with
    | nil => intro _ _; trivial
    | cons env r ih =>
      intro hs hl
      obtain ⟨hk, ⟨L, o, hf, hn, ho, hd⟩, hr⟩ := hl
      have hL : L ∈ X.fs := hs L (by unfold frs; rw [List.filterMap_cons, hf]; exact List.mem_cons_self)
      obtain ⟨sl, e⟩ := I.base.slot L o ho (I.ok.frf L hL) hL fun z => I.ok.exfs L z hL
      exact ⟨hk, ⟨L, _, hf, hn, e, hd⟩, ih (fun b hb => hs b (by unfold frs; rw [List.filterMap_cons, hf]; exact List.mem_cons_of_mem _ hb)) hr⟩
  exact all X.outer (fun _ hb => hb) I.ok.funs
theorem Inv.stack (I : Inv X pins σ H s) : s.heap.FunFrames X.base X.stack := by
  rcases I.ok.stk with e | ⟨e, hf⟩
  · rw [e]; exact I.funs
  · rw [e]
    obtain ⟨m, hn, _⟩ := I.loc
    refine .cons (by rw [I.ok.kind]; decide) hf hn ?_ I.funs
    exact Heap.get?_none_of_le (Nat.le_trans I.ok.bsz I.ok.above)
theorem Inv.stkSub (I : Inv X pins σ H s) : ∀ b ∈ frs X.stack, b ∈ X.env.locals :: X.fs := fun b hb => by
  rcases I.ok.stk with e | ⟨e, hf⟩
  · rw [e] at hb; exact List.mem_cons_of_mem _ hb
  · rw [e] at hb
    unfold frs at hb
    rw [List.filterMap_cons, hf] at hb
    exact hb
theorem Inv.stkFree (I : Inv X pins σ H s) : ∀ b ∈ frs X.stack, H b = none := fun b hb => by
  rcases List.mem_cons.mp (I.stkSub b hb) with e | hb
  · rw [e]; exact I.free
  · obtain ⟨_, o, ho, _⟩ := I.ok.funs.mem hb
    exact I.base.free b o ho (I.ok.frf b hb) fun z => I.ok.exfs b z hb
theorem Inv.step {g' : Array GenState} {t' : Nat} {d' : Drawn} {ch : List Addr} (I : Inv X pins σ H s)
    (hch : ∀ b ∈ ch, (b ∈ X.ex ∨ X.s₀.heap.objs.size ≤ b) ∧ b ≠ X.env.locals ∧ (∀ x c, X.env.cells.lookup x = some c → c ≠ b) ∧ ∀ p ∈ X.pn ++ pins, p.1 ≠ b)
    (keep : ∀ b o, b ≠ X.env.locals → b ∉ X.fs → b ∉ ch → s.heap.get? b = some o → H b = none → h'.get? b = some o)
    (slot : ∀ b o, b ≠ X.env.locals → b ∈ X.fs → b ∉ ch → s.heap.get? b = some o → H b = none → ∃ sl, h'.get? b = some { o with slots := sl }) (free : ∀ b o, b ∉ ch → s.heap.get? b = some o → H b = none → H' b = none)
    (there : ∀ b o, b ∉ ch → s.heap.get? b = some o → ∃ o', h'.get? b = some o')
    (tups : ∀ b xs, H b = some (.tup xs) → H' b = some (.tup xs)) (frzs : ∀ b o u, H b = some (.frz o u) → H' b = some (.frz o u)) (tbls : ∀ b ps, H b = some (.tbl ps) → ∃ more, H' b = some (.tbl (ps ++ more)))
    (ns : ∀ m, s.heap.Ns X.env.locals m → h'.Ns X.env.locals m) (hok : HOk X.prog X.w H' h') (hg : AllBare g') :
    Inv X pins σ H' { s with heap := h', gens := g', drawn := d', toks := t' } := by
  have neL : ∀ b o, X.s₀.heap.get? b = some o → b ≠ X.env.locals := fun b o e => Nat.ne_of_lt (Nat.lt_of_lt_of_le (Heap.lt_size e) I.ok.above)
  have neC : ∀ b o, X.s₀.heap.get? b = some o → b ∉ X.ex → b ∉ ch := fun b o e hx hb => by
    rcases (hch b hb).1 with z | z
    · exact hx z
    · exact absurd (Nat.lt_of_lt_of_le (Heap.lt_size e) z) (Nat.lt_irrefl _)
  have cellK : ∀ x c, X.env.cells.lookup x = some c → ∀ v, s.heap.IsCell c v → h'.IsCell c v := fun x c e v ⟨o, ho, hd⟩ => by
    have nch : c ∉ ch := fun z => (hch c z).2.2.1 x c e rfl
    by_cases hc : c ∈ X.fs
    · obtain ⟨sl, q⟩ := slot c o (I.cne x c e) hc nch ho (I.freeC x c e)
      exact ⟨_, q, hd⟩
    · exact ⟨o, keep c o (I.cne x c e) hc nch ho (I.freeC x c e), hd⟩
  refine ⟨I.ok, I.os, hg, ⟨fun b o e n hb hx => ?_, fun b o e n hb hx => ?_, fun b o e n hx => ?_, fun b o e hx => ?_, fun b xs e => tups b xs (I.base.tups b xs e), fun b o xs e => frzs b o xs (I.base.frzs b o xs e), fun b ps e => ?_⟩, ?_, fun x c e => ?_, ?_, fun x c e => ?_, fun p hp => ?_, hok, I.len⟩
  · exact keep b o (neL b o e) hb (neC b o e hx) (I.base.keep b o e n hb hx) (I.base.free b o e n hx)
  · obtain ⟨sl, e1⟩ := I.base.slot b o e n hb hx
    obtain ⟨sl', e2⟩ := slot b _ (neL b o e) hb (neC b o e hx) e1 (I.base.free b o e n hx)
    exact ⟨sl', e2⟩
  · obtain ⟨o', e1⟩ := I.base.there b o e hx
    exact free b o' (neC b o e hx) e1 (I.base.free b o e n hx)
  · obtain ⟨o', e1⟩ := I.base.there b o e hx
    exact there b o' (neC b o e hx) e1
  · obtain ⟨m1, e1⟩ := I.base.tbls b ps e
    obtain ⟨m2, e2⟩ := tbls b _ e1
    exact ⟨m1 ++ m2, by rw [e2, Array.append_assoc]⟩
  · obtain ⟨m, hn, hl⟩ := I.loc
    refine ⟨m, ns m hn, fun i x v e1 e2 e3 => ?_⟩
    obtain ⟨u, r, l⟩ := hl i x v e1 e2 e3
    refine ⟨u, r, ?_⟩
    rcases l with l | ⟨k, c, e, z⟩
    · exact .inl l
    · exact .inr ⟨k, c, e, cellK x c e _ z⟩
  · obtain ⟨v, z⟩ := I.cell x c e
    exact ⟨v, cellK x c e v z⟩
  · obtain ⟨m, ⟨o, _, _, ho, _⟩, _⟩ := I.loc
    exact free _ o (fun z => (hch _ z).2.1 rfl) ho I.free
  · obtain ⟨v, o, ho, hd⟩ := I.cell x c e
    exact free c o (fun z => (hch c z).2.2.1 x c e rfl) ho (I.freeC x c e)
  · obtain ⟨e, n, ne, nf, d⟩ := I.pin p hp
    have nch : p.1 ∉ ch := fun z => (hch p.1 z).2.2.2 p hp rfl
    exact ⟨keep p.1 p.2 ne nf nch e n, free p.1 p.2 nch e n, ne, nf, d⟩
theorem Inv.un {t' : Nat} (I : Inv X pins σ H s) (u : Un X.fs [] H H' s.heap h') (hok : HOk X.prog X.w H' h') : Inv X pins σ H' { s with heap := h', toks := t' } := by
  obtain ⟨m, ⟨o, es, ep, ho, r⟩, _⟩ := id I.loc
  obtain ⟨sl, hL⟩ := u.any ho I.free (by simp)
  exact I.step (g' := s.gens) (d' := s.drawn) (ch := []) (fun _ z => nomatch z) (fun b o _ hb _ e n => u.keep b o e n hb (by simp)) (fun b o _ hb _ e n => u.slot b o e n hb (by simp)) (fun b o _ e n => u.free b o e n (by simp)) (fun b o _ e => u.there b o e (by simp)) u.tups u.frzs u.tbls (fun m' hm => by
    obtain ⟨o', es', ep', ho', r'⟩ := hm
    rw [ho] at ho'; cases ho'
    exact ⟨_, es', ep', hL, r'⟩) hok I.bare
theorem Inv.call {g' : Array GenState} {t' : Nat} {d' : Drawn} {ch : List Addr} (I : Inv X pins σ H s) (u : Un (frs X.stack) ch H H' s.heap h') (hok : HOk X.prog X.w H' h') (hg : AllBare g')
    (hch : ∀ b ∈ ch, (b ∈ X.ex ∨ X.s₀.heap.objs.size ≤ b) ∧ b ≠ X.env.locals ∧ (∀ x c, X.env.cells.lookup x = some c → c ≠ b) ∧ ∀ p ∈ X.pn ++ pins, p.1 ≠ b) :
    Inv X pins σ H' { s with heap := h', gens := g', drawn := d', toks := t' } := by
  obtain ⟨m, ⟨o, es, ep, ho, r⟩, _⟩ := id I.loc
  obtain ⟨sl, hL⟩ := u.any ho I.free fun z => (hch _ z).2.1 rfl
  exact I.step (ch := ch) hch (fun b o hL hb hc e n => u.keep b o e n (fun z => (List.mem_cons.mp (I.stkSub b z)).elim hL hb) hc) (fun b o _ _ hc e n => u.any e n hc) (fun b o hc e n => u.free b o e n hc) (fun b o hc e => u.there b o e hc) u.tups u.frzs u.tbls (fun m' hm => by
    obtain ⟨o', es', ep', ho', r'⟩ := hm
    rw [ho] at ho'; cases ho'
    exact ⟨_, es', ep', hL, r'⟩) hok hg
theorem Inv.turned {t' : Nat} {it : Addr} (I : Inv X pins σ H s) (k : ∀ b o, b ≠ it → s.heap.get? b = some o → h'.get? b = some o) (hn : H it = none) (hL : it ≠ X.env.locals)
    (h1 : it ∈ X.ex ∨ X.s₀.heap.objs.size ≤ it) (h2 : ∀ x c, X.env.cells.lookup x = some c → c ≠ it) (h3 : ∀ p ∈ X.pn ++ pins, p.1 ≠ it) : Inv X pins σ H { s with heap := h', toks := t' } := by
  have nit : ∀ b u, H b = some u → b ≠ it := fun b u e z => by rw [z, hn] at e; cases e
  refine I.step (g' := s.gens) (d' := s.drawn) (ch := [it]) (fun b hb => ?_) (fun b o _ _ hc e _ => k b o (fun z => hc (by simp [z])) e) (fun b o _ _ hc e _ => ⟨o.slots, k b o (fun z => hc (by simp [z])) e⟩) (fun _ _ _ _ n => n)
    (fun b o hc e => ⟨o, k b o (fun z => hc (by simp [z])) e⟩) (fun _ _ e => e) (fun _ _ _ e => e) (fun b ps e => ⟨#[], by rw [e]; simp⟩) (fun m hm => ?_) (fun b u e => ?_) I.bare
  · have e : b = it := by simpa using hb
    subst e
    exact ⟨h1, hL, h2, h3⟩
  · obtain ⟨o, es, ep, ho, r⟩ := hm
    exact ⟨o, es, ep, k _ o (Ne.symm hL) ho, r⟩
  · refine (I.hok b u e).stay (fun c v hc q => k c v ?_ q) (fun _ q => q) fun _ _ q => q
    rcases hc with z | z
    · rw [z]; exact nit b u e
    · exact nit c _ z
theorem Inv.tok (I : Inv X pins σ H s) (t : Nat) : Inv X pins σ H { s with toks := t } := I.un (h' := s.heap) (t' := t) Un.refl I.hok
theorem Inv.kept {t' : Nat} (I : Inv X pins σ H s) (k : ∀ b u, s.heap.get? b = some u → h'.get? b = some u) : Inv X pins σ H { s with heap := h', toks := t' } := I.un (Un.kept k) (I.hok.kept k)
theorem Inv.laid {a : Addr} {o : HO} {t' : Nat} (I : Inv X pins σ H s) (k : ∀ b u, s.heap.get? b = some u → h'.get? b = some u) (hp : s.heap.objs.size ≤ a) (new : j0v X.prog X.w (upd H a o) h' a o) :
    Inv X pins σ (upd H a o) { s with heap := h', toks := t' } := I.un (Un.laid k hp (I.hok.fresh hp)) (I.hok.laid k hp new)
theorem Inv.write {x e : Addr} {o : HO} {t' : Nat} (I : Inv X pins σ H s) (mu : Mut (H x)) (he : e = x ∨ H e = some (.own x)) (k : ∀ b u, b ≠ e → s.heap.get? b = some u → h'.get? b = some u) (heo : ∃ u, h'.get? e = some u)
    (new : j0v X.prog X.w (upd H x o) h' x o) : Inv X pins σ (upd H x o) { s with heap := h', toks := t' } := I.un (Un.write mu he k heo) (I.hok.write mu he k heo new)
theorem Inv.pins_of {pins' : List (Addr × Obj)} (I : Inv X pins σ H s) (h : ∀ p ∈ pins', s.heap.get? p.1 = some p.2 ∧ H p.1 = none ∧ p.1 ≠ X.env.locals ∧ p.1 ∉ X.fs ∧ ∀ v, p.2.data ≠ .cell v) : Inv X pins' σ H s :=
  ⟨I.ok, I.os, I.bare, I.base, I.loc, I.cell, I.free, I.freeC, fun p hp => (List.mem_append.mp hp).elim (fun z => I.pin p (List.mem_append_left _ z)) (h p), I.hok, I.len⟩
theorem j47 {N : List Str} (hN : N.Nodup) {i j : Nat} {x : Str} (a : N[i]? = some x) (b : N[j]? = some x) : i = j := by
  obtain ⟨h1, e1⟩ := List.getElem?_eq_some_iff.mp a
  obtain ⟨h2, e2⟩ := List.getElem?_eq_some_iff.mp b
  exact (List.getElem_inj hN).mp (e1.trans e2.symm)
theorem j38 {M : Model} {A : Around} {E : Value → Shared → Prop} {i : Nat} {x : Str} {v : V} {u : Value} {Q : Unit → Shared → Prop} (I : Inv X pins σ H s) (hN : X.N.Nodup) (hi : X.N[i]? = some x) (hx : Loc X.env.scope x) (r : RelV v u)
    (h : ∀ s', Inv X pins (σ.set i (some v)) H s' → (∃ a, Heap.SameBut a s.heap s'.heap ∧ (a = X.env.locals ∨ X.env.cells.lookup x = some a)) → Q () s') (hf : X.fn x = true ∨ X.env.scope.names.lookup x = some .local := by first | exact .inl rfl | exact .inr rfl | assumption) : wpAny M A (storeName X.env x u) Q E s := by
  obtain ⟨m, hn, hl⟩ := id I.loc
  have hcls : (X.env.scope.kind == .class || (X.env.scope.kind == .module && X.env.locals != X.env.globals)) = false := by rw [I.ok.kind]; rfl
  have hiσ : i < σ.length := by rw [I.len]; exact (List.getElem?_eq_some_iff.mp hi).1
  have cne := I.cne
  have tracked : ∀ {a : Addr} {h' : Heap}, (∃ o, s.heap.get? a = some o ∧ H a = none) → Heap.SameBut a s.heap h' → HOk X.prog X.w H h' := fun {a h'} ha hs b ob e => by
    obtain ⟨_, _, hfree⟩ := ha
    refine (I.hok b ob e).stay (fun c w' hc q => (hs.2 c ?_).trans q) (fun _ q => q) fun _ _ q => q
    rintro rfl
    rcases hc with rfl | hc
    · rw [hfree] at e; cases e
    · rw [hfree] at hc; cases hc
  rcases hx with hk | hk
  · refine wpAny_storeName_local hk hn (fun h' hn' hs => ?_) hcls
    obtain ⟨oL, _, _, hoL, _⟩ := id hn
    refine h _ ⟨I.ok, I.os, I.bare, ⟨fun b o e n hb hx => ?_, fun b o e n hb hx => ?_, I.base.free, fun b o e hx => ?_, I.base.tups, I.base.frzs, I.base.tbls⟩, ⟨_, hn', fun j y v' e1 e2 e3 => ?_⟩, fun y c e => ?_, I.free, I.freeC, fun p hp => ?_, tracked ⟨oL, hoL, I.free⟩ hs, by simpa using I.len⟩ ⟨_, hs, .inl rfl⟩
    · exact (hs.2 b (Nat.ne_of_lt (Nat.lt_of_lt_of_le (Heap.lt_size e) I.ok.above))).trans (I.base.keep b o e n hb hx)
    · obtain ⟨sl, e1⟩ := I.base.slot b o e n hb hx
      exact ⟨sl, (hs.2 b (Nat.ne_of_lt (Nat.lt_of_lt_of_le (Heap.lt_size e) I.ok.above))).trans e1⟩
    · obtain ⟨o', e1⟩ := I.base.there b o e hx
      exact ⟨o', (hs.2 b (Nat.ne_of_lt (Nat.lt_of_lt_of_le (Heap.lt_size e) I.ok.above))).trans e1⟩
    · by_cases hj : j = i
      · subst hj
        rw [hi] at e1; cases e1
        rw [List.getElem?_set_self hiσ] at e2
        cases e2
        exact ⟨u, r, .inl ⟨hk, by simp⟩⟩
      · rw [List.getElem?_set_ne (Ne.symm hj)] at e2
        obtain ⟨u', r', q⟩ := hl j y v' e1 e2 e3
        refine ⟨u', r', ?_⟩
        rcases q with ⟨k, e⟩ | ⟨k, c, e, z⟩
        · refine .inl ⟨k, ?_⟩
          have : y ≠ x := fun e => hj (j47 hN e1 (e ▸ hi))
          simp [this, e]
        · exact .inr ⟨k, c, e, z.sameBut hs (cne y c e)⟩
    · obtain ⟨w', z⟩ := I.cell y c e
      exact ⟨w', z.sameBut hs (cne y c e)⟩
    · obtain ⟨e, n, ne, nf, d⟩ := I.pin p hp
      exact ⟨(hs.2 p.1 ne).trans e, n, ne, nf, d⟩
  · have hfn : X.fn x = true := by
      rcases hf with z | z
      · exact z
      · rw [z] at hk; cases hk
    obtain ⟨c, hc⟩ := I.ok.has x (.inl hk)
    obtain ⟨w', z⟩ := I.cell x c hc
    refine wpAny_storeName_cell I.ok.kind hk hc z (fun h' hc' hs => ?_)
    obtain ⟨oc, hoc, hocd⟩ := id z
    refine h { s with heap := h' } ⟨I.ok, I.os, I.bare, ⟨fun b o e n hb hx => ?_, fun b o e n hb hx => ?_, I.base.free, fun b o e hx => ?_, I.base.tups, I.base.frzs, I.base.tbls⟩, ⟨m, hn.sameBut hs (Ne.symm (cne x c hc)), fun j y v' e1 e2 e3 => ?_⟩, fun y c' e => ?_, I.free, I.freeC, fun p hp => ?_, tracked ⟨oc, hoc, I.freeC x c hc⟩ hs, by simpa using I.len⟩ ⟨c, hs, .inr hc⟩
    · exact (hs.2 b (Nat.ne_of_lt (Nat.lt_of_lt_of_le (Heap.lt_size e) (I.ok.cab x c hfn hc)))).trans (I.base.keep b o e n hb hx)
    · obtain ⟨sl, e1⟩ := I.base.slot b o e n hb hx
      exact ⟨sl, (hs.2 b (Nat.ne_of_lt (Nat.lt_of_lt_of_le (Heap.lt_size e) (I.ok.cab x c hfn hc)))).trans e1⟩
    · obtain ⟨o', e1⟩ := I.base.there b o e hx
      exact ⟨o', (hs.2 b (Nat.ne_of_lt (Nat.lt_of_lt_of_le (Heap.lt_size e) (I.ok.cab x c hfn hc)))).trans e1⟩
    · by_cases hj : j = i
      · subst hj
        rw [hi] at e1; cases e1
        rw [List.getElem?_set_self hiσ] at e2
        cases e2
        exact ⟨u, r, .inr ⟨.inl hk, c, hc, hc'⟩⟩
      · rw [List.getElem?_set_ne (Ne.symm hj)] at e2
        obtain ⟨u', r', q⟩ := hl j y v' e1 e2 e3
        refine ⟨u', r', ?_⟩
        rcases q with q | ⟨k, c', e, z'⟩
        · exact .inl q
        · refine .inr ⟨k, c', e, z'.sameBut hs ?_⟩
          rintro rfl
          exact hj (j47 hN e1 (I.ok.inj _ _ _ e hc ▸ hi))
    · by_cases hcc : c' = c
      · subst hcc; exact ⟨_, hc'⟩
      · obtain ⟨w2, z2⟩ := I.cell y c' e
        exact ⟨w2, z2.sameBut hs hcc⟩
    · obtain ⟨e, n, ne, nf, d⟩ := I.pin p hp
      refine ⟨(hs.2 p.1 ?_).trans e, n, ne, nf, d⟩
      intro q
      rw [q, hoc] at e
      have q' : oc = p.2 := Option.some.inj e
      exact d w' (by rw [← q']; exact hocd)
theorem j1z {M : Model} {A : Around} {E : Value → Shared → Prop} {i : Nat} {x : Str} {v : V} {u : Value} {Q : Unit → Shared → Prop} (I : Inv X pins σ H s) (hN : X.N.Nodup) (hi : X.N[i]? = some x) (hx : Loc X.env.scope x) (r : RelV v u)
    (h : ∀ s', Inv X pins (σ.set i (some v)) H s' → Q () s') (hf : X.fn x = true ∨ X.env.scope.names.lookup x = some .local := by first | exact .inl rfl | exact .inr rfl | assumption) : wpAny M A (storeName X.env x u) Q E s :=
  j38 I hN hi hx r (fun s' I' _ => h s' I') hf
theorem Inv.call' {s' : Shared} {ch : List Addr} (I : Inv X pins σ H s) (ho : s'.os = s.os) (u : Un (frs X.stack) ch H H' s.heap s'.heap) (hok : HOk X.prog X.w H' s'.heap) (hg : AllBare s'.gens)
    (hch : ∀ b ∈ ch, (b ∈ X.ex ∨ X.s₀.heap.objs.size ≤ b) ∧ b ≠ X.env.locals ∧ (∀ x c, X.env.cells.lookup x = some c → c ≠ b) ∧ ∀ p ∈ X.pn ++ pins, p.1 ≠ b) : Inv X pins σ H' s' := by
  obtain ⟨h', g', d', t', o'⟩ := s'
  have e : o' = s.os := ho
  subst e
  exact I.call (g' := g') (t' := t') (d' := d') u hok hg hch
end
abbrev XK := Value → Option Addr → Hp → Prop
abbrev St := List (Option V)
abbrev VK := V → Hp → Prop
abbrev TE := St → Hp → VK → Prop
abbrev TT := St → Hp → (Bool → Hp → Prop) → Prop
abbrev TA := St → Hp → (List V → Hp → Prop) → Prop
structure Ends where
  nx : St → Hp → Prop
  rt : VK
  bk : St → Hp → Prop := fun _ _ => False
  ct : St → Hp → Prop := fun _ _ => False
abbrev TS := Ends → St → Hp → Prop
noncomputable def EP (X : Cx) (pins : List (Addr × Obj)) (σ : St) (Q : VK) (u : Value) (s' : Shared) : Prop := ∃ v H', Inv X pins σ H' s' ∧ RelV v u ∧ Q v H'
noncomputable def TP (X : Cx) (pins : List (Addr × Obj)) (σ : St) (Q : Bool → Hp → Prop) (b : Bool) (s' : Shared) : Prop := ∃ H', Inv X pins σ H' s' ∧ Q b H'
noncomputable def AP (X : Cx) (pins : List (Addr × Obj)) (σ : St) (Q : List V → Hp → Prop) (us : List Value) (s' : Shared) : Prop := ∃ vs H', Inv X pins σ H' s' ∧ Vals vs us ∧ Q vs H'
noncomputable def SP (X : Cx) (pins : List (Addr × Obj)) (D : Ends) (f : Flow) (s' : Shared) : Prop :=
  match f with
  | .next => ∃ σ' H', Inv X pins σ' H' s' ∧ D.nx σ' H'
  | .brk => ∃ σ' H', Inv X pins σ' H' s' ∧ D.bk σ' H'
  | .cont => ∃ σ' H', Inv X pins σ' H' s' ∧ D.ct σ' H'
  | .ret u => ∃ v σ' H', Inv X pins σ' H' s' ∧ RelV v u ∧ D.rt v H'
noncomputable def PE (X : Cx) (e : Expr) (t : TE) : Prop :=
  ∀ (pins : List (Addr × Obj)) (s : Shared) (σ : St) (H : Hp) (Q : VK), Inv X pins σ H s → t σ H Q → wpAny (model X.prog X.w) X.A (eval e X.env) (EP X pins σ Q) X.xe s
noncomputable def PT (X : Cx) (e : Expr) (t : TT) : Prop :=
  ∀ (pins : List (Addr × Obj)) (s : Shared) (σ : St) (H : Hp) (Q : Bool → Hp → Prop), Inv X pins σ H s → t σ H Q → wpAny (model X.prog X.w) X.A (isTrue e X.env (eval e X.env)) (TP X pins σ Q) X.xe s
noncomputable def PW (X : Cx) (e : Expr) (t : TT) : Prop :=
  ∀ (whole : Sem Value) (pins : List (Addr × Obj)) (s : Shared) (σ : St) (H : Hp) (Q : Bool → Hp → Prop), Inv X pins σ H s → t σ H Q → wpAny (model X.prog X.w) X.A (isTrue e X.env whole) (TP X pins σ Q) X.xe s
theorem PW.pt {X : Cx} {e : Expr} {t : TT} (h : PW X e t) : PT X e t := h _
noncomputable def PA (X : Cx) (es : List Expr) (t : TA) : Prop :=
  ∀ (pos : Pos) (pins : List (Addr × Obj)) (s : Shared) (σ : St) (H : Hp) (Q : List V → Hp → Prop), Inv X pins σ H s → t σ H Q → wpAny (model X.prog X.w) X.A (spliced (backTo pos (starEach es X.env))) (AP X pins σ Q) X.xe s
noncomputable def PS (X : Cx) (st : Stmt) (t : TS) : Prop :=
  ∀ (pins : List (Addr × Obj)) (s : Shared) (σ : St) (H : Hp) (D : Ends), Inv X pins σ H s → t D σ H → wpAny (model X.prog X.w) X.A (exec st X.env) (SP X pins D) X.xe s
noncomputable def PSs (X : Cx) (st : List Stmt) (t : TS) : Prop :=
  ∀ (pins : List (Addr × Obj)) (s : Shared) (σ : St) (H : Hp) (D : Ends), Inv X pins σ H s → t D σ H → wpAny (model X.prog X.w) X.A (execs st X.env) (SP X pins D) X.xe s
theorem thn {α : Type} {t : Sem α} {Q Q' : α → Shared → Prop} {M : Model} {A : Around} {E : Value → Shared → Prop} {s : Shared} (h : wpAny M A t Q E s) (hQ : ∀ a s, Q a s → Q' a s) : wpAny M A t Q' E s := wpAny_mono h hQ fun _ _ x => x
end L2
namespace L2
open PySem PySem.Spec PyProof.Rows
section
variable {X : Cx}
noncomputable def tVar (i : Nat) : TE := fun σ H Q => ∃ v, σ[i]? = some (some v) ∧ Q v H
noncomputable def tC (v : V) : TE := fun _ H Q => Q v H
theorem pe_var {i : Nat} {x : Str} {pos : Pos} (hN : X.N[i]? = some x) (hv : Vis X.env.scope x) (hd : (x == ("__debug__" : Str)) = false := by decide) (hcd : (x == ("__classdict__" : Str)) = false := by decide) : PE X (.Name x pos) (tVar i) := by
  intro pins s σ H Q I h
  obtain ⟨v, e, h⟩ := h
  obtain ⟨m, hn, hl⟩ := I.loc
  obtain ⟨u, r, l⟩ := hl i x v hN e hv
  have fin : EP X pins σ Q u s := ⟨v, H, I, r, h⟩
  rcases l with ⟨hk, hm⟩ | ⟨hk, c, hc, hcell⟩
  · exact wpAny_Name (wpAny_loadName_local I.ok.kind hk hn hm fin) hd
  · rcases hk with hk | hk
    · exact wpAny_Name (wpAny_loadName_cell I.ok.kind hk hc hcell fin) hd
    · exact wpAny_Name (wpAny_loadName_free I.ok.kind hk hc hcell fin hcd) hd
theorem j07 {i j pos} : PE X (.Constant (.int i) j pos) (tC (.int i)) := fun _ _ _ H _ I h => wpAny_Constant_int ⟨.int i, H, I.tok _, ⟨_, rfl⟩, h⟩
theorem j3r {b j pos} : PE X (.Constant (.bool b) j pos) (tC (.bl b)) := fun _ _ _ H _ I h => Constant_bool ⟨.bl b, H, I, rfl, h⟩
theorem j2n {j pos} : PE X (.Constant .none j pos) (tC .non) := fun _ _ _ H _ I h => Constant_none ⟨.non, H, I, rfl, h⟩
theorem j0f {x j pos} : PE X (.Constant (.str x) j pos) (tC (.str x)) := fun _ _ _ H _ I h => Calls.Constant_str ⟨.str x, H, I.tok _, ⟨_, rfl⟩, h⟩
noncomputable def Gl (X : Cx) (x : Str) : Prop := X.env.kindOf x = some .globalImplicit
theorem j26 {E : Value → Shared → Prop} {pins : List (Addr × Obj)} {s : Shared} {σ : St} {H : Hp} {x : Str} {u : Value} {pos : Pos} {Q : Value → Shared → Prop} (I : Inv X pins σ H s) (hg : Gl X x) (hm : X.mg x = some u) (h : Q u s)
    (hd : (x == ("__debug__" : Str)) = false := by decide) : wpAny (model X.prog X.w) X.A (eval (.Name x pos) X.env) Q E s :=
  Calls.Name_function_global I.ok.kind hg (Calls.loadGlobal_global (by rw [I.ok.glob]; exact I.mod.glob.keeps I.bk) hm h) hd
theorem j48 {E : Value → Shared → Prop} {pins : List (Addr × Obj)} {s : Shared} {σ : St} {H : Hp} {x : Str} {u : Value} {pos : Pos} {Q : Value → Shared → Prop} (I : Inv X pins σ H s) (hg : Gl X x) (hm : X.mg x = none) (hv : bootBuiltins x = some u) (h : Q u s)
    (hn : x ≠ "__name__" := by decide) (hd : (x == ("__debug__" : Str)) = false := by decide) : wpAny (model X.prog X.w) X.A (eval (.Name x pos) X.env) Q E s := by
  obtain ⟨mb, h1, h2⟩ := I.mod.blt
  exact Calls.Name_function_global I.ok.kind hg (Calls.loadGlobal_builtin (by rw [I.ok.glob]; exact I.mod.glob.keeps I.bk) hm (by rw [I.ok.blt]; exact h1.keeps I.bk) ((h2 x hn).trans hv) h) hd
theorem j0w {x : Str} {v : V} {u : Value} {pos : Pos} (hg : Gl X x) (hm : X.mg x = some u) (r : RelV v u) (hd : (x == ("__debug__" : Str)) = false := by decide) : PE X (.Name x pos) (tC v) :=
  fun _ _ _ H _ I h => j26 I hg hm ⟨v, H, I, r, h⟩ hd
theorem j1n {x : Str} {v : V} {u : Value} {pos : Pos} (hg : Gl X x) (hm : X.mg x = none) (hv : bootBuiltins x = some u) (r : RelV v u) (hn : x ≠ "__name__" := by decide) (hd : (x == ("__debug__" : Str)) = false := by decide) : PE X (.Name x pos) (tC v) :=
  fun _ _ _ H _ I h => j48 I hg hm hv ⟨v, H, I, r, h⟩ hn hd
noncomputable def t2I (ta tb : TE) (k : Int → Int → Hp → Prop) : St → Hp → Prop := fun σ H => ta σ H fun x H1 => tb σ H1 fun y H2 => ∃ i j, x = .int i ∧ y = .int j ∧ k i j H2
noncomputable def tAdd (ta tb : TE) : TE := fun σ H Q => t2I ta tb (fun i j H2 => Q (.int (i + j)) H2) σ H
noncomputable def tSub (ta tb : TE) : TE := fun σ H Q => t2I ta tb (fun i j H2 => Q (.int (i - j)) H2) σ H
noncomputable def tMul (ta tb : TE) : TE := fun σ H Q => t2I ta tb (fun i j H2 => (-(2 ^ 64) < i ∧ i < 2 ^ 64) ∧ Q (.int (i * j)) H2) σ H
variable {a b : Expr} {ta tb : TE} {pos : Pos}
noncomputable def PC (X : Cx) (op : CmpOp) (a b : Expr) (t : TE) : Prop :=
  ∀ (pins : List (Addr × Obj)) (s : Shared) (σ : St) (H : Hp) (Q : VK), Inv X pins σ H s → t σ H Q →
    wpAny (model X.prog X.w) X.A (eval a X.env) (fun v s₁ => wpAny (model X.prog X.w) X.A (eval b X.env) (fun u s₂ => wpAny (model X.prog X.w) X.A (compareOp op v u) (EP X pins σ Q) X.xe s₂) X.xe s₁) X.xe s
noncomputable def tCmp (p : Int → Int → Bool) (ta tb : TE) : TE := fun σ H Q => t2I ta tb (fun i j H2 => Q (.bl (p i j)) H2) σ H
abbrev tLt : TE → TE → TE := tCmp fun i j => decide (i < j)
abbrev tLe : TE → TE → TE := tCmp fun i j => decide (i ≤ j)
abbrev tGt : TE → TE → TE := tCmp fun i j => decide (j < i)
abbrev tGe : TE → TE → TE := tCmp fun i j => decide (j ≤ i)
abbrev tEqI : TE → TE → TE := tCmp fun i j => decide (i = j)
abbrev tNeI : TE → TE → TE := tCmp fun i j => !decide (i = j)
noncomputable def tIsN (ta : TE) : TE := fun σ H Q => ta σ H fun x H1 => Q (.bl (decide (x = .non))) H1
noncomputable def tNotN (ta : TE) : TE := fun σ H Q => ta σ H fun x H1 => Q (.bl (!decide (x = .non))) H1
noncomputable def tB (t : TE) : TT := fun σ H Q => t σ H fun x H1 => ∃ c, x = .bl c ∧ Q c H1
theorem j15 {e : Expr} {t : TE} (h : PE X e t) (he : ∀ whole, isTrue e X.env whole = (do let v ← whole; standAt e.pos; holding [v] (truthy v)) := by intro _; rfl) : PT X e (tB t) := by
  intro pins s σ H Q I hw
  refine isTrue_plain (thn (h pins s σ H _ I hw) fun v s1 ⟨x, H1, I1, r1, q1⟩ => ?_) (he _)
  obtain ⟨d, rfl, q⟩ := q1
  cases r1
  exact wpAny_truthy_bool ⟨H1, I1, q⟩
variable {tA tB' : TT} {rest : List Expr}
noncomputable def tAnd (t u : TT) : TT := fun σ H Q => t σ H fun c H1 => if c = true then u σ H1 Q else Q false H1
noncomputable def tOr (t u : TT) : TT := fun σ H Q => t σ H fun c H1 => if c = true then Q true H1 else u σ H1 Q
noncomputable def tNot (t : TT) : TT := fun σ H Q => t σ H fun c H1 => Q (!c) H1
theorem pw_and1 (ha : PT X a tA) : PW X (.BoolOp .And [a] pos) tA := by
  intro wh pins s σ H Q I h
  refine isTrue_and (thn (ha pins s σ H Q I h) fun c s1 e => ?_)
  cases c with
  | true => exact isTrue_and_nil e
  | false => exact e
theorem j39 (ha : PT X a tA) : PW X (.BoolOp .Or [a] pos) tA := by
  intro wh pins s σ H Q I h
  refine isTrue_or (thn (ha pins s σ H Q I h) fun c s1 e => ?_)
  cases c with
  | false => exact isTrue_or_nil e
  | true => exact e
theorem pw_and (ha : PT X a tA) (hb : PW X (.BoolOp .And (b :: rest) pos) tB') : PW X (.BoolOp .And (a :: b :: rest) pos) (tAnd tA tB') := by
  intro wh pins s σ H Q I h
  refine isTrue_and (thn (ha pins s σ H _ I h) fun c s1 ⟨H1, I1, q1⟩ => ?_)
  cases c with
  | true => exact hb wh pins s1 σ H1 Q I1 q1
  | false => exact ⟨H1, I1, q1⟩
theorem j2u (ha : PT X a tA) (hb : PW X (.BoolOp .Or (b :: rest) pos) tB') : PW X (.BoolOp .Or (a :: b :: rest) pos) (tOr tA tB') := by
  intro wh pins s σ H Q I h
  refine isTrue_or (thn (ha pins s σ H _ I h) fun c s1 ⟨H1, I1, q1⟩ => ?_)
  cases c with
  | true => exact ⟨H1, I1, q1⟩
  | false => exact hb wh pins s1 σ H1 Q I1 q1
theorem j1e (ha : PT X a tA) : PT X (.UnaryOp .Not a pos) (tNot tA) := by
  intro pins s σ H Q I h
  exact isTrue_not (ha pins s σ H (fun c H1 => Q (!c) H1) I h)
noncomputable def tAndV (ta tb : TE) : TE := fun σ H Q => ta σ H fun x H1 => ∃ c, x = .bl c ∧ if c = true then tb σ H1 Q else Q (.bl false) H1
noncomputable def tOrV (ta tb : TE) : TE := fun σ H Q => ta σ H fun x H1 => ∃ c, x = .bl c ∧ if c = true then Q (.bl true) H1 else tb σ H1 Q
noncomputable def tNotV (ta : TE) : TE := fun σ H Q => ta σ H fun x H1 => ∃ c, x = .bl c ∧ Q (.bl (!c)) H1
theorem j49 {op} {t : TE} (h : PE X a t) : PE X (.BoolOp op [a] pos) t := fun pins s σ H Q I hw => BoolOp_one (h pins s σ H Q I hw)
theorem j4a (ha : PE X a ta) (hb : PE X (.BoolOp .And (b :: rest) pos) tb) : PE X (.BoolOp .And (a :: b :: rest) pos) (tAndV ta tb) := by
  intro pins s σ H Q I h
  refine BoolOp_and (thn (ha pins s σ H _ I h) fun v s1 ⟨x, H1, I1, r1, q1⟩ => ?_)
  obtain ⟨c, rfl, q1⟩ := q1
  cases r1
  refine wpAny_truthy_bool ?_
  cases c with
  | true => exact hb pins s1 σ H1 Q I1 q1
  | false => exact ⟨.bl false, H1, I1, rfl, q1⟩
theorem j5a (ha : PE X a ta) : PE X (.UnaryOp .Not a pos) (tNotV ta) := by
  intro pins s σ H Q I h
  refine UnaryOp_ (thn (ha pins s σ H _ I h) fun v s1 ⟨x, H1, I1, r1, q1⟩ => ?_)
  obtain ⟨c, rfl, q1⟩ := q1
  cases r1
  exact not_of (wpAny_truthy_bool ⟨.bl (!c), H1, I1, rfl, q1⟩)
noncomputable def tIf (t : TT) (ta tb : TE) : TE := fun σ H Q => t σ H fun c H1 => if c = true then ta σ H1 Q else tb σ H1 Q
theorem j20 {c : Expr} (hc : PT X c tA) (ha : PE X a ta) (hb : PE X b tb) : PE X (.IfExp c a b pos) (tIf tA ta tb) := by
  intro pins s σ H Q I h
  refine wpAny_IfExp (thn (hc pins s σ H _ I h) fun d s1 ⟨H1, I1, q1⟩ => ?_)
  cases d with
  | true => exact ha pins s1 σ H1 Q I1 q1
  | false => exact hb pins s1 σ H1 Q I1 q1
end
end L2
namespace L2
open PySem PySem.Spec PyProof.Rows
noncomputable def SqL (K : PySem.W.Frag) (H : Hp) (a : Addr) (xs : List V) : Prop :=
  Rd H a (.lst xs) ∨
    ∃ (o : Obj) (its : Array Value) (n : Nat), K.lookup a = some o ∧ o.cls = .type "list" ∧ o.dict = none ∧ o.data = .seq its n ∧ its.size ≤ sizeLine ∧ Vals xs its.toList
noncomputable def SqT (K : PySem.W.Frag) (H : Hp) (a : Addr) (xs : List V) : Prop :=
  Rd H a (.tup xs) ∨
    ∃ (o : Obj) (its : Array Value) (n : Nat), K.lookup a = some o ∧ o.cls = .type "tuple" ∧ o.data = .seq its n ∧ its.size ≤ sizeLine ∧ Vals xs its.toList
noncomputable def absV : Value → Option V
  | .none => some .non
  | .bool b => some (.bl b)
  | .int i _ => some (.int i)
  | .str x _ => some (.str x)
  | .bytes b _ => some (.byt b)
  | .float b _ => some (.flt b)
  | .ref a => some (.ref a)
  | .type n => some (.ty n)
  | _ => none
theorem RelV.abs {x : V} {u : Value} (r : RelV x u) : absV u = some x := by
  cases x with
  | non => cases r; rfl
  | bl _ => cases r; rfl
  | int _ => obtain ⟨t, rfl⟩ := r; rfl
  | str _ => obtain ⟨t, rfl⟩ := r; rfl
  | byt _ => obtain ⟨t, rfl⟩ := r; rfl
  | flt _ => obtain ⟨t, rfl⟩ := r; rfl
  | ref _ => cases r; rfl
  | ty _ => cases r; rfl
theorem RelV.inj {x y : V} {u : Value} (r : RelV x u) (q : RelV y u) : x = y := Option.some.inj (r.abs.symm.trans q.abs)
theorem Vals.inj : ∀ {xs ys : List V} {us : List Value}, Vals xs us → Vals ys us → xs = ys
  | _, _, _, .nil, .nil => rfl
  | _, _, _, .cons r t, .cons r' t' => by rw [r.inj r', Vals.inj t t']
section
variable {X : Cx} {pins : List (Addr × Obj)} {σ : St} {H : Hp} {s : Shared} {a : Addr} {xs ys : List V}
theorem SqL.of {K : PySem.W.Frag} (h : H a = some (.lst xs)) : SqL K H a xs := .inl (.inl h)
theorem SqT.of {K : PySem.W.Frag} (h : H a = some (.tup xs)) : SqT K H a xs := .inl (.inl h)
theorem Inv.list (I : Inv X pins σ H s) (h : SqL X.K H a xs) : ∃ its : List Value, Vals xs its ∧ PlainL s.heap a its.toArray ∧ xs.length ≤ sizeLine := by
  rcases h with h | ⟨o, its, n, hk, hc, hd, hs, hz, r⟩
  · obtain ⟨z, its, n, r, e⟩ := h.ok I.hok
    exact ⟨its, r, ⟨_, n, e, rfl, rfl, rfl⟩, z⟩
  · refine ⟨its.toList, r, ⟨o, n, I.kIn a o hk, hc, hd, by simpa using hs⟩, ?_⟩
    have e := r.length
    simp only [Array.length_toList] at e
    omega
theorem Inv.tuple (I : Inv X pins σ H s) (h : SqT X.K H a xs) : ∃ its : List Value, Vals xs its ∧ IsTup s.heap a its.toArray ∧ xs.length ≤ sizeLine := by
  rcases h with h | ⟨o, its, n, hk, hc, hs, hz, r⟩
  · obtain ⟨z, its, r, p⟩ := h.ok I.hok
    exact ⟨its, r, p, z⟩
  · refine ⟨its.toList, r, ⟨o, I.kIn a o hk, hc, n, by simpa using hs⟩, ?_⟩
    have e := r.length
    simp only [Array.length_toList] at e
    omega
theorem Inv.list_inj (I : Inv X pins σ H s) (h : SqL X.K H a xs) (h' : SqL X.K H a ys) : xs = ys := by
  obtain ⟨its, r, ⟨o, n, e, _, _, d⟩, _⟩ := I.list h
  obtain ⟨its', r', ⟨o', n', e', _, _, d'⟩, _⟩ := I.list h'
  rw [e] at e'; cases e'
  rw [d] at d'
  injection d' with d1 _
  have : its = its' := by simpa using congrArg Array.toList d1
  subst this
  exact r.inj r'
end
abbrev Cx.wish (X : Cx) (E : Value → Shared → Prop) : Cx := { X with xe := E }
abbrev Cx.nox (X : Cx) : Cx := X.wish fun _ _ => False
theorem Cx.Ok.wish {X : Cx} (ok : X.Ok) (E : Value → Shared → Prop) : (X.wish E).Ok :=
  ⟨ok.mod, ok.kind, ok.glob, ok.blt, ok.above, ok.inj, ok.has, ok.cab, ok.hd, ok.frames, ok.stk, ok.exf, ok.bs, ok.bsz, ok.noex, ok.exfs, ok.funs, ok.frf⟩
theorem Cx.Ok.unwish {X : Cx} {E : Value → Shared → Prop} (ok : (X.wish E).Ok) : X.Ok :=
  ⟨ok.mod, ok.kind, ok.glob, ok.blt, ok.above, ok.inj, ok.has, ok.cab, ok.hd, ok.frames, ok.stk, ok.exf, ok.bs, ok.bsz, ok.noex, ok.exfs, ok.funs, ok.frf⟩
section
variable {X : Cx} {pins : List (Addr × Obj)} {σ : St} {H : Hp} {s : Shared} {E : Value → Shared → Prop}
theorem Inv.wish (I : Inv X pins σ H s) (E : Value → Shared → Prop) : Inv (X.wish E) pins σ H s := ⟨I.ok.wish E, I.os, I.bare, I.base, I.loc, I.cell, I.free, I.freeC, I.pin, I.hok, I.len⟩
theorem Inv.unwish (I : Inv (X.wish E) pins σ H s) : Inv X pins σ H s := ⟨I.ok.unwish, I.os, I.bare, I.base, I.loc, I.cell, I.free, I.freeC, I.pin, I.hok, I.len⟩
theorem SP.unwish {D : Ends} {f : Flow} {s' : Shared} (h : SP (X.wish E) pins D f s') : SP X pins D f s' := by
  cases f with
  | next => obtain ⟨σ', H', I, q⟩ := h; exact ⟨σ', H', I.unwish, q⟩
  | brk => obtain ⟨σ', H', I, q⟩ := h; exact ⟨σ', H', I.unwish, q⟩
  | cont => obtain ⟨σ', H', I, q⟩ := h; exact ⟨σ', H', I.unwish, q⟩
  | ret u => obtain ⟨v, σ', H', I, r, q⟩ := h; exact ⟨v, σ', H', I.unwish, r, q⟩
theorem PSs.nox {st : List Stmt} {t : TS} (h : PSs X.nox st t) : PSs X st t := fun pins s σ H D I hw =>
  wpAny_mono (h pins s σ H D (I.wish _) hw) (fun _ _ q => q.unwish) fun _ _ z => False.elim z
end
section
variable {X : Cx} {st : Stmt} {rest : List Stmt} {t u : TS} {e : Expr} {te : TE} {pos : Pos}
noncomputable def tNext : TS := fun D σ H => D.nx σ H
noncomputable def tSeq (t u : TS) : TS := fun D σ H => t { D with nx := u D } σ H
theorem j0n : PSs X [] tNext := fun _ _ σ H _ I h => wpAny_execs_nil ⟨σ, H, I, h⟩
theorem j02 (h1 : PS X st t) (h2 : PSs X rest u) : PSs X (st :: rest) (tSeq t u) := by
  intro pins s σ H D I h
  refine wpAny_execs_cons (thn (h1 pins s σ H { D with nx := u D } I h) fun f s1 q => ?_)
  cases f with
  | next =>
    obtain ⟨σ', H', I', q⟩ := q
    exact h2 pins s1 σ' H' D I' q
  | ret v => exact q
  | brk => exact q
  | cont => exact q
theorem j05 (h1 : PS X st t) : PSs X [st] t := by
  intro pins s σ H D I h
  refine wpAny_execs_cons (thn (h1 pins s σ H D I h) fun f s1 q => ?_)
  cases f with
  | next => exact wpAny_execs_nil q
  | ret v => exact q
  | brk => exact q
  | cont => exact q
noncomputable def tBreak : TS := fun D σ H => D.bk σ H
noncomputable def tCont : TS := fun D σ H => D.ct σ H
theorem Inv.quiet {pins : List (Addr × Obj)} {σ : St} {H : Hp} {s : Shared} (I : Inv X pins σ H s) : interactive X.env = false := by simp [interactive, I.ok.kind]
noncomputable def tDrop (te : TE) : TS := fun D σ H => te σ H fun _ H1 => D.nx σ H1
theorem j2v (he : PE X e te) (hs : swapsWith e none pos.line X.env = pure false := by rfl) : PS X (.Expr e pos) (tDrop te) := by
  intro pins s σ H D I h
  exact wpAny_Expr_any (thn (he pins s σ H _ I h) fun v s1 ⟨x, H1, I1, r1, q1⟩ => ⟨σ, H1, I1, q1⟩) I.quiet hs
noncomputable def tRet (te : TE) : TS := fun D σ H => te σ H D.rt
theorem j0d (he : PE X e te) : PS X (.Return (some e) pos) (tRet te) := by
  intro pins s σ H D I h
  exact wpAny_Return_some (thn (he pins s σ H _ I h) fun v s1 ⟨x, H1, I1, r1, q1⟩ => ⟨x, σ, H1, I1, r1, q1⟩)
noncomputable def tRetN : TS := fun D _ H => D.rt .non H
noncomputable def tIfS (c : TT) (t u : TS) : TS := fun D σ H => c σ H fun b H1 => if b = true then t D σ H1 else u D σ H1
theorem j1o {c : Expr} {a b : List Stmt} {tc : TT} (hc : PT X c tc) (ha : PSs X a t) (hb : PSs X b u) : PS X (.If c a b pos) (tIfS tc t u) := by
  intro pins s σ H D I h
  refine wpAny_If (thn (hc pins s σ H _ I h) fun d s1 ⟨H1, I1, q1⟩ => ?_)
  cases d with
  | true => exact ha pins s1 σ H1 D I1 q1
  | false => exact hb pins s1 σ H1 D I1 q1
noncomputable def tNever : TS := fun _ _ _ => False
theorem j4b : PS X st tNever := fun _ _ _ _ _ _ h => h.elim
end
abbrev TG := V → St → Hp → (St → Hp → Prop) → Prop
abbrev TGs := List V → St → Hp → (St → Hp → Prop) → Prop
noncomputable def PG (X : Cx) (target : Expr) (t : TG) : Prop :=
  ∀ (pins : List (Addr × Obj)) (s : Shared) (σ : St) (H : Hp) (v : V) (u : Value) (Q : St → Hp → Prop), Inv X pins σ H s → RelV v u → t v σ H Q →
    wpAny (model X.prog X.w) X.A (assign target X.env u) (fun _ s' => ∃ σ' H', Inv X pins σ' H' s' ∧ Q σ' H') X.xe s
noncomputable def PGs (X : Cx) (ts : List Expr) (t : TGs) : Prop :=
  ∀ (pins : List (Addr × Obj)) (s : Shared) (σ : St) (H : Hp) (vs : List V) (us : List Value) (Q : St → Hp → Prop), Inv X pins σ H s → Vals vs us → t vs σ H Q →
    wpAny (model X.prog X.w) X.A (assignInOrder ((assignEach ts X.env).map (·.2)) us) (fun _ s' => ∃ σ' H', Inv X pins σ' H' s' ∧ Q σ' H') X.xe s
abbrev TSet := V → V → V → Hp → (Hp → Prop) → Prop
noncomputable def PSet (X : Cx) (t : TSet) : Prop :=
  ∀ (pins : List (Addr × Obj)) (s : Shared) (σ : St) (H : Hp) (o i v : V) (ov iv u : Value) (Q : Hp → Prop), Inv X pins σ H s → RelV o ov → RelV i iv → RelV v u → t o i v H Q →
    wpAny (model X.prog X.w) X.A (setItem ov iv u) (fun _ s' => ∃ H', Inv X pins σ H' s' ∧ Q H') X.xe s
abbrev TIp := V → V → Hp → VK → Prop
noncomputable def PIp (X : Cx) (op : Operator) (t : TIp) : Prop :=
  ∀ (pins : List (Addr × Obj)) (s : Shared) (σ : St) (H : Hp) (x y : V) (v u : Value) (Q : VK), Inv X pins σ H s → RelV x v → RelV y u → t x y H Q →
    wpAny (model X.prog X.w) X.A (inplaceOp op v u) (EP X pins σ Q) X.xe s
section
variable {X : Cx} {pos : Pos}
noncomputable def j5b (i : Nat) : TG := fun v σ H Q => Q (σ.set i (some v)) H
theorem j3s {i : Nat} {x : Str} (hN : X.N.Nodup) (hi : X.N[i]? = some x) (hx : Loc X.env.scope x) (hf : X.fn x = true ∨ X.env.scope.names.lookup x = some .local := by first | exact .inl rfl | exact .inr rfl | assumption) : PG X (.Name x pos) (j5b i) := by
  intro pins s σ H v u Q I r h
  exact wpAny_assign_Name (j1z I hN hi hx r (fun s' I' => ⟨_, H, I', h⟩) hf)
noncomputable def gNil : TGs := fun vs σ H Q => vs = [] ∧ Q σ H
noncomputable def gCons (t : TG) (u : TGs) : TGs := fun vs σ H Q => ∃ v r, vs = v :: r ∧ t v σ H fun σ' H' => u r σ' H' Q
noncomputable def gTup (K : PySem.W.Frag) (n : Nat) (t : TGs) : TG := fun v σ H Q => ∃ a xs, v = .ref a ∧ SqT K H a xs ∧ xs.length = n ∧ t xs σ H Q
noncomputable def gSub (to ti : TE) (t : TSet) : TG := fun v σ H Q => to σ H fun o H1 => ti σ H1 fun i H2 => t o i v H2 fun H3 => Q σ H3
noncomputable def tAsg (te : TE) (g : TG) : TS := fun D σ H => te σ H fun x H1 => g x σ H1 D.nx
theorem j0k {i : Nat} {x : Str} {e : Expr} {te : TE} {pos' : Pos} (hN : X.N.Nodup) (hi : X.N[i]? = some x) (hx : Loc X.env.scope x) (he : PE X e te) (hs : swapsWith e (some (.Name x pos')) pos.line X.env = pure false := by rfl) (hf : X.fn x = true ∨ X.env.scope.names.lookup x = some .local := by first | exact .inl rfl | exact .inr rfl | assumption) :
    PS X (.Assign [.Name x pos'] e pos) (tAsg te (j5b i)) := by
  intro pins s σ H D I h
  refine wpAny_Assign_Name (thn (he pins s σ H _ I h) fun v s1 ⟨y, H1, I1, r1, q1⟩ => ?_) hs
  exact j1z I1 hN hi hx r1 (fun s2 I2 => ⟨_, H1, I2, q1⟩) hf
noncomputable def tPar (i j : Nat) (ta : TA) : TS := fun D σ H => ta σ H fun vs H1 => ∃ v w, vs = [v, w] ∧ D.nx ((σ.set i (some v)).set j (some w)) H1
noncomputable def tAug (i : Nat) (te : TE) (ti : TIp) : TS := fun D σ H => ∃ x, σ[i]? = some (some x) ∧ te σ H fun y H1 => ti x y H1 fun z H2 => D.nx (σ.set i (some z)) H2
noncomputable def tAugS (to ti te : TE) (tget : V → V → Hp → VK → Prop) (tip : TIp) (tset : TSet) : TS := fun D σ H => to σ H fun o H1 => ti σ H1 fun i H2 => tget o i H2 fun x H3 => te σ H3 fun y H4 => tip x y H4 fun z H5 => tset o i z H5 fun H6 => D.nx σ H6
noncomputable def PGet (X : Cx) (t : V → V → Hp → VK → Prop) : Prop :=
  ∀ (pins : List (Addr × Obj)) (s : Shared) (σ : St) (H : Hp) (o i : V) (ov iv : Value) (Q : VK), Inv X pins σ H s → RelV o ov → RelV i iv → t o i H Q →
    wpAny (model X.prog X.w) X.A (getItem ov iv) (EP X pins σ Q) X.xe s
noncomputable def ipI (f : Int → Int → Int) : TIp := fun x y H Q => ∃ i j, x = .int i ∧ y = .int j ∧ Q (.int (f i j)) H
end
section
variable {X : Cx} {pos : Pos}
noncomputable def tWhile (c : TT) (tb : TS) : TS := fun D σ H => ∃ W : Nat → St → Hp → Prop, (∃ m, W m σ H) ∧ ∀ m σ H, W m σ H →
  c σ H fun b H1 => if b = true then ∃ N : St → Hp → Prop, (∀ σ' H', N σ' H' → ∃ m', m' < m ∧ W m' σ' H') ∧ tb { D with nx := N, ct := N, bk := D.nx } σ H1 else D.nx σ H1
end
structure It where
  go : Nat → Hp → Prop
  yld : Nat → Hp → V → Hp → Prop
  stop : Nat → Hp → Prop
noncomputable def FpOk (X : Cx) (pins : List (Addr × Obj)) (H : Hp) (b : Addr) : Prop :=
  H b = none ∧ b ≠ X.env.locals ∧ b ∉ X.fs ∧ (b ∈ X.ex ∨ X.s₀.heap.objs.size ≤ b) ∧ (∀ x c, X.env.cells.lookup x = some c → c ≠ b) ∧ ∀ p ∈ X.pn ++ pins, p.1 ≠ b
theorem Inv.fpOk {X : Cx} {pins : List (Addr × Obj)} {σ : St} {H H' : Hp} {s : Shared} {b : Addr} (I : Inv X pins σ H s) (hb : s.heap.objs.size ≤ b) (hn : H' b = none) : FpOk X pins H' b := by
  refine ⟨hn, Nat.ne_of_gt (Nat.lt_of_lt_of_le I.lt hb), I.nofs hb, .inr (Nat.le_trans I.sz hb), fun x c e z => ?_, fun p hp z => ?_⟩
  · obtain ⟨v, q⟩ := I.cell x c e
    exact absurd (Nat.lt_of_lt_of_le q.lt (by rw [z]; exact hb)) (Nat.lt_irrefl _)
  · exact absurd (Nat.lt_of_lt_of_le (Heap.lt_size (I.pin p hp).1) (by rw [z]; exact hb)) (Nat.lt_irrefl _)
structure Turn (P : Program) (w : World) (K : PySem.W.Frag) (tg : Expr) (J : It) (fp : List Addr) (it : Addr) (tn : Nat → Heap → Prop) : Prop where
  mem : it ∈ fp
  obj : ∀ i h, tn i h → ∀ b ∈ fp, ∃ o, h.get? b = some o ∧ ∀ v, o.data ≠ .cell v
  keep : ∀ i h h', tn i h → (∀ b ∈ fp, ∀ o, h.get? b = some o → h'.get? b = some o) → tn i h'
  item : ∀ (X : Cx), X.prog = P → X.w = w → X.K = K → X.calm = true → ∀ (i : Nat) (pins : List (Addr × Obj)) (s : Shared) (σ : St) (H : Hp) (E : Value → Shared → Prop), Inv X pins σ H s → (∀ b ∈ fp, FpOk X pins H b) → tn i s.heap → J.go i H →
    wpAny (model P w) X.A (pyNext (.ref it)) (fun r s1 => ∃ u, r = some u ∧
      wpAny (model P w) X.A (letOwnedTupleGo tg (.ref it) u) (fun _ s2 => ∃ x H', Inv X pins σ H' s2 ∧ RelV x u ∧ J.yld i H x H' ∧ tn (i + 1) s2.heap ∧ ∀ b ∈ fp, H' b = none) E s1) E s
  done : ∀ (X : Cx), X.prog = P → X.w = w → X.K = K → X.calm = true → ∀ (i : Nat) (pins : List (Addr × Obj)) (s : Shared) (σ : St) (H : Hp) (E : Value → Shared → Prop), Inv X pins σ H s → (∀ b ∈ fp, FpOk X pins H b) → tn i s.heap → J.stop i H →
    wpAny (model P w) X.A (pyNext (.ref it)) (fun r s1 => r = none ∧ Inv X pins σ H s1) E s
  self : ∀ (A : Around) (i : Nat) (s : Shared) (Q : Value → Shared → Prop) (E : Value → Shared → Prop), tn i s.heap → Q (.ref it) s → wpAny (model P w) A (pyIter (.ref it)) Q E s
abbrev TI := St → Hp → (It → Hp → Prop) → Prop
noncomputable def PIE (X : Cx) (pins : List (Addr × Obj)) (σ : St) (tg : Expr) (R : It → Hp → Prop) (itv : Value) (s2 : Shared) : Prop :=
  ∃ (it : Addr) (fp : List Addr) (tn : Nat → Heap → Prop) (J : It) (H' : Hp), itv = .ref it ∧ Inv X pins σ H' s2 ∧ Turn X.prog X.w X.K tg J fp it tn ∧ tn 0 s2.heap ∧ (∀ b ∈ fp, FpOk X pins H' b) ∧ R J H'
noncomputable def PI (X : Cx) (tg iter : Expr) (wi : TI) : Prop :=
  ∀ (pins : List (Addr × Obj)) (s : Shared) (σ : St) (H : Hp) (R : It → Hp → Prop), Inv X pins σ H s → wi σ H R →
    wpAny (model X.prog X.w) X.A (eval iter X.env) (fun v s1 => wpAny (model X.prog X.w) X.A (pyIter v) (PIE X pins σ tg R) X.xe s1) X.xe s
theorem go_of {M : Model} {A : Around} {E : Value → Shared → Prop} {s : Shared} {tg : Expr} {it : Addr} {u : Value} {o : Obj} {n : String} {vs : Array Value} {Q : Unit → Shared → Prop} (ho : s.heap.get? it = some o) (hc : o.cls = .type n) (hd : o.data = .fields vs)
    (hn : ["enumerate", "zip", "dict_itemiterator", "dict_reverseitemiterator", "odict_iterator", "itertools.zip_longest", "itertools.pairwise"].contains n = false) (hQ : Q () s) : wpAny M A (letOwnedTupleGo tg (.ref it) u) Q E s := by
  unfold letOwnedTupleGo
  cases tg <;> first
    | exact wpAny_pure hQ
    | (cases u <;> first
        | exact wpAny_pure hQ
        | (refine wpAny_bind (wpAny_load ho ?_)
           rw [hc, hd]
           show wpAny M A (if (["enumerate", "zip", "dict_itemiterator", "dict_reverseitemiterator", "odict_iterator", "itertools.zip_longest", "itertools.pairwise"].contains n && vs[0]? == some (rawInt _)) = true then _ else _) Q E s
           rw [if_neg (by intro h; rw [hn, Bool.false_and] at h; cases h)]
           exact wpAny_pure hQ))
noncomputable def Itl (K : PySem.W.Frag) (a : Addr) : It :=
  ⟨fun i H => ∃ xs x, SqL K H a xs ∧ xs[i]? = some x, fun i H x H' => H' = H ∧ ∀ xs, SqL K H a xs → xs[i]? = some x, fun i H => ∃ xs, SqL K H a xs ∧ xs.length ≤ i⟩
noncomputable def Itt (K : PySem.W.Frag) (a : Addr) : It :=
  ⟨fun i H => ∃ xs x, SqT K H a xs ∧ xs[i]? = some x, fun i H x H' => H' = H ∧ ∀ xs, SqT K H a xs → xs[i]? = some x, fun i H => ∃ xs, SqT K H a xs ∧ xs.length ≤ i⟩
noncomputable def Itr (lo : Int) (n : Nat) : It := ⟨fun i _ => i < n, fun i H x H' => H' = H ∧ x = .int (lo + i), fun i _ => n ≤ i⟩
theorem j5c {P : Program} {w : World} {K : PySem.W.Frag} {tg : Expr} (a it : Addr) : Turn P w K tg (Itl K a) [it] it (fun i h => h.IsListIter it a i) where
  mem := by simp
  obj := fun i h st b hb => by
    have e : b = it := by simpa using hb
    subst e
    obtain ⟨o, e, c, d⟩ := st
    exact ⟨o, e, fun v z => by rw [d] at z; cases z⟩
  keep := fun i h h' st k => st.at fun o e => k it (by simp) o e
  item := by
    intro X hP hw hK hc i pins s σ H E I hf st hg
    subst hP hw hK
    obtain ⟨xs, x, hq, hx⟩ := hg
    obtain ⟨its, rv, p, hz⟩ := I.list hq
    obtain ⟨u, hu, ru⟩ := rv.get hx
    obtain ⟨f0, f1, f2, f3, f4, f5⟩ := hf it (by simp)
    refine wpAny_pyNext_list_item st p.isList (x := u) (by simpa using hu) fun h' st' sb => ?_
    have I1 : Inv X pins σ H { s with heap := h' } := I.turned (t' := s.toks) (fun b o hb e => (sb.2 b hb).trans e) f0 f1 f3 f4 f5
    obtain ⟨o, e, c, d⟩ := id st'
    exact ⟨u, rfl, go_of (s := { s with heap := h' }) e c d (by decide) ⟨x, H, I1, ru, ⟨rfl, fun ys hy => by rw [I.list_inj hy hq]; exact hx⟩, st', fun b hb => (hf b hb).1⟩⟩
  done := by
    intro X hP hw hK hc i pins s σ H E I hf st hg
    subst hP hw hK
    obtain ⟨xs, hq, hx⟩ := hg
    obtain ⟨its, rv, p, hz⟩ := I.list hq
    obtain ⟨f0, f1, f2, f3, f4, f5⟩ := hf it (by simp)
    have hl := rv.length
    exact wpAny_pyNext_list_end (I.ok.hd hc) st p.isList (by simp; omega) fun h' eb => ⟨rfl, I.turned (t' := s.toks) (fun b o hb e => eb b o hb e) f0 f1 f3 f4 f5⟩
  self := fun _ _ _ _ _ st h => wpAny_pyIter_listiter st h
theorem j4v {P : Program} {w : World} {K : PySem.W.Frag} {tg : Expr} (it : Addr) (lo : Int) (n : Nat) : Turn P w K tg (Itr lo n) [it] it (fun i h => IsRangeIter h it (lo + (i : Nat) * 1) ((n : Int) - (i : Nat)) 1) where
  mem := by simp
  obj := fun i h st b hb => by
    have e : b = it := by simpa using hb
    subst e
    exact ⟨_, st, fun v z => by
      have z' : Data.fields _ = Data.cell v := z
      cases z'⟩
  keep := fun i h h' st k => k it (by simp) _ st
  item := by
    intro X hP hw hK hc i pins s σ H E I hf st hg
    subst hP hw hK
    obtain ⟨f0, f1, f2, f3, f4, f5⟩ := hf it (by simp)
    have W := Walks.range (prog := X.prog) (w := X.w) (I.ok.hd hc) it lo 1 n
    refine W.item i s _ _ hg st fun v h' tk hv st' kk => ?_
    obtain ⟨t, rfl⟩ := hv
    have I1 : Inv X pins σ H { s with heap := h', toks := tk } := I.turned (fun b o hb e => kk b o (by simpa using hb) e) f0 f1 f3 f4 f5
    refine ⟨_, rfl, go_of (s := { s with heap := h', toks := tk }) (n := "range_iterator") st' rfl rfl (by decide) ⟨.int (lo + i), H, I1, ⟨t, ?_⟩, ⟨rfl, rfl⟩, st', fun b hb => (hf b hb).1⟩⟩
    rw [Int.mul_one]
  done := by
    intro X hP hw hK hc i pins s σ H E I hf st hg
    subst hP hw hK
    obtain ⟨f0, f1, f2, f3, f4, f5⟩ := hf it (by simp)
    exact wpAny_pyNext_range_end (I.ok.hd hc) st (by have : n ≤ i := hg; omega) fun h' eb => ⟨rfl, I.turned (t' := s.toks) (fun b o hb e => eb b o hb e) f0 f1 f3 f4 f5⟩
  self := fun _ _ _ _ _ st h => wpAny_pyIter_rangeiter st h
end L2
namespace L2
open PySem PySem.Spec PyProof.Rows
section
variable {X : Cx} {tg : Expr}
noncomputable def iList (K : PySem.W.Frag) (tl : TE) : TI := fun σ H R => tl σ H fun x H1 => ∃ a, x = .ref a ∧ (∃ xs, SqL K H1 a xs) ∧ R (Itl K a) H1
noncomputable def iTup (K : PySem.W.Frag) (tl : TE) : TI := fun σ H R => tl σ H fun x H1 => ∃ a, x = .ref a ∧ (∃ xs, SqT K H1 a xs) ∧ R (Itt K a) H1
theorem j18 {l : Expr} {tl : TE} (hl : PE X l tl) : PI X tg l (iList X.K tl) := by
  intro pins s σ H R I h
  refine thn (hl pins s σ H _ I h) fun v s1 ⟨x, H1, I1, r1, q1⟩ => ?_
  obtain ⟨a, e, ⟨xs, hq⟩, q⟩ := q1
  subst e
  cases r1
  obtain ⟨its, rv, p, hz⟩ := I1.list hq
  refine wpAny_pyIter_list p.isList ?_
  refine ⟨s1.heap.objs.size, [s1.heap.objs.size], _, _, H1, rfl, I1.kept (t' := s1.toks) fun b o e => Heap.get?_push_of_some _ e, j5c a _, ⟨_, Heap.get?_push_size _ rfl, rfl, rfl⟩, fun b hb => ?_, q⟩
  have e : b = s1.heap.objs.size := by simpa using hb
  subst e
  exact I1.fpOk (Nat.le_refl _) (I1.hok.fresh (Nat.le_refl _))
theorem range_it {pins : List (Addr × Obj)} {σ : St} {H : Hp} {s : Shared} {R : It → Hp → Prop} {E : Value → Shared → Prop} {lo hi : Int} {t u v : Tok} {tk : Nat} (I : Inv X pins σ H s) (h1 : -(2 ^ 62) ≤ lo) (h2 : lo < 2 ^ 62) (h3 : -(2 ^ 62) ≤ hi) (h4 : hi < 2 ^ 62)
    (q : R (Itr lo (hi - lo).toNat) H) : wpAny (model X.prog X.w) X.A (pyIter (.ref s.heap.objs.size)) (PIE X pins σ tg R) E { s with heap := s.heap.push { cls := .type "range", data := .fields #[.int lo t, .int hi u, .int 1 v] }, toks := tk } := by
  refine wpAny_pyIter_range (IsRange.new ..) (small_one h1 h2 h3 h4) ?_
  have I1 : Inv X pins σ H { s with heap := s.heap.push { cls := .type "range", data := .fields #[.int lo t, .int hi u, .int 1 v] }, toks := tk } := I.kept fun b o e => Heap.get?_push_of_some _ e
  refine ⟨(s.heap.push { cls := .type "range", data := .fields #[.int lo t, .int hi u, .int 1 v] }).objs.size, [(s.heap.push { cls := .type "range", data := .fields #[.int lo t, .int hi u, .int 1 v] }).objs.size], _, _, H, rfl,
    I1.kept (t' := tk) fun b o e => Heap.get?_push_of_some _ e, j4v _ lo (hi - lo).toNat, ?_, fun b hb => ?_, q⟩
  · have e1 : lo + ((0 : Nat) : Int) * 1 = lo := by simp
    have e2 : (((hi - lo).toNat : Nat) : Int) - ((0 : Nat) : Int) = Builtin.Range.rangeSize lo hi 1 := by rw [rangeSize_one]; split <;> omega
    show IsRangeIter _ _ (lo + ((0 : Nat) : Int) * 1) ((((hi - lo).toNat : Nat) : Int) - ((0 : Nat) : Int)) 1
    rw [e1, e2]
    exact Heap.get?_push_size _ rfl
  · have e : b = (s.heap.push { cls := .type "range", data := .fields #[.int lo t, .int hi u, .int 1 v] }).objs.size := by simpa using hb
    subst e
    exact I1.fpOk (Nat.le_refl _) (I1.hok.fresh (Nat.le_refl _))
noncomputable def iRng1 (ta : TA) : TI := fun σ H R => ta σ H fun vs H1 => ∃ j : Int, vs = [.int j] ∧ -(2 ^ 62) ≤ j ∧ j < 2 ^ 62 ∧ R (Itr 0 j.toNat) H1
noncomputable def iRng2 (ta : TA) : TI := fun σ H R => ta σ H fun vs H1 => ∃ i j : Int, vs = [.int i, .int j] ∧ (-(2 ^ 62) ≤ i ∧ i < 2 ^ 62 ∧ -(2 ^ 62) ≤ j ∧ j < 2 ^ 62) ∧ R (Itr i (j - i).toNat) H1
theorem j3a {a : Expr} {ta : TA} {p pos : Pos} (hg : Gl X "range") (hm : X.mg "range" = none) (ha : PA X [a] ta) (hs : starEach [a] X.env = [(false, eval a X.env)] := by rfl) : PI X tg (.Call (.Name "range" p) [a] [] pos) (iRng1 ta) := by
  intro pins s σ H R I h
  refine Call_ (j48 I hg hm boot_range (PyProof.Rows.callWith_type1 (thn (ha pos pins s σ H _ I h) fun us s1 ⟨vs, H1, I1, r1, q1⟩ => ?_) hs rfl))
  obtain ⟨j, e, q1, q2, q⟩ := q1
  subst e
  cases r1 with
  | cons r rr =>
    cases rr
    obtain ⟨t, rfl⟩ := r
    exact call_range_1 (range_it I1 (by omega) (by omega) q1 q2 (by simpa using q))
noncomputable def tFor (wi : TI) (g : TG) (tb : TS) : TS := fun D σ H => wi σ H fun J H1 => ∃ W : Nat → Nat → St → Hp → Prop, (∃ m, W 0 m σ H1) ∧ ∀ i m σ H, W i m σ H →
  (J.stop i H ∧ D.nx σ H) ∨ (J.go i H ∧ ∃ N : St → Hp → Prop, (∀ σ' H', N σ' H' → ∃ m', m' < m ∧ W (i + 1) m' σ' H') ∧ ∀ x H', J.yld i H x H' → g x σ H' fun σ2 H2 => tb { D with nx := N, ct := N, bk := D.nx } σ2 H2)
noncomputable def j3b (fp : List Addr) (h : Heap) : List (Addr × Obj) := fp.filterMap fun b => (h.get? b).map fun o => (b, o)
theorem j13 {fp : List Addr} {h : Heap} {b : Addr} {o : Obj} (hb : b ∈ fp) (e : h.get? b = some o) : (b, o) ∈ j3b fp h := List.mem_filterMap.mpr ⟨b, hb, by rw [e]; rfl⟩
theorem j5d {fp : List Addr} {h : Heap} {p : Addr × Obj} (hp : p ∈ j3b fp h) : p.1 ∈ fp ∧ h.get? p.1 = some p.2 := by
  obtain ⟨b, hb, e⟩ := List.mem_filterMap.mp hp
  cases q : h.get? b with
  | none => rw [q] at e; cases e
  | some o =>
    rw [q] at e
    have e' : (b, o) = p := Option.some.inj e
    subst e'
    exact ⟨hb, q⟩
theorem Inv.pinned {pins : List (Addr × Obj)} {σ : St} {H : Hp} {s : Shared} {fp : List Addr} (I : Inv X pins σ H s) (hf : ∀ b ∈ fp, FpOk X pins H b) (ho : ∀ b ∈ fp, ∃ o, s.heap.get? b = some o ∧ ∀ v, o.data ≠ .cell v) : Inv X (pins ++ j3b fp s.heap) σ H s :=
  I.pins_of fun p hp => (List.mem_append.mp hp).elim (fun z => I.pin p (List.mem_append_right _ z)) fun z => by
    obtain ⟨hb, e⟩ := j5d z
    obtain ⟨f0, f1, f2, _⟩ := hf p.1 hb
    obtain ⟨o, e', d⟩ := ho p.1 hb
    rw [e] at e'; cases e'
    exact ⟨e, f0, f1, f2, d⟩
theorem Inv.unpinned {pins pl : List (Addr × Obj)} {σ : St} {H : Hp} {s : Shared} (I : Inv X (pins ++ pl) σ H s) : Inv X pins σ H s := I.pins_of fun p hp => I.pin p (List.mem_append_right _ (List.mem_append_left _ hp))
theorem j5e {iter : Expr} {body : List Stmt} {wi : TI} {g : TG} {tb : TS} {pos : Pos} (hp : PassesOwn (model X.prog X.w) X.A X.env X.xe) (hc : X.calm = true) (hi : PI X tg iter wi) (hg : PG X tg g) (hb : PSs X body tb)
    (hs : ∀ x, foldedSetIterable iter X.env x = pure x := by intro _; rfl) : PS X (.For tg iter body [] pos) (tFor wi g tb) := by
  intro pins s σ H D I h
  refine wpAny_For (thn (hi pins s σ H _ I h) fun v s1 h1 => thn h1 fun itv s2 h2 => ?_) hs
  obtain ⟨it, fp, tn, J, H2, e, I2, T, st2, f2, W, ⟨m0, w0⟩, turn⟩ := h2
  subst e
  have stat : ∀ {H' : Hp}, (∀ b ∈ fp, H' b = none) → ∀ b ∈ fp, FpOk X pins H' b := fun hn b hb => ⟨hn b hb, (f2 b hb).2⟩
  refine codeAny_forLoop_any (fun n s' => ∃ i σ' H', Inv X pins σ' H' s' ∧ tn i s'.heap ∧ (∀ b ∈ fp, H' b = none) ∧ W i n σ' H') ?_ m0 ⟨0, σ, H2, I2, st2, fun b hb => (f2 b hb).1, w0⟩
  rintro n s3 ⟨i, σ3, H3, I3, st3, fr3, w3⟩
  rcases turn i n σ3 H3 w3 with ⟨stop, qn⟩ | ⟨go, N, hN, step⟩
  · refine wpAny_passesOwn hp (thn (T.done X rfl rfl rfl hc i pins s3 σ3 H3 X.xe I3 (stat fr3) st3 stop) fun r s4 ⟨hr, I4⟩ => ?_)
    subst hr
    exact wpAny_execs_nil ⟨σ3, H3, I4, qn⟩
  · refine wpAny_passesOwn hp (thn (T.item X rfl rfl rfl hc i pins s3 σ3 H3 X.xe I3 (stat fr3) st3 go) fun r s4 ⟨u, hr, h4⟩ => ?_)
    subst hr
    refine wpAny_passesOwn hp (thn h4 fun _ s5 ⟨x, H5, I5, r5, y5, st5, fr5⟩ => ?_)
    have I5' := I5.pinned (stat fr5) (T.obj _ _ st5)
    refine wpAny_passesOwn hp (thn (hg _ s5 σ3 H5 x u _ I5' r5 (step x H5 y5)) fun _ s6 ⟨σ6, H6, I6, q6⟩ => ?_)
    refine wpAny_passesOwn hp (thn (hb _ s6 σ6 H6 _ I6 q6) fun f s7 q7 => ?_)
    have again : ∀ {σ7 : St} {H7 : Hp}, Inv X (pins ++ j3b fp s5.heap) σ7 H7 s7 → N σ7 H7 → ∃ m, m < n ∧ ∃ i σ' H', Inv X pins σ' H' s7 ∧ tn i s7.heap ∧ (∀ b ∈ fp, H' b = none) ∧ W i m σ' H' := fun {σ7 H7} I7 n7 => by
      obtain ⟨m', hm, w7⟩ := hN σ7 H7 n7
      refine ⟨m', hm, i + 1, σ7, H7, I7.unpinned, T.keep _ _ _ st5 fun b hb o e => (I7.pin (b, o) (List.mem_append_right _ (List.mem_append_right _ (j13 hb e)))).1, fun b hb => ?_, w7⟩
      obtain ⟨o, e, d⟩ := T.obj _ _ st5 b hb
      exact (I7.pin (b, o) (List.mem_append_right _ (List.mem_append_right _ (j13 hb e)))).2.1
    cases f with
    | next => obtain ⟨σ7, H7, I7, n7⟩ := q7; exact again I7 n7
    | cont => obtain ⟨σ7, H7, I7, n7⟩ := q7; exact again I7 n7
    | brk => obtain ⟨σ7, H7, I7, q7⟩ := q7; exact ⟨σ7, H7, I7.unpinned, q7⟩
    | ret v => obtain ⟨x7, σ7, H7, I7, r7, q7⟩ := q7; exact ⟨x7, σ7, H7, I7.unpinned, r7, q7⟩
end
theorem for_list {K : PySem.W.Frag} {a : Addr} {xs : List V} {g : TG} {tb : TS} {D : Ends} {σ : St} {H : Hp} (Pv : Nat → St → Hp → Prop) (h0 : Pv 0 σ H) (hl : ∀ i σ H, i ≤ xs.length → Pv i σ H → SqL K H a xs)
    (hs : ∀ i x σ H, xs[i]? = some x → Pv i σ H → g x σ H fun σ2 H2 => tb { D with nx := Pv (i + 1), ct := Pv (i + 1), bk := D.nx } σ2 H2) (hd : ∀ σ H, Pv xs.length σ H → D.nx σ H) :
    ∃ W : Nat → Nat → St → Hp → Prop, (∃ m, W 0 m σ H) ∧ ∀ i m σ H, W i m σ H →
      ((Itl K a).stop i H ∧ D.nx σ H) ∨ ((Itl K a).go i H ∧ ∃ N : St → Hp → Prop, (∀ σ' H', N σ' H' → ∃ m', m' < m ∧ W (i + 1) m' σ' H') ∧ ∀ x H', (Itl K a).yld i H x H' → g x σ H' fun σ2 H2 => tb { D with nx := N, ct := N, bk := D.nx } σ2 H2) := by
  refine ⟨fun i m σ H => m = xs.length - i ∧ i ≤ xs.length ∧ Pv i σ H, ⟨xs.length, by simp, Nat.zero_le _, h0⟩, ?_⟩
  rintro i m σ H ⟨rfl, hi, p⟩
  have q := hl i σ H hi p
  by_cases hlt : i < xs.length
  · refine .inr ⟨⟨xs, xs[i], q, by simp [hlt]⟩, Pv (i + 1), fun σ' H' p' => ⟨xs.length - (i + 1), by omega, rfl, hlt, p'⟩, fun x H' y => ?_⟩
    obtain ⟨e, y⟩ := y
    subst e
    exact hs i x σ _ (y xs q) p
  · have e : i = xs.length := by omega
    subst e
    exact .inl ⟨⟨xs, q, Nat.le_refl _⟩, hd σ H p⟩
theorem j5f {lo : Int} {n : Nat} {g : TG} {tb : TS} {D : Ends} {σ : St} {H : Hp} (Pv : Nat → St → Hp → Prop) (h0 : Pv 0 σ H)
    (hs : ∀ i σ H, i < n → Pv i σ H → g (.int (lo + i)) σ H fun σ2 H2 => tb { D with nx := Pv (i + 1), ct := Pv (i + 1), bk := D.nx } σ2 H2) (hd : ∀ σ H, Pv n σ H → D.nx σ H) :
    ∃ W : Nat → Nat → St → Hp → Prop, (∃ m, W 0 m σ H) ∧ ∀ i m σ H, W i m σ H →
      ((Itr lo n).stop i H ∧ D.nx σ H) ∨ ((Itr lo n).go i H ∧ ∃ N : St → Hp → Prop, (∀ σ' H', N σ' H' → ∃ m', m' < m ∧ W (i + 1) m' σ' H') ∧ ∀ x H', (Itr lo n).yld i H x H' → g x σ H' fun σ2 H2 => tb { D with nx := N, ct := N, bk := D.nx } σ2 H2) := by
  refine ⟨fun i m σ H => m = n - i ∧ i ≤ n ∧ Pv i σ H, ⟨n, by simp, Nat.zero_le _, h0⟩, ?_⟩
  rintro i m σ H ⟨rfl, hi, p⟩
  by_cases hlt : i < n
  · refine .inr ⟨hlt, Pv (i + 1), fun σ' H' p' => ⟨n - (i + 1), by omega, rfl, hlt, p'⟩, fun x H' y => ?_⟩
    obtain ⟨e, y⟩ := y
    subst e y
    exact hs i σ _ hlt p
  · have e : i = n := by omega
    subst e
    exact .inl ⟨Nat.le_refl _, hd σ H p⟩
end L2
namespace L2
open PySem PySem.Spec PyProof.Rows
abbrev R2 := V → V → Hp → VK → Prop
noncomputable def OpR (X : Cx) (f : Value → Value → Sem Value) (r : R2) : Prop :=
  ∀ (pins : List (Addr × Obj)) (s : Shared) (σ : St) (H : Hp) (x y : V) (v u : Value) (Q : VK), Inv X pins σ H s → RelV x v → RelV y u → r x y H Q →
    wpAny (model X.prog X.w) X.A (f v u) (EP X pins σ Q) X.xe s
noncomputable def UnR (X : Cx) (f : Value → Sem Value) (r : V → Hp → VK → Prop) : Prop :=
  ∀ (pins : List (Addr × Obj)) (s : Shared) (σ : St) (H : Hp) (x : V) (v : Value) (Q : VK), Inv X pins σ H s → RelV x v → r x H Q →
    wpAny (model X.prog X.w) X.A (f v) (EP X pins σ Q) X.xe s
noncomputable def j1p (X : Cx) (f : Value) (r : List V → Hp → VK → Prop) : Prop :=
  ∀ (pins : List (Addr × Obj)) (s : Shared) (σ : St) (H : Hp) (xs : List V) (us : List Value) (Q : VK), Inv X pins σ H s → Vals xs us → r xs H Q →
    wpAny (model X.prog X.w) X.A (call f us) (EP X pins σ Q) X.xe s
noncomputable def TruR (X : Cx) (r : V → Hp → (Bool → Hp → Prop) → Prop) : Prop :=
  ∀ (pins : List (Addr × Obj)) (s : Shared) (σ : St) (H : Hp) (x : V) (v : Value) (Q : Bool → Hp → Prop), Inv X pins σ H s → RelV x v → r x H Q →
    wpAny (model X.prog X.w) X.A (truthy v) (TP X pins σ Q) X.xe s
noncomputable def tOp (r : R2) (ta tb : TE) : TE := fun σ H Q => ta σ H fun x H1 => tb σ H1 fun y H2 => r x y H2 Q
noncomputable def tUn (r : V → Hp → VK → Prop) (ta : TE) : TE := fun σ H Q => ta σ H fun x H1 => r x H1 Q
noncomputable def rI (C : Int → Int → Prop) (g : Int → Int → V) : R2 := fun x y H Q => ∃ i j, x = .int i ∧ y = .int j ∧ C i j ∧ Q (g i j) H
noncomputable def rI0 (g : Int → Int → V) : R2 := fun x y H Q => ∃ i j, x = .int i ∧ y = .int j ∧ Q (g i j) H
noncomputable def rU (g : Int → V) : V → Hp → VK → Prop := fun x H Q => ∃ i, x = .int i ∧ Q (g i) H
section
variable {X : Cx} {a b c : Expr} {ta tb tc : TE} {pos : Pos}
theorem binT (ha : PE X a ta) (hb : PE X b tb) {pins : List (Addr × Obj)} {s : Shared} {σ : St} {H : Hp} {R : V → V → Hp → Prop} (I : Inv X pins σ H s)
    (h : ta σ H fun x H1 => tb σ H1 fun y H2 => R x y H2) {Q : Value → Shared → Prop} {f : Value → Value → Sem Value}
    (hf : ∀ v u s2 x y H2, Inv X pins σ H2 s2 → RelV x v → RelV y u → R x y H2 → wpAny (model X.prog X.w) X.A (f v u) Q X.xe s2) :
    wpAny (model X.prog X.w) X.A (eval a X.env) (fun v s₁ => wpAny (model X.prog X.w) X.A (eval b X.env) (fun u s₂ => wpAny (model X.prog X.w) X.A (f v u) Q X.xe s₂) X.xe s₁) X.xe s := by
  refine thn (ha pins s σ H _ I h) fun v s1 ⟨x, H1, I1, r1, q1⟩ => ?_
  refine thn (hb pins s1 σ H1 _ I1 q1) fun u s2 ⟨y, H2, I2, r2, q2⟩ => ?_
  exact hf v u s2 x y H2 I2 r1 r2 q2
theorem j0l {op : Operator} {r : R2} (ho : OpR X (binaryOp op) r) (ha : PE X a ta) (hb : PE X b tb) : PE X (.BinOp a op b pos) (tOp r ta tb) := by
  intro pins s σ H Q I h
  exact wpAny_BinOp (binT ha hb I h fun v u s2 x y H2 I2 rx ry q => ho pins s2 σ H2 x y v u Q I2 rx ry q)
theorem pe_un {op : UnaryOp} {r : V → Hp → VK → Prop} (ho : UnR X (unaryOp op) r) (ha : PE X a ta) : PE X (.UnaryOp op a pos) (tUn r ta) := by
  intro pins s σ H Q I h
  exact UnaryOp_ (thn (ha pins s σ H _ I h) fun v s1 ⟨x, H1, I1, r1, q1⟩ => ho pins s1 σ H1 x v Q I1 r1 q1)
theorem opI {f : Value → Value → Sem Value} {C : Int → Int → Prop} {g : Int → Int → Int}
    (rule : ∀ (i j : Int) (t u : Tok) (s : Shared) (Q : Value → Shared → Prop) (E : Value → Shared → Prop), C i j → Q (.int (g i j) s.toks) { s with toks := s.toks + 1 } → wpAny (model X.prog X.w) X.A (f (.int i t) (.int j u)) Q E s) :
    OpR X f (rI C fun i j => .int (g i j)) := by
  intro pins s σ H x y v u Q I rx ry h
  obtain ⟨i, j, rfl, rfl, hc, q⟩ := h
  obtain ⟨t, rfl⟩ := rx
  obtain ⟨t', rfl⟩ := ry
  exact rule i j t t' s _ _ hc ⟨.int (g i j), H, I.tok _, ⟨_, rfl⟩, q⟩
theorem opI0 {f : Value → Value → Sem Value} {g : Int → Int → Int}
    (rule : ∀ (i j : Int) (t u : Tok) (s : Shared) (Q : Value → Shared → Prop) (E : Value → Shared → Prop), Q (.int (g i j) s.toks) { s with toks := s.toks + 1 } → wpAny (model X.prog X.w) X.A (f (.int i t) (.int j u)) Q E s) :
    OpR X f (rI0 fun i j => .int (g i j)) := by
  intro pins s σ H x y v u Q I rx ry h
  obtain ⟨i, j, rfl, rfl, q⟩ := h
  obtain ⟨t, rfl⟩ := rx
  obtain ⟨t', rfl⟩ := ry
  exact rule i j t t' s _ _ ⟨.int (g i j), H, I.tok _, ⟨_, rfl⟩, q⟩
theorem opB0 {f : Value → Value → Sem Value} {g : Int → Int → Bool}
    (rule : ∀ (i j : Int) (t u : Tok) (s : Shared) (Q : Value → Shared → Prop) (E : Value → Shared → Prop), Q (.bool (g i j)) s → wpAny (model X.prog X.w) X.A (f (.int i t) (.int j u)) Q E s) :
    OpR X f (rI0 fun i j => .bl (g i j)) := by
  intro pins s σ H x y v u Q I rx ry h
  obtain ⟨i, j, rfl, rfl, q⟩ := h
  obtain ⟨t, rfl⟩ := rx
  obtain ⟨t', rfl⟩ := ry
  exact rule i j t t' s _ _ ⟨.bl (g i j), H, I, rfl, q⟩
noncomputable def CDiv (i j : Int) : Prop := 0 < j ∧ j < 1073741824
noncomputable def CDivN (i j : Int) : Prop := j ≠ 0 ∧ j.natAbs < 1073741824
noncomputable def CPow (i j : Int) : Prop := 0 ≤ j ∧ j ≤ 1000000 ∧ i.natAbs < 2 ^ 64
noncomputable def CMul (i j : Int) : Prop := (-(2 ^ 64) < i ∧ i < 2 ^ 64) ∨ (-(2 ^ 64) < j ∧ j < 2 ^ 64)
theorem CMul.ok {i j : Int} (h : CMul i j) : IntMulOk i j := by
  rcases h with ⟨h1, h2⟩ | ⟨h1, h2⟩
  · exact .of_left (intBits_le_64 h1 h2)
  · exact .of_right (intBits_le_64 h1 h2)
theorem j16 : OpR X (binaryOp .Add) (rI0 fun i j => .int (i + j)) := opI0 fun _ _ _ _ _ _ _ q => add_int q
theorem op_sub : OpR X (binaryOp .Sub) (rI0 fun i j => .int (i - j)) := opI0 fun _ _ _ _ _ _ _ q => sub_int q
theorem j4c : OpR X (binaryOp .Mult) (rI CMul fun i j => .int (i * j)) := opI fun _ _ _ _ _ _ _ hc q => mul_int q hc.ok
theorem j4d : OpR X (binaryOp .Mod) (rI (fun _ j => 0 < j) fun i j => .int (i % j)) := opI fun i j _ _ _ _ _ hc q => by
  have h1 : (0 : Int) < j := hc
  exact mod_int' (by omega) (by rw [Int.fmod_eq_emod_of_nonneg i (by omega)]; exact q)
theorem unI {f : Value → Sem Value} {g : Int → Int}
    (rule : ∀ (i : Int) (t : Tok) (s : Shared) (Q : Value → Shared → Prop) (E : Value → Shared → Prop), Q (.int (g i) s.toks) { s with toks := s.toks + 1 } → wpAny (model X.prog X.w) X.A (f (.int i t)) Q E s) :
    UnR X f (rU fun i => .int (g i)) := by
  intro pins s σ H x v Q I rx h
  obtain ⟨i, rfl, q⟩ := h
  obtain ⟨t, rfl⟩ := rx
  exact rule i t s _ _ ⟨.int (g i), H, I.tok _, ⟨_, rfl⟩, q⟩
theorem un_neg : UnR X (unaryOp .USub) (rU fun i => .int (-i)) := unI fun _ _ _ _ _ q => neg_int q
end
noncomputable def scal : V → V → Bool
  | .non, .non => true | .non, .int _ => true | .int _, .non => true | .non, .bl _ => true | .bl _, .non => true | .non, .str _ => true | .str _, .non => true
  | .int _, .int _ => true | .bl _, .bl _ => true | .str _, .str _ => true | .byt _, .byt _ => true
  | .int _, .str _ => true | .str _, .int _ => true | .bl _, .str _ => true | .str _, .bl _ => true
  | _, _ => false
noncomputable def rEq : R2 := fun x y H Q => scal x y = true ∧ Q (.bl (decide (x = y))) H
noncomputable def rNe : R2 := fun x y H Q => scal x y = true ∧ Q (.bl (!decide (x = y))) H
theorem j5g {i j : Int} : decide (V.int i = V.int j) = (i == j) := by
  rw [Bool.eq_iff_iff]
  simp
theorem dec_bl {i j : Bool} : decide (V.bl i = V.bl j) = (i == j) := by
  rw [Bool.eq_iff_iff]
  simp
theorem j5h {i j : Str} : decide (V.str i = V.str j) = (i == j) := by
  rw [Bool.eq_iff_iff]
  simp
theorem j5i {i j : Array UInt8} : decide (V.byt i = V.byt j) = (i.toList == j.toList) := by
  rw [Bool.eq_iff_iff]
  cases i
  cases j
  simp
section
variable {X : Cx} {a b c : Expr} {ta tb tc : TE} {pos : Pos}
theorem j09 {pins : List (Addr × Obj)} {σ : St} {H : Hp} {s : Shared} {Q : VK} {k k' : Bool} (I : Inv X pins σ H s) (q : Q (.bl k) H) (e : k = k') : EP X pins σ Q (.bool k') s := by
  subst e
  exact ⟨.bl k, H, I, rfl, q⟩
theorem op_eq : OpR X (compareOp .Eq) rEq := by
  intro pins s σ H x y v u Q I rx ry h
  obtain ⟨hs, q⟩ := h
  cases x with
  | non =>
    cases rx
    cases y with
    | non => cases ry; exact PySem.EqNone.eq_none_none (j09 I q (by simp))
    | bl j => cases ry; exact PySem.EqNone.eq_none_bool (j09 I q (by simp))
    | int j => obtain ⟨t', rfl⟩ := ry; exact PySem.EqNone.eq_none_int (j09 I q (by simp))
    | str j => obtain ⟨t', rfl⟩ := ry; exact PySem.EqNone.eq_none_str (j09 I q (by simp))
    | _ => exact absurd (show false = true from hs) Bool.false_ne_true
  | bl i =>
    cases rx
    cases y with
    | non => cases ry; exact PySem.EqNone.eq_bool_none (j09 I q (by simp))
    | bl j => cases ry; exact eq_bool (j09 I q dec_bl)
    | str j => obtain ⟨t', rfl⟩ := ry; exact PySem.EqMixed.eq_bool_str (j09 I q (by simp))
    | _ => exact absurd (show false = true from hs) Bool.false_ne_true
  | int i =>
    obtain ⟨t, rfl⟩ := rx
    cases y with
    | non => cases ry; exact PySem.EqNone.eq_int_none (j09 I q (by simp))
    | int j => obtain ⟨t', rfl⟩ := ry; exact eq_int (j09 I q j5g)
    | str j => obtain ⟨t', rfl⟩ := ry; exact PySem.EqMixed.eq_int_str (j09 I q (by simp))
    | _ => exact absurd (show false = true from hs) Bool.false_ne_true
  | str i =>
    obtain ⟨t, rfl⟩ := rx
    cases y with
    | non => cases ry; exact PySem.EqNone.eq_str_none (j09 I q (by simp))
    | bl j => cases ry; exact PySem.EqMixed.eq_str_bool (j09 I q (by simp))
    | int j => obtain ⟨t', rfl⟩ := ry; exact PySem.EqMixed.eq_str_int (j09 I q (by simp))
    | str j => obtain ⟨t', rfl⟩ := ry; exact eq_str (j09 I q j5h)
    | _ => exact absurd (show false = true from hs) Bool.false_ne_true
  | byt i =>
    obtain ⟨t, rfl⟩ := rx
    cases y with
    | byt j => obtain ⟨t', rfl⟩ := ry; exact PySem.W.eq_bytes (j09 I q j5i)
    | _ => exact absurd (show false = true from hs) Bool.false_ne_true
  | _ => cases y <;> exact absurd (show false = true from hs) Bool.false_ne_true
theorem j5j : OpR X (compareOp .NotEq) rNe := by
  intro pins s σ H x y v u Q I rx ry h
  obtain ⟨hs, q⟩ := h
  cases x with
  | non =>
    cases rx
    cases y with
    | non => cases ry; exact PySem.EqNone.ne_none_none (j09 I q (by simp))
    | bl j => cases ry; exact PySem.EqNone.ne_none_bool (j09 I q (by simp))
    | int j => obtain ⟨t', rfl⟩ := ry; exact PySem.EqNone.ne_none_int (j09 I q (by simp))
    | str j => obtain ⟨t', rfl⟩ := ry; exact PySem.EqNone.ne_none_str (j09 I q (by simp))
    | _ => exact absurd (show false = true from hs) Bool.false_ne_true
  | bl i =>
    cases rx
    cases y with
    | non => cases ry; exact PySem.EqNone.ne_bool_none (j09 I q (by simp))
    | bl j => cases ry; exact ne_bool (j09 I q (congrArg not dec_bl))
    | str j => obtain ⟨t', rfl⟩ := ry; exact PySem.EqMixed.ne_bool_str (j09 I q (by simp))
    | _ => exact absurd (show false = true from hs) Bool.false_ne_true
  | int i =>
    obtain ⟨t, rfl⟩ := rx
    cases y with
    | non => cases ry; exact PySem.EqNone.ne_int_none (j09 I q (by simp))
    | int j => obtain ⟨t', rfl⟩ := ry; exact ne_int (j09 I q (congrArg not j5g))
    | str j => obtain ⟨t', rfl⟩ := ry; exact PySem.EqMixed.ne_int_str (j09 I q (by simp))
    | _ => exact absurd (show false = true from hs) Bool.false_ne_true
  | str i =>
    obtain ⟨t, rfl⟩ := rx
    cases y with
    | non => cases ry; exact PySem.EqNone.ne_str_none (j09 I q (by simp))
    | bl j => cases ry; exact PySem.EqMixed.ne_str_bool (j09 I q (by simp))
    | int j => obtain ⟨t', rfl⟩ := ry; exact PySem.EqMixed.ne_str_int (j09 I q (by simp))
    | str j => obtain ⟨t', rfl⟩ := ry; exact ne_str (j09 I q (congrArg not j5h))
    | _ => exact absurd (show false = true from hs) Bool.false_ne_true
  | byt i =>
    obtain ⟨t, rfl⟩ := rx
    cases y with
    | byt j => obtain ⟨t', rfl⟩ := ry; exact PySem.W.ne_bytes (j09 I q (congrArg not j5i))
    | _ => exact absurd (show false = true from hs) Bool.false_ne_true
  | _ => cases y <;> exact absurd (show false = true from hs) Bool.false_ne_true
theorem op_lt : OpR X (compareOp .Lt) (rI0 fun i j => .bl (decide (i < j))) := opB0 fun _ _ _ _ _ _ _ q => lt_int q
theorem op_le : OpR X (compareOp .LtE) (rI0 fun i j => .bl (decide (i ≤ j))) := opB0 fun _ _ _ _ _ _ _ q => le_int q
theorem op_gt : OpR X (compareOp .Gt) (rI0 fun i j => .bl (decide (j < i))) := opB0 fun _ _ _ _ _ _ _ q => gt_int q
theorem j5k : OpR X (compareOp .In) (fun x y H Q => ∃ i j, x = .str i ∧ y = .str j ∧ Q (.bl (!(Builtin.Str.occurrences j i 0 j.length 1).isEmpty)) H) := by
  intro pins s σ H x y v u Q I rx ry h
  obtain ⟨i, j, rfl, rfl, q⟩ := h
  obtain ⟨t, rfl⟩ := rx
  obtain ⟨t', rfl⟩ := ry
  exact in_str (j09 I q rfl)
theorem op_isN : OpR X (compareOp .Is) (fun x y H Q => y = .non ∧ Q (.bl (decide (x = .non))) H) := by
  intro pins s σ H x y v u Q I rx ry h
  obtain ⟨rfl, q⟩ := h
  cases ry
  refine is_none_gen (j09 I q ?_)
  cases x <;> first
    | (cases rx; rfl)
    | (obtain ⟨t, rfl⟩ := rx; rfl)
noncomputable def isObj : HO → Bool
  | .lst _ => true
  | .ins _ _ _ => true
  | _ => false
theorem j0p (b : Expr) {op : CmpOp} (h : op ≠ .In := by decide) (h2 : op ≠ .NotIn := by decide) : behindInMarks op b = false := by
  have e1 : (op == CmpOp.In) = false := by cases op <;> first | rfl | exact absurd rfl h
  have e2 : (op == CmpOp.NotIn) = false := by cases op <;> first | rfl | exact absurd rfl h2
  cases b <;> simp [behindInMarks, e1, e2]
theorem j3t {op : CmpOp} {r : R2} (ho : OpR X (compareOp op) r) (ha : PE X a ta) (hb : PE X b tb) (hm : behindInMarks op b = false) : PE X (.Compare a [op] [b] pos) (tOp r ta tb) := by
  intro pins s σ H Q I h
  exact wpAny_Compare1 (binT ha hb I h fun v u s2 x y H2 I2 rx ry q => ho pins s2 σ H2 x y v u Q I2 rx ry q) hm
noncomputable def tTest (t : TE) : TT := fun σ H Q => t σ H fun x H' => ∃ k, x = .bl k ∧ Q k H'
theorem j0h {op : CmpOp} {r : R2} (ho : OpR X (compareOp op) r) (ha : PE X a ta) (hb : PE X b tb) (hm : behindInMarks op b = false) : PT X (.Compare a [op] [b] pos) (tTest (tOp r ta tb)) := by
  intro pins s σ H Q I h
  refine wpAny_isTrue_Compare1 (thn (ha pins s σ H _ I h) fun v s1 ⟨x, H1, I1, r1, q1⟩ => thn (hb pins s1 σ H1 _ I1 q1) fun u s2 ⟨y, H2, I2, r2, q2⟩ =>
    thn (ho pins s2 σ H2 x y v u _ I2 r1 r2 q2) fun c s3 ⟨z, H3, I3, r3, k, e, q3⟩ => ?_) hm
  subst e
  cases r3
  exact wpAny_truthy_bool ⟨H3, I3, q3⟩
noncomputable def j5l (r r' : R2) (ta tb tc : TE) : TE := fun σ H Q => ta σ H fun x H1 => tb σ H1 fun y H2 => r x y H2 fun z H3 => ∃ k, z = .bl k ∧
  (if k = true then tc σ H3 fun w' H4 => r' y w' H4 Q else Q (.bl false) H3)
theorem pe_chain {op op' : CmpOp} {r r' : R2} (ho : OpR X (compareOp op) r) (ho' : OpR X (compareOp op') r') (ha : PE X a ta) (hb : PE X b tb) (hc : PE X c tc)
    (hm : lastMarks [op, op'] [b, c] = false := by with_unfolding_all rfl) : PE X (.Compare a [op, op'] [b, c] pos) (j5l r r' ta tb tc) := by
  intro pins s σ H Q I h
  refine Compare_chain (thn (ha pins s σ H _ I h) fun v s1 ⟨x, H1, I1, r1, q1⟩ => chain_link (thn (hb pins s1 σ H1 _ I1 q1) fun u s2 ⟨y, H2, I2, r2, q2⟩ =>
    thn (ho pins s2 σ H2 x y v u _ I2 r1 r2 q2) fun d s3 ⟨z, H3, I3, r3, k, e, q3⟩ => ?_)) hm
  subst e
  cases r3
  refine wpAny_truthy_bool ?_
  cases k with
  | false => exact ite_ff ⟨.bl false, H3, I3, rfl, q3⟩
  | true => exact ite_tt (chain_last (thn (hc pins s3 σ H3 _ I3 q3) fun w' s4 ⟨z', H4, I4, r4, q4⟩ => ho' pins s4 σ H4 y z' u w' Q I4 r2 r4 q4))
theorem pt_chain {op op' : CmpOp} {r r' : R2} (ho : OpR X (compareOp op) r) (ho' : OpR X (compareOp op') r') (ha : PE X a ta) (hb : PE X b tb) (hc : PE X c tc)
    (hm : lastMarks [op, op'] [b, c] = false := by with_unfolding_all rfl) : PT X (.Compare a [op, op'] [b, c] pos) (tTest (j5l r r' ta tb tc)) := by
  intro pins s σ H Q I h
  refine isTrue_chain (thn (ha pins s σ H _ I h) fun v s1 ⟨x, H1, I1, r1, q1⟩ => test_link (thn (hb pins s1 σ H1 _ I1 q1) fun u s2 ⟨y, H2, I2, r2, q2⟩ =>
    thn (ho pins s2 σ H2 x y v u _ I2 r1 r2 q2) fun d s3 ⟨z, H3, I3, r3, k, e, q3⟩ => ?_)) hm
  subst e
  cases r3
  refine wpAny_truthy_bool ?_
  cases k with
  | false =>
    obtain ⟨k', e', q'⟩ := q3
    cases e'
    exact ite_ff ⟨H3, I3, q'⟩
  | true =>
    refine ite_tt (test_last (thn (hc pins s3 σ H3 _ I3 q3) fun w' s4 ⟨z', H4, I4, r4, q4⟩ => thn (ho' pins s4 σ H4 y z' u w' _ I4 r2 r4 q4) fun d' s5 ⟨z2, H5, I5, r5, k2, e2, q5⟩ => ?_))
    subst e2
    cases r5
    exact wpAny_truthy_bool ⟨H5, I5, q5⟩
noncomputable def TruV (K : PySem.W.Frag) (x : V) (H : Hp) (k : Bool) : Prop :=
  match x with
  | .non => k = false
  | .bl b => k = b
  | .int i => k = (i != 0)
  | .str y => y.length ≤ sizeLine ∧ k = ((y.length : Int) != 0)
  | .byt y => y.size ≤ sizeLine ∧ k = ((y.size : Int) != 0)
  | .ref p => (∃ xs, SqL K H p xs ∧ k = !xs.isEmpty) ∨ (∃ xs, SqT K H p xs ∧ k = !xs.isEmpty) ∨ ∃ kvs, H p = some (.dK kvs) ∧ k = !kvs.isEmpty
  | _ => False
theorem j3c : (sizeLine : Nat) < 2 ^ 63 := by rw [sizeLine_eq]; decide
theorem j14 : OpR X (binaryOp .Add) (fun x y H Q => ∃ i j, x = .str i ∧ y = .str j ∧ i.length + j.length ≤ sizeLine ∧ Q (.str (i ++ j)) H) := by
  intro pins s σ H x y v u Q I rx ry h
  obtain ⟨i, j, rfl, rfl, hz, q⟩ := h
  obtain ⟨t, rfl⟩ := rx
  obtain ⟨t', rfl⟩ := ry
  exact add_str (fun t' tk => ⟨.str (i ++ j), H, I.tok _, ⟨_, rfl⟩, q⟩) hz
noncomputable def PlainIxT (b : Expr) : Prop := ∀ o i, subscripted b false o i = operate [o, i] (getItem o i)
theorem j4w {x : V} {us : List Value} (r : Vals [x] us) : ∃ u, us = [u] ∧ RelV x u := by
  cases r with
  | cons r1 r2 => cases r2; exact ⟨_, rfl, r1⟩
theorem vals2 {x y : V} {us : List Value} (r : Vals [x, y] us) : ∃ u w', us = [u, w'] ∧ RelV x u ∧ RelV y w' := by
  cases r with
  | cons r1 r2 =>
    cases r2 with
    | cons r3 r4 => cases r4; exact ⟨_, _, rfl, r1, r3⟩
theorem j11 : j1p X (.type "str") (fun xs H Q => ∃ i, xs = [.int i] ∧ i.natAbs.log2 < 1920 ∧ Q (.str (toString i)) H) := by
  intro pins s σ H xs us Q I r h
  obtain ⟨i, rfl, hz, q⟩ := h
  obtain ⟨u, rfl, t, rfl⟩ := j4w r
  exact PySem.P.str_of_int hz ⟨.str _, H, I.tok _, ⟨_, rfl⟩, q⟩
noncomputable def LenV (K : PySem.W.Frag) (x : V) (H : Hp) (n : Nat) : Prop :=
  match x with
  | .str y => y.length ≤ sizeLine ∧ n = y.length
  | .byt y => y.size ≤ sizeLine ∧ n = y.size
  | .ref p => (∃ xs, SqL K H p xs ∧ n = xs.length) ∨ ∃ xs, SqT K H p xs ∧ n = xs.length
  | _ => False
end
end L2
namespace L2
open PySem PySem.Spec PyProof.Rows
structure ObjM (h : Heap) (x dx C : Addr) (mA : Str → Option Value) : Prop where
  obj : h.get? x = some (PySem.W.instObj C dx)
  ns : h.Ns1 dx mA
  ne : dx ≠ x
theorem j5m {h : Heap} {dx : Addr} {mA : Str → Option Value} (n : h.Ns1 dx mA) : ∃ od, h.get? dx = some od ∧ ∀ name, PySem.W.lookIn name od = some (mA name) := by
  obtain ⟨o, es, ep, ho, hd, hk, _, hm⟩ := n
  refine ⟨o, ho, fun name => ?_⟩
  have e := hm name
  unfold nsFind findBy at e
  rw [← Array.find?_toList] at e
  unfold PySem.W.lookIn
  rw [hd]
  dsimp only
  split
  · rename_i y q
    rw [q] at e
    exact congrArg some e
  · rename_i q
    rw [q] at e
    have a : es.toList.any (·.refKey) = false := by
      rw [List.any_eq_false]
      intro y hy
      obtain ⟨z, t, hkey⟩ := hk y (Array.mem_toList_iff.mp hy)
      simp [DictEntry.refKey, hkey]
    have a' : ¬ es.toList.any (·.refKey) = true := by rw [a]; exact Bool.false_ne_true
    rw [if_neg a']
    exact congrArg some e
theorem ObjM.look {h : Heap} {x dx C : Addr} {mA : Str → Option Value} (I : ObjM h x dx C mA) : ∃ od, PySem.W.InstAt h x (PySem.W.instObj C dx) C (some od) ∧ ∀ name, PySem.W.lookIn name od = some (mA name) :=
  let ⟨od, ho, hl⟩ := j5m I.ns
  ⟨od, ⟨I.obj, rfl, rfl, ho⟩, hl⟩
section
variable {prog : Program} {w : World} {A : Around} {E : Value → Shared → Prop} {s : Shared} {K : PySem.W.Frag} {x dx C f : Addr} {mA : Str → Option Value} {name : Str} {v : Value}
end
noncomputable def putF (f : Str) (v : V) : List (Str × V) → List (Str × V)
  | [] => [(f, v)]
  | (g, x) :: r => if g = f then (g, v) :: r else (g, x) :: putF f v r
section
variable {P : Program} {w : World} {H H' : Hp} {h h' : Heap} {a C dx : Addr} {fs fs' : List (Str × V)}
theorem ins_get (hok : HOk P w H h) (e : H a = some (.ins C dx fs)) : ∃ mA, ObjM h a dx C mA ∧ (∀ f, RelO (fs.lookup f) (mA f)) ∧ PySem.Within mA (fs.map (·.1)) ∧ fs.length ≤ 1000 ∧ H dx = some (.own a) := by
  obtain ⟨d, z, ne, ob, mA, n, r, q⟩ := (show j0v P w H h a (.ins C dx fs) from hok a _ e)
  exact ⟨mA, ⟨ob, n, ne⟩, r, q, z, d⟩
end
structure Cls (K : PySem.W.Frag) (C : Addr) : Prop where
  pg : PySem.W.plainGet K C Str.empty = true
  hd : PySem.W.hasDictIn K C = true
  po : PySem.W.plainOver K C = true
  sa : PySem.W.findIn K (.ref C) "__setattr__" = some (some (.builtin "object.__setattr__"))
theorem Cls.get {K : PySem.W.Frag} {C : Addr} (c : Cls K C) (f : Str) : PySem.W.plainGet K C f = true := c.pg
noncomputable def j5n (K : PySem.W.Frag) (C : Addr) (f : Str) : Prop := PySem.W.findIn K (.ref C) f = some none
structure Con (K : PySem.W.Frag) (C : Addr) (f : Str) (v : V) (u : Value) : Prop where
  at_ : PySem.W.findIn K (.ref C) f = some (some u)
  rel : RelV v u
  get : PySem.W.specialIn K u "__get__" = some none
  cp : PySem.W.copiedNames.contains f = false
structure Meth (K : PySem.W.Frag) (C : Addr) (m : Str) (f : Addr) : Prop where
  at_ : PySem.W.findIn K (.ref C) m = some (some (.ref f))
  fn : PySem.W.isFn K (.ref f) = true
  kp : PySem.W.keepIn K (.ref f) = true
section
variable {X : Cx} {pins : List (Addr × Obj)} {σ : St} {H : Hp} {s : Shared} {a C dx : Addr} {fs : List (Str × V)} {f : Str} {v : V} {A : Around} {E : Value → Shared → Prop}
end
noncomputable def tFld (K : PySem.W.Frag) (ta : TE) (f : Str) : TE := fun σ H Q => ta σ H fun x H1 => ∃ a C dx fs v, x = .ref a ∧ H1 a = some (.ins C dx fs) ∧ Cls K C ∧ j5n K C f ∧ fs.lookup f = some v ∧ Q v H1
noncomputable def tCon (K : PySem.W.Frag) (ta : TE) (f : Str) : TE := fun σ H Q => ta σ H fun x H1 => ∃ a C dx fs v u, x = .ref a ∧ H1 a = some (.ins C dx fs) ∧ Cls K C ∧ Con K C f v u ∧ fs.lookup f = none ∧ Q v H1
noncomputable def sFld (K : PySem.W.Frag) (ta tv : TE) (f : Str) : TS := fun D σ H => tv σ H fun y H1 => ta σ H1 fun x H2 => ∃ a C dx fs, x = .ref a ∧ H2 a = some (.ins C dx fs) ∧ Cls K C ∧ j5n K C f ∧ fs.length < 1000 ∧
  D.nx σ (upd H2 a (.ins C dx (putF f y fs)))
noncomputable def InOp (X : Cx) (op : Operator) (rd : V → V → Hp → VK → Prop) : Prop :=
  ∀ (pins : List (Addr × Obj)) (s : Shared) (σ : St) (H : Hp) (x y : V) (u v : Value) (Q : VK), Inv X pins σ H s → RelV x u → RelV y v → rd x y H Q → wpAny (model X.prog X.w) X.A (inplaceOp op u v) (EP X pins σ Q) X.xe s
noncomputable def sFldAug (K : PySem.W.Frag) (ta tv : TE) (rd : V → V → Hp → VK → Prop) (f : Str) : TS := fun D σ H => ta σ H fun x H1 => ∃ a C dx fs v, x = .ref a ∧ H1 a = some (.ins C dx fs) ∧ Cls K C ∧ j5n K C f ∧ fs.lookup f = some v ∧
  tv σ H1 fun y H2 => rd v y H2 fun z H3 => ∃ dx' fs', H3 a = some (.ins C dx' fs') ∧ fs'.length < 1000 ∧ D.nx σ (upd H3 a (.ins C dx' (putF f z fs')))
section
variable {X : Cx} {o e value : Expr} {f : Str} {pos pos' tpos : Pos} {ta tv : TE}
noncomputable def rAdd : V → V → Hp → VK → Prop := fun x y H Q => ∃ i j, x = .int i ∧ y = .int j ∧ Q (.int (i + j)) H
noncomputable def rSub : V → V → Hp → VK → Prop := fun x y H Q => ∃ i j, x = .int i ∧ y = .int j ∧ Q (.int (i - j)) H
end
section
variable {X : Cx} {pins : List (Addr × Obj)} {σ : St} {H : Hp} {s : Shared} {A : Around} {E : Value → Shared → Prop} {Q : Value → Shared → Prop} {c : Value} {b : Bool}
inductive TyOf (K : PySem.W.Frag) (H : Hp) : V → Value → Prop where
  | non : TyOf K H .non (.type "NoneType")
  | bl (x : Bool) : TyOf K H (.bl x) (.type "bool")
  | int (i : Int) : TyOf K H (.int i) (.type "int")
  | str (x : Str) : TyOf K H (.str x) (.type "str")
  | flt (x : UInt64) : TyOf K H (.flt x) (.type "float")
  | lst {a : Addr} {xs : List V} (e : H a = some (.lst xs)) : TyOf K H (.ref a) (.type "list")
  | frz {a : Addr} {o : Obj} {xs : List V} (e : H a = some (.frz o (.lst xs))) : TyOf K H (.ref a) (.type "list")
  | tup {a : Addr} {xs : List V} (e : H a = some (.tup xs)) : TyOf K H (.ref a) (.type "tuple")
  | dK {a : Addr} {kvs : List (Key × V)} (e : H a = some (.dK kvs)) : TyOf K H (.ref a) (.type "dict")
  | dT {a : Addr} {kvs : List (List Key × V)} (e : H a = some (.dT kvs)) : TyOf K H (.ref a) (.type "dict")
  | ins {a C dx : Addr} {fs : List (Str × V)} (e : H a = some (.ins C dx fs)) (cl : Cls K C) (ha : PySem.W.findIn K (.ref C) "__class__" = some (some (.builtin "object.__class__")))
      (hn : PySem.W.specialIn K (.builtin "object.__class__") "__get__" = some (some (.builtin "getset_descriptor.__get__"))) (htk : PySem.W.takesIn K (.builtin "object.__class__") = some true)
      (hm : PySem.W.mroIn K C (.type "object") = some true) : TyOf K H (.ref a) (.ref C)
theorem j5o {x : V} {u t : Value} (I : Inv X pins σ H s) (rx : RelV x u) (ty : TyOf X.K H x t) (e : PySem.W.kitOne X.K t c = some b) (h : ∀ tk, Q (.bool b) { s with toks := tk }) :
    wpAny (model X.prog X.w) A (call (.builtin "isinstance") [u, c]) Q E s := by
  cases ty with
  | non => cases (show u = Value.none from rx); exact PySem.W.kia_one PySem.W.kitx_none I.kIn True.intro e (fun z => nomatch z) h
  | bl y => cases (show u = Value.bool y from rx); exact PySem.W.kia_one PySem.W.kitx_bool I.kIn True.intro e (fun z => nomatch z) h
  | int i => obtain ⟨t, q⟩ := (show ∃ t, u = Value.int i t from rx); cases q; exact PySem.W.kia_one PySem.W.kitx_int I.kIn True.intro e (fun z => nomatch z) h
  | str y => obtain ⟨t, q⟩ := (show ∃ t, u = Value.str y t from rx); cases q; exact PySem.W.kia_one PySem.W.kitx_str I.kIn True.intro e (fun z => nomatch z) h
  | flt y => obtain ⟨t, q⟩ := (show ∃ t, u = Value.float y t from rx); cases q; exact PySem.W.kia_one PySem.W.kitx_float I.kIn True.intro e (fun z => nomatch z) h
  | @lst a xs ea =>
    cases (show u = Value.ref a from rx)
    obtain ⟨_, _, n, _, h1⟩ := (show j0v X.prog X.w H s.heap a (.lst xs) from I.hok a _ ea)
    exact PySem.W.kia_one PySem.W.kitx_list I.kIn ⟨_, h1, rfl⟩ e (fun z => nomatch z) h
  | @frz a ob xs ea =>
    cases (show u = Value.ref a from rx)
    obtain ⟨_, _, _, n, _, h1⟩ := (show j0v X.prog X.w H s.heap a (.frz ob (.lst xs)) from I.hok a _ ea)
    exact PySem.W.kia_one PySem.W.kitx_list I.kIn ⟨_, h1, rfl⟩ e (fun z => nomatch z) h
  | @tup a xs ea =>
    cases (show u = Value.ref a from rx)
    obtain ⟨_, _, _, p⟩ := (show j0v X.prog X.w H s.heap a (.tup xs) from I.hok a _ ea)
    obtain ⟨o, h1, h2, _⟩ := p
    exact PySem.W.kia_one PySem.W.kitx_tuple I.kIn ⟨o, h1, h2⟩ e (fun z => nomatch z) h
  | @dK a kvs ea =>
    cases (show u = Value.ref a from rx)
    obtain ⟨_, _, vs, _, p⟩ := (show j0v X.prog X.w H s.heap a (.dK kvs) from I.hok a _ ea)
    obtain ⟨o, es, ep, h1, h2, _⟩ := p
    exact PySem.W.kia_one PySem.W.kitx_dict I.kIn ⟨o, h1, h2.1⟩ e (fun z => nomatch z) h
  | @dT a kvs ea =>
    cases (show u = Value.ref a from rx)
    obtain ⟨_, _, xs, _, o, es, ep, h1, h2, _⟩ := (show j0v X.prog X.w H s.heap a (.dT kvs) from I.hok a _ ea)
    exact PySem.W.kia_one PySem.W.kitx_dict I.kIn ⟨o, h1, h2.1⟩ e (fun z => nomatch z) h
  | @ins a C dx fs ea cl ha hn htk hm =>
    cases (show u = Value.ref a from rx)
    obtain ⟨mA, O, _⟩ := ins_get I.hok ea
    obtain ⟨od, J, _⟩ := O.look
    exact PySem.W.kia_one (PySem.W.kitx_own (cl.get _) cl.hd ha hn htk hm) I.kIn J e (fun z => nomatch z) h
end
end L2
namespace L2
open PySem PySem.Spec PyProof.Rows
structure Room (k : Nat) (A : Around) : Prop where
  hd : A.handled = none
  dp : A.depth + 3 * k + 5 < recursionLimit
  un : A.units + 16 * k + 200 < cLine
theorem Room.mono {j k : Nat} {A : Around} (r : Room k A) (h : j ≤ k) : Room j A := ⟨r.hd, by have := r.dp; omega, by have := r.un; omega⟩
theorem Room.deeper {k : Nat} {A : Around} (r : Room (k + 1) A) (env : Env) : Room k (A.deeper env) :=
  ⟨r.hd, by have := r.dp; show A.depth + 1 + 3 * k + 5 < _; omega, by have := r.un; show A.units + 3 + 16 * k + 200 < _; omega⟩
theorem Room.depth {k : Nat} {A : Around} (r : Room k A) : A.depth < recursionLimit := by have := r.dp; omega
theorem Room.units0 {k : Nat} {A : Around} (r : Room k A) : A.units < cLine := by have := r.un; omega
noncomputable def tNil : TA := fun _ H Q => Q [] H
noncomputable def j3d (ta : TE) (tr : TA) : TA := fun σ H Q => ta σ H fun x H1 => tr σ H1 fun xs H2 => Q (x :: xs) H2
section
variable {X : Cx} {e : Expr} {es : List Expr} {te : TE} {t : TA} {pos : Pos}
theorem j01 : PA X [] tNil := fun _ _ _ _ H Q I h => Calls.spliced_nil ⟨[], H, I, .nil, h⟩
theorem j00 (ha : PE X e te) (hr : PA X es t) (hs : starEach (e :: es) X.env = (false, eval e X.env) :: starEach es X.env := by rfl) : PA X (e :: es) (j3d te t) := by
  intro pos pins s σ H Q I h
  rw [hs]
  show wpAny _ _ (spliced ((false, eval e X.env) :: backTo pos (starEach es X.env))) _ _ s
  refine Calls.spliced_cons (thn (ha pins s σ H _ I h) fun u s1 ⟨x, H1, I1, r1, q1⟩ => ?_)
  exact thn (hr pos pins s1 σ H1 _ I1 q1) fun us s2 ⟨xs, H2, I2, r2, q2⟩ => ⟨x :: xs, H2, I2, .cons r1 r2, q2⟩
noncomputable def tTup (t : TA) : TE := fun σ H Q => t σ H fun xs H1 => xs.length ≤ sizeLine ∧ ∀ p, H1 p = none → Q (.ref p) (upd H1 p (.tup xs))
noncomputable def tLst (t : TA) : TE := fun σ H Q => t σ H fun xs H1 => xs.length ≤ sizeLine ∧ ∀ p, H1 p = none → Q (.ref p) (upd H1 p (.lst xs))
theorem pe_tup {x1} (h : PA X es t) : PE X (.Tuple es x1 pos) (tTup t) := by
  intro pins s σ H Q I hq
  refine wpAny_Tuple_spliced (thn (h pos pins s σ H _ I hq) fun us s1 ⟨xs, H1, I1, r, z, q⟩ => ⟨by rw [← r.length]; exact z, ?_⟩)
  have hf : H1 s1.heap.objs.size = none := I1.hok.fresh (Nat.le_refl _)
  refine ⟨.ref s1.heap.objs.size, upd H1 s1.heap.objs.size (.tup xs), I1.laid (t' := s1.toks) (fun b u e => Heap.get?_push_of_some _ e) (Nat.le_refl _) ?_, rfl, q _ hf⟩
  exact ⟨z, us, r, ⟨_, Heap.get?_push_size _ rfl, rfl, _, rfl⟩⟩
theorem j27 (h : PA X es t) : PE X (.List es pos) (tLst t) := by
  intro pins s σ H Q I hq
  refine wpAny_List_spliced (thn (h pos pins s σ H _ I hq) fun us s1 ⟨xs, H1, I1, r, z, q⟩ => ⟨by rw [← r.length]; exact z, ?_⟩)
  have hf : H1 s1.heap.objs.size = none := I1.hok.fresh (Nat.le_refl _)
  refine ⟨.ref s1.heap.objs.size, upd H1 s1.heap.objs.size (.lst xs), I1.laid (t' := s1.toks) (fun b u e => Heap.get?_push_of_some _ e) (Nat.le_refl _) ?_, rfl, q _ hf⟩
  exact ⟨z, us, 0, r, Heap.get?_push_size _ rfl⟩
end
abbrev Sp := List V → Hp → VK → XK → Prop
abbrev CXT := List Env → Hp → Shared → XK → Value → Shared → Prop
structure Env0 (P : Program) (w : World) (K : PySem.W.Frag) (mg : Str → Option Value) (base : Heap) (A : Around) (outer : List Env) (s : Shared) (H : Hp) : Prop where
  frames : A.frames = some outer
  mod : Mod K mg base
  bs : ∀ b o, base.get? b = some o → s.heap.get? b = some o ∧ H b = none
  bsz : base.objs.size ≤ s.heap.objs.size
  funs : s.heap.FunFrames base outer
  frf : ∀ b ∈ frs outer, H b = none
  hok : HOk P w H s.heap
  bare : AllBare s.gens
noncomputable def CE (outer : List Env) (P : Program) (w : World) (H : Hp) (s : Shared) (Q : VK) (u : Value) (s' : Shared) : Prop :=
  ∃ v H', s'.os = s.os ∧ AllBare s'.gens ∧ Un (frs outer) [] H H' s.heap s'.heap ∧ HOk P w H' s'.heap ∧ RelV v u ∧ Q v H'
noncomputable def CR (CX : CXT) (outer : List Env) (P : Program) (w : World) (H : Hp) (s : Shared) (Q : VK) (E : XK) (r : Result) (s' : Shared) : Prop :=
  match r with
  | .ok (.ret u) => CE outer P w H s Q u s'
  | .ok _ => False
  | .error e => CX outer H s E e s'
structure FnOk (P : Program) (w : World) (K : PySem.W.Frag) (mg : Str → Option Value) (base : Heap) (CX : CXT) (k : Nat) (f : Addr) (fd : FuncData) (ps : List Str) (sp : Sp) : Prop where
  len : ∀ vs H Q E, sp vs H Q E → vs.length = ps.length
  run : ∀ (A : Around) (outer : List Env) (s : Shared) (H : Hp) (args : Args) (us : List Value) (vs : List V) (Q : VK) (E : XK), Room k A → Env0 P w K mg base A outer s H → BindsTo s fd args (ps.zip us) → Vals vs us → sp vs H Q E →
    codeAny (model P w) A (.call (.ref f) args) (CR CX outer P w H s Q E) s
section
variable {X : Cx} {pins : List (Addr × Obj)} {σ : St} {H : Hp} {s s' : Shared}
theorem Inv.env0 (I : Inv X pins σ H s) : Env0 X.prog X.w X.K X.mg X.base X.A X.stack s H :=
  ⟨I.ok.frames, I.ok.mod, I.bs, Nat.le_trans I.ok.bsz I.sz, I.stack, I.stkFree, I.hok, I.bare⟩
theorem Inv.after {Q : VK} {u : Value} (I : Inv X pins σ H s) (h : CE X.stack X.prog X.w H s Q u s') : EP X pins σ Q u s' := by
  obtain ⟨v, H', os, bare, un, hok, r, q⟩ := h
  obtain ⟨hh, g, d, t, os'⟩ := s'
  obtain rfl : os' = s.os := os
  exact ⟨v, H', I.call (h' := hh) (g' := g) (d' := d) (t' := t) (ch := []) un hok bare (fun b z => absurd z (by simp)), r, q⟩
end
noncomputable def j5p (sp : Sp) (dvs : List V) (E : XK) (t : TA) : TE := fun σ H Q => t σ H fun vs H1 => sp (vs ++ dvs) H1 Q E
noncomputable def tMeth (C : Addr) (m : Str) (sp : Sp) (dvs : List V) (E : XK) (ta : TE) (t : TA) : TE := fun σ H Q => ta σ H fun x H1 => ∃ a dx fs, x = .ref a ∧ H1 a = some (.ins C dx fs) ∧ fs.lookup m = none ∧
  t σ H1 fun vs H2 => sp (x :: (vs ++ dvs)) H2 Q E
noncomputable def tMake (C : Addr) (sp : Sp) (dvs : List V) (E : XK) (t : TA) : TE := fun σ H Q => t σ H fun vs H1 => ∀ x dx, H1 x = none → H1 dx = none → dx ≠ x →
  sp (.ref x :: (vs ++ dvs)) (upd (upd H1 dx (.own x)) x (.ins C dx [])) (fun v H2 => v = .non ∧ Q (.ref x) H2) E
noncomputable def j2m (K : PySem.W.Frag) (fd : FuncData) (ps : List Str) (ds : List Value) : Prop :=
  ∀ (s : Shared) (us : List Value), K.In s.heap → (us ++ ds).length = ps.length → BindsTo s fd ⟨us, []⟩ (ps.zip (us ++ ds))
theorem j2m.all {K : PySem.W.Frag} {fd : FuncData} {ps : List Str} (h : ∀ us : List Value, us.length = ps.length → bindArgs fd ⟨us, []⟩ = pure (ps.zip us)) : j2m K fd ps [] := fun s us _ hl => by
  rw [List.append_nil] at hl ⊢
  exact .of_eq (h us hl)
noncomputable def j1t (CX : CXT) (X : Cx) (E : XK) : Prop := ∀ (pins : List (Addr × Obj)) (σ : St) (H : Hp) (s : Shared) (e : Value) (s' : Shared), Inv X pins σ H s → CX X.stack H s E e s' → X.xe e s'
section
variable {X : Cx} {CX : CXT} {k : Nat} {f C : Addr} {fd : FuncData} {ps : List Str} {sp : Sp} {dvs : List V} {ds : List Value} {E : XK} {x m : Str} {p pos apos : Pos} {e o : Expr} {es : List Expr} {ta : TE} {t : TA}
theorem run_fn {pins : List (Addr × Obj)} {σ : St} {H : Hp} {s : Shared} {Q : VK} {us : List Value} {vs : List V} (F : FnOk X.prog X.w X.K X.mg X.base CX k f fd ps sp) (hr : Room k X.A) (hb : j2m X.K fd ps ds) (hd : Vals dvs ds) (hx : j1t CX X E)
    (I : Inv X pins σ H s) (r : Vals vs us) (h : sp (vs ++ dvs) H Q E) : wpAny (model X.prog X.w) X.A (call (.ref f) us) (EP X pins σ Q) X.xe s := by
  have r2 : Vals (vs ++ dvs) (us ++ ds) := r.append hd
  have hl : (us ++ ds).length = ps.length := by rw [← r2.length]; exact F.len _ _ _ _ h
  refine wpAny_call (codeAny_mono (F.run X.A X.stack s H ⟨us, []⟩ (us ++ ds) (vs ++ dvs) Q E hr I.env0 (hb s us I.kIn hl) r2 h) fun r s' hq => ?_)
  cases r with
  | error e => exact hx pins σ H s e s' I hq
  | ok fl =>
    cases fl with
    | ret u => exact I.after hq
    | next => exact False.elim hq
    | brk => exact False.elim hq
    | cont => exact False.elim hq
theorem j5q (F : FnOk X.prog X.w X.K X.mg X.base CX k f fd ps sp) (hr : Room k X.A) (hg : Gl X x) (hm : X.mg x = some (.ref f)) (hk : PySem.W.keepIn X.K (.ref f) = true) (hb : j2m X.K fd ps ds) (hd : Vals dvs ds) (hx : j1t CX X E)
    (ha : PA X (e :: es) t) (hdb : (x == ("__debug__" : Str)) = false := by decide) (he : starEach (e :: es) X.env = (false, eval e X.env) :: starEach es X.env := by rfl) (hpl : (backTo pos (starEach es X.env)).any (·.1) = false := by rfl) :
    PE X (.Call (.Name x p) (e :: es) [] pos) (j5p sp dvs E t) := by
  intro pins s σ H Q I h
  refine wpAny_Call_Name_kw (j26 I hg hm ?_ hdb)
  refine PySem.W.callWith_K (h₀ := X.base) I.ok.mod.kin hk (thn (ha pos pins s σ H _ I h) fun us s1 ⟨vs, H1, I1, r, q⟩ => ⟨I1.kIn, ?_⟩) he hpl
  exact run_fn F hr hb hd hx I1 r q
theorem pe_call0 (F : FnOk X.prog X.w X.K X.mg X.base CX k f fd ps sp) (hr : Room k X.A) (hg : Gl X x) (hm : X.mg x = some (.ref f)) (hk : PySem.W.keepIn X.K (.ref f) = true) (hb : j2m X.K fd ps ds) (hd : Vals dvs ds) (hx : j1t CX X E)
    (hdb : (x == ("__debug__" : Str)) = false := by decide) : PE X (.Call (.Name x p) [] [] pos) (j5p sp dvs E tNil) := by
  intro pins s σ H Q I h
  refine wpAny_Call_Name_kw (j26 I hg hm ?_ hdb)
  exact PySem.W.callWith_K0 I.kIn hk (run_fn (us := []) F hr hb hd hx I .nil h)
structure Mk (K : PySem.W.Frag) (C f : Addr) : Prop where
  makes : PySem.W.makesIn K C = true
  init : PySem.W.findIn K (.ref C) "__init__" = some (some (.ref f))
  fn : PySem.W.isFn K (.ref f) = true
  kp : PySem.W.keepIn K (.ref C) = true
end
noncomputable def PK (X : Cx) (kws : List Keyword) (t : TA) : Prop :=
  ∀ (pos : Pos) (pins : List (Addr × Obj)) (s : Shared) (σ : St) (H : Hp) (Q : List V → Hp → Prop), Inv X pins σ H s → t σ H Q → wpAny (model X.prog X.w) X.A (evalAll ((backToKw pos (keywordEach kws X.env)).map (·.2))) (AP X pins σ Q) X.xe s
section
variable {X : Cx} {CX : CXT} {k : Nat} {f C : Addr} {fd : FuncData} {ps ks : List Str} {sp : Sp} {E : XK} {x m : Str} {p pos apos kpos : Pos} {e o : Expr} {es : List Expr} {kws : List Keyword} {te ta : TE} {t tk : TA} {nm : Option Str}
structure KBinds (K : PySem.W.Frag) (fd : FuncData) (ps ks : List Str) (g : List Value → List Value → List Value) (gV : List V → List V → List V) : Prop where
  to : ∀ (s : Shared) (us ws : List Value), K.In s.heap → (g us ws).length = ps.length → BindsTo s fd ⟨us, ks.zip ws⟩ (ps.zip (g us ws))
  rel : ∀ {vs : List V} {us : List Value} {zs : List V} {ws : List Value}, Vals vs us → Vals zs ws → Vals (gV vs zs) (g us ws)
noncomputable def tCallK (sp : Sp) (gV : List V → List V → List V) (E : XK) (t tk : TA) : TE := fun σ H Q => t σ H fun vs H1 => tk σ H1 fun zs H2 => sp (gV vs zs) H2 Q E
variable {g : List Value → List Value → List Value} {gV : List V → List V → List V}
end
structure FnScope (N P : List Str) (sc : Scope) : Prop where
  kind : sc.kind = .function
  co : sc.isCoroutine = false
  gen : sc.isGenerator = false
  nd : N.Nodup
  pre : N.take P.length = P
  par : ∀ x ∈ P, sc.names.lookup x = some .local ∨ sc.names.lookup x = some .cell
  nofree : ∀ y ∈ sc.names, y.2 ≠ .free
theorem j3e {kindOf : Str → Option NameKind} {x : Str} : ∀ {binds : List (Str × Value)} {m : Str → Option Value}, (∀ v, (x, v) ∉ binds) → bindL kindOf binds m x = m x
  | [], _, _ => rfl
  | (n, v) :: r, m, h => by
    unfold bindL
    rw [j3e fun w hw => h w (List.mem_cons_of_mem _ hw)]
    split
    · have : x ≠ n := by rintro rfl; exact h v List.mem_cons_self
      simp [this]
    · rfl
theorem j3f {kindOf : Str → Option NameKind} {x : Str} : ∀ {binds : List (Str × Value)} {m : Str → Option Value}, (∀ v, (x, v) ∉ binds) → bindC kindOf binds m x = m x
  | [], _, _ => rfl
  | (n, v) :: r, m, h => by
    unfold bindC
    rw [j3f fun w hw => h w (List.mem_cons_of_mem _ hw)]
    split
    · rfl
    · have : x ≠ n := by rintro rfl; exact h v List.mem_cons_self
      simp [this]
theorem j3g {kindOf : Str → Option NameKind} {x : Str} {v : Value} : ∀ {P : List Str} {vs : List Value} {i : Nat} {m : Str → Option Value}, P.Nodup → P[i]? = some x → vs[i]? = some v → kindOf x = some .local →
    bindL kindOf (P.zip vs) m x = some v
  | [], _, _, _, _, h, _, _ => by simp at h
  | _ :: _, [], _, _, _, _, h, _ => by simp at h
  | p :: P, w :: vs, 0, m, nd, h1, h2, hk => by
    simp at h1 h2; subst h1; subst h2
    show bindL kindOf ((p, w) :: P.zip vs) m p = _
    unfold bindL
    rw [j3e fun v hv => (List.nodup_cons.mp nd).1 (List.of_mem_zip hv).1, if_pos hk]
    simp
  | p :: P, w :: vs, i + 1, m, nd, h1, h2, hk => by
    show bindL kindOf ((p, w) :: P.zip vs) m x = _
    unfold bindL
    exact j3g (i := i) (List.nodup_cons.mp nd).2 (by simpa using h1) (by simpa using h2) hk
theorem j3h {kindOf : Str → Option NameKind} {x : Str} {v : Value} : ∀ {P : List Str} {vs : List Value} {i : Nat} {m : Str → Option Value}, P.Nodup → P[i]? = some x → vs[i]? = some v → kindOf x ≠ some .local →
    bindC kindOf (P.zip vs) m x = some v
  | [], _, _, _, _, h, _, _ => by simp at h
  | _ :: _, [], _, _, _, _, h, _ => by simp at h
  | p :: P, w :: vs, 0, m, nd, h1, h2, hk => by
    simp at h1 h2; subst h1; subst h2
    show bindC kindOf ((p, w) :: P.zip vs) m p = _
    unfold bindC
    rw [j3f fun v hv => (List.nodup_cons.mp nd).1 (List.of_mem_zip hv).1, if_neg hk]
    simp
  | p :: P, w :: vs, i + 1, m, nd, h1, h2, hk => by
    show bindC kindOf ((p, w) :: P.zip vs) m x = _
    unfold bindC
    exact j3h (i := i) (List.nodup_cons.mp nd).2 (by simpa using h1) (by simpa using h2) hk
noncomputable def j2w (N : List Str) (vs : List V) : St := vs.map some ++ List.replicate (N.length - vs.length) none
noncomputable def cxOf (CX : CXT) (P : Program) (w : World) (K : PySem.W.Frag) (mg : Str → Option Value) (base : Heap) (N : List Str) (qual : Str) (scope : Scope) (f : Addr) (cd : Value) (A : Around) (outer : List Env) (s : Shared) (H : Hp) (E : XK) : Cx where
  prog := P
  w := w
  K := K
  mg := mg
  base := base
  A := A.deeper (envOfC qual scope s.heap.objs.size f cd)
  N := N
  s₀ := s
  H₀ := H
  env := envOfC qual scope s.heap.objs.size f cd
  outer := outer
  stack := envOfC qual scope s.heap.objs.size f cd :: outer
  ex := []
  calm := true
  fn := fun _ => true
  pn := []
  xe := fun e s' => wpAny (model P w) (A.deeper (envOfC qual scope s.heap.objs.size f cd)) (leaving (envOfC qual scope s.heap.objs.size f cd) e) (fun _ s'' => CX outer H s E e s'') (fun e' s'' => CX outer H s E e' s'') s'
theorem j4e {sc : Scope} {n : Nat} {x : Str} (h : sc.names.lookup x = some .cell) : ∃ c, (cellsFrom n sc.names []).lookup x = some c := by
  have q := PySem.W.cellsFrom_some sc.names n [] (.inl h)
  exact Option.isSome_iff_exists.mp q
theorem j5r {CX : CXT} {P : Program} {w : World} {K : PySem.W.Frag} {mg : Str → Option Value} {base : Heap} {N ps : List Str} {qual : Str} {scope : Scope} {f : Addr} {cd : Value} {A : Around} {outer : List Env} {s s1 : Shared} {H : Hp} {E : XK} {us : List Value} {vs : List V}
    (S : FnScope N ps scope) (hd : A.handled = none) (e0 : Env0 P w K mg base A outer s H) (hl : vs.length = ps.length) (r : Vals vs us)
    (x : InCallC s s.heap.objs.size (bindL (envOfC qual scope s.heap.objs.size f cd).kindOf (ps.zip us) fun _ => none) (cellsFrom (s.heap.objs.size + 1) scope.names []) (bindC (envOfC qual scope s.heap.objs.size f cd).kindOf (ps.zip us) fun _ => none) s1) :
    Inv (cxOf CX P w K mg base N qual scope f cd A outer s H E) [] (j2w N vs) H s1 := by
  have hpl : ps.length ≤ N.length := by have := congrArg List.length S.pre; rw [List.length_take] at this; omega
  obtain ⟨h1, tk, rfl, hk⟩ := x.done
  have noA : ∀ b : Addr, b ∉ (cxOf CX P w K mg base N qual scope f cd A outer s H E).ex := fun b z => absurd (show b ∈ ([] : List Addr) from z) (by simp)
  refine ⟨⟨e0.mod, S.kind, rfl, rfl, Nat.le_refl _, fun y z c h1 h2 => ?_, fun y hy => ?_, fun y c _ h => ?_, fun _ => hd, Around.frames_deeper e0.frames, .inr ⟨rfl, rfl⟩, fun b z => absurd z (noA b), e0.bs, e0.bsz, fun b _ _ => noA b, fun b z => absurd z (noA b), e0.funs, e0.frf⟩,
    rfl, e0.bare, Un.kept hk, ⟨_, x.toInCall.ns, fun i y v h1 h2 h3 => ?_⟩, fun y c h => ⟨_, x.cell y c h⟩, e0.hok.fresh (Nat.le_refl _), fun y c h => ?_, fun p hp => absurd (show p ∈ ([] : List (Addr × Obj)) from hp) (by simp), e0.hok.kept hk, ?_⟩
  · exact name_of_addr x.apart (PySem.mem_of_lookup h1) (PySem.mem_of_lookup h2)
  · have hy : scope.names.lookup y = some .cell ∨ scope.names.lookup y = some .free := hy
    rcases hy with hy | hy
    · exact j4e hy
    · exact absurd rfl (S.nofree _ (PySem.mem_of_lookup hy))
  · exact Nat.le_of_lt (x.above y c (PySem.mem_of_lookup h))
  · have hi : i < vs.length := by
      unfold j2w at h2
      by_cases hi : i < vs.length
      · exact hi
      · rw [List.getElem?_append_right (by simpa using hi)] at h2
        rw [List.getElem?_replicate] at h2
        split at h2 <;> cases h2
    have ha : vs[i]? = some v := by
      unfold j2w at h2
      rw [List.getElem?_append_left (by simpa using hi), List.getElem?_map] at h2
      cases e : vs[i]? with
      | none => rw [e] at h2; cases h2
      | some a => rw [e] at h2; cases h2; rfl
    obtain ⟨u, hu, rv⟩ := r.get ha
    have hp : ps[i]? = some y := by
      rw [← S.pre, List.getElem?_take_of_lt (by omega)]; exact h1
    have ndP : ps.Nodup := by rw [← S.pre]; exact S.nd.sublist (List.take_sublist _ _)
    refine ⟨u, rv, ?_⟩
    rcases S.par y (List.mem_of_getElem? hp) with k | k
    · exact .inl ⟨k, j3g ndP hp hu k⟩
    · obtain ⟨c, e⟩ := j4e (n := s.heap.objs.size + 1) k
      refine .inr ⟨.inl k, c, e, ?_⟩
      have q := x.cell y c e
      rw [j3h ndP hp hu (by show scope.names.lookup y ≠ _; rw [k]; decide)] at q
      exact q
  · exact e0.hok.fresh (Nat.le_of_lt (x.above y c (PySem.mem_of_lookup h)))
  · unfold j2w
    show _ = N.length
    rw [List.length_append, List.length_map, List.length_replicate]
    omega
theorem fn_of {CX : CXT} {P : Program} {w : World} {K : PySem.W.Frag} {mg : Str → Option Value} {base : Heap} {k : Nat} {f : Addr} {name qual : Str} {params : Arguments} {body : List Stmt} {scope : Scope} {dV kV doc pm cdv ct oc : Value} {an od : Option Addr}
    {osl : Array (Option Value)} {N ps : List Str} {sp : Sp} (lk : K.lookup f = some ⟨oc, od, .func (PySem.W.fnOf name qual params body scope dV kV doc pm an cdv ct), osl⟩) (hcd : PySem.W.codeIn K cdv qual = true) (S : FnScope N ps scope)
    (len : ∀ vs H Q E, sp vs H Q E → vs.length = ps.length)
    (hbody : ∀ (A : Around) (outer : List Env) (s : Shared) (H : Hp) (vs : List V) (Q : VK) (E : XK), Room k (A.deeper (envOfC qual scope s.heap.objs.size f cdv)) → sp vs H Q E →
      ∃ t, PSs (cxOf CX P w K mg base N qual scope f cdv A outer s H E) body t ∧ t { nx := fun _ H' => Q .non H', rt := Q } (j2w N vs) H) :
    FnOk P w K mg base CX (k + 1) f (PySem.W.fnOf name qual params body scope dV kV doc pm an cdv ct) ps sp := by
  refine ⟨len, fun A outer s H args us vs Q E hr e0 hb r hsp => ?_⟩
  have hl := len _ _ _ _ hsp
  have KX : K.In s.heap := e0.mod.kin.keeps fun b o e => (e0.bs b o e).1
  have lim : s.heap.NoLimit := e0.mod.nolimit.keeps fun b o e => (e0.bs b o e).1
  have hkind : ∀ y ∈ ps.zip us, scope.names.lookup y.1 = some .local ∨ (scope.names.lookup y.1 = some .cell ∧ ((cellsFrom (s.heap.objs.size + 1) scope.names []).lookup y.1).isSome = true) := fun ⟨n, v⟩ hy => by
    rcases S.par n (List.of_mem_zip hy).1 with q | q
    · exact .inl q
    · exact .inr ⟨q, PySem.W.cellsFrom_some _ _ _ (.inl q)⟩
  refine codeAny_call_function hr.depth (KX _ _ lk) rfl S.co S.gen rfl (PySem.W.codeRec_of KX hcd) (hb _ _ _ _ ?_)
  refine wpAny_newFunctionEnv_cells S.kind hkind fun env he s1 x => ?_
  subst he
  refine ⟨lim.keeps x.toInCall.keep, codeAny_func ?_⟩
  obtain ⟨t, ht, hq⟩ := hbody A outer s H vs Q E (hr.deeper _) hsp
  have I : Inv (cxOf CX P w K mg base N qual scope f cdv A outer s H E) [] (j2w N vs) H s1 := j5r S hr.hd e0 hl r x
  refine wpAny_mono (ht [] s1 (j2w N vs) H _ I hq) (fun fl s' hs => ?_) fun e s' hs => hs
  have fin : ∀ {σ' : St} {H' : Hp} {v : V} {u : Value}, Inv (cxOf CX P w K mg base N qual scope f cdv A outer s H E) [] σ' H' s' → RelV v u → Q v H' → CE outer P w H s Q u s' :=
    fun {σ' H' v u} J rv q => ⟨v, H', J.os, J.bare, J.base, J.hok, rv, q⟩
  cases fl with
  | ret u =>
    obtain ⟨v, σ', H', J, rv, q⟩ := hs
    exact fin J rv q
  | next =>
    obtain ⟨σ', H', J, q⟩ := hs
    exact fin (v := V.non) (u := Value.none) J rfl q
  | brk =>
    obtain ⟨_, _, _, q⟩ := hs
    exact False.elim q
  | cont =>
    obtain ⟨_, _, _, q⟩ := hs
    exact False.elim q
end L2
namespace L2
open PySem PySem.Spec PyProof.Rows
section
variable {X : Cx} {x : Str} {p pos : Pos} {e : Expr} {es : List Expr} {t : TA} {id T : String} {r : List V → Hp → VK → Prop}
noncomputable def tCB (r : List V → Hp → VK → Prop) (t : TA) : TE := fun σ H Q => t σ H fun vs H1 => r vs H1 Q
theorem j08 (hc : j1p X (.builtin id) r) (hg : Gl X x) (hm : X.mg x = none) (hv : bootBuiltins x = some (.builtin id)) (ha : PA X (e :: es) t) (hn : x ≠ "__name__" := by decide) (hdb : (x == ("__debug__" : Str)) = false := by decide)
    (he : starEach (e :: es) X.env = (false, eval e X.env) :: starEach es X.env := by rfl) (hpl : (backTo pos (starEach es X.env)).any (·.1) = false := by rfl) : PE X (.Call (.Name x p) (e :: es) [] pos) (tCB r t) := by
  intro pins s σ H Q I h
  refine wpAny_Call_Name_kw (j48 I hg hm hv ?_ hn hdb)
  exact PyProof.Rows.callWith_builtin1 (thn (ha pos pins s σ H _ I h) fun us s1 ⟨vs, H1, I1, r1, q1⟩ => hc pins s1 σ H1 vs us Q I1 r1 q1) he hpl
theorem j0r (hc : j1p X (.type T) r) (hg : Gl X x) (hm : X.mg x = none) (hv : bootBuiltins x = some (.type T)) (ha : PA X (e :: es) t) (hn : x ≠ "__name__" := by decide) (hdb : (x == ("__debug__" : Str)) = false := by decide)
    (he : starEach (e :: es) X.env = (false, eval e X.env) :: starEach es X.env := by rfl) (hpl : (backTo pos (starEach es X.env)).any (·.1) = false := by rfl) : PE X (.Call (.Name x p) (e :: es) [] pos) (tCB r t) := by
  intro pins s σ H Q I h
  refine wpAny_Call_Name_kw (j48 I hg hm hv ?_ hn hdb)
  exact PyProof.Rows.callWith_type1 (thn (ha pos pins s σ H _ I h) fun us s1 ⟨vs, H1, I1, r1, q1⟩ => hc pins s1 σ H1 vs us Q I1 r1 q1) he hpl
end
end L2
namespace HT
open PySem PyProof.Rows
noncomputable def lexLt : List Int → List Int → Bool
  | [], [] => false
  | [], _ :: _ => true
  | _ :: _, [] => false
  | x :: xs, y :: ys => if x = y then lexLt xs ys else decide (x < y)
theorem eqAt_int (A : Around) (s : Shared) (a : Int) (t : Tok) (c : Int) (u : Tok) : ∃ e, SeqAt.EqAt A s (.int a t) (.int c u) e ∧ (e = true ↔ a = c) :=
  ⟨(a == c), SeqAt.EqAt.int_int a t c u, by simp⟩
section
open PySem.SeqAt
open PySem.AutoSeq1 (wpAny_loadPart')
open PySem.MeetsSeq PySem.MeetsSeq2 PySem.MeetsSeq3
end
section
variable {prog : Program} {w : World} {A : Around} {E : Value → Shared → Prop} {s : Shared}
noncomputable def sIx (n d : Nat) : Option Int → Nat
  | none => d
  | some v => if v < 0 then (v + (n : Int)).toNat else min v.toNat n
end
end HT
namespace L2
open PySem PySem.Spec PyProof.Rows
abbrev TO := St → Hp → (Option Int → Hp → Prop) → Prop
noncomputable def PO (X : Cx) (e : Option Expr) (t : TO) : Prop :=
  ∀ (pins : List (Addr × Obj)) (s : Shared) (σ : St) (H : Hp) (Q : Option Int → Hp → Prop), Inv X pins σ H s → t σ H Q →
    wpAny (model X.prog X.w) X.A (evalPart e X.env) (fun u s' => ∃ o H', Inv X pins σ H' s' ∧ IsPart u o ∧ Q o H') X.xe s
noncomputable def tNoPart : TO := fun _ H Q => Q none H
noncomputable def tPart (t : TE) : TO := fun σ H Q => t σ H fun x H1 => ∃ i, x = .int i ∧ Q (some i) H1
section
variable {X : Cx} {e : Expr} {te : TE} {lo hi : Option Expr} {tl th : TO} {pos p2 : Pos}
theorem j28 : PO X none tNoPart := by
  intro pins s σ H Q I h
  rw [evalPart_none]
  exact wpAny_pure ⟨none, H, I, .none, h⟩
theorem j29 (h : PE X e te) : PO X (some e) (tPart te) := by
  intro pins s σ H Q I hw
  rw [evalPart_some]
  refine thn (h pins s σ H _ I hw) fun u s1 ⟨x, H1, I1, r1, q1⟩ => ?_
  obtain ⟨i, rfl, q⟩ := q1
  obtain ⟨t, rfl⟩ := r1
  exact ⟨some i, H1, I1, .int i t, q⟩
noncomputable def SlR (X : Cx) (r : V → Option Int → Option Int → Hp → VK → Prop) : Prop :=
  ∀ (pins : List (Addr × Obj)) (s : Shared) (σ : St) (H : Hp) (x : V) (v vl vu : Value) (lo hi : Option Int) (sl : Addr) (Q : VK), Inv X pins σ H s → RelV x v → s.heap.IsSliceOf sl vl vu .none → IsPart vl lo → IsPart vu hi → r x lo hi H Q →
    ∃ T id, typeLookup (.type T) "__getitem__" = pure (some (.builtin id)) ∧ s.TypeIs v T ∧ wpAny (model X.prog X.w) X.A (getItem v (.ref sl)) (EP X pins σ Q) X.xe s
noncomputable def tSl (r : V → Option Int → Option Int → Hp → VK → Prop) (te : TE) (tl th : TO) : TE := fun σ H Q => te σ H fun x H1 => tl σ H1 fun l H2 => th σ H2 fun u H3 => r x l u H3 Q
theorem j1f {r : V → Option Int → Option Int → Hp → VK → Prop} (hr : SlR X r) (he : PE X e te) (hl : PO X lo tl) (hu : PO X hi th) : PE X (.Subscript e (.Slice lo hi none p2) pos) (tSl r te tl th) := by
  intro pins s σ H Q I h
  refine Subscript_ (thn (he pins s σ H _ I h) fun v s1 ⟨x, H1, I1, r1, q1⟩ => ?_)
  refine wpAny_Slice (thn (hl pins s1 σ H1 _ I1 q1) fun vl s2 ⟨l, H2, I2, pl, q2⟩ => thn (hu pins s2 σ H2 _ I2 q2) fun vu s3 ⟨u, H3, I3, pu, q3⟩ => ?_)
  rw [evalPart_none]
  refine wpAny_pure ?_
  have I4 : Inv X pins σ H3 { s3 with heap := s3.heap.push { cls := .type "slice", data := .fields #[vl, vu, .none] } } := I3.kept (t' := s3.toks) fun b ob q => Heap.get?_push_of_some _ q
  obtain ⟨T, id, hT, ht, hg⟩ := hr pins { s3 with heap := s3.heap.push { cls := .type "slice", data := .fields #[vl, vu, .none] } } σ H3 x v vl vu l u s3.heap.objs.size Q I4 r1 (Heap.IsSliceOf.new ..) pl pu q3
  show wpAny (model X.prog X.w) X.A (subscriptTail e (.Slice lo hi none p2) v (.ref s3.heap.objs.size)) (EP X pins σ Q) X.xe { s3 with heap := s3.heap.push { cls := .type "slice", data := .fields #[vl, vu, .none] } }
  exact tail_any (ops := [.ref s3.heap.objs.size, v]) ht hT hg (by with_unfolding_all rfl)
noncomputable def cutV (xs : List V) (lo hi : Option Int) : List V := (xs.drop (HT.sIx xs.length 0 lo)).take (HT.sIx xs.length xs.length hi - HT.sIx xs.length 0 lo)
noncomputable def rSlT (K : PySem.W.Frag) : V → Option Int → Option Int → Hp → VK → Prop := fun x lo hi H Q => ∃ a xs, x = .ref a ∧ SqT K H a xs ∧
  ¬ (HT.sIx xs.length 0 lo = 0 ∧ HT.sIx xs.length xs.length hi = xs.length) ∧ ∀ p, H p = none → Q (.ref p) (upd H p (.tup (cutV xs lo hi)))
noncomputable def rLtT (K : PySem.W.Frag) : R2 := fun x y H Q => ∃ a b ns ms, x = .ref a ∧ y = .ref b ∧ SqT K H a (ns.map V.int) ∧ SqT K H b (ms.map V.int) ∧ Q (.bl (HT.lexLt ns ms)) H
noncomputable def rCatT (K : PySem.W.Frag) : R2 := fun x y H Q => ∃ a b xs ys, x = .ref a ∧ y = .ref b ∧ SqT K H a xs ∧ SqT K H b ys ∧ xs ≠ [] ∧ xs.length + ys.length ≤ sizeLine ∧
  (ys = [] → Q (.ref a) H) ∧ (ys ≠ [] → ∀ p, H p = none → Q (.ref p) (upd H p (.tup (xs ++ ys))))
end
end L2
namespace L2
open PySem PySem.Spec PyProof.Rows
noncomputable def ixN (n : Nat) (i : Int) : Option Nat := if 0 ≤ i then (if i < n then some i.toNat else none) else if -(n : Int) ≤ i then some (i + n).toNat else none
noncomputable def atI {α : Type} (xs : List α) (i : Int) : Option α := (ixN xs.length i).bind fun j => xs[j]?
theorem ixN_seq {n : Nat} {i : Int} {j : Nat} (h : ixN n i = some j) : seqIndex? i n = some j ∧ j < n ∧ -(n : Int) ≤ i ∧ i < n := by
  unfold ixN at h
  by_cases h0 : 0 ≤ i
  · rw [if_pos h0] at h
    by_cases h1 : i < n
    · rw [if_pos h1] at h
      have e : i.toNat = j := Option.some.inj h
      exact ⟨by rw [seqIndex_of h0 h1, e], by omega, by omega, h1⟩
    · rw [if_neg h1] at h; cases h
  · rw [if_neg h0] at h
    by_cases h1 : -(n : Int) ≤ i
    · rw [if_pos h1] at h
      have e : (i + n).toNat = j := Option.some.inj h
      exact ⟨by rw [seqIndex_neg (by omega) h1, e], by omega, h1, by omega⟩
    · rw [if_neg h1] at h; cases h
theorem j3u {α : Type} {xs : List α} {i : Int} {v : α} (h : atI xs i = some v) : ∃ j, seqIndex? i xs.length = some j ∧ xs[j]? = some v ∧ j < xs.length ∧ -(xs.length : Int) ≤ i ∧ i < xs.length := by
  unfold atI at h
  cases e : ixN xs.length i with
  | none => rw [e] at h; cases h
  | some j =>
    rw [e] at h
    obtain ⟨h1, h2, h3, h4⟩ := ixN_seq e
    exact ⟨j, h1, h, h2, h3, h4⟩
theorem j19 {α : Type} {xs : List α} {j : Nat} {v : α} (h : xs[j]? = some v) : atI xs (j : Int) = some v := by
  have hj : j < xs.length := (List.getElem?_eq_some_iff.mp h).1
  have e : ixN xs.length (j : Int) = some j := by
    unfold ixN
    rw [if_pos (by omega), if_pos (by omega)]; simp
  unfold atI; rw [e]; exact h
noncomputable def PlainIx (b : Expr) : Prop := ∀ o i, subscripted b false o i = operate [o, i] (getItem o i)
noncomputable def IxR (X : Cx) (r : R2) : Prop :=
  ∀ (value slice : Expr) (pins : List (Addr × Obj)) (s : Shared) (σ : St) (H : Hp) (x y : V) (v u : Value) (Q : VK), Inv X pins σ H s → RelV x v → RelV y u → r x y H Q →
    subscripted slice false v u = operate [v, u] (getItem v u) → wpAny (model X.prog X.w) X.A (subscriptTail value slice v u) (EP X pins σ Q) X.xe s
noncomputable def MtR (X : Cx) (id : String) (r : V → List V → Hp → VK → Prop) : Prop :=
  ∀ (pins : List (Addr × Obj)) (s : Shared) (σ : St) (H : Hp) (x : V) (xs : List V) (v : Value) (us : List Value) (Q : VK), Inv X pins σ H s → RelV x v → Vals xs us → r x xs H Q →
    wpAny (model X.prog X.w) X.A (call (.builtin id) (v :: us)) (EP X pins σ Q) X.xe s
section
variable {X : Cx} {a b : Expr} {ta tb : TE} {pos : Pos}
theorem j3v {r : R2} (hr : IxR X r) (ha : PE X a ta) (hb : PE X b tb) (hs : PlainIx b) : PE X (.Subscript a b pos) (tOp r ta tb) := by
  intro pins s σ H Q I h
  exact Subscript_ (binT ha hb I h fun v u s2 x y H2 I2 rx ry q => hr a b pins s2 σ H2 x y v u Q I2 rx ry q (hs _ _))
noncomputable def rIxL (K : PySem.W.Frag) : R2 := fun x y H Q => ∃ p xs i v, x = .ref p ∧ y = .int i ∧ SqL K H p xs ∧ atI xs i = some v ∧ Q v H
noncomputable def rIxT (K : PySem.W.Frag) : R2 := fun x y H Q => ∃ p xs i v, x = .ref p ∧ y = .int i ∧ SqT K H p xs ∧ atI xs i = some v ∧ Q v H
noncomputable def rIxS : R2 := fun x y H Q => ∃ z i c, x = .str z ∧ y = .int i ∧ z.length ≤ sizeLine ∧ atI z.cps.toList i = some c ∧ Q (.str ⟨#[c]⟩) H
theorem j5s : IxR X (rIxL X.K) := by
  intro value slice pins s σ H x y v u Q I rx ry h hs
  obtain ⟨p, xs, i, z, rfl, rfl, hq, he, q⟩ := h
  cases rx
  obtain ⟨t, rfl⟩ := ry
  obtain ⟨its, r, pl, hz⟩ := I.list hq
  obtain ⟨j, h1, h2, h3, h4, h5⟩ := j3u he
  obtain ⟨w, ew, rw'⟩ := r.get h2
  have hl := r.length
  have hn := j3c
  have fin : EP X pins σ Q w s := ⟨z, H, I, rw', q⟩
  by_cases h0 : 0 ≤ i
  · have hj : i.toNat = j := by
      rw [seqIndex_of h0 h5] at h1
      exact Option.some.inj h1
    exact item_listR pl.isList h0 (by omega) (by rw [hj]; simpa using ew) fin hs
  · have hj : (i + (its.toArray.size : Int)).toNat = j := by
      rw [seqIndex_neg (by omega) h4] at h1
      rw [List.size_toArray, ← hl]
      exact Option.some.inj h1
    exact subscriptTail_builtinR (x := w) pl.isList.typeIs slot_list_getitem.lookup
      (wpAny_getItem_list_neg (Q := fun r s' => r = w ∧ EP X pins σ Q r s') pl.isList (by omega) (by rw [List.size_toArray] <;> omega) (by omega) (by rw [hj]; simpa using ew) ⟨rfl, fin⟩) hs
theorem j5t : IxR X (rIxT X.K) := by
  intro value slice pins s σ H x y v u Q I rx ry h hs
  obtain ⟨p, xs, i, z, rfl, rfl, hq, he, q⟩ := h
  cases rx
  obtain ⟨t, rfl⟩ := ry
  obtain ⟨its, r, pl, hz⟩ := I.tuple hq
  obtain ⟨j, h1, h2, h3, h4, h5⟩ := j3u he
  obtain ⟨w, ew, rw'⟩ := r.get h2
  have hl := r.length
  have hn := j3c
  have fin : EP X pins σ Q w s := ⟨z, H, I, rw', q⟩
  exact subscriptTail_builtinR (x := w) pl.typeIs slot_tuple_getitem.lookup
    (getItem_tuple (j := j) (Q := fun r s' => r = w ∧ EP X pins σ Q r s') pl (by omega) (by omega) (by rw [List.size_toArray, ← hl]; exact h1) (by simpa using ew) ⟨rfl, fin⟩) hs
theorem ix_str : IxR X rIxS := by
  intro value slice pins s σ H x y v u Q I rx ry h hs
  obtain ⟨z, i, c, rfl, rfl, hz, he, q⟩ := h
  obtain ⟨t, rfl⟩ := rx
  obtain ⟨t', rfl⟩ := ry
  obtain ⟨j, h1, h2, h3, h4, h5⟩ := j3u he
  have hl : z.cps.toList.length = z.length := by simp [Str.length]
  rw [hl] at h1 h4 h5
  have hn := j3c
  exact tail_any (typeIs_str s z t) slot_str_getitem.lookup (getItem_str (c := c) (by
    have e1 : decide (i < -(2 ^ 63 : Int)) = false := decide_eq_false (by omega)
    have e2 : decide (i ≥ 2 ^ 63) = false := decide_eq_false (by omega)
    rw [e1, e2, Bool.or_false]) (by rw [h1]; simpa using h2) ⟨.str ⟨#[c]⟩, H, I.tok _, ⟨_, rfl⟩, q⟩) hs
noncomputable def rIx (K : PySem.W.Frag) : R2 := fun x y H Q => rIxL K x y H Q ∨ rIxT K x y H Q ∨ rIxS x y H Q
noncomputable def rSetL : V → V → V → Hp → (Hp → Prop) → Prop := fun o i v H Q => ∃ p xs k j, o = .ref p ∧ i = .int k ∧ H p = some (.lst xs) ∧ ixN xs.length k = some j ∧ Q (upd H p (.lst (xs.set j v)))
noncomputable def rSlL (K : PySem.W.Frag) : V → Option Int → Option Int → Hp → VK → Prop := fun x lo hi H Q => ∃ a xs, x = .ref a ∧ SqL K H a xs ∧ ∀ p, H p = none → Q (.ref p) (upd H p (.lst (cutV xs lo hi)))
noncomputable def j2x : V → Bool
  | .non => true
  | .bl _ => true
  | .int _ => true
  | .str _ => true
  | _ => false
noncomputable def eqV : V → V → Bool
  | .non, .non => true
  | .bl a, .bl b => a == b
  | .bl a, .int b => (if a then 1 else 0) == b
  | .int a, .bl b => a == (if b then 1 else 0)
  | .int a, .int b => a == b
  | .str a, .str b => a == b
  | _, _ => false
theorem eqAt_V {A : Around} {s : Shared} {y x : V} {u v : Value} (ry : RelV y u) (rx : RelV x v) (fy : j2x y = true) (fx : j2x x = true) : SeqAt.EqAt A s u v (eqV y x) := by
  cases y with
  | non =>
    cases ry
    cases x with
    | non => cases rx; exact SeqAt.EqAt.same _
    | bl b => cases rx; exact SeqAt.EqAt.none_bool b
    | int b => obtain ⟨t, rfl⟩ := rx; exact SeqAt.EqAt.none_int b t
    | str b => obtain ⟨t, rfl⟩ := rx; exact SeqAt.EqAt.none_str b t
    | _ => exact absurd (show false = true from fx) Bool.false_ne_true
  | bl a =>
    cases ry
    cases x with
    | non => cases rx; exact SeqAt.EqAt.bool_none a
    | bl b => cases rx; exact SeqAt.EqAt.bool_bool a b
    | int b => obtain ⟨t, rfl⟩ := rx; exact SeqAt.EqAt.bool_int a b t
    | str b => obtain ⟨t, rfl⟩ := rx; exact SeqAt.EqAt.bool_str a b t
    | _ => exact absurd (show false = true from fx) Bool.false_ne_true
  | int a =>
    obtain ⟨t', rfl⟩ := ry
    cases x with
    | non => cases rx; exact SeqAt.EqAt.int_none a t'
    | bl b => cases rx; exact SeqAt.EqAt.int_bool a t' b
    | int b => obtain ⟨t, rfl⟩ := rx; exact SeqAt.EqAt.int_int a t' b t
    | str b => obtain ⟨t, rfl⟩ := rx; exact SeqAt.EqAt.int_str a t' b t
    | _ => exact absurd (show false = true from fx) Bool.false_ne_true
  | str a =>
    obtain ⟨t', rfl⟩ := ry
    cases x with
    | non => cases rx; exact SeqAt.EqAt.str_none a t'
    | bl b => cases rx; exact SeqAt.EqAt.str_bool a t' b
    | int b => obtain ⟨t, rfl⟩ := rx; exact SeqAt.EqAt.str_int a t' b t
    | str b => obtain ⟨t, rfl⟩ := rx; exact SeqAt.EqAt.str_str a t' b t
    | _ => exact absurd (show false = true from fx) Bool.false_ne_true
  | _ => exact absurd (show false = true from fy) Bool.false_ne_true
noncomputable def eqU (x : V) (u : Value) : Bool := match u with
  | .none => eqV .non x
  | .bool b => eqV (.bl b) x
  | .int i _ => eqV (.int i) x
  | .str z _ => eqV (.str z) x
  | _ => false
theorem eqU_of {x y : V} {u : Value} (r : RelV y u) (f : j2x y = true) : eqU x u = eqV y x := by
  cases y with
  | non => cases r; rfl
  | bl b => cases r; rfl
  | int i => obtain ⟨t, rfl⟩ := r; rfl
  | str z => obtain ⟨t, rfl⟩ := r; rfl
  | _ => exact absurd (show false = true from f) Bool.false_ne_true
theorem j3w {x : V} : ∀ {xs : List V} {us : List Value}, Vals xs us → xs.all j2x = true → us.any (eqU x) = xs.any fun y => eqV y x
  | _, _, .nil, _ => rfl
  | y :: xs, u :: us, .cons r t, f => by
    rw [List.all_cons, Bool.and_eq_true] at f
    rw [List.any_cons, List.any_cons, eqU_of r f.1, j3w t f.2]
theorem j2y {A : Around} {s : Shared} {x : V} {v : Value} (rx : RelV x v) (fx : j2x x = true) : ∀ {xs : List V} {us : List Value}, Vals xs us → xs.all j2x = true → ∀ u ∈ us, SeqAt.EqAt A s u v (eqU x u)
  | _, _, .nil, _ => fun u hu => by cases hu
  | y :: xs, u :: us, .cons r t, f => fun u' hu => by
    rw [List.all_cons, Bool.and_eq_true] at f
    rcases List.mem_cons.mp hu with rfl | hu
    · rw [eqU_of r f.1]; exact eqAt_V r rx f.1 fx
    · exact j2y rx fx t f.2 u' hu
noncomputable def inV (x : V) (xs : List V) : Bool := xs.any fun y => eqV y x
noncomputable def rIn (K : PySem.W.Frag) (neg : Bool) : R2 := fun x y H Q => ∃ p xs, y = .ref p ∧ (SqL K H p xs ∨ SqT K H p xs) ∧ j2x x = true ∧ xs.all j2x = true ∧ Q (.bl (if neg then !inV x xs else inV x xs)) H
theorem j5u : OpR X (compareOp .In) (rIn X.K false) := by
  intro pins s σ H x y v u Q I rx ry h
  obtain ⟨p, xs, rfl, hq, fx, fs, q⟩ := h
  cases ry
  rcases hq with hq | hq
  · obtain ⟨its, r, pl, hz⟩ := I.list hq
    refine SeqAt.in_listAt (eqU x) pl.isList (fun w hw => j2y rx fx r fs w (by simpa using hw)) ⟨.bl _, H, I, rfl, ?_⟩
    rw [show its.toArray.any (eqU x) = its.any (eqU x) by simp, j3w r fs]
    exact q
  · obtain ⟨its, r, pl, hz⟩ := I.tuple hq
    refine SeqAt.in_tupleAt (eqU x) pl (fun w hw => j2y rx fx r fs w (by simpa using hw)) ⟨.bl _, H, I, rfl, ?_⟩
    rw [show its.toArray.any (eqU x) = its.any (eqU x) by simp, j3w r fs]
    exact q
theorem j12 : j1p X (.builtin "len") (fun xs H Q => ∃ p ys, xs = [.ref p] ∧ (SqL X.K H p ys ∨ SqT X.K H p ys) ∧ Q (.int ys.length) H) := by
  intro pins s σ H xs us Q I r h
  obtain ⟨p, ys, rfl, hq, q⟩ := h
  obtain ⟨u, rfl, rx⟩ := j4w r
  cases rx
  have hn := j3c
  rcases hq with hq | hq
  · obtain ⟨its, r', pl, hz⟩ := I.list hq
    have hlen := r'.length
    exact Calls.call_len_list pl.isList (by simp only [List.size_toArray] <;> omega) ⟨.int ys.length, H, I.tok _, ⟨s.toks + 1, by rw [List.size_toArray, hlen]⟩, q⟩
  · obtain ⟨its, r', pl, hz⟩ := I.tuple hq
    have hlen := r'.length
    exact len_tuple pl (by simp only [List.size_toArray] <;> omega) ⟨.int ys.length, H, I.tok _, ⟨s.toks + 1, by rw [List.size_toArray, hlen]⟩, q⟩
theorem j0t : j1p X (.builtin "len") (fun xs H Q => ∃ z, xs = [.str z] ∧ z.length ≤ sizeLine ∧ Q (.int z.length) H) := by
  intro pins s σ H xs us Q I r h
  obtain ⟨z, rfl, hz, q⟩ := h
  obtain ⟨u, rfl, t, rfl⟩ := j4w r
  have hn := j3c
  exact len_str (by omega) ⟨.int z.length, H, I.tok _, ⟨_, rfl⟩, q⟩
theorem j3i : j1p X (.type "list") (fun xs H Q => ∃ p ys, xs = [.ref p] ∧ (SqL X.K H p ys ∨ SqT X.K H p ys) ∧ ∀ l, H l = none → Q (.ref l) (upd H l (.lst ys))) := by
  intro pins s σ H xs us Q I r h
  obtain ⟨p, ys, rfl, hq, q⟩ := h
  obtain ⟨u, rfl, rx⟩ := j4w r
  cases rx
  have fin : ∀ (its : List Value), Vals ys its → ys.length ≤ sizeLine → ∀ (h' : Heap) (c' : Nat), (∀ b o', s.heap.get? b = some o' → h'.get? b = some o') →
      h'.get? s.heap.objs.size = some { cls := .type "list", dict := none, data := .seq its.toArray c', slots := #[] } → EP X pins σ Q (.ref s.heap.objs.size) { s with heap := h' } := fun its r' hz h' c' kp e =>
    ⟨.ref s.heap.objs.size, _, I.laid (t' := s.toks) kp (Nat.le_refl _) (show j0v X.prog X.w _ h' _ (.lst ys) from ⟨hz, its, c', r', e⟩), rfl, q _ (I.hok.fresh (Nat.le_refl _))⟩
  rcases hq with hq | hq
  · obtain ⟨its, r', pl, hz⟩ := I.list hq
    have hlen := r'.length
    obtain ⟨o, ho, hc, n, hd⟩ := pl.isList
    exact call_list_seq p (.inl rfl) ho hc hd (fun h' c' kp e => fin its r' hz h' c' kp e) (by simp only [List.size_toArray] <;> omega)
  · obtain ⟨its, r', pl, hz⟩ := I.tuple hq
    have hlen := r'.length
    obtain ⟨o, ho, hc, n, hd⟩ := pl
    exact call_list_seq p (.inr rfl) ho hc hd (fun h' c' kp e => fin its r' hz h' c' kp e) (by simp only [List.size_toArray] <;> omega)
noncomputable def tyV (K : PySem.W.Frag) (T : String) (x : V) (H : Hp) : Prop := match x with
  | .str _ => T = "str"
  | .int _ => T = "int"
  | .ref p => (T = "list" ∧ ∃ xs, SqL K H p xs) ∨ (T = "tuple" ∧ ∃ o, K.lookup p = some o ∧ o.cls = .type "tuple" ∧ o.dict = none) ∨
      (T = "dict" ∧ ((∃ kvs, H p = some (.dK kvs)) ∨ ∃ kvs, H p = some (.dT kvs))) ∨ (T = "set" ∧ ∃ S n, H p = some (.set S n))
  | _ => False
theorem tyV_is {pins : List (Addr × Obj)} {σ : St} {H : Hp} {s : Shared} {T : String} {x : V} {v : Value} (I : Inv X pins σ H s) (r : RelV x v) (ty : tyV X.K T x H) :
    s.TypeIs v T ∧ ∀ a, v = .ref a → ∃ ob, s.heap.get? a = some ob ∧ ob.dict = none := by
  cases x with
  | str z =>
    obtain ⟨t, rfl⟩ := r
    cases (show T = "str" from ty)
    exact ⟨typeIs_str s z t, fun _ e => nomatch e⟩
  | int i =>
    obtain ⟨t, rfl⟩ := r
    cases (show T = "int" from ty)
    exact ⟨typeIs_int s i t, fun _ e => nomatch e⟩
  | ref p =>
    cases r
    rcases ty with ⟨rfl, xs, hq⟩ | ⟨rfl, o, hk, hc, hd⟩ | ⟨rfl, hk⟩ | ⟨rfl, S, n, hk⟩
    · obtain ⟨its, _, pl, _⟩ := I.list hq
      refine ⟨pl.isList.typeIs, fun a e => ?_⟩
      cases e
      obtain ⟨o, n, e, c, hd, _⟩ := pl
      exact ⟨o, e, hd⟩
    · refine ⟨⟨o, I.kIn p o hk, hc⟩, fun a e => ?_⟩
      cases e
      exact ⟨o, I.kIn _ o hk, hd⟩
    · have z : ∃ o, s.heap.get? p = some o ∧ o.ExactDict := by
        rcases hk with ⟨kvs, hk⟩ | ⟨kvs, hk⟩
        · obtain ⟨_, _, _, _, o, _, _, e, ex, _⟩ := I.hok p _ hk
          exact ⟨o, e, ex⟩
        · obtain ⟨_, _, _, _, o, _, _, e, ex, _⟩ := I.hok p _ hk
          exact ⟨o, e, ex⟩
      obtain ⟨o, e, ex⟩ := z
      refine ⟨⟨o, e, ex.1⟩, fun a e2 => ?_⟩
      cases e2
      exact ⟨o, e, ex.2.1⟩
    · obtain ⟨o, _, _, _, e, ex, _⟩ := I.hok p _ hk
      refine ⟨⟨o, e, ex.1⟩, fun a e2 => ?_⟩
      cases e2
      exact ⟨o, e, ex.2.1⟩
  | _ => exact False.elim ty
noncomputable def tBM0 (K : PySem.W.Frag) (T : String) (r : V → List V → Hp → VK → Prop) (to : TE) : TE := fun σ H Q => to σ H fun x H1 => tyV K T x H1 ∧ r x [] H1 Q
noncomputable def tBM (K : PySem.W.Frag) (T : String) (r : V → List V → Hp → VK → Prop) (to : TE) (t : TA) : TE := fun σ H Q => to σ H fun x H1 => tyV K T x H1 ∧ t σ H1 fun xs H2 => r x xs H2 Q
variable {o e : Expr} {es : List Expr} {to : TE} {t : TA} {name : Str} {apos cpos : Pos} {T id : String} {r : V → List V → Hp → VK → Prop}
theorem j3j (pa : PlainAttrs T) (slot : Slot T name id) (hty : typeOf (.builtin id) = pure (.type "method_descriptor")) (hm : MtR X id r) (ho : PE X o to) (ha : PA X (e :: es) t)
    (hbase : attributeBase o name X.env (eval o X.env) = eval o X.env := by rfl)
    (hfew : ((backTo cpos (starEach (e :: es) X.env)).all (fun x => !x.1) && (backToKw cpos (keywordEach [] X.env)).all (fun x => x.1.isSome)
      && decide ((e :: es).length + ([] : List Keyword).length + (if ([] : List Keyword).isEmpty then 0 else 1) < 30)) = true := by rfl)
    (hline : (apos.endLine == cpos.line) = true := by rfl) (hs : starEach (e :: es) X.env = (false, eval e X.env) :: starEach es X.env := by rfl) (hplain : (backTo cpos (starEach es X.env)).any (·.1) = false := by rfl) :
    PE X (.Call (.Attribute o name apos) (e :: es) [] cpos) (tBM X.K T r to t) := by
  intro pins s σ H Q I h
  refine wpAny_Call_method_late hbase hfew hline rfl (thn (ho pins s σ H _ I h) fun v s1 ⟨x, H1, I1, r1, ty, q1⟩ => ?_)
  obtain ⟨h1, h2⟩ := tyV_is I1 r1 ty
  refine ⟨T, id, pa, slot, hty, h1, h2, ?_⟩
  have hA := ha cpos pins s1 σ H1 _ I1 q1
  rw [hs] at hA ⊢
  refine Calls.callWith_builtin (by show (false || (backTo cpos (starEach es X.env)).any (·.1)) = false; rw [hplain] <;> rfl) (Calls.evalArgs_plain ?_)
  exact thn hA fun us s2 ⟨vs, H2, I2, r2, q2⟩ => hm pins s2 σ H2 x vs v us Q I2 r1 r2 q2
/- xs.append(e), list.index on a module's tuple .. are MtR facts of 06m -/
end
end L2
namespace L2
open PySem PySem.Spec PyProof.Rows
noncomputable def MtM (X : Cx) (id : String) (r : V → List V → Hp → VK → Prop) : Prop :=
  ∀ (pins : List (Addr × Obj)) (s : Shared) (σ : St) (H : Hp) (x : V) (xs : List V) (v : Value) (us : List Value) (Q : VK), Inv X pins σ H s → RelV x v → Vals xs us → r x xs H Q →
    wpAny (model X.prog X.w) X.A (call (.builtin id) (v :: us)) (EP X pins σ Q) X.xe s
theorem Vals.one : ∀ {x : V} {us : List Value}, Vals [x] us → ∃ u, us = [u] ∧ RelV x u
  | _, _, .cons r .nil => ⟨_, rfl, r⟩
section
variable {X : Cx} {pins : List (Addr × Obj)} {σ : St} {H : Hp} {s : Shared} {l b : Addr} {xs ys zs : List V}
theorem Inv.lset {its its' : List Value} {n : Nat} {f : Array Value → Array Value} {t' : Nat} (I : Inv X pins σ H s) (hH : H l = some (.lst xs))
    (e : s.heap.get? l = some { cls := .type "list", data := .seq its.toArray n }) (hf : f its.toArray = its'.toArray) (hv : Vals ys its') (hz : ys.length ≤ sizeLine) :
    Inv X pins σ (upd H l (.lst ys)) { s with heap := s.heap.update l (Obj.mapSeq f), toks := t' } := by
  have q := PySem.IsL.update e f
  rw [hf] at q
  refine I.write (x := l) (e := l) (by rw [hH]; exact trivial) (.inl rfl) (fun b' u hb hu => (Heap.get?_update_other s.heap (Obj.mapSeq f) (Ne.symm hb)).trans hu) ⟨_, q⟩ ?_
  exact ⟨hz, its', _, hv, q⟩
theorem Inv.lnew {its : List Value} {t' : Nat} (I : Inv X pins σ H s) (hv : Vals ys its) (hz : ys.length ≤ sizeLine) :
    Inv X pins σ (upd H s.heap.objs.size (.lst ys)) { s with heap := s.heap.push { cls := .type "list", data := .seq its.toArray }, toks := t' } :=
  I.laid (fun _ _ q => Heap.get?_push_of_some _ q) (Nat.le_refl _) ⟨hz, its, 0, hv, Heap.get?_push_size _ rfl⟩
theorem Inv.fresh (I : Inv X pins σ H s) : H s.heap.objs.size = none := I.hok.fresh (Nat.le_refl _)
theorem Inv.lstM (I : Inv X pins σ H s) (hH : H l = some (.lst xs)) : xs.length ≤ sizeLine ∧ ∃ (its : List Value) (n : Nat), Vals xs its ∧ xs.length = its.length ∧ s.heap.get? l = some { cls := .type "list", data := .seq its.toArray n } := by
  obtain ⟨z, its, n, r, e⟩ := I.hok l _ hH
  exact ⟨z, its, n, r, r.length, e⟩
end
section
variable {X : Cx}
noncomputable def rAppend : V → List V → Hp → VK → Prop := fun x vs H Q => ∃ l xs y, x = .ref l ∧ vs = [y] ∧ H l = some (.lst xs) ∧ xs.length < sizeLine ∧ Q .non (upd H l (.lst (xs ++ [y])))
theorem j2a : MtM X "list.append" rAppend := by
  intro pins s σ H x vs v us Q I rx rv h
  obtain ⟨l, xs, y, rfl, rfl, hH, hz, q⟩ := h
  cases rx
  obtain ⟨u, rfl, ru⟩ := rv.one
  obtain ⟨z, its, n, r, hl, e⟩ := I.lstM hH
  refine call_meets F.slot_list_append ⟨_, e, rfl⟩ F.entry_list_append (F.args_list_append_2 _ _) (PySem.list_append l its.toArray n u (by rw [List.size_toArray]; omega)) ⟨e, ?_⟩
  refine ⟨.non, _, I.lset (its' := its ++ [u]) hH e (by simp) (r.append (.cons ru .nil)) ?_, rfl, q⟩
  rw [List.length_append, List.length_singleton]
  omega
noncomputable def rExtend : V → List V → Hp → VK → Prop := fun x vs H Q => ∃ l b xs zs, x = .ref l ∧ vs = [.ref b] ∧ H l = some (.lst xs) ∧ H b = some (.lst zs) ∧ xs.length + zs.length ≤ sizeLine ∧ Q .non (upd H l (.lst (xs ++ zs)))
noncomputable def rPop : V → List V → Hp → VK → Prop := fun x vs H Q => ∃ l xs y, x = .ref l ∧ vs = [] ∧ H l = some (.lst xs) ∧ xs[xs.length - 1]? = some y ∧ Q y (upd H l (.lst xs.dropLast))
noncomputable def rPopAt : V → List V → Hp → VK → Prop := fun x vs H Q => ∃ l xs i k y, x = .ref l ∧ vs = [.int i] ∧ H l = some (.lst xs) ∧ -(2 ^ 63) ≤ i ∧ i < 2 ^ 63 ∧ seqIndex? i xs.length = some k ∧ xs[k]? = some y ∧ Q y (upd H l (.lst (xs.eraseIdx k)))
noncomputable def rReverse : V → List V → Hp → VK → Prop := fun x vs H Q => ∃ l xs, x = .ref l ∧ vs = [] ∧ H l = some (.lst xs) ∧ Q .non (upd H l (.lst xs.reverse))
noncomputable def rClear : V → List V → Hp → VK → Prop := fun x vs H Q => ∃ l xs, x = .ref l ∧ vs = [] ∧ H l = some (.lst xs) ∧ Q .non (upd H l (.lst []))
noncomputable def rCat : R2 := fun x y H Q => ∃ l b xs zs, x = .ref l ∧ y = .ref b ∧ H l = some (.lst xs) ∧ H b = some (.lst zs) ∧ xs.length + zs.length ≤ sizeLine ∧ ∀ p, H p = none → Q (.ref p) (upd H p (.lst (xs ++ zs)))
theorem j5v : OpR X (binaryOp .Add) rCat := by
  intro pins s σ H x y v u Q I rx ry h
  obtain ⟨l, b, xs, zs, rfl, rfl, hH, hB, hz, q⟩ := h
  cases rx
  cases ry
  obtain ⟨z, its, n, r, hl, e⟩ := I.lstM hH
  obtain ⟨z2, its2, n2, r2, hl2, e2⟩ := I.lstM hB
  refine PySem.P.add_list e e2 ?_ (by rw [List.size_toArray, List.size_toArray]; omega)
  have ea : its.toArray ++ its2.toArray = (its ++ its2).toArray := by simp
  rw [ea]
  exact ⟨.ref _, _, I.lnew (t' := s.toks) (r.append r2) (by rw [List.length_append]; omega), rfl, q _ I.fresh⟩
noncomputable def rRep : R2 := fun x y H Q => ∃ l k xs, x = .ref l ∧ y = .int k ∧ H l = some (.lst xs) ∧ -(2 ^ 63) ≤ k ∧ k < 2 ^ 63 ∧ xs.length * k.toNat ≤ sizeLine ∧
  ∀ p, H p = none → Q (.ref p) (upd H p (.lst (List.replicate k.toNat xs).flatten))
end
section
variable {prog : Program} {w : World} {A : Around} {E : Value → Shared → Prop} {s : Shared}
set_option maxRecDepth 100000 in
end
section
variable {X : Cx}
end
end L2
namespace Att
open PySem PySem.W PySem.Calls PyProof.Rows
theorem j2b {P : Params} {h : Heap} : ∀ (ns : List Int) (vs : List Value), WellAll P h vs (ns.map WData.int) → IntsAre vs ns := by
  intro ns
  induction ns with
  | nil =>
    intro vs w
    rw [List.map_nil] at w
    cases w
    exact .nil
  | cons n ns ih =>
    intro vs w
    rw [List.map_cons] at w
    cases w with
    | cons a b =>
      cases a
      exact .cons _ _ (ih _ b)
theorem j5w {l : OpenLaw} {n : Nat} (hn : l.most = some n) {P : Params} {h : Heap} {args : List WData} {vals : List Value}
    (hpre : l.row.toRowW.claim.pre args = true) (hwl : WellAll P h vals args) :
    ∃ a vs ns, vals = [Value.ref a] ∧ args = [WData.list (ns.map WData.int)] ∧ h.get? a = some { cls := .type "list", data := .seq vs.toArray } ∧ IntsAre vs ns ∧ ns.length ≤ n := by
  have hsh : WShape.hasAll [] args [.list .int] = true := (pre_splitW hpre).1
  have hc : l.pre.holds [] { args := args } = true := (pre_splitW hpre).2
  obtain ⟨d, r, rfl, h1, h2⟩ := hasAllW_cons hsh
  obtain rfl := hasAllW_nil h2
  obtain ⟨xs, rfl, h3⟩ := hasW_list h1
  obtain ⟨ns, rfl⟩ := items_int h3
  have hlen : ns.length ≤ n := by
    unfold OpenLaw.pre at hc
    have h4 : (WTm.not (.lt (.lit (.int (n : Int))) (.len (.arg 0)))).holds [] { args := [.list (ns.map .int)] } = true := by
      have h4 := (holds_andW hc).1
      rw [hn] at h4
      exact h4
    have h5 := condW_of h4 (w_not (w_lt w_lit (w_len_list (w_arg rfl))))
    rw [List.length_map] at h5
    refine Nat.le_of_not_lt fun q => ?_
    have q' : (n : Int) < ((ns.length : Nat) : Int) := by omega
    first
      | (rw [decide_eq_true q'] at h5; exact absurd h5 (by decide))
      | (simp at h5; omega)
  cases hwl with
  | cons w1 w2 =>
    cases w2
    cases w1 with
    | list ho hall => exact ⟨_, _, ns, rfl, rfl, ho, j2b ns _ hall, hlen⟩
theorem j5x (l : OpenLaw) (args : List WData) : l.row.toRowW.claim.post args (.bool true) args = true :=
  postW_of (r := l.row.toRowW) (X := (true == true))
    (show WShape.has [] (.bool true) .bool = true by first | rfl | decide | simp [WShape.has, WShape.arms, WShape.armsAll])
    (show (WTm.eq .res (.lit (.bool true))).value [] { args := args, res := some (.bool true), after := args } = some (.bool (true == true)) from w_eq_bool (w_res rfl) w_lit) rfl
theorem attach_call {l : OpenLaw} {n : Nat} {q : Program} {loose : List Str} {XP : (Str → Option Value) → Heap → Prop} {YP : World → Heap → Prop} {d : DefRec}
    (hn : l.most = some n) (hdf : d.params.defaults = [])
    (call : ∀ (w : World) (s₀ s₁ : Shared) (mg mb : Str → Option Value) (fa : Addr) (o : Obj) (pm cd doc : Value) (a : Addr) (vs : List Value) (ns : List Int),
      Ground q loose [] XP w s₀ mg mb s₁.heap → YP w s₁.heap →
      s₁.heap.get? fa = some o → o.data = .func (docDef d.name d.params d.body d.scope pm cd doc) → s₁.heap.CodeRec cd d.name → mg d.name = some (.ref fa) →
      s₁.heap.get? a = some { cls := .type "list", data := .seq vs.toArray } → IntsAre vs ns → ns.length ≤ n → s₁.gens = #[] →
      codeAny (model l.prog w) callerA (.call (.ref fa) ⟨[.ref a], []⟩) (fun r s' => r = .ok (.ret (.bool true)) ∧ OldK s₁.heap s'.heap ∧ s'.os = s₁.os ∧ AllBare s'.gens) s₁) :
    WalkO q loose XP YP l.row.toRowW d [] (fun f vs => PySem.call f vs) := by
  intro w s₀ s₁ mg mb G Y fa o pm cd doc dV kV ho hd hcd hD hmg hg args vals as hpre hlay hrd hwl hlo
  obtain rfl : dV = .none := Dflts.none hD hdf
  obtain rfl : kV = .none := Dflts.noKw hD
  obtain ⟨a, vs, ns, rfl, rfl, hobj, hints, hlen⟩ := j5w hn hpre hwl
  refine enter_call (codeAny_mono (call w s₀ s₁ mg mb fa o pm cd doc a vs ns G Y ho (fd_plain hd) hcd hmg hobj hints hlen hg) fun r s' hq => ?_)
  obtain ⟨rfl, h2, h3, h4⟩ := hq
  exact ⟨.inl ⟨.bool true, .bool true, [], rfl, fun _ => rfl, .bool true, j5x l _, fun _ => ⟨List.Pairwise.nil, fun _ hm => (nomatch hm)⟩⟩, h2, h3, h4⟩
section
variable {prog : Program} {w : World} {A : Around} {E : Value → Shared → Prop} {s : Shared} {K : Frag}
noncomputable def noObjs (h : Heap) : Heap := { h with objs := #[] }
noncomputable def ledger (h : Heap) (L d : Addr) : List (Addr × Obj) := (List.range h.objs.size).filterMap fun a => if a = L ∨ a = d then none else (h.get? a).map fun o => (a, o)
end
end Att
namespace L2
open PySem PySem.Spec PyProof.Rows
theorem j3k : ∀ {vs : List Value} {ns : List Int}, IntsAre vs ns → Vals (ns.map V.int) vs
  | _, _, .nil => .nil
  | _, _, .cons n t h => .cons ⟨t, rfl⟩ (j3k h)
noncomputable def Only (H : Hp) : Prop := ∀ b, H b = none ∨ ∃ o xs, H b = some (.frz o (.lst xs))
theorem law_call {P : Program} {w : World} {K : PySem.W.Frag} {mg mb : Str → Option Value} {CX : CXT} {k : Nat} {fa a : Addr} {fd : FuncData} {x : Str} {sp : Sp} {s₁ : Shared} {vs : List Value} {ns : List Int}
    (KX : K.In s₁.heap) (hns : s₁.heap.Ns mainGlobals mg) (hb : s₁.heap.Ns builtinsNs mb) (hbb : ∀ x : Str, x ≠ "__name__" → mb x = bootBuiltins x) (hlim : s₁.heap.NoLimit) (hg : s₁.gens = #[])
    (ha : s₁.heap.get? a = some { cls := .type "list", data := .seq vs.toArray }) (hi : IntsAre vs ns) (hl : ns.length ≤ sizeLine) (hr : Room k callerA)
    (F : ∀ base : Heap, K.In base → base.Ns mainGlobals mg → FnOk P w K mg base CX k fa fd [x] sp) (hbind : ∀ (s : Shared) (u : Value), BindsTo s fd ⟨[u], []⟩ [(x, u)])
    (hsp : ∀ H : Hp, Only H → SqL K H a (ns.map V.int) → sp [.ref a] H (fun v _ => v = .bl true) fun _ _ _ => False)
    (hCX : ∀ H e s', CX [] H s₁ (fun _ _ _ => False) e s' → False) :
    codeAny (model P w) callerA (.call (.ref fa) ⟨[.ref a], []⟩) (fun r s' => r = .ok (.ret (.bool true)) ∧ OldK s₁.heap s'.heap ∧ s'.os = s₁.os ∧ AllBare s'.gens) s₁ := by
  have rv := j3k hi
  have lenV := hi.length
  have core : ∀ H : Hp, Only H → SqL K H a (ns.map V.int) → HOk P w H s₁.heap → (∀ b, H b ≠ none → b = a) → (H a ≠ none → K.lookup a = none) →
      codeAny (model P w) callerA (.call (.ref fa) ⟨[.ref a], []⟩) (fun r s' => r = .ok (.ret (.bool true)) ∧ OldK s₁.heap s'.heap ∧ s'.os = s₁.os ∧ AllBare s'.gens) s₁ := by
    intro H hO hS hok hA hK
    have base_of : ∀ {b : Addr} {o : Obj}, s₁.heap.get? b = some o → H b = none → (hidT s₁.heap H).get? b = some o := fun e n => hidT_get e n
    have noA : ∀ {b : Addr} {o : Obj} {es : Array DictEntry} {ep : Nat}, s₁.heap.get? b = some o → o.data = .dict es ep → H b = none := fun {b o es ep} e d => by
      cases q : H b with
      | none => rfl
      | some u =>
        have e' : b = a := hA b (by rw [q]; simp)
        subst e'
        rw [ha] at e; cases e
        have d' : Data.seq vs.toArray _ = Data.dict es ep := d
        cases d'
    have nsK : ∀ {b : Addr} {m : Str → Option Value}, s₁.heap.Ns b m → (hidT s₁.heap H).Ns b m := fun {b m} ⟨o, es, ep, e, d, r⟩ => ⟨o, es, ep, base_of e (noA e d), d, r⟩
    have hKb : K.In (hidT s₁.heap H) := fun b o e => base_of (KX b o e) (by
      cases q : H b with
      | none => rfl
      | some u =>
        have e' : b = a := hA b (by rw [q]; simp)
        subst e'
        rw [hK (by rw [q]; simp)] at e; cases e)
    have hM : Mod K mg (hidT s₁.heap H) := ⟨hKb, nsK hns, ⟨mb, nsK hb, hbb⟩, let ⟨mc, h1, h2⟩ := hlim; ⟨mc, nsK h1, h2⟩⟩
    have e0 : Env0 P w K mg (hidT s₁.heap H) callerA [] s₁ H := ⟨rfl, hM, fun b o e => of_hidT e, Nat.le_of_eq (j59 _ _), trivial, fun b hb => absurd (show b ∈ ([] : List Addr) from hb) (by simp), hok, .of_eq hg⟩
    refine codeAny_mono ((F _ hKb (nsK hns)).run callerA [] s₁ H ⟨[.ref a], []⟩ [.ref a] [.ref a] _ _ hr e0 (hbind s₁ (.ref a)) (.cons rfl .nil) (hsp H hO hS)) fun r s' h => ?_
    cases r with
    | error e => exact (hCX H e s' h).elim
    | ok fl =>
      cases fl with
      | next => exact False.elim h
      | brk => exact False.elim h
      | cont => exact False.elim h
      | ret u =>
        obtain ⟨v, H', os, bare, un, hok', r', q⟩ := h
        have q' : v = .bl true := q
        subst q'
        obtain rfl : u = Value.bool true := r'
        refine ⟨rfl, OldK.of_keep fun b o e => ?_, os, bare⟩
        cases q : H b with
        | none => exact un.keep b o e q (by intro z; exact absurd (show b ∈ ([] : List Addr) from z) (by simp)) (by simp)
        | some u =>
          rcases hO b with z | ⟨ob, xs, z⟩
          · rw [q] at z; cases z
          · have z2 := un.frzs b ob _ z
            obtain ⟨e1, _⟩ := hok b _ z
            obtain ⟨e2, _⟩ := hok' b _ z2
            rw [e] at e1; cases e1
            exact e2
  cases hk : K.lookup a with
  | some o =>
    have e := KX a o hk
    rw [ha] at e
    cases e
    refine core (fun _ => none) (fun _ => .inl rfl) (.inr ⟨_, vs.toArray, _, hk, rfl, rfl, rfl, by rw [List.size_toArray, lenV]; exact hl, by simpa using rv⟩) (fun b u z => by have z' : (none : Option HO) = some u := z; cases z') (fun b z => absurd rfl z) fun z => absurd rfl z
  | none =>
    refine core (fun b => if b = a then some (.frz { cls := .type "list", data := .seq vs.toArray } (.lst (ns.map V.int))) else none) (fun b => ?_) (.inl (.inr ⟨{ cls := .type "list", data := .seq vs.toArray }, if_pos rfl⟩)) (fun b u z => ?_) (fun b z => ?_) fun _ => hk
    · by_cases hb : b = a
      · exact .inr ⟨_, _, if_pos hb⟩
      · exact .inl (if_neg hb)
    · by_cases hb : b = a
      · have z' := (if_pos hb).symm.trans z
        cases z'
        subst hb
        exact ⟨ha, by rw [List.length_map]; exact hl, vs, _, rv, ha⟩
      · have z' := (if_neg hb).symm.trans z
        cases z'
    · by_cases hb : b = a
      · exact hb
      · exact absurd (if_neg hb) z
end L2
namespace L2
open PySem PySem.Spec PyProof.Rows
abbrev KOf {K : PySem.W.Frag} {h : Heap} (_ : K.In h) : PySem.W.Frag := K
theorem j5y {l : PySem.W.OpenLaw} {n k : Nat} {q : Program} {loose : List Str} {XP : (Str → Option Value) → Heap → Prop} {YP : World → Heap → Prop} {d : DefRec} {K : Params → PySem.W.Frag} {CX : World → CXT} {sp : World → Sp} {x : Str}
    (hn : l.most = some n) (hn2 : n ≤ sizeLine) (hdf : d.params.defaults = []) (hr : Room k callerA)
    (hY : ∀ (w : World) (h : Heap), YP w h → (K w.params).In h)
    (F : ∀ (w : World) (mg : Str → Option Value) (fa : Addr) (h : Heap), (K w.params).In h → h.Ns mainGlobals mg → mg d.name = some (.ref fa) →
      ∃ fd : FuncData, (∀ (s : Shared) (u : Value), BindsTo s fd ⟨[u], []⟩ [(x, u)]) ∧
        ∀ base : Heap, (K w.params).In base → base.Ns mainGlobals mg → FnOk l.prog w (K w.params) mg base (CX w) k fa fd [x] (sp w))
    (hsp : ∀ (w : World) (H : Hp) (a : Addr) (ns : List Int), ns.length ≤ n → Only H → SqL (K w.params) H a (ns.map V.int) → sp w [.ref a] H (fun v _ => v = .bl true) fun _ _ _ => False)
    (hCX : ∀ (w : World) (H : Hp) (s : Shared) (e : Value) (s' : Shared), CX w [] H s (fun _ _ _ => False) e s' → False) :
    PySem.W.WalkO q loose XP YP l.row.toRowW d [] (fun f vs => PySem.call f vs) := by
  refine Att.attach_call hn hdf fun w s₀ s₁ mg mb fa o pm cd doc a vs ns G Y ho hd hcd hmg hobj hints hlen hg => ?_
  have KX := hY w _ Y
  obtain ⟨fd, hb, hF⟩ := F w mg fa _ KX G.T.g hmg
  exact law_call KX G.T.g G.T.b G.T.builtins G.T.nolimit hg hobj hints (Nat.le_trans hlen hn2) hr hF hb (fun H hO hS => hsp w H a ns hlen hO hS) fun H e s' => hCX w H s₁ e s'
end L2
/- THE LAST THEOREM (shape; LID, My.* are yours):
   My.Adr: a structure of the addresses that your layer names (classes, functions); My.Txt K t: a structure (Prop) of the equations over K;
   My.txt_mk : {K} {implicit addresses ..} (e1 : nsIn K mainGlobals "law" = some (some (.ref f))) (e2 : K.lookup f = some ⟨oc, od, .func (fnOf "law" "law" params body scope dV kV doc pm an cdv ct), sl⟩) (e3 : codeIn K cdv "law" = true) .. : ∃ t, My.Txt K t
set_option maxRecDepth 100000 in
set_option maxHeartbeats 0 in
theorem PySem.Challenge.cw_LID_holds : PySem.Challenge.rw_LID.Holds := by
  w_on; o_law; k_head; (case hw => w_witness2)
  k_fill
  refine L2.j5y (l := PySem.Challenge.rw_LID) (n := 63) (k := 40) (x := "script") (CX := fun w => ..) (sp := fun _ => My.sp_law) rfl (by decide) rfl ⟨rfl, by decide, by decide⟩ (fun w h Y => PySem.W.kIn_of Y) ?F ?S ?C
  case F =>
    intro w mg fa h KX G hmg
    have T : ∃ t, My.Txt (L2.KOf KX) t := by
      dsimp only [L2.KOf]                          -- K must stand as «<heap const> w.params» for k_is
      refine' My.txt_mk ?e1 ?e2 ?e3 ..
      (case e1 => PySem.W.k_is)                    -- in the order: a name -> its address -> its object -> its parts
      (case e2 => PySem.W.k_is)
      ..
    obtain ⟨t, T⟩ := T
    have e0 := hmg.symm.trans (PySem.W.mg_of KX G T.law)
    cases e0                                       -- fa is the law's own address
    exact ⟨_, fun s u => .of_eq rfl, fun base kb nb => My.law_fn T kb nb⟩     -- if «.of_eq rfl» comes too early: refine' ⟨_, ?b, fun base kb nb => My.law_fn T kb nb⟩; exact fun s u => .of_eq rfl
  case S => exact fun w H a ns hl hO hS => ..
  case C => exact ..
(the tactic k_is has no namespace: write k_is) -/
namespace L2
open PySem PySem.Spec PyProof.Rows
noncomputable def inClass (s : Stmt) (j : Nat) : Stmt := match s with
  | .ClassDef _ _ _ body _ _ _ _ _ _ _ => body.getD j (.Pass ⟨0, 0, 0, 0⟩)
  | _ => .Pass ⟨0, 0, 0, 0⟩
noncomputable def j1a (s : Stmt) : Arguments := match s with
  | .FunctionDef _ a _ _ _ _ _ _ _ _ => a
  | _ => { posonlyargs := [], args := [], vararg := none, kwonlyargs := [], kw_defaults := [], kwarg := none, defaults := [] }
noncomputable def j0x (s : Stmt) : List Stmt := match s with
  | .FunctionDef _ _ b _ _ _ _ _ _ _ => b
  | _ => []
noncomputable def j03 (s : Stmt) : Scope := match s with
  | .FunctionDef _ _ _ _ _ _ sc _ _ _ => sc
  | _ => { kind := .function, names := [], isGenerator := false, isCoroutine := false }
abbrev CX0 : CXT := fun _ _ _ _ _ _ => False
abbrev E0 : XK := fun _ _ _ => False
theorem pass0 {X : Cx} : j1t CX0 X E0 := fun _ _ _ _ _ _ _ h => h.elim
structure Fun (K : PySem.W.Frag) (x qual : Str) (st : Stmt) (f : Addr) (fd : FuncData) : Prop where
  ex : ∃ (oc : Value) (od : Option Addr) (kV doc pm : Value) (an : Option Addr) (cdv ct : Value) (osl : Array (Option Value)),
    fd = PySem.W.fnOf x qual (j1a st) (j0x st) (j03 st) .none kV doc pm an cdv ct ∧ K.lookup f = some ⟨oc, od, .func fd, osl⟩ ∧ PySem.W.codeIn K cdv qual = true
  kp : PySem.W.keepIn K (.ref f) = true
section
variable {P : Program} {w : World} {K : PySem.W.Frag} {mg : Str → Option Value} {base : Heap}
theorem Fun.ok {x qual : Str} {st : Stmt} {f : Addr} {fd : FuncData} {N ps : List Str} {k : Nat} {sp : Sp} (F : Fun K x qual st f fd) (S : FnScope N ps (j03 st)) (len : ∀ vs H Q E, sp vs H Q E → vs.length = ps.length)
    (hbody : ∀ (cdv : Value) (A : Around) (outer : List Env) (s : Shared) (H : Hp) (vs : List V) (Q : VK) (E : XK), Room k (A.deeper (envOfC qual (j03 st) s.heap.objs.size f cdv)) → sp vs H Q E →
      ∃ t, PSs (cxOf CX0 P w K mg base N qual (j03 st) f cdv A outer s H E).nox (j0x st) t ∧ t { nx := fun _ H' => Q .non H', rt := Q } (j2w N vs) H) : FnOk P w K mg base CX0 (k + 1) f fd ps sp := by
  obtain ⟨oc, od, kV, doc, pm, an, cdv, ct, osl, rfl, lk, hcd⟩ := F.ex
  refine fn_of lk hcd S len fun A outer s H vs Q E hr hsp => ?_
  obtain ⟨t, h, q⟩ := hbody cdv A outer s H vs Q E hr hsp
  exact ⟨t, h.nox, q⟩
theorem Fun.binds {x qual : Str} {st : Stmt} {f : Addr} {fd : FuncData} {ps : List Str} (F : Fun K x qual st f fd)
    (h : ∀ (kV doc pm : Value) (an : Option Addr) (cdv ct : Value) (us : List Value), us.length = ps.length → bindArgs (PySem.W.fnOf x qual (j1a st) (j0x st) (j03 st) .none kV doc pm an cdv ct) ⟨us, []⟩ = pure (ps.zip us)) : j2m K fd ps [] := by
  obtain ⟨oc, od, kV, doc, pm, an, cdv, ct, osl, rfl, lk, hcd⟩ := F.ex
  exact .all (h kV doc pm an cdv ct)
theorem fun_mk {x qual : Str} {st : Stmt} {f : Addr} {oc : Value} {od an : Option Addr} {osl : Array (Option Value)} {kV doc pm cdv ct : Value} (l : K.lookup f = some ⟨oc, od, .func (PySem.W.fnOf x qual (j1a st) (j0x st) (j03 st) .none kV doc pm an cdv ct), osl⟩)
    (c : PySem.W.codeIn K cdv qual = true) (k : PySem.W.keepIn K (.ref f) = true) : Fun K x qual st f (PySem.W.fnOf x qual (j1a st) (j0x st) (j03 st) .none kV doc pm an cdv ct) := ⟨⟨oc, od, kV, doc, pm, an, cdv, ct, osl, rfl, l, c⟩, k⟩
end
theorem j5z {n : Nat} (h : n ≤ 1000) : n < sizeLine := Nat.lt_of_le_of_lt h (by decide)
section
variable {X : Cx}
theorem pv (i : Nat) {x : Str} {pos : Pos} (hN : X.N[i]? = some x := by rfl) (hv : Vis X.env.scope x := by first | exact Or.inl rfl | exact Or.inr (Or.inl rfl) | exact Or.inr (Or.inr rfl)) (hd : (x == ("__debug__" : Str)) = false := by decide)
    (hcd : (x == ("__classdict__" : Str)) = false := by decide) : PE X (.Name x pos) (tVar i) := pe_var hN hv hd hcd
end
theorem iteF {A B : Prop} (h : B) : if false = true then A else B := by
  rw [if_neg Bool.false_ne_true]
  exact h
theorem iteT {A B : Prop} (h : A) : if true = true then A else B := by
  rw [if_pos rfl]
  exact h
theorem ite2 {c A B : Prop} [Decidable c] (h1 : c → A) (h2 : ¬ c → B) : if c then A else B := by
  by_cases h : c
  · rw [if_pos h]
    exact h1 h
  · rw [if_neg h]
    exact h2 h
noncomputable def Same (H H' : Hp) : Prop := ∀ b o, H b = some o → H' b = some o
theorem Same.trans {H H1 H2 : Hp} (a : Same H H1) (b : Same H1 H2) : Same H H2 := fun c o h => b c o (a c o h)
theorem Same.free {H H' : Hp} (e : Same H H') {l : Addr} (h : H' l = Option.none) : H l = Option.none := by
  cases q : H l with
  | none => rfl
  | some o =>
    rw [e l o q] at h
    cases h
theorem Same.seq {K : PySem.W.Frag} {H H' : Hp} {a : Addr} {xs : List V} (e : Same H H') (h : SqL K H a xs) : SqL K H' a xs := by
  rcases h with (h | ⟨o, h⟩) | h
  · exact .inl (.inl (e _ _ h))
  · exact .inl (.inr ⟨o, e _ _ h⟩)
  · exact .inr h
end L2
end
noncomputable section
namespace L3
open PySem PySem.Spec PyProof.Rows L2
abbrev iV (ns : List Int) : List V := ns.map V.int
theorem j1g (ns : List Int) : (iV ns).length = ns.length := List.length_map ..
section
variable {X : Cx}
theorem all_kept {pins : List (Addr × Obj)} {σ : L2.St} {H : Hp} {s : Shared} (I : Inv X pins σ H s) : ∃ m, Fr X.base X.env.locals s.heap m ∧ News X.base X.env.locals s.heap (j1m X.base s.heap X.env.locals) :=
  let ⟨m, F⟩ := I.fr
  ⟨m, F, news_all⟩
theorem Inv.newsed {pins : List (Addr × Obj)} {σ : L2.St} {H : Hp} {s : Shared} {h' : Heap} {tk : Nat} (I : Inv X pins σ H s) {m : Str → Option Value} (F0 : Fr X.base X.env.locals s.heap m) (F : Fr X.base X.env.locals h' m) (N : News X.base X.env.locals h' (j1m X.base s.heap X.env.locals)) :
    Inv X pins σ H { s with heap := h', toks := tk } := by
  have kept : ∀ b o, b ≠ X.env.locals → s.heap.get? b = some o → h'.get? b = some o := fun b o hb e => by
    cases q : X.base.get? b with
    | some u =>
      have := I.bk b u q
      rw [e] at this; cases this
      exact F.keep b _ q
    | none => exact (N (b, o) (j3q hb q e)).1
  have nl : ∀ b u, H b = some u → b ≠ X.env.locals := fun b u e z => by
    have n := I.free
    rw [← z, e] at n; cases n
  refine I.step (g' := s.gens) (d' := s.drawn) (ch := []) (fun _ z => nomatch z) (fun b o hb _ _ e _ => kept b o hb e) (fun b o hb _ _ e _ => ⟨o.slots, kept b o hb e⟩) (fun _ _ _ _ n => n) (fun b o _ e => ?_) (fun _ _ e => e) (fun _ _ _ e => e) (fun b ps e => ⟨#[], by rw [e]; simp⟩) (fun m' hm => ?_) (fun b u e => ?_) I.bare
  · by_cases hb : b = X.env.locals
    · obtain ⟨o', _, _, ho', _⟩ := F.ns
      exact ⟨o', by rw [hb]; exact ho'⟩
    · exact ⟨o, kept b o hb e⟩
  · rw [hm.eq_nsMap, ← F0.ns.eq_nsMap]; exact F.ns
  · refine (I.hok b u e).stay (fun c v hc q => kept c v ?_ q) (fun _ q => q) fun _ _ q => q
    rcases hc with z | z
    · rw [z]; exact nl b u e
    · exact nl c _ z
end
end L3
end
noncomputable section
namespace L3
open PySem PySem.Spec PyProof.Rows L2
noncomputable def clG (cells : List (Str × Addr)) : List (Str × NameKind) → List (Str × Addr) → List (Str × Addr)
  | [], acc => acc
  | (n, k) :: r, acc => if k == .free then (match cells.lookup n with
    | some a => clG cells r ((n, a) :: acc)
    | none => clG cells r acc) else clG cells r acc
theorem j0a {α : Type} {n x : Str} {a : α} {l : List (Str × α)} : ((n, a) :: l).lookup x = if x = n then some a else l.lookup x := by
  rw [List.lookup_cons]
  by_cases h : x = n
  · subst h; simp
  · rw [if_neg h]
    have : (x == n) = false := by simpa using h
    rw [this]
theorem j1h {cells : List (Str × Addr)} {x : Str} {c : Addr} : ∀ {l : List (Str × NameKind)} {acc : List (Str × Addr)}, (∀ c, acc.lookup x = some c → cells.lookup x = some c) → (clG cells l acc).lookup x = some c → cells.lookup x = some c
  | [], acc, h, e => h c e
  | (n, k) :: r, acc, h, e => by
    unfold clG at e
    split at e
    · split at e
      · rename_i a ha
        refine j1h (l := r) (acc := (n, a) :: acc) (fun c' z => ?_) e
        rw [j0a] at z
        split at z
        · rename_i hx
          rw [hx, ha]; exact z
        · exact h c' z
      · exact j1h (l := r) h e
    · exact j1h (l := r) h e
theorem j2c {cells : List (Str × Addr)} {x : Str} {a : Addr} (hx : cells.lookup x = some a) : ∀ {l : List (Str × NameKind)} {acc : List (Str × Addr)}, ((x, NameKind.free) ∈ l ∨ ∃ c, acc.lookup x = some c) → ∃ c, (clG cells l acc).lookup x = some c
  | [], acc, h => by
    rcases h with h | h
    · cases h
    · exact h
  | (n, k) :: r, acc, h => by
    unfold clG
    split
    · rename_i hk
      split
      · rename_i a' ha
        refine j2c hx (l := r) ?_
        by_cases e : x = n
        · exact .inr ⟨a', by rw [j0a, if_pos e]⟩
        · rcases h with h | ⟨c, h⟩
          · rcases List.mem_cons.mp h with z | z
            · cases z; exact absurd rfl e
            · exact .inl z
          · exact .inr ⟨c, by rw [j0a, if_neg e]; exact h⟩
      · rename_i ha
        refine j2c hx (l := r) ?_
        rcases h with h | h
        · rcases List.mem_cons.mp h with z | z
          · cases z; rw [hx] at ha; cases ha
          · exact .inl z
        · exact .inr h
    · rename_i hk
      refine j2c hx (l := r) ?_
      rcases h with h | h
      · rcases List.mem_cons.mp h with z | z
        · cases z; exact absurd rfl hk
        · exact .inl z
      · exact .inr h
theorem j4x {scope : Scope} {env : Env} (h : ∀ n, (n, NameKind.free) ∈ scope.names → ∃ a, env.cells.lookup n = some a) : closureFor scope env = pure (clG env.cells scope.names []) := by
  have all : ∀ (l : List (Str × NameKind)) (cs : List (Str × Addr)), (∀ n, (n, NameKind.free) ∈ l → ∃ a, env.cells.lookup n = some a) →
      (forIn l cs fun x r => (if (x.2 == NameKind.free) = true then do let a ← cellOf env x.1; pure (ForInStep.yield ((x.1, a) :: r)) else pure (ForInStep.yield r) : Sem (ForInStep (List (Str × Addr))))) = pure (clG env.cells l cs) := by
    intro l
    induction l with
    | nil => intro cs _; rfl
    | cons x r ih =>
      intro cs hl
      obtain ⟨n, k⟩ := x
      rw [List.forIn_cons]
      have ih' := fun cs => ih cs fun n' hn => hl n' (List.mem_cons_of_mem _ hn)
      unfold clG
      by_cases hk : (k == NameKind.free) = true
      · have ek : k = NameKind.free := by simpa using hk
        obtain ⟨a, ha⟩ := hl n (by rw [ek]; exact List.mem_cons_self)
        have e : cellOf env n = pure a := by unfold cellOf; rw [ha]
        simp only [hk, if_true, ha, e]
        exact ih' _
      · simp only [hk]
        exact ih' _
  have e := all scope.names [] h
  have e2 : closureFor scope env = ((forIn scope.names [] fun x r => (if (x.2 == NameKind.free) = true then do let a ← cellOf env x.1; pure (ForInStep.yield ((x.1, a) :: r)) else pure (ForInStep.yield r) : Sem (ForInStep (List (Str × Addr))))) >>= fun z => pure z) := rfl
  rw [e2, e]
  rfl
noncomputable def PTs (X : Cx) (ifs : List Expr) (t : TT) : Prop :=
  ∀ (pins : List (Addr × Obj)) (s : Shared) (σ : L2.St) (H : Hp) (Q : Bool → Hp → Prop), Inv X pins σ H s → t σ H Q →
    wpAny (model X.prog X.w) X.A (forIn ifs true fun c r => if r = true then do let ok ← isTrue c X.env (eval c X.env); pure (ForInStep.yield ok) else pure (ForInStep.yield r)) (TP X pins σ Q) X.xe s
theorem j1b {X : Cx} : PTs X [] (fun _ H Q => Q true H) := fun _ _ _ H _ I h => wpAny_tests_nil ⟨H, I, h⟩
noncomputable def cxC (X : Cx) (scope : Scope) (C : Addr) (fp : List Addr) (s2 : Shared) (H2 : Hp) (pins : List (Addr × Obj)) (N : List Str) : Cx :=
  { X with N := N, s₀ := s2, H₀ := H2, env := compEnvC scope (clG X.env.cells scope.names []) C X.env, outer := X.stack, ex := fp, fn := fun _ => false, pn := X.pn ++ pins, xe := fun _ _ => False }
structure CompSc (X : Cx) (scope : Scope) (x : Str) (caps : List Str) (idx : List Nat) : Prop where
  kind : scope.kind = .function
  cell : ∀ y ∈ scope.names, y.2 ≠ .cell
  names : ∀ y ∈ scope.names, y.2 = .local → scope.names.lookup y.1 = some .local
  lx : scope.names.lookup x = some .local
  fr : ∀ y ∈ scope.names, y.2 = .free → scope.names.lookup y.1 = some .free
  free : ∀ y ∈ scope.names, y.2 = .free → X.env.kindOf y.1 = some .cell ∨ X.env.kindOf y.1 = some .free
  nd : (x :: caps).Nodup
  len : idx.length = caps.length
  cap : ∀ (k : Nat) (i : Nat) (y : Str), idx[k]? = some i → caps[k]? = some y → X.N[i]? = some y
  out : ∀ y ∈ caps, (y, NameKind.free) ∈ scope.names
noncomputable def capV (idx : List Nat) (σ : L2.St) : L2.St := idx.map fun i => (σ[i]?).getD none
noncomputable def j2z (wi : TI) (idx : List Nat) (ti : TT) (te : TE) : TE := fun σ H Q => wi σ H fun J H1 => ∀ D, H1 D = none →
  ∃ W : Nat → Nat → List V → Hp → Prop, (∃ m, W 0 m [] (upd H1 D (.lst []))) ∧ ∀ i m ys H2, W i m ys H2 →
    (J.stop i H2 ∧ Q (.ref D) H2) ∨ (J.go i H2 ∧ ∀ x H3, J.yld i H2 x H3 → ti (some x :: capV idx σ) H3 fun b H4 =>
      if b = true then te (some x :: capV idx σ) H4 fun y H5 => H5 D = some (.lst ys) ∧ ys.length < sizeLine ∧ ∃ m', m' < m ∧ W (i + 1) m' (ys ++ [y]) (upd H5 D (.lst (ys ++ [y])))
      else ∃ m', m' < m ∧ W (i + 1) m' ys H4)
theorem Un.same {fs ex : List Addr} {H H' : Hp} {h h1 h2 : Heap} {C : Addr} (u : Un fs ex H H' h h1) (s : Heap.SameBut C h1 h2) (n : h.get? C = none) : Un fs ex H H' h h2 := by
  have ne : ∀ b o, h.get? b = some o → b ≠ C := fun b o e z => by rw [z, n] at e; cases e
  refine ⟨fun b o e z1 z2 z3 => (s.2 b (ne b o e)).trans (u.keep b o e z1 z2 z3), fun b o e z1 z2 z3 => ?_, u.free, fun b o e z => ?_, u.tups, u.frzs, u.tbls⟩
  · obtain ⟨sl, q⟩ := u.slot b o e z1 z2 z3
    exact ⟨sl, (s.2 b (ne b o e)).trans q⟩
  · obtain ⟨o', q⟩ := u.there b o e z
    exact ⟨o', (s.2 b (ne b o e)).trans q⟩
theorem j0u {env : Env} : ∀ {names : List (Str × NameKind)} {x : Str} {k : NameKind}, (names.map fun (n, k) => if (k == NameKind.free && env.scope.kind == .function && env.kindOf n == some .cell) then (n, NameKind.cell) else (n, k)).lookup x = some k →
    (k = .cell ∨ k = .free) → (∀ y ∈ names, y.2 ≠ .cell) → (x, NameKind.free) ∈ names
  | [], _, _, h, _, _ => by simp at h
  | (n, k0) :: r, x, k, h, hk, hc => by
    rw [List.map_cons] at h
    dsimp only at h
    have ih := fun h' => j0u (env := env) (names := r) (x := x) (k := k) h' hk fun y hy => hc y (List.mem_cons_of_mem _ hy)
    by_cases hcond : (k0 == NameKind.free && env.scope.kind == .function && env.kindOf n == some .cell) = true
    · rw [if_pos hcond, j0a] at h
      by_cases e : x = n
      · subst e
        have : k0 = NameKind.free := by
          simp only [Bool.and_eq_true] at hcond
          simpa using hcond.1.1
        rw [this]; exact List.mem_cons_self
      · rw [if_neg e] at h
        exact List.mem_cons_of_mem _ (ih h)
    · rw [if_neg hcond, j0a] at h
      by_cases e : x = n
      · subst e
        rw [if_pos rfl] at h
        have e2 : k0 = k := Option.some.inj h
        rcases hk with z | z
        · exact absurd (e2.trans z) (hc _ List.mem_cons_self)
        · rw [e2, z]; exact List.mem_cons_self
      · rw [if_neg e] at h
        exact List.mem_cons_of_mem _ (ih h)
theorem j1u {env : Env} : ∀ {names : List (Str × NameKind)} {x : Str}, names.lookup x = some .free →
    (names.map fun (n, k) => if (k == NameKind.free && env.scope.kind == .function && env.kindOf n == some .cell) then (n, NameKind.cell) else (n, k)).lookup x ≠ some .local
  | [], _, h => by simp at h
  | (n, k0) :: r, x, h => by
    rw [j0a] at h
    rw [List.map_cons]
    dsimp only
    by_cases e : x = n
    · rw [if_pos e] at h
      have e2 : k0 = NameKind.free := Option.some.inj h
      subst e2
      split
      · rw [j0a, if_pos e]; intro z; cases z
      · rw [j0a, if_pos e]; intro z; cases z
    · rw [if_neg e] at h
      have ih := j1u (env := env) h
      split
      · rw [j0a, if_neg e]; exact ih
      · rw [j0a, if_neg e]; exact ih
section
variable {X : Cx} {elt iter : Expr} {x : Str} {px pos : Pos} {ifs : List Expr} {scope : Scope} {wi : TI} {ti : TT} {te : TE} {caps : List Str} {idx : List Nat}
theorem cxC_ok {pins : List (Addr × Obj)} {σ : L2.St} {H2 : Hp} {s2 : Shared} {C : Addr} {fp : List Addr} (S : CompSc X scope x caps idx) (I : Inv X pins σ H2 s2) (hC : s2.heap.objs.size ≤ C) (hf : ∀ b ∈ fp, FpOk X pins H2 b) (hfl : ∀ b ∈ fp, b < s2.heap.objs.size) :
    (cxC X scope C fp s2 H2 pins (x :: caps)).Ok := by
  have from' : ∀ {y : Str} {c : Addr}, (clG X.env.cells scope.names []).lookup y = some c → X.env.cells.lookup y = some c := fun e => j1h (fun _ z => by simp at z) e
  have clt : ∀ {y : Str} {c : Addr}, X.env.cells.lookup y = some c → c < s2.heap.objs.size := fun e => by
    obtain ⟨v, q⟩ := I.cell _ _ e
    exact q.lt
  refine ⟨I.ok.mod, S.kind, I.ok.glob, I.ok.blt, hC, fun y z c e1 e2 => I.ok.inj y z c (from' e1) (from' e2), fun y hy => ?_, (fun y c z => by cases z), I.ok.hd, I.ok.frames, .inl rfl, fun b hb => ?_, I.bs, ?_, fun b o e hb => ?_, fun b hb hb2 => ?_, I.stack, I.stkFree⟩
  · have m : (y, NameKind.free) ∈ scope.names := by
      rcases hy with e | e
      · exact j0u (env := X.env) e (.inl rfl) S.cell
      · exact j0u (env := X.env) e (.inr rfl) S.cell
    obtain ⟨a, ha⟩ := I.ok.has y (S.free _ m rfl)
    exact j2c ha (.inl m)
  · obtain ⟨_, f1, f2, f3, f4, f5⟩ := hf b hb
    exact ⟨Nat.ne_of_lt (Nat.lt_of_lt_of_le (hfl b hb) hC), fun y c e => f4 y c (from' e)⟩
  · exact Nat.le_trans I.ok.bsz I.sz
  · obtain ⟨_, f1, f2, f3, f4, f5⟩ := hf b hb
    rcases f3 with z | z
    · exact I.ok.noex b o e z
    · exact absurd (Nat.lt_of_lt_of_le (Heap.lt_size (I.ok.bs b o e).1) z) (Nat.lt_irrefl _)
  · obtain ⟨_, f1, f2, f3, f4, f5⟩ := hf b hb
    rcases List.mem_cons.mp (I.stkSub b hb2) with z | z
    · exact f1 z
    · exact f2 z
end
end L3
end
noncomputable section
namespace L3
open PySem PySem.Spec PyProof.Rows L2
section
variable {X : Cx} {elt iter : Expr} {x : Str} {px pos : Pos} {ifs : List Expr} {scope : Scope} {wi : TI} {ti : TT} {te : TE} {caps : List Str} {idx : List Nat}
theorem j2o {use : Option (Value → Sem Unit)} {Qf : Value → Shared → Prop} {pins : List (Addr × Obj)} {σ : L2.St} {H : Hp} {s : Shared} {Q : VK} {cpos : Pos} (xi : List (Addr × Obj) → Addr → List Addr → Shared → Hp → Value → Shared → Prop) (hc : X.calm = true) (S : CompSc X scope x caps idx) (hi : PI X (.Name x px) iter wi)
    (ht : ∀ C fp s2 H2 pins, PTs (cxC X scope C fp s2 H2 pins (x :: caps)) ifs ti) (he : ∀ C fp s2 H2 pins, PE ((cxC X scope C fp s2 H2 pins (x :: caps)).wish (xi pins C fp s2 H2)) elt te) (I : L2.Inv X pins σ H s) (h : j2z wi idx ti te σ H Q)
    (herr : ∀ (C : Addr) (fp : List Addr) (s2 : Shared) (H2 : Hp) (D e : Value) (s' : Shared), L2.Inv X pins σ H2 s2 → s2.heap.objs.size ≤ C → (∀ b ∈ fp, FpOk X pins H2 b) → xi pins C fp s2 H2 e s' → notedBy (model X.prog X.w) X.A (compEnvC scope (clG X.env.cells scope.names []) C X.env) (fun e s'' => compPost (model X.prog X.w) X.A X.xe use Qf D C (.error e) s'') e s')
    (post : ∀ (C D : Addr) (fp : List Addr) (s2 s' : Shared) (H2 H' : Hp) (σ' : L2.St), L2.Inv X pins σ H2 s2 → s2.heap.objs.size ≤ C → (∀ b ∈ fp, FpOk X pins H2 b) → L2.Inv (cxC X scope C fp s2 H2 pins (x :: caps)) [] σ' H' s' → Q (.ref D) H' → compPost (model X.prog X.w) X.A X.xe use Qf (.ref D) C (.ok .next) s')
    (hs : ∀ x, foldedSetIterable iter X.env x = pure x := by intro _; rfl) : wpAny (model X.prog X.w) X.A (comprehension (.ListComp elt [⟨.Name x px, iter, ifs, 0⟩] scope pos) scope X.env cpos (newList []) false (eval iter X.env) use) Qf X.xe s := by
  refine wpAny_comprehension_free (use := use) rfl hs (j4x fun n hn => I.ok.has n (S.free _ hn rfl)) S.kind S.names (thn (hi pins s σ H _ I h) fun v s1 h1 => thn h1 fun itv s2 h2 => ?_)
  obtain ⟨it, fp, tn, J, H2, rfl, I2, T, st2, f2, h⟩ := h2
  refine wpAny_newObj_type (wpAny_newFunctionEnv S.cell (by intro y hy; simp at hy) (fun h₁ hns₁ hsb₁ => ?_) S.kind)
  dsimp only at hns₁ hsb₁ ⊢
  generalize hP : s2.heap.push { cls := .type "list", dict := none, data := .seq ([] : List Value).toArray } = P at hns₁ hsb₁ ⊢
  have hC : P.objs.size = s2.heap.objs.size + 1 := by rw [← hP, Heap.size_push]
  have hDC : s2.heap.objs.size ≠ P.objs.size := by rw [hC]; exact Nat.ne_of_lt (Nat.lt_succ_self _)
  have hCle : s2.heap.objs.size ≤ P.objs.size := by rw [hC]; exact Nat.le_succ _
  have ltC : ∀ {b : Addr}, b < s2.heap.objs.size → b ≠ P.objs.size := fun hb => Nat.ne_of_lt (Nat.lt_of_lt_of_le hb hCle)
  have old : ∀ b o, s2.heap.get? b = some o → h₁.get? b = some o := fun b o e => hsb₁.extBut b o (ltC (Heap.lt_size e)) (Heap.get?_push_of_some _ (hP ▸ Heap.get?_push_of_some _ e))
  have accAt : h₁.get? s2.heap.objs.size = some { cls := .type "list", data := .seq ([] : List Value).toArray } := hsb₁.extBut _ _ hDC (Heap.get?_push_of_some _ (hP ▸ Heap.get?_push_size _ rfl))
  have fresh : ∀ a, s2.heap.objs.size ≤ a → s2.heap.get? a = none := fun a ha => by
    cases e : s2.heap.get? a with
    | none => rfl
    | some o' => exact absurd (Heap.lt_size e) (Nat.not_lt.mpr ha)
  have fpl : ∀ b ∈ fp, b < s2.heap.objs.size := fun b hb => by
    obtain ⟨o, e, _⟩ := T.obj _ _ st2 b hb
    exact Heap.lt_size e
  have hD0 : H2 s2.heap.objs.size = none := I2.hok.fresh (Nat.le_refl _)
  have hC0 : H2 P.objs.size = none := I2.hok.fresh hCle
  have from' : ∀ {y : Str} {c : Addr}, (clG X.env.cells scope.names []).lookup y = some c → X.env.cells.lookup y = some c := fun e => j1h (fun _ z => by simp at z) e
  have clt : ∀ {y : Str} {c : Addr}, X.env.cells.lookup y = some c → c < s2.heap.objs.size := fun e => by
    obtain ⟨v, q⟩ := I2.cell _ _ e
    exact q.lt
  have neD : ∀ {b : Addr}, b < s2.heap.objs.size → b ≠ s2.heap.objs.size := fun hb => Nat.ne_of_lt hb
  have I3 : Inv (cxC X scope P.objs.size fp s2 H2 pins (x :: caps)) [] (none :: capV idx σ) (upd H2 s2.heap.objs.size (.lst [])) { s2 with heap := h₁, toks := s2.toks + ([] : List (Str × Value)).length } := by
    refine ⟨cxC_ok S I2 hCle f2 fpl, rfl, I2.bare, Un.laid old (Nat.le_refl _) hD0, ⟨_, hns₁, fun i y v e1 e2 e3 => ?_⟩, fun y c e => ?_, ?_, fun y c e => ?_, fun p hp => ?_, I2.hok.laid old (Nat.le_refl _) ⟨Nat.zero_le _, [], 0, .nil, accAt⟩, ?_⟩
    · cases i with
      | zero => cases e2
      | succ k =>
        have e1' : caps[k]? = some y := e1
        have e2' : (capV idx σ)[k]? = some (some v) := e2
        unfold capV at e2'
        rw [List.getElem?_map] at e2'
        cases ei : idx[k]? with
        | none => rw [ei] at e2'; cases e2'
        | some i0 =>
          rw [ei] at e2'
          have e4 : (σ[i0]?).getD none = some v := Option.some.inj e2'
          have e5 : σ[i0]? = some (some v) := by
            cases e6 : σ[i0]? with
            | none => rw [e6] at e4; cases e4
            | some z => rw [e6] at e4; exact congrArg some e4
          have hfree := S.out y (List.mem_of_getElem? e1')
          have hk := S.free _ hfree rfl
          obtain ⟨m, hn, hl⟩ := I2.loc
          have vis : Vis X.env.scope y := by
            rcases hk with z | z
            · exact .inr (.inl z)
            · exact .inr (.inr z)
          obtain ⟨u, r, l⟩ := hl i0 y v (S.cap k i0 y ei e1') e5 vis
          refine ⟨u, r, .inr ?_⟩
          rcases l with ⟨z, _⟩ | ⟨_, c, hc', hcell⟩
          · rcases hk with z2 | z2
            · rw [z] at z2; cases z2
            · rw [z] at z2; cases z2
          · obtain ⟨c2, hc2⟩ := j2c hc' (l := scope.names) (acc := []) (.inl hfree)
            have : c2 = c := Option.some.inj ((from' hc2).symm.trans hc')
            subst this
            refine ⟨?_, c2, hc2, hcell.keeps old⟩
            rcases e3 with z | z | z
            · exfalso
              exact j1u (env := X.env) (S.fr _ hfree rfl) z
            · exact .inl z
            · exact .inr z
    · obtain ⟨v, q⟩ := I2.cell y c (from' e)
      exact ⟨v, q.keeps old⟩
    · show upd H2 _ _ P.objs.size = none
      rw [j0c (Ne.symm hDC)]; exact hC0
    · rw [j0c (neD (clt (from' e)))]; exact I2.freeC y c (from' e)
    · have hp' : p ∈ X.pn ++ pins := by
        have : p ∈ (X.pn ++ pins) ++ [] := hp
        simpa using this
      obtain ⟨a1, a2, a3, a4, a5⟩ := I2.pin p hp'
      refine ⟨old _ _ a1, ?_, ltC (Heap.lt_size a1), fun z => ?_, a5⟩
      · rw [j0c (neD (Heap.lt_size a1))]; exact a2
      · rcases List.mem_cons.mp (I2.stkSub p.1 z) with w' | w'
        · exact a3 w'
        · exact a4 w'
    · show (none :: capV idx σ).length = (x :: caps).length
      unfold capV
      rw [List.length_cons, List.length_map, S.len, List.length_cons]
  have post' : ∀ {σ' : L2.St} {H' : Hp} {s' : Shared}, L2.Inv (cxC X scope P.objs.size fp s2 H2 pins (x :: caps)) [] σ' H' s' → Q (.ref s2.heap.objs.size) H' → compPost (model X.prog X.w) X.A X.xe use Qf (.ref s2.heap.objs.size) P.objs.size (.ok .next) s' := fun {σ' H' s'} I' q => post _ _ fp s2 s' H2 H' σ' I2 hCle f2 I' q
  obtain ⟨W, ⟨m0, w0⟩, turn⟩ := h s2.heap.objs.size hD0
  have stat : ∀ {H' : Hp}, (∀ b ∈ fp, H' b = none) → ∀ b ∈ fp, FpOk (cxC X scope P.objs.size fp s2 H2 pins (x :: caps)) [] H' b := fun hn b hb => by
    obtain ⟨_, g1, g2, g3, g4, g5⟩ := f2 b hb
    refine ⟨hn b hb, ltC (fpl b hb), fun z => ?_, .inl hb, fun y c e => g4 y c (from' e), fun p hp => g5 p (by have : p ∈ (X.pn ++ pins) ++ [] := hp; simpa using this)⟩
    rcases List.mem_cons.mp (I2.stkSub b z) with w' | w'
    · exact g1 w'
    · exact g2 w'
  have loop : ∀ s₃ : Shared, Inv (cxC X scope P.objs.size fp s2 H2 pins (x :: caps)) [] (none :: capV idx σ) (upd H2 s2.heap.objs.size (.lst [])) s₃ → tn 0 s₃.heap →
      codeAny (model X.prog X.w) X.A (.compLoop (.ListComp elt [⟨.Name x px, iter, ifs, 0⟩] scope pos) 0 (.ref it) (.ref s2.heap.objs.size) (compEnvC scope (clG X.env.cells scope.names []) P.objs.size X.env))
        (compPost (model X.prog X.w) X.A X.xe use Qf (.ref s2.heap.objs.size) P.objs.size) s₃ := by
    intro s₃ I₃ st₃
    refine codeAny_loop rfl (fun n s' => ∃ i ys xo H', Inv (cxC X scope P.objs.size fp s2 H2 pins (x :: caps)) [] (xo :: capV idx σ) H' s' ∧ tn i s'.heap ∧ (∀ b ∈ fp, H' b = none) ∧ W i n ys H') (fun n s4 hI => ?_) m0 ⟨0, [], none, _, I₃, st₃, fun b hb => by rw [j0c (neD (fpl b hb))]; exact (f2 b hb).1, w0⟩
    obtain ⟨i, ys, xo, H4, I4, st4, fr4, w4⟩ := hI
    show wpAny _ X.A ((compTurn (.ListComp elt [⟨.Name x px, iter, ifs, 0⟩] scope pos) 0 (.ref it) (.ref s2.heap.objs.size) (compEnvC scope (clG X.env.cells scope.names []) P.objs.size X.env)).onRaise (fun x => do noteFrame x (compEnvC scope (clG X.env.cells scope.names []) P.objs.size X.env); theTreesLotGoes x)) _ _ s4
    refine wpAny_noted ?_
    rw [compTurn_list]
    refine wpAny_bind (wpAny_standAt (wpAny_bind ?_))
    rcases turn i n ys H4 w4 with ⟨stop, q⟩ | ⟨go, step⟩
    · refine wpAny_mono (T.done (cxC X scope P.objs.size fp s2 H2 pins (x :: caps)) rfl rfl rfl hc i [] s4 _ H4 (fun _ _ => False) I4 (stat fr4) st4 stop) (fun r s5 hr => ?_) (fun _ _ e => e.elim)
      obtain ⟨rfl, I5⟩ := hr
      exact wpAny_pure (post' I5 q)
    · refine wpAny_mono (T.item (cxC X scope P.objs.size fp s2 H2 pins (x :: caps)) rfl rfl rfl hc i [] s4 _ H4 (fun _ _ => False) I4 (stat fr4) st4 go) (fun r s5 hr => ?_) (fun _ _ e => e.elim)
      obtain ⟨u, rfl, h5⟩ := hr
      dsimp only
      refine wpAny_bind (wpAny_mono h5 (fun _ s6 h6 => ?_) (fun _ _ e => e.elim))
      obtain ⟨x6, H6, I6, r6, y6, st6, fr6⟩ := h6
      have I6' := I6.pinned (stat fr6) (T.obj _ _ st6)
      refine wpAny_bind (wpAny_assign_Name (j1z (i := 0) I6' S.nd rfl (.inl (lookup_relabel_local S.lx)) r6 (fun s7 I7 => ?_) (.inr (lookup_relabel_local S.lx))))
      have again : ∀ {H8 : Hp} {s8 : Shared} {zs : List V}, Inv (cxC X scope P.objs.size fp s2 H2 pins (x :: caps)) ([] ++ j3b fp s6.heap) (some x6 :: capV idx σ) H8 s8 → (∃ m', m' < n ∧ W (i + 1) m' zs H8) →
          ∃ m, m < n ∧ ∃ i ys xo H', Inv (cxC X scope P.objs.size fp s2 H2 pins (x :: caps)) [] (xo :: capV idx σ) H' s8 ∧ tn i s8.heap ∧ (∀ b ∈ fp, H' b = none) ∧ W i m ys H' := fun {H8 s8 zs} I8 w8 => by
        obtain ⟨m', hm, w8⟩ := w8
        refine ⟨m', hm, i + 1, zs, some x6, H8, I8.unpinned, T.keep _ _ _ st6 fun b hb o e => (I8.pin (b, o) (List.mem_append_right _ (List.mem_append_right _ (j13 hb e)))).1, fun b hb => ?_, w8⟩
        obtain ⟨o, e, d⟩ := T.obj _ _ st6 b hb
        exact (I8.pin (b, o) (List.mem_append_right _ (List.mem_append_right _ (j13 hb e)))).2.1
      refine wpAny_bind (wpAny_mono (ht P.objs.size fp s2 H2 pins _ s7 (some x6 :: capV idx σ) H6 _ I7 (step x6 H6 y6)) (fun ok s8 h8 => ?_) (fun _ _ e => e.elim))
      obtain ⟨H8, I8, q8⟩ := h8
      cases ok with
      | false => exact wpAny_pure ⟨rfl, again I8 (by simpa using q8)⟩
      | true =>
        rw [if_pos rfl] at q8
        refine wpAny_bind (wpAny_bind (wpAny_mono (he P.objs.size fp s2 H2 pins _ s8 (some x6 :: capV idx σ) H8 _ (I8.wish _) q8) (fun y s9 h9 => ?_) (fun e s9 z => herr P.objs.size fp s2 H2 (.ref s2.heap.objs.size) e s9 I2 hCle f2 z)))
        obtain ⟨yv, H9, I9w, r9, d9, l9, w9⟩ := h9
        have I9 := I9w.unwish
        refine wpAny_bind (wpAny_mono (j2a (X := cxC X scope P.objs.size fp s2 H2 pins (x :: caps)) _ s9 _ H9 (.ref s2.heap.objs.size) [yv] (.ref s2.heap.objs.size) [y] (fun _ HA => ∃ m', m' < n ∧ W (i + 1) m' (ys ++ [yv]) HA) I9 rfl (.cons r9 .nil) ⟨_, _, yv, rfl, rfl, d9, l9, w9⟩) (fun z s10 h10 => ?_) (fun _ _ e => e.elim))
        obtain ⟨_, H10, I10, _, w10⟩ := h10
        exact wpAny_pure (wpAny_pure ⟨rfl, again I10 w10⟩)
  have st₁ : tn 0 h₁ := T.keep _ _ _ st2 fun b hb o e => old b o e
  exact codeAny_compStart_list (loop _ I3 st₁) (T.self X.A 0 _ _ _ st₁ (loop _ I3 st₁))
theorem j3l {use : Option (Value → Sem Unit)} {Qf : Value → Shared → Prop} {pins : List (Addr × Obj)} {σ : L2.St} {H : Hp} {s : Shared} {Q : VK} {cpos : Pos} (hxe : X.xe = fun _ _ => False) (hc : X.calm = true) (S : CompSc X scope x caps idx) (hi : PI X (.Name x px) iter wi)
    (ht : ∀ C fp s2 H2 pins, PTs (cxC X scope C fp s2 H2 pins (x :: caps)) ifs ti) (he : ∀ C fp s2 H2 pins, PE (cxC X scope C fp s2 H2 pins (x :: caps)) elt te) (I : L2.Inv X pins σ H s) (h : j2z wi idx ti te σ H Q)
    (post : ∀ (C D : Addr) (fp : List Addr) (s2 s' : Shared) (H2 H' : Hp) (σ' : L2.St), L2.Inv X pins σ H2 s2 → s2.heap.objs.size ≤ C → (∀ b ∈ fp, FpOk X pins H2 b) → L2.Inv (cxC X scope C fp s2 H2 pins (x :: caps)) [] σ' H' s' → Q (.ref D) H' → compPost (model X.prog X.w) X.A X.xe use Qf (.ref D) C (.ok .next) s')
    (hs : ∀ x, foldedSetIterable iter X.env x = pure x := by intro _; rfl) : wpAny (model X.prog X.w) X.A (comprehension (.ListComp elt [⟨.Name x px, iter, ifs, 0⟩] scope pos) scope X.env cpos (newList []) false (eval iter X.env) use) Qf X.xe s :=
  j2o (fun _ _ _ _ _ _ _ => False) hc S hi ht he I h (fun _ _ _ _ _ _ _ _ _ _ z => z.elim) post hs
theorem j1i {C : Addr} {fp : List Addr} {s2 s' : Shared} {H2 H' : Hp} {σ σ' : L2.St} {pins : List (Addr × Obj)} (I2 : L2.Inv X pins σ H2 s2) (f2 : ∀ b ∈ fp, FpOk X pins H2 b) (I' : L2.Inv (cxC X scope C fp s2 H2 pins (x :: caps)) [] σ' H' s') : L2.Inv X pins σ H' s' := by
  refine I2.call' (ch := fp) I'.os I'.base I'.hok I'.bare fun b hb => ?_
  obtain ⟨_, g1, g2, g3, g4, g5⟩ := f2 b hb
  exact ⟨g3, g1, g4, g5⟩
theorem j1q {C : Addr} {s2 s' : Shared} {h' : Heap} {H2 H' : Hp} {σ σ0 : L2.St} {pins : List (Addr × Obj)} (I2 : L2.Inv X pins σ0 H2 s2) (hC : s2.heap.objs.size ≤ C) (hn : H' C = none) (I : L2.Inv X pins σ H' s') (hs : Heap.SameBut C s'.heap h') : L2.Inv X pins σ H' { s' with heap := h' } := by
  refine I.turned (t' := s'.toks) (it := C) (fun b o hb e => (hs.2 b hb).trans e) hn (Nat.ne_of_gt (Nat.lt_of_lt_of_le I2.lt hC)) (.inr (Nat.le_trans I2.sz hC)) (fun y c e z => ?_) fun p hp z => ?_
  · obtain ⟨v, q⟩ := I2.cell y c e
    exact absurd (Nat.lt_of_lt_of_le q.lt (by rw [z]; exact hC)) (Nat.lt_irrefl _)
  · exact absurd (Nat.lt_of_lt_of_le (Heap.lt_size (I2.pin p hp).1) (by rw [z]; exact hC)) (Nat.lt_irrefl _)
theorem j2d (hxe : X.xe = fun _ _ => False) (hc : X.calm = true) (S : CompSc X scope x caps idx) (hi : PI X (.Name x px) iter wi)
    (ht : ∀ C fp s2 H2 pins, PTs (cxC X scope C fp s2 H2 pins (x :: caps)) ifs ti) (he : ∀ C fp s2 H2 pins, PE (cxC X scope C fp s2 H2 pins (x :: caps)) elt te)
    (hs : ∀ x, foldedSetIterable iter X.env x = pure x := by intro _; rfl) : PE X (.ListComp elt [⟨.Name x px, iter, ifs, 0⟩] scope pos) (j2z wi idx ti te) := by
  intro pins s σ H Q I h
  rw [eval_ListComp]
  refine j3l (use := none) hxe hc S hi ht he I h (fun C D fp s2 s' H2 H' σ' I2 hC f2 I' q => ?_) hs
  obtain ⟨m, hn, _⟩ := I'.loc
  exact ⟨m, hn, fun h' hs' => ⟨.ref D, H', j1q I2 hC I'.free (j1i I2 f2 I') hs', rfl, q⟩⟩
theorem ps_setC {i : Nat} {y : Str} {py spos : Pos} (hxe : X.xe = fun _ _ => False) (hc : X.calm = true) (S : CompSc X scope x caps idx) (hi : PI X (.Name x px) iter wi)
    (ht : ∀ C fp s2 H2 pins, PTs (cxC X scope C fp s2 H2 pins (x :: caps)) ifs ti) (he : ∀ C fp s2 H2 pins, PE (cxC X scope C fp s2 H2 pins (x :: caps)) elt te) (hN : X.N.Nodup) (hy : X.N[i]? = some y) (hl : X.env.scope.names.lookup y = some .local)
    (hsw : swapsWith (.ListComp elt [⟨.Name x px, iter, ifs, 0⟩] scope pos) (some (.Name y py)) spos.line X.env = pure true := by rfl)
    (hs : ∀ x, foldedSetIterable iter X.env x = pure x := by intro _; rfl) : PS X (.Assign [.Name y py] (.ListComp elt [⟨.Name x px, iter, ifs, 0⟩] scope pos) spos) (tAsg (j2z wi idx ti te) (j5b i)) := by
  intro pins s σ H D I h
  rw [exec_Assign_Name_used _ _ _ _ hsw]
  refine wpAny_bind (wpAny_standAt (wpAny_bind ?_))
  show wpAny _ X.A (do let _ ← comprehension (.ListComp elt [⟨.Name x px, iter, ifs, 0⟩] scope pos) scope X.env _ (newList []) false (eval iter X.env) (some (assign (.Name y py) X.env))) _ _ s
  refine wpAny_bind (wpAny_mono (j3l (use := some (assign (.Name y py) X.env)) (Qf := fun _ s' => SP X pins D .next s') hxe hc S hi ht he I h (fun C L fp s2 s' H2 H' σ' I2 hC f2 I' q => ?_) hs) (fun _ s' hq => wpAny_pure (wpAny_pure hq)) fun _ _ e => e)
  obtain ⟨m, hn, _⟩ := I'.loc
  have J := j1i I2 f2 I'
  show wpAny _ X.A (assign (.Name y py) X.env (.ref L)) _ _ _
  refine wpAny_assign_Name (j38 (v := .ref L) J hN hy (.inl hl) rfl (fun s3 I3 h3 => ?_) (.inr hl))
  obtain ⟨a, sb, ha⟩ := h3
  have aC : a ≠ C := by
    rcases ha with z | z
    · rw [z]; exact Nat.ne_of_lt (Nat.lt_of_lt_of_le I2.lt hC)
    · obtain ⟨v, q'⟩ := I2.cell _ _ z
      exact Nat.ne_of_lt (Nat.lt_of_lt_of_le q'.lt hC)
  exact ⟨m, hn.sameBut sb (Ne.symm aC), fun h' hs' => ⟨_, H', j1q I2 hC I'.free I3 hs', q⟩⟩
end
end L3
end
noncomputable section
namespace L3
open PySem PySem.Spec PyProof.Rows L2
section
variable {X : Cx}
abbrev bV (bs : List Bool) : List V := bs.map V.bl
theorem j1c : ∀ {bs : List Bool} {us : List Value}, Vals (bV bs) us → LSm.BoolsAre us bs
  | [], _, .nil => .nil
  | b :: bs, _, .cons r t => by
    cases (show _ = Value.bool b from r)
    exact .cons b (j1c t)
theorem j2e (hc : X.calm = true) : j1p X (.builtin "all") (fun xs H Q => ∃ p bs, xs = [.ref p] ∧ SqL X.K H p (bV bs) ∧ Q (.bl (bs.all id)) H) := by
  intro pins s σ H xs us Q I r h
  obtain ⟨p, bs, rfl, hx, q⟩ := h
  obtain ⟨u, rfl, rx⟩ := j4w r
  cases rx
  obtain ⟨its, r', pl, hz⟩ := I.list hx
  obtain ⟨m, F, N⟩ := all_kept I
  refine LSm.all_bools F N (I.ok.hd hc) pl.isList (j1c r') fun h' tk F' N' => ?_
  exact ⟨.bl _, H, Inv.newsed I F F' N', rfl, q⟩
noncomputable def tyVal : V → Option Value
  | .ty n => some (.type n)
  | .ref C => some (.ref C)
  | _ => none
theorem j1j : j1p X (.builtin "isinstance") (fun xs H Q => ∃ x T c t b, xs = [x, T] ∧ tyVal T = some c ∧ TyOf X.K H x t ∧ PySem.W.kitOne X.K t c = some b ∧ Q (.bl b) H) := by
  intro pins s σ H xs us Q I r h
  obtain ⟨x, T, c, t, b, rfl, hc, ty, e, q⟩ := h
  obtain ⟨u, w', rfl, rx, rt⟩ := vals2 r
  have ew : w' = c := by
    cases T with
    | ty n => cases (show w' = Value.type n from rt); exact Option.some.inj hc
    | ref C => cases (show w' = Value.ref C from rt); exact Option.some.inj hc
    | _ => cases hc
  subst ew
  exact j5o I rx ty e fun tk => ⟨.bl b, H, I.tok tk, rfl, q⟩
end
end L3
end
noncomputable section
namespace L3
open PySem PySem.Spec PyProof.Rows L2
theorem j60 {α : Type} [DecidableEq α] : ∀ {as bs : List α}, as.length = bs.length → ∀ (e : Nat → Bool), (∀ j a b, as[j]? = some a → bs[j]? = some b → e j = decide (a = b)) → (List.range as.length).all e = decide (as = bs) := by
  intro as bs hl e he
  rw [Bool.eq_iff_iff, List.all_eq_true]
  simp only [List.mem_range, decide_eq_true_eq]
  constructor
  · intro h
    refine List.ext_getElem hl fun j h1 h2 => ?_
    have := h j h1
    rw [he j as[j] bs[j] (by simp [h1]) (by simp [h2])] at this
    simpa using this
  · intro h j hj
    subst h
    rw [he j as[j] as[j] (by simp [hj]) (by simp [hj])]
    simp
theorem Paired.at {α β : Type} {F : α → β → Prop} : ∀ {l₁ : List α} {l₂ : List β}, PySem.Paired F l₁ l₂ → ∀ {j : Nat} {b : β}, l₂[j]? = some b → ∃ a, l₁[j]? = some a ∧ F a b
  | _, _, .nil, j, b, e => by simp at e
  | _, _, .cons h t, 0, b, e => by simp at e; subst e; exact ⟨_, rfl, h⟩
  | _, _, .cons h t, j + 1, b, e => by simpa using Paired.at t (j := j) (b := b) (by simpa using e)
section
variable {X : Cx} {pins : List (Addr × Obj)} {σ : L2.St} {H : Hp} {s : Shared}
theorem j61 (A : Around) (s : Shared) (a : Int) (t : Tok) (c : Int) (u : Tok) : SeqAt.EqAt A s (.int a t) (.int c u) (decide (a = c)) := by
  obtain ⟨e, h, hi⟩ := HT.eqAt_int A s a t c u
  have : e = decide (a = c) := by
    rw [Bool.eq_iff_iff, hi]; simp
  rw [← this]; exact h
structure ItemR (X : Cx) {α : Type} [DecidableEq α] (A : Around) (R : Hp → α → V → Prop) : Prop where
  eq : ∀ (pins : List (Addr × Obj)) (σ : L2.St) (H : Hp) (s : Shared), L2.Inv X pins σ H s → ∀ (a b : α) (x y : V) (u v : Value), R H a x → R H b y → RelV x u → RelV y v → SeqAt.EqAt A s u v (decide (a = b))
  inj : ∀ (pins : List (Addr × Obj)) (σ : L2.St) (H : Hp) (s : Shared), L2.Inv X pins σ H s → ∀ (a b : α) (x : V), R H a x → R H b x → a = b
abbrev rInt : Hp → Int → V → Prop := fun _ a x => x = .int a
abbrev rBl : Hp → Bool → V → Prop := fun _ a x => x = .bl a
theorem j3x {A : Around} : ItemR X A rInt where
  eq := by
    intro pins σ H s I a b x y u v h1 h2 r1 r2
    cases h1; cases h2
    obtain ⟨t, rfl⟩ := r1
    obtain ⟨t', rfl⟩ := r2
    exact j61 A s a t b t'
  inj := by
    intro pins σ H s I a b x h1 h2
    cases h1; cases h2; rfl
theorem items_eq {α : Type} [DecidableEq α] {A : Around} {R : Hp → α → V → Prop} (hE : ItemR X A R) (I : L2.Inv X pins σ H s) {xs ys : List V} {as bs : List α} {its jts : List Value} (p1 : PySem.Paired (R H) as xs) (p2 : PySem.Paired (R H) bs ys) (r1 : Vals xs its) (r2 : Vals ys jts) :
    ∃ e : Nat → Bool, (∀ j (h1 : j < its.toArray.size) (h2 : j < jts.toArray.size), SeqAt.EqAt A s its.toArray[j] jts.toArray[j] (e j)) ∧ ∀ j a b, as[j]? = some a → bs[j]? = some b → e j = decide (a = b) := by
  refine ⟨fun j => match as[j]?, bs[j]? with
    | some a, some b => decide (a = b)
    | _, _ => true, fun j h1 h2 => ?_, fun j a b ea eb => by simp only [ea, eb]⟩
  rw [List.size_toArray] at h1 h2
  have l1 := r1.length
  have l2 := r2.length
  have ex : xs[j]? = some xs[j] := by simp [show j < xs.length by omega]
  have ey : ys[j]? = some ys[j] := by simp [show j < ys.length by omega]
  obtain ⟨a, ea, ha⟩ := Paired.at p1 ex
  obtain ⟨b, eb, hb⟩ := Paired.at p2 ey
  obtain ⟨u, eu, ru⟩ := r1.get ex
  obtain ⟨v, ev, rv⟩ := r2.get ey
  have eu' : its.toArray[j] = u := by
    have : its[j]? = some its[j] := by simp [h1]
    rw [this] at eu
    simpa using Option.some.inj eu
  have ev' : jts.toArray[j] = v := by
    have : jts[j]? = some jts[j] := by simp [h2]
    rw [this] at ev
    simpa using Option.some.inj ev
  simp only [ea, eb]
  rw [eu', ev']
  exact hE.eq _ _ _ _ I _ _ _ _ _ _ ha hb ru rv
noncomputable def IsL (K : PySem.W.Frag) {α : Type} (R : Hp → α → V → Prop) (H : Hp) (as : List α) (x : V) : Prop := ∃ p xs, x = .ref p ∧ SqL K H p xs ∧ PySem.Paired (R H) as xs
noncomputable def IsT (K : PySem.W.Frag) {α : Type} (R : Hp → α → V → Prop) (H : Hp) (as : List α) (x : V) : Prop := ∃ p xs, x = .ref p ∧ SqT K H p xs ∧ PySem.Paired (R H) as xs
theorem j4f {α : Type} [DecidableEq α] {A : Around} {R : Hp → α → V → Prop} (hu : A.units < cLine) (hE : ItemR X A.in1 R) (I : L2.Inv X pins σ H s) {as bs : List α} {x y : V} {u v : Value} (h1 : IsL X.K R H as x) (h2 : IsL X.K R H bs y) (r1 : RelV x u) (r2 : RelV y v) :
    SeqAt.RcAt A s u v (decide (as = bs)) ∧ SeqAt.RcNeAt A s u v (!decide (as = bs)) := by
  obtain ⟨p, xs, rfl, hx, p1⟩ := h1
  obtain ⟨q, ys, rfl, hy, p2⟩ := h2
  cases r1; cases r2
  obtain ⟨its, v1, l1, z1⟩ := I.list hx
  obtain ⟨jts, v2, l2, z2⟩ := I.list hy
  have k1 := v1.length
  have k2 := v2.length
  have k3 : as.length = xs.length := PySem.Paired.length p1
  have k4 : bs.length = ys.length := PySem.Paired.length p2
  by_cases hl : its.length = jts.length
  · obtain ⟨e, he, hb⟩ := items_eq hE I p1 p2 v1 v2
    have ra := j60 (as := as) (bs := bs) (by omega) e hb
    have sz : its.toArray.size = as.length := by rw [List.size_toArray]; omega
    have g1 := SeqAt.RcAt.lists (A := A) (s := s) l1.isList l2.isList (by simpa using hl) hu he
    have g2 := SeqAt.RcNeAt.lists (A := A) (s := s) l1.isList l2.isList (by simpa using hl) hu he
    rw [sz, ra] at g1 g2
    exact ⟨g1, g2⟩
  · have hd : decide (as = bs) = false := decide_eq_false fun z => hl (by rw [z] at k3; omega)
    rw [hd]
    exact ⟨SeqAt.RcAt.lists_lengths l1.isList l2.isList (by simpa using hl) hu, SeqAt.RcNeAt.lists_lengths l1.isList l2.isList (by simpa using hl) hu⟩
noncomputable def rEqL (K : PySem.W.Frag) {α : Type} [DecidableEq α] (R : Hp → α → V → Prop) (n : Bool) : R2 := fun x y H Q => ∃ as bs, IsL K R H as x ∧ IsL K R H bs y ∧ Q (.bl (if n then !decide (as = bs) else decide (as = bs))) H
noncomputable def rEqT (K : PySem.W.Frag) {α : Type} [DecidableEq α] (R : Hp → α → V → Prop) (n : Bool) : R2 := fun x y H Q => ∃ as bs, IsT K R H as x ∧ IsT K R H bs y ∧ Q (.bl (if n then !decide (as = bs) else decide (as = bs))) H
theorem op_eqL {α : Type} [DecidableEq α] {R : Hp → α → V → Prop} (hu : X.A.units < cLine) (hE : ItemR X X.A.in1 R) : OpR X (compareOp .Eq) (rEqL X.K R false) := by
  intro pins s σ H x y v u Q I rx ry h
  obtain ⟨as, bs, h1, h2, q⟩ := h
  exact (j4f hu hE I h1 h2 rx ry).1 _ _ _ _ ⟨.bl _, H, I, rfl, q⟩
theorem op_neL {α : Type} [DecidableEq α] {R : Hp → α → V → Prop} (hu : X.A.units < cLine) (hE : ItemR X X.A.in1 R) : OpR X (compareOp .NotEq) (rEqL X.K R true) := by
  intro pins s σ H x y v u Q I rx ry h
  obtain ⟨as, bs, h1, h2, q⟩ := h
  exact (j4f hu hE I h1 h2 rx ry).2 _ _ _ _ ⟨.bl _, H, I, rfl, q⟩
end
end L3
end
noncomputable section
namespace L3
open PySem PySem.Spec PyProof.Rows L2
theorem j21 : bootBuiltins "int" = some (.type "int") := by decide +kernel
theorem j62 : bootBuiltins "bool" = some (.type "bool") := by decide +kernel
theorem j2f : bootBuiltins "list" = some (.type "list") := by decide +kernel
theorem j22 : bootBuiltins "str" = some (.type "str") := by decide +kernel
theorem boot_any : bootBuiltins "any" = some (.builtin "any") := by decide +kernel
theorem j30 : bootBuiltins "all" = some (.builtin "all") := by decide +kernel
structure Bl (mg : Str → Option Value) : Prop where
  len : mg "len" = none
  range : mg "range" = none
  list : mg "list" = none
  tuple : mg "tuple" = none
  int : mg "int" = none
  bool : mg "bool" = none
  str : mg "str" = none
  isinstance : mg "isinstance" = none
  sum : mg "sum" = none
  sorted : mg "sorted" = none
  any : mg "any" = none
  all : mg "all" = none
  abs : mg "abs" = none
  max : mg "max" = none
  min : mg "min" = none
structure Ok (P : Program) (w : World) (K : PySem.W.Frag) (mg : Str → Option Value) (base : Heap) (k : Nat) (x : Str) (ps : List Str) (sp : Sp) : Prop where
  ex : ∃ (f : Addr) (fd : FuncData), FnOk P w K mg base CX0 k f fd ps sp ∧ mg x = some (.ref f) ∧ PySem.W.keepIn K (.ref f) = true ∧ j2m K fd ps []
structure OkM (P : Program) (w : World) (K : PySem.W.Frag) (mg : Str → Option Value) (base : Heap) (k : Nat) (C : Addr) (m : Str) (ps : List Str) (sp : Sp) : Prop where
  ex : ∃ (f : Addr) (fd : FuncData), FnOk P w K mg base CX0 k f fd ps sp ∧ Cls K C ∧ Meth K C m f ∧ j2m K fd ps []
structure OkC (P : Program) (w : World) (K : PySem.W.Frag) (mg : Str → Option Value) (base : Heap) (k : Nat) (x : Str) (C : Addr) (ps : List Str) (sp : Sp) : Prop where
  ex : ∃ (f : Addr) (fd : FuncData), FnOk P w K mg base CX0 k f fd ps sp ∧ mg x = some (.ref C) ∧ Mk K C f ∧ j2m K fd ps []
section
variable {X : Cx} {k : Nat} {ps : List Str} {sp : Sp} {x m : Str} {p pos apos : Pos} {e o : Expr} {es : List Expr} {ta : TE} {t : TA} {C : Addr}
theorem j06 (c : Ok X.prog X.w X.K X.mg X.base k x ps sp) (hr : Room k X.A) (hg : Gl X x) (ha : PA X (e :: es) t)
    (hdb : (x == ("__debug__" : Str)) = false := by decide) (he : starEach (e :: es) X.env = (false, eval e X.env) :: starEach es X.env := by rfl) (hpl : (backTo pos (starEach es X.env)).any (·.1) = false := by rfl) :
    PE X (.Call (.Name x p) (e :: es) [] pos) (j5p sp [] E0 t) := by
  obtain ⟨f, fd, F, g, kp, b⟩ := c.ex
  exact j5q (E := E0) F hr hg g kp b .nil pass0 ha hdb he hpl
theorem j63 (c : Ok X.prog X.w X.K X.mg X.base k x ps sp) (hr : Room k X.A) (hg : Gl X x) (hdb : (x == ("__debug__" : Str)) = false := by decide) :
    PE X (.Call (.Name x p) [] [] pos) (j5p sp [] E0 tNil) := by
  obtain ⟨f, fd, F, g, kp, b⟩ := c.ex
  exact pe_call0 (E := E0) F hr hg g kp b .nil pass0 hdb
end
end L3
end
noncomputable section
namespace L3
open PySem PySem.Spec PyProof.Rows L2
inductive ICon : List Expr → List Int → Prop
  | nil : ICon [] []
  | cons {n : Int} {k : Nat} {p : Pos} {r : List Expr} {ns : List Int} (h : ICon r ns) : ICon (.Constant (.int n) k p :: r) (n :: ns)
theorem pa_icon {X : Cx} {es : List Expr} {ns : List Int} (h : ICon es ns) : PA X es (fun _ H Q => Q (iV ns) H) := by
  induction h with
  | nil => exact j01
  | cons _ ih => exact j00 j07 ih rfl
noncomputable def stL : Stmt → Nat → List Stmt
  | .For _ _ b e _, k => if k = 0 then b else e
  | .While _ b e _, k => if k = 0 then b else e
  | .If _ b e _, k => if k = 0 then b else e
  | _, _ => []
abbrev noSt : Stmt := .Pass ⟨0, 0, 0, 0⟩
theorem j64 {X : Cx} {es : List Expr} {ns : List Int} {x1 : Nat} {pos : Pos} (h : ICon es ns) (hl : ns.length ≤ 1000) : PE X (.Tuple es x1 pos) (fun _ H Q => ∀ p, H p = none → Q (.ref p) (upd H p (.tup (iV ns)))) := by
  intro pins s σ H Q I q
  exact pe_tup (pa_icon h) pins s σ H Q I ⟨by rw [j1g]; exact Nat.le_trans hl (by decide), q⟩
end L3
namespace L2
open PySem PySem.Spec PyProof.Rows
theorem j65 {K : PySem.W.Frag} {a : Addr} {xs : List V} {g : TG} {tb : TS} {D : Ends} {σ : St} {H : Hp} (Pv : Nat → St → Hp → Prop) (h0 : Pv 0 σ H) (hl : ∀ i σ H, i ≤ xs.length → Pv i σ H → SqL K H a xs)
    (hs : ∀ i x σ H, xs[i]? = some x → Pv i σ H → let D' : Ends := { D with nx := Pv (i + 1), ct := Pv (i + 1), bk := D.nx }; g x σ H fun σ2 H2 => tb D' σ2 H2) (hd : ∀ σ H, Pv xs.length σ H → D.nx σ H) :
    ∃ W : Nat → Nat → St → Hp → Prop, (∃ m, W 0 m σ H) ∧ ∀ i m σ H, W i m σ H →
      ((Itl K a).stop i H ∧ D.nx σ H) ∨ ((Itl K a).go i H ∧ ∃ N : St → Hp → Prop, (∀ σ' H', N σ' H' → ∃ m', m' < m ∧ W (i + 1) m' σ' H') ∧ ∀ x H', (Itl K a).yld i H x H' → g x σ H' fun σ2 H2 => tb { D with nx := N, ct := N, bk := D.nx } σ2 H2) := for_list Pv h0 hl hs hd
theorem j2p {lo : Int} {n : Nat} {g : TG} {tb : TS} {D : Ends} {σ : St} {H : Hp} (Pv : Nat → St → Hp → Prop) (h0 : Pv 0 σ H)
    (hs : ∀ i σ H, i < n → Pv i σ H → let D' : Ends := { D with nx := Pv (i + 1), ct := Pv (i + 1), bk := D.nx }; g (.int (lo + i)) σ H fun σ2 H2 => tb D' σ2 H2) (hd : ∀ σ H, Pv n σ H → D.nx σ H) :
    ∃ W : Nat → Nat → St → Hp → Prop, (∃ m, W 0 m σ H) ∧ ∀ i m σ H, W i m σ H →
      ((Itr lo n).stop i H ∧ D.nx σ H) ∨ ((Itr lo n).go i H ∧ ∃ N : St → Hp → Prop, (∀ σ' H', N σ' H' → ∃ m', m' < m ∧ W (i + 1) m' σ' H') ∧ ∀ x H', (Itr lo n).yld i H x H' → g x σ H' fun σ2 H2 => tb { D with nx := N, ct := N, bk := D.nx } σ2 H2) := j5f Pv h0 hs hd
end L2
end
noncomputable section
namespace L3
open PySem PySem.Spec PyProof.Rows L2
section
variable {X : Cx}
end
noncomputable def cxLm (X : Cx) (A : Around) (env : Env) (N : List Str) (s : Shared) (H : Hp) (pins : List (Addr × Obj)) : Cx :=
  { X with A := A.deeper env, N := N, s₀ := s, H₀ := H, env := env, outer := X.stack, stack := env :: X.stack, ex := [], fn := fun _ => false, calm := true, pn := X.pn ++ pins, xe := fun _ _ => False }
structure LamSc (scope : Scope) (y x : Str) : Prop where
  kind : scope.kind = .function
  co : scope.isCoroutine = false
  gen : scope.isGenerator = false
  cell : ∀ z ∈ scope.names, z.2 ≠ .cell
  ly : scope.names.lookup y = some .local
  lx : scope.names.lookup x = some .free
  fr : ∀ z ∈ scope.names, z.2 = .free → z.1 = x
end L3
end
noncomputable section
namespace L3
open PySem PySem.Spec PyProof.Rows L2
section
variable {prog : Program} {w : World} {A : Around} {E : Value → Shared → Prop} {s : Shared}
end
end L3
end
noncomputable section
namespace L3
open PySem PySem.Spec PyProof.Rows L2
end L3
end
noncomputable section
namespace L3
open PySem PySem.Spec PyProof.Rows L2
noncomputable def TbOk (P : Addr) (pos : Pos) (qual : Str) (H : Hp) : Prop :=
  H P = some (.tbl #[]) ∨ ∃ (c' : Addr) (oc : Obj) (vs : Array Value) (t : Tok), H P = some (.tbl #[rawInt pos.line, rawInt pos.col, .ref c']) ∧ H c' = some (.frz oc (.own c')) ∧ oc.data = .fields vs ∧ vs[1]? = some (.str qual t)
noncomputable def SameB (P : Addr) (H H' : Hp) : Prop := ∀ b o, b ≠ P → H b = some o → H' b = some o
noncomputable def CdAt (c' : Addr) (qual : Str) (H : Hp) : Prop := ∃ (oc : Obj) (vs : Array Value) (t : Tok), H c' = some (.frz oc (.own c')) ∧ oc.data = .fields vs ∧ vs[1]? = some (.str qual t)
noncomputable def tLam (P : Addr) (pos : Pos) (qual : Str) (params : Arguments) (body : Expr) (scope : Scope) (x : Str) (cx : Addr) (pm : Value) : TE := fun _ H Q => TbOk P pos qual H ∧ ∀ f c' ctv H2, SameB P H H2 → TbOk P pos qual H2 → H2 f = none → CdAt c' qual H2 →
  Q (.ref f) (upd H2 f (.ext fun h => h.get? f = some (PySem.W.kla_obj "<lambda>" qual params body scope [(x, cx)] pm c' ctv)))
end L3
end
noncomputable section
namespace L3
open PySem PySem.Spec PyProof.Rows L2
noncomputable def Itz (K : PySem.W.Frag) (a b : Addr) : It :=
  ⟨fun i H => ∃ xs ys x y, SqL K H a xs ∧ SqL K H b ys ∧ xs[i]? = some x ∧ ys[i]? = some y,
   fun i H v H' => ∃ T x y, v = .ref T ∧ H T = none ∧ H' = upd H T (.tup [x, y]) ∧ (∀ xs, SqL K H a xs → xs[i]? = some x) ∧ ∀ ys, SqL K H b ys → ys[i]? = some y,
   fun i H => ∃ xs ys, SqL K H a xs ∧ SqL K H b ys ∧ (xs.length ≤ i ∨ ys.length ≤ i)⟩
noncomputable def iZip (K : PySem.W.Frag) (ta : TA) : TI := fun σ H R => ta σ H fun vs H1 => ∃ a b, vs = [.ref a, .ref b] ∧ (∃ xs, SqL K H1 a xs) ∧ (∃ ys, SqL K H1 b ys) ∧ R (Itz K a b) H1
end L3
namespace L3
open PySem PySem.Spec PyProof.Rows L2
end L3
namespace L3
open PySem PySem.Spec PyProof.Rows L2
noncomputable def compOk (sc0 scope : Scope) (N : List Str) (x : Str) (caps : List Str) (idx : List Nat) : Bool :=
  (scope.kind == .function) && scope.names.all (fun y => y.2 != .cell && (y.2 != .local || scope.names.lookup y.1 == some .local) && (y.2 != .free || (scope.names.lookup y.1 == some .free && (sc0.names.lookup y.1 == some .cell || sc0.names.lookup y.1 == some .free)))) &&
  (scope.names.lookup x == some .local) && decide (x :: caps).Nodup && (idx.length == caps.length) && (idx.map fun i => N[i]?) == caps.map some && caps.all fun y => scope.names.contains (y, NameKind.free)
theorem j0s {X : Cx} {sc0 scope : Scope} {N : List Str} {x : Str} {caps : List Str} {idx : List Nat} (h1 : X.env.scope = sc0) (h2 : X.N = N) (h : compOk sc0 scope N x caps idx = true) : CompSc X scope x caps idx := by
  unfold compOk at h
  simp only [Bool.and_eq_true, List.all_eq_true, bne_iff_ne, ne_eq, Bool.or_eq_true, beq_iff_eq, decide_eq_true_eq, List.contains_iff_mem] at h
  obtain ⟨⟨⟨⟨⟨⟨a1, a2⟩, a3⟩, a4⟩, a5⟩, a6⟩, a7⟩ := h
  refine ⟨a1, fun y hy => (a2 y hy).1.1, fun y hy e => ?_, a3, fun y hy e => ?_, fun y hy e => ?_, a4, a5, fun k i y e1 e2 => ?_, fun y hy => a7 y hy⟩
  · rcases (a2 y hy).1.2 with z | z
    · exact absurd e z
    · exact z
  · rcases (a2 y hy).2 with z | z
    · exact absurd e z
    · exact z.1
  · rcases (a2 y hy).2 with z | z
    · exact absurd e z
    · show X.env.scope.names.lookup y.1 = some .cell ∨ X.env.scope.names.lookup y.1 = some .free
      rw [h1]; exact z.2
  · have e3 : (idx.map fun i => N[i]?)[k]? = (caps.map some)[k]? := by rw [a6]
    rw [List.getElem?_map, List.getElem?_map, e1, e2] at e3
    rw [h2]
    exact Option.some.inj e3
end L3
namespace L3
open PySem PySem.Spec PyProof.Rows L2
end L3
end
noncomputable section
namespace L3
open PySem PySem.Spec PyProof.Rows L2
end L3
end
noncomputable section
namespace L3
open PySem PySem.Spec PyProof.Rows L2
structure CF (K : PySem.W.Frag) (C : Addr) : Prop where
  cl : Cls K C
  ha : PySem.W.findIn K (.ref C) "__class__" = some (some (.builtin "object.__class__"))
  hn : PySem.W.specialIn K (.builtin "object.__class__") "__get__" = some (some (.builtin "getset_descriptor.__get__"))
  htk : PySem.W.takesIn K (.builtin "object.__class__") = some true
  hm : PySem.W.mroIn K C (.type "object") = some true
theorem cf_mk {K : PySem.W.Frag} {C : Addr} (pg : PySem.W.plainGet K C Str.empty = true) (hd : PySem.W.hasDictIn K C = true) (po : PySem.W.plainOver K C = true) (sa : PySem.W.findIn K (.ref C) "__setattr__" = some (some (.builtin "object.__setattr__")))
    (ha : PySem.W.findIn K (.ref C) "__class__" = some (some (.builtin "object.__class__"))) (hn : PySem.W.specialIn K (.builtin "object.__class__") "__get__" = some (some (.builtin "getset_descriptor.__get__"))) (htk : PySem.W.takesIn K (.builtin "object.__class__") = some true)
    (hm : PySem.W.mroIn K C (.type "object") = some true) : CF K C := ⟨⟨pg, hd, po, sa⟩, ha, hn, htk, hm⟩
structure TopF (K : PySem.W.Frag) (x qual : Str) (st : Stmt) : Prop where
  ex : ∃ (f : Addr) (fd : FuncData), PySem.W.nsIn K mainGlobals x = some (some (.ref f)) ∧ Fun K x qual st f fd
theorem j0i {K : PySem.W.Frag} {x qual : Str} {st : Stmt} {f : Addr} {oc : Value} {od an : Option Addr} {osl : Array (Option Value)} {kV doc pm cdv ct : Value} (a : PySem.W.nsIn K mainGlobals x = some (some (.ref f)))
    (l : K.lookup f = some ⟨oc, od, .func (PySem.W.fnOf x qual (j1a st) (j0x st) (j03 st) .none kV doc pm an cdv ct), osl⟩) (c : PySem.W.codeIn K cdv qual = true) (k : PySem.W.keepIn K (.ref f) = true) : TopF K x qual st := ⟨f, _, a, fun_mk l c k⟩
structure MthF (K : PySem.W.Frag) (C : Addr) (m qual : Str) (st : Stmt) : Prop where
  ex : ∃ (f : Addr) (fd : FuncData), Meth K C m f ∧ Fun K m qual st f fd
theorem mthF_mk {K : PySem.W.Frag} {C : Addr} {m qual : Str} {st : Stmt} {f : Addr} {oc : Value} {od an : Option Addr} {osl : Array (Option Value)} {kV doc pm cdv ct : Value} (a : PySem.W.findIn K (.ref C) m = some (some (.ref f))) (i : PySem.W.isFn K (.ref f) = true)
    (l : K.lookup f = some ⟨oc, od, .func (PySem.W.fnOf m qual (j1a st) (j0x st) (j03 st) .none kV doc pm an cdv ct), osl⟩) (c : PySem.W.codeIn K cdv qual = true) (k : PySem.W.keepIn K (.ref f) = true) : MthF K C m qual st := ⟨f, _, ⟨a, i, k⟩, fun_mk l c k⟩
section
variable {P : Program} {w : World} {K : PySem.W.Frag} {mg : Str → Option Value} {base h : Heap} {x qual m : Str} {st : Stmt} {ps : List Str} {k : Nat} {sp : Sp} {C : Addr}
abbrev BindsBy (x qual : Str) (st : Stmt) (ps : List Str) : Prop := ∀ (kV doc pm : Value) (an : Option Addr) (cdv ct : Value) (us : List Value), us.length = ps.length → bindArgs (PySem.W.fnOf x qual (j1a st) (j0x st) (j03 st) .none kV doc pm an cdv ct) ⟨us, []⟩ = pure (ps.zip us)
theorem Ok.of (t : TopF K x qual st) (X : K.In h) (G : h.Ns mainGlobals mg) (b : BindsBy x qual st ps) (ok : ∀ f fd, Fun K x qual st f fd → FnOk P w K mg base CX0 k f fd ps sp) : Ok P w K mg base k x ps sp := by
  obtain ⟨f, fd, a, F⟩ := t.ex
  exact ⟨f, fd, ok f fd F, PySem.W.mg_of X G a, F.kp, F.binds b⟩
theorem Bl.of (X : K.In h) (G : h.Ns mainGlobals mg) (z0 : PySem.W.nsIn K mainGlobals "len" = some none) (z1 : PySem.W.nsIn K mainGlobals "range" = some none) (z2 : PySem.W.nsIn K mainGlobals "list" = some none) (z3 : PySem.W.nsIn K mainGlobals "tuple" = some none) (z4 : PySem.W.nsIn K mainGlobals "int" = some none) (z5 : PySem.W.nsIn K mainGlobals "bool" = some none) (z6 : PySem.W.nsIn K mainGlobals "str" = some none) (z7 : PySem.W.nsIn K mainGlobals "isinstance" = some none) (z8 : PySem.W.nsIn K mainGlobals "sum" = some none) (z9 : PySem.W.nsIn K mainGlobals "sorted" = some none) (z10 : PySem.W.nsIn K mainGlobals "any" = some none) (z11 : PySem.W.nsIn K mainGlobals "all" = some none) (z12 : PySem.W.nsIn K mainGlobals "abs" = some none) (z13 : PySem.W.nsIn K mainGlobals "max" = some none) (z14 : PySem.W.nsIn K mainGlobals "min" = some none) : Bl mg :=
  ⟨PySem.W.mg_none_of X G z0, PySem.W.mg_none_of X G z1, PySem.W.mg_none_of X G z2, PySem.W.mg_none_of X G z3, PySem.W.mg_none_of X G z4, PySem.W.mg_none_of X G z5, PySem.W.mg_none_of X G z6, PySem.W.mg_none_of X G z7, PySem.W.mg_none_of X G z8, PySem.W.mg_none_of X G z9, PySem.W.mg_none_of X G z10, PySem.W.mg_none_of X G z11, PySem.W.mg_none_of X G z12, PySem.W.mg_none_of X G z13, PySem.W.mg_none_of X G z14⟩
end
end L3
end
noncomputable section
namespace L3
open PySem PySem.Spec PyProof.Rows L2
section
variable {X : Cx}
noncomputable def isB (k : Bool) : Value → Bool
  | .bool b => decide (b = k)
  | _ => false
end
end L3
end
noncomputable section
namespace L3
open PySem PySem.Spec PyProof.Rows L2
section
variable {X : Cx}
noncomputable def isN (k : Int) : Value → Bool
  | .int n _ => decide (n = k)
  | _ => false
end
end L3
end
noncomputable section
namespace L3
open PySem PySem.Spec PyProof.Rows L2
theorem j0j {H : Hp} {p : Addr} {o : HO} (h : H p = none) : Same H (upd H p o) := fun b u e => by rw [j0c (j0e e h)]; exact e
end L3
end
noncomputable section
namespace L3
open PySem PySem.Spec PyProof.Rows
noncomputable def Trx (B h : Heap) (e C : Addr) (fl : Value) : Prop := ∃ vs T oT ts, h.get? e = some { cls := .ref C, data := .fields vs } ∧ vs.size = 6 ∧ vs[2]? = some .none ∧ vs[1]? = some (.ref T) ∧ B.get? T = none ∧ T ≠ e ∧ h.get? T = some oT ∧ oT.data = .fields ts ∧ ts[3]? = some fl
structure Hx (B : Heap) (l : List Env) (e C : Addr) (fl : Value) (h : Heap) : Prop where
  st : B.StaysIn h
  ne : B.get? e = none
  fr : h.FunFrames B l
  tr : Trx B h e C fl
section
variable {M : Model} {A : Around} {E : Value → Shared → Prop} {s : Shared} {B : Heap} {l outer : List Env} {env : Env} {e C L : Addr} {fl : Value}
theorem j1r {h : Heap} {a : Addr} {o : Obj} {vs : Array Value} {k : Nat} {v : Value} (ho : h.get? a = some o) (hd : o.data = .fields vs) :
    (h.update a (Obj.mapFields (·.setIfInBounds k v))).get? a = some { o with data := .fields (vs.setIfInBounds k v) } := by
  have e : Obj.mapFields (·.setIfInBounds k v) o = { o with data := .fields (vs.setIfInBounds k v) } := by
    obtain ⟨c, d, dt, sl⟩ := o
    cases (show dt = .fields vs from hd)
    rfl
  have := Heap.get?_update_self (Obj.mapFields (·.setIfInBounds k v)) ho (by rw [e]; rfl)
  rw [e] at this
  exact this
theorem j66 {fl' : Value} {Q : Unit → Shared → Prop} (x : Hx B l e C fl s.heap) (q : ∀ h', Hx B l e C fl' h' → s.heap.UpToSlots h' → Q () { s with heap := h' }) :
    ∀ {T : Addr} {vs : Array Value}, s.heap.get? e = some { cls := .ref C, data := .fields vs } → vs[1]? = some (.ref T) → wpAny M A (setField (.ref T) 3 fl') Q E s := by
  intro T vs' hv' h1'
  obtain ⟨st, ne, fr, vs, T0, oT, ts, he, h6, h2, h1, nT, nTe, hT, dT, t3⟩ := x
  rw [he] at hv'
  cases hv'
  rw [h1] at h1'
  cases h1'
  have s3 : 3 < ts.size := (Array.getElem?_eq_some_iff.mp t3).1
  have oth : ∀ b, b ≠ T → (s.heap.update T (Obj.mapFields (·.setIfInBounds 3 fl'))).get? b = s.heap.get? b := fun b hb => Heap.get?_update_other _ _ (Ne.symm hb)
  have nr : ∀ b o, s.heap.get? b = some o → (∀ vs, o.data ≠ .fields vs) → b ≠ T := fun b o hb hn z => by
    rw [z, hT] at hb
    cases hb
    exact hn ts dT
  refine wpAny_setField hT dT s3 (q _ ⟨fun b o hb => ?_, ne, fr.of_keeps fun b o hb hn => ⟨o, ?_, rfl⟩, vs', T, _, _, ?_, h6, h2, h1, nT, nTe, j1r hT dT, rfl, by simp [s3]⟩ fun b o hb hn => ⟨o.slots, ?_⟩)
  · rw [oth b fun z => by rw [z, nT] at hb; cases hb]
    exact st b o hb
  · rw [oth b (nr b o hb hn)]
    exact hb
  · rw [oth e (Ne.symm nTe)]
    exact he
  · rw [oth b (nr b o hb hn)]
    exact hb
theorem j4g {Q : Unit → Shared → Prop} (x : Hx B l e C fl s.heap) (q : ∀ h', Hx B l e C .none h' → s.heap.UpToSlots h' → Q () { s with heap := h' }) : wpAny M A (setFlight (.ref e) none) Q E s := by
  obtain ⟨vs, T, oT, ts, he, h6, h2, h1, _⟩ := id x.tr
  unfold setFlight
  refine wpAny_bind (wpAny_field he rfl h1 ?_)
  rw [if_pos (by simp)]
  exact j66 x q he h1
theorem j67 {vs : Array Value} {head : Value} {hn : Bool} {Q : Unit → Shared → Prop} (hfr : A.frames = some (env :: outer)) (hf : env.frame = some L) (st : B.StaysIn s.heap) (ne : B.get? e = none) (fr : s.heap.FunFrames B (env :: outer))
    (he : s.heap.get? e = some { cls := .ref C, data := .fields vs }) (h6 : vs.size = 6) (h2 : vs[2]? = some .none) (q : ∀ h', Hx B (env :: outer) e C (rawInt L) h' → s.heap.UpToSlots h' → Q () { s with heap := h' }) :
    wpAny M A (do let a ← frameOf env; let pl ← entryPlaceOf L hn; let b ← EntryCells.newEntry head a .none (rawInt L) .none pl; setField (.ref e) 1 b) Q E s := by
  have ef : e ∉ (env :: outer).filterMap (·.frame) := fun hm => by
    obtain ⟨_, o, ho, d⟩ := fr.mem hm
    rw [he] at ho
    cases ho
    exact d vs rfl
  refine wpAny_bind (wpAny_frameOf_fun hfr fr hf fun h1 sl1 => wpAny_bind (wpAny_entryPlaceOf fun pl hpl => ?_))
  unfold EntryCells.newEntry newFields
  refine wpAny_bind (wpAny_newObj_type ?_ (hpl.sizeOk5 _ _ _ _ _))
  generalize hob : ({ cls := .type "traceback", data := .fields ([head, .ref L, .none, rawInt L, .none] ++ (if pl.isEmpty then List.replicate 6 Value.none else pl)).toArray } : Obj) = ob
  have e1 : h1.get? e = some { cls := .ref C, data := .fields vs } := (sl1.2.1 e ef).trans he
  have k1 : B.StaysIn h1 := fun b o hb => (sl1.2.1 b fun hm => by rw [(fr.mem hm).1] at hb; cases hb).trans (st b o hb)
  have e2 : (h1.push ob).get? e = some { cls := .ref C, data := .fields vs } := Heap.get?_push_of_some _ e1
  have nT : h1.objs.size ≠ e := Nat.ne_of_gt (Heap.lt_size e1)
  have bT : B.get? h1.objs.size = none := by
    cases z : B.get? h1.objs.size with
    | none => rfl
    | some o => exact absurd (Heap.lt_size (k1 _ _ z)) (Nat.lt_irrefl _)
  have kp : ∀ b o, b ≠ e → h1.get? b = some o → ((h1.push ob).update e (Obj.mapFields (·.setIfInBounds 1 (.ref h1.objs.size)))).get? b = some o := fun b o hb z => by
    rw [Heap.get?_update_other _ _ (Ne.symm hb)]
    exact Heap.get?_push_of_some _ z
  have nr : ∀ b o, s.heap.get? b = some o → (∀ vs, o.data ≠ .fields vs) → b ≠ e := fun b o hb d z => by
    rw [z, he] at hb
    cases hb
    exact d vs rfl
  refine wpAny_setField e2 rfl (by omega) (q _ ⟨fun b o hb => kp b o (fun z => by rw [z, ne] at hb; cases hb) (k1 b o hb), ne, fr.of_keeps fun b o hb d => ?_, _, h1.objs.size, ob, _, j1r e2 rfl, by simp [h6], ?_, by simp [h6], bT, nT, ?_, by rw [← hob], ?_⟩ fun b o hb d => ?_)
  · obtain ⟨sl, z⟩ := sl1.2.2 b o hb
    exact ⟨_, kp b _ (nr b o hb d) z, rfl⟩
  · rw [Array.getElem?_setIfInBounds_ne (by decide)]
    exact h2
  · rw [Heap.get?_update_other _ _ (Ne.symm nT)]
    exact Heap.get?_push_size _ (by rw [← hob]; rfl)
  · simp
  · obtain ⟨sl, z⟩ := sl1.2.2 b o hb
    exact ⟨sl, kp b _ (nr b o hb d) z⟩
theorem j3y {Q : Unit → Shared → Prop} (hfr : A.frames = some (env :: outer)) (hf : env.frame = some L) (x : Hx B (env :: outer) e C fl s.heap) (q : ∀ h', Hx B (env :: outer) e C (rawInt L) h' → s.heap.UpToSlots h' → Q () { s with heap := h' }) :
    wpAny M A (noteFrame (.ref e) env) Q E s := by
  obtain ⟨vs, T, oT, ts, he, h6, h2, h1, nT, nTe, hT, dT, t3⟩ := id x.tr
  unfold noteFrame
  simp only [hf]
  refine wpAny_bind (wpAny_field he rfl h1 ?_)
  rw [if_pos (by simp)]
  refine wpAny_bind (wpAny_field hT dT t3 ?_)
  by_cases c : (fl == rawInt L) = true
  · rw [if_pos c]
    have e := beq_iff_eq.mp c
    subst e
    exact wpAny_pure (q s.heap x (Heap.UpToSlots.refl _))
  · rw [if_neg c]
    refine wpAny_bind (j66 x (fun h' x' up => ?_) he h1)
    obtain ⟨vs', T', oT', ts', he', h6', h2', _⟩ := id x'.tr
    exact j67 (s := { s with heap := h' }) hfr hf x'.st x'.ne x'.fr he' h6' h2' fun h'' x'' up2 => q h'' x'' (up.trans up2)
theorem note_new {a0 : Value} {h0 : Heap} {vs : List Value} {Q : Unit → Shared → Prop} (hfr : A.frames = some (env :: outer)) (hf : env.frame = some L) (st : B.StaysIn h0) (fr : h0.FunFrames B (env :: outer)) (mx : Heap.MadeExcOf h0 s.heap e (.ref C) vs)
    (q : ∀ h', Hx B (env :: outer) e C (rawInt L) h' → s.heap.UpToSlots h' → Q () { s with heap := h' }) : wpAny M A (noteFrame (.ref e) env) Q E s := by
  obtain ⟨t, he, _⟩ := mx.there
  have ne : B.get? e = none := by
    cases z : B.get? e with
    | none => rfl
    | some o =>
      have := st e o z
      rw [mx.new] at this
      cases this
  unfold noteFrame
  simp only [hf]
  refine wpAny_bind (wpAny_field he rfl (x := .none) rfl ?_)
  rw [if_neg (by simp)]
  exact j67 hfr hf (fun b o hb => mx.keeps b o (st b o hb)) ne (fr.of_keeps fun b o hb _ => ⟨o, mx.keeps b o hb, rfl⟩) he rfl rfl q
theorem Hx.tail {h : Heap} (x : Hx B (env :: outer) e C fl h) : Hx B outer e C fl h := ⟨x.st, x.ne, x.fr.2.2, x.tr⟩
theorem j68 {h0 : Heap} {vs : List Value} {Q : Unit → Shared → Prop} (hfr : A.frames = some (env :: outer)) (hf : env.frame = some L) (st : B.StaysIn h0) (fr : h0.FunFrames B (env :: outer)) (mx : Heap.MadeExcOf h0 s.heap e (.ref C) vs)
    (q : ∀ h', Hx B outer e C .none h' → s.heap.UpToSlots h' → Q () { s with heap := h' }) : wpAny M A (leaving env (.ref e)) Q E s := by
  unfold leaving
  exact wpAny_bind (note_new (a0 := .none) hfr hf st fr mx fun h' x up => j4g (s := { s with heap := h' }) x fun h'' x' up' => q h'' x'.tail (up.trans up'))
theorem j4y {Q : Unit → Shared → Prop} (hfr : A.frames = some (env :: outer)) (hf : env.frame = some L) (x : Hx B (env :: outer) e C fl s.heap) (q : ∀ h', Hx B outer e C .none h' → s.heap.UpToSlots h' → Q () { s with heap := h' }) :
    wpAny M A (leaving env (.ref e)) Q E s := by
  unfold leaving
  exact wpAny_bind (j3y hfr hf x fun h' x up => j4g (s := { s with heap := h' }) x fun h'' x' up' => q h'' x'.tail (up.trans up'))
theorem j69 {e' : Value} {env1 env2 : Env} (h : env1.frame = env2.frame) : noteFrame e' env1 = noteFrame e' env2 := by
  unfold noteFrame PySem.frameOf
  rw [h]
theorem pass_x {α : Type} {what : String} {Q : α → Shared → Prop} (x : Hx B l e C fl s.heap) (q : ∀ h' fl', Hx B l e C fl' h' → s.heap.UpToSlots h' → E (.ref e) { s with heap := h' }) : wpAny M A (PySem.passOn what (.ref e) env) Q E s := by
  obtain ⟨vs, T, oT, ts, he, h6, h2, h1, _⟩ := id x.tr
  unfold PySem.passOn setFlight
  refine wpAny_bind (wpAny_field he rfl h1 ?_)
  rw [if_neg (by simp)]
  refine wpAny_bind (wpAny_bind (wpAny_field he rfl h1 ?_))
  rw [if_pos (by simp)]
  exact j66 x (fun h' x' up => wpAny_throw (q h' _ x' up)) he h1
theorem Hx.hide {h h' : Heap} {a : Addr} (x : Hx B l e C fl h) (sb : Heap.SameBut a h h') (na : a ∉ l.filterMap (·.frame)) (ne : a ≠ e) (nt : ∀ o, h.get? a = some o → ∀ vs, o.data ≠ .fields vs) : Hx (B.hide a) l e C fl h' := by
  obtain ⟨st, ne', fr, vs, T, oT, ts, he, h6, h2, h1, nT, nTe, hT, dT, t3⟩ := x
  have hn : ∀ b, B.get? b = none → (B.hide a).get? b = none := fun b z => by
    cases q : (B.hide a).get? b with
    | none => rfl
    | some o => rw [Heap.of_hide q] at z; cases z
  have Ta : T ≠ a := fun z => nt oT (by rw [← z]; exact hT) ts dT
  refine ⟨fun b o z => ?_, hn _ ne', ?_, vs, T, oT, ts, (sb.2 e (Ne.symm ne)).trans he, h6, h2, h1, hn _ nT, nTe, (sb.2 T Ta).trans hT, dT, t3⟩
  · have z1 := Heap.of_hide z
    by_cases c : b = a
    · rw [c, Heap.hide_self] at z
      cases z
    · rw [sb.2 b c]
      exact st b o z1
  · have all : ∀ l : List Env, a ∉ l.filterMap (·.frame) → h.FunFrames B l → h'.FunFrames (B.hide a) l := by
      intro l
      induction l with
      | nil => intro _ _; trivial
      | cons env r ih =>
        rintro hn' ⟨k, ⟨L, o, f, n, g, d⟩, rr⟩
        have La : L ≠ a := fun z => hn' (by rw [List.filterMap_cons, f]; exact z ▸ List.mem_cons_self)
        exact ⟨k, ⟨L, o, f, hn _ n, (sb.2 L La).trans g, d⟩, ih (fun z => hn' (by rw [List.filterMap_cons, f]; exact List.mem_cons_of_mem _ z)) rr⟩
    exact all l na fr
end
end L3
end
noncomputable section
namespace L3
open PySem PySem.Spec PyProof.Rows L2
abbrev VEb : List Value := [.type "ValueError", .type "Exception", .type "BaseException", .type "object"]
structure Fly (P : Program) (w : World) (outer : List Env) (H : Hp) (h : Heap) (H' : Hp) (x C : Addr) (h' : Heap) : Prop where
  un : Un (frs outer) [] H H' h h'
  new : H' x = none
  fl : ∃ B fl, Hx B outer x C fl h' ∧ HOk P w H' B ∧ ∀ b o, h.get? b = some o → b ∉ frs outer → ∃ o', B.get? b = some o'
noncomputable def CX1 (P : Program) (w : World) (C : Addr) : CXT := fun outer H s E e s' => ∃ (x : Addr) (H' : Hp), e = .ref x ∧ s'.os = s.os ∧ AllBare s'.gens ∧ Fly P w outer H s.heap H' x C s'.heap ∧ E e (some x) H'
theorem j6a {P : Program} {w : World} {H : Hp} {h : Heap} {a : Addr} {o : HO} (x : j0v P w H h a o) : ∃ u, h.get? a = some u := by
  cases o with
  | lst _ => exact let ⟨_, _, _, _, e⟩ := x; ⟨_, e⟩
  | tup _ => exact let ⟨_, _, _, _, e, _⟩ := x; ⟨_, e⟩
  | dK _ => exact let ⟨_, _, _, _, _, _, _, e, _⟩ := x; ⟨_, e⟩
  | dT _ => exact let ⟨_, _, _, _, _, _, _, e, _⟩ := x; ⟨_, e⟩
  | set _ _ => exact let ⟨_, _, _, _, e, _⟩ := x; ⟨_, e⟩
  | ins _ _ _ => exact let ⟨_, _, _, e, _⟩ := x; ⟨_, e⟩
  | own _ => exact let ⟨_, e⟩ := x; ⟨_, e⟩
  | xd _ => exact let ⟨_, ⟨_, _, _, e, _⟩, _⟩ := x; ⟨_, e⟩
  | rng _ _ => exact let ⟨_, _, _, e⟩ := x; ⟨_, e⟩
  | frz _ _ => exact ⟨_, x.1⟩
  | tbl _ => exact ⟨_, x⟩
  | met _ _ => exact ⟨_, x⟩
  | ext _ => exact let ⟨_, ⟨_, e⟩, _⟩ := x; ⟨_, e⟩
theorem un_on {fs : List Addr} {H H' : Hp} {h h1 h2 B : Heap} (u : Un fs [] H H' h h1) (k1 : B.StaysIn h1) (k2 : B.StaysIn h2) (cov : ∀ b o, h.get? b = some o → b ∉ fs → ∃ o', B.get? b = some o') (up : h1.UpToSlots h2)
    (nf : ∀ b ∈ fs, H b = none ∧ ∀ o, h.get? b = some o → ∀ vs, o.data ≠ .fields vs) : Un fs [] H H' h h2 := by
  have kp : ∀ b o, h.get? b = some o → H b = none → b ∉ fs → h2.get? b = some o := fun b o e n hb => by
    obtain ⟨o', e'⟩ := cov b o e hb
    have q1 := u.keep b o e n hb (by simp)
    rw [k1 b o' e'] at q1
    rw [← Option.some.inj q1]
    exact k2 b o' e'
  have sl : ∀ b o, h.get? b = some o → b ∈ fs → ∃ sl, h2.get? b = some { o with slots := sl } := fun b o e hb => by
    obtain ⟨n, nd⟩ := nf b hb
    obtain ⟨s1, e1⟩ := u.slot b o e n hb (by simp)
    obtain ⟨s2, e2⟩ := up b _ e1 (nd o e)
    exact ⟨s2, e2⟩
  refine ⟨fun b o e n hb _ => kp b o e n hb, fun b o e _ hb _ => sl b o e hb, u.free, fun b o e _ => ?_, u.tups, u.frzs, u.tbls⟩
  by_cases hb : b ∈ fs
  · obtain ⟨s1, e1⟩ := sl b o e hb
    exact ⟨_, e1⟩
  · obtain ⟨o', e'⟩ := cov b o e hb
    exact ⟨o', k2 b o' e'⟩
section
variable {X : Cx} {pins : List (Addr × Obj)} {σ : L2.St} {H : Hp} {s : Shared}
theorem j6b {l : List Env} {env : Env} {a : Addr} (h : env ∈ l) (e : env.frame = some a) : a ∈ frs l := List.mem_filterMap.mpr ⟨env, h, e⟩
theorem Inv.frm (I : L2.Inv X pins σ H s) : ∀ b ∈ frs X.outer, X.H₀ b = none ∧ ∀ o, X.s₀.heap.get? b = some o → ∀ vs, o.data ≠ .fields vs := fun b hb => by
  refine ⟨I.ok.frf b hb, fun o e => ?_⟩
  obtain ⟨_, o', e', d⟩ := I.ok.funs.mem hb
  rw [e] at e'
  cases e'
  exact d
theorem Inv.frmS (I : L2.Inv X pins σ H s) : ∀ b ∈ frs X.stack, H b = none ∧ ∀ o, s.heap.get? b = some o → ∀ vs, o.data ≠ .fields vs := fun b hb => by
  refine ⟨I.stkFree b hb, fun o e => ?_⟩
  obtain ⟨_, o', e', d⟩ := I.stack.mem hb
  rw [e] at e'
  cases e'
  exact d
theorem Inv.old (I : L2.Inv X pins σ H s) {b : Addr} {o : Obj} (e : X.s₀.heap.get? b = some o) (n : b ∉ frs X.outer) : b ∉ frs X.stack := fun z => by
  rcases List.mem_cons.mp (I.stkSub b z) with y | y
  · exact absurd (Heap.lt_size e) (by rw [y]; exact Nat.not_lt.mpr I.ok.above)
  · exact n y
theorem j4z {env : Env} {outer : List Env} {C x : Addr} {vs : List Value} {h' : Heap} {Q : Unit → Shared → Prop} {E : Value → Shared → Prop} (hs : X.stack = env :: outer) (ho : X.outer = outer) (hex : X.ex = []) {L : Addr} (hf : env.frame = some L) (I : L2.Inv X pins σ H s) (mx : Heap.MadeExcOf s.heap h' x (.ref C) vs)
    (q : ∀ h'', Fly X.prog X.w outer X.H₀ X.s₀.heap H x C h'' → Q () { s with heap := h'' }) : wpAny (model X.prog X.w) X.A (leaving env (.ref x)) Q E { s with heap := h' } := by
  have hin : ∀ e ∈ X.stack, ∀ b, e.frame = some b → b ∈ frs X.stack := fun e he b hb => j6b he hb
  have st : (PySem.W.hideAll s.heap (frs X.stack)).StaysIn s.heap := fun b o e => PySem.W.of_hideAll _ e
  have ff := PySem.W.funFrames_hide (as := frs X.stack) I.stack hin
  have hk : HOk X.prog X.w H (PySem.W.hideAll s.heap (frs X.stack)) := fun b u e => by
    refine (I.hok b u e).stay (fun c v hc q => PySem.W.hideAll_get _ q fun z => ?_) (fun _ q => q) fun _ _ q => q
    have n := I.stkFree c z
    rcases hc with y | y
    · rw [y, e] at n; cases n
    · rw [y] at n; cases n
  have b0 := I.base
  rw [hex] at b0
  refine j68 (s := { s with heap := h' }) (by rw [← hs]; exact I.ok.frames) hf st (by rw [← hs]; exact ff) mx fun h'' fl up => q h'' ⟨?_, ?_, _, _, fl, hk, fun b o e n => ?_⟩
  · have up2 : s.heap.UpToSlots h'' := (Heap.UpToSlots.of_keeps mx.keeps).trans up
    rw [← ho]
    refine un_on (B := PySem.W.hideAll s.heap (frs X.stack)) b0 st fl.st (fun b o e n => ?_) up2 (Inv.frm I)
    obtain ⟨o', e'⟩ := b0.there b o e (by simp)
    exact ⟨o', PySem.W.hideAll_get _ e' (Inv.old I e n)⟩
  · cases hx : H x with
    | none => rfl
    | some u =>
      have lt := mx.new
      obtain ⟨o, e⟩ := j6a (I.hok x u hx)
      rw [lt] at e
      cases e
  · obtain ⟨o', e'⟩ := b0.there b o e (by simp)
    exact ⟨o', PySem.W.hideAll_get _ e' (Inv.old I e (by rw [ho]; exact n))⟩
end
theorem j31 {K : PySem.W.Frag} {h : Heap} {C : Addr} (X : K.In h) (q : PySem.W.excIn K C VEb "ValueError.__new__" = true) :
    ∃ bm N nm qn bs hd sn sub ab col dd k0 k1 k2 k3 k5 mN, h.get? C = some (excClassObj nm qn C N bs bm hd sn sub ab col dd k0 k1 k2 k3 k5 "ValueError.__new__") ∧ h.Ns N mN ∧ mN "__init__" = none ∧ OwnTail h VEb bm := by
  unfold PySem.W.excIn at q
  split at q
  case h_2 => cases q
  case h_1 dd cd sl ho =>
    split at q
    case h_2 => cases q
    case h_1 C' bm k0 k1 k2 k3 n k5 hm hs =>
      simp only [Bool.and_eq_true, beq_iff_eq, Bool.not_eq_true'] at q
      obtain ⟨⟨⟨⟨⟨rfl, rfl⟩, hdel⟩, ht⟩, hok⟩, hni⟩ := q
      obtain ⟨nm, bs, mro, ns, qn, hd, sn, sub, ab, col, del⟩ := cd
      cases (show mro = .ref C' :: bm from hm)
      cases (show del = false from hdel)
      obtain ⟨l⟩ := sl
      cases (show l = [k0, k1, k2, k3, some (.builtin "ValueError.__new__"), k5] from hs)
      exact ⟨bm, ns, nm, qn, bs, hd, sn, sub, ab, col, dd, k0, k1, k2, k3, k5, _, X _ _ ho, .of_isNs (PySem.W.isNs_of_in X hok), PySem.W.nsMap_none_of_in X hok hni, PySem.W.tail_of_in X ht⟩
section
variable {X : Cx}
theorem j32 {cname msg : Str} {j : Nat} {p np cpos pos : Pos} {C : Addr} {R : Hp → Prop} (hg : Gl X cname) (hm : X.mg cname = some (.ref C)) (q : PySem.W.excIn X.K C VEb "ValueError.__new__" = true) (hc : X.calm = true)
    (rs : ∀ (pins : List (Addr × Obj)) (σ : L2.St) (H : Hp) (s : Shared) (h' : Heap) (x : Addr) (vs : List Value), L2.Inv X pins σ H s → R H → Heap.MadeExcOf s.heap h' x (.ref C) vs → X.xe (.ref x) { s with heap := h' })
    (hd : (cname == ("__debug__" : Str)) = false := by decide) (he : starEach [.Constant (.str msg) j p] X.env = (false, eval (.Constant (.str msg) j p) X.env) :: starEach [] X.env := by rfl) :
    PS X (.Raise (some (.Call (.Name cname np) [.Constant (.str msg) j p] [] cpos)) none pos) (fun _ _ H => R H) := by
  intro pins s σ H D I h
  obtain ⟨bm, N, nm, qn, bs, hdc, sn, sub, ab, col, dd, k0, k1, k2, k3, k5, mN, hC, hN, hni, T⟩ := j31 I.mod.kin q
  refine wpAny_Raise_call_subT (bmB := VEb) (C := C) (N := N) (nm := nm) (q := qn) (bs := bs) (bm := bm) (hdct := hdc) (sn := sn) (sub := sub) (ab := ab) (col := col) (dd := dd) (k0 := k0) (k1 := k1) (k2 := k2) (k3 := k3) (k5 := k5) PySem.F.excBase_ValueError (T.hasType rfl) (I.ok.hd hc) (by rw [he]; rfl) hni (j26 I hg hm ⟨rfl, ?_⟩ hd)
  have pa : PA X [.Constant (.str msg) j p] (j3d (tC (.str msg)) tNil) := j00 j0f j01 he
  have w0 := pa cpos pins s σ H (fun vs H1 => H1 = H ∧ vs.length = 1) I ⟨rfl, rfl⟩
  rw [he] at w0 ⊢
  refine Calls.evalArgs_plain (thn w0 fun us s1 ⟨vs, H1, I1, r, e1, l1⟩ => ⟨rfl, ?_, I1.bk _ _ hC, hN.keeps I1.bk, T.keeps I1.bk, fun h' x mx => ?_⟩)
  · rw [← r.length, l1]
    decide
  · subst e1
    exact rs pins σ _ s1 h' x us I1 h mx
end
section
variable {P : Program} {w : World} {K : PySem.W.Frag} {mg : Str → Option Value} {base : Heap} {N : List Str} {qual : Str} {scope : Scope} {f C : Addr} {cd : Value} {A : Around} {outer : List Env} {s : Shared} {H : Hp} {E : XK}
theorem rs_of (pins : List (Addr × Obj)) (σ : L2.St) (H1 : Hp) (s1 : Shared) (h' : Heap) (x : Addr) (vs : List Value) (I : L2.Inv (cxOf (CX1 P w C) P w K mg base N qual scope f cd A outer s H E) pins σ H1 s1) (r : ∀ x, H1 x = none → E (.ref x) (some x) H1)
    (mx : Heap.MadeExcOf s1.heap h' x (.ref C) vs) : (cxOf (CX1 P w C) P w K mg base N qual scope f cd A outer s H E).xe (.ref x) { s1 with heap := h' } :=
  j4z (X := cxOf (CX1 P w C) P w K mg base N qual scope f cd A outer s H E) rfl rfl rfl rfl I mx fun h'' fl => ⟨x, H1, rfl, I.os, I.bare, fl, r x fl.new⟩
end
theorem okX {P : Program} {w : World} {K : PySem.W.Frag} {mg : Str → Option Value} {base : Heap} {C : Addr} {x qual : Str} {st : Stmt} {f : Addr} {fd : FuncData} {N ps : List Str} {k : Nat} {sp : Sp} (F : Fun K x qual st f fd) (S : FnScope N ps (j03 st)) (len : ∀ vs H Q E, sp vs H Q E → vs.length = ps.length)
    (hbody : ∀ (cdv : Value) (A : Around) (outer : List Env) (s : Shared) (H : Hp) (vs : List V) (Q : VK) (E : XK), Room k (A.deeper (envOfC qual (j03 st) s.heap.objs.size f cdv)) → sp vs H Q E →
      ∃ t, PSs (cxOf (CX1 P w C) P w K mg base N qual (j03 st) f cdv A outer s H E) (j0x st) t ∧ t { nx := fun _ H' => Q .non H', rt := Q } (j2w N vs) H) : FnOk P w K mg base (CX1 P w C) (k + 1) f fd ps sp := by
  obtain ⟨oc, od, kV, doc, pm, an, cdv, ct, osl, rfl, lk, hcd⟩ := F.ex
  exact fn_of lk hcd S len fun A outer s H vs Q E hr hsp => hbody cdv A outer s H vs Q E hr hsp
end L3
end
noncomputable section
namespace L3
open PySem PySem.Spec PySem.Calls PyProof.Rows PySem.W
section
variable {prog : Program} {w : World} {A : Around} {E : Value → Shared → Prop} {s : Shared} {K : PySem.W.Frag} {x C : Addr} {ox : Obj}
structure ExcK (K : PySem.W.Frag) (C : Addr) : Prop where
  ex : PySem.W.excIn K C VEb "ValueError.__new__" = true
  ga : findIn K (.ref C) "__getattribute__" = some (some (.builtin "BaseException.__getattribute__"))
  gt : findIn K (.ref C) "__getattr__" = some none
  fi : findObj K C none "__class__" = some (.bind (.builtin "getset_descriptor.__get__") (.builtin "object.__class__"))
  mo : mroIn K C (.type "object") = some true
  mb : mroIn K C (.type "BaseException") = some true
theorem j6c {tk : Tok} {P : Fin → Shared → Prop} (Z : ExcK K C) (X : K.In s.heap) (I : InstAt s.heap x ox C none) (h : P (.done (.ret (.ref C))) s) :
    wpAny (model prog w) A (Builtin.«object.__getattribute__» ⟨[.ref x, .str "__class__" tk], []⟩) P E s := by
  obtain ⟨hh, g, d, t, os⟩ := s
  have L0 := I.type (M := model prog w)
  have L3 := looks_find (M := model prog w) X I Z.fi
  unfold Builtin.«object.__getattribute__»
  repeat (any_goals (first | assumption | with_reducible refine Looks.at (by assumption) ?_ | wp_step))
  exact class_get X I Z.mo (wpAny_pure h)
theorem j6d {M : Model} {nm : Value} {Q : Unit → Shared → Prop} (Z : ExcK K C) (X : K.In s.heap) (I : InstAt s.heap x ox C none) (hq : Q () s) : wpAny M A (checkBuiltinCall "BaseException.__getattribute__" ⟨[.ref x, nm], []⟩) Q E s := by
  obtain ⟨hh, g, d, t, os⟩ := s
  have L0 := I.type (M := M)
  have L4 := looks_mroIn (M := M) X Z.mb
  have kd : builtinKind "BaseException.__getattribute__" = some .slot := by decide +kernel
  have sp : splitId "BaseException.__getattribute__" = some ("BaseException", "__getattribute__") := by decide +kernel
  have ha := F.args_bexc_ga (.ref x) nm
  simp only [checkBuiltinCall, kd, sp]
  refine wpAny_bind ?_
  unfold isInstance
  repeat (first | with_reducible refine Looks.at (by assumption) ?_ | wp_step)
  exact hq
theorem exc_ca {Q : Option Value → Shared → Prop} (Z : ExcK K C) (X : K.In s.heap) (I : InstAt s.heap x ox C none) (h : Q (some (.ref C)) { s with toks := s.toks + 1 }) : wpAny (model prog w) A (getAttr? (.ref x) "__class__") Q E s := by
  obtain ⟨hh, g, d, t, os⟩ := s
  have L0 := I.type (M := model prog w)
  have L1 := looks_findIn (M := model prog w) X Z.ga
  have L2 := looks_findIn (M := model prog w) X Z.gt
  unfold getAttr? getAttrBy? getAttrBy
  refine wpAny_bind (wpAny_mkText (wpAny_bind (wpAny_attempt (wpAny_holding (wpAny_bind (L0.at (wpAny_bind (L1.at ?_))))))))
  dsimp only
  have hx2 : (Value.builtin "BaseException.__getattribute__" == Value.builtin "object.__getattribute__") = false := by decide +kernel
  rw [hx2, Bool.and_false, if_neg Bool.false_ne_true]
  unfold getAttrByItsOwn
  repeat (any_goals (first | assumption | with_reducible refine Looks.at (by assumption) ?_ | wp_step))
  refine wpAny_of_eq (PySem.F.attrBase_ValueError.ga.bind (.ref x)) ?_
  dsimp only
  refine wpAny_call (codeAny_call_builtin PySem.F.attrBase_ValueError.ga.plain F.entry_bexc_ga (j6d (s := ⟨hh, g, d, t + 1, os⟩) Z X I (j6c (s := ⟨hh, g, d, t + 1, os⟩) Z X I ?_)))
  show wpAny _ _ (handedOut (.ref C)) _ _ _
  exact handed_on rfl (wpAny_pure h)
theorem kitx_exc (Z : ExcK K C) : KitX K (.ref x) (.ref C) (fun h => InstAt h x ox C none) where
  ty := fun _ _ _ I => I.type
  it := fun M h X _ => by
    obtain ⟨bm, N, nm, qn, bs, hd, sn, sub, ab, col, dd, k0, k1, k2, k3, k5, mN, hC, _⟩ := j31 X Z.ex
    intro A' Q' E' s' k q
    unfold isType loadHead
    exact wpAny_bind (wpAny_loadPart (k _ _ hC) (wpAny_pure q))
  ne := fun h tp dd its n sl X htp => by
    obtain ⟨bm, N, nm, qn, bs, hd, sn, sub, ab, col, dd', k0, k1, k2, k3, k5, mN, hC, _⟩ := j31 X Z.ex
    refine Bool.eq_false_iff.mpr fun q => ?_
    have e : C = tp := Value.ref.inj (beq_iff_eq.mp q)
    subst e
    have z := hC.symm.trans htp
    have z2 := congrArg Obj.data (Option.some.inj z)
    cases z2
  ca := fun X I k => exc_ca Z X I k
end
end L3
end
noncomputable section
namespace L3
open PySem PySem.Spec PyProof.Rows
theorem j3z : entryFor table "proto.unchain" = some Builtin.«proto.unchain» := entryFor_of_tree (by kernel_rfl)
theorem j50 : plainId "proto.unchain" = true := by decide +kernel
section
variable {prog : Program} {w : World} {A : Around} {E : Value → Shared → Prop} {s : Shared}
noncomputable def Hd (x : Addr) (h : Heap) : Prop := ∃ ox vs, h.get? x = some ox ∧ ox.data = .fields vs ∧ vs[2]? = some .none
theorem stop_h {B : Around} {α : Type} {P : α → Shared → Prop} {x : Addr} (hh : B.handled = some (.ref x)) (hx : Hd x s.heap) (h : ∀ e h', (∀ b o, s.heap.get? b = some o → h'.get? b = some o) → ({ s with heap := h' } : Shared).TypeIs e "StopIteration" → E e { s with heap := h' }) :
    wpAny (model prog w) B (newExc (.type "StopIteration") [] >>= fun e => (raiseNew e : Sem α)) P E s := by
  obtain ⟨ox, vs, hx, hd, h2⟩ := hx
  refine wpAny_bind ?_
  simp only [newExc, newTuple, raiseNew]
  refine wpAny_bind (wpAny_newObj_type (wpAny_bind (m := firstArgMember _ _) (wpAny_of_eq (a := Value.none) (by first | rfl | (simp only [firstArgMember]; rfl)) (wpAny_newObj_type ?_ (by size_fits)))) (by size_fits))
  refine wpAny_bind (wpAny_handled ?_)
  rw [hh]
  dsimp only
  generalize hB : s.heap.push { cls := .type "tuple", data := .seq ([] : List Value).toArray } = h1
  have k1 : ∀ b o, s.heap.get? b = some o → h1.get? b = some o := fun b o e => by rw [← hB]; exact Heap.get?_push_of_some _ e
  have x1 := k1 _ _ hx
  have xn : x ≠ h1.objs.size := Nat.ne_of_lt (Heap.lt_size x1)
  rw [if_pos (by simp [xn])]
  generalize hob : ({ cls := .type "StopIteration", data := .fields (#[.ref s.heap.objs.size, .none, .none, .none, .bool false, .none] ++ ownMembersOf (.type "StopIteration") []) } : Obj) = ob
  have x2 : (h1.push ob).get? x = some ox := Heap.get?_push_of_some _ x1
  refine wpAny_bind (wpAny_holding (wpAny_runValue (codeAny_builtin j3z ?_)))
  rw [Around.under_plainId j50 _]
  show wpAny _ _ (field (.ref x) 2 >>= _) _ _ _
  refine wpAny_bind (wpAny_field x2 hd h2 ?_)
  rw [if_pos (by decide)]
  refine wpAny_pure ?_
  have a2 : (h1.push ob).get? h1.objs.size = some ob := Heap.get?_push_size _ (by rw [← hob]; rfl)
  show wpAny _ _ (setField (.ref h1.objs.size) 2 (.ref x) >>= _) _ _ _
  refine wpAny_bind (wpAny_setField a2 (by rw [← hob]) (by simp only [Array.size_append]; show 2 < 6 + _; omega) (wpAny_throw (h _ _ (fun b o e => ?_) ?_)))
  · have e1 := k1 b o e
    rw [Heap.get?_update_other _ _ (Nat.ne_of_gt (Heap.lt_size e1))]
    exact Heap.get?_push_of_some _ e1
  · refine ⟨_, j1r a2 (by rw [← hob]), ?_⟩
    rw [← hob]
theorem j51 {it l : Addr} {i : Nat} {items : Array Value} {Q : Option Value → Shared → Prop} {x : Addr} (hh : A.handled = some (.ref x)) (hx : Hd x s.heap) (hit : s.heap.IsListIter it l i) (hl : s.heap.IsList l items) (hn : items[i]? = none) (nx : x ≠ it)
    (q : ∀ h', (∀ b o, b ≠ it → s.heap.get? b = some o → h'.get? b = some o) → Q none { s with heap := h' }) : wpAny (model prog w) A (pyNext (.ref it)) Q E s := by
  obtain ⟨o, ho, hc, hd⟩ := id hit
  obtain ⟨ol, hol, _, nl, hdl⟩ := hl
  unfold pyNext
  refine wpAny_bind (wpAny_attempt (wpAny_callSpecial?_slot (name := Str.ofString "__next__") hit.typeIs slot_listiter_next (wpAny_call_entry slot_listiter_next hit.typeIs entry_listiter_next ?_ (args_listiter_next _))))
  show wpAny _ _ (field (.ref it) 0 >>= _) _ _ s
  refine wpAny_bind (wpAny_field ho hd (x := .ref l) rfl ?_)
  have nn : (Value.ref l == Value.none) = false := rfl
  show wpAny _ _ (if (Value.ref l == Value.none) = true then _ else _) _ _ s
  rw [nn, if_neg Bool.false_ne_true]
  show wpAny _ _ (field (.ref it) 1 >>= _) _ _ s
  refine wpAny_bind (wpAny_field ho hd (x := .int i 0) rfl ?_)
  show wpAny _ _ (seqItems? (.ref l) >>= _) _ _ s
  refine wpAny_bind (wpAny_seqItems hol hdl ?_)
  simp only [Int.toNat_natCast, hn]
  refine wpAny_bind (wpAny_rule (wpAny_bind (wpAny_setField ho hd (by simp) ?_)))
  have k1 : ∀ b o', b ≠ it → s.heap.get? b = some o' → (s.heap.update it (Obj.mapFields (·.setIfInBounds 0 Value.none))).get? b = some o' := fun b o' hb e => by rw [Heap.get?_update_other _ _ (Ne.symm hb)]; exact e
  obtain ⟨ox, vs, hx1, hx2, hx3⟩ := hx
  refine stop_h (s := { s with heap := s.heap.update it (Obj.mapFields (·.setIfInBounds 0 Value.none)) }) (x := x) (by simpa using hh) ⟨ox, vs, k1 _ _ nx hx1, hx2, hx3⟩ fun e h' k2 ty => ?_
  refine wpAny_bind (wpAny_isInstance (b := true) ty isSubtype_stop ?_)
  exact wpAny_pure (q h' fun b o' hb e => k2 b o' (k1 b o' hb e))
theorem walks_h {x I ax : Addr} {items : Array Value} (hh : A.handled = some (.ref x)) (hne : ax ≠ I) (nx : x ≠ I) :
    Walks prog w A I [I, ax, x] [I] items.size (fun i v => items[i]? = some v) (fun i h => h.IsListIter I ax i ∧ h.IsList ax items ∧ Hd x h) where
  sub := fun b hb => by rw [List.mem_singleton] at hb; rw [hb]; simp
  frame := fun _ _ _ st hk => ⟨st.1.at fun o e => hk I (by simp) o e, st.2.1.at fun o e => hk ax (by simp) o e, let ⟨ox, vs, a, b, c⟩ := st.2.2; ⟨ox, vs, hk x (by simp) _ a, b, c⟩⟩
  item := fun i s Q E hi st q => wpAny_pyNext_list_item st.1 st.2.1 (x := items[i]) (by simp [hi]) fun h' hit' sb => q _ h' s.toks (by simp [hi]) ⟨hit', st.2.1.extBut sb.extBut hne, let ⟨ox, vs, a, b, c⟩ := st.2.2; ⟨ox, vs, sb.extBut x _ nx a, b, c⟩⟩ fun b o hb e => sb.extBut b o (fun z => hb (by simp [z])) e
  done := fun s Q E st q => j51 hh st.2.2 st.1 st.2.1 (by simp) nx fun h' k => q h' s.toks fun b o hb e => k b o (fun z => hb (by simp [z])) e
  self := fun _ _ _ _ st q => wpAny_pyIter_listiter st.1 q
end
section
open L2
variable {X : Cx}
theorem j6e {x : Addr} (hh : X.A.handled = some (.ref x)) (hx : ∀ (pins : List (Addr × Obj)) (σ : L2.St) (H : Hp) (s : Shared), L2.Inv X pins σ H s → Hd x s.heap) :
    j1p X (.builtin "any") (fun xs H Q => ∃ p bs, xs = [.ref p] ∧ SqL X.K H p (bV bs) ∧ Q (.bl (bs.any id)) H) := by
  intro pins s σ H xs us Q I r h
  obtain ⟨p, bs, rfl, hp, q⟩ := h
  obtain ⟨u, rfl, rx⟩ := j4w r
  cases rx
  obtain ⟨its, r', pl, hz⟩ := I.list hp
  have hb := j1c r'
  have hl := pl.isList
  have hlt : p < s.heap.objs.size := by obtain ⟨_, e, _⟩ := hl; exact Heap.lt_size e
  obtain ⟨ox, vs, x1, x2, x3⟩ := hx pins σ H s I
  refine call_any_walk (wpAny_pyIter_list hl ?_)
  refine ⟨s.heap.objs.size, [s.heap.objs.size, p, x], [s.heap.objs.size], its.toArray.size, _, _, fun i => (bs[i]?).getD false, rfl, walks_h (A := X.A.in1) (x := x) (ax := p) (items := its.toArray) (by simpa using hh) (Nat.ne_of_lt hlt) (Nat.ne_of_lt (Heap.lt_size x1)),
    ⟨⟨_, Heap.get?_push_size _ rfl, rfl, rfl⟩, hl.push _, ox, vs, Heap.get?_push_of_some _ x1, x2, x3⟩, fun i v s' Q' E' hP hQ => ?_, fun h' tk hk => ?_⟩
  · obtain ⟨b, e, rfl⟩ := hb.get i v (by simpa using hP)
    simp only [e, Option.getD_some] at hQ
    exact wpAny_truthy_bool hQ
  · have e : ((List.range its.toArray.size).any fun i => (bs[i]?).getD false) = bs.any id := by
      rw [List.size_toArray, hb.length]; exact LSm.range_any bs
    rw [e]
    refine ⟨.bl _, H, I.kept (t' := tk) fun b o eb => hk b o (fun z => ?_) (Heap.get?_push_of_some _ eb), rfl, q⟩
    rw [List.mem_singleton] at z
    exact absurd (Heap.lt_size eb) (by rw [z]; exact Nat.lt_irrefl _)
end
end L3
end
noncomputable section
namespace L3
open PySem PySem.Spec PyProof.Rows PySem.W
theorem j40 {M : Model} {A : Around} {E : Value → Shared → Prop} {s : Shared} {K : PySem.W.Frag} {x C S : Addr} {ox : Obj} {Q : Bool → Shared → Prop} (X : K.In s.heap) (I : InstAt s.heap x ox C none) (hS : excIn K S VEb "ValueError.__new__" = true) (mS : mroIn K S (.type "BaseException") = some true) (mC : mroIn K C (.ref S) = some true) (q : Q true s) :
    wpAny M A (excMatches (.ref x) (.ref S)) Q E s := by
  obtain ⟨hh, g, d, t, os⟩ := s
  have L0 := I.type (M := M)
  have L1 := looks_mroIn (M := M) X mS
  have L2 := looks_mroIn (M := M) X mC
  obtain ⟨bm, N, nm, qn, bs, hd, sn, sub, ab, col, dd, k0, k1, k2, k3, k5, mN, hC, _⟩ := j31 X hS
  have f := tc_notTuple
  unfold excMatches
  repeat (first | with_reducible refine Looks.at (by assumption) ?_ | with_reducible refine wpAny_loadPart_at hC ?_ | wp_step)
  exact q
end L3
namespace L3
open PySem PySem.Spec PyProof.Rows L2
noncomputable def cxT (X : Cx) (pins : List (Addr × Obj)) (C : Addr) (EQ : Hp → Prop) : Cx :=
  { X with pn := X.pn ++ pins, xe := fun e s' => ∃ (x : Addr) (H' : Hp) (σ' : L2.St) (H : Hp) (s : Shared), e = .ref x ∧ L2.Inv X pins σ' H s ∧ s'.os = s.os ∧ AllBare s'.gens ∧ Fly X.prog X.w X.stack H s.heap H' x C s'.heap ∧ EQ H' }
noncomputable def cxS (X : Cx) (pins : List (Addr × Obj)) (x : Addr) (ox : Obj) : Cx :=
  { X with A := X.A.mark (some (.ref x)), calm := false, pn := X.pn ++ pins ++ [(x, ox)], xe := fun _ _ => False }
section
variable {X : Cx} {pins pins' : List (Addr × Obj)} {σ : L2.St} {H : Hp} {s : Shared} {C x : Addr} {ox : Obj} {EQ : Hp → Prop}
theorem ok_t (ok : X.Ok) : (cxT X pins C EQ).Ok := ⟨ok.mod, ok.kind, ok.glob, ok.blt, ok.above, ok.inj, ok.has, ok.cab, ok.hd, ok.frames, ok.stk, ok.exf, ok.bs, ok.bsz, ok.noex, ok.exfs, ok.funs, ok.frf⟩
theorem ok_s (ok : X.Ok) : (cxS X pins x ox).Ok := ⟨ok.mod, ok.kind, ok.glob, ok.blt, ok.above, ok.inj, ok.has, ok.cab, fun z => (nomatch z), ok.frames, ok.stk, ok.exf, ok.bs, ok.bsz, ok.noex, ok.exfs, ok.funs, ok.frf⟩
theorem un_t (ok : (cxT X pins C EQ).Ok) : X.Ok := ⟨ok.mod, ok.kind, ok.glob, ok.blt, ok.above, ok.inj, ok.has, ok.cab, ok.hd, ok.frames, ok.stk, ok.exf, ok.bs, ok.bsz, ok.noex, ok.exfs, ok.funs, ok.frf⟩
theorem Inv.to_t (I : L2.Inv X pins σ H s) : L2.Inv (cxT X pins C EQ) [] σ H s := ⟨ok_t I.ok, I.os, I.bare, I.base, I.loc, I.cell, I.free, I.freeC, fun p hp => I.pin p (by simpa [cxT] using hp), I.hok, I.len⟩
theorem Inv.of_t (I : L2.Inv (cxT X pins C EQ) pins' σ H s) : L2.Inv X pins σ H s := ⟨un_t I.ok, I.os, I.bare, I.base, I.loc, I.cell, I.free, I.freeC, fun p hp => I.pin p (List.mem_append_left _ hp), I.hok, I.len⟩
theorem Inv.to_s (I : L2.Inv X pins σ H s) (hx : s.heap.get? x = some ox ∧ H x = none ∧ x ≠ X.env.locals ∧ x ∉ X.fs ∧ ∀ v, ox.data ≠ .cell v) : L2.Inv (cxS X pins x ox) [] σ H s :=
  ⟨ok_s I.ok, I.os, I.bare, I.base, I.loc, I.cell, I.free, I.freeC, fun p hp => by
    have hp' : p ∈ X.pn ++ pins ∨ p = (x, ox) := by simpa [cxS, or_assoc] using hp
    rcases hp' with z | z
    · exact I.pin p z
    · rw [z]; exact hx, I.hok, I.len⟩
theorem SP.of_t {D : Ends} {f : Flow} {s' : Shared} (h : SP (cxT X pins C EQ) [] D f s') : SP X pins D f s' := by
  cases f with
  | next => obtain ⟨σ', H', I, q⟩ := h; exact ⟨σ', H', Inv.of_t I, q⟩
  | brk => obtain ⟨σ', H', I, q⟩ := h; exact ⟨σ', H', Inv.of_t I, q⟩
  | cont => obtain ⟨σ', H', I, q⟩ := h; exact ⟨σ', H', Inv.of_t I, q⟩
  | ret u => obtain ⟨v, σ', H', I, r, q⟩ := h; exact ⟨v, σ', H', Inv.of_t I, r, q⟩
theorem passT : j1t (CX1 X.prog X.w C) (cxT X pins C EQ) (fun _ _ H' => EQ H') := by
  rintro pins' σ' H1 s1 e s' I ⟨x, H', rfl, os, bare, fl, ee⟩
  exact ⟨x, H', σ', H1, s1, rfl, Inv.of_t I, os, bare, fl, ee⟩
theorem Inv.gone {s' : Shared} {m' : Str → Option Value} {h' : Heap} {tk : Nat} (ok : X.Ok) (I : L2.Inv (cxS X pins x ox) [] σ H s) (hn : h'.Ns X.env.locals m') (sb : Heap.SameBut X.env.locals s.heap h') :
    L2.Inv X pins (List.replicate X.N.length none) H { s with heap := h', toks := tk } := by
  have nl : ∀ b, b ≠ X.env.locals → h'.get? b = s.heap.get? b := sb.2
  have ol : ∀ b o, X.s₀.heap.get? b = some o → b ≠ X.env.locals := fun b o e z => absurd (Heap.lt_size e) (by rw [z]; exact Nat.not_lt.mpr ok.above)
  have u := I.base
  have tr : ∀ b w, H b = some w → b ≠ X.env.locals := fun b w e z => by
    have := I.free
    rw [show (cxS X pins x ox).env.locals = X.env.locals from rfl, ← z, e] at this
    cases this
  refine ⟨ok, I.os, I.bare, ⟨fun b o e n hb hx => ?_, fun b o e n hb hx => ?_, u.free, fun b o e hx => ?_, u.tups, u.frzs, u.tbls⟩, ⟨m', hn, fun i y v _ e _ => ?_⟩, fun y c e => ?_, I.free, I.freeC, fun p hp => ?_, fun b w e => ?_, List.length_replicate⟩
  · show h'.get? b = _
    rw [nl b (ol b o e)]
    exact u.keep b o e n hb hx
  · obtain ⟨sl, z⟩ := u.slot b o e n hb hx
    exact ⟨sl, by show h'.get? b = _; rw [nl b (ol b o e)]; exact z⟩
  · obtain ⟨o', z⟩ := u.there b o e hx
    exact ⟨o', by show h'.get? b = _; rw [nl b (ol b o e)]; exact z⟩
  · rw [List.getElem?_replicate] at e
    split at e
    · cases e
    · cases e
  · obtain ⟨v, o, ho, hd⟩ := I.cell y c e
    exact ⟨v, o, by show h'.get? c = _; rw [nl c (I.cne y c e)]; exact ho, hd⟩
  · have hp' : p ∈ (cxS X pins x ox).pn ++ [] := by simp only [cxS, List.append_nil]; exact List.mem_append_left _ hp
    obtain ⟨a, b, c, d, f⟩ := I.pin p hp'
    exact ⟨by show h'.get? p.1 = _; rw [nl p.1 c]; exact a, b, c, d, f⟩
  · refine (I.hok b w e).stay (fun c v hc q => ?_) (fun _ q => q) fun _ _ q => q
    show h'.get? c = _
    rw [nl c ?_]
    · exact q
    · rcases hc with z | z
      · rw [z]; exact tr b w e
      · exact tr c _ z
theorem hx_pin (I : L2.Inv X pins σ H s) {B : Heap} {fl : Value} (hx : Hx B X.stack x C fl s.heap) (hn : H x = none) (hs : X.stack = X.env :: X.outer) (hf : X.env.frame = some X.env.locals) :
    ∃ ox, (s.heap.get? x = some ox ∧ H x = none ∧ x ≠ X.env.locals ∧ x ∉ X.fs ∧ ∀ v, ox.data ≠ .cell v) ∧ PySem.W.InstAt s.heap x ox C none ∧ ∃ vs, ox.data = .fields vs ∧ vs[2]? = some .none := by
  obtain ⟨vs, T, oT, ts, he, h6, h2, _⟩ := id hx.tr
  have nf : x ∉ frs X.stack := fun z => by
    obtain ⟨_, o, ho, d⟩ := hx.fr.mem z
    rw [he] at ho
    cases ho
    exact d vs rfl
  refine ⟨_, ⟨he, hn, fun z => nf ?_, fun z => nf ?_, fun v z => by cases z⟩, ⟨he, rfl, rfl, trivial⟩, vs, rfl, h2⟩
  · rw [z, hs]
    exact j6b (List.mem_cons_self ..) hf
  · rw [hs]
    unfold frs at z ⊢
    rw [List.filterMap_cons, hf]
    exact List.mem_cons_of_mem _ z
abbrev tTry (tb : (Hp → Prop) → TS) (th : Addr → TS) (N i : Nat) : TS := fun D σ H => ∃ EQ : Hp → Prop, tb EQ D σ H ∧ ∀ (x : Addr) (H' : Hp) (σ' : L2.St), σ'.length = N → EQ H' → H' x = none → th x { nx := fun _ _ => False, rt := D.rt } (σ'.set i (some (.ref x))) H'
theorem ps_try {body suite : List Stmt} {b0 : Stmt} {sup n : Str} {np hpos pos : Pos} {i : Nat} {S : Addr} {tb : (Hp → Prop) → TS} {th : Addr → TS} (hg : Gl X sup) (hm : X.mg sup = some (.ref S)) (Z : ExcK X.K C) (hS : PySem.W.excIn X.K S VEb "ValueError.__new__" = true) (mS : PySem.W.mroIn X.K S (.type "BaseException") = some true) (mC : PySem.W.mroIn X.K C (.ref S) = some true)
    (hN : X.N.Nodup) (hi : X.N[i]? = some n) (hl : X.env.scope.names.lookup n = some .local) (hs : X.stack = X.env :: X.outer) (hf : X.env.frame = some X.env.locals)
    (hb : ∀ pins EQ, PSs (cxT X pins C EQ) body (tb EQ)) (hh : ∀ pins x ox, (ox.cls = .ref C ∧ PySem.W.notCls ox = true ∧ ox.dict = none ∧ ∃ vs, ox.data = .fields vs ∧ vs[2]? = some .none) → PSs (cxS X pins x ox) (b0 :: suite) (th x)) (hd : (sup == ("__debug__" : Str)) = false := by decide) (hk : X.env.kindOf n = some .local := by rfl) :
    PS X (.Try body [.ExceptHandler (some (.Name sup np)) (some n) (b0 :: suite) hpos] [] [] pos) (tTry tb th X.N.length i) := by
  intro pins s σ H D I ⟨EQ, hbd, hhd⟩
  refine wpAny_Try_except (wpAny_mono (hb pins EQ [] s σ H D (Inv.to_t I) hbd) (fun f s1 q => ?_) fun e s1 q => ?_)
  · have q' := SP.of_t q
    cases f with
    | next => exact wpAny_execs_nil q'
    | brk => exact q'
    | cont => exact q'
    | ret u => exact q'
  · obtain ⟨x, H', σ', H0, s0, rfl, I0, os, bare, ⟨un, new, B, fm, fl, hok, cov⟩, eq⟩ := q
    have hfr : X.A.frames = some (X.env :: X.outer) := by rw [← hs]; exact I.ok.frames
    rw [hs] at fl
    refine j3y hfr hf fl fun h2 x2 up2 => j4g (s := { s1 with heap := h2 }) x2 fun h3 x3 up3 => ?_
    have inv : ∀ {h4 : Heap}, Hx B (X.env :: X.outer) x C .none h4 → s1.heap.UpToSlots h4 → L2.Inv X pins σ' H' { s1 with heap := h4 } := fun {h4} x4 up4 =>
      I0.call' (s' := { s1 with heap := h4 }) (ch := []) os (un_on un fl.st x4.st cov up4 (Inv.frmS I0)) (hok.kept x4.st) bare (fun _ z => nomatch z)
    have I3 := inv x3 (up2.trans up3)
    obtain ⟨ox3, p3, i3, _⟩ := hx_pin (s := { s1 with heap := h3 }) I3 (by rw [hs]; exact x3) new hs hf
    have I3s := Inv.to_s I3 p3
    refine wpAny_handleBy_cons (codeAny_handlers_test (j26 (X := cxS X pins x ox3) I3s hg hm ?_ hd)) (by intro z; cases z)
    refine j40 (s := { s1 with heap := h3 }) I3.kIn i3 hS mS mC ?_
    show codeAny _ _ (.handlers _ _ _) _ _
    refine codeAny_handlers_suite_as (j4g (s := { s1 with heap := h3 }) x3 fun h4 x4 up4 => ?_)
    have I4 := inv x4 ((up2.trans up3).trans up4)
    obtain ⟨ox, p4, i4, vs, dv, v2⟩ := hx_pin (s := { s1 with heap := h4 }) I4 (by rw [hs]; exact x4) new hs hf
    refine j1z (X := cxS X pins x ox) (Inv.to_s I4 p4) hN hi (.inl hl) (v := .ref x) rfl (fun s5 I5 => ?_) (.inr hl)
    have w5 := hh pins x ox ⟨i4.cls, i4.no, by
      have := i4.dict
      cases hdx : ox.dict with
      | none => rfl
      | some d => rw [hdx] at this; exact this.elim, vs, dv, v2⟩ [] s5 _ H' _ I5 (hhd x H' σ' (I4.len) eq new)
    refine wpAny_mono w5 (fun f s6 q6 => ?_) fun _ _ z => z.elim
    cases f with
    | next => obtain ⟨_, _, _, z⟩ := q6; exact z.elim
    | brk => obtain ⟨_, _, _, z⟩ := q6; exact z.elim
    | cont => obtain ⟨_, _, _, z⟩ := q6; exact z.elim
    | ret u =>
      obtain ⟨v, σ6, H6, I6, r6, d6⟩ := q6
      obtain ⟨m6, n6, _⟩ := I6.loc
      refine wpAny_nameGoes hk n6 (by rw [I.ok.kind]; rfl) fun h7 m7 n7 sb => ?_
      exact ⟨v, _, H6, Inv.gone (s' := s6) I.ok I6 n7 sb, r6, d6⟩
end
end L3
end
noncomputable section
namespace L3
open PySem PySem.Spec PyProof.Rows L2
structure Far (X : Cx) (H' : Hp) (x C : Addr) (h : Heap) : Prop where
  un : Un (frs X.outer) [] X.H₀ H' X.s₀.heap h
  new : H' x = none
  fl : ∃ B fl, Hx B X.stack x C fl h ∧ HOk X.prog X.w H' B ∧ ∀ b o, X.s₀.heap.get? b = some o → b ∉ frs X.outer → ∃ o', B.get? b = some o'
section
variable {X : Cx} {pins : List (Addr × Obj)} {σ : L2.St} {H H' : Hp} {s s' : Shared} {x C : Addr} {EQ : Hp → Prop}
theorem far_of (hex : X.ex = []) (I : L2.Inv X pins σ H s) (os : s'.os = s.os) (bare : AllBare s'.gens) (f : Fly X.prog X.w X.stack H s.heap H' x C s'.heap) : Far X H' x C s'.heap := by
  obtain ⟨un, new, B, m, fl, hk, cov⟩ := f
  have I' := I.call' (ch := []) os un (hk.kept fl.st) bare (fun _ z => nomatch z)
  have b0 := I'.base
  rw [hex] at b0
  refine ⟨b0, new, B, m, fl, hk, fun b o e n => ?_⟩
  have e0 := I.base
  rw [hex] at e0
  obtain ⟨o', e'⟩ := e0.there b o e (by simp)
  exact cov b o' e' (Inv.old I e n)
theorem Far.on {h h' : Heap} {B : Heap} {fl fl' : Value} (f : Far X H' x C h) (I : L2.Inv X pins σ H s) (hx : Hx B X.stack x C fl h) (hk : HOk X.prog X.w H' B) (cov : ∀ b o, X.s₀.heap.get? b = some o → b ∉ frs X.outer → ∃ o', B.get? b = some o') (x' : Hx B X.stack x C fl' h') (up : h.UpToSlots h') : Far X H' x C h' :=
  ⟨un_on f.un hx.st x'.st cov up (Inv.frm I), f.new, B, fl', x', hk, cov⟩
noncomputable def Landed (X : Cx) (C : Addr) (EQ : Hp → Prop) : Prop := ∀ (pins : List (Addr × Obj)) (σ : L2.St) (H : Hp) (s s' : Shared) (x : Addr) (H' : Hp), L2.Inv X pins σ H s → s'.os = X.s₀.os → AllBare s'.gens → Far X H' x C s'.heap → EQ H' → X.xe (.ref x) s'
end
section
variable {P : Program} {w : World} {K : PySem.W.Frag} {mg : Str → Option Value} {base : Heap} {N : List Str} {qual : Str} {scope : Scope} {f C : Addr} {cd : Value} {A : Around} {outer : List Env} {s : Shared} {H : Hp} {E : XK}
theorem landed1 : Landed (cxOf (CX1 P w C) P w K mg base N qual scope f cd A outer s H E) C (fun H' => ∀ x, H' x = none → E (.ref x) (some x) H') := by
  intro pins σ H1 s1 s' x H' I os bare ⟨un, new, B, fl, hx, hk, cov⟩ ee
  refine j4y (s := s') (outer := outer) (env := (cxOf (CX1 P w C) P w K mg base N qual scope f cd A outer s H E).env) I.ok.frames rfl hx fun h2 x2 up => ⟨x, H', rfl, os, bare, ⟨?_, new, B, _, x2, hk, cov⟩, ee x new⟩
  exact un_on un hx.st x2.st cov up (Inv.frm I)
end
section
variable {X : Cx} {elt iter : Expr} {x : Str} {px pos : Pos} {ifs : List Expr} {scope : Scope} {wi : TI} {ti : TT} {te : TE} {caps : List Str} {idx : List Nat} {Cl : Addr} {EQ : Hp → Prop}
noncomputable def xiC (X : Cx) (scope : Scope) (N : List Str) (Cl : Addr) (EQ : Hp → Prop) (pins : List (Addr × Obj)) (C : Addr) (fp : List Addr) (s2 : Shared) (H2 : Hp) (e : Value) (s' : Shared) : Prop :=
  ∃ (y : Addr) (H' H1 : Hp) (s1 : Shared) (σ1 : L2.St), e = .ref y ∧ L2.Inv (cxC X scope C fp s2 H2 pins N) [] σ1 H1 s1 ∧ s'.os = s1.os ∧ AllBare s'.gens ∧ Fly X.prog X.w X.stack H1 s1.heap H' y Cl s'.heap ∧ EQ H'
theorem j6f {C : Addr} {fp : List Addr} {s2 : Shared} {H2 : Hp} {N : List Str} {pins : List (Addr × Obj)} : j1t (CX1 X.prog X.w Cl) ((cxC X scope C fp s2 H2 pins N).wish (xiC X scope N Cl EQ pins C fp s2 H2)) (fun _ _ H' => EQ H') := by
  rintro pins' σ1 H1 s1 e s' I ⟨y, H', rfl, os, bare, fl, ee⟩
  refine ⟨y, H', H1, s1, σ1, rfl, ?_, os, bare, fl, ee⟩
  have I' := I.unwish
  exact ⟨I'.ok, I'.os, I'.bare, I'.base, I'.loc, I'.cell, I'.free, I'.freeC, fun p hp => I'.pin p (List.mem_append_left _ (by simpa using hp)), I'.hok, I'.len⟩
theorem pe_compX (hex : X.ex = []) (L : Landed X Cl EQ) (hst : X.stack = X.env :: X.outer) (hfr : X.env.frame = some X.env.locals) (hc : X.calm = true) (S : CompSc X scope x caps idx) (hi : PI X (.Name x px) iter wi)
    (ht : ∀ C fp s2 H2 pins, PTs (cxC X scope C fp s2 H2 pins (x :: caps)) ifs ti) (he : ∀ C fp s2 H2 pins, PE ((cxC X scope C fp s2 H2 pins (x :: caps)).wish (xiC X scope (x :: caps) Cl EQ pins C fp s2 H2)) elt te)
    (hs : ∀ x, foldedSetIterable iter X.env x = pure x := by intro _; rfl) (hcf : ∀ C, (compEnvC scope (clG X.env.cells scope.names []) C X.env).frame = X.env.frame := by intro _; rfl) : PE X (.ListComp elt [⟨.Name x px, iter, ifs, 0⟩] scope pos) (j2z wi idx ti te) := by
  intro pins s σ H Q I h
  rw [eval_ListComp]
  refine j2o (use := none) (xiC X scope (x :: caps) Cl EQ) hc S hi ht he I h (fun C fp s2 H2 D e s' I2 hC f2 xe => ?_) (fun C D fp s2 s' H2 H' σ' I2 hC f2 I' q => ?_) hs
  · obtain ⟨y, H', H1, s1, σ1, rfl, I1, os, bare, fly, ee⟩ := xe
    have J1 := j1i I2 f2 I1
    obtain ⟨m, hn, _⟩ := I1.loc
    obtain ⟨oC, es, ep, hoC, dC, rC⟩ := hn
    have C1 : H1 C = none := I1.free
    have Cs : C ∉ frs X.stack := fun z => by
      obtain ⟨_, o, ho, _⟩ := I2.stack.mem z
      exact absurd (Heap.lt_size ho) (Nat.not_lt.mpr hC)
    obtain ⟨un, new, B, fm, hx, hk, cov⟩ := id fly
    have far := far_of hex J1 os bare fly
    have cov0 : ∀ b o, X.s₀.heap.get? b = some o → b ∉ frs X.outer → ∃ o', B.get? b = some o' := fun b o e n => by
      have e0 := J1.base
      rw [hex] at e0
      obtain ⟨o', e'⟩ := e0.there b o e (by simp)
      exact cov b o' e' (Inv.old J1 e n)
    have CB : B.get? C = some oC := by
      obtain ⟨o', e'⟩ := cov C oC hoC Cs
      have q1 := un.keep C oC hoC C1 Cs (by simp)
      rw [hx.st C o' e'] at q1
      rw [← Option.some.inj q1]
      exact e'
    have fA : X.A.frames = some (X.env :: X.outer) := by rw [← hst]; exact I.ok.frames
    show wpAny _ _ (noteFrame (.ref y) _) _ _ s'
    rw [j69 (hcf C)]
    have hx' := hx
    rw [hst] at hx'
    refine j3y fA hfr hx' fun h2 x2 up2 => ?_
    have x2' : Hx B X.stack y Cl (rawInt X.env.locals) h2 := by rw [hst]; exact x2
    have far2 := far.on J1 hx hk cov0 x2' up2
    refine ⟨m, ⟨oC, es, ep, x2.st C oC CB, dC, rC⟩, fun h3 sb cenv _ => ?_⟩
    have nCy : C ≠ y := fun z => by
      have := x2.ne
      rw [← z, CB] at this
      cases this
    have x3 := x2'.hide (a := C) sb Cs nCy fun o e vs z => by
      rw [x2.st C oC CB] at e
      rw [← Option.some.inj e, dC] at z
      cases z
    have C0 : X.s₀.heap.get? C = none := by
      cases z : X.s₀.heap.get? C with
      | none => rfl
      | some o =>
        have l1 := Heap.lt_size z
        have l2 := I2.sz
        exact absurd (Nat.lt_of_lt_of_le l1 l2) (Nat.not_lt.mpr hC)
    have HC : H' C = none := un.free C oC hoC C1 (by simp)
    have hk3 : HOk X.prog X.w H' (B.hide C) := fun b u e => (hk b u e).stay (fun c v hc' q => by
      rw [Heap.hide_ne _ (fun z => ?_)]
      · exact q
      · rcases hc' with w' | w'
        · rw [← w', z, HC] at e; cases e
        · rw [z, HC] at w'; cases w') (fun _ q => q) fun _ _ q => q
    have cov3 : ∀ b o, X.s₀.heap.get? b = some o → b ∉ frs X.outer → ∃ o', (B.hide C).get? b = some o' := fun b o e n => by
      obtain ⟨o', e'⟩ := cov0 b o e n
      exact ⟨o', by rw [Heap.hide_ne _ (fun z => by rw [z, C0] at e; cases e)]; exact e'⟩
    have far3 : Far X H' y Cl h3 := ⟨Un.same far2.un sb C0, new, B.hide C, _, x3, hk3, cov3⟩
    refine pass_x (s := { s' with heap := h3 }) x3 fun h4 fl' x4 up4 => L pins σ H s { s' with heap := h4 } y H' I ?_ bare (far3.on J1 x3 hk3 cov3 x4 up4) ee
    exact os.trans J1.os
  · obtain ⟨m, hn, _⟩ := I'.loc
    exact ⟨m, hn, fun h' hs' => ⟨.ref D, H', j1q I2 hC I'.free (j1i I2 f2 I') hs', rfl, q⟩⟩
end
end L3
end
noncomputable section
namespace L3
open PySem PySem.Spec PyProof.Rows L2 PySem.Builtin.Str
section
variable {X : Cx}
abbrev sV (ws : List Str) : List V := ws.map V.str
theorem j6g : ∀ {ws : List Str} {us : List Value}, Vals (sV ws) us → ∃ l : List (Str × Tok), us = strValues l ∧ l.map (·.1) = ws
  | [], _, .nil => ⟨[], rfl, rfl⟩
  | w :: ws, _, .cons r t => by
    obtain ⟨k, rfl⟩ : ∃ k, _ = Value.str w k := r
    obtain ⟨l, rfl, h⟩ := j6g t
    exact ⟨(w, k) :: l, rfl, by rw [List.map_cons, h]⟩
theorem j6h : ∀ (l : List (Str × Tok)), Vals (sV (l.map (·.1))) (strValues l)
  | [] => .nil
  | (w, k) :: l => .cons ⟨k, rfl⟩ (j6h l)
theorem j6i : MtR X "str.startswith" (fun x vs H Q => ∃ a b, x = .str a ∧ vs = [.str b] ∧ Q (.bl (Txt.startswith a b)) H) := by
  intro pins s σ H x vs v us Q I rx rv h
  obtain ⟨a, b, rfl, rfl, q⟩ := h
  obtain ⟨t, rfl⟩ := rx
  obtain ⟨u, rfl, t', rfl⟩ := rv.one
  exact SC.startswith ⟨.bl _, H, I, rfl, q⟩
theorem mt_strip : MtR X "str.strip" (fun x vs H Q => ∃ a b, x = .str a ∧ vs = [.str b] ∧ a.length ≤ sizeLine ∧ Q (.str (Txt.stripChars a b)) H) := by
  intro pins s σ H x vs v us Q I rx rv h
  obtain ⟨a, b, rfl, rfl, hz, q⟩ := h
  obtain ⟨t, rfl⟩ := rx
  obtain ⟨u, rfl, t', rfl⟩ := rv.one
  exact SC.stripChars (fun t' k => ⟨.str _, H, I.tok _, ⟨_, rfl⟩, q⟩) hz
theorem j6j : MtR X "str.join" (fun x vs H Q => ∃ a p ws, x = .str a ∧ vs = [.ref p] ∧ SqL X.K H p (sV ws) ∧ JoinOk a ws = true ∧ Q (.str (Str.join a ws)) H) := by
  intro pins s σ H x vs v us Q I rx rv h
  obtain ⟨a, p, ws, rfl, rfl, hp, hj, q⟩ := h
  obtain ⟨t, rfl⟩ := rx
  obtain ⟨u, rfl, ru⟩ := rv.one
  cases ru
  obtain ⟨its, r, pl, hz⟩ := I.list hp
  obtain ⟨l, rfl, hl⟩ := j6g r
  have e : Txt.join a ws = Str.join a ws := StrLaws.glued_eq_join a ws
  exact SC.join pl.isList hl hj fun t' k => ⟨.str (Txt.join a ws), H, I.tok _, ⟨_, rfl⟩, by rw [e]; exact q⟩
theorem j4h : MtR X "str.split" (fun x vs H Q => ∃ a b, x = .str a ∧ vs = [.str b] ∧ (b.length == 0) = false ∧ a.length + 2 ≤ sizeLine ∧ ∀ p, H p = none → Q (.ref p) (upd H p (.lst (sV (Txt.split a b))))) := by
  intro pins s σ H x vs v us Q I rx rv h
  obtain ⟨a, b, rfl, rfl, hb, hz, q⟩ := h
  obtain ⟨t, rfl⟩ := rx
  obtain ⟨u, rfl, t', rfl⟩ := rv.one
  have hz1 : a.length ≤ sizeLine := by omega
  have hn := PyProof.Rows.split_le a b
  have fin : ∀ (l : List (Str × Tok)) (k : Nat), l.map (·.1) = Txt.split a b → EP X pins σ Q (.ref s.heap.objs.size) { s with heap := s.heap.push { cls := .type "list", data := .seq (strValues l).toArray }, toks := k } := by
    intro l k e
    refine ⟨.ref s.heap.objs.size, _, I.laid (t' := k) (o := .lst (sV (Txt.split a b))) (fun b ob q => Heap.get?_push_of_some _ q) (Nat.le_refl _) ?_, rfl, q _ (I.hok.fresh (Nat.le_refl _))⟩
    exact ⟨by rw [List.length_map]; omega, _, 0, e ▸ j6h l, Heap.get?_push_size _ rfl⟩
  cases h1 : (decide (a.length < b.length) || decide (strKind a < strKind b))
  · cases hf : (occurrences a b 0 a.length (a.length + 1)).isEmpty
    · have e : Txt.split a b = partsBetween a (occurrences a b 0 a.length (a.length + 1)) b.length := (if_neg (ne_true_of_eq_false h1)).trans (if_neg (ne_true_of_eq_false hf))
      refine call_meets F.slot_str_split (typeIs_str _ _ _) F.entry_str_split (F.args_str_split_2 _ _) (meets_str_split_sep a b t t' h1 hb hf hz1 (by rw [← e]; omega)) ?_
      show wants _ _ _ { s with toks := _, heap := s.heap.push { cls := .type "list", data := .seq (strsFrom s.toks (partsBetween a (occurrences a b 0 a.length (a.length + 1)) b.length)).toArray } }
      rw [strsFrom_eq]
      exact fin (numbered s.toks _) _ ((numbered_texts _ _).trans e.symm)
    · exact call_meets F.slot_str_split (typeIs_str _ _ _) F.entry_str_split (F.args_str_split_2 _ _) (meets_str_split_not_found a b t t' h1 hb hf)
        (fin [(a, t)] _ ((if_neg (ne_true_of_eq_false h1)).trans (if_pos hf)).symm)
  · exact call_meets F.slot_str_split (typeIs_str _ _ _) F.entry_str_split (F.args_str_split_2 _ _) (meets_str_split_cannot_occur a b t t' h1)
      (fin [(a, t)] _ (if_pos h1).symm)
theorem j2g : j1p X (.type "int") (fun xs H Q => ∃ x n, xs = [.str x] ∧ PySem.intText? x = some n ∧ x.length ≤ 640 ∧ Q (.int n) H) := by
  intro pins s σ H xs us Q I r h
  obtain ⟨x, n, rfl, hn, hl, q⟩ := h
  obtain ⟨u, rfl, t, rfl⟩ := r.one
  exact PySem.W.KIN.call_text hn hl ⟨.int n, H, I.tok _, ⟨_, rfl⟩, q⟩
theorem j3m : SlR X (fun x lo hi H Q => ∃ z, x = .str z ∧ z.length ≤ sizeLine ∧ Q (.str (Txt.slice z lo hi)) H) := by
  intro pins s σ H x v vl vu lo hi sl Q I rx hs pl pu h
  obtain ⟨z, rfl, hz, q⟩ := h
  obtain ⟨t, rfl⟩ := rx
  refine ⟨"str", _, F.slot_str_getitem.lookup, typeIs_str _ _ _, ?_⟩
  have fin : ∀ (l u : Option (Int × Tok)), l.map (·.1) = lo → u.map (·.1) = hi → (sliceMade z t l u none).post (EP X pins σ Q) s := by
    rintro l u rfl rfl
    exact post_val_or_str ⟨Nat.le_trans (Txt.slice_le z _ _) hz, fun t' k => ⟨.str _, H, I.tok _, ⟨_, rfl⟩, q⟩⟩
  cases pl with
  | none =>
    cases pu with
    | none => exact wpAny_getItem_str_slice (l := none) (u := none) (st := none) hs rfl (fin _ _ rfl rfl)
    | int j tj => exact wpAny_getItem_str_slice (l := none) (u := some (j, tj)) (st := none) hs rfl (fin _ _ rfl rfl)
  | int i ti =>
    cases pu with
    | none => exact wpAny_getItem_str_slice (l := some (i, ti)) (u := none) (st := none) hs rfl (fin _ _ rfl rfl)
    | int j tj => exact wpAny_getItem_str_slice (l := some (i, ti)) (u := some (j, tj)) (st := none) hs rfl (fin _ _ rfl rfl)
theorem j6k (x : Array Nat) : ∀ (n : Nat) (acc : Array Nat), ((List.replicate n x).foldl (· ++ ·) acc).size = acc.size + n * x.size
  | 0, acc => by simp
  | n + 1, acc => by
    rw [List.replicate_succ, List.foldl_cons, j6k x n, Array.size_append, Nat.succ_mul]
    omega
theorem j6l : OpR X (binaryOp .Mult) (fun x y H Q => ∃ z n, x = .str z ∧ y = .int n ∧ z.length = 1 ∧ 2 ≤ n ∧ n ≤ 5000 ∧ ∀ k : Str, k.length = n.toNat → Q (.str k) H) := by
  intro pins s σ H x y v u Q I rx ry h
  obtain ⟨z, n, rfl, rfl, hz, h2, h5, q⟩ := h
  obtain ⟨t, rfl⟩ := rx
  obtain ⟨t', rfl⟩ := ry
  have hr : (decide (n < -(2 ^ 63 : Int)) || decide (n ≥ 2 ^ 63)) = false := by
    rw [decide_eq_false (by omega), decide_eq_false (by omega)]; rfl
  have hne : (n == 1 || z.length == 0) = false := by
    rw [hz]
    have : (n == 1) = false := by simp; omega
    rw [this]; rfl
  have hsz : (⟨(List.replicate n.toNat z.cps).foldl (· ++ ·) #[]⟩ : Str).length = n.toNat := by
    show ((List.replicate n.toNat z.cps).foldl (· ++ ·) #[]).size = _
    rw [j6k]
    have : z.cps.size = 1 := hz
    rw [this]; simp
  have hl5 : (5000 : Nat) ≤ sizeLine := by decide
  refine PySem.P.mul_str hr (fun _ _ => ?_) (fun _ _ => ?_) ?_
  · rw [hz]
    have : 1 ≤ (2 ^ 63 - 1 : Int) / n := Int.le_ediv_of_mul_le (by omega) (by omega)
    omega
  · rw [hz]
    unfold tooLong
    exact decide_eq_false (by omega)
  · rw [if_neg (by omega), if_neg (by rw [hne]; simp)]
    exact ⟨by rw [hsz]; omega, .str _, H, I.tok _, ⟨_, rfl⟩, q _ hsz⟩
noncomputable def Its (x : Str) : It := ⟨fun i _ => i < x.cps.size, fun i H v H' => H' = H ∧ ∃ c, x.cps[i]? = some c ∧ v = .str ⟨#[c]⟩, fun i _ => x.cps.size ≤ i⟩
noncomputable def iStr (tl : TE) : TI := fun σ H R => tl σ H fun x H1 => ∃ z, x = .str z ∧ R (Its z) H1
theorem j4i {P : Program} {w : World} {K : PySem.W.Frag} {tg : Expr} (it : Addr) (x : Str) (t : Tok) (ty : String)
    (hn : ["enumerate", "zip", "dict_itemiterator", "dict_reverseitemiterator", "odict_iterator", "itertools.zip_longest", "itertools.pairwise"].contains ty = false)
    (W : ∀ A : Around, A.handled = none → Walks P w A it [it] [it] x.cps.size (SignAt x) (fun i h => h.IsStrIter it ty x t i))
    (hs : ∀ (A : Around) (i : Nat) (s : Shared) (Q : Value → Shared → Prop) (E : Value → Shared → Prop), s.heap.IsStrIter it ty x t i → Q (.ref it) s → wpAny (model P w) A (pyIter (.ref it)) Q E s) :
    Turn P w K tg (Its x) [it] it (fun i h => i ≤ x.cps.size ∧ h.IsStrIter it ty x t i) where
  mem := by simp
  obj := fun i h st b hb => by
    have e : b = it := by simpa using hb
    subst e
    obtain ⟨_, o, e, c, d⟩ := st
    exact ⟨o, e, fun v z => by rw [d] at z; cases z⟩
  keep := fun i h h' st k => by
    obtain ⟨hi, o, e, r⟩ := st
    exact ⟨hi, o, k it (by simp) o e, r⟩
  item := by
    intro X hP hw hK hc i pins s σ H E I hf st hg
    subst hP hw hK
    obtain ⟨f0, f1, f2, f3, f4, f5⟩ := hf it (by simp)
    refine (W X.A (I.ok.hd hc)).item i s _ _ hg st.2 fun v h' tk hv st' kk => ?_
    obtain ⟨c, u, hc', rfl⟩ := hv
    have I1 : Inv X pins σ H { s with heap := h', toks := tk } := I.turned (fun b o hb e => kk b o (by simpa using hb) e) f0 f1 f3 f4 f5
    obtain ⟨o, e, c1, d⟩ := id st'
    exact ⟨_, rfl, go_of (s := { s with heap := h', toks := tk }) e c1 d hn ⟨.str ⟨#[c]⟩, H, I1, ⟨u, rfl⟩, ⟨rfl, c, hc', rfl⟩, ⟨hg, st'⟩, fun b hb => (hf b hb).1⟩⟩
  done := by
    intro X hP hw hK hc i pins s σ H E I hf st hg
    subst hP hw hK
    obtain ⟨f0, f1, f2, f3, f4, f5⟩ := hf it (by simp)
    have e : i = x.cps.size := Nat.le_antisymm st.1 hg
    subst e
    exact (W X.A (I.ok.hd hc)).done s _ _ st.2 fun h' tk eb => ⟨rfl, I.turned (t' := tk) (fun b o hb e => eb b o (by simpa using hb) e) f0 f1 f3 f4 f5⟩
  self := fun A i s Q E st h => hs A i s Q E st.2 h
theorem pi_str {l tg : Expr} {tl : TE} (hl : PE X l tl) : PI X tg l (iStr tl) := by
  intro pins s σ H R I h
  refine thn (hl pins s σ H _ I h) fun v s1 ⟨x, H1, I1, r1, q1⟩ => ?_
  obtain ⟨z, rfl, q⟩ := q1
  obtain ⟨t, rfl⟩ := r1
  have fp : ∀ b ∈ [s1.heap.objs.size], FpOk X pins H1 b := fun b hb => by
    have e : b = s1.heap.objs.size := by simpa using hb
    subst e
    exact I1.fpOk (Nat.le_refl _) (I1.hok.fresh (Nat.le_refl _))
  cases ha : z.cps.all (· < 128)
  · exact wpAny_pyIter_wide ha ⟨s1.heap.objs.size, [s1.heap.objs.size], _, _, H1, rfl, I1.kept (t' := s1.toks) fun b o e => Heap.get?_push_of_some _ e,
      j4i _ z t "str_iterator" (by decide) (fun A hA => Walks.strWide hA _ z t) (fun A i s Q E st h => wpAny_pyIter_striter_wide st h), ⟨Nat.zero_le _, _, Heap.get?_push_size _ rfl, rfl, rfl⟩, fp, q⟩
  · exact wpAny_pyIter_ascii ha ⟨s1.heap.objs.size, [s1.heap.objs.size], _, _, H1, rfl, I1.kept (t' := s1.toks) fun b o e => Heap.get?_push_of_some _ e,
      j4i _ z t "str_ascii_iterator" (by decide) (fun A hA => Walks.strAscii hA _ z t) (fun A i s Q E st h => wpAny_pyIter_striter_ascii st h), ⟨Nat.zero_le _, _, Heap.get?_push_size _ rfl, rfl, rfl⟩, fp, q⟩
end
end L3
end
noncomputable section
namespace Txm
open PySem PySem.NumText PyProof.Rows
noncomputable def sg (n : Int) : List Nat := (PySem.Str.ofString (toString n)).cps.toList
theorem j6m (m : Nat) : sg (m : Int) = (Nat.toDigits 10 m).map Char.toNat := PySem.W.KIN.signs_num m
theorem j6n {m : Nat} (h : 0 < m) : sg (-(m : Int)) = 45 :: sg (m : Int) := by
  obtain ⟨k, rfl⟩ : ∃ k, m = k + 1 := ⟨m - 1, by omega⟩
  unfold sg
  rw [signs_ofString, signs_ofString]
  show ((toString (Int.negSucc k)).toList.map Char.toNat) = 45 :: (Nat.repr (k + 1)).toList.map Char.toNat
  have e : (toString (Int.negSucc k)).toList = '-' :: (Nat.repr (k + 1)).toList := by
    show ("-" ++ Nat.repr (k + 1)).toList = _
    rw [String.toList_append]
    rfl
  rw [e]
  rfl
theorem td_step {m r : Nat} (hm : 0 < m) (hr : r < 10) : Nat.toDigits 10 (10 * m + r) = Nat.toDigits 10 m ++ Nat.toDigits 10 r := (Nat.toDigits_append_toDigits (by decide) hm hr).symm
theorem td_one {r : Nat} (hr : r < 10) : (Nat.toDigits 10 r).map Char.toNat = [r + 48] := by
  rw [Nat.toDigits_of_lt_base hr]
  have : ∀ d : Nat, d < 10 → (Nat.digitChar d).toNat = d + 48 := by decide
  rw [List.map_cons, this r hr]
  rfl
theorem j41 {m r : Nat} (hm : 0 < m) (hr : r < 10) : sg ((10 * m + r : Nat) : Int) = sg (m : Int) ++ [r + 48] := by rw [j6m, j6m, td_step hm hr, List.map_append, td_one hr]
theorem j42 {r : Nat} (hr : r < 10) : sg (r : Int) = [r + 48] := by rw [j6m, td_one hr]
noncomputable def Can (ds : List Nat) : Prop := ds.head? ≠ some 48 ∨ ds = [48]
theorem lead : ∀ (n : Nat), 0 < n → ∃ c t, sg (n : Int) = c :: t ∧ c ≠ 48 := by
  intro n
  induction n using Nat.strongRecOn with
  | _ n ih =>
    intro h0
    by_cases h : n < 10
    · exact ⟨n + 48, [], j42 h, by omega⟩
    · obtain ⟨c, t, e, hc⟩ := ih (n / 10) (by omega) (by omega)
      have := j41 (m := n / 10) (r := n % 10) (by omega) (Nat.mod_lt _ (by decide))
      rw [show 10 * (n / 10) + n % 10 = n by omega, e] at this
      exact ⟨c, t ++ [n % 10 + 48], this, hc⟩
theorem sg_can (n : Nat) : Can (sg (n : Int)) := by
  by_cases h : n = 0
  · subst h
    exact .inr (j42 (r := 0) (by decide))
  · obtain ⟨c, t, e, hc⟩ := lead n (by omega)
    rw [e]
    exact .inl fun z => hc (Option.some.inj z)
theorem j4j (ds : List Nat) (d : Nat) : digitsVal (ds ++ [d]) = digitsVal ds * 10 + (d - 48) := by
  unfold digitsVal
  rw [List.foldl_append]
  rfl
theorem back : ∀ (k : Nat) (ds : List Nat), ds.length = k + 1 → AllDigits ds → Can ds → sg ((digitsVal ds : Nat) : Int) = ds
  | 0, ds, hl, h, _ => by
    match ds, hl with
    | [d], _ =>
      have hd := h d (by simp)
      have e : digitsVal [d] = d - 48 := by show 0 * 10 + (d - 48) = d - 48; omega
      rw [e, j42 (by omega)]
      congr 1
      omega
  | k + 1, ds, hl, h, c => by
    have hne : ds ≠ [] := fun z => by rw [z] at hl; simp at hl
    have e := List.dropLast_concat_getLast hne
    generalize ds.getLast hne = d at e
    generalize hi : ds.dropLast = is at e
    subst e
    have il : is.length = k + 1 := by simpa using hl
    have hd := h d (by simp)
    have ih : AllDigits is := fun x hx => h x (by simp [hx])
    have c0 : is.head? ≠ some 48 := by
      rcases c with c | c
      · intro z
        apply c
        cases is with
        | nil => simp at il
        | cons x t => exact z
      · exfalso
        have := congrArg List.length c
        rw [List.length_append, List.length_singleton, List.length_singleton] at this
        omega
    have b := back k is il ih (.inl c0)
    have pos : 0 < digitsVal is := by
      rcases Nat.eq_zero_or_pos (digitsVal is) with z | z
      · rw [z] at b
        have : is = [48] := b.symm.trans (j42 (r := 0) (by decide))
        rw [this] at c0
        exact absurd rfl c0
      · exact z
    rw [j4j, show digitsVal is * 10 + (d - 48) = 10 * digitsVal is + (d - 48) by omega, j41 pos (by omega), b]
    congr 2
    omega
theorem same {ds : List Nat} (h : AllDigits ds) (hne : ds ≠ []) : sg ((digitsVal ds : Nat) : Int) = ds ↔ Can ds := by
  constructor
  · intro e
    have := sg_can (digitsVal ds)
    rwa [e] at this
  · exact back (ds.length - 1) ds (by have := List.length_pos_iff.mpr hne; omega) h
theorem j4k : ∀ (k m : Nat), 0 < k → m < 10 ^ k → (sg (m : Int)).length ≤ k
  | 0, _, h, _ => absurd h (Nat.lt_irrefl _)
  | k + 1, m, _, h => by
    by_cases c : m < 10
    · rw [j42 c]
      simp
    · have h2 : m / 10 < 10 ^ k := by
        rw [Nat.div_lt_iff_lt_mul (by decide)]
        rwa [Nat.pow_succ] at h
      have k0 : 0 < k := by
        rcases Nat.eq_zero_or_pos k with z | z
        · rw [z] at h
          simp at h
          omega
        · exact z
      have := j41 (m := m / 10) (r := m % 10) (by omega) (Nat.mod_lt _ (by decide))
      rw [show 10 * (m / 10) + m % 10 = m by omega] at this
      rw [this, List.length_append]
      have := j4k k (m / 10) k0 h2
      simp only [List.length_singleton]
      omega
noncomputable def fg : List Nat → List Nat
  | 45 :: r => r
  | w => w
noncomputable def vl : List Nat → Int
  | 45 :: r => -((digitsVal r : Nat) : Int)
  | w => ((digitsVal w : Nat) : Int)
noncomputable def Gd (w : List Nat) : Prop := AllDigits (fg w) ∧ fg w ≠ [] ∧ (fg w).length ≤ 7 ∧ ¬ ((fg w).head? = some 48 ∧ w ≠ [48]) ∧ -1000001 < vl w ∧ vl w < 1000001
noncomputable def Pd (w : List Nat) : Prop := AllDigits (fg w) ∧ fg w ≠ [] ∧ w.length ≤ 8 ∧ sg (vl w) = w ∧ -1000000 ≤ vl w ∧ vl w ≤ 1000000
theorem j0o (w : List Nat) : (∃ r, w = 45 :: r ∧ fg w = r ∧ vl w = -((digitsVal r : Nat) : Int)) ∨ (w.head? ≠ some 45 ∧ fg w = w ∧ vl w = ((digitsVal w : Nat) : Int)) := by
  match w with
  | [] => exact .inr ⟨by simp, rfl, rfl⟩
  | c :: r =>
    by_cases h : c = 45
    · subst h
      exact .inl ⟨r, rfl, rfl, rfl⟩
    · refine .inr ⟨fun z => h (Option.some.inj z), ?_, ?_⟩
      · unfold fg
        split
        · rename_i z
          injection z with z _
          exact absurd z h
        · rfl
      · unfold vl
        split
        · rename_i z
          injection z with z _
          exact absurd z h
        · rfl
theorem gd_pd (w : List Nat) : Gd w ↔ Pd w := by
  rcases j0o w with ⟨r, e, ef, ev⟩ | ⟨hh, ef, ev⟩
  · unfold Gd Pd
    rw [ef, ev]
    have l : w.length = r.length + 1 := by rw [e]; rfl
    have nw : w ≠ [48] := fun z => by rw [e] at z; injection z with z _; cases z
    constructor
    · rintro ⟨h1, h2, h3, h4, h5, h6⟩
      have h0 : r.head? ≠ some 48 := fun z => h4 ⟨z, nw⟩
      have s := (same h1 h2).mpr (.inl h0)
      have pos : 0 < digitsVal r := by
        rcases Nat.eq_zero_or_pos (digitsVal r) with z | z
        · rw [z] at s
          have : r = [48] := s.symm.trans (j42 (r := 0) (by decide))
          rw [this] at h0
          exact absurd rfl h0
        · exact z
      exact ⟨h1, h2, by omega, by rw [j6n pos, s, e], by omega, by omega⟩
    · rintro ⟨h1, h2, h3, h4, h5, h6⟩
      refine ⟨h1, h2, by omega, ?_, by omega, by omega⟩
      rintro ⟨z, _⟩
      rcases Nat.eq_zero_or_pos (digitsVal r) with y | y
      · rw [y, e] at h4
        have : sg (-((0 : Nat) : Int)) = [48] := j42 (r := 0) (by decide)
        rw [this] at h4
        injection h4 with h4 _
        cases h4
      · rw [j6n y, e] at h4
        have s : sg ((digitsVal r : Nat) : Int) = r := List.tail_eq_of_cons_eq h4
        obtain ⟨c, t, e2, hc⟩ := lead _ y
        rw [s] at e2
        rw [e2] at z
        exact hc (Option.some.inj z)
  · unfold Gd Pd
    rw [ef, ev]
    constructor
    · rintro ⟨h1, h2, h3, h4, h5, h6⟩
      refine ⟨h1, h2, by omega, (same h1 h2).mpr ?_, by omega, by omega⟩
      by_cases c : w = [48]
      · exact .inr c
      · exact .inl fun z => h4 ⟨z, c⟩
    · rintro ⟨h1, h2, h3, h4, h5, h6⟩
      refine ⟨h1, h2, ?_, ?_, by omega, by omega⟩
      · have := j4k 7 (digitsVal w) (by decide) (by omega)
        rw [h4] at this
        exact this
      · rintro ⟨z, nz⟩
        rcases (same h1 h2).mp h4 with y | y
        · exact y z
        · exact nz y
end Txm
end
noncomputable section
namespace Txm
open PySem PySem.NumText PyProof.Rows PySem.Builtin.Str
abbrev cs (z : PySem.Str) : List Nat := z.cps.toList
theorem j1s {a b : PySem.Str} (h : cs a = cs b) : a = b := Str.ext' (Array.toList_inj.mp h)
theorem j0g (z : PySem.Str) : (cs z).length = z.length := Array.length_toList
theorem j3n (z : PySem.Str) : Txt.startswith z "-" = decide ((cs z).head? = some 45) := by
  have e : (PySem.Str.ofString "-").cps.toList = [45] := by decide +kernel
  have l : (PySem.Str.ofString "-").length = 1 := by decide +kernel
  unfold Txt.startswith
  rw [StrLaws.subAt_eq, l, e, List.drop_zero, ← j0g]
  cases h : cs z with
  | nil => rw [show z.cps.toList = [] from h]; rfl
  | cons c t =>
    rw [show z.cps.toList = c :: t from h]
    show (decide (0 + 1 ≤ t.length + 1) && ([c] == [45])) = decide (some c = some 45)
    rw [decide_eq_true (by omega), Bool.true_and]
    by_cases hc : c = 45
    · subst hc; rfl
    · rw [decide_eq_false fun q => hc (Option.some.inj q)]
      simpa using hc
theorem j6o (n : Nat) (h : 0 < n) : strSliceIndices (some 1) none 1 n = strSliceIndices (some ((1 : Nat) : Int)) (some (n : Int)) 1 n := by
  have h2 : ¬ ((n : Int) < 0) := by omega
  simp only [strSliceIndices, h2, if_false]
  simp
theorem j2h (z : PySem.Str) : cs (Txt.slice z (some 1) none) = (cs z).drop 1 := by
  by_cases h0 : z.length = 0
  · have e : cs z = [] := List.length_eq_zero_iff.mp (by rw [j0g, h0])
    have hl := Txt.slice_le z (some 1) none
    have e2 : cs (Txt.slice z (some 1) none) = [] := List.length_eq_zero_iff.mp (by rw [j0g]; omega)
    rw [e2, e]; rfl
  · have hp : 0 < z.length := by omega
    have e := StrLaws.sliced_plain z (a := 1) (b := z.length) (by omega) (Nat.le_refl _)
    have e2 : ((cs z).drop 1).take (z.length - 1) = (cs z).drop 1 := List.take_of_length_le (by rw [List.length_drop, j0g]; omega)
    rw [e2] at e
    unfold Txt.slice
    rw [j6o _ hp, if_neg]
    · exact e
    · intro hh
      rw [StrLaws.strSliceIndices_plain (by omega) (Nat.le_refl _)] at hh
      simp at hh
      omega
theorem j3o (z : PySem.Str) : cs (Txt.slice z none (some 1)) = (cs z).take 1 := by
  by_cases h0 : z.length = 0
  · have e : cs z = [] := List.length_eq_zero_iff.mp (by rw [j0g, h0])
    have hl := Txt.slice_le z none (some 1)
    have e2 : cs (Txt.slice z none (some 1)) = [] := List.length_eq_zero_iff.mp (by rw [j0g]; omega)
    rw [e2, e]; rfl
  · have hp : 1 ≤ z.length := by omega
    have e := StrLaws.sliced_plain z (a := 0) (b := 1) (by omega) hp
    have i : strSliceIndices none (some 1) 1 z.length = strSliceIndices (some ((0 : Nat) : Int)) (some ((1 : Nat) : Int)) 1 z.length := by
      simp only [strSliceIndices]
      have : max (0 : Int) (min 0 (z.length : Int)) = 0 := by omega
      simp [this]
    unfold Txt.slice
    rw [i]
    split
    · rename_i hh
      rw [StrLaws.strSliceIndices_plain (by omega) hp] at hh
      simp at hh
      exact (List.take_of_length_le (by rw [j0g]; omega)).symm
    · exact e
noncomputable def FIG : PySem.Str := PySem.Str.ofString "0123456789"
theorem j33 (c : Nat) : c ∈ FIG.cps.toList ↔ 48 ≤ c ∧ c ≤ 57 := by
  have e : FIG.cps.toList = [48, 49, 50, 51, 52, 53, 54, 55, 56, 57] := by decide +kernel
  rw [e]
  simp
  omega
theorem in_fig (c : Nat) : (!(occurrences FIG ⟨#[c]⟩ 0 FIG.length 1).isEmpty) = decide (48 ≤ c ∧ c ≤ 57) := by
  rw [StrLaws.found_one]
  by_cases h : 48 ≤ c ∧ c ≤ 57
  · rw [decide_eq_true h, decide_eq_true ((j33 c).mpr h)]
  · rw [decide_eq_false h, decide_eq_false fun q => h ((j33 c).mp q)]
theorem all_fig (z : PySem.Str) : (∀ c ∈ cs z, FIG.cps.contains c = true) ↔ AllDigits (cs z) := by
  constructor
  · intro h c hc
    exact (j33 c).mp (by simpa using h c hc)
  · intro h c hc
    have := (j33 c).mpr (h c hc)
    simpa using this
theorem j6p (z : PySem.Str) : Txt.stripChars z FIG = "" ↔ AllDigits (cs z) := by
  have e0 : cs (PySem.Str.ofString "") = [] := by decide +kernel
  have key : cs (Txt.stripChars z FIG) = ((cs z).drop (stripLo FIG.cps.contains true z)).take (stripHi FIG.cps.contains true z (stripLo FIG.cps.contains true z) - stripLo FIG.cps.contains true z) := by
    unfold Txt.stripChars
    rw [stripBy_eq, cs, StrLaws.strSub_toList]
  rw [← all_fig]
  constructor
  · intro h
    have h1 := congrArg cs h
    rw [key] at h1
    obtain ⟨l1, l2, l3⟩ := lo_facts FIG.cps.contains z
    obtain ⟨m1, m2, m3, m4⟩ := hi_facts FIG.cps.contains z _ l1
    generalize stripHi FIG.cps.contains true z (stripLo FIG.cps.contains true z) = hi at *
    generalize stripLo FIG.cps.contains true z = lo at *
    have h2 := congrArg List.length (h1.trans e0)
    rw [List.length_take, List.length_drop, j0g, List.length_nil] at h2
    intro c hc
    obtain ⟨k, hk⟩ := List.mem_iff_getElem?.mp hc
    have hk' : k < z.length := by
      rw [← j0g]
      exact (List.getElem?_eq_some_iff.mp hk).1
    have e : z.cps.getD k 0 = c := by
      rw [← getD_list, List.getD_eq_getElem?_getD, show z.cps.toList[k]? = some c from hk]
      rfl
    rw [← e]
    by_cases q : k < lo
    · exact l2 k q
    · exact m3 k (by omega) hk'
  · intro h
    apply j1s
    have tw : (cs z).takeWhile FIG.cps.contains = cs z := takeWhile_all h
    have lo : stripLo FIG.cps.contains true z = z.length := by
      unfold stripLo
      rw [if_pos rfl, tw, j0g]
    rw [key, lo, List.drop_of_length_le (by rw [j0g]; exact Nat.le_refl _), List.take_nil]
    exact e0.symm
theorem int_of {z : PySem.Str} (h : AllDigits (fg (cs z))) (hn : fg (cs z) ≠ []) (hl : z.length ≤ 640) : PySem.intText? z = some (vl (cs z)) := by
  rcases j0o (cs z) with ⟨r, e, ef, ev⟩ | ⟨_, ef, ev⟩
  · rw [ef] at h hn
    rw [ev]
    exact intText_neg e h hn (by omega)
  · rw [ef] at h hn
    rw [ev]
    exact intText_digits h hn (by omega)
theorem j6q (n : Int) (z : PySem.Str) : PySem.Str.ofString (toString n) = z ↔ sg n = cs z := ⟨fun h => congrArg cs h, fun h => j1s h⟩
end Txm
end
noncomputable section
namespace Txm
open PySem PySem.NumText PyProof.Rows PySem.Builtin.Str
abbrev wr (n : Int) : PySem.Str := PySem.Str.ofString (toString n)
open Classical in
noncomputable def gd (w : PySem.Str) : Option Int := if Pd (cs w) then some (vl (cs w)) else none
theorem j34 {w : PySem.Str} : gd w = none ↔ ¬ Pd (cs w) := by
  unfold gd
  split
  · rename_i h; simp [h]
  · rename_i h; simp [h]
theorem gd_of {w : PySem.Str} (h : Pd (cs w)) : gd w = some (vl (cs w)) := if_pos h
theorem j6r {w : PySem.Str} {n : Int} (h : gd w = some n) : wr n = w ∧ -1000000 ≤ n ∧ n ≤ 1000000 := by
  unfold gd at h
  split at h
  · rename_i p
    cases h
    exact ⟨(j6q _ _).mpr p.2.2.2.1, p.2.2.2.2.1, p.2.2.2.2.2⟩
  · cases h
theorem j2q : ∀ {ws : List PySem.Str}, (∀ w ∈ ws, gd w ≠ none) → (ws.filterMap gd).map wr = ws
  | [], _ => rfl
  | w :: ws, h => by
    cases e : gd w with
    | none => exact absurd e (h w (by simp))
    | some n =>
      rw [List.filterMap_cons, e, List.map_cons, (j6r e).1, j2q fun x hx => h x (by simp [hx])]
theorem good_bd {ws : List PySem.Str} : ∀ n ∈ ws.filterMap gd, -1000000 ≤ n ∧ n ≤ 1000000 := by
  intro n hn
  obtain ⟨w, _, e⟩ := List.mem_filterMap.mp hn
  exact (j6r e).2
theorem j35 (x y : PySem.Str) : Txt.split x y ≠ [] := by
  unfold Txt.split
  split
  · simp
  · split
    · simp
    · intro h
      have := len_partsBetween x (occurrences x y 0 x.length (x.length + 1)) y.length
      rw [h] at this
      simp at this
noncomputable def tot (ws : List PySem.Str) : Nat := (ws.map fun w => w.length + 1).sum
theorem j1d (a b : PySem.Str) : (a ++ b).length = a.length + b.length := by
  show (a ++ b).cps.size = _
  rw [Str.cps_append, Array.size_append]
  rfl
theorem sp_len : (PySem.Str.ofString " ").length = 1 := by decide +kernel
theorem j23 : ∀ {ws : List PySem.Str}, ws ≠ [] → (Str.join " " ws).length + 1 = tot ws
  | [], h => absurd rfl h
  | [x], _ => by show x.length + 1 = x.length + 1 + 0; omega
  | x :: y :: r, _ => by
    have ih := j23 (ws := y :: r) (by simp)
    show (x ++ PySem.Str.ofString " " ++ Str.join " " (y :: r)).length + 1 = x.length + 1 + tot (y :: r)
    rw [j1d, j1d, sp_len, ← ih]
    omega
theorem j4l : ∀ (ws : List PySem.Str) (n : Nat), ws.foldl (fun a w => a + w.length + (PySem.Str.ofString " ").length) n = n + tot ws
  | [], n => rfl
  | w :: ws, n => by
    rw [List.foldl_cons, j4l ws, sp_len]
    show _ = n + (w.length + 1 + tot ws)
    omega
theorem j6s {ws : List PySem.Str} (h : tot ws ≤ 100000) : JoinOk " " ws = true := by
  unfold JoinOk
  rw [List.foldl_toArray, j4l ws 0]
  unfold tooLong
  have : (100000 : Nat) ≤ sizeLine := by decide
  rw [decide_eq_false (by omega)]
  rfl
theorem tot_le {ws : List PySem.Str} {k : Nat} (h : ∀ w ∈ ws, w.length ≤ k) : tot ws ≤ ws.length * (k + 1) := by
  induction ws with
  | nil => exact Nat.zero_le _
  | cons w ws ih =>
    have h1 := h w (by simp)
    have h2 := ih fun x hx => h x (by simp [hx])
    show w.length + 1 + tot ws ≤ (ws.length + 1) * (k + 1)
    rw [Nat.succ_mul]
    omega
theorem wr_len {n : Int} (h0 : -10000000 < n) (h1 : n < 10000000) : (wr n).length ≤ 8 := by
  rw [← j0g]
  show (sg n).length ≤ 8
  rcases Int.lt_or_le n 0 with h | h
  · obtain ⟨m, rfl⟩ : ∃ m : Nat, n = -(m : Int) := ⟨n.natAbs, by omega⟩
    rw [j6n (by omega), List.length_cons]
    have := j4k 7 m (by decide) (by omega)
    omega
  · obtain ⟨m, rfl⟩ : ∃ m : Nat, n = (m : Int) := ⟨n.toNat, by omega⟩
    have := j4k 7 m (by decide) (by omega)
    omega
theorem j4m {t : PySem.Str} : ∀ w ∈ Txt.split t " ", w.length ≤ t.length := by
  have e := j23 (j35 t " ")
  rw [StrLaws.join_split] at e
  have key : ∀ (ws : List PySem.Str), ∀ w ∈ ws, w.length + 1 ≤ tot ws := by
    intro ws
    induction ws with
    | nil => intro w hw; cases hw
    | cons x ws ih =>
      intro w hw
      show w.length + 1 ≤ x.length + 1 + tot ws
      rcases List.mem_cons.mp hw with rfl | z
      · omega
      · have := ih w z; omega
  intro w hw
  have := key _ w hw
  omega
theorem dv_lt : ∀ (k : Nat) (ds : List Nat), ds.length = k → AllDigits ds → digitsVal ds < 10 ^ k
  | 0, ds, hl, _ => by
    rw [List.length_eq_zero_iff.mp hl]
    decide
  | k + 1, ds, hl, h => by
    have hne : ds ≠ [] := fun z => by rw [z] at hl; simp at hl
    have e := List.dropLast_concat_getLast hne
    generalize ds.getLast hne = d at e
    generalize ds.dropLast = is at e
    subst e
    have hd := h d (by simp)
    have ih := dv_lt k is (by simpa using hl) fun x hx => h x (by simp [hx])
    rw [j4j, Nat.pow_succ]
    omega
theorem p8 : 10 ^ 8 ≤ 2 ^ 1920 := Nat.le_trans (m := 2 ^ 27) (by decide) (Nat.pow_le_pow_right (by decide) (by decide))
theorem vl_small {w : PySem.Str} (h : AllDigits (fg (cs w))) (hl : w.length ≤ 8) : (vl (cs w)).natAbs.log2 < 1920 := by
  have b : (vl (cs w)).natAbs < 10 ^ 8 := by
    rcases j0o (cs w) with ⟨r, e, ef, ev⟩ | ⟨_, ef, ev⟩
    · rw [ef] at h
      have l : r.length ≤ 8 := by have := j0g w; rw [e, List.length_cons] at this; omega
      have := Nat.lt_of_lt_of_le (dv_lt _ r rfl h) (Nat.pow_le_pow_right (by decide) l)
      rw [ev]
      omega
    · rw [ef] at h
      have l : (cs w).length ≤ 8 := by rw [j0g]; exact hl
      have := Nat.lt_of_lt_of_le (dv_lt _ _ rfl h) (Nat.pow_le_pow_right (by decide) l)
      rw [ev]
      omega
  by_cases z : (vl (cs w)).natAbs = 0
  · rw [z]; decide
  · exact (Nat.log2_lt z).mpr (Nat.lt_of_lt_of_le b p8)
theorem j3p {n : Int} (h : -10000000 ≤ n ∧ n ≤ 10000000) : n.natAbs.log2 < 1920 := by
  by_cases z : n.natAbs = 0
  · rw [z]; decide
  · exact (Nat.log2_lt z).mpr (Nat.lt_of_lt_of_le (m := 10 ^ 8) (by omega) p8)
end Txm
end
noncomputable section
namespace L3
open PySem PySem.Spec PyProof.Rows L2
section
variable {X : Cx} {C : Addr}
theorem j6t {x : Addr} {ox : Obj} (Z : ExcK X.K C) (hp : (x, ox) ∈ X.pn) (ho : ox.cls = .ref C ∧ PySem.W.notCls ox = true ∧ ox.dict = none) :
    j1p X (.builtin "isinstance") (fun xs H Q => ∃ T c b, xs = [.ref x, T] ∧ tyVal T = some c ∧ PySem.W.kitOne X.K (.ref C) c = some b ∧ Q (.bl b) H) := by
  intro pins s σ H xs us Q I r h
  obtain ⟨T, c, b, rfl, hc, e, q⟩ := h
  obtain ⟨u, w', rfl, rx, rt⟩ := vals2 r
  cases rx
  have ew : w' = c := by
    cases T with
    | ty n => cases (show w' = Value.type n from rt); exact Option.some.inj hc
    | ref C => cases (show w' = Value.ref C from rt); exact Option.some.inj hc
    | _ => cases hc
  subst ew
  obtain ⟨p1, _⟩ := I.pin (x, ox) (List.mem_append_left _ hp)
  obtain ⟨c1, n1, d1⟩ := ho
  refine PySem.W.kia_one (kitx_exc (x := x) (ox := ox) Z) I.kIn ⟨p1, c1, n1, ?_⟩ e (fun z => nomatch z) fun tk => ⟨.bl b, H, I.tok tk, rfl, q⟩
  rw [d1]
  trivial
theorem j0q {K : PySem.W.Frag} (eK : X.K = K) {x : Addr} {ox : Obj} (Z : ExcK K C) (hp : (x, ox) ∈ X.pn) (ho : ox.cls = .ref C ∧ PySem.W.notCls ox = true ∧ ox.dict = none) :
    j1p X (.builtin "isinstance") (fun xs H Q => ∃ T c b, xs = [.ref x, T] ∧ tyVal T = some c ∧ PySem.W.kitOne K (.ref C) c = some b ∧ Q (.bl b) H) := by
  subst eK
  exact j6t Z hp ho
theorem j52 {K : PySem.W.Frag} (eK : X.K = K) {x : Addr} (hh : X.A.handled = some (.ref x)) (hx : ∀ (pins : List (Addr × Obj)) (σ : L2.St) (H : Hp) (s : Shared), L2.Inv X pins σ H s → Hd x s.heap) :
    j1p X (.builtin "any") (fun xs H Q => ∃ p bs, xs = [.ref p] ∧ SqL K H p (bV bs) ∧ Q (.bl (bs.any id)) H) := by
  subst eK
  exact j6e hh hx
theorem hd_pin {x : Addr} {ox : Obj} (hp : (x, ox) ∈ X.pn) (ho : ∃ vs, ox.data = .fields vs ∧ vs[2]? = some .none) (pins : List (Addr × Obj)) (σ : L2.St) (H : Hp) (s : Shared) (I : L2.Inv X pins σ H s) : Hd x s.heap := by
  obtain ⟨vs, d, v⟩ := ho
  exact ⟨ox, vs, (I.pin (x, ox) (List.mem_append_left _ hp)).1, d, v⟩
end
structure OkX (P : Program) (w : World) (K : PySem.W.Frag) (mg : Str → Option Value) (base : Heap) (C : Addr) (k : Nat) (x : Str) (ps : List Str) (sp : Sp) : Prop where
  ex : ∃ (f : Addr) (fd : FuncData), FnOk P w K mg base (CX1 P w C) k f fd ps sp ∧ mg x = some (.ref f) ∧ PySem.W.keepIn K (.ref f) = true ∧ j2m K fd ps []
section
variable {X : Cx} {k : Nat} {ps : List Str} {sp : Sp} {x : Str} {p pos : Pos} {e : Expr} {es : List Expr} {t : TA} {C : Addr} {E : XK}
theorem j24 (hx : j1t (CX1 X.prog X.w C) X E) (c : OkX X.prog X.w X.K X.mg X.base C k x ps sp) (hr : Room k X.A) (hg : Gl X x) (ha : PA X (e :: es) t)
    (hdb : (x == ("__debug__" : Str)) = false := by decide) (he : starEach (e :: es) X.env = (false, eval e X.env) :: starEach es X.env := by rfl) (hpl : (backTo pos (starEach es X.env)).any (·.1) = false := by rfl) :
    PE X (.Call (.Name x p) (e :: es) [] pos) (j5p sp [] E t) := by
  obtain ⟨f, fd, F, g, kp, b⟩ := c.ex
  exact j5q (E := E) F hr hg g kp b .nil hx ha hdb he hpl
theorem j2r : j1t (CX1 X.prog X.w C) X (fun _ _ _ => False) := by
  rintro pins σ H1 s1 e s' I ⟨x, H', rfl, os, bare, fl, ee⟩
  exact ee.elim
end
theorem OkX.of {P : Program} {w : World} {K : PySem.W.Frag} {mg : Str → Option Value} {base h : Heap} {x qual : Str} {st : Stmt} {ps : List Str} {k : Nat} {sp : Sp} {C : Addr} (t : TopF K x qual st) (X : K.In h) (G : h.Ns mainGlobals mg) (b : BindsBy x qual st ps) (ok : ∀ f fd, Fun K x qual st f fd → FnOk P w K mg base (CX1 P w C) k f fd ps sp) : OkX P w K mg base C k x ps sp := by
  obtain ⟨f, fd, a, F⟩ := t.ex
  exact ⟨f, fd, ok f fd F, PySem.W.mg_of X G a, F.kp, F.binds b⟩
theorem j1k {K : PySem.W.Frag} {a : Addr} {xs : List V} {idx : List Nat} {te : TE} {σ : L2.St} {H : Hp} {Q : VK} {EQ : Hp → Prop} (g : V → Option V) (hS : SqL K H a xs) (hl : xs.length < sizeLine)
    (he : ∀ x ∈ xs, ∀ (H' : Hp) (R : VK), Same H H' → (∀ v H2, g x = some v → Same H' H2 → R v H2) → (g x = none → ∀ H2, Same H' H2 → EQ H2) → te (some x :: capV idx σ) H' R)
    (q : (∀ x ∈ xs, g x ≠ none) → ∀ D H', H D = none → Same H H' → H' D = some (.lst (xs.filterMap g)) → Q (.ref D) H') (hE : ∀ x ∈ xs, g x = none → ∀ H', Same H H' → EQ H') :
    ∀ D, H D = none → ∃ W : Nat → Nat → List V → Hp → Prop, (∃ m, W 0 m [] (upd H D (.lst []))) ∧ ∀ i m ys H2, W i m ys H2 →
      ((Itl K a).stop i H2 ∧ Q (.ref D) H2) ∨ ((Itl K a).go i H2 ∧ ∀ x H3, (Itl K a).yld i H2 x H3 → (fun (_ : L2.St) (H : Hp) (Q : Bool → Hp → Prop) => Q true H) (some x :: capV idx σ) H3 fun b H4 =>
        if b = true then te (some x :: capV idx σ) H4 fun y H5 => H5 D = some (.lst ys) ∧ ys.length < sizeLine ∧ ∃ m', m' < m ∧ W (i + 1) m' (ys ++ [y]) (upd H5 D (.lst (ys ++ [y])))
        else ∃ m', m' < m ∧ W (i + 1) m' ys H4) := by
  intro D hD
  have su : ∀ {H' : Hp} {o : HO}, Same H H' → Same H (upd H' D o) := fun s1 b u e => by rw [j0c (j0e e hD)]; exact s1 b u e
  refine ⟨fun i m ys H2 => m = xs.length - i ∧ i ≤ xs.length ∧ (∀ x ∈ xs.take i, g x ≠ none) ∧ ys = (xs.take i).filterMap g ∧ Same H H2 ∧ H2 D = some (.lst ys), ⟨xs.length, by simp, Nat.zero_le _, by simp, by simp, j0j hD, j04⟩, ?_⟩
  rintro i m ys H2 ⟨rfl, hi, hg, rfl, s2, d2⟩
  have hS2 : SqL K H2 a xs := s2.seq hS
  by_cases hlt : i < xs.length
  · refine .inr ⟨⟨_, _, hS2, List.getElem?_eq_getElem hlt⟩, ?_⟩
    rintro x H3 ⟨rfl, hx⟩
    have hx := hx _ hS2
    have hm : x ∈ xs := List.mem_of_getElem? hx
    have tk : xs.take (i + 1) = xs.take i ++ [x] := by rw [List.take_succ, hx]; rfl
    show if true = true then _ else _
    rw [if_pos rfl]
    refine he x hm _ _ s2 (fun v H5 e s5 => ⟨s5 _ _ d2, ?_, xs.length - (i + 1), by omega, rfl, hlt, ?_, ?_, su (s2.trans s5), j04⟩) fun e H5 s5 => hE x hm e _ (s2.trans s5)
    · have := List.length_filterMap_le g (xs.take i)
      rw [List.length_take] at this
      omega
    · rw [tk]
      intro y hy
      rcases List.mem_append.mp hy with z | z
      · exact hg y z
      · rw [List.mem_singleton] at z
        rw [z, e]
        simp
    · rw [tk, List.filterMap_append]
      simp [e]
  · have : i = xs.length := by omega
    subst this
    refine .inl ⟨⟨_, hS2, Nat.le_refl _⟩, ?_⟩
    rw [List.take_of_length_le (Nat.le_refl _)] at hg d2
    exact q hg D _ hD s2 d2
theorem j4n {K : PySem.W.Frag} {tl : TE} {a : Addr} {xs : List V} {idx : List Nat} {te : TE} {σ : L2.St} {H H1 : Hp} {Q : VK} {EQ : Hp → Prop} (g : V → Option V) (htl : ∀ R : VK, R (.ref a) H1 → tl σ H R) (hS : SqL K H1 a xs) (hl : xs.length < sizeLine)
    (he : ∀ x ∈ xs, ∀ (H' : Hp) (R : VK), Same H1 H' → (∀ v H2, g x = some v → Same H' H2 → R v H2) → (g x = none → ∀ H2, Same H' H2 → EQ H2) → te (some x :: capV idx σ) H' R)
    (q : (∀ x ∈ xs, g x ≠ none) → ∀ D H', H1 D = none → Same H1 H' → H' D = some (.lst (xs.filterMap g)) → Q (.ref D) H') (hE : ∀ x ∈ xs, g x = none → ∀ H', Same H1 H' → EQ H') : j2z (iList K tl) idx (fun _ H Q => Q true H) te σ H Q :=
  htl _ ⟨a, rfl, ⟨_, hS⟩, j1k g hS hl he q hE⟩
theorem compN_of {K : PySem.W.Frag} {tl : TE} {xs : List V} {idx : List Nat} {te : TE} {σ : L2.St} {H : Hp} {Q : VK} {EQ : Hp → Prop} (g : V → Option V) (htl : ∀ R : VK, (∀ p H1, Same H H1 → H1 p = some (.lst xs) → R (.ref p) H1) → tl σ H R) (hl : xs.length < sizeLine)
    (he : ∀ x ∈ xs, ∀ (H' : Hp) (R : VK), Same H H' → (∀ v H2, g x = some v → Same H' H2 → R v H2) → (g x = none → ∀ H2, Same H' H2 → EQ H2) → te (some x :: capV idx σ) H' R)
    (q : (∀ x ∈ xs, g x ≠ none) → ∀ D H', H D = none → Same H H' → H' D = some (.lst (xs.filterMap g)) → Q (.ref D) H') (hE : ∀ x ∈ xs, g x = none → ∀ H', Same H H' → EQ H') : j2z (iList K tl) idx (fun _ H Q => Q true H) te σ H Q := by
  refine htl _ fun p H1 s1 e1 => ⟨p, rfl, ⟨_, SqL.of e1⟩, j1k g (SqL.of e1) hl (fun x hx H' R s2 => he x hx H' R (s1.trans s2)) (fun hg D H' hD s2 d2 => q hg D H' ?_ (s1.trans s2) d2) (fun x hx hn H' s2 => hE x hx hn H' (s1.trans s2))⟩
  cases y : H D with
  | none => rfl
  | some o => rw [s1 D o y] at hD; cases hD
theorem j4o {K : PySem.W.Frag} {tl : TE} {idx : List Nat} {te : TE} {σ : L2.St} {H : Hp} {Q : VK} (G : List V → Hp → Prop) (g : V → V) (htl : ∀ R : VK, (∀ xs p H1, G xs H1 → Same H H1 → H1 p = some (.lst xs) → R (.ref p) H1) → tl σ H R) (hl : ∀ xs H1, G xs H1 → xs.length < sizeLine)
    (he : ∀ xs H1, G xs H1 → ∀ x ∈ xs, ∀ (H' : Hp) (R : VK), Same H1 H' → (∀ H2, Same H' H2 → R (g x) H2) → te (some x :: capV idx σ) H' R)
    (q : ∀ xs H1, G xs H1 → ∀ D H', Same H H' → H' D = some (.lst (xs.map g)) → Q (.ref D) H') : j2z (iList K tl) idx (fun _ H Q => Q true H) te σ H Q := by
  refine htl _ fun xs p H1 h1 s1 e1 => ⟨p, rfl, ⟨_, SqL.of e1⟩, j1k (EQ := fun _ => False) (fun x => some (g x)) (SqL.of e1) (hl xs H1 h1) (fun x hx H' R s2 r _ => he xs H1 h1 x hx H' R s2 fun H2 s3 => r _ _ rfl s3) (fun hg D H' hD s2 d2 => q xs H1 h1 D H' (s1.trans s2) ?_) (fun x hx hn H' s2 => nomatch hn)⟩
  rw [d2]
  congr 2
  exact congrFun List.filterMap_eq_map' xs
theorem j53 {z : Str} {tl : TE} {idx : List Nat} {te : TE} {σ : L2.St} {H : Hp} {Q : VK} (f : Nat → V) (htl : ∀ R : VK, R (.str z) H → tl σ H R) (hl : z.length < sizeLine)
    (he : ∀ c, ∀ (H' : Hp) (R : VK), R (f c) H' → te (some (.str ⟨#[c]⟩) :: capV idx σ) H' R)
    (q : ∀ D, H D = none → Q (.ref D) (upd H D (.lst (z.cps.toList.map f)))) : j2z (iStr tl) idx (fun _ H Q => Q true H) te σ H Q := by
  refine htl _ ⟨z, rfl, fun D hD => ?_⟩
  have ez : z.cps.toList.length = z.cps.size := Array.length_toList
  have hl' : z.cps.size < sizeLine := hl
  refine ⟨fun i m ys H2 => m = z.cps.size - i ∧ i ≤ z.cps.size ∧ ys = (z.cps.toList.take i).map f ∧ H2 = upd H D (.lst ys), ⟨z.cps.size, by simp, Nat.zero_le _, by simp, rfl⟩, ?_⟩
  rintro i m ys H2 ⟨rfl, hi, rfl, rfl⟩
  by_cases hlt : i < z.cps.size
  · refine .inr ⟨hlt, ?_⟩
    rintro x H3 ⟨rfl, c, hc, rfl⟩
    have tk : z.cps.toList.take (i + 1) = z.cps.toList.take i ++ [c] := by
      rw [List.take_succ, Array.getElem?_toList, hc]; rfl
    show if true = true then _ else _
    rw [if_pos rfl]
    refine he c _ _ ⟨j04, by rw [List.length_map, List.length_take]; omega, z.cps.size - (i + 1), by omega, rfl, hlt, ?_, by rw [upd_upd]⟩
    rw [tk, List.map_append]
    rfl
  · have : i = z.cps.size := by omega
    subst this
    refine .inl ⟨Nat.le_refl _, ?_⟩
    rw [List.take_of_length_le (by rw [ez]; exact Nat.le_refl _)]
    exact q D hD
noncomputable def j6u : Expr → Bool
  | .Starred .. => false
  | _ => true
theorem star_one {e : Expr} {es : List Expr} {env : Env} (h : j6u e = true) : starEach (e :: es) env = (false, eval e env) :: starEach es env := by
  cases e <;> first | rfl | cases h
theorem j25 {X : Cx} {e : Expr} {es : List Expr} {te : TE} {t : TA} (ha : PE X e te) (hr : PA X es t) (hn : j6u e = true) : PA X (e :: es) (j3d te t) := j00 ha hr (star_one hn)
noncomputable def sCon : List Expr → Option (List Str)
  | [] => some []
  | .Constant (.str x) _ _ :: es => (sCon es).map (x :: ·)
  | _ => none
theorem j6v {X : Cx} : ∀ {es : List Expr} {ws : List Str}, sCon es = some ws → PA X es (fun _ H Q => Q (sV ws) H)
  | [], ws, h => by
    cases h
    exact j01
  | .Constant (.str x) j pos :: es, ws, h => by
    have h' : (sCon es).map (x :: ·) = some ws := h
    cases e : sCon es with
    | none => rw [e] at h'; cases h'
    | some ws' =>
      rw [e] at h'
      cases h'
      exact j00 j0f (j6v e) rfl
theorem j6w {X : Cx} {es : List Expr} {ws : List Str} {pos : Pos} (h : sCon es = some ws) (hl : ws.length ≤ 1000) : PE X (.List es pos) (fun _ H Q => ∀ p, H p = none → Q (.ref p) (upd H p (.lst (sV ws)))) := by
  intro pins s σ H Q I q
  exact j27 (j6v h) pins s σ H Q I ⟨by rw [List.length_map]; exact Nat.le_trans hl (by decide), q⟩
theorem j4p {X : Cx} {es2 : List Expr} {t : TA} (h2 : PA X es2 t) : ∀ {es : List Expr} {ws : List Str}, sCon es = some ws → PA X (es ++ es2) (fun σ H Q => t σ H fun xs H1 => Q (sV ws ++ xs) H1)
  | [], ws, h => by
    cases h
    exact h2
  | .Constant (.str x) j pos :: es, ws, h => by
    have h' : (sCon es).map (x :: ·) = some ws := h
    cases e : sCon es with
    | none => rw [e] at h'; cases h'
    | some ws' =>
      rw [e] at h'
      cases h'
      exact j25 j0f (j4p h2 e) rfl
theorem pe_lstM {X : Cx} {es : List Expr} {ws : List Str} {t : TA} {pos : Pos} (k : Nat) (h : sCon (es.take k) = some ws) (h2 : PA X (es.drop k) t) : PE X (.List es pos) (tLst (fun σ H Q => t σ H fun xs H1 => Q (sV ws ++ xs) H1)) := by
  have := j4p h2 h
  rw [List.take_append_drop] at this
  exact j27 this
end L3
end
noncomputable section
namespace My
open PySem L2 L3
noncomputable def tp (i : Nat) : Stmt := PySem.Challenge.pw_evenhand_k06_written.main.body.getD i (.Pass ⟨0, 0, 0, 0⟩)
section
variable {P : Program} {w : World} {K : PySem.W.Frag} {mg : Str → Option Value} {base : Heap}
abbrev s_cell : Stmt := tp 20
theorem j2i : FnScope ["_law_script", "_law_k"] ["_law_script", "_law_k"] (j03 s_cell) := ⟨rfl, rfl, rfl, by decide +kernel, rfl, by decide +kernel, by decide +kernel⟩
noncomputable def j6x (K : PySem.W.Frag) : Sp := fun vs H Q _ => ∃ (a : Addr) (ns : List Int) (k : Int), vs = [.ref a, .int k] ∧ SqL K H a (iV ns) ∧ 0 ≤ k ∧ ∀ n : Int, Q (.int n) H
theorem ok_cell {f : Addr} {fd : FuncData} (F : Fun K "_law_cell_at" "_law_cell_at" s_cell f fd) (B : Bl mg) : FnOk P w K mg base CX0 1 f fd ["_law_script", "_law_k"] (j6x K) := by
  refine F.ok j2i (fun vs H Q E h => ?_) (fun cdv A outer s H vs Q E hr h => ?_)
  · obtain ⟨a, ns, k, rfl, _⟩ := h
    rfl
  · obtain ⟨a, ns, k, rfl, hS, h0, q⟩ := h
    refine ⟨_, (j02 (j1o (j0h op_lt (pv 1) (j08 j12 rfl B.len PySem.boot_len (j00 (pv 0) j01)) (j0p _)) (j05 (j0d (j3v j5s (pv 0) (pv 1) (fun _ _ => rfl)))) j0n)
      (j05 (j0d j07))), ?_⟩
    refine ⟨_, rfl, _, rfl, a, _, rfl, .inl hS, _, _, rfl, rfl, _, rfl, ?_⟩
    refine ite2 (fun hlt => ?_) (fun hge => ?_)
    · rw [decide_eq_true_eq, j1g] at hlt
      obtain ⟨j, rfl⟩ : ∃ j : Nat, k = j := ⟨k.toNat, by omega⟩
      have hj : j < ns.length := by omega
      exact ⟨_, rfl, _, rfl, a, _, _, V.int ns[j], rfl, rfl, hS, j19 (by simp [hj]), q _⟩
    · exact q 0
abbrev s_draw : Stmt := tp 21
theorem j1v : FnScope ["_law_cell", "_law_k", "_law_many", "_law_primes"] ["_law_cell", "_law_k", "_law_many"] (j03 s_draw) := ⟨rfl, rfl, rfl, by decide +kernel, rfl, by decide +kernel, by decide +kernel⟩
noncomputable def j2s : List Int := [1000003, 1000033, 1000037, 1000039, 1000081, 1000099, 1000117, 1000121, 1000133, 1000151, 1000159, 1000171, 1000183, 1000187, 1000193, 1000199]
theorem j54 : ∀ p ∈ j2s, (0 : Int) < p := by decide
noncomputable def j6y : Sp := fun vs H Q _ => ∃ c k m : Int, vs = [.int c, .int k, .int m] ∧ 0 ≤ k ∧ 0 < m ∧ ∀ (n : Int) (H' : Hp), 0 ≤ n → n < m → Same H H' → Q (.int n) H'
theorem j4q {H : Hp} {p : Addr} {o : HO} (h : H p = none) : Same H (upd H p o) := fun b u e => by rw [j0c (j0e e h)]; exact e
theorem ok_draw {f : Addr} {fd : FuncData} (F : Fun K "_law_draw" "_law_draw" s_draw f fd) (B : Bl mg) : FnOk P w K mg base CX0 1 f fd ["_law_cell", "_law_k", "_law_many"] j6y := by
  refine F.ok j1v (fun vs H Q E h => ?_) (fun cdv A outer s H vs Q E hr h => ?_)
  · obtain ⟨c, k, m, rfl, _⟩ := h
    rfl
  · obtain ⟨c, k, m, rfl, h0, hm, q⟩ := h
    refine ⟨_, @j02 _ _ _ _ _ (@j0k _ _ 3 _ _ _ _ j1v.nd rfl (Or.inl rfl) (@j64 _ _ j2s _ _ (.cons (.cons (.cons (.cons (.cons (.cons (.cons (.cons (.cons (.cons (.cons (.cons (.cons (.cons (.cons (.cons .nil)))))))))))))))) (by decide)) rfl (.inl rfl)) (j05 (j0d (j0l j4d (j0l j4d (j0l j16 (j0l j4c (pv 0) j07) (j0l j4c (pv 1) j07)) (j3v j5t (pv 3) (j0l j4d (pv 1) j07) (fun _ _ => rfl))) (pv 2)))), ?_⟩
    intro t ht
    have hk : (0 : Int) ≤ k % 16 ∧ k % 16 < 16 := ⟨Int.emod_nonneg _ (by decide), Int.emod_lt_of_pos _ (by decide)⟩
    obtain ⟨j, hj⟩ : ∃ j : Nat, k % 16 = (j : Int) := ⟨(k % 16).toNat, by omega⟩
    have hj16 : j < j2s.length := by show j < 16; omega
    have pp := j54 j2s[j] (List.getElem_mem hj16)
    refine ⟨_, rfl, _, _, rfl, rfl, .inr ⟨by decide, by decide⟩, ?_⟩
    refine ⟨_, rfl, _, _, rfl, rfl, .inr ⟨by decide, by decide⟩, ?_⟩
    refine ⟨_, _, rfl, rfl, ?_⟩
    refine ⟨_, rfl, _, rfl, _, _, rfl, rfl, (by decide : (0 : Int) < 16), ?_⟩
    refine ⟨t, iV j2s, _, V.int j2s[j], rfl, rfl, SqT.of j04, ?_, _, _, rfl, rfl, pp, _, rfl, _, _, rfl, rfl, hm, ?_⟩
    · rw [hj]
      exact j19 (by simp [hj16])
    · exact q _ _ (Int.emod_nonneg _ (by omega)) (Int.emod_lt_of_pos _ hm) (j4q ht)
end
end My
end
noncomputable section
namespace My
open PySem L2 L3
theorem _root_.L2.Same.seqT {K : PySem.W.Frag} {H H' : Hp} {a : Addr} {xs : List V} (e : Same H H') (h : SqT K H a xs) : SqT K H' a xs := by
  rcases h with (h | ⟨o, h⟩) | h
  · exact .inl (.inl (e _ _ h))
  · exact .inl (.inr ⟨o, e _ _ h⟩)
  · exact .inr h
theorem j36 {H H' : Hp} {p : Addr} {o : HO} (s : Same H H') (n : H p = none) : Same H (upd H' p o) := fun b u e => by rw [j0c (j0e e n)]; exact s b u e
section
variable {P : Program} {w : World} {K : PySem.W.Frag} {mg : Str → Option Value} {base : Heap}
abbrev s_row : Stmt := tp 22
theorem j0y : FnScope ["_law_script", "_law_most", "_law_row_here", "_law_k"] ["_law_script"] (j03 s_row) := ⟨rfl, rfl, rfl, by decide +kernel, rfl, by decide +kernel, by decide +kernel⟩
noncomputable def Bd (b : Int) (rs : List Int) : Prop := ∀ x ∈ rs, -b ≤ x ∧ x ≤ b
noncomputable def spRow (K : PySem.W.Frag) : Sp := fun vs H Q _ => ∃ (a : Addr) (ns : List Int), vs = [.ref a] ∧ SqL K H a (iV ns) ∧ ns.length ≤ 63 ∧
  ∀ (rs : List Int) (p : Addr) (H' : Hp), rs.length = ns.length + 1 → Bd 900000 rs → H p = none → H' p = some (.lst (iV rs)) → Same H H' → Q (.ref p) H'
theorem ok_row {f : Addr} {fd : FuncData} (F : Fun K "_law_row" "_law_row" s_row f fd) (B : Bl mg) (c_cell_at : Ok P w K mg base 1 "_law_cell_at" ["_law_script", "_law_k"] (j6x K)) (c_draw : Ok P w K mg base 1 "_law_draw" ["_law_cell", "_law_k", "_law_many"] j6y) :
    FnOk P w K mg base CX0 2 f fd ["_law_script"] (spRow K) := by
  refine F.ok j0y (fun vs H Q E h => ?_) (fun cdv A outer s H vs Q E hr h => ?_)
  · obtain ⟨a, ns, rfl, _⟩ := h
    rfl
  · obtain ⟨a, ns, rfl, hS, hl, q⟩ := h
    refine ⟨_, (j02 (j0k (i := 1) j0y.nd rfl (Or.inl rfl) (j3v j5t (j64 (ns := [2, 9, 400, 900000]) (.cons (.cons (.cons (.cons .nil)))) (by decide)) (j06 c_draw (hr.mono (by decide)) rfl (j00 (j06 c_cell_at (hr.mono (by decide)) rfl (j00 (pv 0) (j00 j07 j01))) (j00 j07 (j00 j07 j01)))) (fun _ _ => rfl)))
      (j02 (j0k (i := 2) j0y.nd rfl (Or.inl rfl) (j27 (j00 (j0l op_sub (j06 c_draw (hr.mono (by decide)) rfl (j00 (j06 c_cell_at (hr.mono (by decide)) rfl (j00 (pv 0) (j00 j07 j01))) (j00 j07 (j00 j07 j01)))) j07) j01)))
      (j02 (j5e PassesOwn.never rfl (j3a rfl B.range (j00 (j08 j12 rfl B.len PySem.boot_len (j00 (pv 0) j01)) j01)) (j3s (i := 3) j0y.nd rfl (Or.inl rfl))
      (j05 (j2v (j3j PySem.F.plainAttrs_list PySem.F.slot_list_append PySem.F.type_list_append j2a (pv 2) (j00 (j0l op_sub (j06 c_draw (hr.mono (by decide)) rfl (j00 (j3v j5s (pv 0) (pv 3) (fun _ _ => rfl)) (j00 (j0l j16 (j0l j4d (pv 3) j07) j07) (j00 (j0l j16 (j0l j4c j07 (pv 1)) j07) j01)))) (pv 1)) j01)))))
      (j05 (j0d (pv 2)))))), ?_⟩
    intro t ht
    have s1 := j4q (o := .tup (iV [2, 9, 400, 900000])) ht
    refine ⟨_, rfl, a, ns, 0, rfl, s1.seq hS, by decide, fun n => ?_⟩
    refine ⟨_, _, _, rfl, by decide, by decide, fun i H2 i0 i4 s2 => ?_⟩
    obtain ⟨j, rfl⟩ : ∃ j : Nat, i = j := ⟨i.toNat, by omega⟩
    have hj : j < [2, 9, 400, (900000 : Int)].length := by show j < 4; omega
    obtain ⟨most, hmost, mlo, mhi⟩ : ∃ m, [2, 9, 400, (900000 : Int)][j]? = some m ∧ 2 ≤ m ∧ m ≤ 900000 := by
      have : j = 0 ∨ j = 1 ∨ j = 2 ∨ j = 3 := by omega
      rcases this with rfl | rfl | rfl | rfl
      · exact ⟨2, rfl, by decide, by decide⟩
      · exact ⟨9, rfl, by decide, by decide⟩
      · exact ⟨400, rfl, by decide, by decide⟩
      · exact ⟨900000, rfl, by decide, by decide⟩
    refine ⟨t, _, _, V.int most, rfl, rfl, s2.seqT (SqT.of j04), j19 (by rw [List.getElem?_map, hmost]; rfl), ?_⟩
    have s3 : Same H H2 := s1.trans s2
    refine ⟨_, rfl, a, ns, 1, rfl, s3.seq hS, by decide, fun n1 => ?_⟩
    refine ⟨_, _, _, rfl, by decide, by decide, fun r0 H3 r00 r05 s4 => ?_⟩
    refine ⟨_, _, rfl, rfl, by show 1 ≤ sizeLine; decide, fun p hp => ?_⟩
    have s5 : Same H H3 := s3.trans s4
    have hp0 : H p = none := s5.free hp
    refine ⟨_, rfl, a, _, rfl, .inl ((j36 s5 hp0).seq hS), _, rfl, by omega, by rw [j1g]; omega, j2p (n := ((iV ns).length : Int).toNat) (fun i σ H4 => ∃ (rs : List Int) (v : Option V), σ = [some (.ref a), some (.int most), some (.ref p), v] ∧ H4 p = some (.lst (iV rs)) ∧ rs.length = i + 1 ∧ Bd 900000 rs ∧ Same H H4) ⟨[r0 - 2], none, rfl, j04, rfl, ?_, j36 s5 hp0⟩ ?_ ?_⟩
    · intro x hx
      rw [List.mem_singleton.mp hx]
      omega
    · rintro i σ H4 hi ⟨rs, v, rfl, h4, rl, rb, s6⟩
      intro D'
      rw [j1g] at hi
      have hi' : i < ns.length := by omega
      refine ⟨_, rfl, .inl ⟨rfl, _, SqL.of h4⟩, ?_⟩
      refine ⟨_, rfl, _, rfl, a, _, _, V.int ns[i], rfl, rfl, s6.seq hS, by rw [Int.zero_add]; exact j19 (by simp [hi']), ?_⟩
      refine ⟨_, rfl, _, _, rfl, rfl, (by decide : (0 : Int) < 5), _, _, rfl, rfl, ?_⟩
      refine ⟨_, rfl, _, _, rfl, rfl, .inl ⟨by decide, by decide⟩, _, _, rfl, rfl, ?_⟩
      have e5 : (0 : Int) ≤ (0 + (i : Int)) % 5 := Int.emod_nonneg _ (by decide)
      refine ⟨_, _, _, rfl, by omega, by omega, fun d H5 d0 d1 s7 => ?_⟩
      refine ⟨_, rfl, _, _, rfl, rfl, ?_⟩
      refine ⟨p, _, _, rfl, rfl, s7 _ _ h4, by rw [j1g, rl]; exact j5z (by omega), ?_⟩
      refine ⟨rs ++ [d - most], _, rfl, ?_, by simp [rl], ?_, j36 (s6.trans s7) hp0⟩
      · rw [j04]
        simp [iV]
      · intro x hx
        rcases List.mem_append.mp hx with hx | hx
        · exact rb x hx
        · rw [List.mem_singleton.mp hx]; omega
    · rintro σ H4 ⟨rs, v, rfl, h4, rl, rb, s6⟩
      exact ⟨_, rfl, q rs p H4 (by rw [rl]; simp) rb hp0 h4 s6⟩
end
end My
end
noncomputable section
namespace My
open PySem L2 L3
theorem j2j {t u : TS} {D : Ends} {σ : L2.St} {H : Hp} (M : L2.St → Hp → Prop) (h : ∀ N : L2.St → Hp → Prop, (∀ σ' H', M σ' H' → N σ' H') → let D' : Ends := { D with nx := N }; t D' σ H) (hu : ∀ σ' H', M σ' H' → u D σ' H') : tSeq t u D σ H := h (u D) hu
theorem gN {i : Nat} {v : V} {σ : L2.St} {H : Hp} {Q : L2.St → Hp → Prop} (h : Q (σ.set i (some v)) H) : j5b i v σ H Q := h
theorem bd_mono {b c : Int} {fs : List Int} (h : Bd b fs) (hc : b ≤ c) : Bd c fs := fun x hx => by have := h x hx; omega
section
variable {P : Program} {w : World} {K : PySem.W.Frag} {mg : Str → Option Value} {base : Heap}
abbrev s_other : Stmt := tp 23
noncomputable def spOther (K : PySem.W.Frag) : Sp := fun vs H Q _ => ∃ (a p : Addr) (ns rs : List Int), vs = [.ref a, .ref p] ∧ SqL K H a (iV ns) ∧ H p = some (.lst (iV rs)) ∧ 1 ≤ rs.length ∧ rs.length ≤ 64 ∧ Bd 900000 rs ∧
  ∀ (os : List Int) (q : Addr) (H' : Hp), os.length = rs.length → Bd 999990 os → rs.sum - 1 ≤ os.sum → os.sum ≤ rs.sum + 1 → H q = none → H' q = some (.lst (iV os)) → Same H H' → Q (.ref q) H'
end
end My
end
noncomputable section
namespace My
open PySem L2 L3
section
variable {P : Program} {w : World} {K : PySem.W.Frag} {mg : Str → Option Value} {base : Heap}
noncomputable def isI : V → Bool
  | .int _ => true
  | _ => false
inductive Kd (K : PySem.W.Frag) (H : Hp) : V → Value → Bool → Bool → Bool → Bool → Prop where
  | non : Kd K H .non (.type "NoneType") false false false false
  | bl (x : Bool) : Kd K H (.bl x) (.type "bool") true true false false
  | int (i : Int) : Kd K H (.int i) (.type "int") true false false false
  | str (x : Str) : Kd K H (.str x) (.type "str") false false false false
  | lst {a : Addr} {xs : List V} (e : H a = some (.lst xs)) : Kd K H (.ref a) (.type "list") false false true false
  | tup {a : Addr} {xs : List V} (e : H a = some (.tup xs)) : Kd K H (.ref a) (.type "tuple") false false false true
  | dK {a : Addr} {kvs : List (Key × V)} (e : H a = some (.dK kvs)) : Kd K H (.ref a) (.type "dict") false false false false
theorem Kd.ty {H : Hp} {x : V} {t : Value} {i b l u : Bool} (k : Kd K H x t i b l u) : TyOf K H x t := by
  cases k with
  | non => exact .non
  | bl x => exact .bl x
  | int i => exact .int i
  | str x => exact .str x
  | lst e => exact .lst e
  | tup e => exact .tup e
  | dK e => exact .dK e
theorem Kd.isInt {H : Hp} {x : V} {t : Value} {i b l u : Bool} (k : Kd K H x t i b l u) : PySem.W.kitOne K t (.type "int") = some i := by cases k <;> rfl
theorem Kd.isBool {H : Hp} {x : V} {t : Value} {i b l u : Bool} (k : Kd K H x t i b l u) : PySem.W.kitOne K t (.type "bool") = some b := by cases k <;> rfl
theorem Kd.whole {H : Hp} {x : V} {t : Value} {i b l u : Bool} (k : Kd K H x t i b l u) : (i && !b) = isI x := by cases k <;> rfl
noncomputable def Known (K : PySem.W.Frag) (H : Hp) (x : V) : Prop := ∃ t i b l u, Kd K H x t i b l u
abbrev s_whole : Stmt := tp 9
theorem j43 : FnScope ["value"] ["value"] (j03 s_whole) := ⟨rfl, rfl, rfl, by decide +kernel, rfl, by decide +kernel, by decide +kernel⟩
noncomputable def j6z (K : PySem.W.Frag) : Sp := fun vs H Q _ => ∃ x, vs = [x] ∧ Known K H x ∧ Q (.bl (isI x)) H
theorem ok_whole {f : Addr} {fd : FuncData} (F : Fun K "is_whole" "is_whole" s_whole f fd) (B : Bl mg) : FnOk P w K mg base CX0 1 f fd ["value"] (j6z K) := by
  refine F.ok j43 (fun vs H Q E h => ?_) (fun cdv A outer s H vs Q E hr h => ?_)
  · obtain ⟨x, rfl, _⟩ := h
    rfl
  · obtain ⟨x, rfl, ⟨t, i, b, l, u, kd⟩, q⟩ := h
    refine ⟨_, (j05 (j0d (j4a (j08 j1j rfl B.isinstance PyProof.Rows.boot_isinstance (j00 (pv 0) (j00 (j1n (v := .ty "int") rfl B.int j21 rfl) j01))) (j49 (j5a (j08 j1j rfl B.isinstance PyProof.Rows.boot_isinstance (j00 (pv 0) (j00 (j1n (v := .ty "bool") rfl B.bool j62 rfl) j01)))))))), ?_⟩
    have kw := kd.whole
    refine ⟨_, rfl, x, _, _, t, i, rfl, rfl, kd.ty, kd.isInt, _, rfl, ?_⟩
    cases i with
    | false =>
      refine iteF ?_
      rw [← kw] at q
      exact q
    | true =>
      refine iteT ?_
      refine ⟨_, rfl, x, _, _, t, b, rfl, rfl, kd.ty, kd.isBool, _, rfl, ?_⟩
      rw [← kw] at q
      exact q
noncomputable def plI (x : V) (n : Int) : Bool := match x with
  | .int i => decide (0 ≤ i) && decide (i < n)
  | _ => false
noncomputable def okE (x y z : V) : Bool := match x, y, z with
  | .int a, .int b, .int c => decide (a ≠ b) && decide (0 < c)
  | _, _, _ => false
noncomputable def okV (n : Int) (xs : List V) : Bool := match xs with
  | [x, y, z] => plI x n && plI y n && okE x y z
  | _ => false
end
end My
end
noncomputable section
namespace My
open PySem L2 L3 Txm
theorem cb1 {R : List V → Hp → VK → Prop} {te : TE} {σ : L2.St} {H : Hp} {Q : VK} (h : te σ H fun x H1 => R [x] H1 Q) : tCB R (j3d te tNil) σ H Q := h
theorem nxt {D : Ends} {σ : L2.St} {H : Hp} (h : D.nx σ H) : tNext D σ H := h
section
variable {P : Program} {w : World} {K : PySem.W.Frag} {mg : Str → Option Value} {base : Heap}
abbrev s_share : Stmt := tp 10
theorem j44 : FnScope ["value"] ["value"] (j03 s_share) := ⟨rfl, rfl, rfl, by decide +kernel, rfl, by decide +kernel, by decide +kernel⟩
noncomputable def j45 : Sp := fun vs H Q _ => ∃ n : Int, vs = [.int n] ∧ Q (.bl (decide (-1000000 ≤ n) && decide (n ≤ 1000000))) H
theorem ok_share {f : Addr} {fd : FuncData} {tB : Tok} (F : Fun K "is_share" "is_share" s_share f fd) (g_BOUND : mg "BOUND" = some (.int 1000000 tB)) (c_is_whole : Ok P w K mg base 1 "is_whole" ["value"] (j6z K)) : FnOk P w K mg base CX0 2 f fd ["value"] j45 := by
  refine F.ok j44 (fun vs H Q E h => ?_) (fun cdv A outer s H vs Q E hr h => ?_)
  · obtain ⟨n, rfl, _⟩ := h
    rfl
  · obtain ⟨n, rfl, q⟩ := h
    refine ⟨_, (j05 (j0d (j4a (j06 c_is_whole (hr.mono (by decide)) rfl (j00 (pv 0) j01)) (j49 (pe_chain op_le op_le (pe_un un_neg (j0w (v := .int 1000000) rfl g_BOUND ⟨_, rfl⟩)) (pv 0) (j0w (v := .int 1000000) rfl g_BOUND ⟨_, rfl⟩)))))), ?_⟩
    refine ⟨_, rfl, .int n, rfl, ⟨_, _, _, _, _, .int n⟩, _, rfl, ?_⟩
    refine iteT ?_
    refine ⟨_, rfl, _, rfl, _, _, rfl, rfl, _, rfl, ?_⟩
    by_cases h1 : (-1000000 : Int) ≤ n
    · rw [decide_eq_true h1] at q ⊢
      exact ⟨_, _, rfl, rfl, q⟩
    · rw [decide_eq_false h1] at q ⊢
      exact q
abbrev s_ckrow : Stmt := tp 11
theorem j1w : FnScope ["row", "share"] ["row"] (j03 s_ckrow) := ⟨rfl, rfl, rfl, by decide +kernel, rfl, by decide +kernel, by decide +kernel⟩
noncomputable def j70 : Sp := fun vs H Q _ => ∃ (p : Addr) (rs : List Int), vs = [.ref p] ∧ H p = some (.lst (iV rs)) ∧ rs ≠ [] ∧ Bd 1000000 rs ∧ Q .non H
theorem ok_ckrow {f : Addr} {fd : FuncData} (F : Fun K "check_row" "check_row" s_ckrow f fd) (B : Bl mg) (c_is_share : Ok P w K mg base 2 "is_share" ["value"] j45) : FnOk P w K mg base CX0 3 f fd ["row"] j70 := by
  refine F.ok j1w (fun vs H Q E h => ?_) (fun cdv A outer s H vs Q E hr h => ?_)
  · obtain ⟨p, rs, rfl, _⟩ := h
    rfl
  · obtain ⟨p, rs, rfl, hp, hne, hb, q⟩ := h
    refine ⟨_, (j02 (j1o (PW.pt (j2u (j1e (j15 (j08 j1j rfl B.isinstance PyProof.Rows.boot_isinstance (j00 (pv 0) (j00 (j1n (v := .ty "list") rfl B.list j2f rfl) j01))))) (j39 (j0h op_eq (j08 j12 rfl B.len PySem.boot_len (j00 (pv 0) j01)) j07 (j0p _))))) (j05 j4b) j0n)
      (j05 (j5e PassesOwn.never rfl (j18 (pv 0)) (j3s (i := 1) j1w.nd rfl (Or.inl rfl))
      (j05 (j1o (j1e (j15 (j06 c_is_share (hr.mono (by decide)) rfl (j00 (pv 1) j01)))) (j05 j4b) j0n))))), ?_⟩
    refine j2j (fun σ' H' => σ' = [some (.ref p), none] ∧ H' = H) ?_ ?_
    · intro N hN D'
      refine ⟨_, rfl, .ref p, _, _, _, true, rfl, rfl, .lst hp, rfl, _, rfl, ?_⟩
      refine iteF ?_
      refine ⟨_, rfl, p, _, rfl, .inl (SqL.of hp), rfl, _, rfl, ?_⟩
      have e : decide (V.int ((iV rs).length : Int) = V.int 0) = false := decide_eq_false fun z => by
        injection z with z
        rw [j1g] at z
        exact hne (List.length_eq_zero_iff.mp (by omega))
      rw [e]
      exact iteF (hN _ _ ⟨rfl, rfl⟩)
    · rintro σ' H' ⟨rfl, rfl⟩
      refine ⟨_, rfl, p, rfl, ⟨_, SqL.of hp⟩, j65 (K := K) (a := p) (xs := iV rs) (fun i σ H2 => ∃ v, σ = [some (.ref p), v] ∧ H2 = H') ⟨none, rfl, rfl⟩ (fun i σ H2 _ ⟨_, _, e⟩ => by rw [e]; exact SqL.of hp) ?_ ?_⟩
      · rintro i y σ H2 hi ⟨v, rfl, rfl⟩
        intro D'
        obtain ⟨n, hn, rfl⟩ : ∃ n, rs[i]? = some n ∧ y = V.int n := by
          rw [List.getElem?_map] at hi
          cases e : rs[i]? with
          | none => rw [e] at hi; cases hi
          | some n => rw [e] at hi; exact ⟨n, rfl, (Option.some.inj hi).symm⟩
        have bn := hb n (List.mem_of_getElem? hn)
        refine ⟨_, rfl, n, rfl, ?_⟩
        rw [decide_eq_true bn.1, decide_eq_true bn.2]
        refine ⟨_, rfl, ?_⟩
        exact iteF ⟨_, rfl, rfl⟩
      · rintro σ H2 ⟨v, rfl, rfl⟩
        exact q
end
noncomputable def gW : V → Option V
  | .int n => some (.str (wr n))
  | _ => none
theorem fm_gW (rs : List Int) : (iV rs).filterMap gW = sV (rs.map wr) := by
  induction rs with
  | nil => rfl
  | cons x t ih => exact congrArg (V.str (wr x) :: ·) ih
theorem j71 (ws : List Str) : ws.length ≤ tot ws := by
  induction ws with
  | nil => exact Nat.zero_le _
  | cons x t ih =>
    show t.length + 1 ≤ x.length + 1 + tot t
    omega
theorem j37 : (100000 : Nat) < sizeLine := by decide
noncomputable def numB (w : Str) : Bool := decide (w.length ≤ 8) && (decide (0 < (fg (cs w)).length) && (fg (cs w)).all fun c => decide (48 ≤ c ∧ c ≤ 57))
theorem j4r (w : Str) : numB w = true ↔ w.length ≤ 8 ∧ fg (cs w) ≠ [] ∧ PySem.NumText.AllDigits (fg (cs w)) := by
  unfold numB
  rw [Bool.and_eq_true, Bool.and_eq_true, decide_eq_true_eq, decide_eq_true_eq, List.all_eq_true, List.length_pos_iff]
  simp only [decide_eq_true_eq]
  rfl
section
variable {P : Program} {w : World} {K : PySem.W.Frag} {mg : Str → Option Value} {base : Heap}
abbrev s_written : Stmt := tp 15
theorem j55 : FnScope ["row"] ["row"] (j03 s_written) := ⟨rfl, rfl, rfl, by decide +kernel, rfl, by decide +kernel, by decide +kernel⟩
noncomputable def j2k : Sp := fun vs H Q _ => ∃ (p : Addr) (rs : List Int), vs = [.ref p] ∧ H p = some (.lst (iV rs)) ∧ rs ≠ [] ∧ Bd 1000000 rs ∧ tot (rs.map wr) ≤ 100000 ∧ ∀ H', Same H H' → Q (.str (Str.join " " (rs.map wr))) H'
theorem j56 {f : Addr} {fd : FuncData} (F : Fun K "written" "written" s_written f fd) (B : Bl mg) (c_check_row : Ok P w K mg base 3 "check_row" ["row"] j70) : FnOk P w K mg base CX0 4 f fd ["row"] j2k := by
  refine F.ok j55 (fun vs H Q E h => ?_) (fun cdv A outer s H vs Q E hr h => ?_)
  · obtain ⟨p, rs, rfl, _⟩ := h
    rfl
  · obtain ⟨p, rs, rfl, hp, hne, hb, ht, q⟩ := h
    refine ⟨_, (j02 (j2v (j06 c_check_row (hr.mono (by decide)) rfl (j00 (pv 0) j01)))
      (j05 (j0d (j3j PySem.F.plainAttrs_str PySem.F.slot_str_join PySem.F.type_str_join j6j j0f (j00 (j2d rfl rfl (j0s (sc0 := j03 s_written) (N := ["row"]) (caps := []) (idx := []) rfl rfl (by decide +kernel)) (j18 (pv 0)) (fun _ _ _ _ _ => j1b) (fun _ _ _ _ _ => (j0r j11 rfl B.str j22 (j00 (pv 0) j01)))) j01))))), ?_⟩
    refine ⟨_, rfl, p, rs, rfl, hp, hne, hb, ?_⟩
    have hl : (iV rs).length < sizeLine := by
      have h1 := j71 (rs.map wr)
      have h2 := j37
      rw [List.length_map] at h1
      rw [j1g]
      omega
    refine ⟨rfl, j4n (a := p) (xs := iV rs) (H1 := H) (EQ := fun _ => False) gW (fun R r => ⟨_, rfl, r⟩) (SqL.of hp) hl (fun x hx H' R _ h1 _ => ?_) (fun _ D H1 hD s1 d1 => ?_) (fun x hx h1 => ?_)⟩
    · obtain ⟨n, hn, rfl⟩ := List.mem_map.mp hx
      exact ⟨_, rfl, n, rfl, j3p (by have := hb n hn; omega), h1 _ _ rfl fun _ _ e => e⟩
    · rw [fm_gW] at d1
      exact ⟨_, D, rs.map wr, rfl, rfl, SqL.of d1, j6s ht, q _ s1⟩
    · obtain ⟨n, hn, rfl⟩ := List.mem_map.mp hx
      cases h1
abbrev s_isnum : Stmt := tp 16
theorem j1x : FnScope ["word", "figures"] ["word"] (j03 s_isnum) := ⟨rfl, rfl, rfl, by decide +kernel, rfl, by decide +kernel, by decide +kernel⟩
noncomputable def spNum : Sp := fun vs H Q _ => ∃ z : Str, vs = [.str z] ∧ z.length ≤ 100000 ∧ ∀ H', Same H H' → Q (.bl (numB z)) H'
theorem ok_isnum {f : Addr} {fd : FuncData} {tL tF : Tok} (F : Fun K "is_number" "is_number" s_isnum f fd) (B : Bl mg) (g_LONGEST : mg "LONGEST" = some (.int 8 tL)) (g_FIGURES : mg "FIGURES" = some (.str FIG tF)) : FnOk P w K mg base CX0 1 f fd ["word"] spNum := by
  refine F.ok j1x (fun vs H Q E h => ?_) (fun cdv A outer s H vs Q E hr h => ?_)
  · obtain ⟨z, rfl, _⟩ := h
    rfl
  · obtain ⟨z, rfl, hl, q⟩ := h
    refine ⟨_, (j02 (j1o (j0h op_gt (j08 j0t rfl B.len PySem.boot_len (j00 (pv 0) j01)) (j0w (v := .int 8) rfl g_LONGEST ⟨_, rfl⟩) (j0p _)) (j05 (j0d j3r)) j0n)
      (j02 (j0k (i := 1) j1x.nd rfl (Or.inl rfl) (j20 (j15 (j3j PySem.F.plainAttrs_str PySem.F.slot_str_startswith PySem.F.type_str_startswith j6i (pv 0) (j00 j0f j01))) (j1f j3m (pv 0) (j29 j07) j28) (pv 0)))
      (j05 (j0d (j4a (j3t op_gt (j08 j0t rfl B.len PySem.boot_len (j00 (pv 1) j01)) j07 (j0p _)) (j49 (j08 (j2e rfl) rfl B.all j30 (j00 (j2d rfl rfl (j0s (sc0 := j03 s_isnum) (N := ["word", "figures"]) (caps := []) (idx := []) rfl rfl (by decide +kernel)) (pi_str (pv 1)) (fun _ _ _ _ _ => j1b) (fun _ _ _ _ _ => (j3t j5k (pv 0) (j0w (v := .str Txm.FIG) rfl g_FIGURES ⟨_, rfl⟩) (by with_unfolding_all rfl)))) j01)))))))), ?_⟩
    have hz : z.length ≤ sizeLine := by have := j37; omega
    refine ⟨_, rfl, z, rfl, hz, _, _, rfl, rfl, _, rfl, ?_⟩
    refine ite2 (fun hlt => ?_) (fun hge => ?_)
    · have e : numB z = false := by
        rw [decide_eq_true_eq] at hlt
        unfold numB
        rw [decide_eq_false (by omega), Bool.false_and]
      rw [e] at q
      exact q H fun _ _ e => e
    · have hle : z.length ≤ 8 := by
        rw [decide_eq_true_eq] at hge
        omega
      refine nxt ?_
      dsimp only
      refine j2j (fun σ' H' => ∃ y : Str, cs y = fg (cs z) ∧ σ' = [some (.str z), some (.str y)] ∧ H' = H) ?_ ?_
      · intro N hN D'
        refine ⟨_, rfl, rfl, _, _, rfl, rfl, _, rfl, ?_⟩
        rw [j3n]
        refine ite2 (fun hm => ?_) (fun hm => ?_)
        · rw [decide_eq_true_eq] at hm
          refine ⟨_, rfl, _, rfl, z, rfl, hz, gN (hN _ _ ⟨_, ?_, rfl, rfl⟩)⟩
          rw [j2h]
          rcases j0o (cs z) with ⟨r, e, ef, _⟩ | ⟨h1, _⟩
          · rw [ef, e]; rfl
          · exact absurd hm h1
        · rw [decide_eq_true_eq] at hm
          refine ⟨_, rfl, gN (hN _ _ ⟨z, ?_, rfl, rfl⟩)⟩
          rcases j0o (cs z) with ⟨r, e, ef, _⟩ | ⟨_, ef, _⟩
          · rw [e] at hm; exact absurd rfl hm
          · exact ef.symm
      · rintro σ' H' ⟨y, ey, rfl, rfl⟩
        have ly : y.length = (fg (cs z)).length := by rw [← j0g, ey]
        have lz : (fg (cs z)).length ≤ z.length := by
          rw [← j0g]
          rcases j0o (cs z) with ⟨r, e, ef, _⟩ | ⟨_, ef, _⟩
          · rw [ef, e, List.length_cons]; omega
          · rw [ef]; exact Nat.le_refl _
        have h5 := j37
        have e : numB z = (decide (0 < (fg (cs z)).length) && (fg (cs z)).all fun c => decide (48 ≤ c ∧ c ≤ 57)) := by
          unfold numB
          rw [decide_eq_true hle, Bool.true_and]
        rw [e] at q
        refine ⟨_, rfl, y, rfl, by omega, _, _, rfl, rfl, _, rfl, ?_⟩
        refine ite2 (fun h0 => ?_) (fun h0 => ?_)
        · rw [decide_eq_true_eq] at h0
          rw [decide_eq_true (by omega), Bool.true_and] at q
          refine cb1 (j53 (z := y) (fun c => V.bl (decide (48 ≤ c ∧ c ≤ 57))) (fun R r => ⟨_, rfl, r⟩) (by omega) (fun c H2 R r => ⟨_, rfl, _, _, rfl, rfl, ?_⟩) (fun D hD => ?_))
          · rw [in_fig]; exact r
          · refine ⟨D, (cs y).map fun c => decide (48 ≤ c ∧ c ≤ 57), rfl, ?_, ?_⟩
            · rw [bV, List.map_map]; exact SqL.of j04
            · rw [List.all_map, ey]
              exact q _ (j0j hD)
        · rw [decide_eq_true_eq] at h0
          rw [decide_eq_false (by omega), Bool.false_and] at q
          exact q _ fun _ _ e => e
end
end My
end
noncomputable section
namespace My
open PySem L2 L3 Txm
theorem pd_num {z : Str} (p : Pd (cs z)) : numB z = true := (j4r z).mpr ⟨by rw [← j0g]; exact p.2.2.1, p.2.1, p.1⟩
theorem same_r (H : Hp) : Same H H := fun _ _ e => e
section
variable {P : Program} {w : World} {K : PySem.W.Frag} {mg : Str → Option Value} {base : Heap} {C : Addr}
abbrev s_rshare : Stmt := tp 17
theorem j1l : FnScope ["word", "share"] ["word"] (j03 s_rshare) := ⟨rfl, rfl, rfl, by decide +kernel, rfl, by decide +kernel, by decide +kernel⟩
noncomputable def j4s : Sp := fun vs H Q E => ∃ z : Str, vs = [.str z] ∧ z.length ≤ 100000 ∧ (∀ n, gd z = some n → ∀ H', Same H H' → Q (.int n) H') ∧ (gd z = none → ∀ H', Same H H' → ∀ x, H' x = none → E (.ref x) (some x) H')
theorem j72 {f : Addr} {fd : FuncData} (F : Fun K "read_share" "read_share" s_rshare f fd) (B : Bl mg) (Z : ExcK K C) (gBadText : mg "BadText" = some (.ref C)) (c_is_number : Ok P w K mg base 1 "is_number" ["word"] spNum) (c_is_share : Ok P w K mg base 2 "is_share" ["value"] j45) : FnOk P w K mg base (CX1 P w C) 3 f fd ["word"] j4s := by
  refine okX F j1l (fun vs H Q E h => ?_) (fun cdv A outer s H vs Q E hr h => ?_)
  · obtain ⟨z, rfl, _⟩ := h
    rfl
  · obtain ⟨z, rfl, hl, q, e⟩ := h
    refine ⟨_, (j02 (j1o (j1e (j15 (j06 c_is_number (hr.mono (by decide)) rfl (j00 (pv 0) j01)))) (j05 (j32 rfl gBadText Z.ex rfl rs_of)) j0n)
      (j02 (j0k (i := 1) j1l.nd rfl (Or.inl rfl) (j0r j2g rfl B.int j21 (j00 (pv 0) j01)))
      (j02 (j1o (PW.pt (j2u (j0h j5j (j0r j11 rfl B.str j22 (j00 (pv 1) j01)) (pv 0) (j0p _)) (j39 (j1e (j15 (j06 c_is_share (hr.mono (by decide)) rfl (j00 (pv 1) j01))))))) (j05 (j32 rfl gBadText Z.ex rfl rs_of)) j0n)
      (j05 (j0d (pv 1)))))), ?_⟩
    refine ⟨_, rfl, z, rfl, hl, fun H1 s1 => ?_⟩
    refine ⟨_, rfl, ?_⟩
    cases hn : numB z with
    | false =>
      refine iteT ?_
      exact e (j34.mpr fun p => by rw [pd_num p] at hn; cases hn) H1 s1
    | true =>
      obtain ⟨n1, n2, n3⟩ := (j4r z).mp hn
      refine iteF ?_
      refine ⟨_, rfl, z, vl (cs z), rfl, int_of n3 n2 (by omega), by omega, ?_⟩
      refine ⟨_, rfl, _, rfl, vl_small n3 n1, _, rfl, rfl, _, rfl, ?_⟩
      by_cases p1 : wr (vl (cs z)) = z
      · rw [show decide (V.str (wr (vl (cs z))) = V.str z) = true from decide_eq_true (congrArg V.str p1)]
        refine iteF ?_
        refine ⟨_, rfl, _, rfl, _, rfl, ?_⟩
        by_cases p2 : -1000000 ≤ vl (cs z) ∧ vl (cs z) ≤ 1000000
        · rw [decide_eq_true p2.1, decide_eq_true p2.2]
          refine iteF ?_
          refine ⟨_, rfl, q _ (gd_of ⟨n3, n2, ?_, (j6q _ _).mp p1, p2.1, p2.2⟩) H1 s1⟩
          rw [j0g]; exact n1
        · have b : (decide (-1000000 ≤ vl (cs z)) && decide (vl (cs z) ≤ 1000000)) = false := by
            rw [← Bool.decide_and]; exact decide_eq_false p2
          rw [b]
          refine iteT ?_
          exact e (j34.mpr fun p => p2 p.2.2.2.2) H1 s1
      · rw [show decide (V.str (wr (vl (cs z))) = V.str z) = false from decide_eq_false fun y => p1 (V.str.inj y)]
        refine iteT ?_
        exact e (j34.mpr fun p => p1 ((j6q _ _).mpr p.2.2.2.1)) H1 s1
noncomputable def gI : V → Option V
  | .str z => (gd z).map V.int
  | _ => none
theorem j46 {z : Str} : gI (.str z) = none ↔ gd z = none := by
  show (gd z).map V.int = none ↔ _
  rw [Option.map_eq_none_iff]
theorem fm_gI (ws : List Str) : (sV ws).filterMap gI = iV (ws.filterMap gd) := by
  induction ws with
  | nil => rfl
  | cons x t ih =>
    show List.filterMap gI (V.str x :: sV t) = _
    rw [List.filterMap_cons, List.filterMap_cons]
    have e : gI (V.str x) = (gd x).map V.int := rfl
    rw [e]
    cases gd x with
    | none => exact ih
    | some n => exact congrArg (V.int n :: ·) ih
abbrev wds (t : Str) : List Str := Txt.split t " "
theorem j73 {t : Str} (h : t.length ≤ 90000) : (sV (wds t)).length < sizeLine := by
  have := PyProof.Rows.split_le t " "
  have := j37
  rw [List.length_map]
  show (Txt.split t " ").length < _
  omega
abbrev s_read : Stmt := tp 18
theorem sc_read : FnScope ["text"] ["text"] (j03 s_read) := ⟨rfl, rfl, rfl, by decide +kernel, rfl, by decide +kernel, by decide +kernel⟩
noncomputable def j74 (K : PySem.W.Frag) : Sp := fun vs H Q E => ∃ v : V, vs = [v] ∧
  ((∃ t : Str, v = .str t ∧ t.length ≤ 90000 ∧ ((∀ z ∈ wds t, gd z ≠ none) → ∀ p H', Same H H' → H p = none → H' p = some (.lst (iV ((wds t).filterMap gd))) → Q (.ref p) H') ∧ (∀ z ∈ wds t, gd z = none → ∀ H', Same H H' → ∀ x, H' x = none → E (.ref x) (some x) H')) ∨
    (∃ ty, TyOf K H v ty ∧ PySem.W.kitOne K ty (.type "str") = some false ∧ ∀ x, H x = none → E (.ref x) (some x) H))
theorem ok_read {f : Addr} {fd : FuncData} (F : Fun K "read" "read" s_read f fd) (B : Bl mg) (Z : ExcK K C) (gBadText : mg "BadText" = some (.ref C)) (c_read_share : OkX P w K mg base C 3 "read_share" ["word"] j4s) : FnOk P w K mg base (CX1 P w C) 4 f fd ["text"] (j74 K) := by
  refine okX F sc_read (fun vs H Q E h => ?_) (fun cdv A outer s H vs Q E hr h => ?_)
  · obtain ⟨v, rfl, _⟩ := h
    rfl
  · obtain ⟨v, rfl, h⟩ := h
    refine ⟨_, (j02 (j1o (j1e (j15 (j08 j1j rfl B.isinstance PyProof.Rows.boot_isinstance (j00 (pv 0) (j00 (j1n (v := .ty "str") rfl B.str j22 rfl) j01))))) (j05 (j32 rfl gBadText Z.ex rfl rs_of)) j0n)
      (j05 (j0d (pe_compX rfl landed1 rfl rfl rfl (j0s (sc0 := j03 s_read) (N := ["text"]) (caps := []) (idx := []) rfl rfl (by decide +kernel)) (j18 (j3j PySem.F.plainAttrs_str PySem.F.slot_str_split PySem.F.type_str_split j4h (pv 0) (j00 j0f j01))) (fun _ _ _ _ _ => j1b) (fun _ _ _ _ _ => (j24 j6f c_read_share (hr.mono (by decide)) rfl (j00 (pv 0) j01))))))), ?_⟩
    rcases h with ⟨t, rfl, hl, q, e⟩ | ⟨ty, hty, hk, e⟩
    · refine ⟨_, rfl, .str t, _, _, _, true, rfl, rfl, .str t, rfl, _, rfl, ?_⟩
      refine iteF ?_
      have h5 := j37
      refine ⟨_, rfl, rfl, t, _, rfl, rfl, by decide +kernel, by omega, fun p hp => ⟨p, rfl, ⟨_, SqL.of j04⟩, ?_⟩⟩
      refine j1k (EQ := fun H' => ∀ x, H' x = none → E (.ref x) (some x) H') gI (SqL.of j04) (j73 hl) (fun x hx H' R s1 h1 h2 => ?_) (fun hg D H1 hD s1 d1 => ?_) (fun x hx hn H1 s1 => ?_)
      · obtain ⟨z, hz, rfl⟩ := List.mem_map.mp hx
        have lz := j4m z hz
        exact ⟨_, rfl, z, rfl, by omega, fun n hn H2 s2 => h1 _ _ (show (gd z).map V.int = _ by rw [hn]; rfl) s2, fun hn H2 s2 _ _ => h2 (j46.mpr hn) _ s2⟩
      · rw [fm_gI] at d1
        have n0 : H D = none := by
          cases y : H D with
          | none => rfl
          | some o => rw [j0j hp D o y] at hD; cases hD
        exact q (fun z hz y => hg (.str z) (List.mem_map.mpr ⟨z, hz, rfl⟩) (j46.mpr y)) D _ ((j0j hp).trans s1) n0 d1
      · obtain ⟨z, hz, rfl⟩ := List.mem_map.mp hx
        exact e z hz (j46.mp hn) _ ((j0j hp).trans s1)
    · refine ⟨_, rfl, v, _, _, ty, false, rfl, rfl, hty, hk, _, rfl, ?_⟩
      exact iteT e
noncomputable def oV : Option Int → V
  | some n => .int n
  | none => .non
abbrev s_lnum : Stmt := tp 25
theorem j17 : FnScope ["_law_text", "_law_figures"] ["_law_text"] (j03 s_lnum) := ⟨rfl, rfl, rfl, by decide +kernel, rfl, by decide +kernel, by decide +kernel⟩
noncomputable def spLnum : Sp := fun vs H Q _ => ∃ z : Str, vs = [.str z] ∧ z.length ≤ 100000 ∧ Q (oV (gd z)) H
theorem ok_lnum {f : Addr} {fd : FuncData} (F : Fun K "_law_number" "_law_number" s_lnum f fd) (B : Bl mg) : FnOk P w K mg base CX0 1 f fd ["_law_text"] spLnum := by
  refine F.ok j17 (fun vs H Q E h => ?_) (fun cdv A outer s H vs Q E hr h => ?_)
  · obtain ⟨z, rfl, _⟩ := h
    rfl
  · obtain ⟨z, rfl, hl, q⟩ := h
    refine ⟨_, (j02 (j0k (i := 1) j17.nd rfl (Or.inl rfl) (j20 (j0h op_eq (j1f j3m (pv 0) j28 (j29 j07)) j0f (j0p _)) (j1f j3m (pv 0) (j29 j07) j28) (pv 0)))
      (j02 (j1o (PW.pt (j2u (j0h op_eq (pv 1) j0f (j0p _)) (j2u (j0h op_gt (j08 j0t rfl B.len PySem.boot_len (j00 (pv 1) j01)) j07 (j0p _)) (j2u (j0h j5j (j3j PySem.F.plainAttrs_str PySem.F.slot_str_strip PySem.F.type_str_strip mt_strip (pv 1) (j00 j0f j01)) j0f (j0p _)) (j39 (PW.pt (pw_and (j0h op_eq (j3v ix_str (pv 1) j07 (fun _ _ => rfl)) j0f (j0p _)) (pw_and1 (j0h j5j (pv 0) j0f (j0p _)))))))))) (j05 (j0d j2n)) j0n)
      (j05 (j0d (j20 (pt_chain op_lt op_lt (pe_un un_neg j07) (j0r j2g rfl B.int j21 (j00 (pv 0) j01)) j07) (j0r j2g rfl B.int j21 (j00 (pv 0) j01)) j2n))))), ?_⟩
    have h5 := j37
    have hz : z.length ≤ sizeLine := by omega
    have gq : ∀ v, gd z = v → oV v = oV (gd z) := fun v e => by rw [e]
    refine j2j (fun σ' H' => ∃ y : Str, cs y = fg (cs z) ∧ σ' = [some (.str z), some (.str y)] ∧ H' = H) ?_ ?_
    · intro N hN D'
      refine ⟨_, rfl, _, rfl, z, rfl, hz, rfl, _, rfl, ?_⟩
      have em : cs (PySem.Str.ofString "-") = [45] := by decide +kernel
      have key : decide (V.str (Txt.slice z none (some 1)) = V.str "-") = decide ((cs z).head? = some 45) := by
        by_cases c : (cs z).head? = some 45
        · rw [decide_eq_true c]
          refine decide_eq_true (congrArg V.str (j1s ?_))
          rw [j3o, em]
          cases e : cs z with
          | nil => rw [e] at c; cases c
          | cons a t => rw [e] at c; cases c; rfl
        · rw [decide_eq_false c]
          refine decide_eq_false fun y => c ?_
          have y2 := congrArg cs (V.str.inj y)
          rw [j3o, em] at y2
          cases e : cs z with
          | nil => rw [e] at y2; cases y2
          | cons a t => rw [e] at y2; cases y2; rfl
      rw [key]
      refine ite2 (fun hm => ?_) (fun hm => ?_)
      · rw [decide_eq_true_eq] at hm
        refine ⟨_, rfl, _, rfl, z, rfl, hz, gN (hN _ _ ⟨_, ?_, rfl, rfl⟩)⟩
        rw [j2h]
        rcases j0o (cs z) with ⟨r, e, ef, _⟩ | ⟨h1, _⟩
        · rw [ef, e]; rfl
        · exact absurd hm h1
      · rw [decide_eq_true_eq] at hm
        refine ⟨_, rfl, gN (hN _ _ ⟨z, ?_, rfl, rfl⟩)⟩
        rcases j0o (cs z) with ⟨r, e, ef, _⟩ | ⟨_, ef, _⟩
        · rw [e] at hm; exact absurd rfl hm
        · exact ef.symm
    · rintro σ' H' ⟨y, ey, rfl, rfl⟩
      have ly : y.length = (fg (cs z)).length := by rw [← j0g, ey]
      have lz : (fg (cs z)).length ≤ z.length := by
        rw [← j0g]
        rcases j0o (cs z) with ⟨r, e, ef, _⟩ | ⟨_, ef, _⟩
        · rw [ef, e, List.length_cons]; omega
        · rw [ef]; exact Nat.le_refl _
      have e0 : cs (PySem.Str.ofString "") = [] := by decide +kernel
      have no : ¬ Gd (cs z) → Q V.non H' := fun h => by
        have : gd z = none := j34.mpr fun p => h ((gd_pd _).mpr p)
        rw [this] at q
        exact q
      refine ⟨_, rfl, rfl, _, rfl, ?_⟩
      refine ite2 (fun c1 => ?_) (fun c1 => ?_)
      · rw [decide_eq_true_eq] at c1
        have ye : fg (cs z) = [] := by rw [← ey, V.str.inj c1, e0]
        exact iteT (no fun g => g.2.1 ye)
      · rw [decide_eq_true_eq] at c1
        have yn : fg (cs z) ≠ [] := fun e => c1 (congrArg V.str (j1s (by rw [ey, e, e0])))
        refine ⟨_, rfl, y, rfl, by omega, _, _, rfl, rfl, _, rfl, ?_⟩
        refine ite2 (fun c2 => ?_) (fun c2 => ?_)
        · rw [decide_eq_true_eq] at c2
          exact iteT (no fun g => by have := g.2.2.1; omega)
        · rw [decide_eq_true_eq] at c2
          refine ⟨_, rfl, rfl, y, _, rfl, rfl, by omega, rfl, _, rfl, ?_⟩
          have k3 : (!decide (V.str (Txt.stripChars y "0123456789") = V.str "")) = true ↔ ¬ PySem.NumText.AllDigits (fg (cs z)) := by
            rw [Bool.not_eq_true', decide_eq_false_iff_not, ← ey, ← j6p]
            exact ⟨fun h e => h (congrArg V.str e), fun h e => h (V.str.inj e)⟩
          refine ite2 (fun c3 => ?_) (fun c3 => ?_)
          · exact iteT (no fun g => k3.mp c3 g.1)
          · have ad : PySem.NumText.AllDigits (fg (cs z)) := Classical.byContradiction fun h => c3 (k3.mpr h)
            obtain ⟨c, t, ec⟩ : ∃ c t, cs y = c :: t := by
              cases e : cs y with
              | nil => rw [ey] at e; exact absurd e yn
              | cons c t => exact ⟨c, t, rfl⟩
            refine ⟨_, rfl, y, 0, c, rfl, rfl, by omega, (show atI (cs y) ((0 : Nat) : Int) = some c from j19 (by rw [ec]; rfl)), rfl, _, rfl, ?_⟩
            have e48 : cs (PySem.Str.ofString "0") = [48] := by decide +kernel
            have k4 : decide (V.str ⟨#[c]⟩ = V.str "0") = decide (c = 48) := by
              by_cases h : c = 48
              · rw [decide_eq_true h]
                exact decide_eq_true (congrArg V.str (j1s (by rw [e48, h])))
              · rw [decide_eq_false h]
                refine decide_eq_false fun e => h ?_
                have := congrArg cs (V.str.inj e)
                rw [e48] at this
                cases this
                rfl
            have k5 : (!decide (V.str z = V.str "0")) = true ↔ cs z ≠ [48] := by
              rw [Bool.not_eq_true', decide_eq_false_iff_not, ← e48]
              exact ⟨fun h e => h (congrArg V.str (j1s e)), fun h e => h (congrArg cs (V.str.inj e))⟩
            have hh : (fg (cs z)).head? = some c := by rw [← ey, ec]; rfl
            have fin : ¬ ((fg (cs z)).head? = some 48 ∧ cs z ≠ [48]) → tRet
                (tIf
                  (tTest
                    (j5l (rI0 fun i j => V.bl (decide (i < j))) (rI0 fun i j => V.bl (decide (i < j)))
                      (tUn (rU fun i => V.int (-i)) (tC (V.int 1000001)))
                      (tCB (fun xs H Q => ∃ x n, xs = [V.str x] ∧ intText? x = some n ∧ x.length ≤ 640 ∧ Q (V.int n) H)
                        (j3d (tVar 0) tNil))
                      (tC (V.int 1000001))))
                  (tCB (fun xs H Q => ∃ x n, xs = [V.str x] ∧ intText? x = some n ∧ x.length ≤ 640 ∧ Q (V.int n) H)
                    (j3d (tVar 0) tNil))
                  (tC V.non))
                { nx := fun x H' => Q V.non H', rt := Q } [some (V.str z), some (V.str y)] H' := by
              intro h4
              have lz2 : z.length ≤ 8 := by
                rw [← j0g]
                rcases j0o (cs z) with ⟨r, e, ef, _⟩ | ⟨_, ef, _⟩
                · rw [e, List.length_cons]; rw [ef] at ly; omega
                · rw [← ef]; omega
              have hint := int_of ad yn (by omega : z.length ≤ 640)
              refine ⟨_, rfl, _, rfl, z, _, rfl, hint, by omega, _, _, rfl, rfl, _, rfl, ?_⟩
              by_cases v1 : -1000001 < vl (cs z)
              · rw [decide_eq_true v1]
                refine iteT ?_
                refine ⟨_, _, rfl, rfl, _, rfl, ?_⟩
                by_cases v2 : vl (cs z) < 1000001
                · rw [decide_eq_true v2]
                  refine iteT ?_
                  have g : gd z = some (vl (cs z)) := gd_of ((gd_pd _).mp ⟨ad, yn, by omega, h4, v1, v2⟩)
                  rw [g] at q
                  exact ⟨_, rfl, z, _, rfl, hint, by omega, q⟩
                · rw [decide_eq_false v2]
                  exact iteF (no fun g => v2 g.2.2.2.2.2)
              · rw [decide_eq_false v1]
                refine iteF ?_
                refine ⟨_, rfl, ?_⟩
                exact iteF (no fun g => v1 g.2.2.2.2.1)
            rw [k4]
            by_cases h : c = 48
            · rw [decide_eq_true h]
              refine iteT ?_
              refine ⟨_, rfl, rfl, _, rfl, ?_⟩
              refine ite2 (fun c5 => ?_) (fun c5 => ?_)
              · exact no fun g => g.2.2.2.1 ⟨by rw [hh, h], k5.mp c5⟩
              · exact fin fun g => c5 (k5.mpr g.2)
            · rw [decide_eq_false h]
              refine iteF ?_
              exact iteF (fin fun g => h (by rw [hh] at g; exact Option.some.inj g.1))
end
end My
end
noncomputable section
namespace My
open PySem L2 L3 Txm
theorem cs1 {te : TE} {i : Nat} {U : TS} {D : Ends} {σ : L2.St} {H : Hp} (h : te σ H fun v H1 => U D (σ.set i (some v)) H1) : tSeq (tAsg te (j5b i)) U D σ H := h
theorem boot_VE : bootBuiltins "ValueError" = some (.type "ValueError") := by decide +kernel
structure Er (K : PySem.W.Frag) (mg : Str → Option Value) (C CS CA CG CR CU : Addr) : Prop where
  gBadText : mg "BadText" = some (.ref C)
  gShareError : mg "ShareError" = some (.ref CS)
  gBadAmount : mg "BadAmount" = some (.ref CA)
  gBadGifts : mg "BadGifts" = some (.ref CG)
  gBadRow : mg "BadRow" = some (.ref CR)
  gUnlike : mg "Unlike" = some (.ref CU)
  hVE : mg "ValueError" = none
  Z : ExcK K C
  zS : PySem.W.excIn K CS VEb "ValueError.__new__" = true
  zB : PySem.W.mroIn K CS (.type "BaseException") = some true
  zC : PySem.W.mroIn K C (.ref CS) = some true
  kA : PySem.W.kitOne K (.ref C) (.ref CA) = some false
  kG : PySem.W.kitOne K (.ref C) (.ref CG) = some false
  kR : PySem.W.kitOne K (.ref C) (.ref CR) = some false
  kU : PySem.W.kitOne K (.ref C) (.ref CU) = some false
  kV : PySem.W.kitOne K (.ref C) (.type "ValueError") = some true
  kC : PySem.W.kitOne K (.ref C) (.ref C) = some true
noncomputable def gN' : V → Option V
  | .str z => some (oV (gd z))
  | _ => none
theorem fm_gN (ws : List Str) : (sV ws).filterMap gN' = ws.map fun z => oV (gd z) := by
  induction ws with
  | nil => rfl
  | cons x t ih =>
    show List.filterMap gN' (V.str x :: sV t) = _
    rw [List.filterMap_cons]
    exact congrArg (oV (gd x) :: ·) ih
theorem j4t : ∀ {ws : List Str}, (∀ z ∈ ws, gd z ≠ none) → (ws.map fun z => oV (gd z)) = iV (ws.filterMap gd)
  | [], _ => rfl
  | w :: ws, h => by
    cases e : gd w with
    | none => exact absurd e (h w (by simp))
    | some n =>
      rw [List.map_cons, e, List.filterMap_cons, e]
      exact congrArg (V.int n :: ·) (j4t fun x hx => h x (by simp [hx]))
theorem flat_oV (o : Option Int) : j2x (oV o) = true := by cases o <;> rfl
theorem in_non (ws : List Str) : inV .non (ws.map fun z => oV (gd z)) = true ↔ ∃ z ∈ ws, gd z = none := by
  unfold inV
  rw [List.any_map, List.any_eq_true]
  constructor
  · rintro ⟨z, hz, e⟩
    refine ⟨z, hz, ?_⟩
    cases h : gd z with
    | none => rfl
    | some n =>
      have : eqV (oV (gd z)) .non = true := e
      rw [h] at this
      cases this
  · rintro ⟨z, hz, e⟩
    refine ⟨z, hz, ?_⟩
    show eqV (oV (gd z)) .non = true
    rw [e]
    rfl
section
variable {P : Program} {w : World} {K : PySem.W.Frag} {mg : Str → Option Value} {base : Heap} {C CS CA CG CR CU : Addr}
abbrev s_lin : Stmt := tp 26
theorem j2t : FnScope ["_law_text", "_law_found"] ["_law_text"] (j03 s_lin) := ⟨rfl, rfl, rfl, by decide +kernel, rfl, by decide +kernel, by decide +kernel⟩
noncomputable def spIn : Sp := fun vs H Q _ => ∃ t : Str, vs = [.str t] ∧ t.length ≤ 90000 ∧ ((∀ z ∈ wds t, gd z ≠ none) → ∀ p H', Same H H' → H p = none → H' p = some (.lst (iV ((wds t).filterMap gd))) → Q (.ref p) H') ∧ (∀ z ∈ wds t, gd z = none → ∀ H', Same H H' → Q .non H')
theorem ok_lin {f : Addr} {fd : FuncData} (F : Fun K "_law_in" "_law_in" s_lin f fd) (B : Bl mg) (c_number : Ok P w K mg base 1 "_law_number" ["_law_text"] spLnum) : FnOk P w K mg base CX0 2 f fd ["_law_text"] spIn := by
  refine F.ok j2t (fun vs H Q E h => ?_) (fun cdv A outer s H vs Q E hr h => ?_)
  · obtain ⟨t, rfl, _⟩ := h
    rfl
  · obtain ⟨t, rfl, hl, q, e⟩ := h
    refine ⟨_, (j02 (ps_setC (i := 1) rfl rfl (j0s (sc0 := j03 s_lin) (N := ["_law_text", "_law_found"]) (caps := []) (idx := []) rfl rfl (by decide +kernel)) (j18 (j3j PySem.F.plainAttrs_str PySem.F.slot_str_split PySem.F.type_str_split j4h (pv 0) (j00 j0f j01))) (fun _ _ _ _ _ => j1b) (fun _ _ _ _ _ => (j06 c_number (hr.mono (by decide)) rfl (j00 (pv 0) j01))) j2t.nd rfl rfl)
      (j05 (j0d (j20 (j0h j5u j2n (pv 1) (by with_unfolding_all rfl)) j2n (pv 1))))), ?_⟩
    have h5 := j37
    refine cs1 (compN_of (xs := sV (wds t)) (EQ := fun _ => False) gN' (fun R r => ⟨_, rfl, rfl, t, _, rfl, rfl, by decide +kernel, by omega, fun p hp => r p _ (j0j hp) j04⟩) (j73 hl) (fun x hx H' R s1 h1 h2 => ?_) (fun hg D H1 n0 sH d1 => ?_) (fun x hx hn H1 s1 => ?_))
    · obtain ⟨z, hz, rfl⟩ := List.mem_map.mp hx
      have lz := j4m z hz
      exact ⟨_, rfl, z, rfl, by omega, h1 _ _ rfl (same_r _)⟩
    · rw [fm_gN] at d1
      refine ⟨_, rfl, D, _, rfl, .inl (SqL.of d1), rfl, ?_, _, rfl, ?_⟩
      · rw [List.all_map, List.all_eq_true]
        intro z _
        exact flat_oV _
      · show if inV .non _ = true then _ else _
        refine ite2 (fun c => ?_) (fun c => ?_)
        · obtain ⟨z, hz, hn⟩ := (in_non _).mp c
          exact e z hz hn _ sH
        · have good : ∀ z ∈ wds t, gd z ≠ none := fun z hz hn => c ((in_non _).mpr ⟨z, hz, hn⟩)
          rw [j4t good] at d1
          exact ⟨_, rfl, q good D _ sH n0 d1⟩
    · obtain ⟨z, hz, rfl⟩ := List.mem_map.mp hx
      cases hn
abbrev s_lref : Stmt := tp 27
theorem j0m : FnScope ["_law_text", "error", "_law_others"] ["_law_text"] (j03 s_lref) := ⟨rfl, rfl, rfl, by decide +kernel, rfl, by decide +kernel, by decide +kernel⟩
noncomputable def spRef (K : PySem.W.Frag) : Sp := fun vs H Q _ => ∃ v : V, vs = [v] ∧ ((∃ t : Str, v = .str t ∧ t.length ≤ 90000 ∧ ∃ z ∈ wds t, gd z = none) ∨ (∃ ty, TyOf K H v ty ∧ PySem.W.kitOne K ty (.type "str") = some false)) ∧ ∀ H', Same H H' → Q (.bl true) H'
theorem ok_lref {f : Addr} {fd : FuncData} (F : Fun K "_law_refused" "_law_refused" s_lref f fd) (B : Bl mg) (er : Er K mg C CS CA CG CR CU) (c_read : OkX P w K mg base C 4 "read" ["text"] (j74 K)) : FnOk P w K mg base CX0 5 f fd ["_law_text"] (spRef K) := by
  refine F.ok j0m (fun vs H Q E h => ?_) (fun cdv A outer s H vs Q E hr h => ?_)
  · obtain ⟨v, rfl, _⟩ := h
    rfl
  · obtain ⟨v, rfl, h, q⟩ := h
    obtain ⟨gBadText, gShareError, gBadAmount, gBadGifts, gBadRow, gUnlike, hVE, Z, zS, zB, zC, kA, kG, kR, kU, kV, kC⟩ := er
    refine ⟨_, (j02 (ps_try (i := 1) rfl gShareError Z zS zB zC j0m.nd rfl rfl rfl rfl (fun pins EQ => (j05 (j2v (j24 passT c_read (hr.mono (by decide)) rfl (j00 (pv 0) j01)))))
      (fun pins x ox hox => (j02 (j0k (i := 2) j0m.nd rfl (Or.inl rfl) (j27 (j00 (j08 (j0q (K := K) rfl Z (List.mem_append_right _ (List.mem_singleton_self _)) ⟨hox.1, hox.2.1, hox.2.2.1⟩) rfl B.isinstance PyProof.Rows.boot_isinstance (j00 (pv 1) (j00 (j0w (v := .ref _) rfl gBadAmount rfl) j01))) (j00 (j08 (j0q (K := K) rfl Z (List.mem_append_right _ (List.mem_singleton_self _)) ⟨hox.1, hox.2.1, hox.2.2.1⟩) rfl B.isinstance PyProof.Rows.boot_isinstance (j00 (pv 1) (j00 (j0w (v := .ref _) rfl gBadGifts rfl) j01))) (j00 (j08 (j0q (K := K) rfl Z (List.mem_append_right _ (List.mem_singleton_self _)) ⟨hox.1, hox.2.1, hox.2.2.1⟩) rfl B.isinstance PyProof.Rows.boot_isinstance (j00 (pv 1) (j00 (j0w (v := .ref _) rfl gBadRow rfl) j01))) j01)))))
      (j02 (j0k (i := 2) j0m.nd rfl (Or.inl rfl) (j0l j5v (pv 2) (j27 (j00 (j08 (j0q (K := K) rfl Z (List.mem_append_right _ (List.mem_singleton_self _)) ⟨hox.1, hox.2.1, hox.2.2.1⟩) rfl B.isinstance PyProof.Rows.boot_isinstance (j00 (pv 1) (j00 (j0w (v := .ref _) rfl gUnlike rfl) j01))) (j00 (j5a (j08 (j0q (K := K) rfl Z (List.mem_append_right _ (List.mem_singleton_self _)) ⟨hox.1, hox.2.1, hox.2.2.1⟩) rfl B.isinstance PyProof.Rows.boot_isinstance (j00 (pv 1) (j00 (j1n (v := .ty "ValueError") rfl hVE boot_VE rfl) j01)))) j01)))))
      (j05 (j0d (j4a (j08 (j0q (K := K) rfl Z (List.mem_append_right _ (List.mem_singleton_self _)) ⟨hox.1, hox.2.1, hox.2.2.1⟩) rfl B.isinstance PyProof.Rows.boot_isinstance (j00 (pv 1) (j00 (j0w (v := .ref _) rfl gBadText rfl) j01))) (j49 (j5a (j08 (j52 (K := K) rfl rfl (hd_pin (List.mem_append_right _ (List.mem_singleton_self _)) hox.2.2.2)) rfl B.any boot_any (j00 (pv 2) j01)))))))))))
      (j05 (j0d j3r))), ?_⟩
    refine ⟨fun H' => Same H H', ?_, fun x H1 σ' hl s1 nx => ?_⟩
    · refine ⟨_, rfl, v, rfl, ?_⟩
      rcases h with ⟨t, rfl, hl, z, hz, hn⟩ | ⟨ty, ht, hk⟩
      · exact .inl ⟨t, rfl, hl, fun g => absurd hn (g z hz), fun _ _ _ H' s' _ _ => s'⟩
      · exact .inr ⟨ty, ht, hk, fun _ _ => same_r H⟩
    · obtain ⟨a, b, c, rfl⟩ : ∃ a b c, σ' = [a, b, c] := by
        match σ', hl with
        | [a, b, c], _ => exact ⟨a, b, c, rfl⟩
      refine ⟨_, rfl, _, _, false, rfl, rfl, kA, _, rfl, _, _, false, rfl, rfl, kG, _, rfl, _, _, false, rfl, rfl, kR, by show 3 ≤ sizeLine; decide, fun p hp => ?_⟩
      have s2 : Same H1 (upd H1 p (.lst (bV [false, false, false]))) := j0j hp
      refine ⟨_, rfl, _, rfl, _, _, false, rfl, rfl, kU, _, rfl, _, _, true, rfl, rfl, kV, _, rfl, by show 2 ≤ sizeLine; decide, fun p2 hp2 => ?_⟩
      have np : p ≠ p2 := fun e => by rw [← e, j04] at hp2; cases hp2
      have s3 := j0j (o := .lst (bV [false, false])) hp2
      refine ⟨p, p2, _, _, rfl, rfl, s3 _ _ j04, j04, by show 5 ≤ sizeLine; decide, fun p3 hp3 => ?_⟩
      refine ⟨_, rfl, _, _, true, rfl, rfl, kC, _, rfl, iteT ?_⟩
      exact ⟨_, rfl, p3, [false, false, false, false, false], rfl, SqL.of j04, _, rfl, q _ (s1.trans (s2.trans (s3.trans (j0j hp3))))⟩
end
end My
end
noncomputable section
namespace My
open PySem L2 L3 Txm
theorem j4u {H : Hp} : ∀ ns : List Int, PySem.Paired (rInt H) ns (iV ns)
  | [] => .nil
  | n :: ns => .cons rfl (j4u ns)
theorem j57 {K : PySem.W.Frag} {H : Hp} {p : Addr} {ns : List Int} (h : H p = some (.lst (iV ns))) : IsL K rInt H ns (.ref p) := ⟨p, _, rfl, SqL.of h, j4u ns⟩
theorem eq_n {ns : List Int} : (if true = true then !decide (ns = ns) else decide (ns = ns)) = false := by simp
theorem eq_y {ns : List Int} : (if false = true then !decide (ns = ns) else decide (ns = ns)) = true := by simp
section
variable {P : Program} {w : World} {K : PySem.W.Frag} {mg : Str → Option Value} {base : Heap} {C CS CA CG CR CU : Addr}
abbrev s_lright : Stmt := tp 28
theorem j0z : FnScope ["_law_text", "_law_due", "_law_found"] ["_law_text"] (j03 s_lright) := ⟨rfl, rfl, rfl, by decide +kernel, rfl, by decide +kernel, by decide +kernel⟩
noncomputable def j75 : Sp := fun vs H Q _ => ∃ t : Str, vs = [.str t] ∧ t.length ≤ 80000 ∧ ∀ H', Same H H' → Q (.bl true) H'
theorem j76 {f : Addr} {fd : FuncData} (F : Fun K "_law_right" "_law_right" s_lright f fd) (B : Bl mg) (c_in : Ok P w K mg base 2 "_law_in" ["_law_text"] spIn) (c_refused : Ok P w K mg base 5 "_law_refused" ["_law_text"] (spRef K)) (c_read : OkX P w K mg base C 4 "read" ["text"] (j74 K)) (c_written : Ok P w K mg base 4 "written" ["row"] j2k) : FnOk P w K mg base CX0 6 f fd ["_law_text"] j75 := by
  refine F.ok j0z (fun vs H Q E h => ?_) (fun cdv A outer s H vs Q E hr h => ?_)
  · obtain ⟨t, rfl, _⟩ := h
    rfl
  · obtain ⟨t, rfl, hl, q⟩ := h
    have hu := hr.units0
    refine ⟨_, (j02 (j0k (i := 1) j0z.nd rfl (Or.inl rfl) (j06 c_in (hr.mono (by decide)) rfl (j00 (pv 0) j01)))
      (j02 (j1o (j0h op_isN (pv 1) j2n (j0p _)) (j05 (j0d (j06 c_refused (hr.mono (by decide)) rfl (j00 (pv 0) j01)))) j0n)
      (j02 (j0k (i := 2) j0z.nd rfl (Or.inl rfl) (j24 j2r c_read (hr.mono (by decide)) rfl (j00 (pv 0) j01)))
      (j02 (j1o (PW.pt (j2u (j1e (j15 (j08 j1j rfl B.isinstance PyProof.Rows.boot_isinstance (j00 (pv 2) (j00 (j1n (v := .ty "list") rfl B.list j2f rfl) j01))))) (j2u (j0h (op_neL hu j3x) (pv 2) (pv 1) (j0p _)) (j39 (j0h j5j (j06 c_written (hr.mono (by decide)) rfl (j00 (pv 2) j01)) (pv 0) (j0p _)))))) (j05 (j0d j3r)) j0n)
      (j02 (j2v (j3j PySem.F.plainAttrs_list PySem.F.slot_list_append PySem.F.type_list_append j2a (pv 2) (j00 j07 j01)))
      (j05 (j0d (j3t (op_eqL hu j3x) (j24 j2r c_read (hr.mono (by decide)) rfl (j00 (pv 0) j01)) (pv 1) (j0p _))))))))), ?_⟩
    by_cases bad : ∃ z ∈ wds t, gd z = none
    · obtain ⟨z, hz, hn⟩ := bad
      refine ⟨_, rfl, t, rfl, by omega, fun g => absurd hn (g z hz), fun _ _ _ H1 s1 => ?_⟩
      refine gN ?_
      refine ⟨_, rfl, rfl, _, rfl, ?_⟩
      refine iteT ?_
      exact ⟨_, rfl, _, rfl, .inl ⟨t, rfl, by omega, z, hz, hn⟩, fun H2 s2 => q _ (s1.trans s2)⟩
    · have good : ∀ z ∈ wds t, gd z ≠ none := fun z hz hn => bad ⟨z, hz, hn⟩
      have ew := j2q good
      have hb := good_bd (ws := wds t)
      have ne : (wds t).filterMap gd ≠ [] := fun e => by
        rw [e] at ew
        exact j35 t " " ew.symm
      have tt : tot (((wds t).filterMap gd).map wr) ≤ 100000 := by
        rw [ew, ← j23 (j35 t " "), StrLaws.join_split]
        omega
      have ej : Str.join " " (((wds t).filterMap gd).map wr) = t := by rw [ew]; exact StrLaws.join_split t " "
      have nl : (iV ((wds t).filterMap gd)).length < sizeLine := by
        have h1 := j71 (((wds t).filterMap gd).map wr)
        have h2 := j37
        rw [List.length_map] at h1
        rw [j1g]
        omega
      generalize hns : (wds t).filterMap gd = ns at *
      refine ⟨_, rfl, t, rfl, by omega, fun _ p H1 s1 n1 e1 => ?_, fun z hz hn => absurd hn (good z hz)⟩
      rw [hns] at e1
      refine gN ?_
      refine ⟨_, rfl, rfl, _, rfl, ?_⟩
      rw [show decide (V.ref p = V.non) = false from decide_eq_false fun z => nomatch z]
      refine iteF (nxt ?_)
      refine ⟨_, rfl, .str t, rfl, .inl ⟨t, rfl, by omega, fun _ p2 H2 s2 n2 e2 => ?_, fun z hz hn => absurd hn (good z hz)⟩⟩
      rw [hns] at e2
      have e1' := s2 _ _ e1
      refine gN ?_
      refine ⟨_, rfl, .ref p2, _, _, _, true, rfl, rfl, .lst e2, rfl, _, rfl, ?_⟩
      refine iteF ?_
      refine ⟨_, rfl, _, rfl, ns, ns, j57 e2, j57 e1', _, rfl, ?_⟩
      rw [eq_n]
      refine iteF ?_
      refine ⟨_, rfl, p2, ns, rfl, e2, ne, hb, tt, fun H3 s3 => ⟨_, rfl, rfl, _, rfl, ?_⟩⟩
      rw [ej, show decide (V.str t = V.str t) = true from decide_eq_true rfl]
      refine iteF (nxt ?_)
      have e3 := s3 _ _ e2
      have pp : p ≠ p2 := fun z => by rw [← z, e1] at n2; cases n2
      refine ⟨_, rfl, .inl ⟨rfl, _, SqL.of e3⟩, p2, _, _, rfl, rfl, e3, nl, ?_⟩
      refine ⟨_, rfl, .str t, rfl, .inl ⟨t, rfl, by omega, fun _ p4 H4 s4 n4 e4 => ?_, fun z hz hn => absurd hn (good z hz)⟩⟩
      rw [hns] at e4
      have d4 : H4 p = some (.lst (iV ns)) := s4 _ _ (by rw [j0c pp]; exact s3 _ _ e1')
      refine ⟨_, rfl, ns, ns, j57 e4, j57 d4, ?_⟩
      rw [eq_y]
      refine q _ (s1.trans (fun b o e => s4 b o ?_))
      have nb : b ≠ p2 := fun z => by rw [z, n2] at e; cases e
      rw [j0c nb]
      exact s3 _ _ (s2 _ _ e)
end
end My
end
noncomputable section
namespace My
open PySem L2 L3 Txm
noncomputable def fewA : List Str := ["", " ", "0", "-0", "00", "01", "-01", "0 0", "0 0 ", " 0 0", "0  0", "+1 1", "1 - 1", "1 -1", "-1", "-"]
noncomputable def fewB : List Str := ["1000000 -1000000", "1000001", "-1000001", "9999999 1", "99999999 1", "1,1", "1 1.0", "1 x"]
noncomputable def fewC : List Str := ["1\n1", "1\t1", "1 1\n", "--1 1", "1- 1", "1_0 1"]
theorem few_le : ∀ z ∈ fewA ++ fewB ++ fewC, z.length ≤ 5000 := by decide +kernel
theorem sV4 (a b c d : List Str) : sV a ++ sV b ++ (sV c ++ sV d) = sV (a ++ b ++ (c ++ d)) := by simp [sV]
theorem ifAll {R : List V → Hp → VK → Prop} {te : TE} {A B U : TS} {D : Ends} {σ : L2.St} {H : Hp} (h : te σ H fun x H1 => R [x] H1 fun v H2 => ∃ k, v = .bl k ∧ if (!k) = true then A { D with nx := U D } σ H2 else B { D with nx := U D } σ H2) : tSeq (tIfS (tNot (tB (tCB R (j3d te tNil)))) A B) U D σ H := h
theorem retAll {R : List V → Hp → VK → Prop} {te : TE} {D : Ends} {σ : L2.St} {H : Hp} (h : te σ H fun x H1 => R [x] H1 D.rt) : tRet (tCB R (j3d te tNil)) D σ H := h
theorem all_t (xs : List V) : (xs.map fun _ => V.bl true) = bV (xs.map fun _ => true) := by rw [bV, List.map_map]; rfl
theorem all_tt (xs : List V) : ((xs.map fun _ => true).all id) = true := by simp
section
variable {P : Program} {w : World} {K : PySem.W.Frag} {mg : Str → Option Value} {base : Heap} {C CS CA CG CR CU : Addr}
abbrev s_lfew : Stmt := tp 29
theorem j10 : FnScope ["_law_some"] [] (j03 s_lfew) := ⟨rfl, rfl, rfl, by decide +kernel, rfl, by decide +kernel, by decide +kernel⟩
noncomputable def spFew : Sp := fun vs H Q _ => vs = [] ∧ ∀ (ws : List Str) p H', Same H H' → H p = none → H' p = some (.lst (sV ws)) → (∀ z ∈ ws, z.length ≤ 5000) → ws.length ≤ 100 → Q (.ref p) H'
theorem ok_lfew {f : Addr} {fd : FuncData} (F : Fun K "_law_few" "_law_few" s_lfew f fd) (B : Bl mg) : FnOk P w K mg base CX0 1 f fd [] spFew := by
  refine F.ok j10 (fun vs H Q E h => ?_) (fun cdv A outer s H vs Q E hr h => ?_)
  · obtain ⟨rfl, _⟩ := h
    rfl
  · obtain ⟨rfl, q⟩ := h
    refine ⟨_, (@j02 _ _ _ _ _ (@j0k _ _ 0 _ _ _ _ j10.nd rfl (Or.inl rfl) (@j6w _ _ ["", " ", "0", "-0", "00", "01", "-01", "0 0", "0 0 ", " 0 0", "0  0", "+1 1", "1 - 1", "1 -1", "-1", "-"] _ (by decide +kernel) (by decide)) rfl (.inl rfl))
      (@j02 _ _ _ _ _ (@j0k _ _ 0 _ _ _ _ j10.nd rfl (Or.inl rfl) (j0l j5v (pv 0) (@j6w _ _ ["1000000 -1000000", "1000001", "-1000001", "9999999 1", "99999999 1", "1,1", "1 1.0", "1 x"] _ (by decide +kernel) (by decide))) rfl (.inl rfl))
      (@j02 _ _ _ _ _ (@j0k _ _ 0 _ _ _ _ j10.nd rfl (Or.inl rfl) (j0l j5v (pv 0) (@pe_lstM _ _ ["1\n1", "1\t1", "1 1\n", "--1 1", "1- 1", "1_0 1"] _ _ 6 (by decide +kernel) (by exact (j25 (j0l j14 (j0l j6l j0f j07) j0f) (j25 (j0l j14 j0f (j0l j6l j0f j07)) (j25 j0f j01 rfl) rfl) rfl)))) rfl (.inl rfl))
      (j05 (j0d (pv 0)))))), ?_⟩
    intro p hp
    refine gN ?_
    have s1 := j0j (o := .lst (sV fewA)) hp
    refine ⟨_, rfl, fun p2 hp2 => ?_⟩
    have s2 := j0j (o := .lst (sV fewB)) hp2
    refine ⟨p, p2, _, _, rfl, rfl, s2 _ _ j04, j04, by show 24 ≤ sizeLine; decide, fun p3 hp3 => ?_⟩
    refine gN ?_
    have s12 := s1.trans s2
    have s3 := j0j (o := .lst (sV fewA ++ sV fewB)) hp3
    have h4 : (5000 : Nat) ≤ sizeLine := by decide
    have l9 : (PySem.Str.ofString "9").length = 1 := by decide +kernel
    have l1 : (PySem.Str.ofString " 1").length = 2 := by decide +kernel
    have lm : (PySem.Str.ofString "-").length = 1 := by decide +kernel
    have lo : (PySem.Str.ofString "1 ").length = 2 := by decide +kernel
    refine ⟨_, rfl, _, _, rfl, rfl, l9, by decide, by decide, fun k hk => ?_⟩
    have hk' : k.length = 4000 := hk
    refine ⟨_, _, rfl, rfl, by rw [hk', l1]; omega, ?_⟩
    refine ⟨_, _, rfl, rfl, lm, by decide, by decide, fun k2 hk2 => ?_⟩
    have hk2' : k2.length = 50 := hk2
    refine ⟨_, _, rfl, rfl, by rw [hk2', lo]; omega, ?_⟩
    refine ⟨by show 9 ≤ sizeLine; decide, fun p4 hp4 => ?_⟩
    refine ⟨p3, p4, _, _, rfl, rfl, j0j hp4 _ _ j04, j04, by show 33 ≤ sizeLine; decide, fun p5 hp5 => ?_⟩
    refine gN ?_
    have sA : Same H _ := s12.trans (s3.trans (j0j (o := .lst (sV fewC ++ [V.str (k ++ " 1"), V.str ("1 " ++ k2), V.str "1e3 1"])) hp4))
    have n0 : H p5 = none := by
      cases y : H p5 with
      | none => rfl
      | some o => exact absurd ((sA p5 o y).symm.trans hp5) (by simp)
    refine ⟨_, rfl, q (fewA ++ fewB ++ (fewC ++ [k ++ " 1", "1 " ++ k2, "1e3 1"])) p5 _ (sA.trans (j0j hp5)) n0 (j04.trans ?_) (fun z hz => ?_) (by show 33 ≤ 100; decide)⟩
    · exact congrArg (fun l => some (HO.lst l)) (sV4 fewA fewB fewC [k ++ " 1", "1 " ++ k2, "1e3 1"])
    · rcases List.mem_append.mp hz with hz | hz
      · exact few_le z (List.mem_append_left _ hz)
      · rcases List.mem_append.mp hz with hz | hz
        · exact few_le z (List.mem_append_right _ hz)
        · simp only [List.mem_cons, List.not_mem_nil, or_false] at hz
          rcases hz with rfl | rfl | rfl
          · rw [j1d, hk', l1]; decide
          · rw [j1d, hk2', lo]; decide
          · decide +kernel
abbrev s_law : Stmt := tp 30
theorem j1y : FnScope ["_law_script", "_law_row_here", "_law_text", "_law_handed", "_law_cell", "_law_k", "_law_at", "_law_sign"] ["_law_script"] (j03 s_law) := ⟨rfl, rfl, rfl, by decide +kernel, rfl, by decide +kernel, by decide +kernel⟩
noncomputable def spLaw (K : PySem.W.Frag) : Sp := fun vs H Q _ => ∃ (a : Addr) (ns : List Int), vs = [.ref a] ∧ SqL K H a (iV ns) ∧ ns.length ≤ 63 ∧ ∀ H', Q (.bl true) H'
structure Tx (P : Program) (w : World) (K : PySem.W.Frag) (mg : Str → Option Value) (base : Heap) : Prop where
  B : Bl mg
  c_cell_at : Ok P w K mg base 1 "_law_cell_at" ["_law_script", "_law_k"] (j6x K)
  c_draw : Ok P w K mg base 1 "_law_draw" ["_law_cell", "_law_k", "_law_many"] j6y
  c_row : Ok P w K mg base 2 "_law_row" ["_law_script"] (spRow K)
  c_written : Ok P w K mg base 4 "written" ["row"] j2k
  c_right : Ok P w K mg base 6 "_law_right" ["_law_text"] j75
  c_refused : Ok P w K mg base 5 "_law_refused" ["_law_text"] (spRef K)
  c_few : Ok P w K mg base 1 "_law_few" [] spFew
theorem ok_law {f : Addr} {fd : FuncData} (F : Fun K "law" "law" s_law f fd) (T : Tx P w K mg base) : FnOk P w K mg base CX0 7 f fd ["_law_script"] (spLaw K) := by
  refine F.ok j1y (fun vs H Q E h => ?_) (fun cdv A outer s H vs Q E hr h => ?_)
  · obtain ⟨a, ns, rfl, _⟩ := h
    rfl
  · obtain ⟨a, ns, rfl, hS, hl, ret⟩ := h
    obtain ⟨B, c_cell_at, c_draw, c_row, c_written, c_right, c_refused, c_few⟩ := T
    have hu := hr.units0
    refine ⟨_, (j02 (j0k (i := 1) j1y.nd rfl (Or.inl rfl) (j06 c_row (hr.mono (by decide)) rfl (j00 (pv 0) j01)))
      (j02 (j0k (i := 2) j1y.nd rfl (Or.inl rfl) (j3j PySem.F.plainAttrs_str PySem.F.slot_str_join PySem.F.type_str_join j6j j0f (j00 (j2d rfl rfl (j0s (sc0 := j03 s_law) (N := ["_law_script", "_law_row_here", "_law_text", "_law_handed", "_law_cell", "_law_k", "_law_at", "_law_sign"]) (caps := []) (idx := []) rfl rfl (by decide +kernel)) (j18 (pv 1)) (fun _ _ _ _ _ => j1b) (fun _ _ _ _ _ => (j0r j11 rfl B.str j22 (j00 (pv 0) j01)))) j01)))
      (j02 (j0k (i := 3) j1y.nd rfl (Or.inl rfl) (j0r j3i rfl B.list j2f (j00 (pv 1) j01)))
      (j02 (j1o (PW.pt (j2u (j0h j5j (j06 c_written (hr.mono (by decide)) rfl (j00 (pv 3) j01)) (pv 2) (j0p _)) (j2u (j0h (op_neL hu j3x) (pv 3) (pv 1) (j0p _)) (j39 (j1e (j15 (j06 c_right (hr.mono (by decide)) rfl (j00 (pv 2) j01)))))))) (j05 (j0d j3r)) j0n)
      (j02 (j0k (i := 4) j1y.nd rfl (Or.inl rfl) (j0l j16 (j06 c_cell_at (hr.mono (by decide)) rfl (j00 (pv 0) (j00 j07 j01))) (j0l j4c j07 (j06 c_cell_at (hr.mono (by decide)) rfl (j00 (pv 0) (j00 j07 j01))))))
      (j02 (j5e PassesOwn.never rfl (j3a rfl B.range (j00 j07 j01)) (j3s (i := 5) j1y.nd rfl (Or.inl rfl))
      (j02 (j0k (i := 6) j1y.nd rfl (Or.inl rfl) (j06 c_draw (hr.mono (by decide)) rfl (j00 (j0l j16 (pv 4) (pv 5)) (j00 j07 (j00 (j0l j16 (j08 j0t rfl B.len PySem.boot_len (j00 (pv 2) j01)) j07) j01)))))
      (j02 (j0k (i := 7) j1y.nd rfl (Or.inl rfl) (j3v j5t (pe_tup (j00 j0f (j00 (j3v ix_str j0f (j06 c_draw (hr.mono (by decide)) rfl (j00 (j0l j16 (pv 4) (pv 5)) (j00 j07 (j00 j07 j01)))) (fun _ _ => rfl)) j01))) (j06 c_draw (hr.mono (by decide)) rfl (j00 (j0l j16 (pv 4) (pv 5)) (j00 j07 (j00 j07 j01)))) (fun _ _ => rfl)))
      (j05 (j1o (j1e (j15 (j06 c_right (hr.mono (by decide)) rfl (j00 (j0l j14 (j0l j14 (j1f j3m (pv 2) j28 (j29 (pv 6))) (pv 7)) (j1f j3m (pv 2) (j29 (j0l j16 (pv 6) (j06 c_draw (hr.mono (by decide)) rfl (j00 (j0l j16 (pv 4) (pv 5)) (j00 j07 (j00 j07 j01)))))) j28)) j01)))) (j05 (j0d j3r)) j0n)))))
      (j02 (j1o (j1e (j15 (j08 (j2e rfl) rfl B.all j30 (j00 (j2d rfl rfl (j0s (sc0 := j03 s_law) (N := ["_law_script", "_law_row_here", "_law_text", "_law_handed", "_law_cell", "_law_k", "_law_at", "_law_sign"]) (caps := []) (idx := []) rfl rfl (by decide +kernel)) (j18 (j63 c_few (hr.mono (by decide)) rfl)) (fun _ _ _ _ _ => j1b) (fun _ _ _ _ _ => (j06 c_right (hr.mono (by decide)) rfl (j00 (pv 0) j01)))) j01)))) (j05 (j0d j3r)) j0n)
      (j05 (j0d (j08 (j2e rfl) rfl B.all j30 (j00 (j2d rfl rfl (j0s (sc0 := j03 s_law) (N := ["_law_script", "_law_row_here", "_law_text", "_law_handed", "_law_cell", "_law_k", "_law_at", "_law_sign"]) (caps := []) (idx := []) rfl rfl (by decide +kernel)) (j18 (j27 (j00 j2n (j00 j07 (j00 (j27 (j00 j0f j01)) (j00 j3r j01)))))) (fun _ _ _ _ _ => j1b) (fun _ _ _ _ _ => (j06 c_refused (hr.mono (by decide)) rfl (j00 (pv 0) j01)))) j01))))))))))), ?_⟩
    refine ⟨_, rfl, a, ns, rfl, hS, hl, fun rs p H1 rl rb hp0 hp1 s1 => ?_⟩
    refine gN ?_
    dsimp only
    have rne : rs ≠ [] := fun z => by rw [z] at rl; simp at rl
    have rl64 : rs.length ≤ 64 := by omega
    have hb : Bd 1000000 rs := bd_mono rb (by decide)
    have tt : tot (rs.map wr) ≤ 576 := by
      have := tot_le (ws := rs.map wr) (k := 8) fun z hz => by
        obtain ⟨n, hn, rfl⟩ := List.mem_map.mp hz
        have := hb n hn
        exact wr_len (by omega) (by omega)
      rw [List.length_map] at this
      omega
    have wne : rs.map wr ≠ [] := fun z => rne (List.map_eq_nil_iff.mp z)
    have tl : (Str.join " " (rs.map wr)).length ≤ 576 := by have := j23 wne; omega
    have h5 := j37
    refine ⟨rfl, j4n (a := p) (xs := iV rs) (H1 := H1) (EQ := fun _ => False) gW (fun R r => ⟨_, rfl, r⟩) (SqL.of hp1) (by rw [j1g]; omega) (fun x hx H' R _ h1 _ => ?_) (fun _ D H2 hD s2 d2 => ?_) (fun x hx h1 => ?_)⟩
    · obtain ⟨n, hn, rfl⟩ := List.mem_map.mp hx
      exact ⟨_, rfl, n, rfl, j3p (by have := hb n hn; omega), h1 _ _ rfl fun _ _ e => e⟩
    · rw [fm_gW] at d2
      refine ⟨_, D, rs.map wr, rfl, rfl, SqL.of d2, j6s (by omega), ?_⟩
      refine gN ?_
      generalize hT : Str.join " " (rs.map wr) = T at *
      have hp2 := s2 _ _ hp1
      refine ⟨_, rfl, p, _, rfl, .inl (SqL.of hp2), fun l hl0 => ?_⟩
      refine gN ?_
      have s3 := j0j (o := .lst (iV rs)) hl0
      refine ⟨_, rfl, l, rs, rfl, j04, rne, hb, by omega, fun H4 s4 => ⟨_, rfl, rfl, _, rfl, ?_⟩⟩
      rw [hT, show decide (V.str T = V.str T) = true from decide_eq_true rfl]
      refine iteF ?_
      refine ⟨_, rfl, _, rfl, rs, rs, j57 (s4 _ _ j04), j57 (s4 _ _ (s3 _ _ hp2)), _, rfl, ?_⟩
      rw [eq_n]
      refine iteF ?_
      refine ⟨_, rfl, T, rfl, by omega, fun H5 s5 => ⟨_, rfl, iteF (nxt ?_)⟩⟩
      have s15 : Same H H5 := s1.trans (s2.trans (s3.trans (s4.trans s5)))
      dsimp only
      have hzT : T.length ≤ sizeLine := by omega
      refine ⟨_, rfl, a, ns, 3, rfl, s15.seq hS, by decide, fun n1 => ?_⟩
      refine ⟨_, rfl, a, ns, 0, rfl, s15.seq hS, by decide, fun n2 => ?_⟩
      refine ⟨_, _, rfl, rfl, .inl ⟨by decide, by decide⟩, _, _, rfl, rfl, ?_⟩
      refine gN ?_
      dsimp only
      generalize n1 + 7 * n2 = cell
      refine ⟨_, rfl, by decide, by decide, j2p (lo := 0) (n := 2) (fun i σ H2 => ∃ x5 x6 x7, σ = [some (.ref a), some (.ref p), some (.str T), some (.ref l), some (.int cell), x5, x6, x7] ∧ Same H H2) ⟨none, none, none, rfl, s15⟩ ?_ ?_⟩
      · rintro i σ H6 hi ⟨x5, x6, x7, rfl, s6⟩
        intro D'
        refine gN ?_
        refine ⟨_, rfl, _, rfl, _, _, rfl, rfl, _, rfl, T, rfl, hzT, _, _, rfl, rfl, _, _, _, rfl, by decide, by omega, fun at' H7 a0 a1 s7 => ?_⟩
        refine gN ?_
        refine ⟨_, rfl, _, rfl, _, _, rfl, rfl, _, _, _, rfl, by decide, by decide, fun d1 H8 d10 d11 s8 => ?_⟩
        obtain ⟨j, rfl⟩ : ∃ j : Nat, d1 = j := ⟨d1.toNat, by omega⟩
        have sl : (cs (PySem.Str.ofString "0123456789- +,x")).length = 15 := by decide +kernel
        obtain ⟨c, hc⟩ : ∃ c, (cs (PySem.Str.ofString "0123456789- +,x"))[j]? = some c := ⟨_, List.getElem?_eq_getElem (by omega)⟩
        have sl2 : (PySem.Str.ofString "0123456789- +,x").length ≤ sizeLine := by rw [← j0g, sl]; decide
        refine ⟨_, _, c, rfl, rfl, sl2, j19 hc, ?_⟩
        refine ⟨by show 2 ≤ sizeLine; decide, fun tp htp => ?_⟩
        have s9 := j0j (o := .tup [V.str "", V.str ⟨#[c]⟩]) htp
        refine ⟨_, rfl, _, rfl, _, _, rfl, rfl, _, _, _, rfl, by decide, by decide, fun d2 H10 d20 d21 s10 => ?_⟩
        obtain ⟨j2, rfl⟩ : ∃ j : Nat, d2 = j := ⟨d2.toNat, by omega⟩
        have le0 : (PySem.Str.ofString "").length = 0 := by decide +kernel
        obtain ⟨y, hy, ly⟩ : ∃ y : Str, [V.str "", V.str ⟨#[c]⟩][j2]? = some (V.str y) ∧ y.length ≤ 1 := by
          have : j2 = 0 ∨ j2 = 1 := by omega
          rcases this with rfl | rfl
          · exact ⟨_, rfl, by omega⟩
          · exact ⟨_, rfl, Nat.le_refl 1⟩
        refine ⟨tp, _, _, V.str y, rfl, rfl, s10.seqT (SqT.of j04), j19 hy, ?_⟩
        refine gN ?_
        have z1 := Txt.slice_le T none (some at')
        refine ⟨_, rfl, _, rfl, _, rfl, T, rfl, hzT, _, rfl, _, _, rfl, rfl, by omega, ?_⟩
        refine ⟨_, rfl, _, rfl, _, rfl, _, rfl, _, _, rfl, rfl, _, _, _, rfl, by decide, by decide, fun d3 H11 d30 d31 s11 => ?_⟩
        have z2 := Txt.slice_le T (some (at' + d3)) none
        refine ⟨_, _, rfl, rfl, _, rfl, T, rfl, hzT, _, _, rfl, rfl, by rw [j1d]; omega, ?_⟩
        refine ⟨_, rfl, by rw [j1d, j1d]; omega, fun H12 s12 => ⟨_, rfl, iteF (nxt ⟨_, _, _, rfl, ?_⟩)⟩⟩
        exact s6.trans (s7.trans (s8.trans (s9.trans (s10.trans (s11.trans s12)))))
      · rintro σ H6 ⟨x5, x6, x7, rfl, s6⟩
        dsimp only
        refine ifAll ?_
        refine j4o (fun xs _ => xs.length ≤ 100 ∧ ∀ x ∈ xs, ∃ z : Str, x = .str z ∧ z.length ≤ 5000) (fun _ => .bl true) (fun R r => ⟨rfl, fun ws p3 H3 s3 n3 e3 le ll => r _ p3 H3 ⟨by rw [List.length_map]; exact ll, fun x hx => ?_⟩ s3 e3⟩) (fun xs H1 h => by have := h.1; omega) (fun xs H1 h x hx H' R s3 r => ?_) (fun xs H1 h D H7 s7 d7 => ?_)
        · obtain ⟨z, hz, rfl⟩ := List.mem_map.mp hx
          exact ⟨z, rfl, le z hz⟩
        · obtain ⟨z, rfl, hz⟩ := h.2 x hx
          exact ⟨_, rfl, z, rfl, by omega, fun H4 s4 => r _ s4⟩
        · rw [all_t] at d7
          refine ⟨D, xs.map fun _ => true, rfl, SqL.of d7, _, rfl, ?_⟩
          rw [all_tt]
          refine iteF (nxt ?_)
          dsimp only
          refine retAll ?_
          refine j4o (fun xs H1 => ∃ q, xs = [.non, .int 5, .ref q, .bl true] ∧ H1 q = some (.lst [V.str "0"])) (fun _ => .bl true) (fun R r => ⟨by show 1 ≤ sizeLine; decide, fun q0 hq0 => ⟨by show 4 ≤ sizeLine; decide, fun p9 hp9 => r _ p9 _ ⟨q0, rfl, ?_⟩ ?_ j04⟩⟩) (fun xs H1 h => ?_) (fun xs H1 h x hx H' R s3 r => ?_) (fun xs H1 h D H8 s8 d8 => ?_)
          · exact j0j hp9 _ _ j04
          · exact (j0j hq0).trans (j0j hp9)
          · obtain ⟨q0, rfl, _⟩ := h
            show 4 < sizeLine
            decide
          · obtain ⟨q0, rfl, e0⟩ := h
            simp only [List.mem_cons, List.not_mem_nil, or_false] at hx
            refine ⟨_, rfl, x, rfl, .inr ?_, fun H4 s4 => r _ s4⟩
            rcases hx with rfl | rfl | rfl | rfl
            · exact ⟨_, .non, rfl⟩
            · exact ⟨_, .int 5, rfl⟩
            · exact ⟨_, .lst (s3 _ _ e0), rfl⟩
            · exact ⟨_, .bl true, rfl⟩
          · rw [all_t] at d8
            refine ⟨D, xs.map fun _ => true, rfl, SqL.of d8, ?_⟩
            rw [all_tt]
            exact ret _
    · obtain ⟨n, hn, rfl⟩ := List.mem_map.mp hx
      cases h1
end
end My
end
noncomputable section
namespace My
open PySem L2 L3
theorem len0 {α : Type} {p : List α → Prop} (h : p []) : ∀ l : List α, l.length = 0 → p l
  | [], _ => h
theorem len1 {α : Type} {p : List α → Prop} (h : ∀ a, p [a]) : ∀ l : List α, l.length = 1 → p l
  | [a], _ => h a
theorem len2 {α : Type} {p : List α → Prop} (h : ∀ a b, p [a, b]) : ∀ l : List α, l.length = 2 → p l
  | [a, b], _ => h a b
theorem len3 {α : Type} {p : List α → Prop} (h : ∀ a b c, p [a, b, c]) : ∀ l : List α, l.length = 3 → p l
  | [a, b, c], _ => h a b c
theorem all_mk {l : PySem.W.OpenLaw} {w : World} {K : PySem.W.Frag} {h : Heap} {mg : Str → Option Value} {fa C CS CA CG CR CU : Addr} {tBOUND tLONGEST tFIGURES : Tok} (X : K.In h) (G : h.Ns mainGlobals mg) (hfa : mg "law" = some (.ref fa))
    (aC : PySem.W.nsIn K mainGlobals "BadText" = some (some (.ref C)))
    (aCS : PySem.W.nsIn K mainGlobals "ShareError" = some (some (.ref CS)))
    (aCA : PySem.W.nsIn K mainGlobals "BadAmount" = some (some (.ref CA)))
    (aCG : PySem.W.nsIn K mainGlobals "BadGifts" = some (some (.ref CG)))
    (aCR : PySem.W.nsIn K mainGlobals "BadRow" = some (some (.ref CR)))
    (aCU : PySem.W.nsIn K mainGlobals "Unlike" = some (some (.ref CU)))
    (zVE : PySem.W.nsIn K mainGlobals "ValueError" = some none)
    (x1 : PySem.W.excIn K C VEb "ValueError.__new__" = true)
    (x2 : PySem.W.findIn K (.ref C) "__getattribute__" = some (some (.builtin "BaseException.__getattribute__")))
    (x3 : PySem.W.findIn K (.ref C) "__getattr__" = some none)
    (x4 : PySem.W.findObj K C none "__class__" = some (.bind (.builtin "getset_descriptor.__get__") (.builtin "object.__class__")))
    (x5 : PySem.W.mroIn K C (.type "object") = some true)
    (x6 : PySem.W.mroIn K C (.type "BaseException") = some true)
    (y1 : PySem.W.excIn K CS VEb "ValueError.__new__" = true)
    (y2 : PySem.W.mroIn K CS (.type "BaseException") = some true)
    (y3 : PySem.W.mroIn K C (.ref CS) = some true)
    (k0 : PySem.W.kitOne K (.ref C) (.ref CA) = some false)
    (k1 : PySem.W.kitOne K (.ref C) (.ref CG) = some false)
    (k2 : PySem.W.kitOne K (.ref C) (.ref CR) = some false)
    (k3 : PySem.W.kitOne K (.ref C) (.ref CU) = some false)
    (k4 : PySem.W.kitOne K (.ref C) (.type "ValueError") = some true)
    (k5 : PySem.W.kitOne K (.ref C) (.ref C) = some true)
    (tis_whole : TopF K "is_whole" "is_whole" s_whole)
    (tis_share : TopF K "is_share" "is_share" s_share)
    (tcheck_row : TopF K "check_row" "check_row" s_ckrow)
    (twritten : TopF K "written" "written" s_written)
    (tis_number : TopF K "is_number" "is_number" s_isnum)
    (tread_share : TopF K "read_share" "read_share" s_rshare)
    (tread : TopF K "read" "read" s_read)
    (t_law_cell_at : TopF K "_law_cell_at" "_law_cell_at" s_cell)
    (t_law_draw : TopF K "_law_draw" "_law_draw" s_draw)
    (t_law_row : TopF K "_law_row" "_law_row" s_row)
    (t_law_number : TopF K "_law_number" "_law_number" s_lnum)
    (t_law_in : TopF K "_law_in" "_law_in" s_lin)
    (t_law_refused : TopF K "_law_refused" "_law_refused" s_lref)
    (t_law_right : TopF K "_law_right" "_law_right" s_lright)
    (t_law_few : TopF K "_law_few" "_law_few" s_lfew)
    (tlaw : TopF K "law" "law" s_law)
    (zzip : PySem.W.nsIn K mainGlobals "zip" = some none)
    (z0 : PySem.W.nsIn K mainGlobals "len" = some none)
    (z1 : PySem.W.nsIn K mainGlobals "range" = some none)
    (z2 : PySem.W.nsIn K mainGlobals "list" = some none)
    (z3 : PySem.W.nsIn K mainGlobals "tuple" = some none)
    (z4 : PySem.W.nsIn K mainGlobals "int" = some none)
    (z5 : PySem.W.nsIn K mainGlobals "bool" = some none)
    (z6 : PySem.W.nsIn K mainGlobals "str" = some none)
    (z7 : PySem.W.nsIn K mainGlobals "isinstance" = some none)
    (z8 : PySem.W.nsIn K mainGlobals "sum" = some none)
    (z9 : PySem.W.nsIn K mainGlobals "sorted" = some none)
    (z10 : PySem.W.nsIn K mainGlobals "any" = some none)
    (z11 : PySem.W.nsIn K mainGlobals "all" = some none)
    (z12 : PySem.W.nsIn K mainGlobals "abs" = some none)
    (z13 : PySem.W.nsIn K mainGlobals "max" = some none)
    (z14 : PySem.W.nsIn K mainGlobals "min" = some none)
    (aBOUND : PySem.W.nsIn K mainGlobals "BOUND" = some (some (.int 1000000 tBOUND)))
    (aLONGEST : PySem.W.nsIn K mainGlobals "LONGEST" = some (some (.int 8 tLONGEST)))
    (aFIGURES : PySem.W.nsIn K mainGlobals "FIGURES" = some (some (.str "0123456789" tFIGURES)))
    :
    ∃ fd : FuncData, (∀ (s : Shared) (v : Value), BindsTo s fd ⟨[v], []⟩ [("_law_script", v)]) ∧ ∀ base : Heap, K.In base → base.Ns mainGlobals mg → FnOk l.prog w K mg base CX0 7 fa fd ["_law_script"] (spLaw K) := by
  obtain ⟨f, fd, a, F⟩ := tlaw.ex
  have e := hfa.symm.trans (PySem.W.mg_of X G a)
  cases e
  have B : Bl mg := Bl.of X G z0 z1 z2 z3 z4 z5 z6 z7 z8 z9 z10 z11 z12 z13 z14
  have hzip := PySem.W.mg_none_of X G zzip
  have gBOUND := PySem.W.mg_of X G aBOUND
  have gLONGEST := PySem.W.mg_of X G aLONGEST
  have gFIGURES := PySem.W.mg_of X G aFIGURES
  refine ⟨fd, fun s v => ?_, fun base kb nb => ok_law  F ?_⟩
  · obtain ⟨oc, od, kV, doc, pm, an, cdv, ct, osl, rfl, lk, hcd⟩ := F.ex
    exact .of_eq rfl
  have er : Er K mg C CS CA CG CR CU := ⟨PySem.W.mg_of X G aC, PySem.W.mg_of X G aCS, PySem.W.mg_of X G aCA, PySem.W.mg_of X G aCG, PySem.W.mg_of X G aCR, PySem.W.mg_of X G aCU, PySem.W.mg_none_of X G zVE, ⟨x1, x2, x3, x4, x5, x6⟩, y1, y2, y3, k0, k1, k2, k3, k4, k5⟩
  have c_is_whole := Ok.of (P := l.prog) (w := w) (base := base) (ps := ["value"]) tis_whole X G (fun _ _ _ _ _ _ => len1 fun _  => rfl) fun f fd F => ok_whole F B
  have c_is_share := Ok.of (P := l.prog) (w := w) (base := base) (ps := ["value"]) tis_share X G (fun _ _ _ _ _ _ => len1 fun _  => rfl) fun f fd F => ok_share F gBOUND c_is_whole
  have c_check_row := Ok.of (P := l.prog) (w := w) (base := base) (ps := ["row"]) tcheck_row X G (fun _ _ _ _ _ _ => len1 fun _  => rfl) fun f fd F => ok_ckrow F B c_is_share
  have c_written := Ok.of (P := l.prog) (w := w) (base := base) (ps := ["row"]) twritten X G (fun _ _ _ _ _ _ => len1 fun _  => rfl) fun f fd F => j56 F B c_check_row
  have c_is_number := Ok.of (P := l.prog) (w := w) (base := base) (ps := ["word"]) tis_number X G (fun _ _ _ _ _ _ => len1 fun _  => rfl) fun f fd F => ok_isnum F B gLONGEST gFIGURES
  have c_read_share := OkX.of (C := C) (P := l.prog) (w := w) (base := base) (ps := ["word"]) tread_share X G (fun _ _ _ _ _ _ => len1 fun _  => rfl) fun f fd F => j72 F B er.Z er.gBadText c_is_number c_is_share
  have c_read := OkX.of (C := C) (P := l.prog) (w := w) (base := base) (ps := ["text"]) tread X G (fun _ _ _ _ _ _ => len1 fun _  => rfl) fun f fd F => ok_read F B er.Z er.gBadText c_read_share
  have c_cell_at := Ok.of (P := l.prog) (w := w) (base := base) (ps := ["_law_script", "_law_k"]) t_law_cell_at X G (fun _ _ _ _ _ _ => len2 fun _ _  => rfl) fun f fd F => ok_cell F B
  have c_draw := Ok.of (P := l.prog) (w := w) (base := base) (ps := ["_law_cell", "_law_k", "_law_many"]) t_law_draw X G (fun _ _ _ _ _ _ => len3 fun _ _ _  => rfl) fun f fd F => ok_draw F B
  have c_row := Ok.of (P := l.prog) (w := w) (base := base) (ps := ["_law_script"]) t_law_row X G (fun _ _ _ _ _ _ => len1 fun _  => rfl) fun f fd F => ok_row F B c_cell_at c_draw
  have c_number := Ok.of (P := l.prog) (w := w) (base := base) (ps := ["_law_text"]) t_law_number X G (fun _ _ _ _ _ _ => len1 fun _  => rfl) fun f fd F => ok_lnum F B
  have c_in := Ok.of (P := l.prog) (w := w) (base := base) (ps := ["_law_text"]) t_law_in X G (fun _ _ _ _ _ _ => len1 fun _  => rfl) fun f fd F => ok_lin F B c_number
  have c_refused := Ok.of (P := l.prog) (w := w) (base := base) (ps := ["_law_text"]) t_law_refused X G (fun _ _ _ _ _ _ => len1 fun _  => rfl) fun f fd F => ok_lref F B er c_read
  have c_right := Ok.of (P := l.prog) (w := w) (base := base) (ps := ["_law_text"]) t_law_right X G (fun _ _ _ _ _ _ => len1 fun _  => rfl) fun f fd F => j76 F B c_in c_refused c_read c_written
  have c_few := Ok.of (P := l.prog) (w := w) (base := base) (ps := []) t_law_few X G (fun _ _ _ _ _ _ => len0 rfl) fun f fd F => ok_lfew F B
  exact ⟨B, c_cell_at, c_draw, c_row, c_written, c_right, c_refused, c_few⟩
theorem walk {l : PySem.W.OpenLaw} {q : Program} {loose : List Str} {XP : (Str → Option Value) → Heap → Prop} {YP : World → Heap → Prop} {d : DefRec} {K : Params → PySem.W.Frag} (hn : l.most = some 63) (hdf : d.params.defaults = [])
    (hY : ∀ (w : World) (h : Heap), YP w h → (K w.params).In h)
    (F : ∀ (w : World) (mg : Str → Option Value) (fa : Addr) (h : Heap), (K w.params).In h → h.Ns mainGlobals mg → mg d.name = some (.ref fa) →
      ∃ fd : FuncData, (∀ (s : Shared) (u : Value), BindsTo s fd ⟨[u], []⟩ [("_law_script", u)]) ∧ ∀ base : Heap, (K w.params).In base → base.Ns mainGlobals mg → FnOk l.prog w (K w.params) mg base CX0 7 fa fd ["_law_script"] (spLaw (K w.params))) :
    PySem.W.WalkO q loose XP YP l.row.toRowW d [] (fun f vs => PySem.call f vs) :=
  j5y (n := 63) (k := 7) (x := "_law_script") (CX := fun _ => CX0) (sp := fun w => spLaw (K w.params)) hn (by decide) hdf ⟨rfl, by decide, by decide⟩ hY F (fun _ _ a ns hl _ hS => ⟨a, ns, rfl, hS, hl, fun _ => rfl⟩) fun _ _ _ _ _ z => z
end My
end
noncomputable section
open PySem PySem.W PyProof.Rows
set_option maxRecDepth 100000 in
set_option maxHeartbeats 0 in
theorem PySem.Challenge.cw_evenhand_k06_written_holds : PySem.Challenge.rw_evenhand_k06_written.Holds := by
  w_on; o_law; k_head; (case hw => w_witness2)
  k_fill
  refine My.walk (l := PySem.Challenge.rw_evenhand_k06_written) rfl rfl (fun w h Y => PySem.W.kIn_of Y) ?hF1
  case hF1 =>
    intro w mg fa h KX G hmg
    refine' My.all_mk KX G hmg ?aC ?aCS ?aCA ?aCG ?aCR ?aCU ?zVE ?x1 ?x2 ?x3 ?x4 ?x5 ?x6 ?y1 ?y2 ?y3 ?k0 ?k1 ?k2 ?k3 ?k4 ?k5 ?tis_whole ?tis_share ?tcheck_row ?twritten ?tis_number ?tread_share ?tread ?t_law_cell_at ?t_law_draw ?t_law_row ?t_law_number ?t_law_in ?t_law_refused ?t_law_right ?t_law_few ?tlaw ?zzip ?z0 ?z1 ?z2 ?z3 ?z4 ?z5 ?z6 ?z7 ?z8 ?z9 ?z10 ?z11 ?z12 ?z13 ?z14 ?aBOUND ?aLONGEST ?aFIGURES
    (case aC => k_is)
    (case aCS => k_is)
    (case aCA => k_is)
    (case aCG => k_is)
    (case aCR => k_is)
    (case aCU => k_is)
    (case zVE => k_is)
    (case x1 => (first | k_is | kernel_rfl))
    (case x2 => (first | k_is | kernel_rfl))
    (case x3 => (first | k_is | kernel_rfl))
    (case x4 => (first | k_is | kernel_rfl))
    (case x5 => (first | k_is | kernel_rfl))
    (case x6 => (first | k_is | kernel_rfl))
    (case y1 => (first | k_is | kernel_rfl))
    (case y2 => (first | k_is | kernel_rfl))
    (case y3 => (first | k_is | kernel_rfl))
    (case k0 => kernel_rfl)
    (case k1 => kernel_rfl)
    (case k2 => kernel_rfl)
    (case k3 => kernel_rfl)
    (case k4 => kernel_rfl)
    (case k5 => kernel_rfl)
    (case tis_whole => (refine' L3.j0i ?p1 ?p2 ?p3 ?p4; (case p1 => k_is); (case p2 => k_is); (case p3 => k_is); (case p4 => k_is)))
    (case tis_share => (refine' L3.j0i ?p1 ?p2 ?p3 ?p4; (case p1 => k_is); (case p2 => k_is); (case p3 => k_is); (case p4 => k_is)))
    (case tcheck_row => (refine' L3.j0i ?p1 ?p2 ?p3 ?p4; (case p1 => k_is); (case p2 => k_is); (case p3 => k_is); (case p4 => k_is)))
    (case twritten => (refine' L3.j0i ?p1 ?p2 ?p3 ?p4; (case p1 => k_is); (case p2 => k_is); (case p3 => k_is); (case p4 => k_is)))
    (case tis_number => (refine' L3.j0i ?p1 ?p2 ?p3 ?p4; (case p1 => k_is); (case p2 => k_is); (case p3 => k_is); (case p4 => k_is)))
    (case tread_share => (refine' L3.j0i ?p1 ?p2 ?p3 ?p4; (case p1 => k_is); (case p2 => k_is); (case p3 => k_is); (case p4 => k_is)))
    (case tread => (refine' L3.j0i ?p1 ?p2 ?p3 ?p4; (case p1 => k_is); (case p2 => k_is); (case p3 => k_is); (case p4 => k_is)))
    (case t_law_cell_at => (refine' L3.j0i ?p1 ?p2 ?p3 ?p4; (case p1 => k_is); (case p2 => k_is); (case p3 => k_is); (case p4 => k_is)))
    (case t_law_draw => (refine' L3.j0i ?p1 ?p2 ?p3 ?p4; (case p1 => k_is); (case p2 => k_is); (case p3 => k_is); (case p4 => k_is)))
    (case t_law_row => (refine' L3.j0i ?p1 ?p2 ?p3 ?p4; (case p1 => k_is); (case p2 => k_is); (case p3 => k_is); (case p4 => k_is)))
    (case t_law_number => (refine' L3.j0i ?p1 ?p2 ?p3 ?p4; (case p1 => k_is); (case p2 => k_is); (case p3 => k_is); (case p4 => k_is)))
    (case t_law_in => (refine' L3.j0i ?p1 ?p2 ?p3 ?p4; (case p1 => k_is); (case p2 => k_is); (case p3 => k_is); (case p4 => k_is)))
    (case t_law_refused => (refine' L3.j0i ?p1 ?p2 ?p3 ?p4; (case p1 => k_is); (case p2 => k_is); (case p3 => k_is); (case p4 => k_is)))
    (case t_law_right => (refine' L3.j0i ?p1 ?p2 ?p3 ?p4; (case p1 => k_is); (case p2 => k_is); (case p3 => k_is); (case p4 => k_is)))
    (case t_law_few => (refine' L3.j0i ?p1 ?p2 ?p3 ?p4; (case p1 => k_is); (case p2 => k_is); (case p3 => k_is); (case p4 => k_is)))
    (case tlaw => (refine' L3.j0i ?p1 ?p2 ?p3 ?p4; (case p1 => k_is); (case p2 => k_is); (case p3 => k_is); (case p4 => k_is)))
    (case zzip => k_is)
    (case z0 => k_is)
    (case z1 => k_is)
    (case z2 => k_is)
    (case z3 => k_is)
    (case z4 => k_is)
    (case z5 => k_is)
    (case z6 => k_is)
    (case z7 => k_is)
    (case z8 => k_is)
    (case z9 => k_is)
    (case z10 => k_is)
    (case z11 => k_is)
    (case z12 => k_is)
    (case z13 => k_is)
    (case z14 => k_is)
    (case aBOUND => k_is)
    (case aLONGEST => k_is)
    (case aFIGURES => k_is)
end

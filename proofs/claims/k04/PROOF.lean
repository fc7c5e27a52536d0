import PyProof.Rows.All
import Wide.All
import OpenK.AllK
import Wide.FinOn
import Lean
import PyProof.EqAt
import PyProof.EqKinds
import PyProof.TupleCall
import PyProof.Rows.SortRuns
import PyProof.Rows.SortRev
import PyProof.NeKinds
import KE.KLam
import KE.KSortKey
import PyProof.ListRange
import PyProof.ZipIter
import PyProof.Rows.ZipGen
import PyProof.Rows.FactsT2
import PySem.SetOps
import PyProof.SetKind
import PyProof.DictStraight
import PyProof.Rows.TupIn
import PyProof.CollectWalk
import PyProof.MakeMany
import PyProof.FactsAll.set_1
import PyProof.FactsAll.set_2
import PyProof.CollectIter
import PyProof.Rows.SetFrom
import PySem.Challenge.RW_evenhand_k04_sums_and_marks
set_option maxRecDepth 100000
set_option Elab.async false
set_option linter.all false
set_option maxHeartbeats 0
noncomputable section
namespace Om
inductive N | v (i : Nat) | k (n : Nat) | a (x y : N) | m (n : Nat) (x : N) | r (x : N) (n : Nat)
inductive Z | v (i : Nat) | k (n : Nat) | a (x y : Z) | s (x y : Z) | o (x : Z) | m (n : Nat) (x : Z) | r (x : Z) (n : Nat) | c (x : N)
inductive F | le (x y : N) | lt (x y : N) | eq (x y : N) | il (x y : Z) | it (x y : Z) | ie (x y : Z) | an (f g : F) | nt (f : F) | ff
noncomputable def pick {α : Type} (d : α) : List α → Nat → α
  | [], _ => d
  | x :: _, 0 => x
  | _ :: l, i + 1 => pick d l i
noncomputable def N.d (c : List Nat) : N → Nat
  | .v i => pick 0 c i
  | .k n => n
  | .a x y => x.d c + y.d c
  | .m n x => n * x.d c
  | .r x n => x.d c * n
noncomputable def Z.d (c : List Nat) (z : List Int) : Z → Int
  | .v i => pick 0 z i
  | .k n => (n : Int)
  | .a x y => x.d c z + y.d c z
  | .s x y => x.d c z - y.d c z
  | .o x => -x.d c z
  | .m n x => (n : Int) * x.d c z
  | .r x n => x.d c z * (n : Int)
  | .c x => (x.d c : Int)
noncomputable def F.d (c : List Nat) (z : List Int) : F → Prop
  | .le x y => x.d c ≤ y.d c
  | .lt x y => x.d c < y.d c
  | .eq x y => x.d c = y.d c
  | .il x y => x.d c z ≤ y.d c z
  | .it x y => x.d c z < y.d c z
  | .ie x y => x.d c z = y.d c z
  | .an f g => f.d c z ∧ g.d c z
  | .nt f => ¬ f.d c z
  | .ff => False
structure L where
  c : Int
  n : List Int
  z : List Int
noncomputable def addv : List Int → List Int → List Int
  | [], l => l
  | x :: xs, [] => x :: xs
  | x :: xs, y :: ys => (x + y) :: addv xs ys
noncomputable def mulv (k : Int) : List Int → List Int
  | [] => []
  | x :: xs => (k * x) :: mulv k xs
noncomputable def unit : Nat → List Int
  | 0 => [1]
  | i + 1 => 0 :: unit i
noncomputable def dot : List Int → List Int → Int
  | [], _ => 0
  | _ :: _, [] => 0
  | x :: xs, y :: ys => x * y + dot xs ys
noncomputable def j8g : List Nat → List Int
  | [] => []
  | x :: xs => (x : Int) :: j8g xs
noncomputable def L.add (a b : L) : L := ⟨a.c + b.c, addv a.n b.n, addv a.z b.z⟩
noncomputable def L.mul (k : Int) (a : L) : L := ⟨k * a.c, mulv k a.n, mulv k a.z⟩
noncomputable def L.sub (a b : L) : L := a.add (b.mul (-1))
noncomputable def L.dec (a : L) : L := ⟨a.c - 1, a.n, a.z⟩
noncomputable def L.e (c : List Nat) (z : List Int) (l : L) : Int := l.c + dot l.n (j8g c) + dot l.z z
noncomputable def N.l : N → L
  | .v i => ⟨0, unit i, []⟩
  | .k n => ⟨n, [], []⟩
  | .a x y => x.l.add y.l
  | .m n x => x.l.mul n
  | .r x n => x.l.mul n
noncomputable def Z.l : Z → L
  | .v i => ⟨0, [], unit i⟩
  | .k n => ⟨n, [], []⟩
  | .a x y => x.l.add y.l
  | .s x y => x.l.sub y.l
  | .o x => x.l.mul (-1)
  | .m n x => x.l.mul n
  | .r x n => x.l.mul n
  | .c x => x.l
theorem j7j : ∀ (a b xs : List Int), dot (addv a b) xs = dot a xs + dot b xs
  | [], b, xs => by simp [addv, dot]
  | x :: a, [], xs => by cases xs <;> simp [addv, dot]
  | x :: a, y :: b, [] => by simp [addv, dot]
  | x :: a, y :: b, z :: xs => by simp only [addv, dot, j7j a b xs, Int.add_mul]; omega
theorem j7k (k : Int) : ∀ (a xs : List Int), dot (mulv k a) xs = k * dot a xs
  | [], xs => by simp [mulv, dot]
  | x :: a, [] => by simp [mulv, dot]
  | x :: a, y :: xs => by simp only [mulv, dot, j7k k a xs, Int.mul_add, Int.mul_assoc]
theorem j4z : ∀ (i : Nat) (xs : List Int), dot (unit i) xs = pick 0 xs i
  | 0, [] => rfl
  | 0, x :: xs => by simp [unit, dot, pick]
  | i + 1, [] => rfl
  | i + 1, x :: xs => by simp only [unit, dot, pick, j4z i xs]; omega
theorem j4p : ∀ (c : List Nat) (i : Nat), pick 0 (j8g c) i = ((pick 0 c i : Nat) : Int)
  | [], i => rfl
  | x :: c, 0 => rfl
  | x :: c, i + 1 => j4p c i
section
variable {c : List Nat} {z : List Int}
theorem L.e_add (a b : L) : (a.add b).e c z = a.e c z + b.e c z := by simp only [L.e, L.add, j7j]; omega
theorem L.e_mul (k : Int) (a : L) : (a.mul k).e c z = k * a.e c z := by simp only [L.e, L.mul, j7k, Int.mul_add]
theorem L.e_sub (a b : L) : (a.sub b).e c z = a.e c z - b.e c z := by rw [L.sub, L.e_add, L.e_mul]; omega
theorem L.e_dec (a : L) : a.dec.e c z = a.e c z - 1 := by simp only [L.e, L.dec]; omega
theorem N.l_e (x : N) : x.l.e c z = (x.d c : Int) := by
  induction x with
  | v i => simp only [N.l, L.e, N.d, j4z, j4p, dot]; omega
  | k n => simp only [N.l, L.e, N.d, dot]; omega
  | a x y hx hy => rw [N.l, L.e_add, hx, hy]; rfl
  | m n x hx => rw [N.l, L.e_mul, hx]; rfl
  | r x n hx => rw [N.l, L.e_mul, hx, Int.mul_comm]; rfl
theorem Z.l_e (x : Z) : x.l.e c z = x.d c z := by
  induction x with
  | v i => simp only [Z.l, L.e, Z.d, j4z, dot]; omega
  | k n => simp only [Z.l, L.e, Z.d, dot]; omega
  | a x y hx hy => rw [Z.l, L.e_add, hx, hy]; rfl
  | s x y hx hy => rw [Z.l, L.e_sub, hx, hy]; rfl
  | o x hx => rw [Z.l, L.e_mul, hx, Z.d]; omega
  | m n x hx => rw [Z.l, L.e_mul, hx]; rfl
  | r x n hx => rw [Z.l, L.e_mul, hx, Int.mul_comm]; rfl
  | c x => rw [Z.l, N.l_e]; rfl
noncomputable def F.pos : F → List L
  | .le x y => [y.l.sub x.l]
  | .lt x y => [(y.l.sub x.l).dec]
  | .eq x y => [y.l.sub x.l, x.l.sub y.l]
  | .il x y => [y.l.sub x.l]
  | .it x y => [(y.l.sub x.l).dec]
  | .ie x y => [y.l.sub x.l, x.l.sub y.l]
  | .an f g => f.pos ++ g.pos
  | .nt (.le x y) => [(x.l.sub y.l).dec]
  | .nt (.lt x y) => [x.l.sub y.l]
  | .nt (.il x y) => [(x.l.sub y.l).dec]
  | .nt (.it x y) => [x.l.sub y.l]
  | .nt _ => []
  | .ff => [⟨-1, [], []⟩]
noncomputable def F.neg : F → List (List L)
  | .le x y => [[(x.l.sub y.l).dec]]
  | .lt x y => [[x.l.sub y.l]]
  | .eq x y => [[(x.l.sub y.l).dec], [(y.l.sub x.l).dec]]
  | .il x y => [[(x.l.sub y.l).dec]]
  | .it x y => [[x.l.sub y.l]]
  | .ie x y => [[(x.l.sub y.l).dec], [(y.l.sub x.l).dec]]
  | .an f g => f.neg ++ g.neg
  | .nt f => [f.pos]
  | .ff => [[]]
noncomputable def Al (c : List Nat) (z : List Int) (ls : List L) : Prop := ∀ l ∈ ls, 0 ≤ l.e c z
theorem Al.nil : Al c z [] := fun _ h => nomatch h
theorem Al.one {l : L} (h : 0 ≤ l.e c z) : Al c z [l] := fun x hx => by cases hx with | head => exact h | tail _ q => cases q
theorem Al.two {l m : L} (h : 0 ≤ l.e c z) (k : 0 ≤ m.e c z) : Al c z [l, m] := fun x hx => by
  cases hx with
  | head => exact h
  | tail _ q => exact Al.one k x q
theorem Al.app {a b : List L} (h : Al c z a) (k : Al c z b) : Al c z (a ++ b) := fun x hx => (List.mem_append.mp hx).elim (h x) (k x)
theorem F.pos_ok (f : F) (h : f.d c z) : Al c z f.pos := by
  induction f with
  | le x y => exact .one (by have h' : x.d c ≤ y.d c := h; rw [L.e_sub, N.l_e, N.l_e]; omega)
  | lt x y => exact .one (by have h' : x.d c < y.d c := h; rw [L.e_dec, L.e_sub, N.l_e, N.l_e]; omega)
  | eq x y => have h' : x.d c = y.d c := h; exact .two (by rw [L.e_sub, N.l_e, N.l_e]; omega) (by rw [L.e_sub, N.l_e, N.l_e]; omega)
  | il x y => exact .one (by have h' : x.d c z ≤ y.d c z := h; rw [L.e_sub, Z.l_e, Z.l_e]; omega)
  | it x y => exact .one (by have h' : x.d c z < y.d c z := h; rw [L.e_dec, L.e_sub, Z.l_e, Z.l_e]; omega)
  | ie x y => have h' : x.d c z = y.d c z := h; exact .two (by rw [L.e_sub, Z.l_e, Z.l_e]; omega) (by rw [L.e_sub, Z.l_e, Z.l_e]; omega)
  | an f g hf hg => exact (hf h.1).app (hg h.2)
  | nt f _ => cases f with
    | le x y => exact .one (by have h' : ¬ x.d c ≤ y.d c := h; rw [L.e_dec, L.e_sub, N.l_e, N.l_e]; omega)
    | lt x y => exact .one (by have h' : ¬ x.d c < y.d c := h; rw [L.e_sub, N.l_e, N.l_e]; omega)
    | il x y => exact .one (by have h' : ¬ x.d c z ≤ y.d c z := h; rw [L.e_dec, L.e_sub, Z.l_e, Z.l_e]; omega)
    | it x y => exact .one (by have h' : ¬ x.d c z < y.d c z := h; rw [L.e_sub, Z.l_e, Z.l_e]; omega)
    | _ => exact .nil
  | ff => exact nomatch h
noncomputable def Ex (c : List Nat) (z : List Int) (ls : List (List L)) : Prop := ∃ l ∈ ls, Al c z l
theorem Ex.one {l : List L} (h : Al c z l) : Ex c z [l] := ⟨l, .head _, h⟩
theorem F.neg_ok (f : F) (h : ¬ f.d c z) : Ex c z f.neg := by
  induction f with
  | le x y => exact .one (.one (by have h' : ¬ x.d c ≤ y.d c := h; rw [L.e_dec, L.e_sub, N.l_e, N.l_e]; omega))
  | lt x y => exact .one (.one (by have h' : ¬ x.d c < y.d c := h; rw [L.e_sub, N.l_e, N.l_e]; omega))
  | eq x y =>
    have h' : ¬ x.d c = y.d c := h
    by_cases q : x.d c < y.d c
    · exact ⟨_, .tail _ (.head _), .one (by rw [L.e_dec, L.e_sub, N.l_e, N.l_e]; omega)⟩
    exact ⟨_, .head _, .one (by rw [L.e_dec, L.e_sub, N.l_e, N.l_e]; omega)⟩
  | il x y => exact .one (.one (by have h' : ¬ x.d c z ≤ y.d c z := h; rw [L.e_dec, L.e_sub, Z.l_e, Z.l_e]; omega))
  | it x y => exact .one (.one (by have h' : ¬ x.d c z < y.d c z := h; rw [L.e_sub, Z.l_e, Z.l_e]; omega))
  | ie x y =>
    have h' : ¬ x.d c z = y.d c z := h
    by_cases q : x.d c z < y.d c z
    · exact ⟨_, .tail _ (.head _), .one (by rw [L.e_dec, L.e_sub, Z.l_e, Z.l_e]; omega)⟩
    exact ⟨_, .head _, .one (by rw [L.e_dec, L.e_sub, Z.l_e, Z.l_e]; omega)⟩
  | an f g hf hg =>
    by_cases q : f.d c z
    · obtain ⟨l, hl, a⟩ := hg fun k => h ⟨q, k⟩
      exact ⟨l, List.mem_append.mpr (.inr hl), a⟩
    obtain ⟨l, hl, a⟩ := hf q
    exact ⟨l, List.mem_append.mpr (.inl hl), a⟩
  | nt f _ => exact .one (f.pos_ok (Classical.not_not.mp h))
  | ff => exact .one .nil
noncomputable def comb : List Nat → List L → L
  | [], _ => ⟨0, [], []⟩
  | _ :: _, [] => ⟨0, [], []⟩
  | k :: ks, l :: ls => (l.mul k).add (comb ks ls)
theorem j99 : ∀ (ks : List Nat) (ls : List L), Al c z ls → 0 ≤ (comb ks ls).e c z
  | [], _, _ => Int.le_refl 0
  | _ :: _, [], _ => Int.le_refl 0
  | k :: ks, l :: ls, h => by
    rw [comb, L.e_add, L.e_mul]
    exact Int.add_nonneg (Int.mul_nonneg (Int.natCast_nonneg k) (h l (.head _))) (j99 ks ls fun x hx => h x (.tail _ hx))
noncomputable def noPos : List Int → Bool
  | [] => true
  | x :: xs => decide (x ≤ 0) && noPos xs
noncomputable def nul : List Int → Bool
  | [] => true
  | x :: xs => decide (x = 0) && nul xs
noncomputable def L.bad (l : L) : Bool := decide (l.c < 0) && (noPos l.n && nul l.z)
theorem j7l : ∀ (a : List Int) (c : List Nat), noPos a = true → dot a (j8g c) ≤ 0
  | [], _, _ => Int.le_refl 0
  | _ :: _, [], _ => Int.le_refl 0
  | x :: a, y :: c, h => by
    have h' := Bool.and_eq_true_iff.mp h
    have h1 := of_decide_eq_true h'.1
    have h2 := j7l a c h'.2
    have h3 : x * (y : Int) ≤ 0 := Int.mul_nonpos_of_nonpos_of_nonneg h1 (Int.natCast_nonneg y)
    show x * (y : Int) + dot a (j8g c) ≤ 0
    omega
theorem nul_ok : ∀ (a xs : List Int), nul a = true → dot a xs = 0
  | [], _, _ => rfl
  | _ :: _, [], _ => rfl
  | x :: a, y :: xs, h => by
    have h' := Bool.and_eq_true_iff.mp h
    have h1 : x = 0 := of_decide_eq_true h'.1
    show x * y + dot a xs = 0
    rw [h1, nul_ok a xs h'.2, Int.zero_mul]; rfl
theorem L.bad_ok (l : L) (h : l.bad = true) : l.e c z < 0 := by
  have h' := Bool.and_eq_true_iff.mp h
  have h2 := Bool.and_eq_true_iff.mp h'.2
  have h1 := of_decide_eq_true h'.1
  have h3 := j7l l.n c h2.1
  have h4 := nul_ok l.z z h2.2
  show l.c + dot l.n (j8g c) + dot l.z z < 0
  omega
noncomputable def chk (fs : List L) : List (List L) → List (List Nat) → Bool
  | [], _ => true
  | _ :: _, [] => false
  | cl :: cls, k :: ks => (comb k (cl ++ fs)).bad && chk fs cls ks
theorem chk_ok {fs : List L} (hf : Al c z fs) : ∀ (cls : List (List L)) (ks : List (List Nat)), chk fs cls ks = true → ¬ Ex c z cls
  | [], _, _, ⟨_, h, _⟩ => nomatch h
  | cl :: cls, k :: ks, h, ⟨l, hl, a⟩ => by
    have h' := Bool.and_eq_true_iff.mp h
    cases hl with
    | head => exact absurd (j99 k _ (a.app hf)) (Int.not_le.mpr (L.bad_ok _ h'.1))
    | tail _ hl => exact chk_ok hf cls ks h'.2 ⟨l, hl, a⟩
noncomputable def lall : List F → List L
  | [] => []
  | f :: fs => f.pos ++ lall fs
noncomputable def Imp (c : List Nat) (z : List Int) (g : F) : List F → Prop
  | [] => g.d c z
  | f :: fs => f.d c z → Imp c z g fs
theorem imp_of {g : F} : ∀ fs : List F, (Al c z (lall fs) → g.d c z) → Imp c z g fs
  | [], h => h .nil
  | f :: fs, h => fun hf => imp_of fs fun k => h ((f.pos_ok hf).app k)
end
theorem lin (c : List Nat) (z : List Int) (fs : List F) (g : F) (ks : List (List Nat)) (h : chk (lall fs) g.neg ks = true) : Imp c z g fs :=
  imp_of fs fun k => Classical.byContradiction fun q => chk_ok k _ ks h (g.neg_ok q)
end Om
end
noncomputable section
namespace Om
theorem j03 {x y : Nat} (h : y ≤ x) : x - y + y = x := Nat.sub_add_cancel h
theorem j0b {x y : Nat} (h : x ≤ y) : x - y = 0 := Nat.sub_eq_zero_of_le h
theorem j1r (x y : Nat) : x - y ≤ x := Nat.sub_le x y
theorem j5m (x y : Nat) : x ≤ x - y + y := by omega
theorem j2e (x k : Nat) : k * (x / k) ≤ x := Nat.mul_div_le x k
theorem j7m (x : Nat) {k : Nat} (h : 0 < k) : x < k * (x / k) + k := Nat.lt_mul_div_succ x h
theorem j9a (x : Int) {k : Int} (h : 0 < k) : k * (x / k) ≤ x := Int.mul_ediv_self_le (Int.ne_of_gt h)
theorem j6l (x : Int) {k : Int} (h : 0 < k) : x < k * (x / k) + k := Int.lt_mul_ediv_self_add h
theorem j14 {x : Int} (h : 0 ≤ x) : ((Int.toNat x : Nat) : Int) = x := Int.toNat_of_nonneg h
end Om
open Om
theorem ob9481 {zx zy : Int} (h0 : zx ≤ zy) : (0 : Int) ≤ zy - zx := lin [] [zx,zy] [.il (.v 0) (.v 1)] (.il (.k 0) (.s (.v 1) (.v 0))) [[1,1]] rfl h0
theorem oaf0d8 {a b c : Nat} (h0 : a = b) (h1 : a ≤ c) : b ≤ c := lin [a,b,c] [] [.eq (.v 0) (.v 1),.le (.v 0) (.v 2)] (.le (.v 1) (.v 2)) [[1,0,1,1]] rfl h0 h1
theorem o0bb0d {a b c : Nat} (h0 : a ≤ b) (h1 : c = a) : c ≤ b := lin [a,b,c] [] [.le (.v 0) (.v 1),.eq (.v 2) (.v 0)] (.le (.v 2) (.v 1)) [[1,1,1]] rfl h0 h1
theorem o8836e {a b c : Nat} (h0 : a ≤ b) (h1 : a = c) : c ≤ b := lin [a,b,c] [] [.le (.v 0) (.v 1),.eq (.v 0) (.v 2)] (.le (.v 2) (.v 1)) [[1,1,0,1]] rfl h0 h1
theorem o661b4 {a b : Nat} (h0 : a ≤ b) : (a : Int) - (b : Int) ≤ 0 := lin [a,b] [] [.le (.v 0) (.v 1)] (.il (.s (.c (.v 0)) (.c (.v 1))) (.k 0)) [[1,1]] rfl h0
theorem o586b3 {a b : Nat} (h0 : a < b) : b - (a + 1) < b - a := have L := lin [a,b,(b - (a + 1)),(b - a)] []; L [.eq (.a (.v 3) (.v 0)) (.v 1),.eq (.a (.v 2) (.a (.v 0) (.k 1))) (.v 1)] (.lt (.v 2) (.v 3)) [[1,0,1,1]] rfl (j03 (L [.lt (.v 0) (.v 1)] (.le (.v 0) (.v 1)) [[1,1]] rfl h0)) (j03 (L [.lt (.v 0) (.v 1)] (.le (.a (.v 0) (.k 1)) (.v 1)) [[1,1]] rfl h0))
theorem o4e44a {a b : Nat} (h0 : a ≤ b) (h1 : ¬(a < b)) : a = b := lin [a,b] [] [.le (.v 0) (.v 1),.nt (.lt (.v 0) (.v 1))] (.eq (.v 0) (.v 1)) [[1,1],[1,0,1]] rfl h0 h1
theorem o68af4 {zx : Int} (h0 : (0 : Int) < zx) : zx ≠ 0 := lin [] [zx] [.it (.k 0) (.v 0)] (.nt (.ie (.v 0) (.k 0))) [[1,0,1]] rfl h0
theorem o219b5 {zx : Int} (h0 : (0 : Int) < zx) : (0 : Int) ≤ zx := lin [] [zx] [.it (.k 0) (.v 0)] (.il (.k 0) (.v 0)) [[1,1]] rfl h0
theorem oe2561 {a b : Nat} (h0 : a = 16777216) (h1 : b ≤ a) : b ≤ 1099511627776 := lin [a,b] [] [.eq (.v 0) (.k 16777216),.le (.v 1) (.v 0)] (.le (.v 1) (.k 1099511627776)) [[1,1,0,1]] rfl h0 h1
theorem o43cf5 {a b : Nat} (h0 : a ≤ b) : a + 1 ≤ b + 1 := lin [a,b] [] [.le (.v 0) (.v 1)] (.le (.a (.v 0) (.k 1)) (.a (.v 1) (.k 1))) [[1,1]] rfl h0
theorem o80f77 {a : Nat} : a + 1 ≤ a + 1 + 1 := lin [a] [] [] (.le (.a (.v 0) (.k 1)) (.a (.a (.v 0) (.k 1)) (.k 1))) [[1]] rfl
theorem o928fd {a b : Nat} (h0 : a ≤ b + 1) : a + 1 ≤ b + 1 + 1 := lin [a,b] [] [.le (.v 0) (.a (.v 1) (.k 1))] (.le (.a (.v 0) (.k 1)) (.a (.a (.v 1) (.k 1)) (.k 1))) [[1,1]] rfl h0
theorem od13a2 {a : Nat} (h0 : a ≤ 1000) : a ≤ 16777216 := lin [a] [] [.le (.v 0) (.k 1000)] (.le (.v 0) (.k 16777216)) [[1,1]] rfl h0
theorem o82ee2 {a b : Nat} (h0 : a < 1000) (h1 : b ≤ a + 1) : b ≤ 1000 := lin [a,b] [] [.lt (.v 0) (.k 1000),.le (.v 1) (.a (.v 0) (.k 1))] (.le (.v 1) (.k 1000)) [[1,1,1]] rfl h0 h1
theorem oae48e {a b c d : Nat} (h0 : a ≤ b) (h1 : c + (3 * b) + 5 < d) : c + (3 * a) + 5 < d := lin [a,b,c,d] [] [.le (.v 0) (.v 1),.lt (.a (.a (.v 2) (.m 3 (.v 1))) (.k 5)) (.v 3)] (.lt (.a (.a (.v 2) (.m 3 (.v 0))) (.k 5)) (.v 3)) [[3,9,3]] rfl h0 h1
theorem oe9bd2 {a b c d : Nat} (h0 : a ≤ b) (h1 : c + (16 * b) + 200 < d) : c + (16 * a) + 200 < d := lin [a,b,c,d] [] [.le (.v 0) (.v 1),.lt (.a (.a (.v 2) (.m 16 (.v 1))) (.k 200)) (.v 3)] (.lt (.a (.a (.v 2) (.m 16 (.v 0))) (.k 200)) (.v 3)) [[16,256,16]] rfl h0 h1
theorem o2ad14 {a b c : Nat} (h0 : a + (3 * (b + 1)) + 5 < c) : a + 1 + (3 * b) + 5 < c := lin [a,b,c] [] [.lt (.a (.a (.v 0) (.m 3 (.a (.v 1) (.k 1)))) (.k 5)) (.v 2)] (.lt (.a (.a (.a (.v 0) (.k 1)) (.m 3 (.v 1))) (.k 5)) (.v 2)) [[1,1]] rfl h0
theorem od81d5 {a b c : Nat} (h0 : a + (16 * (b + 1)) + 200 < c) : a + 3 + (16 * b) + 200 < c := lin [a,b,c] [] [.lt (.a (.a (.v 0) (.m 16 (.a (.v 1) (.k 1)))) (.k 200)) (.v 2)] (.lt (.a (.a (.a (.v 0) (.k 3)) (.m 16 (.v 1))) (.k 200)) (.v 2)) [[1,1]] rfl h0
theorem o5c756 {a b c : Nat} (h0 : a + (16 * (b + 1)) + 200 < c) : a + 1 + (16 * b) + 200 < c := lin [a,b,c] [] [.lt (.a (.a (.v 0) (.m 16 (.a (.v 1) (.k 1)))) (.k 200)) (.v 2)] (.lt (.a (.a (.a (.v 0) (.k 1)) (.m 16 (.v 1))) (.k 200)) (.v 2)) [[1,1]] rfl h0
theorem oec0bb {a b c : Nat} (h0 : a + (3 * b) + 5 < c) : a < c := lin [a,b,c] [] [.lt (.a (.a (.v 0) (.m 3 (.v 1))) (.k 5)) (.v 2)] (.lt (.v 0) (.v 2)) [[1,1]] rfl h0
theorem o686e8 {a b c : Nat} (h0 : a + (16 * b) + 200 < c) : a + 64 < c := lin [a,b,c] [] [.lt (.a (.a (.v 0) (.m 16 (.v 1))) (.k 200)) (.v 2)] (.lt (.a (.v 0) (.k 64)) (.v 2)) [[1,1]] rfl h0
theorem o02afe {a b c : Nat} (h0 : a + (16 * b) + 200 < c) : a < c := lin [a,b,c] [] [.lt (.a (.a (.v 0) (.m 16 (.v 1))) (.k 200)) (.v 2)] (.lt (.v 0) (.v 2)) [[1,1]] rfl h0
theorem od28f3 {a b : Nat} (h0 : (min a b) = a) : a ≤ b := lin [a,b,(min a b)] [] [.eq (.v 2) (.v 0),.le (.v 2) (.v 1)] (.le (.v 0) (.v 1)) [[1,0,1,1]] rfl h0 (Nat.min_le_right _ _)
theorem o606e9 {a b c : Nat} (h0 : a = b) (h1 : c < a) : c < b := lin [a,b,c] [] [.eq (.v 0) (.v 1),.lt (.v 2) (.v 0)] (.lt (.v 2) (.v 1)) [[1,1,0,1]] rfl h0 h1
theorem ofa4f9 {a b c : Nat} (h0 : a = b) (h1 : b ≤ c) : a + (c - a) = c := have L := lin [a,b,c,(c - a)] []; L [.eq (.a (.v 3) (.v 0)) (.v 2)] (.eq (.a (.v 0) (.v 3)) (.v 2)) [[1,1],[1,0,1]] rfl (j03 (L [.eq (.v 0) (.v 1),.le (.v 1) (.v 2)] (.le (.v 0) (.v 2)) [[1,1,0,1]] rfl h0 h1))
theorem od2022 {a : Nat} (h0 : (a : Int) = 0) : a = 0 := lin [a] [] [.ie (.c (.v 0)) (.k 0)] (.eq (.v 0) (.k 0)) [[1,1],[1,0,1]] rfl h0
theorem o11c2e {a b : Nat} {zx : Int} (h0 : (0 : Int) ≤ zx) (h1 : zx < (a : Int)) (h2 : (Int.toNat zx) = b) : b < a := have L := lin [a,b,(Int.toNat zx)] [zx]; L [.it (.v 0) (.c (.v 0)),.eq (.v 2) (.v 1),.ie (.c (.v 2)) (.v 0)] (.lt (.v 1) (.v 0)) [[1,1,0,1,1]] rfl h1 h2 (j14 (L [.il (.k 0) (.v 0)] (.il (.k 0) (.v 0)) [[1,1]] rfl h0))
theorem oa5672 {a : Nat} {zx : Int} (h0 : (0 : Int) ≤ zx) : (-(a : Int)) ≤ zx := lin [a] [zx] [.il (.k 0) (.v 0)] (.il (.o (.c (.v 0))) (.v 0)) [[1,1]] rfl h0
theorem o2472d {zx : Int} (h0 : ¬((0 : Int) ≤ zx)) : zx < 0 := lin [] [zx] [.nt (.il (.k 0) (.v 0))] (.it (.v 0) (.k 0)) [[1,1]] rfl h0
theorem o89df2 {a b : Nat} {zx : Int} (h0 : ¬((0 : Int) ≤ zx)) (h1 : (-(a : Int)) ≤ zx) (h2 : (Int.toNat (zx + (a : Int))) = b) : b < a := have L := lin [a,b,(Int.toNat (zx + (a : Int)))] [zx]; L [.nt (.il (.k 0) (.v 0)),.eq (.v 2) (.v 1),.ie (.c (.v 2)) (.a (.v 0) (.c (.v 0)))] (.lt (.v 1) (.v 0)) [[1,1,0,1,1]] rfl h0 h2 (j14 (L [.il (.o (.c (.v 0))) (.v 0)] (.il (.k 0) (.a (.v 0) (.c (.v 0)))) [[1,1]] rfl h1))
theorem o5378e {a : Nat} {zx : Int} (h0 : ¬((0 : Int) ≤ zx)) : zx < (a : Int) := lin [a] [zx] [.nt (.il (.k 0) (.v 0))] (.it (.v 0) (.c (.v 0))) [[1,1]] rfl h0
theorem o29297 {a : Nat} : (0 : Int) ≤ (a : Int) := lin [a] [] [] (.il (.k 0) (.c (.v 0))) [[1]] rfl
theorem oab013 {a b : Nat} (h0 : a < b) : (a : Int) < (b : Int) := lin [a,b] [] [.lt (.v 0) (.v 1)] (.it (.c (.v 0)) (.c (.v 1))) [[1,1]] rfl h0
theorem o97271 {a : Nat} : (-(((a + 1) : Nat) : Int)) ≤ (-1) := lin [a] [] [] (.il (.o (.c (.a (.v 0) (.k 1)))) (.o (.k 1))) [[1]] rfl
theorem oaf2df {a : Nat} : (Int.toNat ((-1) + (((a + 1) : Nat) : Int))) = a := have L := lin [a,(Int.toNat ((-1) + (((a + 1) : Nat) : Int)))] []; L [.ie (.c (.v 1)) (.a (.o (.k 1)) (.c (.a (.v 0) (.k 1))))] (.eq (.v 1) (.v 0)) [[1,1],[1,0,1]] rfl (j14 (L [] (.il (.k 0) (.a (.o (.k 1)) (.c (.a (.v 0) (.k 1))))) [[1]] rfl))
theorem o858e5 {a b : Nat} {zx : Int} (h0 : (-(a : Int)) ≤ zx) (h1 : a = b) : (-(b : Int)) ≤ zx := lin [a,b] [zx] [.il (.o (.c (.v 0))) (.v 0),.eq (.v 0) (.v 1)] (.il (.o (.c (.v 1))) (.v 0)) [[1,1,1]] rfl h0 h1
theorem oa68c7 {a b c : Nat} (h0 : a = b + 2) (h1 : c = b + 1) : a - 1 = c - 1 + 1 := have L := lin [a,b,c,(a - 1),(c - 1)] []; L [.eq (.v 0) (.a (.v 1) (.k 2)),.eq (.v 2) (.a (.v 1) (.k 1)),.eq (.a (.v 4) (.k 1)) (.v 2),.eq (.a (.v 3) (.k 1)) (.v 0)] (.eq (.v 3) (.a (.v 4) (.k 1))) [[1,1,0,0,1,0,1,1],[1,0,1,1,0,1,0,0,1]] rfl h0 h1 (j03 (L [.eq (.v 2) (.a (.v 1) (.k 1))] (.le (.k 1) (.v 2)) [[1,0,1]] rfl h1)) (j03 (L [.eq (.v 0) (.a (.v 1) (.k 2))] (.le (.k 1) (.v 0)) [[1,0,1]] rfl h0))
theorem o4733e {a b : Nat} (h0 : a ≤ b) : ¬(a > b) := lin [a,b] [] [.le (.v 0) (.v 1)] (.nt (.lt (.v 1) (.v 0))) [[1,1]] rfl h0
theorem odad2c {a b : Nat} (h0 : a < b) : a + 1 ≤ b := lin [a,b] [] [.lt (.v 0) (.v 1)] (.le (.a (.v 0) (.k 1)) (.v 1)) [[1,1]] rfl h0
theorem o07fe9 {a b c d e : Nat} (h0 : a + b ≤ c) (h1 : a = d) (h2 : b = e) : d + e ≤ c := lin [a,b,c,d,e] [] [.le (.a (.v 0) (.v 1)) (.v 2),.eq (.v 0) (.v 3),.eq (.v 1) (.v 4)] (.le (.a (.v 3) (.v 4)) (.v 2)) [[1,1,0,1,0,1]] rfl h0 h1 h2
theorem o8e994 {a b c : Nat} (h0 : a + b ≤ c) : a + b ≤ c + 1 := lin [a,b,c] [] [.le (.a (.v 0) (.v 1)) (.v 2)] (.le (.a (.v 0) (.v 1)) (.a (.v 2) (.k 1))) [[1,1]] rfl h0
theorem o3a19b {a b c : Nat} (h0 : a + b ≤ c) : a + b ≤ c := lin [a,b,c] [] [.le (.a (.v 0) (.v 1)) (.v 2)] (.le (.a (.v 0) (.v 1)) (.v 2)) [[1,1]] rfl h0
theorem ofe467 {a b : Nat} (h0 : a ≤ b) : a - 1 ≤ b := lin [a,b,(a - 1)] [] [.le (.v 0) (.v 1),.le (.v 2) (.v 0)] (.le (.v 2) (.v 1)) [[1,1,1]] rfl h0 (j1r _ _)
theorem o7feec {a b c : Nat} (h0 : a ≤ b) (h1 : c ≤ a) : c ≤ b := lin [a,b,c] [] [.le (.v 0) (.v 1),.le (.v 2) (.v 0)] (.le (.v 2) (.v 1)) [[1,1,1]] rfl h0 h1
theorem o12bb4 {a b : Nat} (h0 : a ≤ b) : a ≤ b := lin [a,b] [] [.le (.v 0) (.v 1)] (.le (.v 0) (.v 1)) [[1,1]] rfl h0
theorem o1bf13 {a b c : Nat} (h0 : a ≤ b) (h1 : b ≤ (c - 1) / 8) : ¬(a > (c - 1) / 8) := lin [a,b,c,((c - 1) / 8),(c - 1)] [] [.le (.v 0) (.v 1),.le (.v 1) (.v 3)] (.nt (.lt (.v 3) (.v 0))) [[1,1,1]] rfl h0 h1
theorem o750fd {a b c : Nat} (h0 : a ≤ b) : a - c ≤ b - 0 := have L := lin [a,b,c,(a - c),(b - 0)] []; L [.le (.v 0) (.v 1),.eq (.a (.v 4) (.k 0)) (.v 1),.le (.v 3) (.v 0)] (.le (.v 3) (.v 4)) [[1,1,0,1,1]] rfl h0 (j03 (L [] (.le (.k 0) (.v 1)) [[1]] rfl)) (j1r _ _)
theorem o0d0f8 {a b c : Nat} (h0 : a ≤ b) (h1 : b - a ≤ c - (max 0 c)) : a = b := have L := lin [a,b,c,(b - a),(c - (max 0 c)),(max (0 : Nat) c)] []; L [.le (.v 0) (.v 1),.le (.v 3) (.v 4),.eq (.v 5) (.v 2),.eq (.a (.v 4) (.v 5)) (.v 2),.eq (.a (.v 3) (.v 0)) (.v 1)] (.eq (.v 0) (.v 1)) [[1,1],[1,0,1,0,1,1,0,0,1]] rfl h0 h1 (Nat.max_eq_right (L [] (.le (.k 0) (.v 2)) [[1]] rfl)) (j03 (L [.eq (.v 5) (.v 2)] (.le (.v 5) (.v 2)) [[1,1]] rfl (Nat.max_eq_right (L [] (.le (.k 0) (.v 2)) [[1]] rfl)))) (j03 (L [.le (.v 0) (.v 1)] (.le (.v 0) (.v 1)) [[1,1]] rfl h0))
theorem o3bfd2 {a b : Nat} (h0 : a ≤ b) (h1 : a ≥ b) : a = b := lin [a,b] [] [.le (.v 0) (.v 1),.le (.v 1) (.v 0)] (.eq (.v 0) (.v 1)) [[1,1],[1,0,1]] rfl h0 h1
theorem o00147 {a b c : Nat} (h0 : a ≤ b) (h1 : ¬(c ≥ a)) : c + ((a - c) / 2) < b := have L := lin [a,b,c,((a - c) / 2),(a - c)] []; L [.le (.v 0) (.v 1),.nt (.le (.v 0) (.v 2)),.eq (.a (.v 4) (.v 2)) (.v 0),.le (.m 2 (.v 3)) (.v 4)] (.lt (.a (.v 2) (.v 3)) (.v 1)) [[2,2,1,1,0,1]] rfl h0 h1 (j03 (L [.nt (.le (.v 0) (.v 2))] (.le (.v 2) (.v 0)) [[1,1]] rfl h1)) (j2e _ _)
theorem o2fc71 {a b : Nat} (h0 : ¬(a ≥ b)) : a + ((b - a) / 2) + 1 ≤ b := have L := lin [a,b,((b - a) / 2),(b - a)] []; L [.nt (.le (.v 1) (.v 0)),.eq (.a (.v 3) (.v 0)) (.v 1),.le (.m 2 (.v 2)) (.v 3)] (.le (.a (.a (.v 0) (.v 2)) (.k 1)) (.v 1)) [[2,1,1,0,1]] rfl h0 (j03 (L [.nt (.le (.v 1) (.v 0))] (.le (.v 0) (.v 1)) [[1,1]] rfl h0)) (j2e _ _)
theorem o4e91e {a b c d : Nat} (h0 : a - b ≤ c - d) : a - (b + ((a - b) / 2) + 1) ≤ c - (d + 1) := by omega
theorem oc8b88 {a b c : Nat} (h0 : a < b + ((c - b) / 2) + 1) : a ≤ b + ((c - b) / 2) := lin [a,b,c,((c - b) / 2),(c - b)] [] [.lt (.v 0) (.a (.a (.v 1) (.v 3)) (.k 1))] (.le (.v 0) (.a (.v 1) (.v 3))) [[1,1]] rfl h0
theorem o17d79 {a b : Nat} : a ≤ a + ((b - a) / 2) := lin [a,b,((b - a) / 2),(b - a)] [] [] (.le (.v 0) (.a (.v 0) (.v 2))) [[1]] rfl
theorem o15224 {a b c : Nat} (h0 : a ≤ b) (h1 : ¬(c ≥ a)) : c + ((a - c) / 2) ≤ b := have L := lin [a,b,c,((a - c) / 2),(a - c)] []; L [.le (.v 0) (.v 1),.nt (.le (.v 0) (.v 2)),.eq (.a (.v 4) (.v 2)) (.v 0),.le (.m 2 (.v 3)) (.v 4)] (.le (.a (.v 2) (.v 3)) (.v 1)) [[2,2,1,1,0,1]] rfl h0 h1 (j03 (L [.nt (.le (.v 0) (.v 2))] (.le (.v 2) (.v 0)) [[1,1]] rfl h1)) (j2e _ _)
theorem o715d6 {a b c d : Nat} (h0 : a - b ≤ c - d) : b + ((a - b) / 2) - b ≤ c - (d + 1) := by omega
theorem o5561a {a b c : Nat} (h0 : a + ((b - a) / 2) ≤ c) : a + ((b - a) / 2) ≤ c := lin [a,b,c,((b - a) / 2),(b - a)] [] [.le (.a (.v 0) (.v 3)) (.v 2)] (.le (.a (.v 0) (.v 3)) (.v 2)) [[1,1]] rfl h0
theorem oefa14 : (0 : Nat) < (1 : Nat) := lin [] [] [] (.lt (.k 0) (.k 1)) [[1]] rfl
theorem oce11a {a b : Nat} (h0 : a < b) : 0 < b - a := have L := lin [a,b,(b - a)] []; L [.lt (.v 0) (.v 1),.eq (.a (.v 2) (.v 0)) (.v 1)] (.lt (.k 0) (.v 2)) [[1,1,0,1]] rfl h0 (j03 (L [.lt (.v 0) (.v 1)] (.le (.v 0) (.v 1)) [[1,1]] rfl h0))
theorem o27e8b {a b c : Nat} (h0 : (max 0 a) < b) : a - c ≤ b := have L := lin [a,b,c,(max (0 : Nat) a),(a - c)] []; L [.lt (.v 3) (.v 1),.le (.v 4) (.v 0),.eq (.v 3) (.v 0)] (.le (.v 4) (.v 1)) [[1,1,1,0,1]] rfl h0 (j1r _ _) (Nat.max_eq_right (L [] (.le (.k 0) (.v 0)) [[1]] rfl))
theorem o086c3 {a b c : Nat} (h0 : ¬(a ≥ b - c)) : c + a < b := have L := lin [a,b,c,(b - c)] []; (Nat.le_total c b).elim (fun g0 => L [.nt (.le (.v 3) (.v 0)),.eq (.a (.v 3) (.v 2)) (.v 1)] (.lt (.a (.v 2) (.v 0)) (.v 1)) [[1,1,1]] rfl h0 (j03 (L [.le (.v 2) (.v 1)] (.le (.v 2) (.v 1)) [[1,1]] rfl g0))) (fun g0 => L [.nt (.le (.v 3) (.v 0)),.eq (.v 3) (.k 0)] (.lt (.a (.v 2) (.v 0)) (.v 1)) [[0,1,1]] rfl h0 (j0b (L [.le (.v 1) (.v 2)] (.le (.v 1) (.v 2)) [[1,1]] rfl g0)))
theorem o15295 {a : Nat} : a < (2 * a) + 1 := lin [a] [] [] (.lt (.v 0) (.a (.m 2 (.v 0)) (.k 1))) [[1]] rfl
theorem oe2bc4 {a b : Nat} (h0 : a < b) : a + 1 < (2 * b) + 1 := lin [a,b] [] [.lt (.v 0) (.v 1)] (.lt (.a (.v 0) (.k 1)) (.a (.m 2 (.v 1)) (.k 1))) [[1,1]] rfl h0
theorem o8acb6 {a b c : Nat} (h0 : ¬(a ≥ b - c)) : a < b - c := lin [a,b,c,(b - c)] [] [.nt (.le (.v 3) (.v 0))] (.lt (.v 0) (.v 3)) [[1,1]] rfl h0
theorem o2a10e {a b c d : Nat} (h0 : a < b) (h1 : a < c - d) : d + a + 1 ≤ d + (min b (c - d)) := have L := lin [a,b,c,d,(c - d),(min b (c - d))] []; (Nat.le_total (c - d) b).elim (fun g0 => L [.lt (.v 0) (.v 4),.eq (.v 5) (.v 4)] (.le (.a (.a (.v 3) (.v 0)) (.k 1)) (.a (.v 3) (.v 5))) [[1,1,0,1]] rfl h1 (Nat.min_eq_right (L [.le (.v 4) (.v 1)] (.le (.v 4) (.v 1)) [[1,1]] rfl g0))) (fun g0 => L [.lt (.v 0) (.v 1),.eq (.v 5) (.v 1)] (.le (.a (.a (.v 3) (.v 0)) (.k 1)) (.a (.v 3) (.v 5))) [[1,1,0,1]] rfl h0 (Nat.min_eq_left (L [.le (.v 1) (.v 4)] (.le (.v 1) (.v 4)) [[1,1]] rfl g0)))
theorem of0dd4 {a b c d : Nat} (h0 : a < b - c) : c + (min d (b - c)) ≤ b := have L := lin [a,b,c,d,(b - c),(min d (b - c))] []; (Nat.le_total (b - c) d).elim (fun g0 => (Nat.le_total c b).elim (fun g1 => L [.eq (.v 5) (.v 4),.eq (.a (.v 4) (.v 2)) (.v 1)] (.le (.a (.v 2) (.v 5)) (.v 1)) [[1,1,0,1]] rfl (Nat.min_eq_right (L [.le (.v 4) (.v 3)] (.le (.v 4) (.v 3)) [[1,1]] rfl g0)) (j03 (L [.le (.v 2) (.v 1)] (.le (.v 2) (.v 1)) [[1,1]] rfl g1))) (fun g1 => L [.lt (.v 0) (.v 4),.eq (.v 4) (.k 0)] (.le (.a (.v 2) (.v 5)) (.v 1)) [[0,1,1]] rfl h0 (j0b (L [.le (.v 1) (.v 2)] (.le (.v 1) (.v 2)) [[1,1]] rfl g1)))) (fun g0 => (Nat.le_total c b).elim (fun g1 => L [.le (.v 3) (.v 4),.eq (.v 5) (.v 3),.eq (.a (.v 4) (.v 2)) (.v 1)] (.le (.a (.v 2) (.v 5)) (.v 1)) [[1,1,1,0,1]] rfl g0 (Nat.min_eq_left (L [.le (.v 3) (.v 4)] (.le (.v 3) (.v 4)) [[1,1]] rfl g0)) (j03 (L [.le (.v 2) (.v 1)] (.le (.v 2) (.v 1)) [[1,1]] rfl g1))) (fun g1 => L [.lt (.v 0) (.v 4),.eq (.v 4) (.k 0)] (.le (.a (.v 2) (.v 5)) (.v 1)) [[0,1,1]] rfl h0 (j0b (L [.le (.v 1) (.v 2)] (.le (.v 1) (.v 2)) [[1,1]] rfl g1))))
theorem o91e1e {a b c : Nat} (h0 : a < b + c + 1) : a ≤ b + c := lin [a,b,c] [] [.lt (.v 0) (.a (.a (.v 1) (.v 2)) (.k 1))] (.le (.v 0) (.a (.v 1) (.v 2))) [[1,1]] rfl h0
theorem o5cd43 {a b c : Nat} (h0 : a < b - c) : c + a < b := have L := lin [a,b,c,(b - c)] []; (Nat.le_total c b).elim (fun g0 => L [.lt (.v 0) (.v 3),.eq (.a (.v 3) (.v 2)) (.v 1)] (.lt (.a (.v 2) (.v 0)) (.v 1)) [[1,1,1]] rfl h0 (j03 (L [.le (.v 2) (.v 1)] (.le (.v 2) (.v 1)) [[1,1]] rfl g0))) (fun g0 => L [.lt (.v 0) (.v 3),.eq (.v 3) (.k 0)] (.lt (.a (.v 2) (.v 0)) (.v 1)) [[0,1,1]] rfl h0 (j0b (L [.le (.v 1) (.v 2)] (.le (.v 1) (.v 2)) [[1,1]] rfl g0)))
theorem o90a57 {a b c d : Nat} (h0 : a + (min b (c - a)) ≤ d) (h1 : b ≤ c - a) : a + b ≤ d := have L := lin [a,b,c,d,(min b (c - a)),(c - a)] []; L [.le (.a (.v 0) (.v 4)) (.v 3),.eq (.v 4) (.v 1)] (.le (.a (.v 0) (.v 1)) (.v 3)) [[1,1,0,1]] rfl h0 (Nat.min_eq_left (L [.le (.v 1) (.v 5)] (.le (.v 1) (.v 5)) [[1,1]] rfl h1))
theorem o871ad {a : Nat} : 0 ≤ a := lin [a] [] [] (.le (.k 0) (.v 0)) [[1]] rfl
theorem od20cd {a b c : Nat} (h0 : a < b) (h1 : (max 0 b) < c) : a + 1 ≤ c := have L := lin [a,b,c,(max (0 : Nat) b)] []; L [.lt (.v 0) (.v 1),.lt (.v 3) (.v 2),.eq (.v 3) (.v 1)] (.le (.a (.v 0) (.k 1)) (.v 2)) [[1,1,1,0,1]] rfl h0 h1 (Nat.max_eq_right (L [] (.le (.k 0) (.v 1)) [[1]] rfl))
theorem o8b452 {a b c : Nat} (h0 : a < b) : a - c < b := lin [a,b,c,(a - c)] [] [.lt (.v 0) (.v 1),.le (.v 3) (.v 0)] (.lt (.v 3) (.v 1)) [[1,1,1]] rfl h0 (j1r _ _)
theorem o9325a {a b : Nat} (h0 : ¬(a ≥ b + 1)) : a ≤ b := lin [a,b] [] [.nt (.le (.a (.v 1) (.k 1)) (.v 0))] (.le (.v 0) (.v 1)) [[1,1]] rfl h0
theorem o8d202 {a b c : Nat} (h0 : a < b) : c + 1 - (min b (c + 1)) ≤ c - a := have L := lin [a,b,c,(c + 1 - (min b (c + 1))),(c - a),(min b (c + 1))] []; (Nat.le_total (c + 1) b).elim (fun g0 => L [.eq (.v 5) (.a (.v 2) (.k 1)),.eq (.a (.v 3) (.v 5)) (.a (.v 2) (.k 1))] (.le (.v 3) (.v 4)) [[1,0,1,1]] rfl (Nat.min_eq_right (L [.le (.a (.v 2) (.k 1)) (.v 1)] (.le (.a (.v 2) (.k 1)) (.v 1)) [[1,1]] rfl g0)) (j03 (L [.eq (.v 5) (.a (.v 2) (.k 1))] (.le (.v 5) (.a (.v 2) (.k 1))) [[1,1]] rfl (Nat.min_eq_right (L [.le (.a (.v 2) (.k 1)) (.v 1)] (.le (.a (.v 2) (.k 1)) (.v 1)) [[1,1]] rfl g0))))) (fun g0 => L [.lt (.v 0) (.v 1),.eq (.v 5) (.v 1),.eq (.a (.v 4) (.v 0)) (.v 2),.eq (.a (.v 3) (.v 5)) (.a (.v 2) (.k 1))] (.le (.v 3) (.v 4)) [[1,1,0,1,0,1,1]] rfl h0 (Nat.min_eq_left (L [.le (.v 1) (.a (.v 2) (.k 1))] (.le (.v 1) (.a (.v 2) (.k 1))) [[1,1]] rfl g0)) (j03 (L [.lt (.v 0) (.v 1),.le (.v 1) (.a (.v 2) (.k 1))] (.le (.v 0) (.v 2)) [[1,1,1]] rfl h0 g0)) (j03 (L [.le (.v 1) (.a (.v 2) (.k 1)),.eq (.v 5) (.v 1)] (.le (.v 5) (.a (.v 2) (.k 1))) [[1,1,1]] rfl g0 (Nat.min_eq_left (L [.le (.v 1) (.a (.v 2) (.k 1))] (.le (.v 1) (.a (.v 2) (.k 1))) [[1,1]] rfl g0)))))
theorem o07564 {a b c : Nat} (h0 : a < b) : a - c ≤ b := lin [a,b,c,(a - c)] [] [.lt (.v 0) (.v 1),.le (.v 3) (.v 0)] (.le (.v 3) (.v 1)) [[1,1,1]] rfl h0 (j1r _ _)
theorem o6dd49 {a b c : Nat} (h0 : a - b ≤ c) : a - b ≤ c := lin [a,b,c,(a - b)] [] [.le (.v 3) (.v 2)] (.le (.v 3) (.v 2)) [[1,1]] rfl h0
theorem o2fc81 {a b c : Nat} (h0 : a < b + 1 - (min c (b + 1))) : a ≤ b - c := have L := lin [a,b,c,(b + 1 - (min c (b + 1))),(b - c),(min c (b + 1))] []; (Nat.le_total (b + 1) c).elim (fun g0 => L [.lt (.v 0) (.v 3),.eq (.v 5) (.a (.v 1) (.k 1)),.eq (.a (.v 3) (.v 5)) (.a (.v 1) (.k 1))] (.le (.v 0) (.v 4)) [[0,1,0,1,1]] rfl h0 (Nat.min_eq_right (L [.le (.a (.v 1) (.k 1)) (.v 2)] (.le (.a (.v 1) (.k 1)) (.v 2)) [[1,1]] rfl g0)) (j03 (L [.eq (.v 5) (.a (.v 1) (.k 1))] (.le (.v 5) (.a (.v 1) (.k 1))) [[1,1]] rfl (Nat.min_eq_right (L [.le (.a (.v 1) (.k 1)) (.v 2)] (.le (.a (.v 1) (.k 1)) (.v 2)) [[1,1]] rfl g0))))) (fun g0 => L [.lt (.v 0) (.v 3),.eq (.v 5) (.v 2),.le (.v 1) (.a (.v 4) (.v 2)),.eq (.a (.v 3) (.v 5)) (.a (.v 1) (.k 1))] (.le (.v 0) (.v 4)) [[1,1,0,1,1,1]] rfl h0 (Nat.min_eq_left (L [.le (.v 2) (.a (.v 1) (.k 1))] (.le (.v 2) (.a (.v 1) (.k 1))) [[1,1]] rfl g0)) (j5m _ _) (j03 (L [.le (.v 2) (.a (.v 1) (.k 1)),.eq (.v 5) (.v 2)] (.le (.v 5) (.a (.v 1) (.k 1))) [[1,1,1]] rfl g0 (Nat.min_eq_left (L [.le (.v 2) (.a (.v 1) (.k 1))] (.le (.v 2) (.a (.v 1) (.k 1))) [[1,1]] rfl g0)))))
theorem of192c {a b c : Nat} (h0 : a ≤ b) (h1 : b < c) : a < c := lin [a,b,c] [] [.le (.v 0) (.v 1),.lt (.v 1) (.v 2)] (.lt (.v 0) (.v 2)) [[1,1,1]] rfl h0 h1
theorem o6f926 {a b : Nat} (h0 : a ≤ b) (h1 : ¬(a = b)) : a < b := have L := lin [a,b] []; (Nat.lt_or_gt_of_ne h1).elim (fun g0 => L [.lt (.v 0) (.v 1)] (.lt (.v 0) (.v 1)) [[1,1]] rfl g0) (fun g0 => L [.le (.v 0) (.v 1),.lt (.v 1) (.v 0)] (.lt (.v 0) (.v 1)) [[0,1,1]] rfl h0 g0)
theorem o73e08 {a b c d : Nat} (h0 : a < (min b (c - d))) : d + a < c := have L := lin [a,b,c,d,(min b (c - d)),(c - d)] []; (Nat.le_total d c).elim (fun g0 => L [.lt (.v 0) (.v 4),.eq (.a (.v 5) (.v 3)) (.v 2),.le (.v 4) (.v 5)] (.lt (.a (.v 3) (.v 0)) (.v 2)) [[1,1,1,0,1]] rfl h0 (j03 (L [.le (.v 3) (.v 2)] (.le (.v 3) (.v 2)) [[1,1]] rfl g0)) (Nat.min_le_right _ _)) (fun g0 => L [.lt (.v 0) (.v 4),.eq (.v 5) (.k 0),.eq (.v 4) (.v 5)] (.lt (.a (.v 3) (.v 0)) (.v 2)) [[0,1,1,0,1]] rfl h0 (j0b (L [.le (.v 2) (.v 3)] (.le (.v 2) (.v 3)) [[1,1]] rfl g0)) (Nat.min_eq_right (L [.eq (.v 5) (.k 0)] (.le (.v 5) (.v 1)) [[1,1]] rfl (j0b (L [.le (.v 2) (.v 3)] (.le (.v 2) (.v 3)) [[1,1]] rfl g0)))))
theorem o4a259 {a b c d : Nat} (h0 : a < (min b (c - d))) : a < b := lin [a,b,c,d,(min b (c - d)),(c - d)] [] [.lt (.v 0) (.v 4),.le (.v 4) (.v 1)] (.lt (.v 0) (.v 1)) [[1,1,1]] rfl h0 (Nat.min_le_left _ _)
theorem o69e25 {a b : Nat} : a + b - a = b := have L := lin [a,b,(a + b - a)] []; L [.eq (.a (.v 2) (.v 0)) (.a (.v 0) (.v 1))] (.eq (.v 2) (.v 1)) [[1,1],[1,0,1]] rfl (j03 (L [] (.le (.v 0) (.a (.v 0) (.v 1))) [[1]] rfl))
theorem o78ad7 {a b : Nat} (h0 : a + 1 = b) : a = b - 1 := have L := lin [a,b,(b - 1)] []; L [.eq (.a (.v 0) (.k 1)) (.v 1),.eq (.a (.v 2) (.k 1)) (.v 1)] (.eq (.v 0) (.v 2)) [[1,1,0,0,1],[1,0,1,1]] rfl h0 (j03 (L [.eq (.a (.v 0) (.k 1)) (.v 1)] (.le (.k 1) (.v 1)) [[1,1]] rfl h0))
theorem ofa809 {a b : Nat} (h0 : a + 1 < b) : a < b := lin [a,b] [] [.lt (.a (.v 0) (.k 1)) (.v 1)] (.lt (.v 0) (.v 1)) [[1,1]] rfl h0
theorem o17e60 {a b : Nat} (h0 : a + 1 = b) : b ≤ a + 1 := lin [a,b] [] [.eq (.a (.v 0) (.k 1)) (.v 1)] (.le (.v 1) (.a (.v 0) (.k 1))) [[1,0,1]] rfl h0
theorem oc78a4 {a b : Nat} (h0 : a < b) (h1 : ¬(a + 1 = b)) : a + 1 < b := have L := lin [a,b] []; (Nat.lt_or_gt_of_ne h1).elim (fun g0 => L [.lt (.a (.v 0) (.k 1)) (.v 1)] (.lt (.a (.v 0) (.k 1)) (.v 1)) [[1,1]] rfl g0) (fun g0 => L [.lt (.v 0) (.v 1),.lt (.v 1) (.a (.v 0) (.k 1))] (.lt (.a (.v 0) (.k 1)) (.v 1)) [[0,1,1]] rfl h0 g0)
theorem oe9ead {a b : Nat} : a + b + 1 ≤ a + (b + 1) := lin [a,b] [] [] (.le (.a (.a (.v 0) (.v 1)) (.k 1)) (.a (.v 0) (.a (.v 1) (.k 1)))) [[1]] rfl
theorem oe795f {a b : Nat} (h0 : a + 1 < b) (h1 : ¬(a + 1 + 1 = b)) : a + 1 + 1 < b := have L := lin [a,b] []; (Nat.lt_or_gt_of_ne h1).elim (fun g0 => L [.lt (.a (.a (.v 0) (.k 1)) (.k 1)) (.v 1)] (.lt (.a (.a (.v 0) (.k 1)) (.k 1)) (.v 1)) [[1,1]] rfl g0) (fun g0 => L [.lt (.a (.v 0) (.k 1)) (.v 1),.lt (.v 1) (.a (.a (.v 0) (.k 1)) (.k 1))] (.lt (.a (.a (.v 0) (.k 1)) (.k 1)) (.v 1)) [[0,1,1]] rfl h0 g0)
theorem o14dc1 {a b : Nat} (h0 : a < b) : a < b := lin [a,b] [] [.lt (.v 0) (.v 1)] (.lt (.v 0) (.v 1)) [[1,1]] rfl h0
theorem od1da0 {a b : Nat} : a + b + 1 ≤ a + 1 + b := lin [a,b] [] [] (.le (.a (.a (.v 0) (.v 1)) (.k 1)) (.a (.a (.v 0) (.k 1)) (.v 1))) [[1]] rfl
theorem o1f3fc {a b c : Nat} (h0 : a ≤ b + c) : a ≤ b + 1 + c := lin [a,b,c] [] [.le (.v 0) (.a (.v 1) (.v 2))] (.le (.v 0) (.a (.a (.v 1) (.k 1)) (.v 2))) [[1,1]] rfl h0
theorem ocaada {a b c : Nat} (h0 : a ≤ b) : c + a ≤ c + b := lin [a,b,c] [] [.le (.v 0) (.v 1)] (.le (.a (.v 2) (.v 0)) (.a (.v 2) (.v 1))) [[1,1]] rfl h0
theorem o4937f {a b : Nat} : a ≤ a + b := lin [a,b] [] [] (.le (.v 0) (.a (.v 0) (.v 1))) [[1]] rfl
theorem oace3d {a b c d : Nat} (h0 : a + b + c < d) : b + c < d - a := have L := lin [a,b,c,d,(d - a)] []; L [.lt (.a (.a (.v 0) (.v 1)) (.v 2)) (.v 3),.eq (.a (.v 4) (.v 0)) (.v 3)] (.lt (.a (.v 1) (.v 2)) (.v 4)) [[1,1,0,1]] rfl h0 (j03 (L [.lt (.a (.a (.v 0) (.v 1)) (.v 2)) (.v 3)] (.le (.v 0) (.v 3)) [[1,1]] rfl h0))
theorem o17fa4 {a b c : Nat} (h0 : a ≤ b - c) (h1 : a > 0) : c + a ≤ b := have L := lin [a,b,c,(b - c)] []; (Nat.le_total c b).elim (fun g0 => L [.le (.v 0) (.v 3),.eq (.a (.v 3) (.v 2)) (.v 1)] (.le (.a (.v 2) (.v 0)) (.v 1)) [[1,1,1]] rfl h0 (j03 (L [.le (.v 2) (.v 1)] (.le (.v 2) (.v 1)) [[1,1]] rfl g0))) (fun g0 => L [.le (.v 0) (.v 3),.lt (.k 0) (.v 0),.eq (.v 3) (.k 0)] (.le (.a (.v 2) (.v 0)) (.v 1)) [[0,1,1,1]] rfl h0 h1 (j0b (L [.le (.v 1) (.v 2)] (.le (.v 1) (.v 2)) [[1,1]] rfl g0)))
theorem oe4bec {a b c : Nat} (h0 : a + b = c) : c ≤ a + b := lin [a,b,c] [] [.eq (.a (.v 0) (.v 1)) (.v 2)] (.le (.v 2) (.a (.v 0) (.v 1))) [[1,0,1]] rfl h0
theorem o79b33 {a b c : Nat} (h0 : a ≤ b - c) (h1 : a > 0) (h2 : ¬(c + a = b)) : c + a < b := have L := lin [a,b,c,(b - c)] []; (Nat.lt_or_gt_of_ne h2).elim (fun g0 => L [.lt (.a (.v 2) (.v 0)) (.v 1)] (.lt (.a (.v 2) (.v 0)) (.v 1)) [[1,1]] rfl g0) (fun g0 => (Nat.le_total c b).elim (fun g1 => L [.le (.v 0) (.v 3),.lt (.v 1) (.a (.v 2) (.v 0)),.eq (.a (.v 3) (.v 2)) (.v 1)] (.lt (.a (.v 2) (.v 0)) (.v 1)) [[0,1,1,1]] rfl h0 g0 (j03 (L [.le (.v 2) (.v 1)] (.le (.v 2) (.v 1)) [[1,1]] rfl g1))) (fun g1 => L [.le (.v 0) (.v 3),.lt (.k 0) (.v 0),.eq (.v 3) (.k 0)] (.lt (.a (.v 2) (.v 0)) (.v 1)) [[0,1,1,1]] rfl h0 h1 (j0b (L [.le (.v 1) (.v 2)] (.le (.v 1) (.v 2)) [[1,1]] rfl g1))))
theorem o42182 {a b c d : Nat} (h0 : a ≤ b + c) : a ≤ b + (c + d) := lin [a,b,c,d] [] [.le (.v 0) (.a (.v 1) (.v 2))] (.le (.v 0) (.a (.v 1) (.a (.v 2) (.v 3)))) [[1,1]] rfl h0
theorem o9a6f0 {a : Nat} (h0 : ¬(a > 0)) : a = 0 := lin [a] [] [.nt (.lt (.k 0) (.v 0))] (.eq (.v 0) (.k 0)) [[1,1],[1]] rfl h0
theorem o32a85 {a b c : Nat} (h0 : a ≤ b + c) : a ≤ b + (c + 1) := lin [a,b,c] [] [.le (.v 0) (.a (.v 1) (.v 2))] (.le (.v 0) (.a (.v 1) (.a (.v 2) (.k 1)))) [[1,1]] rfl h0
theorem oc849a {a b : Nat} (h0 : a + 1 < b) : 0 < b - a := have L := lin [a,b,(b - a)] []; L [.lt (.a (.v 0) (.k 1)) (.v 1),.eq (.a (.v 2) (.v 0)) (.v 1)] (.lt (.k 0) (.v 2)) [[1,1,0,1]] rfl h0 (j03 (L [.lt (.a (.v 0) (.k 1)) (.v 1)] (.le (.v 0) (.v 1)) [[1,1]] rfl h0))
theorem o9b529 {a b c : Nat} (h0 : a ≤ b - c) (h1 : a > 0) (h2 : ¬(c + a + 1 = b)) (h3 : ¬(c + a = b)) : c + a + 1 < b := have L := lin [a,b,c,(b - c)] []; (Nat.lt_or_gt_of_ne h2).elim (fun g0 => L [.lt (.a (.a (.v 2) (.v 0)) (.k 1)) (.v 1)] (.lt (.a (.a (.v 2) (.v 0)) (.k 1)) (.v 1)) [[1,1]] rfl g0) (fun g0 => (Nat.lt_or_gt_of_ne h3).elim (fun g1 => L [.lt (.v 1) (.a (.a (.v 2) (.v 0)) (.k 1)),.lt (.a (.v 2) (.v 0)) (.v 1)] (.lt (.a (.a (.v 2) (.v 0)) (.k 1)) (.v 1)) [[0,1,1]] rfl g0 g1) (fun g1 => (Nat.le_total c b).elim (fun g2 => L [.le (.v 0) (.v 3),.lt (.v 1) (.a (.v 2) (.v 0)),.eq (.a (.v 3) (.v 2)) (.v 1)] (.lt (.a (.a (.v 2) (.v 0)) (.k 1)) (.v 1)) [[0,1,1,1]] rfl h0 g1 (j03 (L [.le (.v 2) (.v 1)] (.le (.v 2) (.v 1)) [[1,1]] rfl g2))) (fun g2 => L [.le (.v 0) (.v 3),.lt (.k 0) (.v 0),.eq (.v 3) (.k 0)] (.lt (.a (.a (.v 2) (.v 0)) (.k 1)) (.v 1)) [[0,1,1,1]] rfl h0 h1 (j0b (L [.le (.v 1) (.v 2)] (.le (.v 1) (.v 2)) [[1,1]] rfl g2)))))
theorem obc70b {a b c d : Nat} (h0 : a ≤ b + c) : a ≤ b + d + c := lin [a,b,c,d] [] [.le (.v 0) (.a (.v 1) (.v 2))] (.le (.v 0) (.a (.a (.v 1) (.v 3)) (.v 2))) [[1,1]] rfl h0
theorem o93e9a {a b : Nat} : a + b + 0 ≤ a + b := lin [a,b] [] [] (.le (.a (.a (.v 0) (.v 1)) (.k 0)) (.a (.v 0) (.v 1))) [[1]] rfl
theorem o18a3f {a b c d e f : Nat} (h0 : a < b) (h1 : c + d + (max 0 (e + b)) ≤ f + a) : c + d + 1 ≤ f + a := have L := lin [a,b,c,d,e,f,(max (0 : Nat) (e + b))] []; L [.lt (.v 0) (.v 1),.le (.a (.a (.v 2) (.v 3)) (.v 6)) (.a (.v 5) (.v 0)),.eq (.v 6) (.a (.v 4) (.v 1))] (.le (.a (.a (.v 2) (.v 3)) (.k 1)) (.a (.v 5) (.v 0))) [[1,1,1,0,1]] rfl h0 h1 (Nat.max_eq_right (L [] (.le (.k 0) (.a (.v 4) (.v 1))) [[1]] rfl))
theorem o8848f {a b c d e f i : Nat} (h0 : a + b + c ≤ d + e) (h1 : d + e + 1 ≤ f + i) : a + b + (c + 1) ≤ f + i := lin [a,b,c,d,e,f,i] [] [.le (.a (.a (.v 0) (.v 1)) (.v 2)) (.a (.v 3) (.v 4)),.le (.a (.a (.v 3) (.v 4)) (.k 1)) (.a (.v 5) (.v 6))] (.le (.a (.a (.v 0) (.v 1)) (.a (.v 2) (.k 1))) (.a (.v 5) (.v 6))) [[1,1,1]] rfl h0 h1
theorem o512c1 {a b c d e f i : Nat} (h0 : a + b + c ≤ d + e) (h1 : d + e + 1 ≤ f + i) : a + b + 1 ≤ f + i := lin [a,b,c,d,e,f,i] [] [.le (.a (.a (.v 0) (.v 1)) (.v 2)) (.a (.v 3) (.v 4)),.le (.a (.a (.v 3) (.v 4)) (.k 1)) (.a (.v 5) (.v 6))] (.le (.a (.a (.v 0) (.v 1)) (.k 1)) (.a (.v 5) (.v 6))) [[1,1,1]] rfl h0 h1
theorem ob9648 {a b c d : Nat} (h0 : a + b + 1 ≤ c + d) : a + b + 1 ≤ c + d := lin [a,b,c,d] [] [.le (.a (.a (.v 0) (.v 1)) (.k 1)) (.a (.v 2) (.v 3))] (.le (.a (.a (.v 0) (.v 1)) (.k 1)) (.a (.v 2) (.v 3))) [[1,1]] rfl h0
theorem oce8a5 {a : Nat} (h0 : 1 = a) : a ≤ 1 := lin [a] [] [.eq (.k 1) (.v 0)] (.le (.v 0) (.k 1)) [[1,0,1]] rfl h0
theorem od64f1 {a : Nat} (h0 : 0 < a) (h1 : ¬((0 : Nat) + (1 : Nat) = a)) : (0 : Nat) + (1 : Nat) < a := have L := lin [a] []; (Nat.lt_or_gt_of_ne h1).elim (fun g0 => L [.lt (.a (.k 0) (.k 1)) (.v 0)] (.lt (.a (.k 0) (.k 1)) (.v 0)) [[1,1]] rfl g0) (fun g0 => L [.lt (.k 0) (.v 0),.lt (.v 0) (.a (.k 0) (.k 1))] (.lt (.a (.k 0) (.k 1)) (.v 0)) [[0,1,1]] rfl h0 g0)
theorem o92f6d {a : Nat} (h0 : 0 < a) (h1 : ¬(1 = a)) : 1 < a := have L := lin [a] []; (Nat.lt_or_gt_of_ne h1).elim (fun g0 => L [.lt (.k 1) (.v 0)] (.lt (.k 1) (.v 0)) [[1,1]] rfl g0) (fun g0 => L [.lt (.k 0) (.v 0),.lt (.v 0) (.k 1)] (.lt (.k 1) (.v 0)) [[0,1,1]] rfl h0 g0)
theorem o9961e : (0 : Nat) ≤ (0 : Nat) + (1 : Nat) := lin [] [] [] (.le (.k 0) (.a (.k 0) (.k 1))) [[1]] rfl
theorem o63b3a {a b c d e : Nat} (h0 : a ≤ b + c) (h1 : b + c + 1 ≤ d + e) : a + 1 ≤ d + e := lin [a,b,c,d,e] [] [.le (.v 0) (.a (.v 1) (.v 2)),.le (.a (.a (.v 1) (.v 2)) (.k 1)) (.a (.v 3) (.v 4))] (.le (.a (.v 0) (.k 1)) (.a (.v 3) (.v 4))) [[1,1,1]] rfl h0 h1
theorem ob5946 {a b c : Nat} (h0 : a ≤ b) (h1 : b ≤ c) : a ≤ (min b c) := have L := lin [a,b,c,(min b c)] []; L [.le (.v 0) (.v 1),.eq (.v 3) (.v 1)] (.le (.v 0) (.v 3)) [[1,1,0,1]] rfl h0 (Nat.min_eq_left (L [.le (.v 1) (.v 2)] (.le (.v 1) (.v 2)) [[1,1]] rfl h1))
theorem o7dd6b {a b : Nat} (h0 : a < b) : a ≤ (min a b) := have L := lin [a,b,(min a b)] []; L [.eq (.v 2) (.v 0)] (.le (.v 0) (.v 2)) [[1,0,1]] rfl (Nat.min_eq_left (L [.lt (.v 0) (.v 1)] (.le (.v 0) (.v 1)) [[1,1]] rfl h0))
theorem ofecc1 {a b : Nat} : (min a b) ≤ a := lin [a,b,(min a b)] [] [.le (.v 2) (.v 0)] (.le (.v 2) (.v 0)) [[1,1]] rfl (Nat.min_le_left _ _)
theorem od89bb {a : Nat} (h0 : 1 ≤ a) : a = a - 1 + 1 := have L := lin [a,(a - 1)] []; L [.eq (.a (.v 1) (.k 1)) (.v 0)] (.eq (.v 0) (.a (.v 1) (.k 1))) [[1,0,1],[1,1]] rfl (j03 (L [.le (.k 1) (.v 0)] (.le (.k 1) (.v 0)) [[1,1]] rfl h0))
theorem od059b {a : Nat} (h0 : 1 ≤ a) : a - 1 + 1 = a := have L := lin [a,(a - 1)] []; L [.eq (.a (.v 1) (.k 1)) (.v 0)] (.eq (.a (.v 1) (.k 1)) (.v 0)) [[1,1],[1,0,1]] rfl (j03 (L [.le (.k 1) (.v 0)] (.le (.k 1) (.v 0)) [[1,1]] rfl h0))
theorem oc90d4 {a b : Nat} (h0 : 1 < a) (h1 : a ≤ b) : a - 1 < b := have L := lin [a,b,(a - 1)] []; L [.le (.v 0) (.v 1),.eq (.a (.v 2) (.k 1)) (.v 0)] (.lt (.v 2) (.v 1)) [[1,1,1]] rfl h1 (j03 (L [.lt (.k 1) (.v 0)] (.le (.k 1) (.v 0)) [[1,1]] rfl h0))
theorem o38de3 {a b : Nat} (h0 : 1 ≤ a) (h1 : a ≤ b) : a - 1 < b := have L := lin [a,b,(a - 1)] []; L [.le (.v 0) (.v 1),.eq (.a (.v 2) (.k 1)) (.v 0)] (.lt (.v 2) (.v 1)) [[1,1,1]] rfl h1 (j03 (L [.le (.k 1) (.v 0)] (.le (.k 1) (.v 0)) [[1,1]] rfl h0))
theorem oc6c07 {a : Nat} (h0 : 1 < a) : 1 ≤ a := lin [a] [] [.lt (.k 1) (.v 0)] (.le (.k 1) (.v 0)) [[1,1]] rfl h0
theorem o9c21a {a : Nat} (h0 : ¬(a - 1 = 0)) : 1 ≤ a - 1 := have L := lin [a,(a - 1)] []; (Nat.lt_or_gt_of_ne h0).elim (fun g0 => L [.lt (.v 1) (.k 0)] (.le (.k 1) (.v 1)) [[0,1]] rfl g0) (fun g0 => L [.lt (.k 0) (.v 1)] (.le (.k 1) (.v 1)) [[1,1]] rfl g0)
theorem oa234e {a : Nat} (h0 : 1 < a) : 1 < a := lin [a] [] [.lt (.k 1) (.v 0)] (.lt (.k 1) (.v 0)) [[1,1]] rfl h0
theorem o2336b {a b : Nat} (h0 : ¬(a - 1 = 0)) : a - 1 + b ≤ a + b - 1 := have L := lin [a,b,(a - 1),(a + b - 1)] []; (Nat.lt_or_gt_of_ne h0).elim (fun g0 => L [.eq (.a (.v 3) (.k 1)) (.a (.v 0) (.v 1)),.eq (.a (.v 2) (.k 1)) (.v 0)] (.le (.a (.v 2) (.v 1)) (.v 3)) [[1,0,1,1]] rfl (j03 (L [.lt (.v 2) (.k 0)] (.le (.k 1) (.a (.v 0) (.v 1))) [[0,1]] rfl g0)) (j03 (L [.lt (.v 2) (.k 0)] (.le (.k 1) (.v 0)) [[0,1]] rfl g0))) (fun g0 => (Nat.le_total (1 : Nat) (a + b)).elim (fun g1 => (Nat.le_total (1 : Nat) a).elim (fun g2 => L [.eq (.a (.v 3) (.k 1)) (.a (.v 0) (.v 1)),.eq (.a (.v 2) (.k 1)) (.v 0)] (.le (.a (.v 2) (.v 1)) (.v 3)) [[1,0,1,1]] rfl (j03 (L [.le (.k 1) (.a (.v 0) (.v 1))] (.le (.k 1) (.a (.v 0) (.v 1))) [[1,1]] rfl g1)) (j03 (L [.le (.k 1) (.v 0)] (.le (.k 1) (.v 0)) [[1,1]] rfl g2))) (fun g2 => L [.lt (.k 0) (.v 2),.eq (.v 2) (.k 0)] (.le (.a (.v 2) (.v 1)) (.v 3)) [[0,1,1]] rfl g0 (j0b (L [.le (.v 0) (.k 1)] (.le (.v 0) (.k 1)) [[1,1]] rfl g2)))) (fun g1 => L [.lt (.k 0) (.v 2),.eq (.v 2) (.k 0)] (.le (.a (.v 2) (.v 1)) (.v 3)) [[0,1,1]] rfl g0 (j0b (L [.le (.a (.v 0) (.v 1)) (.k 1)] (.le (.v 0) (.k 1)) [[1,1]] rfl g1))))
theorem ob5ba8 {a : Nat} (h0 : 1 ≤ a) : 1 ≤ a := lin [a] [] [.le (.k 1) (.v 0)] (.le (.k 1) (.v 0)) [[1,1]] rfl h0
theorem o64962 {a : Nat} (h0 : 1 < a) (h1 : ¬(a - 1 = 1)) : 1 < a - 1 := have L := lin [a,(a - 1)] []; (Nat.lt_or_gt_of_ne h1).elim (fun g0 => L [.lt (.k 1) (.v 0),.lt (.v 1) (.k 1),.eq (.a (.v 1) (.k 1)) (.v 0)] (.lt (.k 1) (.v 1)) [[0,1,1,0,1]] rfl h0 g0 (j03 (L [.lt (.k 1) (.v 0)] (.le (.k 1) (.v 0)) [[1,1]] rfl h0))) (fun g0 => L [.lt (.k 1) (.v 1)] (.lt (.k 1) (.v 1)) [[1,1]] rfl g0)
theorem o700a1 {a b : Nat} (h0 : 1 < a) : b + (a - 1) ≤ b + a - 1 := have L := lin [a,b,(a - 1),(b + a - 1)] []; L [.eq (.a (.v 3) (.k 1)) (.a (.v 1) (.v 0)),.eq (.a (.v 2) (.k 1)) (.v 0)] (.le (.a (.v 1) (.v 2)) (.v 3)) [[1,0,1,1]] rfl (j03 (L [.lt (.k 1) (.v 0)] (.le (.k 1) (.a (.v 1) (.v 0))) [[1,1]] rfl h0)) (j03 (L [.lt (.k 1) (.v 0)] (.le (.k 1) (.v 0)) [[1,1]] rfl h0))
theorem o81c5e {a b c : Nat} (h0 : a + b ≤ c) : a - 1 + b ≤ c := lin [a,b,c,(a - 1)] [] [.le (.a (.v 0) (.v 1)) (.v 2),.le (.v 3) (.v 0)] (.le (.a (.v 3) (.v 1)) (.v 2)) [[1,1,1]] rfl h0 (j1r _ _)
theorem o5bfce {a b : Nat} (h0 : a ≤ b) : 0 + a ≤ 0 + b := lin [a,b] [] [.le (.v 0) (.v 1)] (.le (.a (.k 0) (.v 0)) (.a (.k 0) (.v 1))) [[1,1]] rfl h0
theorem o5923c {a b c : Nat} (h0 : a ≤ b) (h1 : c < a) : 0 + c < b := lin [a,b,c] [] [.le (.v 0) (.v 1),.lt (.v 2) (.v 0)] (.lt (.a (.k 0) (.v 2)) (.v 1)) [[1,1,1]] rfl h0 h1
theorem od3e53 {a : Nat} (h0 : 1 < a) : a - 1 < a := have L := lin [a,(a - 1)] []; L [.eq (.a (.v 1) (.k 1)) (.v 0)] (.lt (.v 1) (.v 0)) [[1,1]] rfl (j03 (L [.lt (.k 1) (.v 0)] (.le (.k 1) (.v 0)) [[1,1]] rfl h0))
theorem o411bf {a : Nat} (h0 : ¬(a = 1)) (h1 : ¬(a = 0)) : 1 < a := have L := lin [a] []; (Nat.lt_or_gt_of_ne h0).elim (fun g0 => (Nat.lt_or_gt_of_ne h1).elim (fun g1 => L [.lt (.v 0) (.k 0)] (.lt (.k 1) (.v 0)) [[0,1]] rfl g1) (fun g1 => L [.lt (.v 0) (.k 1),.lt (.k 0) (.v 0)] (.lt (.k 1) (.v 0)) [[0,1,1]] rfl g0 g1)) (fun g0 => L [.lt (.k 1) (.v 0)] (.lt (.k 1) (.v 0)) [[1,1]] rfl g0)
theorem oefac5 {a b c : Nat} (h0 : a ≤ b) (h1 : a - c > 0) : c ≤ b := have L := lin [a,b,c,(a - c)] []; (Nat.le_total c a).elim (fun g0 => L [.le (.v 0) (.v 1),.le (.v 2) (.v 0)] (.le (.v 2) (.v 1)) [[1,1,1]] rfl h0 g0) (fun g0 => L [.lt (.k 0) (.v 3),.eq (.v 3) (.k 0)] (.le (.v 2) (.v 1)) [[0,1,1]] rfl h1 (j0b (L [.le (.v 0) (.v 2)] (.le (.v 0) (.v 2)) [[1,1]] rfl g0)))
theorem oab5f3 {a b c d : Nat} (h0 : a + b ≤ c) (h1 : b - d > 0) : a + d ≤ c := have L := lin [a,b,c,d,(b - d)] []; (Nat.le_total d b).elim (fun g0 => L [.le (.a (.v 0) (.v 1)) (.v 2),.le (.v 3) (.v 1)] (.le (.a (.v 0) (.v 3)) (.v 2)) [[1,1,1]] rfl h0 g0) (fun g0 => L [.lt (.k 0) (.v 4),.eq (.v 4) (.k 0)] (.le (.a (.v 0) (.v 3)) (.v 2)) [[0,1,1]] rfl h1 (j0b (L [.le (.v 1) (.v 3)] (.le (.v 1) (.v 3)) [[1,1]] rfl g0)))
theorem o16688 {a b : Nat} (h0 : a ≤ b) (h1 : ¬(b - a > 0)) : a = b := have L := lin [a,b,(b - a)] []; L [.le (.v 0) (.v 1),.nt (.lt (.k 0) (.v 2)),.eq (.a (.v 2) (.v 0)) (.v 1)] (.eq (.v 0) (.v 1)) [[1,1],[1,0,1,0,1]] rfl h0 h1 (j03 (L [.le (.v 0) (.v 1)] (.le (.v 0) (.v 1)) [[1,1]] rfl h0))
theorem of1bef {a b c : Nat} (h0 : a + b ≤ c) : a + (b - 1) ≤ c := lin [a,b,c,(b - 1)] [] [.le (.a (.v 0) (.v 1)) (.v 2),.le (.v 3) (.v 1)] (.le (.a (.v 0) (.v 3)) (.v 2)) [[1,1,1]] rfl h0 (j1r _ _)
theorem oe58d2 {a : Nat} (h0 : 1 ≤ a) : a - 1 < a := have L := lin [a,(a - 1)] []; L [.eq (.a (.v 1) (.k 1)) (.v 0)] (.lt (.v 1) (.v 0)) [[1,1]] rfl (j03 (L [.le (.k 1) (.v 0)] (.le (.k 1) (.v 0)) [[1,1]] rfl h0))
theorem o73506 {a : Nat} (h0 : ¬(a = 0)) : 1 ≤ a := have L := lin [a] []; (Nat.lt_or_gt_of_ne h0).elim (fun g0 => L [.lt (.v 0) (.k 0)] (.le (.k 1) (.v 0)) [[0,1]] rfl g0) (fun g0 => L [.lt (.k 0) (.v 0)] (.le (.k 1) (.v 0)) [[1,1]] rfl g0)
theorem o9634e {a b c d : Nat} (h0 : a + b ≤ c) (h1 : a - d > 0) : d + b ≤ c := have L := lin [a,b,c,d,(a - d)] []; (Nat.le_total d a).elim (fun g0 => L [.le (.a (.v 0) (.v 1)) (.v 2),.le (.v 3) (.v 0)] (.le (.a (.v 3) (.v 1)) (.v 2)) [[1,1,1]] rfl h0 g0) (fun g0 => L [.lt (.k 0) (.v 4),.eq (.v 4) (.k 0)] (.le (.a (.v 3) (.v 1)) (.v 2)) [[0,1,1]] rfl h1 (j0b (L [.le (.v 0) (.v 3)] (.le (.v 0) (.v 3)) [[1,1]] rfl g0)))
theorem o6aad6 {a b c d e f : Nat} (h0 : 1 < a) (h1 : a ≤ b) (h2 : c + a + (max 0 (d + b)) ≤ e + f) : c + a ≤ e + f - 1 := have L := lin [a,b,c,d,e,f,(max (0 : Nat) (d + b)),(e + f - 1)] []; L [.lt (.k 1) (.v 0),.le (.v 0) (.v 1),.le (.a (.a (.v 2) (.v 0)) (.v 6)) (.a (.v 4) (.v 5)),.eq (.a (.v 7) (.k 1)) (.a (.v 4) (.v 5)),.eq (.v 6) (.a (.v 3) (.v 1))] (.le (.a (.v 2) (.v 0)) (.v 7)) [[1,1,1,1,0,1,0,1]] rfl h0 h1 h2 (j03 (L [.lt (.k 1) (.v 0),.le (.a (.a (.v 2) (.v 0)) (.v 6)) (.a (.v 4) (.v 5))] (.le (.k 1) (.a (.v 4) (.v 5))) [[1,1,1]] rfl h0 h2)) (Nat.max_eq_right (L [] (.le (.k 0) (.a (.v 3) (.v 1))) [[1]] rfl))
theorem o32181 {a b c d e f i : Nat} (h0 : a + b + c ≤ d + e) (h1 : 1 < f) (h2 : i + f ≤ a + b - 1) : i + f + (c + 1) ≤ d + e := have L := lin [a,b,c,d,e,f,i,(a + b - 1)] []; (Nat.le_total (1 : Nat) (a + b)).elim (fun g0 => L [.le (.a (.a (.v 0) (.v 1)) (.v 2)) (.a (.v 3) (.v 4)),.le (.a (.v 6) (.v 5)) (.v 7),.eq (.a (.v 7) (.k 1)) (.a (.v 0) (.v 1))] (.le (.a (.a (.v 6) (.v 5)) (.a (.v 2) (.k 1))) (.a (.v 3) (.v 4))) [[1,1,1,1]] rfl h0 h2 (j03 (L [.le (.k 1) (.a (.v 0) (.v 1))] (.le (.k 1) (.a (.v 0) (.v 1))) [[1,1]] rfl g0))) (fun g0 => L [.lt (.k 1) (.v 5),.le (.a (.v 6) (.v 5)) (.v 7),.eq (.v 7) (.k 0)] (.le (.a (.a (.v 6) (.v 5)) (.a (.v 2) (.k 1))) (.a (.v 3) (.v 4))) [[0,1,1,1]] rfl h1 h2 (j0b (L [.le (.a (.v 0) (.v 1)) (.k 1)] (.le (.a (.v 0) (.v 1)) (.k 1)) [[1,1]] rfl g0)))
theorem o352cb {a b c d e f i : Nat} (h0 : a + b + c ≤ d + e) (h1 : f + i ≤ a + b - 1) : f + i ≤ d + e - 1 := have L := lin [a,b,c,d,e,f,i,(a + b - 1),(d + e - 1)] []; (Nat.le_total (1 : Nat) (d + e)).elim (fun g0 => (Nat.le_total (1 : Nat) (a + b)).elim (fun g1 => L [.le (.a (.a (.v 0) (.v 1)) (.v 2)) (.a (.v 3) (.v 4)),.le (.a (.v 5) (.v 6)) (.v 7),.eq (.a (.v 8) (.k 1)) (.a (.v 3) (.v 4)),.eq (.a (.v 7) (.k 1)) (.a (.v 0) (.v 1))] (.le (.a (.v 5) (.v 6)) (.v 8)) [[1,1,1,0,1,1]] rfl h0 h1 (j03 (L [.le (.k 1) (.a (.v 3) (.v 4))] (.le (.k 1) (.a (.v 3) (.v 4))) [[1,1]] rfl g0)) (j03 (L [.le (.k 1) (.a (.v 0) (.v 1))] (.le (.k 1) (.a (.v 0) (.v 1))) [[1,1]] rfl g1))) (fun g1 => L [.le (.a (.v 5) (.v 6)) (.v 7),.eq (.v 7) (.k 0)] (.le (.a (.v 5) (.v 6)) (.v 8)) [[1,1,1]] rfl h1 (j0b (L [.le (.a (.v 0) (.v 1)) (.k 1)] (.le (.a (.v 0) (.v 1)) (.k 1)) [[1,1]] rfl g1)))) (fun g0 => L [.le (.a (.v 5) (.v 6)) (.v 7),.eq (.v 8) (.k 0),.eq (.v 7) (.k 0)] (.le (.a (.v 5) (.v 6)) (.v 8)) [[1,1,0,1,1]] rfl h1 (j0b (L [.le (.a (.v 3) (.v 4)) (.k 1)] (.le (.a (.v 3) (.v 4)) (.k 1)) [[1,1]] rfl g0)) (j0b (L [.le (.a (.a (.v 0) (.v 1)) (.v 2)) (.a (.v 3) (.v 4)),.le (.a (.v 3) (.v 4)) (.k 1)] (.le (.a (.v 0) (.v 1)) (.k 1)) [[1,1,1]] rfl h0 g0)))
theorem o0b928 {a b c d : Nat} (h0 : a + b ≤ c + d - 1) : a + b ≤ c + d - 1 := lin [a,b,c,d,(c + d - 1)] [] [.le (.a (.v 0) (.v 1)) (.v 4)] (.le (.a (.v 0) (.v 1)) (.v 4)) [[1,1]] rfl h0
theorem o1acec {a : Nat} (h0 : 0 < a) : a - 1 < a := have L := lin [a,(a - 1)] []; L [.eq (.a (.v 1) (.k 1)) (.v 0)] (.lt (.v 1) (.v 0)) [[1,1]] rfl (j03 (L [.lt (.k 0) (.v 0)] (.le (.k 1) (.v 0)) [[1,1]] rfl h0))
theorem o3222e {a : Nat} : a ≤ 1 + (a - 1) := lin [a,(a - 1)] [] [.le (.v 0) (.a (.v 1) (.k 1))] (.le (.v 0) (.a (.k 1) (.v 1))) [[1,1]] rfl (j5m _ _)
theorem o2cdd6 {a : Nat} : a ≤ a - 1 + 1 := lin [a,(a - 1)] [] [.le (.v 0) (.a (.v 1) (.k 1))] (.le (.v 0) (.a (.v 1) (.k 1))) [[1,1]] rfl (j5m _ _)
theorem ofaa36 {a : Nat} : a - 1 ≤ a := lin [a,(a - 1)] [] [.le (.v 1) (.v 0)] (.le (.v 1) (.v 0)) [[1,1]] rfl (j1r _ _)
theorem oc4df6 {a : Nat} (h0 : 0 < a) (h1 : ¬(a = 1)) : 1 < a := have L := lin [a] []; (Nat.lt_or_gt_of_ne h1).elim (fun g0 => L [.lt (.k 0) (.v 0),.lt (.v 0) (.k 1)] (.lt (.k 1) (.v 0)) [[0,1,1]] rfl h0 g0) (fun g0 => L [.lt (.k 1) (.v 0)] (.lt (.k 1) (.v 0)) [[1,1]] rfl g0)
theorem ocdd73 {a : Nat} : a ≤ a := lin [a] [] [] (.le (.v 0) (.v 0)) [[1]] rfl
theorem ob0bb0 {a b : Nat} : a - 1 + b + 0 ≤ a + b := lin [a,b,(a - 1)] [] [.le (.v 2) (.v 0)] (.le (.a (.a (.v 2) (.v 1)) (.k 0)) (.a (.v 0) (.v 1))) [[1,1]] rfl (j1r _ _)
theorem o48d72 {a b c d : Nat} (h0 : a ≤ b) (h1 : c < a) : ¬((b ≤ c) ∧ (c < d)) := lin [a,b,c,d] [] [.le (.v 0) (.v 1),.lt (.v 2) (.v 0)] (.nt (.an (.le (.v 1) (.v 2)) (.lt (.v 2) (.v 3)))) [[1,0,1,1]] rfl h0 h1
theorem o6ef3a {a b c d : Nat} (h0 : a < b) (h1 : c + b ≤ d) : c + a < d := lin [a,b,c,d] [] [.lt (.v 0) (.v 1),.le (.a (.v 2) (.v 1)) (.v 3)] (.lt (.a (.v 2) (.v 0)) (.v 3)) [[1,1,1]] rfl h0 h1
theorem od426f {a b c d : Nat} (h0 : a < b) (h1 : c + b ≤ d) : c + a - 1 < d := lin [a,b,c,d,(c + a - 1)] [] [.lt (.v 0) (.v 1),.le (.a (.v 2) (.v 1)) (.v 3),.le (.v 4) (.a (.v 2) (.v 0))] (.lt (.v 4) (.v 3)) [[1,1,1,1]] rfl h0 h1 (j1r _ _)
theorem o6129f {a b : Nat} (h0 : a ≤ b) : a ≤ b + 1 := lin [a,b] [] [.le (.v 0) (.v 1)] (.le (.v 0) (.a (.v 1) (.k 1))) [[1,1]] rfl h0
theorem o27b6a {a b c : Nat} (h0 : a ≤ b + c) (h1 : ¬(a = b + c)) : a ≤ b + c - 1 := have L := lin [a,b,c,(b + c - 1)] []; (Nat.lt_or_gt_of_ne h1).elim (fun g0 => L [.lt (.v 0) (.a (.v 1) (.v 2)),.eq (.a (.v 3) (.k 1)) (.a (.v 1) (.v 2))] (.le (.v 0) (.v 3)) [[1,1,0,1]] rfl g0 (j03 (L [.lt (.v 0) (.a (.v 1) (.v 2))] (.le (.k 1) (.a (.v 1) (.v 2))) [[1,1]] rfl g0))) (fun g0 => L [.le (.v 0) (.a (.v 1) (.v 2)),.lt (.a (.v 1) (.v 2)) (.v 0)] (.le (.v 0) (.v 3)) [[0,1,1]] rfl h0 g0)
theorem o72d4d {a b c : Nat} (h0 : a ≤ b + c) (h1 : ¬(a = b + c)) : b + c - 1 < b + c := have L := lin [a,b,c,(b + c - 1)] []; (Nat.lt_or_gt_of_ne h1).elim (fun g0 => L [.eq (.a (.v 3) (.k 1)) (.a (.v 1) (.v 2))] (.lt (.v 3) (.a (.v 1) (.v 2))) [[1,1]] rfl (j03 (L [.lt (.v 0) (.a (.v 1) (.v 2))] (.le (.k 1) (.a (.v 1) (.v 2))) [[1,1]] rfl g0))) (fun g0 => L [.le (.v 0) (.a (.v 1) (.v 2)),.lt (.a (.v 1) (.v 2)) (.v 0)] (.lt (.v 3) (.a (.v 1) (.v 2))) [[0,1,1]] rfl h0 g0)
theorem o19765 {a b c : Nat} (h0 : a < b + (c + 1)) (h1 : ¬(a = b + c)) : a < b + c := have L := lin [a,b,c] []; (Nat.lt_or_gt_of_ne h1).elim (fun g0 => L [.lt (.v 0) (.a (.v 1) (.v 2))] (.lt (.v 0) (.a (.v 1) (.v 2))) [[1,1]] rfl g0) (fun g0 => L [.lt (.v 0) (.a (.v 1) (.a (.v 2) (.k 1))),.lt (.a (.v 1) (.v 2)) (.v 0)] (.lt (.v 0) (.a (.v 1) (.v 2))) [[0,1,1]] rfl h0 g0)
theorem oc46de {a : Nat} (h0 : 1 ≤ a) : 2 ≤ a + 1 := lin [a] [] [.le (.k 1) (.v 0)] (.le (.k 2) (.a (.v 0) (.k 1))) [[1,1]] rfl h0
theorem o4c446 {a b c : Nat} (h0 : a + (b + 1) - (0 + 1) ≤ c) (h1 : c < a + (b + 1)) : c = a + (b + 1) - 1 := have L := lin [a,b,c,(a + (b + 1) - (0 + 1)),(a + (b + 1) - 1)] []; L [.le (.v 3) (.v 2),.lt (.v 2) (.a (.v 0) (.a (.v 1) (.k 1))),.eq (.a (.v 4) (.k 1)) (.a (.v 0) (.a (.v 1) (.k 1))),.eq (.a (.v 3) (.a (.k 0) (.k 1))) (.a (.v 0) (.a (.v 1) (.k 1)))] (.eq (.v 2) (.v 4)) [[1,0,1,0,1],[1,1,0,1,0,0,1]] rfl h0 h1 (j03 (L [] (.le (.k 1) (.a (.v 0) (.a (.v 1) (.k 1)))) [[1]] rfl)) (j03 (L [.lt (.v 2) (.a (.v 0) (.a (.v 1) (.k 1)))] (.le (.a (.k 0) (.k 1)) (.a (.v 0) (.a (.v 1) (.k 1)))) [[1,1]] rfl h1))
theorem o9f05f {a : Nat} : (0 : Nat) + (1 : Nat) ≤ a + 1 := lin [a] [] [] (.le (.a (.k 0) (.k 1)) (.a (.v 0) (.k 1))) [[1]] rfl
theorem o27c6b {a b : Nat} (h0 : 2 ≤ (max (a + 1) b)) : 2 ≤ (max (a + 1) b) := lin [a,b,(max (a + 1) b)] [] [.le (.k 2) (.v 2)] (.le (.k 2) (.v 2)) [[1,1]] rfl h0
theorem o977f2 {a b : Nat} (h0 : (max (a + 1) b) ≤ b) : (max (a + 1) b) ≤ b := lin [a,b,(max (a + 1) b)] [] [.le (.v 2) (.v 1)] (.le (.v 2) (.v 1)) [[1,1]] rfl h0
theorem ofc0e8 {a b c d e : Nat} (h0 : a + b ≤ c) (h1 : d < b) (h2 : e = c) : a + d < e := lin [a,b,c,d,e] [] [.le (.a (.v 0) (.v 1)) (.v 2),.lt (.v 3) (.v 1),.eq (.v 4) (.v 2)] (.lt (.a (.v 0) (.v 3)) (.v 4)) [[1,1,1,0,1]] rfl h0 h1 h2
theorem o25a4d {a b c d e : Nat} (h0 : a + b ≤ c) (h1 : 2 ≤ d) (h2 : d ≤ b) (h3 : e = c) : a + d - 1 < e := have L := lin [a,b,c,d,e,(a + d - 1)] []; L [.le (.a (.v 0) (.v 1)) (.v 2),.le (.v 3) (.v 1),.eq (.v 4) (.v 2),.eq (.a (.v 5) (.k 1)) (.a (.v 0) (.v 3))] (.lt (.v 5) (.v 4)) [[1,1,1,0,1,1]] rfl h0 h2 h3 (j03 (L [.le (.k 2) (.v 3)] (.le (.k 1) (.a (.v 0) (.v 3))) [[1,1]] rfl h1))
theorem od9149 {a b c : Nat} (h0 : a + 1 ≤ b) : c ≤ c + b - (a + 1) := have L := lin [a,b,c,(c + b - (a + 1))] []; L [.le (.a (.v 0) (.k 1)) (.v 1),.eq (.a (.v 3) (.a (.v 0) (.k 1))) (.a (.v 2) (.v 1))] (.le (.v 2) (.v 3)) [[1,1,0,1]] rfl h0 (j03 (L [.le (.a (.v 0) (.k 1)) (.v 1)] (.le (.a (.v 0) (.k 1)) (.a (.v 2) (.v 1))) [[1,1]] rfl h0))
theorem o8ed8f {a b c d e : Nat} (h0 : a + b ≤ c) (h1 : d ≤ b) (h2 : e = c) : a + d ≤ e := lin [a,b,c,d,e] [] [.le (.a (.v 0) (.v 1)) (.v 2),.le (.v 3) (.v 1),.eq (.v 4) (.v 2)] (.le (.a (.v 0) (.v 3)) (.v 4)) [[1,1,1,0,1]] rfl h0 h1 h2
theorem od2f55 {a : Nat} (h0 : 2 ≤ a) : 2 ≤ a + 1 := lin [a] [] [.le (.k 2) (.v 0)] (.le (.k 2) (.a (.v 0) (.k 1))) [[1,1]] rfl h0
theorem o9d62e {a : Nat} (h0 : 2 ≤ a) : 2 ≤ a := lin [a] [] [.le (.k 2) (.v 0)] (.le (.k 2) (.v 0)) [[1,1]] rfl h0
theorem o59865 {zx zy : Int} (h0 : ¬(zx < zy)) (h1 : ¬(zy < zx)) : zx = zy := lin [] [zx,zy] [.nt (.it (.v 0) (.v 1)),.nt (.it (.v 1) (.v 0))] (.ie (.v 0) (.v 1)) [[1,0,1],[1,1]] rfl h0 h1
theorem o0663a {a b : Nat} (h0 : a + 1 ≤ b) : a + 1 + 1 ≤ b + 1 := lin [a,b] [] [.le (.a (.v 0) (.k 1)) (.v 1)] (.le (.a (.a (.v 0) (.k 1)) (.k 1)) (.a (.v 1) (.k 1))) [[1,1]] rfl h0
theorem o5bf90 {a b : Nat} : a + (b + 1) - 1 = a + b := have L := lin [a,b,(a + (b + 1) - 1)] []; L [.eq (.a (.v 2) (.k 1)) (.a (.v 0) (.a (.v 1) (.k 1)))] (.eq (.v 2) (.a (.v 0) (.v 1))) [[1,1],[1,0,1]] rfl (j03 (L [] (.le (.k 1) (.a (.v 0) (.a (.v 1) (.k 1)))) [[1]] rfl))
theorem o2606b {a b c d : Nat} (h0 : a + (b + 1) - (c + 1 + 1) ≤ d) : a + b - (c + 1) ≤ d := have L := lin [a,b,c,d,(a + (b + 1) - (c + 1 + 1)),(a + b - (c + 1))] []; (Nat.le_total (c + 1) (a + b)).elim (fun g0 => L [.le (.v 4) (.v 3),.eq (.a (.v 5) (.a (.v 2) (.k 1))) (.a (.v 0) (.v 1)),.eq (.a (.v 4) (.a (.a (.v 2) (.k 1)) (.k 1))) (.a (.v 0) (.a (.v 1) (.k 1)))] (.le (.v 5) (.v 3)) [[1,1,1,0,0,1]] rfl h0 (j03 (L [.le (.a (.v 2) (.k 1)) (.a (.v 0) (.v 1))] (.le (.a (.v 2) (.k 1)) (.a (.v 0) (.v 1))) [[1,1]] rfl g0)) (j03 (L [.le (.a (.v 2) (.k 1)) (.a (.v 0) (.v 1))] (.le (.a (.a (.v 2) (.k 1)) (.k 1)) (.a (.v 0) (.a (.v 1) (.k 1)))) [[1,1]] rfl g0))) (fun g0 => L [.eq (.v 5) (.k 0)] (.le (.v 5) (.v 3)) [[1,1]] rfl (j0b (L [.le (.a (.v 0) (.v 1)) (.a (.v 2) (.k 1))] (.le (.a (.v 0) (.v 1)) (.a (.v 2) (.k 1))) [[1,1]] rfl g0)))
theorem o8ab2c {a b c d : Nat} (h0 : a + b ≤ c) (h1 : d = c) : a + b ≤ d := lin [a,b,c,d] [] [.le (.a (.v 0) (.v 1)) (.v 2),.eq (.v 3) (.v 2)] (.le (.a (.v 0) (.v 1)) (.v 3)) [[1,1,0,1]] rfl h0 h1
theorem o4ec16 {a : Nat} (h0 : 2 ≤ a) : 1 ≤ a := lin [a] [] [.le (.k 2) (.v 0)] (.le (.k 1) (.v 0)) [[1,1]] rfl h0
theorem o687d5 {a b : Nat} (h0 : 2 ≤ a) (h1 : a ≤ b) : 1 ≤ b := lin [a,b] [] [.le (.k 2) (.v 0),.le (.v 0) (.v 1)] (.le (.k 1) (.v 1)) [[1,1,1]] rfl h0 h1
theorem oa44f4 {a b c d : Nat} (h0 : a ≤ b) (h1 : b ≤ c) (h2 : c < a + d) : (a ≤ b) ∧ (b < a + d) := lin [a,b,c,d] [] [.le (.v 0) (.v 1),.le (.v 1) (.v 2),.lt (.v 2) (.a (.v 0) (.v 3))] (.an (.le (.v 0) (.v 1)) (.lt (.v 1) (.a (.v 0) (.v 3)))) [[1,1],[1,0,1,1]] rfl h0 h1 h2
theorem ofd146 {a b c d : Nat} (h0 : a ≤ b) (h1 : b ≤ c) (h2 : c < a + d) : (a ≤ c) ∧ (c < a + d) := lin [a,b,c,d] [] [.le (.v 0) (.v 1),.le (.v 1) (.v 2),.lt (.v 2) (.a (.v 0) (.v 3))] (.an (.le (.v 0) (.v 2)) (.lt (.v 2) (.a (.v 0) (.v 3)))) [[1,1,1],[1,0,0,1]] rfl h0 h1 h2
theorem o2baa6 {a b c : Nat} (h0 : a < b + c) : b ≤ b + (b + c) - 1 - a := have L := lin [a,b,c,(b + (b + c) - 1 - a),(b + (b + c) - 1)] []; L [.lt (.v 0) (.a (.v 1) (.v 2)),.eq (.a (.v 4) (.k 1)) (.a (.v 1) (.a (.v 1) (.v 2))),.eq (.a (.v 3) (.v 0)) (.v 4)] (.le (.v 1) (.v 3)) [[2,2,0,2,0,2]] rfl h0 (j03 (L [.lt (.v 0) (.a (.v 1) (.v 2))] (.le (.k 1) (.a (.v 1) (.a (.v 1) (.v 2)))) [[2,2]] rfl h0)) (j03 (L [.lt (.v 0) (.a (.v 1) (.v 2)),.eq (.a (.v 4) (.k 1)) (.a (.v 1) (.a (.v 1) (.v 2)))] (.le (.v 0) (.v 4)) [[2,2,0,2]] rfl h0 (j03 (L [.lt (.v 0) (.a (.v 1) (.v 2))] (.le (.k 1) (.a (.v 1) (.a (.v 1) (.v 2)))) [[2,2]] rfl h0))))
theorem oaf630 {a b c d : Nat} (h0 : a ≤ b) : c + (c + d) - 1 - b ≤ c + (c + d) - 1 - a := have L := lin [a,b,c,d,(c + (c + d) - 1 - b),(c + (c + d) - 1 - a),(c + (c + d) - 1)] []; (Nat.le_total (1 : Nat) (c + (c + d))).elim (fun g0 => (Nat.le_total a (c + (c + d) - 1)).elim (fun g1 => (Nat.le_total b (c + (c + d) - 1)).elim (fun g2 => L [.le (.v 0) (.v 1),.eq (.a (.v 5) (.v 0)) (.v 6),.eq (.a (.v 4) (.v 1)) (.v 6)] (.le (.v 4) (.v 5)) [[1,1,0,1,1]] rfl h0 (j03 (L [.le (.v 0) (.v 6)] (.le (.v 0) (.v 6)) [[1,1]] rfl g1)) (j03 (L [.le (.v 1) (.v 6)] (.le (.v 1) (.v 6)) [[1,1]] rfl g2))) (fun g2 => L [.eq (.v 4) (.k 0)] (.le (.v 4) (.v 5)) [[1,1]] rfl (j0b (L [.le (.v 6) (.v 1)] (.le (.v 6) (.v 1)) [[1,1]] rfl g2)))) (fun g1 => L [.eq (.v 5) (.k 0),.eq (.v 4) (.k 0)] (.le (.v 4) (.v 5)) [[1,0,1,1]] rfl (j0b (L [.le (.v 6) (.v 0)] (.le (.v 6) (.v 0)) [[1,1]] rfl g1)) (j0b (L [.le (.v 0) (.v 1),.le (.v 6) (.v 0)] (.le (.v 6) (.v 1)) [[1,1,1]] rfl h0 g1)))) (fun g0 => L [.eq (.v 5) (.k 0),.eq (.v 4) (.k 0)] (.le (.v 4) (.v 5)) [[1,0,1,1]] rfl (j0b (L [.eq (.v 6) (.k 0)] (.le (.v 6) (.v 0)) [[1,1]] rfl (j0b (L [.le (.a (.v 2) (.a (.v 2) (.v 3))) (.k 1)] (.le (.a (.v 2) (.a (.v 2) (.v 3))) (.k 1)) [[2,2]] rfl g0)))) (j0b (L [.eq (.v 6) (.k 0)] (.le (.v 6) (.v 1)) [[1,1]] rfl (j0b (L [.le (.a (.v 2) (.a (.v 2) (.v 3))) (.k 1)] (.le (.a (.v 2) (.a (.v 2) (.v 3))) (.k 1)) [[2,2]] rfl g0)))))
theorem o32497 {a b c d : Nat} (h0 : a ≤ b) (h1 : c < a + d) : a + (a + d) - 1 - b < a + d := have L := lin [a,b,c,d,(a + (a + d) - 1 - b),(a + (a + d) - 1)] []; (Nat.le_total b (a + (a + d) - 1)).elim (fun g0 => L [.le (.v 0) (.v 1),.eq (.a (.v 5) (.k 1)) (.a (.v 0) (.a (.v 0) (.v 3))),.eq (.a (.v 4) (.v 1)) (.v 5)] (.lt (.v 4) (.a (.v 0) (.v 3))) [[1,1,1,0,1]] rfl h0 (j03 (L [.lt (.v 2) (.a (.v 0) (.v 3))] (.le (.k 1) (.a (.v 0) (.a (.v 0) (.v 3)))) [[2,2]] rfl h1)) (j03 (L [.le (.v 1) (.v 5)] (.le (.v 1) (.v 5)) [[1,1]] rfl g0))) (fun g0 => L [.lt (.v 2) (.a (.v 0) (.v 3)),.eq (.v 4) (.k 0)] (.lt (.v 4) (.a (.v 0) (.v 3))) [[1,1,1]] rfl h1 (j0b (L [.le (.v 5) (.v 1)] (.le (.v 5) (.v 1)) [[1,1]] rfl g0)))
theorem o76ad6 {a b c : Nat} (h0 : a ≤ b) (h1 : b ≤ c) (h2 : c < a + 1) : b = c := lin [a,b,c] [] [.le (.v 0) (.v 1),.le (.v 1) (.v 2),.lt (.v 2) (.a (.v 0) (.k 1))] (.eq (.v 1) (.v 2)) [[1,0,1],[1,1,0,1]] rfl h0 h1 h2
theorem oed25a {a : Nat} (h0 : (max 1 a) ≤ a) : (max 1 a) = a := lin [a,(max (1 : Nat) a)] [] [.le (.v 1) (.v 0),.le (.v 0) (.v 1)] (.eq (.v 1) (.v 0)) [[1,1],[1,0,1]] rfl h0 (Nat.le_max_right _ _)
theorem od5985 {a b c d : Nat} (h0 : a + b ≤ c) (h1 : 1 ≤ d) (h2 : d ≤ b) : a + d - 1 < c := have L := lin [a,b,c,d,(a + d - 1)] []; L [.le (.a (.v 0) (.v 1)) (.v 2),.le (.v 3) (.v 1),.eq (.a (.v 4) (.k 1)) (.a (.v 0) (.v 3))] (.lt (.v 4) (.v 2)) [[1,1,1,1]] rfl h0 h2 (j03 (L [.le (.k 1) (.v 3)] (.le (.k 1) (.a (.v 0) (.v 3))) [[1,1]] rfl h1))
theorem o96fcf {a : Nat} : 1 ≤ a + 1 := lin [a] [] [] (.le (.k 1) (.a (.v 0) (.k 1))) [[1]] rfl
theorem o5d89d {a b c d : Nat} (h0 : a + b ≤ c) (h1 : d < b) : a < c := lin [a,b,c,d] [] [.le (.a (.v 0) (.v 1)) (.v 2),.lt (.v 3) (.v 1)] (.lt (.v 0) (.v 2)) [[1,1,1]] rfl h0 h1
theorem ofa971 {a b c d : Nat} (h0 : a + b ≤ c) (h1 : d < b) : a + d - 1 < c := lin [a,b,c,d,(a + d - 1)] [] [.le (.a (.v 0) (.v 1)) (.v 2),.lt (.v 3) (.v 1),.le (.v 4) (.a (.v 0) (.v 3))] (.lt (.v 4) (.v 2)) [[1,1,1,1]] rfl h0 h1 (j1r _ _)
theorem o938db {a b c : Nat} (h0 : a < b + c) : a ≤ b + c - 1 := have L := lin [a,b,c,(b + c - 1)] []; L [.lt (.v 0) (.a (.v 1) (.v 2)),.eq (.a (.v 3) (.k 1)) (.a (.v 1) (.v 2))] (.le (.v 0) (.v 3)) [[1,1,0,1]] rfl h0 (j03 (L [.lt (.v 0) (.a (.v 1) (.v 2))] (.le (.k 1) (.a (.v 1) (.v 2))) [[1,1]] rfl h0))
theorem o67ad0 {a b c : Nat} (h0 : a < b + c) : b + c - 1 < b + c := have L := lin [a,b,c,(b + c - 1)] []; L [.eq (.a (.v 3) (.k 1)) (.a (.v 1) (.v 2))] (.lt (.v 3) (.a (.v 1) (.v 2))) [[1,1]] rfl (j03 (L [.lt (.v 0) (.a (.v 1) (.v 2))] (.le (.k 1) (.a (.v 1) (.v 2))) [[1,1]] rfl h0))
theorem ofc3cf {zx zy zz : Int} (h0 : ¬(zx < zy)) (h1 : zx ≤ zz) (h2 : zz ≤ zy) : zz = zy := lin [] [zx,zy,zz] [.nt (.it (.v 0) (.v 1)),.il (.v 0) (.v 2),.il (.v 2) (.v 1)] (.ie (.v 2) (.v 1)) [[1,0,0,1],[1,1,1]] rfl h0 h1 h2
theorem oc9f27 {a b c d : Nat} (h0 : a + b ≤ c) (h1 : d < b) : a + d ≤ c := lin [a,b,c,d] [] [.le (.a (.v 0) (.v 1)) (.v 2),.lt (.v 3) (.v 1)] (.le (.a (.v 0) (.v 3)) (.v 2)) [[1,1,1]] rfl h0 h1
theorem o151ab {a b c : Nat} (h0 : a ≤ b + c) (h1 : ¬(a = b + c)) : a < b + c := have L := lin [a,b,c] []; (Nat.lt_or_gt_of_ne h1).elim (fun g0 => L [.lt (.v 0) (.a (.v 1) (.v 2))] (.lt (.v 0) (.a (.v 1) (.v 2))) [[1,1]] rfl g0) (fun g0 => L [.le (.v 0) (.a (.v 1) (.v 2)),.lt (.a (.v 1) (.v 2)) (.v 0)] (.lt (.v 0) (.a (.v 1) (.v 2))) [[0,1,1]] rfl h0 g0)
theorem o3012f {a b c d : Nat} (h0 : a ≤ b) (h1 : b < c + (d + 1)) (h2 : ¬(b = c + d)) : a < c + d := have L := lin [a,b,c,d] []; (Nat.lt_or_gt_of_ne h2).elim (fun g0 => L [.le (.v 0) (.v 1),.lt (.v 1) (.a (.v 2) (.v 3))] (.lt (.v 0) (.a (.v 2) (.v 3))) [[1,1,1]] rfl h0 g0) (fun g0 => L [.lt (.v 1) (.a (.v 2) (.a (.v 3) (.k 1))),.lt (.a (.v 2) (.v 3)) (.v 1)] (.lt (.v 0) (.a (.v 2) (.v 3))) [[0,1,1]] rfl h1 g0)
theorem o2e439 {a b c : Nat} (h0 : a ≤ b) (h1 : b ≤ c) : a ≤ c := lin [a,b,c] [] [.le (.v 0) (.v 1),.le (.v 1) (.v 2)] (.le (.v 0) (.v 2)) [[1,1,1]] rfl h0 h1
theorem o367d3 {a : Nat} (h0 : 1 ≤ a) (h1 : ¬(a > 1)) : a = 1 := lin [a] [] [.le (.k 1) (.v 0),.nt (.lt (.k 1) (.v 0))] (.eq (.v 0) (.k 1)) [[1,0,1],[1,1]] rfl h0 h1
theorem o53eb9 {a b c : Nat} (h0 : a ≤ b) (h1 : b ≤ c) (h2 : c < a + (1 + 1)) (h3 : ¬(b = c)) : c = a + 1 := have L := lin [a,b,c] []; (Nat.lt_or_gt_of_ne h3).elim (fun g0 => L [.le (.v 0) (.v 1),.lt (.v 2) (.a (.v 0) (.a (.k 1) (.k 1))),.lt (.v 1) (.v 2)] (.eq (.v 2) (.a (.v 0) (.k 1))) [[1,0,1],[1,1,0,1]] rfl h0 h2 g0) (fun g0 => L [.le (.v 1) (.v 2),.lt (.v 2) (.v 1)] (.eq (.v 2) (.a (.v 0) (.k 1))) [[0,1,1],[0,1,1]] rfl h1 g0)
theorem o3a276 {a b c : Nat} (h0 : a ≤ b) (h1 : b ≤ c) (h2 : c < a + (1 + 1)) (h3 : ¬(b = c)) : b = a + 1 - 1 := have L := lin [a,b,c,(a + 1 - 1)] []; (Nat.lt_or_gt_of_ne h3).elim (fun g0 => L [.le (.v 0) (.v 1),.lt (.v 2) (.a (.v 0) (.a (.k 1) (.k 1))),.lt (.v 1) (.v 2),.eq (.a (.v 3) (.k 1)) (.a (.v 0) (.k 1))] (.eq (.v 1) (.v 3)) [[1,0,1,1,0,1],[1,1,0,0,1]] rfl h0 h2 g0 (j03 (L [] (.le (.k 1) (.a (.v 0) (.k 1))) [[1]] rfl))) (fun g0 => L [.le (.v 0) (.v 1),.le (.v 1) (.v 2),.lt (.v 2) (.v 1),.eq (.a (.v 3) (.k 1)) (.a (.v 0) (.k 1))] (.eq (.v 1) (.v 3)) [[0,0,1,1],[1,1,0,0,1]] rfl h0 h1 g0 (j03 (L [.le (.v 1) (.v 2),.lt (.v 2) (.v 1)] (.le (.k 1) (.a (.v 0) (.k 1))) [[0,1,1]] rfl h1 g0)))
theorem ocbfbe {a b c : Nat} (h0 : a + b ≤ c) : b ≤ c := lin [a,b,c] [] [.le (.a (.v 0) (.v 1)) (.v 2)] (.le (.v 1) (.v 2)) [[1,1]] rfl h0
theorem o0abea {a b c d : Nat} (h0 : a + b ≤ c) (h1 : d < a) : ¬(d = c - b) := have L := lin [a,b,c,d,(c - b)] []; L [.le (.a (.v 0) (.v 1)) (.v 2),.lt (.v 3) (.v 0),.eq (.a (.v 4) (.v 1)) (.v 2)] (.nt (.eq (.v 3) (.v 4))) [[0,1,1,1,0,1]] rfl h0 h1 (j03 (L [.le (.a (.v 0) (.v 1)) (.v 2)] (.le (.v 1) (.v 2)) [[1,1]] rfl h0))
theorem o42aab {a b c d : Nat} (h0 : a + b ≤ c) (h1 : d < a) : ¬((c - b < d) ∧ (d ≤ c)) := have L := lin [a,b,c,d,(c - b)] []; L [.le (.a (.v 0) (.v 1)) (.v 2),.lt (.v 3) (.v 0),.eq (.a (.v 4) (.v 1)) (.v 2)] (.nt (.an (.lt (.v 4) (.v 3)) (.le (.v 3) (.v 2)))) [[1,0,1,1,0,1]] rfl h0 h1 (j03 (L [.le (.a (.v 0) (.v 1)) (.v 2)] (.le (.v 1) (.v 2)) [[1,1]] rfl h0))
theorem odb411 {a b c d e : Nat} (h0 : a ≤ b) (h1 : b ≤ c) (h2 : c < a + (min (max d 1) e)) (h3 : d = 0) : b = c := have L := lin [a,b,c,d,e,(min (max d (1 : Nat)) e),(max d (1 : Nat))] []; L [.le (.v 0) (.v 1),.le (.v 1) (.v 2),.lt (.v 2) (.a (.v 0) (.v 5)),.eq (.v 6) (.k 1),.le (.v 5) (.v 6)] (.eq (.v 1) (.v 2)) [[1,0,1],[1,1,0,1,1,0,1]] rfl h0 h1 h2 (Nat.max_eq_right (L [.eq (.v 3) (.k 0)] (.le (.v 3) (.k 1)) [[1,1]] rfl h3)) (Nat.min_le_left _ _)
theorem o91075 {a b c d : Nat} (h0 : a < b + (min (max c 1) d)) (h1 : ¬(c = 0)) : a < b + c := have L := lin [a,b,c,d,(min (max c (1 : Nat)) d),(max c (1 : Nat))] []; (Nat.lt_or_gt_of_ne h1).elim (fun g0 => L [.lt (.v 2) (.k 0)] (.lt (.v 0) (.a (.v 1) (.v 2))) [[0,1]] rfl g0) (fun g0 => L [.lt (.v 0) (.a (.v 1) (.v 4)),.eq (.v 5) (.v 2),.le (.v 4) (.v 5)] (.lt (.v 0) (.a (.v 1) (.v 2))) [[1,1,1,0,1]] rfl h0 (Nat.max_eq_left (L [.lt (.k 0) (.v 2)] (.le (.k 1) (.v 2)) [[1,1]] rfl g0)) (Nat.min_le_left _ _))
theorem o0c0e8 {a b : Nat} : (min (max (max a 1) b) b) = b := have L := lin [a,b,(min (max (max a (1 : Nat)) b) b),(max (max a (1 : Nat)) b),(max a (1 : Nat))] []; L [.eq (.v 2) (.v 1)] (.eq (.v 2) (.v 1)) [[1,1],[1,0,1]] rfl (Nat.min_eq_right (L [.le (.v 1) (.v 3)] (.le (.v 1) (.v 3)) [[1,1]] rfl (Nat.le_max_right _ _)))
theorem obb26d {a b : Nat} (h0 : a < b) : (min a b) = a := have L := lin [a,b,(min a b)] []; L [.eq (.v 2) (.v 0)] (.eq (.v 2) (.v 0)) [[1,1],[1,0,1]] rfl (Nat.min_eq_left (L [.lt (.v 0) (.v 1)] (.le (.v 0) (.v 1)) [[1,1]] rfl h0))
theorem obbee4 {a : Nat} : a - 0 ≤ a - 0 := lin [a,(a - 0)] [] [] (.le (.v 1) (.v 1)) [[1]] rfl
theorem o7e3aa {a : Nat} {zx zy : Int} (h0 : a < 0) : zx ≤ zy := lin [a] [zx,zy] [.lt (.v 0) (.k 0)] (.il (.v 0) (.v 1)) [[0,1]] rfl h0
theorem o2a0a7 {a b : Nat} {zx zy : Int} (h0 : a ≤ b) (h1 : b < a) : zx < zy := lin [a,b] [zx,zy] [.le (.v 0) (.v 1),.lt (.v 1) (.v 0)] (.it (.v 0) (.v 1)) [[0,1,1]] rfl h0 h1
theorem o4a61f {a b c d e f i : Nat} (h0 : a + b ≤ c) (h1 : d < b) (h2 : e = c) (h3 : f ≤ d) (h4 : ¬(i ≥ f)) : a + ((i + f) / 2) < e := lin [a,b,c,d,e,f,i,((i + f) / 2)] [] [.le (.a (.v 0) (.v 1)) (.v 2),.lt (.v 3) (.v 1),.eq (.v 4) (.v 2),.le (.v 5) (.v 3),.nt (.le (.v 5) (.v 6)),.le (.m 2 (.v 7)) (.a (.v 6) (.v 5))] (.lt (.a (.v 0) (.v 7)) (.v 4)) [[2,2,2,0,2,2,1,1]] rfl h0 h1 h2 h3 h4 (j2e _ _)
theorem oce27f {a b : Nat} (h0 : ¬(a ≥ b)) : a ≤ (a + b) / 2 := lin [a,b,((a + b) / 2)] [] [.nt (.le (.v 1) (.v 0)),.lt (.a (.v 0) (.v 1)) (.a (.m 2 (.v 2)) (.k 2))] (.le (.v 0) (.v 2)) [[2,1,1]] rfl h0 (j7m _ (by decide))
theorem o0cf0d {a b c : Nat} (h0 : a ≤ b) (h1 : ¬(c ≥ a)) : (c + a) / 2 ≤ b := lin [a,b,c,((c + a) / 2)] [] [.le (.v 0) (.v 1),.nt (.le (.v 0) (.v 2)),.le (.m 2 (.v 3)) (.a (.v 2) (.v 0))] (.le (.v 3) (.v 1)) [[2,2,1,1]] rfl h0 h1 (j2e _ _)
theorem o9bfc5 {a b c d : Nat} (h0 : a - b ≤ c - d) : ((b + a) / 2) - b ≤ c - (d + 1) := by omega
theorem oa21d4 {a b c : Nat} : a ≤ a + ((b + c) / 2) := lin [a,b,c,((b + c) / 2)] [] [] (.le (.v 0) (.a (.v 0) (.v 3))) [[1]] rfl
theorem o0b511 {a b c d : Nat} (h0 : (a + b) / 2 ≤ c) : d + ((a + b) / 2) ≤ d + c := lin [a,b,c,d,((a + b) / 2)] [] [.le (.v 4) (.v 2)] (.le (.a (.v 3) (.v 4)) (.a (.v 3) (.v 2))) [[1,1]] rfl h0
theorem ob7c71 {a b c : Nat} (h0 : a < b) : c + a < c + b := lin [a,b,c] [] [.lt (.v 0) (.v 1)] (.lt (.a (.v 2) (.v 0)) (.a (.v 2) (.v 1))) [[1,1]] rfl h0
theorem ofbd1f {a b : Nat} (h0 : ¬(a ≥ b)) : ((a + b) / 2) + 1 ≤ b := lin [a,b,((a + b) / 2)] [] [.nt (.le (.v 1) (.v 0)),.le (.m 2 (.v 2)) (.a (.v 0) (.v 1))] (.le (.a (.v 2) (.k 1)) (.v 1)) [[2,1,1]] rfl h0 (j2e _ _)
theorem o043da {a b c d : Nat} (h0 : a - b ≤ c - d) : a - (((b + a) / 2) + 1) ≤ c - (d + 1) := by omega
theorem oca6bf {a b c d : Nat} (h0 : a < ((b + c) / 2) + 1) : d + a ≤ d + ((b + c) / 2) := lin [a,b,c,d,((b + c) / 2)] [] [.lt (.v 0) (.a (.v 4) (.k 1))] (.le (.a (.v 3) (.v 0)) (.a (.v 3) (.v 4))) [[1,1]] rfl h0
theorem of2367 {a b c d : Nat} (h0 : a ≤ b) (h1 : ¬(c ≥ a)) : d + ((c + a) / 2) < d + b := lin [a,b,c,d,((c + a) / 2)] [] [.le (.v 0) (.v 1),.nt (.le (.v 0) (.v 2)),.le (.m 2 (.v 4)) (.a (.v 2) (.v 0))] (.lt (.a (.v 3) (.v 4)) (.a (.v 3) (.v 1))) [[2,2,1,1]] rfl h0 h1 (j2e _ _)
theorem o7444d {a b c : Nat} : a + (a + b - (a + c)) ≤ a + b := have L := lin [a,b,c,(a + b - (a + c))] []; (Nat.le_total (a + c) (a + b)).elim (fun g0 => L [.eq (.a (.v 3) (.a (.v 0) (.v 2))) (.a (.v 0) (.v 1))] (.le (.a (.v 0) (.v 3)) (.a (.v 0) (.v 1))) [[1,1]] rfl (j03 (L [.le (.a (.v 0) (.v 2)) (.a (.v 0) (.v 1))] (.le (.a (.v 0) (.v 2)) (.a (.v 0) (.v 1))) [[1,1]] rfl g0))) (fun g0 => L [.eq (.v 3) (.k 0)] (.le (.a (.v 0) (.v 3)) (.a (.v 0) (.v 1))) [[1,1]] rfl (j0b (L [.le (.a (.v 0) (.v 1)) (.a (.v 0) (.v 2))] (.le (.a (.v 0) (.v 1)) (.a (.v 0) (.v 2))) [[1,1]] rfl g0)))
theorem o4f671 {a b : Nat} (h0 : a < b) : (min (a + 1) b) = a + 1 := have L := lin [a,b,(min (a + 1) b)] []; L [.eq (.v 2) (.a (.v 0) (.k 1))] (.eq (.v 2) (.a (.v 0) (.k 1))) [[1,1],[1,0,1]] rfl (Nat.min_eq_left (L [.lt (.v 0) (.v 1)] (.le (.a (.v 0) (.k 1)) (.v 1)) [[1,1]] rfl h0))
theorem of63d4 {a b c : Nat} : a + b - (a + c) ≤ a + b := lin [a,b,c,(a + b - (a + c))] [] [.le (.v 3) (.a (.v 0) (.v 1))] (.le (.v 3) (.a (.v 0) (.v 1))) [[1,1]] rfl (j1r _ _)
theorem o93db8 {a b c : Nat} (h0 : a ≤ b) : c + b - (c + b - (c + a)) = c + a := have L := lin [a,b,c,(c + b - (c + b - (c + a))),(c + b - (c + a))] []; L [.eq (.a (.v 4) (.a (.v 2) (.v 0))) (.a (.v 2) (.v 1)),.eq (.a (.v 3) (.v 4)) (.a (.v 2) (.v 1))] (.eq (.v 3) (.a (.v 2) (.v 0))) [[1,0,1,1],[1,1,0,0,1]] rfl (j03 (L [.le (.v 0) (.v 1)] (.le (.a (.v 2) (.v 0)) (.a (.v 2) (.v 1))) [[1,1]] rfl h0)) (j03 (L [.eq (.a (.v 4) (.a (.v 2) (.v 0))) (.a (.v 2) (.v 1))] (.le (.v 4) (.a (.v 2) (.v 1))) [[1,1]] rfl (j03 (L [.le (.v 0) (.v 1)] (.le (.a (.v 2) (.v 0)) (.a (.v 2) (.v 1))) [[1,1]] rfl h0))))
theorem oa7551 {a b c : Nat} (h0 : a ≤ b) (h1 : b < a + c) : b - a < c := have L := lin [a,b,c,(b - a)] []; L [.lt (.v 1) (.a (.v 0) (.v 2)),.eq (.a (.v 3) (.v 0)) (.v 1)] (.lt (.v 3) (.v 2)) [[1,1,1]] rfl h1 (j03 (L [.le (.v 0) (.v 1)] (.le (.v 0) (.v 1)) [[1,1]] rfl h0))
theorem o03304 {a b : Nat} (h0 : a ≤ b) : a + (b - a) = b := have L := lin [a,b,(b - a)] []; L [.eq (.a (.v 2) (.v 0)) (.v 1)] (.eq (.a (.v 0) (.v 2)) (.v 1)) [[1,1],[1,0,1]] rfl (j03 (L [.le (.v 0) (.v 1)] (.le (.v 0) (.v 1)) [[1,1]] rfl h0))
theorem o58ec2 {a b c : Nat} (h0 : a + b ≤ c) : b ≤ c - a := have L := lin [a,b,c,(c - a)] []; L [.le (.a (.v 0) (.v 1)) (.v 2),.eq (.a (.v 3) (.v 0)) (.v 2)] (.le (.v 1) (.v 3)) [[1,1,0,1]] rfl h0 (j03 (L [.le (.a (.v 0) (.v 1)) (.v 2)] (.le (.v 0) (.v 2)) [[1,1]] rfl h0))
theorem o9d738 {a b c d : Nat} (h0 : a + b ≤ c) (h1 : c < a + d) : c - a < d := have L := lin [a,b,c,d,(c - a)] []; L [.lt (.v 2) (.a (.v 0) (.v 3)),.eq (.a (.v 4) (.v 0)) (.v 2)] (.lt (.v 4) (.v 3)) [[1,1,1]] rfl h1 (j03 (L [.le (.a (.v 0) (.v 1)) (.v 2)] (.le (.v 0) (.v 2)) [[1,1]] rfl h0))
theorem o75013 {a b c : Nat} (h0 : a + b ≤ c) : a + (c - a) = c := have L := lin [a,b,c,(c - a)] []; L [.eq (.a (.v 3) (.v 0)) (.v 2)] (.eq (.a (.v 0) (.v 3)) (.v 2)) [[1,1],[1,0,1]] rfl (j03 (L [.le (.a (.v 0) (.v 1)) (.v 2)] (.le (.v 0) (.v 2)) [[1,1]] rfl h0))
theorem o5f3e0 {a b c d : Nat} (h0 : (a + b < c) ∧ (c ≤ a + d)) : a + b ≤ c - 1 := have L := lin [a,b,c,d,(c - 1)] []; L [.an (.lt (.a (.v 0) (.v 1)) (.v 2)) (.le (.v 2) (.a (.v 0) (.v 3))),.eq (.a (.v 4) (.k 1)) (.v 2)] (.le (.a (.v 0) (.v 1)) (.v 4)) [[1,1,0,0,1]] rfl h0 (j03 (L [.an (.lt (.a (.v 0) (.v 1)) (.v 2)) (.le (.v 2) (.a (.v 0) (.v 3)))] (.le (.k 1) (.v 2)) [[1,1]] rfl h0))
theorem o8947b {a b c d : Nat} (h0 : (a + b < c) ∧ (c ≤ a + d)) : c - 1 < a + d := have L := lin [a,b,c,d,(c - 1)] []; L [.an (.lt (.a (.v 0) (.v 1)) (.v 2)) (.le (.v 2) (.a (.v 0) (.v 3))),.eq (.a (.v 4) (.k 1)) (.v 2)] (.lt (.v 4) (.a (.v 0) (.v 3))) [[1,0,1,1]] rfl h0 (j03 (L [.an (.lt (.a (.v 0) (.v 1)) (.v 2)) (.le (.v 2) (.a (.v 0) (.v 3)))] (.le (.k 1) (.v 2)) [[1,1]] rfl h0))
theorem occ98e {a b c d : Nat} (h0 : a + b + (c + 1) ≤ d) : a + (b + 1) + c ≤ d := lin [a,b,c,d] [] [.le (.a (.a (.v 0) (.v 1)) (.a (.v 2) (.k 1))) (.v 3)] (.le (.a (.a (.v 0) (.a (.v 1) (.k 1))) (.v 2)) (.v 3)) [[1,1]] rfl h0
theorem oea3b0 {a b c d : Nat} (h0 : a + b + (c + 1) ≤ d) : a + b < d := lin [a,b,c,d] [] [.le (.a (.a (.v 0) (.v 1)) (.a (.v 2) (.k 1))) (.v 3)] (.lt (.a (.v 0) (.v 1)) (.v 3)) [[1,1]] rfl h0
theorem o58ede {a b : Nat} : a + (b + 1) = a + b + 1 := lin [a,b] [] [] (.eq (.a (.v 0) (.a (.v 1) (.k 1))) (.a (.a (.v 0) (.v 1)) (.k 1))) [[1],[1]] rfl
theorem o8baf7 {a b c : Nat} : a + b < a + b + 1 + c := lin [a,b,c] [] [] (.lt (.a (.v 0) (.v 1)) (.a (.a (.a (.v 0) (.v 1)) (.k 1)) (.v 2))) [[1]] rfl
theorem o976b0 {a b c : Nat} : a + b + 1 + c = a + b + (c + 1) := lin [a,b,c] [] [] (.eq (.a (.a (.a (.v 0) (.v 1)) (.k 1)) (.v 2)) (.a (.a (.v 0) (.v 1)) (.a (.v 2) (.k 1)))) [[1],[1]] rfl
theorem o62af5 {a b c : Nat} (h0 : a < b) : c + a ≤ c + b := lin [a,b,c] [] [.lt (.v 0) (.v 1)] (.le (.a (.v 2) (.v 0)) (.a (.v 2) (.v 1))) [[1,1]] rfl h0
theorem o73cd1 {a b c d : Nat} (h0 : a < (min b c) - d) : d + a < b := have L := lin [a,b,c,d,((min b c) - d),(min b c)] []; (Nat.le_total c b).elim (fun g0 => (Nat.le_total d (min b c)).elim (fun g1 => L [.lt (.v 0) (.v 4),.le (.v 2) (.v 1),.eq (.v 5) (.v 2),.eq (.a (.v 4) (.v 3)) (.v 5)] (.lt (.a (.v 3) (.v 0)) (.v 1)) [[1,1,1,1,0,1]] rfl h0 g0 (Nat.min_eq_right (L [.le (.v 2) (.v 1)] (.le (.v 2) (.v 1)) [[1,1]] rfl g0)) (j03 (L [.le (.v 3) (.v 5)] (.le (.v 3) (.v 5)) [[1,1]] rfl g1))) (fun g1 => L [.lt (.v 0) (.v 4),.eq (.v 4) (.k 0)] (.lt (.a (.v 3) (.v 0)) (.v 1)) [[0,1,1]] rfl h0 (j0b (L [.le (.v 5) (.v 3)] (.le (.v 5) (.v 3)) [[1,1]] rfl g1)))) (fun g0 => (Nat.le_total d (min b c)).elim (fun g1 => L [.lt (.v 0) (.v 4),.eq (.v 5) (.v 1),.eq (.a (.v 4) (.v 3)) (.v 5)] (.lt (.a (.v 3) (.v 0)) (.v 1)) [[1,1,1,0,1]] rfl h0 (Nat.min_eq_left (L [.le (.v 1) (.v 2)] (.le (.v 1) (.v 2)) [[1,1]] rfl g0)) (j03 (L [.le (.v 3) (.v 5)] (.le (.v 3) (.v 5)) [[1,1]] rfl g1))) (fun g1 => L [.lt (.v 0) (.v 4),.eq (.v 4) (.k 0)] (.lt (.a (.v 3) (.v 0)) (.v 1)) [[0,1,1]] rfl h0 (j0b (L [.le (.v 5) (.v 3)] (.le (.v 5) (.v 3)) [[1,1]] rfl g1))))
theorem o7da63 {a b c d e f : Nat} (h0 : a ≤ b) (h1 : c ≤ d) (h2 : d ≤ e) (h3 : e < a) (h4 : f = b) : d - c < (min a f) - c := have L := lin [a,b,c,d,e,f,(d - c),((min a f) - c),(min a f)] []; L [.le (.v 3) (.v 4),.lt (.v 4) (.v 0),.eq (.v 8) (.v 0),.eq (.a (.v 7) (.v 2)) (.v 8),.eq (.a (.v 6) (.v 2)) (.v 3)] (.lt (.v 6) (.v 7)) [[1,1,1,0,1,0,1,1]] rfl h2 h3 (Nat.min_eq_left (L [.le (.v 0) (.v 1),.eq (.v 5) (.v 1)] (.le (.v 0) (.v 5)) [[1,1,0,1]] rfl h0 h4)) (j03 (L [.le (.v 2) (.v 3),.le (.v 3) (.v 4),.lt (.v 4) (.v 0),.eq (.v 8) (.v 0)] (.le (.v 2) (.v 8)) [[1,1,1,1,0,1]] rfl h1 h2 h3 (Nat.min_eq_left (L [.le (.v 0) (.v 1),.eq (.v 5) (.v 1)] (.le (.v 0) (.v 5)) [[1,1,0,1]] rfl h0 h4)))) (j03 (L [.le (.v 2) (.v 3)] (.le (.v 2) (.v 3)) [[1,1]] rfl h1))
theorem o3ec4b {a b c d e f : Nat} (h0 : a ≤ b) (h1 : c ≤ d) (h2 : d ≤ e) (h3 : e < a) (h4 : f = b) : e - c < (min a f) - c := have L := lin [a,b,c,d,e,f,(e - c),((min a f) - c),(min a f)] []; L [.lt (.v 4) (.v 0),.eq (.v 8) (.v 0),.eq (.a (.v 7) (.v 2)) (.v 8),.eq (.a (.v 6) (.v 2)) (.v 4)] (.lt (.v 6) (.v 7)) [[1,1,0,1,0,1,1]] rfl h3 (Nat.min_eq_left (L [.le (.v 0) (.v 1),.eq (.v 5) (.v 1)] (.le (.v 0) (.v 5)) [[1,1,0,1]] rfl h0 h4)) (j03 (L [.le (.v 2) (.v 3),.le (.v 3) (.v 4),.lt (.v 4) (.v 0),.eq (.v 8) (.v 0)] (.le (.v 2) (.v 8)) [[1,1,1,1,0,1]] rfl h1 h2 h3 (Nat.min_eq_left (L [.le (.v 0) (.v 1),.eq (.v 5) (.v 1)] (.le (.v 0) (.v 5)) [[1,1,0,1]] rfl h0 h4)))) (j03 (L [.le (.v 2) (.v 3),.le (.v 3) (.v 4)] (.le (.v 2) (.v 4)) [[1,1,1]] rfl h1 h2))
theorem odc558 {a b c : Nat} (h0 : a ≤ b) (h1 : b ≤ c) (h2 : ¬(b = c)) : b - a < c - a := have L := lin [a,b,c,(b - a),(c - a)] []; (Nat.lt_or_gt_of_ne h2).elim (fun g0 => L [.lt (.v 1) (.v 2),.eq (.a (.v 4) (.v 0)) (.v 2),.eq (.a (.v 3) (.v 0)) (.v 1)] (.lt (.v 3) (.v 4)) [[1,1,0,1,1]] rfl g0 (j03 (L [.le (.v 0) (.v 1),.le (.v 1) (.v 2)] (.le (.v 0) (.v 2)) [[1,1,1]] rfl h0 h1)) (j03 (L [.le (.v 0) (.v 1)] (.le (.v 0) (.v 1)) [[1,1]] rfl h0))) (fun g0 => L [.le (.v 1) (.v 2),.lt (.v 2) (.v 1)] (.lt (.v 3) (.v 4)) [[0,1,1]] rfl h1 g0)
theorem of7759 {a b c : Nat} (h0 : a ≤ b) (h1 : b ≤ c) : a + (c - a) = c := have L := lin [a,b,c,(c - a)] []; L [.eq (.a (.v 3) (.v 0)) (.v 2)] (.eq (.a (.v 0) (.v 3)) (.v 2)) [[1,1],[1,0,1]] rfl (j03 (L [.le (.v 0) (.v 1),.le (.v 1) (.v 2)] (.le (.v 0) (.v 2)) [[1,1,1]] rfl h0 h1))
theorem o6edbd {a b c : Nat} (h0 : a ≤ b) (h1 : c = b) : a ≤ c := lin [a,b,c] [] [.le (.v 0) (.v 1),.eq (.v 2) (.v 1)] (.le (.v 0) (.v 2)) [[1,1,0,1]] rfl h0 h1
theorem of9964 {a b c d : Nat} (h0 : a ≤ b) (h1 : c = b) : (min a c) - d = a - d := have L := lin [a,b,c,d,((min a c) - d),(a - d),(min a c)] []; (Nat.le_total d a).elim (fun g0 => L [.eq (.v 6) (.v 0),.eq (.a (.v 5) (.v 3)) (.v 0),.eq (.a (.v 4) (.v 3)) (.v 6)] (.eq (.v 4) (.v 5)) [[1,1,0,0,1,1],[1,0,1,1,0,0,1]] rfl (Nat.min_eq_left (L [.le (.v 0) (.v 1),.eq (.v 2) (.v 1)] (.le (.v 0) (.v 2)) [[1,1,0,1]] rfl h0 h1)) (j03 (L [.le (.v 3) (.v 0)] (.le (.v 3) (.v 0)) [[1,1]] rfl g0)) (j03 (L [.le (.v 3) (.v 0),.eq (.v 6) (.v 0)] (.le (.v 3) (.v 6)) [[1,1,0,1]] rfl g0 (Nat.min_eq_left (L [.le (.v 0) (.v 1),.eq (.v 2) (.v 1)] (.le (.v 0) (.v 2)) [[1,1,0,1]] rfl h0 h1))))) (fun g0 => L [.eq (.v 5) (.k 0),.eq (.v 4) (.k 0)] (.eq (.v 4) (.v 5)) [[1,0,1,1],[1,1,0,0,1]] rfl (j0b (L [.le (.v 0) (.v 3)] (.le (.v 0) (.v 3)) [[1,1]] rfl g0)) (j0b (L [.le (.v 0) (.v 3),.eq (.v 6) (.v 0)] (.le (.v 6) (.v 3)) [[1,1,1]] rfl g0 (Nat.min_eq_left (L [.le (.v 0) (.v 1),.eq (.v 2) (.v 1)] (.le (.v 0) (.v 2)) [[1,1,0,1]] rfl h0 h1)))))
theorem o2e33a {a b c d e : Nat} (h0 : a ≤ b) (h1 : b ≤ c) (h2 : d = c) (h3 : e < a) : e < (min a d) := have L := lin [a,b,c,d,e,(min a d)] []; L [.lt (.v 4) (.v 0),.eq (.v 5) (.v 0)] (.lt (.v 4) (.v 5)) [[1,1,0,1]] rfl h3 (Nat.min_eq_left (L [.le (.v 0) (.v 1),.le (.v 1) (.v 2),.eq (.v 3) (.v 2)] (.le (.v 0) (.v 3)) [[1,1,1,0,1]] rfl h0 h1 h2))
theorem of4d5d {a b c d e : Nat} (h0 : a ≤ b) (h1 : c = b - a) (h2 : b ≤ d) : (min a e) + c ≤ d := have L := lin [a,b,c,d,e,(b - a),(min a e)] []; L [.eq (.v 2) (.v 5),.le (.v 1) (.v 3),.le (.v 6) (.v 0),.eq (.a (.v 5) (.v 0)) (.v 1)] (.le (.a (.v 6) (.v 2)) (.v 3)) [[1,1,0,1,1,1]] rfl h1 h2 (Nat.min_le_left _ _) (j03 (L [.le (.v 0) (.v 1)] (.le (.v 0) (.v 1)) [[1,1]] rfl h0))
theorem of9089 {a b c d e : Nat} (h0 : a ≤ b) (h1 : b ≤ c) (h2 : d = c) (h3 : b ≤ e) : b + (e - ((min a d) + (b - a))) = e := have L := lin [a,b,c,d,e,(e - ((min a d) + (b - a))),(min a d),(b - a)] []; L [.eq (.a (.v 7) (.v 0)) (.v 1),.eq (.v 6) (.v 0),.eq (.a (.v 5) (.a (.v 6) (.v 7))) (.v 4)] (.eq (.a (.v 1) (.v 5)) (.v 4)) [[1,0,1,0,1,1],[1,1,0,1,0,0,1]] rfl (j03 (L [.le (.v 0) (.v 1)] (.le (.v 0) (.v 1)) [[1,1]] rfl h0)) (Nat.min_eq_left (L [.le (.v 0) (.v 1),.le (.v 1) (.v 2),.eq (.v 3) (.v 2)] (.le (.v 0) (.v 3)) [[1,1,1,0,1]] rfl h0 h1 h2)) (j03 (L [.le (.v 1) (.v 4),.eq (.a (.v 7) (.v 0)) (.v 1),.eq (.v 6) (.v 0)] (.le (.a (.v 6) (.v 7)) (.v 4)) [[1,1,1,0,1]] rfl h3 (j03 (L [.le (.v 0) (.v 1)] (.le (.v 0) (.v 1)) [[1,1]] rfl h0)) (Nat.min_eq_left (L [.le (.v 0) (.v 1),.le (.v 1) (.v 2),.eq (.v 3) (.v 2)] (.le (.v 0) (.v 3)) [[1,1,1,0,1]] rfl h0 h1 h2))))
theorem o87529 {a b c d e : Nat} (h0 : a ≤ b) (h1 : c = b) (h2 : d = a - e) : a ≤ (min e c) + d := have L := lin [a,b,c,d,e,(a - e),(min e c)] []; (Nat.le_total c e).elim (fun g0 => L [.le (.v 0) (.v 1),.eq (.v 2) (.v 1),.eq (.v 6) (.v 2)] (.le (.v 0) (.a (.v 6) (.v 3))) [[1,1,0,1,0,1]] rfl h0 h1 (Nat.min_eq_right (L [.le (.v 2) (.v 4)] (.le (.v 2) (.v 4)) [[1,1]] rfl g0))) (fun g0 => L [.eq (.v 3) (.v 5),.eq (.v 6) (.v 4),.le (.v 0) (.a (.v 5) (.v 4))] (.le (.v 0) (.a (.v 6) (.v 3))) [[1,0,1,0,1,1]] rfl h2 (Nat.min_eq_left (L [.le (.v 4) (.v 2)] (.le (.v 4) (.v 2)) [[1,1]] rfl g0)) (j5m _ _))
theorem of97ee {a b c d : Nat} (h0 : a ≤ b) (h1 : c = b - a) : (min a d) + c ≤ b := have L := lin [a,b,c,d,(b - a),(min a d)] []; L [.eq (.v 2) (.v 4),.le (.v 5) (.v 0),.eq (.a (.v 4) (.v 0)) (.v 1)] (.le (.a (.v 5) (.v 2)) (.v 1)) [[1,1,0,1,1]] rfl h1 (Nat.min_le_left _ _) (j03 (L [.le (.v 0) (.v 1)] (.le (.v 0) (.v 1)) [[1,1]] rfl h0))
theorem oac07c {a b c d : Nat} (h0 : a ≤ b) (h1 : b ≤ c) (h2 : d = c) : a ≤ (min a d) := have L := lin [a,b,c,d,(min a d)] []; L [.eq (.v 4) (.v 0)] (.le (.v 0) (.v 4)) [[1,0,1]] rfl (Nat.min_eq_left (L [.le (.v 0) (.v 1),.le (.v 1) (.v 2),.eq (.v 3) (.v 2)] (.le (.v 0) (.v 3)) [[1,1,1,0,1]] rfl h0 h1 h2))
theorem of10d6 {a b c : Nat} (h0 : 1 ≤ a) (h1 : b + a ≤ c) : b < c := lin [a,b,c] [] [.le (.k 1) (.v 0),.le (.a (.v 1) (.v 0)) (.v 2)] (.lt (.v 1) (.v 2)) [[1,1,1]] rfl h0 h1
theorem o3472e {a b c : Nat} (h0 : 1 ≤ a) (h1 : b + a ≤ c) : b - 1 < c := lin [a,b,c,(b - 1)] [] [.le (.k 1) (.v 0),.le (.a (.v 1) (.v 0)) (.v 2),.le (.v 3) (.v 1)] (.lt (.v 3) (.v 2)) [[1,1,1,1]] rfl h0 h1 (j1r _ _)
theorem o35238 {a b c d : Nat} (h0 : a = b + c) (h1 : d < c) : b + d < a := lin [a,b,c,d] [] [.eq (.v 0) (.a (.v 1) (.v 2)),.lt (.v 3) (.v 2)] (.lt (.a (.v 1) (.v 3)) (.v 0)) [[1,0,1,1]] rfl h0 h1
theorem o54526 {a : Nat} (h0 : 1 ≤ a) : 0 < a := lin [a] [] [.le (.k 1) (.v 0)] (.lt (.k 0) (.v 0)) [[1,1]] rfl h0
theorem off5b9 {a b c d e f : Nat} (h0 : a = b + c) (h1 : a + d ≤ e) (h2 : f < c) : b + f < e := lin [a,b,c,d,e,f] [] [.eq (.v 0) (.a (.v 1) (.v 2)),.le (.a (.v 0) (.v 3)) (.v 4),.lt (.v 5) (.v 2)] (.lt (.a (.v 1) (.v 5)) (.v 4)) [[1,0,1,1,1]] rfl h0 h1 h2
theorem o7fcbf {a b c d e : Nat} (h0 : a = b + c) (h1 : c - d = 0) (h2 : b ≤ e) (h3 : ¬(a ≤ e)) : e - b < d := have L := lin [a,b,c,d,e,(c - d),(e - b)] []; L [.eq (.v 0) (.a (.v 1) (.v 2)),.eq (.v 5) (.k 0),.nt (.le (.v 0) (.v 4)),.eq (.a (.v 6) (.v 1)) (.v 4),.le (.v 2) (.a (.v 5) (.v 3))] (.lt (.v 6) (.v 3)) [[1,1,0,1,0,1,1,0,1]] rfl h0 h1 h3 (j03 (L [.le (.v 1) (.v 4)] (.le (.v 1) (.v 4)) [[1,1]] rfl h2)) (j5m _ _)
theorem o6f490 {a b : Nat} (h0 : ¬(a < b)) : b ≤ a := lin [a,b] [] [.nt (.lt (.v 0) (.v 1))] (.le (.v 1) (.v 0)) [[1,1]] rfl h0
theorem o954ce {a b c d : Nat} (h0 : a = b + c) (h1 : ¬(c - d = 0)) : b + d + (c - d) - 1 = a - 1 := by omega
theorem o0b455 {a b c d : Nat} (h0 : a + b ≤ c) (h1 : d < b) : a + d < c := lin [a,b,c,d] [] [.le (.a (.v 0) (.v 1)) (.v 2),.lt (.v 3) (.v 1)] (.lt (.a (.v 0) (.v 3)) (.v 2)) [[1,1,1]] rfl h0 h1
theorem of2430 {a b c : Nat} (h0 : a = 0) : a ≤ b - c := lin [a,b,c,(b - c)] [] [.eq (.v 0) (.k 0)] (.le (.v 0) (.v 3)) [[1,1]] rfl h0
theorem o3532c {a b c : Nat} (h0 : a < b + c) (h1 : ¬(a < b)) : a - b < c := have L := lin [a,b,c,(a - b)] []; L [.lt (.v 0) (.a (.v 1) (.v 2)),.eq (.a (.v 3) (.v 1)) (.v 0)] (.lt (.v 3) (.v 2)) [[1,1,1]] rfl h0 (j03 (L [.nt (.lt (.v 0) (.v 1))] (.le (.v 1) (.v 0)) [[1,1]] rfl h1))
theorem o63e44 {a b : Nat} (h0 : ¬(a < b)) : b + (a - b) = a := have L := lin [a,b,(a - b)] []; L [.eq (.a (.v 2) (.v 1)) (.v 0)] (.eq (.a (.v 1) (.v 2)) (.v 0)) [[1,1],[1,0,1]] rfl (j03 (L [.nt (.lt (.v 0) (.v 1))] (.le (.v 1) (.v 0)) [[1,1]] rfl h0))
theorem o42d20 {a b : Nat} (h0 : ¬(a ≤ b)) : b ≤ a - 1 := have L := lin [a,b,(a - 1)] []; L [.nt (.le (.v 0) (.v 1)),.eq (.a (.v 2) (.k 1)) (.v 0)] (.le (.v 1) (.v 2)) [[1,1,0,1]] rfl h0 (j03 (L [.nt (.le (.v 0) (.v 1))] (.le (.k 1) (.v 0)) [[1,1]] rfl h0))
theorem oba26a {a b : Nat} (h0 : ¬(a ≤ b)) : a - 1 < a := have L := lin [a,b,(a - 1)] []; L [.eq (.a (.v 2) (.k 1)) (.v 0)] (.lt (.v 2) (.v 0)) [[1,1]] rfl (j03 (L [.nt (.le (.v 0) (.v 1))] (.le (.k 1) (.v 0)) [[1,1]] rfl h0))
theorem o4b1ab {a b c d e : Nat} (h0 : a + b ≤ c) : (min a c) - (d + e) = a - (d + e) := have L := lin [a,b,c,d,e,((min a c) - (d + e)),(a - (d + e)),(min a c)] []; (Nat.le_total (d + e) a).elim (fun g0 => L [.eq (.v 7) (.v 0),.eq (.a (.v 6) (.a (.v 3) (.v 4))) (.v 0),.eq (.a (.v 5) (.a (.v 3) (.v 4))) (.v 7)] (.eq (.v 5) (.v 6)) [[1,1,0,0,1,1],[1,0,1,1,0,0,1]] rfl (Nat.min_eq_left (L [.le (.a (.v 0) (.v 1)) (.v 2)] (.le (.v 0) (.v 2)) [[1,1]] rfl h0)) (j03 (L [.le (.a (.v 3) (.v 4)) (.v 0)] (.le (.a (.v 3) (.v 4)) (.v 0)) [[1,1]] rfl g0)) (j03 (L [.le (.a (.v 3) (.v 4)) (.v 0),.eq (.v 7) (.v 0)] (.le (.a (.v 3) (.v 4)) (.v 7)) [[1,1,0,1]] rfl g0 (Nat.min_eq_left (L [.le (.a (.v 0) (.v 1)) (.v 2)] (.le (.v 0) (.v 2)) [[1,1]] rfl h0))))) (fun g0 => L [.eq (.v 6) (.k 0),.eq (.v 5) (.k 0)] (.eq (.v 5) (.v 6)) [[1,0,1,1],[1,1,0,0,1]] rfl (j0b (L [.le (.v 0) (.a (.v 3) (.v 4))] (.le (.v 0) (.a (.v 3) (.v 4))) [[1,1]] rfl g0)) (j0b (L [.le (.v 0) (.a (.v 3) (.v 4)),.eq (.v 7) (.v 0)] (.le (.v 7) (.a (.v 3) (.v 4))) [[1,1,1]] rfl g0 (Nat.min_eq_left (L [.le (.a (.v 0) (.v 1)) (.v 2)] (.le (.v 0) (.v 2)) [[1,1]] rfl h0)))))
theorem o4cddb {a b c d : Nat} (h0 : a + b ≤ c) (h1 : d ≤ b) : (min (a + d) c) - a = d := have L := lin [a,b,c,d,((min (a + d) c) - a),(min (a + d) c)] []; L [.eq (.v 5) (.a (.v 0) (.v 3)),.eq (.a (.v 4) (.v 0)) (.v 5)] (.eq (.v 4) (.v 3)) [[1,1,0,1],[1,0,1,0,1]] rfl (Nat.min_eq_left (L [.le (.a (.v 0) (.v 1)) (.v 2),.le (.v 3) (.v 1)] (.le (.a (.v 0) (.v 3)) (.v 2)) [[1,1,1]] rfl h0 h1)) (j03 (L [.eq (.v 5) (.a (.v 0) (.v 3))] (.le (.v 0) (.v 5)) [[1,0,1]] rfl (Nat.min_eq_left (L [.le (.a (.v 0) (.v 1)) (.v 2),.le (.v 3) (.v 1)] (.le (.a (.v 0) (.v 3)) (.v 2)) [[1,1,1]] rfl h0 h1))))
theorem o4df7c {a b c : Nat} (h0 : a + b ≤ c) : a ≤ c := lin [a,b,c] [] [.le (.a (.v 0) (.v 1)) (.v 2)] (.le (.v 0) (.v 2)) [[1,1]] rfl h0
theorem o162df {a b c d : Nat} (h0 : a ≤ b) (h1 : c < d + a) : c < d + b := lin [a,b,c,d] [] [.le (.v 0) (.v 1),.lt (.v 2) (.a (.v 3) (.v 0))] (.lt (.v 2) (.a (.v 3) (.v 1))) [[1,1,1]] rfl h0 h1
theorem oc6867 {a b c d : Nat} (h0 : a + b ≤ c) (h1 : d ≤ b) : a + d ≤ c := lin [a,b,c,d] [] [.le (.a (.v 0) (.v 1)) (.v 2),.le (.v 3) (.v 1)] (.le (.a (.v 0) (.v 3)) (.v 2)) [[1,1,1]] rfl h0 h1
theorem o182b1 {a b c d : Nat} (h0 : a = b + c) (h1 : ¬(c - d = 0)) : 0 < a - (b + d) := have L := lin [a,b,c,d,(c - d),(a - (b + d))] []; (Nat.lt_or_gt_of_ne h1).elim (fun g0 => L [.lt (.v 4) (.k 0)] (.lt (.k 0) (.v 5)) [[0,1]] rfl g0) (fun g0 => (Nat.le_total (b + d) a).elim (fun g1 => L [.eq (.v 0) (.a (.v 1) (.v 2)),.lt (.k 0) (.v 4),.eq (.a (.v 5) (.a (.v 1) (.v 3))) (.v 0),.eq (.a (.v 4) (.v 3)) (.v 2)] (.lt (.k 0) (.v 5)) [[1,0,1,1,0,1,1]] rfl h0 g0 (j03 (L [.le (.a (.v 1) (.v 3)) (.v 0)] (.le (.a (.v 1) (.v 3)) (.v 0)) [[1,1]] rfl g1)) (j03 (L [.eq (.v 0) (.a (.v 1) (.v 2)),.le (.a (.v 1) (.v 3)) (.v 0)] (.le (.v 3) (.v 2)) [[1,1,0,1]] rfl h0 g1))) (fun g1 => L [.lt (.k 0) (.v 4),.eq (.v 4) (.k 0)] (.lt (.k 0) (.v 5)) [[0,1,1]] rfl g0 (j0b (L [.eq (.v 0) (.a (.v 1) (.v 2)),.le (.v 0) (.a (.v 1) (.v 3))] (.le (.v 2) (.v 3)) [[1,0,1,1]] rfl h0 g1))))
theorem o02282 {a : Nat} (h0 : ¬(a = 0)) : 0 < a := have L := lin [a] []; (Nat.lt_or_gt_of_ne h0).elim (fun g0 => L [.lt (.v 0) (.k 0)] (.lt (.k 0) (.v 0)) [[0,1]] rfl g0) (fun g0 => L [.lt (.k 0) (.v 0)] (.lt (.k 0) (.v 0)) [[1,1]] rfl g0)
theorem o4f446 {a b : Nat} (h0 : ¬(a = 0)) : b + 0 < b + a := have L := lin [a,b] []; (Nat.lt_or_gt_of_ne h0).elim (fun g0 => L [.lt (.v 0) (.k 0)] (.lt (.a (.v 1) (.k 0)) (.a (.v 1) (.v 0))) [[0,1]] rfl g0) (fun g0 => L [.lt (.k 0) (.v 0)] (.lt (.a (.v 1) (.k 0)) (.a (.v 1) (.v 0))) [[1,1]] rfl g0)
theorem oc3d3c {a b c d e : Nat} (h0 : a = b + c) (h1 : b + d ≤ e) (h2 : e < a) : e - b < c := have L := lin [a,b,c,d,e,(e - b)] []; L [.eq (.v 0) (.a (.v 1) (.v 2)),.lt (.v 4) (.v 0),.eq (.a (.v 5) (.v 1)) (.v 4)] (.lt (.v 5) (.v 2)) [[1,1,0,1,1]] rfl h0 h2 (j03 (L [.le (.a (.v 1) (.v 3)) (.v 4)] (.le (.v 1) (.v 4)) [[1,1]] rfl h1))
theorem o48381 {a b c d : Nat} (h0 : a = b + c) (h1 : ¬(c - d = 0)) : b + d + (a - (b + d) - 1) = a - 1 := by omega
theorem o3adc9 {a b : Nat} (h0 : a - 1 ≤ b) (h1 : b < a) : b = a - 1 := have L := lin [a,b,(a - 1)] []; L [.le (.v 2) (.v 1),.lt (.v 1) (.v 0),.eq (.a (.v 2) (.k 1)) (.v 0)] (.eq (.v 1) (.v 2)) [[1,0,1,0,1],[1,1]] rfl h0 h1 (j03 (L [.lt (.v 1) (.v 0)] (.le (.k 1) (.v 0)) [[1,1]] rfl h1))
theorem o535c4 {a b c d e f : Nat} (h0 : a = b - (c + d)) (h1 : e = f) : a + e = b - (c + d) + f := lin [a,b,c,d,e,f,(b - (c + d))] [] [.eq (.v 0) (.v 6),.eq (.v 4) (.v 5)] (.eq (.a (.v 0) (.v 4)) (.a (.v 6) (.v 5))) [[1,1,0,1],[1,0,1,0,1]] rfl h0 h1
theorem o88573 {a b c d e f i : Nat} (h0 : a = b + c) (h1 : a + d ≤ e) (h2 : ¬(c - f = 0)) (h3 : i ≤ d) : b + f + 0 + (a - (b + f) + i) ≤ e := have L := lin [a,b,c,d,e,f,i,(c - f),(a - (b + f))] []; (Nat.lt_or_gt_of_ne h2).elim (fun g0 => L [.le (.a (.v 0) (.v 3)) (.v 4),.le (.v 6) (.v 3),.eq (.a (.v 8) (.a (.v 1) (.v 5))) (.v 0)] (.le (.a (.a (.a (.v 1) (.v 5)) (.k 0)) (.a (.v 8) (.v 6))) (.v 4)) [[1,1,1,1]] rfl h1 h3 (j03 (L [.lt (.v 7) (.k 0)] (.le (.a (.v 1) (.v 5)) (.v 0)) [[0,1]] rfl g0))) (fun g0 => (Nat.le_total (b + f) a).elim (fun g1 => L [.le (.a (.v 0) (.v 3)) (.v 4),.le (.v 6) (.v 3),.eq (.a (.v 8) (.a (.v 1) (.v 5))) (.v 0)] (.le (.a (.a (.a (.v 1) (.v 5)) (.k 0)) (.a (.v 8) (.v 6))) (.v 4)) [[1,1,1,1]] rfl h1 h3 (j03 (L [.le (.a (.v 1) (.v 5)) (.v 0)] (.le (.a (.v 1) (.v 5)) (.v 0)) [[1,1]] rfl g1))) (fun g1 => L [.lt (.k 0) (.v 7),.eq (.v 7) (.k 0)] (.le (.a (.a (.a (.v 1) (.v 5)) (.k 0)) (.a (.v 8) (.v 6))) (.v 4)) [[0,1,1]] rfl g0 (j0b (L [.eq (.v 0) (.a (.v 1) (.v 2)),.le (.v 0) (.a (.v 1) (.v 5))] (.le (.v 2) (.v 5)) [[1,0,1,1]] rfl h0 g1))))
theorem of907e {a b c d e : Nat} (h0 : a = b + c) (h1 : ¬(c - d = 0)) : b + d + (a - (b + d) + e) = a + e := have L := lin [a,b,c,d,e,(c - d),(a - (b + d))] []; (Nat.lt_or_gt_of_ne h1).elim (fun g0 => L [.lt (.v 5) (.k 0),.eq (.a (.v 6) (.a (.v 1) (.v 3))) (.v 0)] (.eq (.a (.a (.v 1) (.v 3)) (.a (.v 6) (.v 4))) (.a (.v 0) (.v 4))) [[1,0,1],[0,1]] rfl g0 (j03 (L [.lt (.v 5) (.k 0)] (.le (.a (.v 1) (.v 3)) (.v 0)) [[0,1]] rfl g0))) (fun g0 => (Nat.le_total (b + d) a).elim (fun g1 => L [.eq (.a (.v 6) (.a (.v 1) (.v 3))) (.v 0)] (.eq (.a (.a (.v 1) (.v 3)) (.a (.v 6) (.v 4))) (.a (.v 0) (.v 4))) [[1,1],[1,0,1]] rfl (j03 (L [.le (.a (.v 1) (.v 3)) (.v 0)] (.le (.a (.v 1) (.v 3)) (.v 0)) [[1,1]] rfl g1))) (fun g1 => L [.lt (.k 0) (.v 5),.eq (.v 5) (.k 0)] (.eq (.a (.a (.v 1) (.v 3)) (.a (.v 6) (.v 4))) (.a (.v 0) (.v 4))) [[0,1,1],[0,1,1]] rfl g0 (j0b (L [.eq (.v 0) (.a (.v 1) (.v 2)),.le (.v 0) (.a (.v 1) (.v 3))] (.le (.v 2) (.v 3)) [[1,0,1,1]] rfl h0 g1))))
theorem o02736 {a b c d e f i : Nat} (h0 : a = b + c) (h1 : a + d ≤ e) (h2 : f = e) (h3 : ¬(c - i = 0)) : b + i ≤ (min (a + d) f) := have L := lin [a,b,c,d,e,f,i,(c - i),(min (a + d) f)] []; (Nat.lt_or_gt_of_ne h3).elim (fun g0 => L [.lt (.v 7) (.k 0)] (.le (.a (.v 1) (.v 6)) (.v 8)) [[0,1]] rfl g0) (fun g0 => (Nat.le_total i c).elim (fun g1 => L [.eq (.v 0) (.a (.v 1) (.v 2)),.le (.v 6) (.v 2),.eq (.v 8) (.a (.v 0) (.v 3))] (.le (.a (.v 1) (.v 6)) (.v 8)) [[1,0,1,1,0,1]] rfl h0 g1 (Nat.min_eq_left (L [.le (.a (.v 0) (.v 3)) (.v 4),.eq (.v 5) (.v 4)] (.le (.a (.v 0) (.v 3)) (.v 5)) [[1,1,0,1]] rfl h1 h2))) (fun g1 => L [.lt (.k 0) (.v 7),.eq (.v 7) (.k 0)] (.le (.a (.v 1) (.v 6)) (.v 8)) [[0,1,1]] rfl g0 (j0b (L [.le (.v 2) (.v 6)] (.le (.v 2) (.v 6)) [[1,1]] rfl g1))))
theorem of1d3a {a b c d e : Nat} (h0 : a = b + c) (h1 : ¬(c - d = 0)) : b + d ≤ a + e := have L := lin [a,b,c,d,e,(c - d)] []; (Nat.lt_or_gt_of_ne h1).elim (fun g0 => L [.lt (.v 5) (.k 0)] (.le (.a (.v 1) (.v 3)) (.a (.v 0) (.v 4))) [[0,1]] rfl g0) (fun g0 => (Nat.le_total d c).elim (fun g1 => L [.eq (.v 0) (.a (.v 1) (.v 2)),.le (.v 3) (.v 2)] (.le (.a (.v 1) (.v 3)) (.a (.v 0) (.v 4))) [[1,0,1,1]] rfl h0 g1) (fun g1 => L [.lt (.k 0) (.v 5),.eq (.v 5) (.k 0)] (.le (.a (.v 1) (.v 3)) (.a (.v 0) (.v 4))) [[0,1,1]] rfl g0 (j0b (L [.le (.v 2) (.v 3)] (.le (.v 2) (.v 3)) [[1,1]] rfl g1))))
theorem o2bf35 {a b c d : Nat} (h0 : a = b + c) (h1 : ¬(c - d = 0)) : b + d ≤ a := have L := lin [a,b,c,d,(c - d)] []; (Nat.lt_or_gt_of_ne h1).elim (fun g0 => L [.lt (.v 4) (.k 0)] (.le (.a (.v 1) (.v 3)) (.v 0)) [[0,1]] rfl g0) (fun g0 => (Nat.le_total d c).elim (fun g1 => L [.eq (.v 0) (.a (.v 1) (.v 2)),.le (.v 3) (.v 2)] (.le (.a (.v 1) (.v 3)) (.v 0)) [[1,0,1,1]] rfl h0 g1) (fun g1 => L [.lt (.k 0) (.v 4),.eq (.v 4) (.k 0)] (.le (.a (.v 1) (.v 3)) (.v 0)) [[0,1,1]] rfl g0 (j0b (L [.le (.v 2) (.v 3)] (.le (.v 2) (.v 3)) [[1,1]] rfl g1))))
theorem of623e {a b c d : Nat} (h0 : a + b ≤ c) (h1 : d = c) : a ≤ (min (a + b) d) := have L := lin [a,b,c,d,(min (a + b) d)] []; L [.eq (.v 4) (.a (.v 0) (.v 1))] (.le (.v 0) (.v 4)) [[1,0,1]] rfl (Nat.min_eq_left (L [.le (.a (.v 0) (.v 1)) (.v 2),.eq (.v 3) (.v 2)] (.le (.a (.v 0) (.v 1)) (.v 3)) [[1,1,0,1]] rfl h0 h1))
theorem of37dd {a b c d e : Nat} (h0 : a + b ≤ c) (h1 : d = c) (h2 : e ≤ b) : a + e ≤ (min (a + b) d) := have L := lin [a,b,c,d,e,(min (a + b) d)] []; L [.le (.v 4) (.v 1),.eq (.v 5) (.a (.v 0) (.v 1))] (.le (.a (.v 0) (.v 4)) (.v 5)) [[1,1,0,1]] rfl h2 (Nat.min_eq_left (L [.le (.a (.v 0) (.v 1)) (.v 2),.eq (.v 3) (.v 2)] (.le (.a (.v 0) (.v 1)) (.v 3)) [[1,1,0,1]] rfl h0 h1))
theorem o2bd32 {a b c d : Nat} (h0 : a = b + c) : b ≤ a + d := lin [a,b,c,d] [] [.eq (.v 0) (.a (.v 1) (.v 2))] (.le (.v 1) (.a (.v 0) (.v 3))) [[1,0,1]] rfl h0
theorem of65e6 {a b c d e : Nat} (h0 : a = b + c) (h1 : ¬(c - d = 0)) (h2 : e < b + d) : e < a := have L := lin [a,b,c,d,e,(c - d)] []; (Nat.lt_or_gt_of_ne h1).elim (fun g0 => L [.lt (.v 5) (.k 0)] (.lt (.v 4) (.v 0)) [[0,1]] rfl g0) (fun g0 => (Nat.le_total d c).elim (fun g1 => L [.eq (.v 0) (.a (.v 1) (.v 2)),.lt (.v 4) (.a (.v 1) (.v 3)),.le (.v 3) (.v 2)] (.lt (.v 4) (.v 0)) [[1,0,1,1,1]] rfl h0 h2 g1) (fun g1 => L [.lt (.k 0) (.v 5),.eq (.v 5) (.k 0)] (.lt (.v 4) (.v 0)) [[0,1,1]] rfl g0 (j0b (L [.le (.v 2) (.v 3)] (.le (.v 2) (.v 3)) [[1,1]] rfl g1))))
theorem o88582 {a b c d e f : Nat} (h0 : a = b + c) (h1 : a + d ≤ e) (h2 : ¬(c - f = 0)) : b + f ≤ e := have L := lin [a,b,c,d,e,f,(c - f)] []; (Nat.lt_or_gt_of_ne h2).elim (fun g0 => L [.lt (.v 6) (.k 0)] (.le (.a (.v 1) (.v 5)) (.v 4)) [[0,1]] rfl g0) (fun g0 => (Nat.le_total f c).elim (fun g1 => L [.eq (.v 0) (.a (.v 1) (.v 2)),.le (.a (.v 0) (.v 3)) (.v 4),.le (.v 5) (.v 2)] (.le (.a (.v 1) (.v 5)) (.v 4)) [[1,0,1,1,1]] rfl h0 h1 g1) (fun g1 => L [.lt (.k 0) (.v 6),.eq (.v 6) (.k 0)] (.le (.a (.v 1) (.v 5)) (.v 4)) [[0,1,1]] rfl g0 (j0b (L [.le (.v 2) (.v 5)] (.le (.v 2) (.v 5)) [[1,1]] rfl g1))))
theorem odac00 {a b c d : Nat} (h0 : a < b + c) (h1 : b + c ≤ d) : a ≤ d := lin [a,b,c,d] [] [.lt (.v 0) (.a (.v 1) (.v 2)),.le (.a (.v 1) (.v 2)) (.v 3)] (.le (.v 0) (.v 3)) [[1,1,1]] rfl h0 h1
theorem o02be3 {a b c d e : Nat} (h0 : a = b + c) (h1 : ¬(c - d = 0)) (h2 : e < b + d) : e ≤ a - 1 := have L := lin [a,b,c,d,e,(c - d),(a - 1)] []; (Nat.lt_or_gt_of_ne h1).elim (fun g0 => L [.lt (.v 5) (.k 0)] (.le (.v 4) (.v 6)) [[0,1]] rfl g0) (fun g0 => (Nat.le_total (1 : Nat) a).elim (fun g1 => (Nat.le_total d c).elim (fun g2 => L [.eq (.v 0) (.a (.v 1) (.v 2)),.lt (.v 4) (.a (.v 1) (.v 3)),.le (.v 3) (.v 2),.eq (.a (.v 6) (.k 1)) (.v 0)] (.le (.v 4) (.v 6)) [[1,0,1,1,1,0,1]] rfl h0 h2 g2 (j03 (L [.le (.k 1) (.v 0)] (.le (.k 1) (.v 0)) [[1,1]] rfl g1))) (fun g2 => L [.lt (.k 0) (.v 5),.eq (.v 5) (.k 0)] (.le (.v 4) (.v 6)) [[0,1,1]] rfl g0 (j0b (L [.le (.v 2) (.v 3)] (.le (.v 2) (.v 3)) [[1,1]] rfl g2)))) (fun g1 => L [.lt (.k 0) (.v 5),.eq (.v 5) (.k 0)] (.le (.v 4) (.v 6)) [[0,1,1]] rfl g0 (j0b (L [.eq (.v 0) (.a (.v 1) (.v 2)),.lt (.v 4) (.a (.v 1) (.v 3)),.le (.v 0) (.k 1)] (.le (.v 2) (.v 3)) [[1,0,1,1,1]] rfl h0 h2 g1))))
theorem oc129f {a b c d : Nat} (h0 : a = b + c) (h1 : ¬(c - d = 0)) : a - 1 < a := have L := lin [a,b,c,d,(c - d),(a - 1)] []; (Nat.lt_or_gt_of_ne h1).elim (fun g0 => L [.lt (.v 4) (.k 0)] (.lt (.v 5) (.v 0)) [[0,1]] rfl g0) (fun g0 => (Nat.le_total (1 : Nat) a).elim (fun g1 => L [.eq (.a (.v 5) (.k 1)) (.v 0)] (.lt (.v 5) (.v 0)) [[1,1]] rfl (j03 (L [.le (.k 1) (.v 0)] (.le (.k 1) (.v 0)) [[1,1]] rfl g1))) (fun g1 => L [.eq (.v 0) (.a (.v 1) (.v 2)),.lt (.k 0) (.v 4),.eq (.v 5) (.k 0),.le (.v 4) (.v 2)] (.lt (.v 5) (.v 0)) [[1,0,1,1,1,0,1]] rfl h0 g0 (j0b (L [.le (.v 0) (.k 1)] (.le (.v 0) (.k 1)) [[1,1]] rfl g1)) (j1r _ _)))
theorem o646cd {a b : Nat} (h0 : a < b) : a ≤ b - 1 := have L := lin [a,b,(b - 1)] []; L [.lt (.v 0) (.v 1),.eq (.a (.v 2) (.k 1)) (.v 1)] (.le (.v 0) (.v 2)) [[1,1,0,1]] rfl h0 (j03 (L [.lt (.v 0) (.v 1)] (.le (.k 1) (.v 1)) [[1,1]] rfl h0))
theorem o6bed4 {a b : Nat} (h0 : a < b) : b - 1 < b := have L := lin [a,b,(b - 1)] []; L [.eq (.a (.v 2) (.k 1)) (.v 1)] (.lt (.v 2) (.v 1)) [[1,1]] rfl (j03 (L [.lt (.v 0) (.v 1)] (.le (.k 1) (.v 1)) [[1,1]] rfl h0))
theorem oea832 {a b c d : Nat} (h0 : a + b ≤ c) (h1 : d < a + b) : d ≤ c := lin [a,b,c,d] [] [.le (.a (.v 0) (.v 1)) (.v 2),.lt (.v 3) (.a (.v 0) (.v 1))] (.le (.v 3) (.v 2)) [[1,1,1]] rfl h0 h1
theorem o3d3ea {a b : Nat} (h0 : a = b) : a ≤ b := lin [a,b] [] [.eq (.v 0) (.v 1)] (.le (.v 0) (.v 1)) [[1,1]] rfl h0
theorem o12fa4 {a b c d : Nat} (h0 : 1 ≤ a) (h1 : b + a + c ≤ d) : b + (c + 1) ≤ d := lin [a,b,c,d] [] [.le (.k 1) (.v 0),.le (.a (.a (.v 1) (.v 0)) (.v 2)) (.v 3)] (.le (.a (.v 1) (.a (.v 2) (.k 1))) (.v 3)) [[1,1,1]] rfl h0 h1
theorem o19918 {a b c d e : Nat} (h0 : a + b + c ≤ d) (h1 : e < a + b) : e < d := lin [a,b,c,d,e] [] [.le (.a (.a (.v 0) (.v 1)) (.v 2)) (.v 3),.lt (.v 4) (.a (.v 0) (.v 1))] (.lt (.v 4) (.v 3)) [[1,1,1]] rfl h0 h1
theorem ofdea4 {a b : Nat} (h0 : a = b) : a ≤ b + 1 := lin [a,b] [] [.eq (.v 0) (.v 1)] (.le (.v 0) (.a (.v 1) (.k 1))) [[1,1]] rfl h0
theorem o3b188 {a : Nat} : a + 1 - a = 1 := have L := lin [a,(a + 1 - a)] []; L [.eq (.a (.v 1) (.v 0)) (.a (.v 0) (.k 1))] (.eq (.v 1) (.k 1)) [[1,1],[1,0,1]] rfl (j03 (L [] (.le (.v 0) (.a (.v 0) (.k 1))) [[1]] rfl))
theorem o99351 {a b c d e f i : Nat} (h0 : a ≤ b) (h1 : c = b) (h2 : d + e + f + i ≤ a) : d + e + f ≤ c := lin [a,b,c,d,e,f,i] [] [.le (.v 0) (.v 1),.eq (.v 2) (.v 1),.le (.a (.a (.a (.v 3) (.v 4)) (.v 5)) (.v 6)) (.v 0)] (.le (.a (.a (.v 3) (.v 4)) (.v 5)) (.v 2)) [[1,1,0,1,1]] rfl h0 h1 h2
theorem oa7bba {a : Nat} : a ≤ a + 1 := lin [a] [] [] (.le (.v 0) (.a (.v 0) (.k 1))) [[1]] rfl
theorem oa3404 {a b c d e f : Nat} (h0 : a + b + c + d ≤ e) (h1 : e ≤ f) : a + b + c ≤ f := lin [a,b,c,d,e,f] [] [.le (.a (.a (.a (.v 0) (.v 1)) (.v 2)) (.v 3)) (.v 4),.le (.v 4) (.v 5)] (.le (.a (.a (.v 0) (.v 1)) (.v 2)) (.v 5)) [[1,1,1]] rfl h0 h1
theorem o90fa8 {a b : Nat} (h0 : 1 ≤ a) : 1 ≤ b + a := lin [a,b] [] [.le (.k 1) (.v 0)] (.le (.k 1) (.a (.v 1) (.v 0))) [[1,1]] rfl h0
theorem od4c68 {a b c d : Nat} (h0 : a + (b + 1) = c) (h1 : a + (b + 1 + 1) = d) : c + 1 = d := lin [a,b,c,d] [] [.eq (.a (.v 0) (.a (.v 1) (.k 1))) (.v 2),.eq (.a (.v 0) (.a (.a (.v 1) (.k 1)) (.k 1))) (.v 3)] (.eq (.a (.v 2) (.k 1)) (.v 3)) [[1,0,1,1],[1,1,0,0,1]] rfl h0 h1
theorem o1ad21 {a b : Nat} (h0 : (max 0 a) ≤ b) (h1 : b ≤ a) : b = a := have L := lin [a,b,(max (0 : Nat) a)] []; L [.le (.v 2) (.v 1),.le (.v 1) (.v 0),.eq (.v 2) (.v 0)] (.eq (.v 1) (.v 0)) [[1,0,1],[1,1,0,0,1]] rfl h0 h1 (Nat.max_eq_right (L [] (.le (.k 0) (.v 0)) [[1]] rfl))
theorem o69e4c {a b c : Nat} (h0 : ¬(a ≥ b)) (h1 : c = b) : a + (b - a) ≤ c := have L := lin [a,b,c,(b - a)] []; L [.eq (.v 2) (.v 1),.eq (.a (.v 3) (.v 0)) (.v 1)] (.le (.a (.v 0) (.v 3)) (.v 2)) [[1,0,1,1]] rfl h1 (j03 (L [.nt (.le (.v 1) (.v 0))] (.le (.v 0) (.v 1)) [[1,1]] rfl h0))
theorem o1843e {a b : Nat} (h0 : ¬(a ≥ b)) : 1 ≤ b - a := have L := lin [a,b,(b - a)] []; L [.nt (.le (.v 1) (.v 0)),.eq (.a (.v 2) (.v 0)) (.v 1)] (.le (.k 1) (.v 2)) [[1,1,0,1]] rfl h0 (j03 (L [.nt (.le (.v 1) (.v 0))] (.le (.v 0) (.v 1)) [[1,1]] rfl h0))
theorem ofd174 {a b c : Nat} (h0 : a ≤ b) (h1 : 1 ≤ c) : a + 1 ≤ b + c := lin [a,b,c] [] [.le (.v 0) (.v 1),.le (.k 1) (.v 2)] (.le (.a (.v 0) (.k 1)) (.a (.v 1) (.v 2))) [[1,1,1]] rfl h0 h1
theorem o3bd69 {a b c : Nat} (h0 : 1 ≤ a) (h1 : a ≤ b - c) : c + a ≤ b := have L := lin [a,b,c,(b - c)] []; (Nat.le_total c b).elim (fun g0 => L [.le (.v 0) (.v 3),.eq (.a (.v 3) (.v 2)) (.v 1)] (.le (.a (.v 2) (.v 0)) (.v 1)) [[1,1,1]] rfl h1 (j03 (L [.le (.v 2) (.v 1)] (.le (.v 2) (.v 1)) [[1,1]] rfl g0))) (fun g0 => L [.le (.k 1) (.v 0),.le (.v 0) (.v 3),.eq (.v 3) (.k 0)] (.le (.a (.v 2) (.v 0)) (.v 1)) [[0,1,1,1]] rfl h0 h1 (j0b (L [.le (.v 1) (.v 2)] (.le (.v 1) (.v 2)) [[1,1]] rfl g0)))
theorem o158ab {a b c d e : Nat} (h0 : 1 ≤ a) (h1 : a ≤ b - c) (h2 : d = b) : c + (min (b - c) e) ≤ d := have L := lin [a,b,c,d,e,(b - c),(min (b - c) e)] []; (Nat.le_total e (b - c)).elim (fun g0 => (Nat.le_total c b).elim (fun g1 => L [.eq (.v 3) (.v 1),.le (.v 4) (.v 5),.eq (.v 6) (.v 4),.eq (.a (.v 5) (.v 2)) (.v 1)] (.le (.a (.v 2) (.v 6)) (.v 3)) [[1,0,1,1,1,0,1]] rfl h2 g0 (Nat.min_eq_right (L [.le (.v 4) (.v 5)] (.le (.v 4) (.v 5)) [[1,1]] rfl g0)) (j03 (L [.le (.v 2) (.v 1)] (.le (.v 2) (.v 1)) [[1,1]] rfl g1))) (fun g1 => L [.le (.k 1) (.v 0),.le (.v 0) (.v 5),.eq (.v 5) (.k 0)] (.le (.a (.v 2) (.v 6)) (.v 3)) [[0,1,1,1]] rfl h0 h1 (j0b (L [.le (.v 1) (.v 2)] (.le (.v 1) (.v 2)) [[1,1]] rfl g1)))) (fun g0 => (Nat.le_total c b).elim (fun g1 => L [.eq (.v 3) (.v 1),.eq (.v 6) (.v 5),.eq (.a (.v 5) (.v 2)) (.v 1)] (.le (.a (.v 2) (.v 6)) (.v 3)) [[1,0,1,1,0,1]] rfl h2 (Nat.min_eq_left (L [.le (.v 5) (.v 4)] (.le (.v 5) (.v 4)) [[1,1]] rfl g0)) (j03 (L [.le (.v 2) (.v 1)] (.le (.v 2) (.v 1)) [[1,1]] rfl g1))) (fun g1 => L [.le (.k 1) (.v 0),.le (.v 0) (.v 5),.eq (.v 5) (.k 0)] (.le (.a (.v 2) (.v 6)) (.v 3)) [[0,1,1,1]] rfl h0 h1 (j0b (L [.le (.v 1) (.v 2)] (.le (.v 1) (.v 2)) [[1,1]] rfl g1))))
theorem occ96a {a b c d : Nat} (h0 : a ≤ b - c) (h1 : a < d) : a ≤ (min (b - c) d) := have L := lin [a,b,c,d,(b - c),(min (b - c) d)] []; (Nat.le_total d (b - c)).elim (fun g0 => L [.lt (.v 0) (.v 3),.eq (.v 5) (.v 3)] (.le (.v 0) (.v 5)) [[1,1,0,1]] rfl h1 (Nat.min_eq_right (L [.le (.v 3) (.v 4)] (.le (.v 3) (.v 4)) [[1,1]] rfl g0))) (fun g0 => L [.le (.v 0) (.v 4),.eq (.v 5) (.v 4)] (.le (.v 0) (.v 5)) [[1,1,0,1]] rfl h0 (Nat.min_eq_left (L [.le (.v 4) (.v 3)] (.le (.v 4) (.v 3)) [[1,1]] rfl g0)))
theorem o72b62 {a b c d : Nat} (h0 : 1 ≤ a) (h1 : a ≤ b - c) (h2 : a < d) : 1 ≤ (min (b - c) d) := have L := lin [a,b,c,d,(b - c),(min (b - c) d)] []; (Nat.le_total d (b - c)).elim (fun g0 => L [.le (.k 1) (.v 0),.lt (.v 0) (.v 3),.eq (.v 5) (.v 3)] (.le (.k 1) (.v 5)) [[1,1,1,0,1]] rfl h0 h2 (Nat.min_eq_right (L [.le (.v 3) (.v 4)] (.le (.v 3) (.v 4)) [[1,1]] rfl g0))) (fun g0 => L [.le (.k 1) (.v 0),.le (.v 0) (.v 4),.eq (.v 5) (.v 4)] (.le (.k 1) (.v 5)) [[1,1,1,0,1]] rfl h0 h1 (Nat.min_eq_left (L [.le (.v 4) (.v 3)] (.le (.v 4) (.v 3)) [[1,1]] rfl g0)))
theorem o2cf7b {a b c : Nat} (h0 : 1 ≤ (min (a - b) c)) : b + (min (a - b) c) ≤ a := have L := lin [a,b,c,(min (a - b) c),(a - b)] []; (Nat.le_total b a).elim (fun g0 => L [.eq (.a (.v 4) (.v 1)) (.v 0),.le (.v 3) (.v 4)] (.le (.a (.v 1) (.v 3)) (.v 0)) [[1,1,0,1]] rfl (j03 (L [.le (.v 1) (.v 0)] (.le (.v 1) (.v 0)) [[1,1]] rfl g0)) (Nat.min_le_left _ _)) (fun g0 => L [.le (.k 1) (.v 3),.eq (.v 4) (.k 0),.eq (.v 3) (.v 4)] (.le (.a (.v 1) (.v 3)) (.v 0)) [[0,1,1,0,1]] rfl h0 (j0b (L [.le (.v 0) (.v 1)] (.le (.v 0) (.v 1)) [[1,1]] rfl g0)) (Nat.min_eq_left (L [.eq (.v 4) (.k 0)] (.le (.v 4) (.v 2)) [[1,1]] rfl (j0b (L [.le (.v 0) (.v 1)] (.le (.v 0) (.v 1)) [[1,1]] rfl g0)))))
theorem oefe9d {a : Nat} (h0 : a > 1) : a - 2 + 1 < a := have L := lin [a,(a - 2)] []; L [.eq (.a (.v 1) (.k 2)) (.v 0)] (.lt (.a (.v 1) (.k 1)) (.v 0)) [[1,1]] rfl (j03 (L [.lt (.k 1) (.v 0)] (.le (.k 2) (.v 0)) [[1,1]] rfl h0))
theorem o2d205 {a b c d : Nat} (h0 : a + b ≤ c) (h1 : d + 1 = a) : d + (b + 1) ≤ c := lin [a,b,c,d] [] [.le (.a (.v 0) (.v 1)) (.v 2),.eq (.a (.v 3) (.k 1)) (.v 0)] (.le (.a (.v 3) (.a (.v 1) (.k 1))) (.v 2)) [[1,1,1]] rfl h0 h1
theorem o1e13e {a b : Nat} (h0 : a + (max 0 b) ≤ b) : a ≤ 1 := have L := lin [a,b,(max (0 : Nat) b)] []; L [.le (.a (.v 0) (.v 2)) (.v 1),.eq (.v 2) (.v 1)] (.le (.v 0) (.k 1)) [[1,1,0,1]] rfl h0 (Nat.max_eq_right (L [] (.le (.k 0) (.v 1)) [[1]] rfl))
theorem o1d8ed {a b : Nat} {zx zy : Int} (h0 : a < b) (h1 : 0 = b) : zx ≤ zy := lin [a,b] [zx,zy] [.lt (.v 0) (.v 1),.eq (.k 0) (.v 1)] (.il (.v 0) (.v 1)) [[0,1,0,1]] rfl h0 h1
theorem o45a13 {a b c d : Nat} (h0 : a < 2) (h1 : b ≤ c) (h2 : c < d) (h3 : a = d) : b = c := lin [a,b,c,d] [] [.lt (.v 0) (.k 2),.le (.v 1) (.v 2),.lt (.v 2) (.v 3),.eq (.v 0) (.v 3)] (.eq (.v 1) (.v 2)) [[1,0,1],[1,1,0,1,0,1]] rfl h0 h1 h2 h3
theorem oa15b4 {zx zy zz : Int} (h0 : zx ≤ zy) (h1 : zy ≤ zz) : zx ≤ zz := lin [] [zx,zy,zz] [.il (.v 0) (.v 1),.il (.v 1) (.v 2)] (.il (.v 0) (.v 2)) [[1,1,1]] rfl h0 h1
theorem o9661b {zx zy : Int} : (zx ≤ zy) ∨ (zy ≤ zx) := by omega
theorem o66bb4 {zx zy : Int} (h0 : zx ≤ zy) (h1 : zy ≤ zx) : zy = zx := lin [] [zx,zy] [.il (.v 0) (.v 1),.il (.v 1) (.v 0)] (.ie (.v 1) (.v 0)) [[1,0,1],[1,1]] rfl h0 h1
theorem obed08 {zx zy zz : Int} : zx + (zy + zz) = zy + (zx + zz) := lin [] [zx,zy,zz] [] (.ie (.a (.v 0) (.a (.v 1) (.v 2))) (.a (.v 1) (.a (.v 0) (.v 2)))) [[1],[1]] rfl
theorem ofb5a9 {a b : Nat} (h0 : a ≤ b) : b - (b - a) = a := have L := lin [a,b,(b - (b - a)),(b - a)] []; L [.eq (.a (.v 3) (.v 0)) (.v 1),.eq (.a (.v 2) (.v 3)) (.v 1)] (.eq (.v 2) (.v 0)) [[1,0,1,1],[1,1,0,0,1]] rfl (j03 (L [.le (.v 0) (.v 1)] (.le (.v 0) (.v 1)) [[1,1]] rfl h0)) (j03 (L [.eq (.a (.v 3) (.v 0)) (.v 1)] (.le (.v 3) (.v 1)) [[1,1]] rfl (j03 (L [.le (.v 0) (.v 1)] (.le (.v 0) (.v 1)) [[1,1]] rfl h0))))
theorem o52f10 {zx zy zz zw : Int} (h0 : (0 : Int) ≤ zx) (h1 : zy - zz ≤ zw) : zy - zz ≤ zx + zw := lin [] [zx,zy,zz,zw] [.il (.k 0) (.v 0),.il (.s (.v 1) (.v 2)) (.v 3)] (.il (.s (.v 1) (.v 2)) (.a (.v 0) (.v 3))) [[1,1,1]] rfl h0 h1
theorem of161c {a b : Nat} (h0 : 1 ≤ a) (h1 : a ≤ b) : b - a < b := have L := lin [a,b,(b - a)] []; L [.le (.k 1) (.v 0),.eq (.a (.v 2) (.v 0)) (.v 1)] (.lt (.v 2) (.v 1)) [[1,1,1]] rfl h0 (j03 (L [.le (.v 0) (.v 1)] (.le (.v 0) (.v 1)) [[1,1]] rfl h1))
theorem o65990 {zx zy : Int} : 0 + (zx - zy) = zx - zy := lin [] [zx,zy] [] (.ie (.a (.k 0) (.s (.v 0) (.v 1))) (.s (.v 0) (.v 1))) [[1],[1]] rfl
theorem o4327b {zx zy zz : Int} : zx + zy = zz + zy - zz + zx := lin [] [zx,zy,zz] [] (.ie (.a (.v 0) (.v 1)) (.a (.s (.a (.v 2) (.v 1)) (.v 2)) (.v 0))) [[1],[1]] rfl
theorem o1a434 {zx zy zz zw z1 : Int} (h0 : zx = zy - zz + zw) : z1 + zx = z1 + zy - zz + zw := lin [] [zx,zy,zz,zw,z1] [.ie (.v 0) (.a (.s (.v 1) (.v 2)) (.v 3))] (.ie (.a (.v 4) (.v 0)) (.a (.s (.a (.v 4) (.v 1)) (.v 2)) (.v 3))) [[1,1],[1,0,1]] rfl h0
theorem o43ad3 {zx zy zz zw : Int} : zx - zy + (zy - zz) - zw + (zw + zz) = zx := lin [] [zx,zy,zz,zw] [] (.ie (.a (.s (.a (.s (.v 0) (.v 1)) (.s (.v 1) (.v 2))) (.v 3)) (.a (.v 3) (.v 2))) (.v 0)) [[1],[1]] rfl
theorem o011aa {a : Nat} {zx zy : Int} (h0 : zx ≠ zy) (h1 : ((0 : Int) ≤ zx) ∧ (zx < (a : Int))) (h2 : ((0 : Int) ≤ zy) ∧ (zy < (a : Int))) : (Int.toNat zx) ≠ (Int.toNat zy) := have L := lin [a,(Int.toNat zx),(Int.toNat zy)] [zx,zy]; (Int.lt_or_gt_of_ne h0).elim (fun g0 => L [.it (.v 0) (.v 1),.ie (.c (.v 2)) (.v 1),.ie (.c (.v 1)) (.v 0)] (.nt (.eq (.v 1) (.v 2))) [[0,1,1,0,1,1]] rfl g0 (j14 (L [.an (.il (.k 0) (.v 1)) (.it (.v 1) (.c (.v 0)))] (.il (.k 0) (.v 1)) [[1,1]] rfl h2)) (j14 (L [.an (.il (.k 0) (.v 0)) (.it (.v 0) (.c (.v 0)))] (.il (.k 0) (.v 0)) [[1,1]] rfl h1))) (fun g0 => L [.it (.v 1) (.v 0),.ie (.c (.v 2)) (.v 1),.ie (.c (.v 1)) (.v 0)] (.nt (.eq (.v 1) (.v 2))) [[1,0,1,1,0,0,1]] rfl g0 (j14 (L [.an (.il (.k 0) (.v 1)) (.it (.v 1) (.c (.v 0)))] (.il (.k 0) (.v 1)) [[1,1]] rfl h2)) (j14 (L [.an (.il (.k 0) (.v 0)) (.it (.v 0) (.c (.v 0)))] (.il (.k 0) (.v 0)) [[1,1]] rfl h1)))
theorem o05fbe {a : Nat} {zx : Int} (h0 : ((0 : Int) ≤ zx) ∧ (zx < (a : Int))) : (Int.toNat zx) < a := have L := lin [a,(Int.toNat zx)] [zx]; L [.an (.il (.k 0) (.v 0)) (.it (.v 0) (.c (.v 0))),.ie (.c (.v 1)) (.v 0)] (.lt (.v 1) (.v 0)) [[1,0,1,1]] rfl h0 (j14 (L [.an (.il (.k 0) (.v 0)) (.it (.v 0) (.c (.v 0)))] (.il (.k 0) (.v 0)) [[1,1]] rfl h0))
theorem o81c00 {zx zy zz : Int} (h0 : ¬(zx - zy < zz + zy)) : zz + zy ≤ zx - zy := lin [] [zx,zy,zz] [.nt (.it (.s (.v 0) (.v 1)) (.a (.v 2) (.v 1)))] (.il (.a (.v 2) (.v 1)) (.s (.v 0) (.v 1))) [[1,1]] rfl h0
theorem o9597c {zx : Int} (h0 : (1 : Int) ≤ zx) : 1 ≤ (Int.toNat zx) := have L := lin [(Int.toNat zx)] [zx]; L [.il (.k 1) (.v 0),.ie (.c (.v 0)) (.v 0)] (.le (.k 1) (.v 0)) [[1,1,0,1]] rfl h0 (j14 (L [.il (.k 1) (.v 0)] (.il (.k 0) (.v 0)) [[1,1]] rfl h0))
theorem o50e3f {a : Nat} {zx : Int} (h0 : zx ≤ (a : Int)) : (Int.toNat zx) ≤ a := by omega
theorem od71bf {a b : Nat} {zx : Int} (h0 : a = b) (h1 : zx ≤ (a : Int)) : (Int.toNat zx) ≤ b := by omega
theorem od9996 {zx zy zz zw z1 : Int} (h0 : zx < zy) (h1 : zz = zx - zw) (h2 : zy - zw ≤ z1) : zz < z1 := lin [] [zx,zy,zz,zw,z1] [.it (.v 0) (.v 1),.ie (.v 2) (.s (.v 0) (.v 3)),.il (.s (.v 1) (.v 3)) (.v 4)] (.it (.v 2) (.v 4)) [[1,1,1,0,1]] rfl h0 h1 h2
theorem o144c2 {zx zy : Int} (h0 : (0 : Int) ≤ zx) (h1 : (0 : Int) ≤ zy) : (0 : Int) ≤ zx + zy := lin [] [zx,zy] [.il (.k 0) (.v 0),.il (.k 0) (.v 1)] (.il (.k 0) (.a (.v 0) (.v 1))) [[1,1,1]] rfl h0 h1
theorem o1b38f {zx zy : Int} (h0 : (0 : Int) ≤ zx) (h1 : zy + zx = 0) (h2 : (0 : Int) ≤ zy) : zy = 0 := lin [] [zx,zy] [.il (.k 0) (.v 0),.ie (.a (.v 1) (.v 0)) (.k 0),.il (.k 0) (.v 1)] (.ie (.v 1) (.k 0)) [[1,1,1],[1,0,0,0,1]] rfl h0 h1 h2
theorem ofdad1 {zx zy : Int} (h0 : zx + zy = 0) (h1 : (0 : Int) ≤ zx) (h2 : (0 : Int) ≤ zy) : zy = 0 := lin [] [zx,zy] [.ie (.a (.v 0) (.v 1)) (.k 0),.il (.k 0) (.v 0),.il (.k 0) (.v 1)] (.ie (.v 1) (.k 0)) [[1,1,0,1],[1,0,0,0,1]] rfl h0 h1 h2
theorem occ285 {zx zy : Int} (h0 : (0 : Int) < zx + zy) (h1 : ¬((0 : Int) < zx)) : (0 : Int) < zy := lin [] [zx,zy] [.it (.k 0) (.a (.v 0) (.v 1)),.nt (.it (.k 0) (.v 0))] (.it (.k 0) (.v 1)) [[1,1,1]] rfl h0 h1
theorem o463e4 {a : Nat} {zx zy zz : Int} (h0 : a < 0) : (zx = zy + zz) ∧ ((0 : Int) ≤ zz) := lin [a] [zx,zy,zz] [.lt (.v 0) (.k 0)] (.an (.ie (.v 0) (.a (.v 1) (.v 2))) (.il (.k 0) (.v 2))) [[0,1],[0,1],[0,1]] rfl h0
theorem oe8587 {zx zy zz zw : Int} (h0 : (zx = zy) ∧ (zz = 0)) : zx = zw - (zw - zy) := lin [] [zx,zy,zz,zw] [.an (.ie (.v 0) (.v 1)) (.ie (.v 2) (.k 0))] (.ie (.v 0) (.s (.v 3) (.s (.v 3) (.v 1)))) [[1,1],[1,0,1]] rfl h0
theorem o3dc74 {a b : Nat} (h0 : a < b) : a ≤ b := lin [a,b] [] [.lt (.v 0) (.v 1)] (.le (.v 0) (.v 1)) [[1,1]] rfl h0
theorem o7849a {zx zy zz zw : Int} : zx - zy - (zz - zw) = zx + zw - (zy + zz) := lin [] [zx,zy,zz,zw] [] (.ie (.s (.s (.v 0) (.v 1)) (.s (.v 2) (.v 3))) (.s (.a (.v 0) (.v 3)) (.a (.v 1) (.v 2)))) [[1],[1]] rfl
theorem o81e61 {a b : Nat} (h0 : a ≤ b - 1) : a ≤ b := lin [a,b,(b - 1)] [] [.le (.v 0) (.v 2),.le (.v 2) (.v 1)] (.le (.v 0) (.v 1)) [[1,1,1]] rfl h0 (j1r _ _)
theorem o1cc53 {zx zy zz zw : Int} (h0 : zx - zy < 0) (h1 : (zz = zy) ∧ (zw = 0)) : (zz = zx + (-(zx - zy))) ∧ ((0 : Int) ≤ (-(zx - zy))) := lin [] [zx,zy,zz,zw] [.it (.s (.v 0) (.v 1)) (.k 0),.an (.ie (.v 2) (.v 1)) (.ie (.v 3) (.k 0))] (.an (.ie (.v 2) (.a (.v 0) (.o (.s (.v 0) (.v 1))))) (.il (.k 0) (.o (.s (.v 0) (.v 1))))) [[1,0,1],[1,0,0,1],[1,1]] rfl h0 h1
theorem o95fa4 {a b c : Nat} (h0 : a < b) (h1 : c < a + 1) : c < b := lin [a,b,c] [] [.lt (.v 0) (.v 1),.lt (.v 2) (.a (.v 0) (.k 1))] (.lt (.v 2) (.v 1)) [[1,1,1]] rfl h0 h1
theorem oc0d91 {a b : Nat} (h0 : a < b + 1) (h1 : ¬(a = b)) : a < b := have L := lin [a,b] []; (Nat.lt_or_gt_of_ne h1).elim (fun g0 => L [.lt (.v 0) (.v 1)] (.lt (.v 0) (.v 1)) [[1,1]] rfl g0) (fun g0 => L [.lt (.v 0) (.a (.v 1) (.k 1)),.lt (.v 1) (.v 0)] (.lt (.v 0) (.v 1)) [[0,1,1]] rfl h0 g0)
theorem oea3ec {a b : Nat} (h0 : a + 1 ≤ b) (h1 : b = a) : False := lin [a,b] [] [.le (.a (.v 0) (.k 1)) (.v 1),.eq (.v 1) (.v 0)] .ff [[1,1]] rfl h0 h1
theorem o40fc0 {a b : Nat} (h0 : a + 1 ≤ b) : a ≤ b := lin [a,b] [] [.le (.a (.v 0) (.k 1)) (.v 1)] (.le (.v 0) (.v 1)) [[1,1]] rfl h0
theorem o63cad {a b : Nat} (h0 : a < b) : a < b + 1 := lin [a,b] [] [.lt (.v 0) (.v 1)] (.lt (.v 0) (.a (.v 1) (.k 1))) [[1,1]] rfl h0
theorem o31800 {a b c : Nat} (h0 : a < b) (h1 : c < a) : c < b := lin [a,b,c] [] [.lt (.v 0) (.v 1),.lt (.v 2) (.v 0)] (.lt (.v 2) (.v 1)) [[1,1,1]] rfl h0 h1
theorem o8d8d6 {a b : Nat} (h0 : a < b) (h1 : b = a) : False := lin [a,b] [] [.lt (.v 0) (.v 1),.eq (.v 1) (.v 0)] .ff [[1,1]] rfl h0 h1
theorem ob8d30 {a : Nat} : a < a + 1 := lin [a] [] [] (.lt (.v 0) (.a (.v 0) (.k 1))) [[1]] rfl
theorem od6747 {zx zy : Int} (h0 : zx - zy < 0) : (0 : Int) < (-(zx - zy)) := lin [] [zx,zy] [.it (.s (.v 0) (.v 1)) (.k 0)] (.it (.k 0) (.o (.s (.v 0) (.v 1)))) [[1,1]] rfl h0
theorem o1a01d {a b : Nat} (h0 : a < b) (h1 : a = b) : False := lin [a,b] [] [.lt (.v 0) (.v 1),.eq (.v 0) (.v 1)] .ff [[1,0,1]] rfl h0 h1
theorem o47b19 {zx zy zz zw : Int} : zx - zy - 0 + (-(zz - zw)) = zx + zw - (zy + zz) := lin [] [zx,zy,zz,zw] [] (.ie (.a (.s (.s (.v 0) (.v 1)) (.k 0)) (.o (.s (.v 2) (.v 3)))) (.s (.a (.v 0) (.v 3)) (.a (.v 1) (.v 2)))) [[1],[1]] rfl
theorem o73a53 {a b c : Nat} (h0 : a + b ≤ c) : a + (b + 1) ≤ c + 1 := lin [a,b,c] [] [.le (.a (.v 0) (.v 1)) (.v 2)] (.le (.a (.v 0) (.a (.v 1) (.k 1))) (.a (.v 2) (.k 1))) [[1,1]] rfl h0
theorem odf0f4 {zx zy zz : Int} (h0 : (zx = zy - 0) ∧ ((zz = 0) ∧ ((0 : Int) ≤ (0 : Int)))) : (zx = zy + zz) ∧ ((0 : Int) ≤ zz) := lin [] [zx,zy,zz] [.an (.ie (.v 0) (.s (.v 1) (.k 0))) (.an (.ie (.v 2) (.k 0)) (.il (.k 0) (.k 0)))] (.an (.ie (.v 0) (.a (.v 1) (.v 2))) (.il (.k 0) (.v 2))) [[1,1,0,0,1],[1,0,1,1],[1,0,0,0,1]] rfl h0
theorem ocb160 {a b : Nat} (h0 : a + 1 ≤ b) : a < b := lin [a,b] [] [.le (.a (.v 0) (.k 1)) (.v 1)] (.lt (.v 0) (.v 1)) [[1,1]] rfl h0
theorem o6326b {zx zy zz : Int} (h0 : zx - 0 = zy - zz) : zx = zy - zz := lin [] [zx,zy,zz] [.ie (.s (.v 0) (.k 0)) (.s (.v 1) (.v 2))] (.ie (.v 0) (.s (.v 1) (.v 2))) [[1,1],[1,0,1]] rfl h0
theorem o0b304 {a b : Nat} (h0 : a ≤ b) : a ≤ b + 1 - 1 := have L := lin [a,b,(b + 1 - 1)] []; L [.le (.v 0) (.v 1),.eq (.a (.v 2) (.k 1)) (.a (.v 1) (.k 1))] (.le (.v 0) (.v 2)) [[1,1,0,1]] rfl h0 (j03 (L [] (.le (.k 1) (.a (.v 1) (.k 1))) [[1]] rfl))
theorem ocdc00 {zx zy zz zw : Int} (h0 : (0 : Int) < zx) (h1 : zy ≤ zz) (h2 : zw - zx = zz - zy) : (0 : Int) < zw := lin [] [zx,zy,zz,zw] [.it (.k 0) (.v 0),.il (.v 1) (.v 2),.ie (.s (.v 3) (.v 0)) (.s (.v 2) (.v 1))] (.it (.k 0) (.v 3)) [[1,1,1,0,1]] rfl h0 h1 h2
theorem o0209a {a : Nat} {zx zy : Int} (h0 : (0 : Int) < zx) (h1 : zy = zx) (h2 : zy = 0) : a < a := lin [a] [zx,zy] [.it (.k 0) (.v 0),.ie (.v 1) (.v 0),.ie (.v 1) (.k 0)] (.lt (.v 0) (.v 0)) [[0,1,0,1,1]] rfl h0 h1 h2
theorem o86079 {a b : Nat} {zx zy : Int} (h0 : (0 : Int) < zx) (h1 : zy = zx) (h2 : zy = 0) : a < b := lin [a,b] [zx,zy] [.it (.k 0) (.v 0),.ie (.v 1) (.v 0),.ie (.v 1) (.k 0)] (.lt (.v 0) (.v 1)) [[0,1,0,1,1]] rfl h0 h1 h2
theorem o0f070 {zx zy : Int} (h0 : (0 : Int) < zx) (h1 : zy = zx) : (0 : Int) < zy := lin [] [zx,zy] [.it (.k 0) (.v 0),.ie (.v 1) (.v 0)] (.it (.k 0) (.v 1)) [[1,1,0,1]] rfl h0 h1
theorem o8a424 {a b c : Nat} (h0 : a < b) (h1 : b < c) : a < c := lin [a,b,c] [] [.lt (.v 0) (.v 1),.lt (.v 1) (.v 2)] (.lt (.v 0) (.v 2)) [[1,1,1]] rfl h0 h1
theorem o80915 {a b c : Nat} (h0 : a < b) (h1 : c = b) : a < c := lin [a,b,c] [] [.lt (.v 0) (.v 1),.eq (.v 2) (.v 1)] (.lt (.v 0) (.v 2)) [[1,1,0,1]] rfl h0 h1
theorem of65d4 {a : Nat} : (Int.toNat (a : Int)) = a := have L := lin [a,(Int.toNat (a : Int))] []; L [.ie (.c (.v 1)) (.c (.v 0))] (.eq (.v 1) (.v 0)) [[1,1],[1,0,1]] rfl (j14 (L [] (.il (.k 0) (.c (.v 0))) [[1]] rfl))
theorem obdd3f {a b c : Nat} (h0 : a < b) (h1 : c = b) : (a : Int) < (c : Int) := lin [a,b,c] [] [.lt (.v 0) (.v 1),.eq (.v 2) (.v 1)] (.it (.c (.v 0)) (.c (.v 2))) [[1,1,0,1]] rfl h0 h1
theorem o301ce {a b : Nat} (h0 : a ≠ b) : (a : Int) ≠ (b : Int) := have L := lin [a,b] []; (Nat.lt_or_gt_of_ne h0).elim (fun g0 => L [.lt (.v 0) (.v 1)] (.nt (.ie (.c (.v 0)) (.c (.v 1)))) [[0,1,1]] rfl g0) (fun g0 => L [.lt (.v 1) (.v 0)] (.nt (.ie (.c (.v 0)) (.c (.v 1)))) [[1,0,1]] rfl g0)
theorem od0aba {zx zy zz zw z1 z2 z3 z4 : Int} (h0 : zx ≤ zy) (h1 : zx ≤ zz) (h2 : (zw = z1 + zz) ∧ ((0 : Int) ≤ zz)) (h3 : z2 ≤ z1) (h4 : (z3 = z2 - zy) ∧ ((z4 = 0) ∧ ((0 : Int) ≤ zy))) : ¬(zw - zx < z3 + zx) := lin [] [zx,zy,zz,zw,z1,z2,z3,z4] [.il (.v 0) (.v 1),.il (.v 0) (.v 2),.an (.ie (.v 3) (.a (.v 4) (.v 2))) (.il (.k 0) (.v 2)),.il (.v 5) (.v 4),.an (.ie (.v 6) (.s (.v 5) (.v 1))) (.an (.ie (.v 7) (.k 0)) (.il (.k 0) (.v 1)))] (.nt (.it (.s (.v 3) (.v 0)) (.a (.v 6) (.v 0)))) [[2,2,2,0,2,0,2,2]] rfl h0 h1 h2 h3 h4
theorem od9979 {zx zy zz zw : Int} (h0 : zx ≤ zy) (h1 : (zz = zw + zy) ∧ ((0 : Int) ≤ zy)) : (zz - zx = zw + (zy - zx)) ∧ ((0 : Int) ≤ zy - zx) := lin [] [zx,zy,zz,zw] [.il (.v 0) (.v 1),.an (.ie (.v 2) (.a (.v 3) (.v 1))) (.il (.k 0) (.v 1))] (.an (.ie (.s (.v 2) (.v 0)) (.a (.v 3) (.s (.v 1) (.v 0)))) (.il (.k 0) (.s (.v 1) (.v 0)))) [[1,0,1],[1,0,0,1],[1,1]] rfl h0 h1
theorem o58580 {zx zy zz zw z1 : Int} (h0 : (zx = zy - zz) ∧ ((zw = 0) ∧ ((0 : Int) ≤ zz))) : zx + z1 = zy - (zz - z1) := lin [] [zx,zy,zz,zw,z1] [.an (.ie (.v 0) (.s (.v 1) (.v 2))) (.an (.ie (.v 3) (.k 0)) (.il (.k 0) (.v 2)))] (.ie (.a (.v 0) (.v 4)) (.s (.v 1) (.s (.v 2) (.v 4)))) [[1,1],[1,0,1]] rfl h0
theorem of9912 {a b c : Nat} (h0 : a < b) (h1 : b < c) (h2 : c = a) : False := lin [a,b,c] [] [.lt (.v 0) (.v 1),.lt (.v 1) (.v 2),.eq (.v 2) (.v 0)] .ff [[1,1,1]] rfl h0 h1 h2
theorem o43b7b {zx zy : Int} (h0 : zx ≤ zy) (h1 : ¬(zy - zx = 0)) : (0 : Int) < zy - zx := have L := lin [] [zx,zy]; (Int.lt_or_gt_of_ne h1).elim (fun g0 => L [.il (.v 0) (.v 1),.it (.s (.v 1) (.v 0)) (.k 0)] (.it (.k 0) (.s (.v 1) (.v 0))) [[0,1,1]] rfl h0 g0) (fun g0 => L [.it (.k 0) (.s (.v 1) (.v 0))] (.it (.k 0) (.s (.v 1) (.v 0))) [[1,1]] rfl g0)
theorem o967fe {zx zy : Int} (h0 : (0 : Int) < zx - zy) : ¬(zx - zy = 0) := lin [] [zx,zy] [.it (.k 0) (.s (.v 0) (.v 1))] (.nt (.ie (.s (.v 0) (.v 1)) (.k 0))) [[1,0,1]] rfl h0
theorem o51a91 {zx zy zz zw z1 z2 : Int} (h0 : zx - zy = zz - zw) : zx - z1 + (z1 - z2) - (zy - z2) = zz - zw := lin [] [zx,zy,zz,zw,z1,z2] [.ie (.s (.v 0) (.v 1)) (.s (.v 2) (.v 3))] (.ie (.s (.a (.s (.v 0) (.v 4)) (.s (.v 4) (.v 5))) (.s (.v 1) (.v 5))) (.s (.v 2) (.v 3))) [[1,1],[1,0,1]] rfl h0
theorem o8540f {a b c : Nat} (h0 : a + (b + 1) ≤ c) : a + 1 + b ≤ c := lin [a,b,c] [] [.le (.a (.v 0) (.a (.v 1) (.k 1))) (.v 2)] (.le (.a (.a (.v 0) (.k 1)) (.v 1)) (.v 2)) [[1,1]] rfl h0
theorem o93145 {a b : Nat} (h0 : a + 1 ≤ b) : a + 1 ≤ b := lin [a,b] [] [.le (.a (.v 0) (.k 1)) (.v 1)] (.le (.a (.v 0) (.k 1)) (.v 1)) [[1,1]] rfl h0
theorem o312ee {zx zy : Int} (h0 : zx = zy) (h1 : (0 : Int) ≤ zx) : (0 : Int) ≤ zy := lin [] [zx,zy] [.ie (.v 0) (.v 1),.il (.k 0) (.v 0)] (.il (.k 0) (.v 1)) [[1,1,0,1]] rfl h0 h1
theorem offfe0 {zx zy zz : Int} (h0 : zx = zy) (h1 : zz = zx - zy) : zz = 0 := lin [] [zx,zy,zz] [.ie (.v 0) (.v 1),.ie (.v 2) (.s (.v 0) (.v 1))] (.ie (.v 2) (.k 0)) [[1,1,0,1],[1,0,1,0,1]] rfl h0 h1
theorem oaa43f {a b : Nat} (h0 : 1 ≤ a) (h1 : b ≤ a - 1) : b < a := have L := lin [a,b,(a - 1)] []; L [.le (.v 1) (.v 2),.eq (.a (.v 2) (.k 1)) (.v 0)] (.lt (.v 1) (.v 0)) [[1,1,1]] rfl h1 (j03 (L [.le (.k 1) (.v 0)] (.le (.k 1) (.v 0)) [[1,1]] rfl h0))
theorem o572ac {zx zy zz : Int} (h0 : (zx = zy + zz) ∧ ((0 : Int) ≤ zz)) (h1 : zz = 0) : zx = zy := lin [] [zx,zy,zz] [.an (.ie (.v 0) (.a (.v 1) (.v 2))) (.il (.k 0) (.v 2)),.ie (.v 2) (.k 0)] (.ie (.v 0) (.v 1)) [[1,1,0,0,1],[1,0,1,1]] rfl h0 h1
theorem o7aa7a {a b c : Nat} (h0 : a = b) (h1 : c ≤ b) : c ≤ a := lin [a,b,c] [] [.eq (.v 0) (.v 1),.le (.v 2) (.v 1)] (.le (.v 2) (.v 0)) [[1,0,1,1]] rfl h0 h1
theorem o81c62 {a b c d e f : Nat} (h0 : a = b) (h1 : c = d) (h2 : e = a) (h3 : f = c) (h4 : b = d) : e = f := lin [a,b,c,d,e,f] [] [.eq (.v 0) (.v 1),.eq (.v 2) (.v 3),.eq (.v 4) (.v 0),.eq (.v 5) (.v 2),.eq (.v 1) (.v 3)] (.eq (.v 4) (.v 5)) [[1,1,0,0,1,1,0,0,1,1],[1,0,1,1,0,0,1,1,0,0,1]] rfl h0 h1 h2 h3 h4
theorem ob7fbb {a b c : Nat} (h0 : a = b) (h1 : c = a) : b = c := lin [a,b,c] [] [.eq (.v 0) (.v 1),.eq (.v 2) (.v 0)] (.eq (.v 1) (.v 2)) [[1,0,1,0,1],[1,1,0,1]] rfl h0 h1
theorem o7814e {a b c d e : Nat} (h0 : a = b) (h1 : c = d) (h2 : e = a) (h3 : e = c) : b = d := lin [a,b,c,d,e] [] [.eq (.v 0) (.v 1),.eq (.v 2) (.v 3),.eq (.v 4) (.v 0),.eq (.v 4) (.v 2)] (.eq (.v 1) (.v 3)) [[1,0,1,1,0,0,1,1],[1,1,0,0,1,1,0,0,1]] rfl h0 h1 h2 h3
theorem o22e18 {a b c d : Nat} (h0 : a = b) (h1 : c = a) (h2 : b = d) : (min b d) = c := have L := lin [a,b,c,d,(min b d)] []; L [.eq (.v 0) (.v 1),.eq (.v 2) (.v 0),.eq (.v 4) (.v 1)] (.eq (.v 4) (.v 2)) [[1,0,1,0,1,1],[1,1,0,1,0,0,1]] rfl h0 h1 (Nat.min_eq_left (L [.eq (.v 1) (.v 3)] (.le (.v 1) (.v 3)) [[1,1]] rfl h2))
theorem o538a5 {a : Nat} : 0 + ((a : Int) * 1) = (a : Int) := lin [a] [] [] (.ie (.a (.k 0) (.r (.c (.v 0)) 1)) (.c (.v 0))) [[1],[1]] rfl
theorem o73b8f {a b c : Nat} (h0 : a = b) (h1 : c = a) : c = b := lin [a,b,c] [] [.eq (.v 0) (.v 1),.eq (.v 2) (.v 0)] (.eq (.v 2) (.v 1)) [[1,1,0,1],[1,0,1,0,1]] rfl h0 h1
theorem o2ed12 {a b c : Nat} (h0 : a < 2) (h1 : b ≤ c) (h2 : c < a) : b = c := lin [a,b,c] [] [.lt (.v 0) (.k 2),.le (.v 1) (.v 2),.lt (.v 2) (.v 0)] (.eq (.v 1) (.v 2)) [[1,0,1],[1,1,0,1]] rfl h0 h1 h2
theorem o19dcc {a b : Nat} (h0 : a = b) (h1 : ¬(b < 2)) : 2 ≤ a := lin [a,b] [] [.eq (.v 0) (.v 1),.nt (.lt (.v 1) (.k 2))] (.le (.k 2) (.v 0)) [[1,0,1,1]] rfl h0 h1
theorem o7c67e {a : Nat} (h0 : ¬(a < 2)) : 2 ≤ a := lin [a] [] [.nt (.lt (.v 0) (.k 2))] (.le (.k 2) (.v 0)) [[1,1]] rfl h0
theorem o167c2 {a b c : Nat} (h0 : a < (min b c)) : a < b := lin [a,b,c,(min b c)] [] [.lt (.v 0) (.v 3),.le (.v 3) (.v 1)] (.lt (.v 0) (.v 1)) [[1,1,1]] rfl h0 (Nat.min_le_left _ _)
theorem ofa411 {a b c : Nat} (h0 : a < (min b c)) : a < c := lin [a,b,c,(min b c)] [] [.lt (.v 0) (.v 3),.le (.v 3) (.v 2)] (.lt (.v 0) (.v 2)) [[1,1,1]] rfl h0 (Nat.min_le_right _ _)
theorem oc6eb4 {a b : Nat} (h0 : a = b) : (min b a) = b := have L := lin [a,b,(min b a)] []; L [.eq (.v 2) (.v 1)] (.eq (.v 2) (.v 1)) [[1,1],[1,0,1]] rfl (Nat.min_eq_left (L [.eq (.v 0) (.v 1)] (.le (.v 1) (.v 0)) [[1,0,1]] rfl h0))
theorem o18d53 {a b c : Nat} (h0 : a = b) (h1 : c < b) : c < a := lin [a,b,c] [] [.eq (.v 0) (.v 1),.lt (.v 2) (.v 1)] (.lt (.v 2) (.v 0)) [[1,0,1,1]] rfl h0 h1
theorem oc2d00 {a b c : Nat} (h0 : a ≤ b) (h1 : c < a) : c < b := lin [a,b,c] [] [.le (.v 0) (.v 1),.lt (.v 2) (.v 0)] (.lt (.v 2) (.v 1)) [[1,1,1]] rfl h0 h1
theorem o3b41e {a b : Nat} (h0 : a ≤ b) : a ≤ b + 2 := lin [a,b] [] [.le (.v 0) (.v 1)] (.le (.v 0) (.a (.v 1) (.k 2))) [[1,1]] rfl h0
theorem o63fe8 {a b c : Nat} (h0 : a ≤ b) (h1 : c < a) : b ≠ c := lin [a,b,c] [] [.le (.v 0) (.v 1),.lt (.v 2) (.v 0)] (.nt (.eq (.v 1) (.v 2))) [[1,0,1,1]] rfl h0 h1
theorem oe110a {a b c : Nat} (h0 : a ≤ b) (h1 : c < a) : b + 2 ≠ c := lin [a,b,c] [] [.le (.v 0) (.v 1),.lt (.v 2) (.v 0)] (.nt (.eq (.a (.v 1) (.k 2)) (.v 2))) [[1,0,1,1]] rfl h0 h1
theorem o02d9d {a b c : Nat} (h0 : a ≤ b) (h1 : c < a) : c < b + 2 := lin [a,b,c] [] [.le (.v 0) (.v 1),.lt (.v 2) (.v 0)] (.lt (.v 2) (.a (.v 1) (.k 2))) [[1,1,1]] rfl h0 h1
theorem ob8244 {a b c : Nat} (h0 : a ≤ b) (h1 : c ≤ a) : c ≤ b + 2 := lin [a,b,c] [] [.le (.v 0) (.v 1),.le (.v 2) (.v 0)] (.le (.v 2) (.a (.v 1) (.k 2))) [[1,1,1]] rfl h0 h1
theorem o1dac9 {a : Nat} : a < a + 2 := lin [a] [] [] (.lt (.v 0) (.a (.v 0) (.k 2))) [[1]] rfl
theorem o1a5ea {a b : Nat} (h0 : a = b) : b = a := lin [a,b] [] [.eq (.v 0) (.v 1)] (.eq (.v 1) (.v 0)) [[1,0,1],[1,1]] rfl h0
theorem o1d293 : (2 : Nat) ≤ (16777216 : Nat) := lin [] [] [] (.le (.k 2) (.k 16777216)) [[1]] rfl
theorem ofe091 {a b c : Nat} (h0 : a = b) (h1 : c = b) : a ≤ c := lin [a,b,c] [] [.eq (.v 0) (.v 1),.eq (.v 2) (.v 1)] (.le (.v 0) (.v 2)) [[1,1,0,0,1]] rfl h0 h1
theorem o3c9ad {a b c : Nat} (h0 : a ≤ 1000) (h1 : b ≤ (min c a)) : b ≤ 1000 := lin [a,b,c,(min c a)] [] [.le (.v 0) (.k 1000),.le (.v 1) (.v 3),.le (.v 3) (.v 0)] (.le (.v 1) (.k 1000)) [[1,1,1,1]] rfl h0 h1 (Nat.min_le_right _ _)
theorem ob7bfc {zx : Int} (h0 : (0 : Int) ≤ zx) : zx = (((Int.toNat zx) : Nat) : Int) := have L := lin [(Int.toNat zx)] [zx]; L [.ie (.c (.v 0)) (.v 0)] (.ie (.v 0) (.c (.v 0))) [[1,0,1],[1,1]] rfl (j14 (L [.il (.k 0) (.v 0)] (.il (.k 0) (.v 0)) [[1,1]] rfl h0))
theorem o0b728 {a b c d : Nat} (h0 : a ≤ b) (h1 : b < a) : c = d := lin [a,b,c,d] [] [.le (.v 0) (.v 1),.lt (.v 1) (.v 0)] (.eq (.v 2) (.v 3)) [[0,1,1],[0,1,1]] rfl h0 h1
theorem oc90d3 {a b : Nat} (h0 : a - b ≤ 0) (h1 : b ≤ a) : b = a := have L := lin [a,b,(a - b)] []; L [.le (.v 2) (.k 0),.le (.v 1) (.v 0),.eq (.a (.v 2) (.v 1)) (.v 0)] (.eq (.v 1) (.v 0)) [[1,0,1],[1,1,0,0,1]] rfl h0 h1 (j03 (L [.le (.v 1) (.v 0)] (.le (.v 1) (.v 0)) [[1,1]] rfl h1))
theorem o9f09c {a b c : Nat} (h0 : a ≤ b) (h1 : c < a) : (c + a) / 2 < b := lin [a,b,c,((c + a) / 2)] [] [.le (.v 0) (.v 1),.lt (.v 2) (.v 0),.le (.m 2 (.v 3)) (.a (.v 2) (.v 0))] (.lt (.v 3) (.v 1)) [[2,2,1,1]] rfl h0 h1 (j2e _ _)
theorem o8a340 {a b c : Nat} (h0 : a - b ≤ c + 1) : a - (((b + a) / 2) + 1) ≤ c := have L := lin [a,b,c,(a - b),(a - (((b + a) / 2) + 1)),((b + a) / 2)] []; (Nat.le_total (((b + a) / 2) + 1) a).elim (fun g0 => L [.le (.v 3) (.a (.v 2) (.k 1)),.le (.a (.v 5) (.k 1)) (.v 0),.lt (.a (.v 1) (.v 0)) (.a (.m 2 (.v 5)) (.k 2)),.eq (.a (.v 4) (.a (.v 5) (.k 1))) (.v 0),.eq (.a (.v 3) (.v 1)) (.v 0)] (.le (.v 4) (.v 2)) [[1,1,1,1,1,0,0,1]] rfl h0 g0 (j7m _ (by decide)) (j03 (L [.le (.a (.v 5) (.k 1)) (.v 0)] (.le (.a (.v 5) (.k 1)) (.v 0)) [[1,1]] rfl g0)) (j03 (L [.le (.a (.v 5) (.k 1)) (.v 0),.lt (.a (.v 1) (.v 0)) (.a (.m 2 (.v 5)) (.k 2))] (.le (.v 1) (.v 0)) [[1,2,1]] rfl g0 (j7m _ (by decide))))) (fun g0 => L [.eq (.v 4) (.k 0)] (.le (.v 4) (.v 2)) [[1,1]] rfl (j0b (L [.le (.v 0) (.a (.v 5) (.k 1))] (.le (.v 0) (.a (.v 5) (.k 1))) [[1,1]] rfl g0)))
theorem oce99a {a b : Nat} (h0 : a < b) : ((a + b) / 2) + 1 ≤ b := lin [a,b,((a + b) / 2)] [] [.lt (.v 0) (.v 1),.le (.m 2 (.v 2)) (.a (.v 0) (.v 1))] (.le (.a (.v 2) (.k 1)) (.v 1)) [[2,1,1]] rfl h0 (j2e _ _)
theorem o109ca {a b c : Nat} (h0 : a < ((b + c) / 2) + 1) (h1 : ¬(a = (b + c) / 2)) : a < (b + c) / 2 := have L := lin [a,b,c,((b + c) / 2)] []; (Nat.lt_or_gt_of_ne h1).elim (fun g0 => L [.lt (.v 0) (.v 3)] (.lt (.v 0) (.v 3)) [[1,1]] rfl g0) (fun g0 => L [.lt (.v 0) (.a (.v 3) (.k 1)),.lt (.v 3) (.v 0)] (.lt (.v 0) (.v 3)) [[0,1,1]] rfl h0 g0)
theorem o36505 {a b c : Nat} (h0 : a - b ≤ c + 1) : ((b + a) / 2) - b ≤ c := have L := lin [a,b,c,(a - b),(((b + a) / 2) - b),((b + a) / 2)] []; (Nat.le_total b ((b + a) / 2)).elim (fun g0 => L [.le (.v 3) (.a (.v 2) (.k 1)),.le (.m 2 (.v 5)) (.a (.v 1) (.v 0)),.eq (.a (.v 4) (.v 1)) (.v 5),.eq (.a (.v 3) (.v 1)) (.v 0)] (.le (.v 4) (.v 2)) [[4,2,2,4,0,0,2]] rfl h0 (j2e _ _) (j03 (L [.le (.v 1) (.v 5)] (.le (.v 1) (.v 5)) [[1,1]] rfl g0)) (j03 (L [.le (.v 1) (.v 5),.le (.m 2 (.v 5)) (.a (.v 1) (.v 0))] (.le (.v 1) (.v 0)) [[1,2,1]] rfl g0 (j2e _ _)))) (fun g0 => L [.eq (.v 4) (.k 0)] (.le (.v 4) (.v 2)) [[1,1]] rfl (j0b (L [.le (.v 5) (.v 1)] (.le (.v 5) (.v 1)) [[1,1]] rfl g0)))
theorem o520a1 {a b : Nat} (h0 : a < b) : a ≤ (a + b) / 2 := lin [a,b,((a + b) / 2)] [] [.lt (.v 0) (.v 1),.lt (.a (.v 0) (.v 1)) (.a (.m 2 (.v 2)) (.k 2))] (.le (.v 0) (.v 2)) [[2,1,1]] rfl h0 (j7m _ (by decide))
theorem odbe37 {a b c : Nat} (h0 : (a + b) / 2 < c) : (a + b) / 2 ≤ c := lin [a,b,c,((a + b) / 2)] [] [.lt (.v 3) (.v 2)] (.le (.v 3) (.v 2)) [[1,1]] rfl h0
theorem oef8fb {a b c : Nat} (h0 : (a + b) / 2 ≤ c) (h1 : ¬(c = (a + b) / 2)) : (a + b) / 2 < c := have L := lin [a,b,c,((a + b) / 2)] []; (Nat.lt_or_gt_of_ne h1).elim (fun g0 => L [.le (.v 3) (.v 2),.lt (.v 2) (.v 3)] (.lt (.v 3) (.v 2)) [[0,1,1]] rfl h0 g0) (fun g0 => L [.lt (.v 3) (.v 2)] (.lt (.v 3) (.v 2)) [[1,1]] rfl g0)
theorem o1c5cd {a b c : Nat} (h0 : ¬(a < b)) (h1 : a < c) : b ≤ c := lin [a,b,c] [] [.nt (.lt (.v 0) (.v 1)),.lt (.v 0) (.v 2)] (.le (.v 1) (.v 2)) [[1,1,1]] rfl h0 h1
theorem o1d7e4 {a : Nat} : a - 0 ≤ a := have L := lin [a,(a - 0)] []; L [.eq (.a (.v 1) (.k 0)) (.v 0)] (.le (.v 1) (.v 0)) [[1,1]] rfl (j03 (L [] (.le (.k 0) (.v 0)) [[1]] rfl))
theorem o1d33c {a b c d : Nat} (h0 : a ≤ b) (h1 : b < a) : c ≤ d := lin [a,b,c,d] [] [.le (.v 0) (.v 1),.lt (.v 1) (.v 0)] (.le (.v 2) (.v 3)) [[0,1,1]] rfl h0 h1
theorem o42a31 {a b : Nat} (h0 : a ≤ b) (h1 : a ≥ b) : b = a := lin [a,b] [] [.le (.v 0) (.v 1),.le (.v 1) (.v 0)] (.eq (.v 1) (.v 0)) [[1,0,1],[1,1]] rfl h0 h1
theorem o4b6d9 {a b c : Nat} (h0 : a + b < c) : a < c := lin [a,b,c] [] [.lt (.a (.v 0) (.v 1)) (.v 2)] (.lt (.v 0) (.v 2)) [[1,1]] rfl h0
theorem o2826e {a b : Nat} (h0 : ¬(a = 0)) : b < b + a := have L := lin [a,b] []; (Nat.lt_or_gt_of_ne h0).elim (fun g0 => L [.lt (.v 0) (.k 0)] (.lt (.v 1) (.a (.v 1) (.v 0))) [[0,1]] rfl g0) (fun g0 => L [.lt (.k 0) (.v 0)] (.lt (.v 1) (.a (.v 1) (.v 0))) [[1,1]] rfl g0)
theorem o2e6ae {a b c : Nat} (h0 : a ≤ b) (h1 : b < a) : a < c := lin [a,b,c] [] [.le (.v 0) (.v 1),.lt (.v 1) (.v 0)] (.lt (.v 0) (.v 2)) [[0,1,1]] rfl h0 h1
theorem o63b20 {a b c : Nat} (h0 : a < b) (h1 : b ≤ c) : a < c := lin [a,b,c] [] [.lt (.v 0) (.v 1),.le (.v 1) (.v 2)] (.lt (.v 0) (.v 2)) [[1,1,1]] rfl h0 h1
theorem oba178 {a b c d : Nat} (h0 : a ≤ b + c) (h1 : b ≤ d + 1) : a ≤ d + (c + 1) := lin [a,b,c,d] [] [.le (.v 0) (.a (.v 1) (.v 2)),.le (.v 1) (.a (.v 3) (.k 1))] (.le (.v 0) (.a (.v 3) (.a (.v 2) (.k 1)))) [[1,1,1]] rfl h0 h1
theorem oeecd4 {a b c : Nat} (h0 : a + 1 < b) (h1 : c = a) : c < b := lin [a,b,c] [] [.lt (.a (.v 0) (.k 1)) (.v 1),.eq (.v 2) (.v 0)] (.lt (.v 2) (.v 1)) [[1,1,1]] rfl h0 h1
theorem of37ed {a b c : Nat} (h0 : a < b) (h1 : c = a) : c < b := lin [a,b,c] [] [.lt (.v 0) (.v 1),.eq (.v 2) (.v 0)] (.lt (.v 2) (.v 1)) [[1,1,1]] rfl h0 h1
theorem o4d1a2 {a b : Nat} (h0 : a = b + 1) : 0 < a := lin [a,b] [] [.eq (.v 0) (.a (.v 1) (.k 1))] (.lt (.k 0) (.v 0)) [[1,0,1]] rfl h0
theorem oe404e {a b : Nat} (h0 : a = b + 1) : a - 1 = b := have L := lin [a,b,(a - 1)] []; L [.eq (.v 0) (.a (.v 1) (.k 1)),.eq (.a (.v 2) (.k 1)) (.v 0)] (.eq (.v 2) (.v 1)) [[1,1,0,1],[1,0,1,0,1]] rfl h0 (j03 (L [.eq (.v 0) (.a (.v 1) (.k 1))] (.le (.k 1) (.v 0)) [[1,0,1]] rfl h0))
theorem o93f83 {a b : Nat} (h0 : a = b) : a = b := lin [a,b] [] [.eq (.v 0) (.v 1)] (.eq (.v 0) (.v 1)) [[1,1],[1,0,1]] rfl h0
theorem o77cee {a b c : Nat} (h0 : a = b) (h1 : ¬(c < b)) : a ≤ c := lin [a,b,c] [] [.eq (.v 0) (.v 1),.nt (.lt (.v 2) (.v 1))] (.le (.v 0) (.v 2)) [[1,1,0,1]] rfl h0 h1
theorem o101c3 {a b : Nat} (h0 : a - b = 0) (h1 : b ≤ a) : b = a := have L := lin [a,b,(a - b)] []; L [.eq (.v 2) (.k 0),.le (.v 1) (.v 0),.eq (.a (.v 2) (.v 1)) (.v 0)] (.eq (.v 1) (.v 0)) [[1,0,0,1],[1,1,0,0,0,1]] rfl h0 h1 (j03 (L [.le (.v 1) (.v 0)] (.le (.v 1) (.v 0)) [[1,1]] rfl h1))
theorem o44404 {a b c : Nat} (h0 : a - b = c + 1) : b < a := have L := lin [a,b,c,(a - b)] []; (Nat.le_total b a).elim (fun g0 => L [.eq (.v 3) (.a (.v 2) (.k 1)),.eq (.a (.v 3) (.v 1)) (.v 0)] (.lt (.v 1) (.v 0)) [[1,0,1,1]] rfl h0 (j03 (L [.le (.v 1) (.v 0)] (.le (.v 1) (.v 0)) [[1,1]] rfl g0))) (fun g0 => L [.eq (.v 3) (.a (.v 2) (.k 1)),.eq (.v 3) (.k 0)] (.lt (.v 1) (.v 0)) [[0,0,1,1]] rfl h0 (j0b (L [.le (.v 0) (.v 1)] (.le (.v 0) (.v 1)) [[1,1]] rfl g0)))
theorem o5656b {a b c d e : Nat} (h0 : a + 1 < b) (h1 : c < a) (h2 : d ≤ (min c e)) : d + 1 < b := lin [a,b,c,d,e,(min c e)] [] [.lt (.a (.v 0) (.k 1)) (.v 1),.lt (.v 2) (.v 0),.le (.v 3) (.v 5),.le (.v 5) (.v 2)] (.lt (.a (.v 3) (.k 1)) (.v 1)) [[1,1,1,1,1]] rfl h0 h1 h2 (Nat.min_le_left _ _)
theorem o2f1f1 {a b c : Nat} (h0 : a - b = c + 1) : a - (b + 1) = c := have L := lin [a,b,c,(a - b),(a - (b + 1))] []; (Nat.le_total (b + 1) a).elim (fun g0 => L [.eq (.v 3) (.a (.v 2) (.k 1)),.eq (.a (.v 4) (.a (.v 1) (.k 1))) (.v 0),.eq (.a (.v 3) (.v 1)) (.v 0)] (.eq (.v 4) (.v 2)) [[1,1,0,1,0,0,1],[1,0,1,0,1,1]] rfl h0 (j03 (L [.le (.a (.v 1) (.k 1)) (.v 0)] (.le (.a (.v 1) (.k 1)) (.v 0)) [[1,1]] rfl g0)) (j03 (L [.le (.a (.v 1) (.k 1)) (.v 0)] (.le (.v 1) (.v 0)) [[1,1]] rfl g0))) (fun g0 => (Nat.le_total b a).elim (fun g1 => L [.eq (.v 3) (.a (.v 2) (.k 1)),.le (.v 0) (.a (.v 1) (.k 1)),.eq (.v 4) (.k 0),.eq (.a (.v 3) (.v 1)) (.v 0)] (.eq (.v 4) (.v 2)) [[1,0,0,0,1],[1,0,1,1,0,1,1]] rfl h0 g0 (j0b (L [.le (.v 0) (.a (.v 1) (.k 1))] (.le (.v 0) (.a (.v 1) (.k 1))) [[1,1]] rfl g0)) (j03 (L [.le (.v 1) (.v 0)] (.le (.v 1) (.v 0)) [[1,1]] rfl g1))) (fun g1 => L [.eq (.v 3) (.a (.v 2) (.k 1)),.eq (.v 4) (.k 0),.eq (.v 3) (.k 0)] (.eq (.v 4) (.v 2)) [[1,0,0,1],[0,0,1,0,0,1]] rfl h0 (j0b (L [.le (.v 0) (.a (.v 1) (.k 1))] (.le (.v 0) (.a (.v 1) (.k 1))) [[1,1]] rfl g0)) (j0b (L [.le (.v 0) (.v 1)] (.le (.v 0) (.v 1)) [[1,1]] rfl g1))))
theorem ofb53c {a : Nat} : a - 0 = a := have L := lin [a,(a - 0)] []; L [.eq (.a (.v 1) (.k 0)) (.v 0)] (.eq (.v 1) (.v 0)) [[1,1],[1,0,1]] rfl (j03 (L [] (.le (.k 0) (.v 0)) [[1]] rfl))
theorem oce0c1 {a b c d : Nat} (h0 : a < b) (h1 : c = d) (h2 : d = a) : c < b := lin [a,b,c,d] [] [.lt (.v 0) (.v 1),.eq (.v 2) (.v 3),.eq (.v 3) (.v 0)] (.lt (.v 2) (.v 1)) [[1,1,1,0,1]] rfl h0 h1 h2
theorem o9aaf8 {zx : Int} (h0 : (1 : Int) ≤ zx) : zx > 0 := lin [] [zx] [.il (.k 1) (.v 0)] (.it (.k 0) (.v 0)) [[1,1]] rfl h0
theorem o7f220 {a : Nat} (h0 : (0 : Int) < (a : Int)) : (1 : Int) ≤ (a : Int) - 0 := lin [a] [] [.it (.k 0) (.c (.v 0))] (.il (.k 1) (.s (.c (.v 0)) (.k 0))) [[1,1]] rfl h0
theorem o421c7 {a : Nat} {zx : Int} (h0 : zx ≤ (a : Int) - 0) : (Int.toNat zx) ≤ a := by omega
theorem od8082 {a : Nat} : (0 : Int) < (((a + 1) : Nat) : Int) := lin [a] [] [] (.it (.k 0) (.c (.a (.v 0) (.k 1)))) [[1]] rfl
theorem o6663a {zx : Int} (h0 : (1 : Int) ≤ zx) : (0 : Int) < zx := lin [] [zx] [.il (.k 1) (.v 0)] (.it (.k 0) (.v 0)) [[1,1]] rfl h0
theorem o74fce {a : Nat} {zx : Int} : 1 * zx ≤ (((a + 1) : Nat) : Int) - 0 + zx - 1 := lin [a] [zx] [] (.il (.m 1 (.v 0)) (.s (.a (.s (.c (.a (.v 0) (.k 1))) (.k 0)) (.v 0)) (.k 1))) [[1]] rfl
theorem o863cc {zx : Int} (h0 : (1 : Int) ≤ zx) : 0 < (Int.toNat zx) := have L := lin [(Int.toNat zx)] [zx]; L [.il (.k 1) (.v 0),.ie (.c (.v 0)) (.v 0)] (.lt (.k 0) (.v 0)) [[1,1,0,1]] rfl h0 (j14 (L [.il (.k 1) (.v 0)] (.il (.k 0) (.v 0)) [[1,1]] rfl h0))
theorem oa20ea {a b c : Nat} (h0 : a = b) (h1 : ¬(c < a)) : b ≤ c := lin [a,b,c] [] [.eq (.v 0) (.v 1),.nt (.lt (.v 2) (.v 0))] (.le (.v 1) (.v 2)) [[1,0,1,1]] rfl h0 h1
theorem o7274e {zx : Int} (h0 : (1 : Int) ≤ zx) : ¬(zx = 0) := lin [] [zx] [.il (.k 1) (.v 0)] (.nt (.ie (.v 0) (.k 0))) [[1,0,1]] rfl h0
theorem o03d91 {a : Nat} (h0 : a ≤ 1000) : a + 1 < 4096 := lin [a] [] [.le (.v 0) (.k 1000)] (.lt (.a (.v 0) (.k 1)) (.k 4096)) [[1,1]] rfl h0
theorem oed57f {a b : Nat} (h0 : a ≤ 1000) (h1 : b ≤ a) : b < 4096 := lin [a,b] [] [.le (.v 0) (.k 1000),.le (.v 1) (.v 0)] (.lt (.v 1) (.k 4096)) [[1,1,1]] rfl h0 h1
theorem o5fe39 {a b : Nat} (h0 : (a : Int) < (b : Int)) : a < b := lin [a,b] [] [.it (.c (.v 0)) (.c (.v 1))] (.lt (.v 0) (.v 1)) [[1,1]] rfl h0
theorem obcd97 {zx : Int} : zx % 16 = (((Int.toNat (zx % 16)) : Nat) : Int) := by omega
theorem oe283c {a : Nat} {zx : Int} (h0 : zx % 16 = (a : Int)) : a < 16 := by omega
theorem o80223 {a : Nat} (h0 : (a : Int) < 4) : a < 4 := lin [a] [] [.it (.c (.v 0)) (.k 4)] (.lt (.v 0) (.k 4)) [[1,1]] rfl h0
theorem o73889 {a : Nat} (h0 : (a : Int) < 4) : (a = 0) ∨ ((a = 1) ∨ ((a = 2) ∨ (a = 3))) := by omega
theorem o4bc21 {zx : Int} (h0 : (0 : Int) ≤ zx) (h1 : zx < 5) : ((-(900000 : Int)) ≤ zx - 2) ∧ (zx - 2 ≤ 900000) := lin [] [zx] [.il (.k 0) (.v 0),.it (.v 0) (.k 5)] (.an (.il (.o (.k 900000)) (.s (.v 0) (.k 2))) (.il (.s (.v 0) (.k 2)) (.k 900000))) [[1,1],[1,0,1]] rfl h0 h1
theorem o10f91 {a b : Nat} (h0 : a < (Int.toNat (b : Int))) : a < b := have L := lin [a,b,(Int.toNat (b : Int))] []; L [.lt (.v 0) (.v 2),.ie (.c (.v 2)) (.c (.v 1))] (.lt (.v 0) (.v 1)) [[1,1,1]] rfl h0 (j14 (L [] (.il (.k 0) (.c (.v 1))) [[1]] rfl))
theorem oef2f6 {a : Nat} : (0 : Int) ≤ ((0 + (a : Int)) % 5) + 1 := by omega
theorem o55c6b {zx : Int} (h0 : (2 : Int) ≤ zx) : (0 : Int) < (2 * zx) + 1 := lin [] [zx] [.il (.k 2) (.v 0)] (.it (.k 0) (.a (.m 2 (.v 0)) (.k 1))) [[1,2]] rfl h0
theorem od8a26 {a b : Nat} (h0 : a ≤ 63) (h1 : b < a) : b + 1 ≤ 1000 := lin [a,b] [] [.le (.v 0) (.k 63),.lt (.v 1) (.v 0)] (.le (.a (.v 1) (.k 1)) (.k 1000)) [[1,1,1]] rfl h0 h1
theorem o01536 {zx zy : Int} (h0 : zx ≤ 900000) (h1 : (0 : Int) ≤ zy) (h2 : zy < (2 * zx) + 1) : ((-(900000 : Int)) ≤ zy - zx) ∧ (zy - zx ≤ 900000) := lin [] [zx,zy] [.il (.v 0) (.k 900000),.il (.k 0) (.v 1),.it (.v 1) (.a (.m 2 (.v 0)) (.k 1))] (.an (.il (.o (.k 900000)) (.s (.v 1) (.v 0))) (.il (.s (.v 1) (.v 0)) (.k 900000))) [[1,1,1],[2,2,0,2]] rfl h0 h1 h2
theorem o3b513 {zx zy zz : Int} (h0 : zx ≤ zy) (h1 : ((-zx) ≤ zz) ∧ (zz ≤ zx)) : ((-zy) ≤ zz) ∧ (zz ≤ zy) := lin [] [zx,zy,zz] [.il (.v 0) (.v 1),.an (.il (.o (.v 0)) (.v 2)) (.il (.v 2) (.v 0))] (.an (.il (.o (.v 1)) (.v 2)) (.il (.v 2) (.v 1))) [[1,1,1],[1,1,0,1]] rfl h0 h1
theorem o22f1e {zx zy : Int} (h0 : (0 : Int) ≤ zx) (h1 : zx < 3) (h2 : ((-(900000 : Int)) ≤ zy) ∧ (zy ≤ 900000)) : ((-(999990 : Int)) ≤ zy + zx - 1) ∧ (zy + zx - 1 ≤ 999990) := lin [] [zx,zy] [.il (.k 0) (.v 0),.it (.v 0) (.k 3),.an (.il (.o (.k 900000)) (.v 1)) (.il (.v 1) (.k 900000))] (.an (.il (.o (.k 999990)) (.s (.a (.v 1) (.v 0)) (.k 1))) (.il (.s (.a (.v 1) (.v 0)) (.k 1)) (.k 999990))) [[1,1,0,1],[1,0,1,0,1]] rfl h0 h1 h2
theorem o6229b {zx zy zz : Int} (h0 : (0 : Int) ≤ zx) : zy - 1 ≤ zy - zz + (zz + zx - 1) := lin [] [zx,zy,zz] [.il (.k 0) (.v 0)] (.il (.s (.v 1) (.k 1)) (.a (.s (.v 1) (.v 2)) (.s (.a (.v 2) (.v 0)) (.k 1)))) [[1,1]] rfl h0
theorem o017a5 {zx zy zz : Int} (h0 : zx < 3) : zy - zz + (zz + zx - 1) ≤ zy + 1 := lin [] [zx,zy,zz] [.it (.v 0) (.k 3)] (.il (.a (.s (.v 1) (.v 2)) (.s (.a (.v 2) (.v 0)) (.k 1))) (.a (.v 1) (.k 1))) [[1,1]] rfl h0
theorem o61bd6 {a b c : Nat} (h0 : a < (Int.toNat (b : Int))) (h1 : c = b) : a < c := have L := lin [a,b,c,(Int.toNat (b : Int))] []; L [.lt (.v 0) (.v 3),.eq (.v 2) (.v 1),.ie (.c (.v 3)) (.c (.v 1))] (.lt (.v 0) (.v 2)) [[1,1,0,1,1]] rfl h0 h1 (j14 (L [] (.il (.k 0) (.c (.v 1))) [[1]] rfl))
theorem od02e9 {a : Nat} : (0 : Int) ≤ 0 + (a : Int) := lin [a] [] [] (.il (.k 0) (.a (.k 0) (.c (.v 0)))) [[1]] rfl
theorem o65411 {a b c : Nat} (h0 : a = b) (h1 : c < a) : (0 : Int) < (b : Int) := lin [a,b,c] [] [.eq (.v 0) (.v 1),.lt (.v 2) (.v 0)] (.it (.k 0) (.c (.v 1))) [[1,1,0,1]] rfl h0 h1
theorem o753c3 {a b c : Nat} (h0 : a = b) (h1 : (c : Int) < (b : Int)) : c < a := lin [a,b,c] [] [.eq (.v 0) (.v 1),.it (.c (.v 2)) (.c (.v 1))] (.lt (.v 2) (.v 0)) [[1,0,1,1]] rfl h0 h1
theorem o0311b {a : Nat} : (0 : Int) ≤ 0 + (a : Int) + 1 := lin [a] [] [] (.il (.k 0) (.a (.a (.k 0) (.c (.v 0))) (.k 1))) [[1]] rfl
theorem ocf44c {zx : Int} (h0 : (0 : Int) ≤ zx / 4) : (0 : Int) < (zx / 2) + 1 := lin [] [zx,(zx / 4),(zx / 2)] [.il (.k 0) (.v 1),.it (.v 0) (.a (.m 2 (.v 2)) (.k 2)),.il (.m 4 (.v 1)) (.v 0)] (.it (.k 0) (.a (.v 2) (.k 1))) [[2,4,1,1]] rfl h0 (j6l _ (by decide)) (j9a _ (by decide))
theorem ofb19d {zx : Int} (h0 : ((3 : Int) = zx) ∨ ((4 : Int) = zx)) : (zx = 3) ∨ (zx = 4) := by omega
theorem of2574 {zx zy : Int} (h0 : (0 : Int) ≤ zx) (h1 : zx < (zy / 2) + 1) : (0 : Int) < 9 + (zy / 4) := lin [] [zx,zy,(zy / 2),(zy / 4)] [.il (.k 0) (.v 0),.it (.v 0) (.a (.v 2) (.k 1)),.it (.v 1) (.a (.m 4 (.v 3)) (.k 4)),.il (.m 2 (.v 2)) (.v 1)] (.it (.k 0) (.a (.k 9) (.v 3))) [[4,2,2,1,1]] rfl h0 h1 (j6l _ (by decide)) (j9a _ (by decide))
theorem o22a04 {zx : Int} (h0 : ((-(999990 : Int)) ≤ zx) ∧ (zx ≤ 999990)) : ((-(999990 : Int)) ≤ zx - 0) ∧ (zx - 0 ≤ 999990) := lin [] [zx] [.an (.il (.o (.k 999990)) (.v 0)) (.il (.v 0) (.k 999990))] (.an (.il (.o (.k 999990)) (.s (.v 0) (.k 0))) (.il (.s (.v 0) (.k 0)) (.k 999990))) [[1,1],[1,0,1]] rfl h0
theorem o150ce {zx : Int} (h0 : ((-(999990 : Int)) ≤ zx) ∧ (zx ≤ 999990)) : ((-(999990 : Int)) ≤ zx + 0) ∧ (zx + 0 ≤ 999990) := lin [] [zx] [.an (.il (.o (.k 999990)) (.v 0)) (.il (.v 0) (.k 999990))] (.an (.il (.o (.k 999990)) (.a (.v 0) (.k 0))) (.il (.a (.v 0) (.k 0)) (.k 999990))) [[1,1],[1,0,1]] rfl h0
theorem o9c61e {zx zy : Int} (h0 : ((-(999990 : Int)) ≤ zx) ∧ (zx ≤ 999990)) : ((-(999990 : Int)) ≤ zx - zy + zy) ∧ (zx - zy + zy ≤ 999990) := lin [] [zx,zy] [.an (.il (.o (.k 999990)) (.v 0)) (.il (.v 0) (.k 999990))] (.an (.il (.o (.k 999990)) (.a (.s (.v 0) (.v 1)) (.v 1))) (.il (.a (.s (.v 0) (.v 1)) (.v 1)) (.k 999990))) [[1,1],[1,0,1]] rfl h0
theorem o69602 {zx zy zz zw z1 : Int} (h0 : zx = zy) : zx - zz + (zz - zw) - z1 + (z1 + zw) = zy := lin [] [zx,zy,zz,zw,z1] [.ie (.v 0) (.v 1)] (.ie (.a (.s (.a (.s (.v 0) (.v 2)) (.s (.v 2) (.v 3))) (.v 4)) (.a (.v 4) (.v 3))) (.v 1)) [[1,1],[1,0,1]] rfl h0
theorem of6593 {zx zy : Int} (h0 : zx = zy) : zy - 1 ≤ zx := lin [] [zx,zy] [.ie (.v 0) (.v 1)] (.il (.s (.v 1) (.k 1)) (.v 0)) [[1,0,1]] rfl h0
theorem o8e290 {zx zy : Int} (h0 : zx = zy) : zx ≤ zy + 1 := lin [] [zx,zy] [.ie (.v 0) (.v 1)] (.il (.v 0) (.a (.v 1) (.k 1))) [[1,1]] rfl h0
theorem o67d44 {a : Nat} (h0 : (a : Int) = 3) : a = 3 := lin [a] [] [.ie (.c (.v 0)) (.k 3)] (.eq (.v 0) (.k 3)) [[1,1],[1,0,1]] rfl h0
theorem o7827f {a b c : Nat} (h0 : a ≤ 1000) (h1 : b < a) : (min b c) ≤ 1000 := lin [a,b,c,(min b c)] [] [.le (.v 0) (.k 1000),.lt (.v 1) (.v 0),.le (.v 3) (.v 1)] (.le (.v 3) (.k 1000)) [[1,1,1,1]] rfl h0 h1 (Nat.min_le_left _ _)
theorem oc1792 {a b : Nat} (h0 : a = b) (h1 : a ≤ 1000) : b ≤ 1000 := lin [a,b] [] [.eq (.v 0) (.v 1),.le (.v 0) (.k 1000)] (.le (.v 1) (.k 1000)) [[1,0,1,1]] rfl h0 h1
theorem oc6bb8 {a : Nat} (h0 : a ≤ 0) : a = 0 := lin [a] [] [.le (.v 0) (.k 0)] (.eq (.v 0) (.k 0)) [[1,1],[1]] rfl h0
theorem o66542 {a : Nat} : (1 : Int) ≤ 0 + (a : Int) + 1 := lin [a] [] [] (.il (.k 1) (.a (.a (.k 0) (.c (.v 0))) (.k 1))) [[1]] rfl
theorem o7b205 {a b : Nat} (h0 : a < b) : 0 + (a : Int) + 1 ≤ (b : Int) := lin [a,b] [] [.lt (.v 0) (.v 1)] (.il (.a (.a (.k 0) (.c (.v 0))) (.k 1)) (.c (.v 1))) [[1,1]] rfl h0
theorem obf900 {a : Nat} : (Int.toNat (0 + (a : Int) + 1)) = a + 1 := have L := lin [a,(Int.toNat (0 + (a : Int) + 1))] []; L [.ie (.c (.v 1)) (.a (.a (.k 0) (.c (.v 0))) (.k 1))] (.eq (.v 1) (.a (.v 0) (.k 1))) [[1,1],[1,0,1]] rfl (j14 (L [] (.il (.k 0) (.a (.a (.k 0) (.c (.v 0))) (.k 1))) [[1]] rfl))
theorem o00188 {zx zy : Int} (h0 : ¬(zx < zy)) : zy ≤ zx := lin [] [zx,zy] [.nt (.it (.v 0) (.v 1))] (.il (.v 1) (.v 0)) [[1,1]] rfl h0
theorem o23eb5 {a b : Nat} (h0 : a ≤ b + 1) (h1 : ¬(a = b + 1)) : a ≤ b := have L := lin [a,b] []; (Nat.lt_or_gt_of_ne h1).elim (fun g0 => L [.lt (.v 0) (.a (.v 1) (.k 1))] (.le (.v 0) (.v 1)) [[1,1]] rfl g0) (fun g0 => L [.le (.v 0) (.a (.v 1) (.k 1)),.lt (.a (.v 1) (.k 1)) (.v 0)] (.le (.v 0) (.v 1)) [[0,1,1]] rfl h0 g0)
theorem o19440 {a b : Nat} (h0 : a ≤ b) : a ≤ (Int.toNat (b : Int)) := have L := lin [a,b,(Int.toNat (b : Int))] []; L [.le (.v 0) (.v 1),.ie (.c (.v 2)) (.c (.v 1))] (.le (.v 0) (.v 2)) [[1,1,0,1]] rfl h0 (j14 (L [] (.il (.k 0) (.c (.v 1))) [[1]] rfl))
theorem o4a44f : ¬((0 : Int) ≤ (-(1 : Int))) := lin [] [] [] (.nt (.il (.k 0) (.o (.k 1)))) [[1]] rfl
theorem o0654b {a : Nat} : a ≤ a + 1 - 1 := have L := lin [a,(a + 1 - 1)] []; L [.eq (.a (.v 1) (.k 1)) (.a (.v 0) (.k 1))] (.le (.v 0) (.v 1)) [[1,0,1]] rfl (j03 (L [] (.le (.k 1) (.a (.v 0) (.k 1))) [[1]] rfl))
theorem o7b908 {a : Nat} (h0 : a ≤ 1000) : a ≤ 1000 := lin [a] [] [.le (.v 0) (.k 1000)] (.le (.v 0) (.k 1000)) [[1,1]] rfl h0
theorem o274d9 {zx zy zz : Int} (h0 : zx - zy = zz) : zz = zx - zy := lin [] [zx,zy,zz] [.ie (.s (.v 0) (.v 1)) (.v 2)] (.ie (.v 2) (.s (.v 0) (.v 1))) [[1,0,1],[1,1]] rfl h0
theorem o1aafe {a b c d : Nat} (h0 : a ≤ 1000) (h1 : b < a) (h2 : c + d ≤ b) : d ≤ 1000 := lin [a,b,c,d] [] [.le (.v 0) (.k 1000),.lt (.v 1) (.v 0),.le (.a (.v 2) (.v 3)) (.v 1)] (.le (.v 3) (.k 1000)) [[1,1,1,1]] rfl h0 h1 h2
theorem o7eab1 {zx zy zz : Int} (h0 : zx = zy - zz) (h1 : zx < 0) : zy - zz < 0 := lin [] [zx,zy,zz] [.ie (.v 0) (.s (.v 1) (.v 2)),.it (.v 0) (.k 0)] (.it (.s (.v 1) (.v 2)) (.k 0)) [[1,0,1,1]] rfl h0 h1
theorem ob8af0 {zx zy zz : Int} (h0 : zx = zy - zz) (h1 : ¬(zx < 0)) : (0 : Int) ≤ zy - zz := lin [] [zx,zy,zz] [.ie (.v 0) (.s (.v 1) (.v 2)),.nt (.it (.v 0) (.k 0))] (.il (.k 0) (.s (.v 1) (.v 2))) [[1,1,0,1]] rfl h0 h1
theorem o166fe {a b c d : Nat} (h0 : a ≤ 1000) (h1 : b < a) (h2 : c + d ≤ b + 1) : c ≤ 1000 := lin [a,b,c,d] [] [.le (.v 0) (.k 1000),.lt (.v 1) (.v 0),.le (.a (.v 2) (.v 3)) (.a (.v 1) (.k 1))] (.le (.v 2) (.k 1000)) [[1,1,1,1]] rfl h0 h1 h2
theorem ob34f2 {zx zy : Int} (h0 : (0 : Int) ≤ zx - zy) (h1 : (0 : Int) < zy) : (Int.toNat (zx - zy)) < (Int.toNat zx) := have L := lin [(Int.toNat (zx - zy)),(Int.toNat zx)] [zx,zy]; L [.it (.k 0) (.v 1),.ie (.c (.v 1)) (.v 0),.ie (.c (.v 0)) (.s (.v 0) (.v 1))] (.lt (.v 0) (.v 1)) [[1,1,0,1,1]] rfl h1 (j14 (L [.il (.k 0) (.s (.v 0) (.v 1)),.it (.k 0) (.v 1)] (.il (.k 0) (.v 0)) [[1,1,1]] rfl h0 h1)) (j14 (L [.il (.k 0) (.s (.v 0) (.v 1))] (.il (.k 0) (.s (.v 0) (.v 1))) [[1,1]] rfl h0))
theorem o2a0a9 {zx : Int} (h0 : ¬((0 : Int) < zx)) (h1 : (0 : Int) ≤ zx) : zx = 0 := lin [] [zx] [.nt (.it (.k 0) (.v 0)),.il (.k 0) (.v 0)] (.ie (.v 0) (.k 0)) [[1,1],[1,0,1]] rfl h0 h1
theorem oc6922 {a : Nat} {zx : Int} (h0 : ((0 : Int) ≤ zx) ∧ (zx < (a : Int))) : zx = (((Int.toNat zx) : Nat) : Int) := have L := lin [a,(Int.toNat zx)] [zx]; L [.ie (.c (.v 1)) (.v 0)] (.ie (.v 0) (.c (.v 1))) [[1,0,1],[1,1]] rfl (j14 (L [.an (.il (.k 0) (.v 0)) (.it (.v 0) (.c (.v 0)))] (.il (.k 0) (.v 0)) [[1,1]] rfl h0))
theorem oab94c {a b : Nat} {zx : Int} (h0 : a = b) (h1 : ((0 : Int) ≤ zx) ∧ (zx < (b : Int))) : (Int.toNat zx) < a := have L := lin [a,b,(Int.toNat zx)] [zx]; L [.eq (.v 0) (.v 1),.an (.il (.k 0) (.v 0)) (.it (.v 0) (.c (.v 1))),.ie (.c (.v 2)) (.v 0)] (.lt (.v 2) (.v 0)) [[1,0,1,0,1,1]] rfl h0 h1 (j14 (L [.an (.il (.k 0) (.v 0)) (.it (.v 0) (.c (.v 1)))] (.il (.k 0) (.v 0)) [[1,1]] rfl h1))
theorem o3d733 {zx zy : Int} (h0 : (1 : Int) ≤ zx) (h1 : zx ≤ 9) (h2 : (-(900000 : Int)) < zy) (h3 : ((-(900010 : Int)) ≤ zy) ∧ (zy ≤ 900010)) : ((-(900010 : Int)) ≤ zy - zx) ∧ (zy - zx ≤ 900010) := lin [] [zx,zy] [.il (.k 1) (.v 0),.il (.v 0) (.k 9),.it (.o (.k 900000)) (.v 1),.an (.il (.o (.k 900010)) (.v 1)) (.il (.v 1) (.k 900010))] (.an (.il (.o (.k 900010)) (.s (.v 1) (.v 0))) (.il (.s (.v 1) (.v 0)) (.k 900010))) [[1,0,1,1],[1,1,0,0,0,1]] rfl h0 h1 h2 h3
theorem o50f42 {zx zy : Int} (h0 : (1 : Int) ≤ zx) (h1 : zx ≤ 9) (h2 : zy < 900000) (h3 : ((-(900010 : Int)) ≤ zy) ∧ (zy ≤ 900010)) : ((-(900010 : Int)) ≤ zy + zx) ∧ (zy + zx ≤ 900010) := lin [] [zx,zy] [.il (.k 1) (.v 0),.il (.v 0) (.k 9),.it (.v 1) (.k 900000),.an (.il (.o (.k 900010)) (.v 1)) (.il (.v 1) (.k 900010))] (.an (.il (.o (.k 900010)) (.a (.v 1) (.v 0))) (.il (.a (.v 1) (.v 0)) (.k 900010))) [[1,1,0,0,1],[1,0,1,1]] rfl h0 h1 h2 h3
theorem ofbaee {a b : Nat} (h0 : a = b + 1) : 1 ≤ a := lin [a,b] [] [.eq (.v 0) (.a (.v 1) (.k 1))] (.le (.k 1) (.v 0)) [[1,0,1]] rfl h0
theorem o4bdb4 {a b : Nat} (h0 : a ≤ 63) (h1 : b = a + 1) : b ≤ 64 := lin [a,b] [] [.le (.v 0) (.k 63),.eq (.v 1) (.a (.v 0) (.k 1))] (.le (.v 1) (.k 64)) [[1,1,1]] rfl h0 h1
theorem o15ead {a b c d : Nat} (h0 : a ≤ 63) (h1 : b = a + 1) (h2 : c = b) : (min d c) ≤ 1000 := lin [a,b,c,d,(min d c)] [] [.le (.v 0) (.k 63),.eq (.v 1) (.a (.v 0) (.k 1)),.eq (.v 2) (.v 1),.le (.v 4) (.v 2)] (.le (.v 4) (.k 1000)) [[1,1,1,0,1,0,1]] rfl h0 h1 h2 (Nat.min_le_right _ _)
theorem o1f4e7 {a b : Nat} (h0 : a ≤ 63) (h1 : b = a + 1) : b ≤ 1000 := lin [a,b] [] [.le (.v 0) (.k 63),.eq (.v 1) (.a (.v 0) (.k 1))] (.le (.v 1) (.k 1000)) [[1,1,1]] rfl h0 h1
theorem o49cb0 {a b c : Nat} (h0 : a ≤ 63) (h1 : b = a + 1) (h2 : c = b) : c ≤ 1000 := lin [a,b,c] [] [.le (.v 0) (.k 63),.eq (.v 1) (.a (.v 0) (.k 1)),.eq (.v 2) (.v 1)] (.le (.v 2) (.k 1000)) [[1,1,1,0,1]] rfl h0 h1 h2
theorem o08118 {a b c : Nat} (h0 : a ≤ 63) (h1 : b = a + 1) (h2 : c = b) : b + c ≤ 1000 := lin [a,b,c] [] [.le (.v 0) (.k 63),.eq (.v 1) (.a (.v 0) (.k 1)),.eq (.v 2) (.v 1)] (.le (.a (.v 1) (.v 2)) (.k 1000)) [[1,2,2,0,1]] rfl h0 h1 h2
theorem od667f {a b c : Nat} (h0 : a ≤ 63) (h1 : b = a + 1) (h2 : c = b) : b + c + (0 + 1) ≤ 1000 := lin [a,b,c] [] [.le (.v 0) (.k 63),.eq (.v 1) (.a (.v 0) (.k 1)),.eq (.v 2) (.v 1)] (.le (.a (.a (.v 1) (.v 2)) (.a (.k 0) (.k 1))) (.k 1000)) [[1,2,2,0,1]] rfl h0 h1 h2
theorem o35bae {a b c d : Nat} (h0 : a ≤ 63) (h1 : b = a + 1) (h2 : c = b) (h3 : d ≤ b + c + (0 + 1)) : d ≤ 129 := lin [a,b,c,d] [] [.le (.v 0) (.k 63),.eq (.v 1) (.a (.v 0) (.k 1)),.eq (.v 2) (.v 1),.le (.v 3) (.a (.a (.v 1) (.v 2)) (.a (.k 0) (.k 1)))] (.le (.v 3) (.k 129)) [[1,2,2,0,1,0,1]] rfl h0 h1 h2 h3
theorem oe7072 {a : Nat} (h0 : ¬((a : Int) < 50)) : (1 : Int) ≤ (a : Int) / 25 := lin [a] [((a : Int) / 25)] [.nt (.it (.c (.v 0)) (.k 50)),.it (.c (.v 0)) (.a (.m 25 (.v 0)) (.k 25))] (.il (.k 1) (.v 0)) [[25,1,1]] rfl h0 (j6l _ (by decide))
theorem o2e4c0 {a b : Nat} (h0 : a = b + 1) (h1 : 0 = a) : False := lin [a,b] [] [.eq (.v 0) (.a (.v 1) (.k 1)),.eq (.k 0) (.v 0)] .ff [[0,1,0,1]] rfl h0 h1
theorem o2ba4d {a b : Nat} (h0 : a ≤ 129) : (min b a) ≤ 1000 := lin [a,b,(min b a)] [] [.le (.v 0) (.k 129),.le (.v 2) (.v 0)] (.le (.v 2) (.k 1000)) [[1,1,1]] rfl h0 (Nat.min_le_right _ _)
theorem o8a963 {zx zy zz : Int} (h0 : zx < zy) (h1 : zz ≤ zx - zy) : ¬((0 : Int) ≤ zz) := lin [] [zx,zy,zz] [.it (.v 0) (.v 1),.il (.v 2) (.s (.v 0) (.v 1))] (.nt (.il (.k 0) (.v 2))) [[1,1,1]] rfl h0 h1
theorem oe3138 {zx : Int} (h0 : (0 : Int) ≤ zx) : ¬(zx < 0) := lin [] [zx] [.il (.k 0) (.v 0)] (.nt (.it (.v 0) (.k 0))) [[1,1]] rfl h0
theorem od94ce {a b : Nat} (h0 : a < (Int.toNat ((b : Int) - 1))) : (0 : Int) < (b : Int) := by omega
theorem ocabbb {a : Nat} {zx : Int} (h0 : (0 : Int) ≤ zx) (h1 : zx < (a : Int)) : (a : Int) ≠ 0 := lin [a] [zx] [.il (.k 0) (.v 0),.it (.v 0) (.c (.v 0))] (.nt (.ie (.c (.v 0)) (.k 0))) [[1,0,1,1]] rfl h0 h1
theorem o4e018 {a : Nat} {zx : Int} (h0 : (0 : Int) ≤ zx) (h1 : zx < (a : Int)) : (0 : Int) < (a : Int) := lin [a] [zx] [.il (.k 0) (.v 0),.it (.v 0) (.c (.v 0))] (.it (.k 0) (.c (.v 0))) [[1,1,1]] rfl h0 h1
theorem o41bf1 {a b c d : Nat} (h0 : a ≤ 63) (h1 : b = a + 1) (h2 : c < (Int.toNat ((b : Int) - 1))) (h3 : d ≤ c) : d ≤ 1000 := have L := lin [a,b,c,d,(Int.toNat ((b : Int) - 1))] []; L [.le (.v 0) (.k 63),.eq (.v 1) (.a (.v 0) (.k 1)),.lt (.v 2) (.v 4),.le (.v 3) (.v 2),.ie (.c (.v 4)) (.s (.c (.v 1)) (.k 1))] (.le (.v 3) (.k 1000)) [[1,1,1,0,1,1,1]] rfl h0 h1 h2 h3 (j14 (L [.eq (.v 1) (.a (.v 0) (.k 1))] (.il (.k 0) (.s (.c (.v 1)) (.k 1))) [[1,0,1]] rfl h1))
theorem o839bf {a b c : Nat} (h0 : (a : Int) < (b : Int)) (h1 : c = b) : a < c := lin [a,b,c] [] [.it (.c (.v 0)) (.c (.v 1)),.eq (.v 2) (.v 1)] (.lt (.v 0) (.v 2)) [[1,1,0,1]] rfl h0 h1
theorem o29ffd {zx : Int} (h0 : (0 : Int) ≤ zx) : (1 : Int) ≤ 1 + zx := lin [] [zx] [.il (.k 0) (.v 0)] (.il (.k 1) (.a (.k 1) (.v 0))) [[1,1]] rfl h0
theorem ob0094 {zx : Int} (h0 : zx < 9) : 1 + zx ≤ 9 := lin [] [zx] [.it (.v 0) (.k 9)] (.il (.a (.k 1) (.v 0)) (.k 9)) [[1,1]] rfl h0
theorem oc4216 {a b : Nat} (h0 : (a : Int) < (b : Int)) : (a : Int) < (b : Int) := lin [a,b] [] [.it (.c (.v 0)) (.c (.v 1))] (.it (.c (.v 0)) (.c (.v 1))) [[1,1]] rfl h0
theorem ob66f0 {a b : Nat} (h0 : (a : Int) = (b : Int)) : a = b := lin [a,b] [] [.ie (.c (.v 0)) (.c (.v 1))] (.eq (.v 0) (.v 1)) [[1,1],[1,0,1]] rfl h0
theorem oe5b2a {zx : Int} (h0 : (0 : Int) ≤ zx) : (0 : Int) < 1 + zx := lin [] [zx] [.il (.k 0) (.v 0)] (.it (.k 0) (.a (.k 1) (.v 0))) [[1,1]] rfl h0
theorem o09a59 {a b c : Nat} (h0 : a ≤ 63) (h1 : b = a + 1) (h2 : c ≤ (Int.toNat ((b : Int) - 1))) : c ≤ 64 := have L := lin [a,b,c,(Int.toNat ((b : Int) - 1))] []; L [.le (.v 0) (.k 63),.eq (.v 1) (.a (.v 0) (.k 1)),.le (.v 2) (.v 3),.ie (.c (.v 3)) (.s (.c (.v 1)) (.k 1))] (.le (.v 2) (.k 64)) [[1,1,1,0,1,1]] rfl h0 h1 h2 (j14 (L [.eq (.v 1) (.a (.v 0) (.k 1))] (.il (.k 0) (.s (.c (.v 1)) (.k 1))) [[1,0,1]] rfl h1))
end
noncomputable section
theorem x3b98 {p1 p2 p3 : Prop} (h1 : p1) (h2 : p2) (h3 : p3) : p1 ∧ p2 ∧ p3 := ⟨h1, h2, h3⟩
theorem xe1fa {p1 p2 p3 p4 : Prop} (h1 : p1) (h2 : p2) (h3 : p3) (h4 : p4) : p1 ∧ p2 ∧ p3 ∧ p4 := ⟨h1, h2, h3, h4⟩
theorem x0988 {p1 p2 p3 p4 p5 : Prop} (h1 : p1) (h2 : p2) (h3 : p3) (h4 : p4) (h5 : p5) : p1 ∧ p2 ∧ p3 ∧ p4 ∧ p5 := ⟨h1, h2, h3, h4, h5⟩
theorem xf6a6 {p1 p2 p3 p4 p5 p6 : Prop} (h1 : p1) (h2 : p2) (h3 : p3) (h4 : p4) (h5 : p5) (h6 : p6) : p1 ∧ p2 ∧ p3 ∧ p4 ∧ p5 ∧ p6 := ⟨h1, h2, h3, h4, h5, h6⟩
theorem xc15b {p1 p2 : Prop} {p3 p4 : A → B → Prop} (h1 : p1) (h2 : p2) (x : A) (y : B) (h3 : p3 x y) (h4 : p4 x y) : p1 ∧ p2 ∧ ∃ x, ∃ y, p3 x y ∧ p4 x y := ⟨h1, h2, x, y, h3, h4⟩
theorem xea8a {p1 : Prop} {p2 : A → Prop} (h1 : p1) (x : A) (h2 : p2 x) : p1 ∧ ∃ x, p2 x := ⟨h1, x, h2⟩
theorem x4c19 {p1 : Prop} {p2 p3 : A → Prop} (h1 : p1) (x : A) (h2 : p2 x) (h3 : p3 x) : p1 ∧ ∃ x, p2 x ∧ p3 x := ⟨h1, x, h2, h3⟩
theorem xeb03 {p1 : Prop} {p2 p3 p4 p5 : A → Prop} (h1 : p1) (x : A) (h2 : p2 x) (h3 : p3 x) (h4 : p4 x) (h5 : p5 x) : p1 ∧ ∃ x, p2 x ∧ p3 x ∧ p4 x ∧ p5 x := ⟨h1, x, h2, h3, h4, h5⟩
theorem x03a7 {p1 : Prop} {p2 p3 p4 p5 p6 : A → Prop} (h1 : p1) (x : A) (h2 : p2 x) (h3 : p3 x) (h4 : p4 x) (h5 : p5 x) (h6 : p6 x) : p1 ∧ ∃ x, p2 x ∧ p3 x ∧ p4 x ∧ p5 x ∧ p6 x := ⟨h1, x, h2, h3, h4, h5, h6⟩
theorem xbaae {p1 : Prop} {p2 p3 : A → B → Prop} (h1 : p1) (x : A) (y : B) (h2 : p2 x y) (h3 : p3 x y) : p1 ∧ ∃ x, ∃ y, p2 x y ∧ p3 x y := ⟨h1, x, y, h2, h3⟩
theorem x8511 {p1 : Prop} {p2 p3 p4 p5 : A → B → Prop} (h1 : p1) (x : A) (y : B) (h2 : p2 x y) (h3 : p3 x y) (h4 : p4 x y) (h5 : p5 x y) : p1 ∧ ∃ x, ∃ y, p2 x y ∧ p3 x y ∧ p4 x y ∧ p5 x y := ⟨h1, x, y, h2, h3, h4, h5⟩
theorem x0a76 {p1 : Prop} {p2 p3 p4 p5 p6 : A → B → Prop} (h1 : p1) (x : A) (y : B) (h2 : p2 x y) (h3 : p3 x y) (h4 : p4 x y) (h5 : p5 x y) (h6 : p6 x y) : p1 ∧ ∃ x, ∃ y, p2 x y ∧ p3 x y ∧ p4 x y ∧ p5 x y ∧ p6 x y := ⟨h1, x, y, h2, h3, h4, h5, h6⟩
theorem xd962 {p1 : Prop} {p2 p3 p4 p5 p6 p7 : A → B → Prop} (h1 : p1) (x : A) (y : B) (h2 : p2 x y) (h3 : p3 x y) (h4 : p4 x y) (h5 : p5 x y) (h6 : p6 x y) (h7 : p7 x y) : p1 ∧ ∃ x, ∃ y, p2 x y ∧ p3 x y ∧ p4 x y ∧ p5 x y ∧ p6 x y ∧ p7 x y := ⟨h1, x, y, h2, h3, h4, h5, h6, h7⟩
theorem x9614 {p1 p2 : A → Prop} (x : A) (h1 : p1 x) (h2 : p2 x) : ∃ x, p1 x ∧ p2 x := ⟨x, h1, h2⟩
theorem x0c0c {p1 p2 p3 : A → Prop} (x : A) (h1 : p1 x) (h2 : p2 x) (h3 : p3 x) : ∃ x, p1 x ∧ p2 x ∧ p3 x := ⟨x, h1, h2, h3⟩
theorem x5ff7 {p1 p2 p3 p4 : A → Prop} (x : A) (h1 : p1 x) (h2 : p2 x) (h3 : p3 x) (h4 : p4 x) : ∃ x, p1 x ∧ p2 x ∧ p3 x ∧ p4 x := ⟨x, h1, h2, h3, h4⟩
theorem x7ea0 {p1 p2 p3 p4 p5 : A → Prop} (x : A) (h1 : p1 x) (h2 : p2 x) (h3 : p3 x) (h4 : p4 x) (h5 : p5 x) : ∃ x, p1 x ∧ p2 x ∧ p3 x ∧ p4 x ∧ p5 x := ⟨x, h1, h2, h3, h4, h5⟩
theorem x6ef4 {p1 p2 : A → Prop} {p3 : A → B → Prop} (x : A) (h1 : p1 x) (h2 : p2 x) (y : B) (h3 : p3 x y) : ∃ x, p1 x ∧ p2 x ∧ ∃ y, p3 x y := ⟨x, h1, h2, y, h3⟩
theorem x27ab {p1 p2 : A → Prop} {p3 : A → B → Prop} {p4 p5 p6 p7 p8 : A → B → C → D → E → Prop} (x : A) (h1 : p1 x) (h2 : p2 x) (y : B) (h3 : p3 x y) (z : C) (u : D) (v : E) (h4 : p4 x y z u v) (h5 : p5 x y z u v) (h6 : p6 x y z u v) (h7 : p7 x y z u v) (h8 : p8 x y z u v) : ∃ x, p1 x ∧ p2 x ∧ ∃ y, p3 x y ∧ ∃ z, ∃ u, ∃ v, p4 x y z u v ∧ p5 x y z u v ∧ p6 x y z u v ∧ p7 x y z u v ∧ p8 x y z u v := ⟨x, h1, h2, y, h3, z, u, v, h4, h5, h6, h7, h8⟩
theorem x6f12 {p1 : A → Prop} {p2 p3 : A → B → Prop} (x : A) (h1 : p1 x) (y : B) (h2 : p2 x y) (h3 : p3 x y) : ∃ x, p1 x ∧ ∃ y, p2 x y ∧ p3 x y := ⟨x, h1, y, h2, h3⟩
theorem x9963 {p1 : A → Prop} {p2 p3 p4 : A → B → Prop} (x : A) (h1 : p1 x) (y : B) (h2 : p2 x y) (h3 : p3 x y) (h4 : p4 x y) : ∃ x, p1 x ∧ ∃ y, p2 x y ∧ p3 x y ∧ p4 x y := ⟨x, h1, y, h2, h3, h4⟩
theorem x7257 {p1 : A → Prop} {p2 p3 : A → B → Prop} {p4 p5 : A → B → C → Prop} (x : A) (h1 : p1 x) (y : B) (h2 : p2 x y) (h3 : p3 x y) (z : C) (h4 : p4 x y z) (h5 : p5 x y z) : ∃ x, p1 x ∧ ∃ y, p2 x y ∧ p3 x y ∧ ∃ z, p4 x y z ∧ p5 x y z := ⟨x, h1, y, h2, h3, z, h4, h5⟩
theorem x2e55 {p1 : A → Prop} {p2 : A → B → Prop} {p3 : A → B → C → Prop} {p4 p5 p6 p7 : A → B → C → D → E → G → Prop} (x : A) (h1 : p1 x) (y : B) (h2 : p2 x y) (z : C) (h3 : p3 x y z) (u : D) (v : E) (w : G) (h4 : p4 x y z u v w) (h5 : p5 x y z u v w) (h6 : p6 x y z u v w) (h7 : p7 x y z u v w) : ∃ x, p1 x ∧ ∃ y, p2 x y ∧ ∃ z, p3 x y z ∧ ∃ u, ∃ v, ∃ w, p4 x y z u v w ∧ p5 x y z u v w ∧ p6 x y z u v w ∧ p7 x y z u v w := ⟨x, h1, y, h2, z, h3, u, v, w, h4, h5, h6, h7⟩
theorem x5395 {p1 : A → Prop} {p2 : A → B → Prop} {p3 p4 p5 : A → B → C → D → Prop} (x : A) (h1 : p1 x) (y : B) (h2 : p2 x y) (z : C) (u : D) (h3 : p3 x y z u) (h4 : p4 x y z u) (h5 : p5 x y z u) : ∃ x, p1 x ∧ ∃ y, p2 x y ∧ ∃ z, ∃ u, p3 x y z u ∧ p4 x y z u ∧ p5 x y z u := ⟨x, h1, y, h2, z, u, h3, h4, h5⟩
theorem x2fac {p1 : A → Prop} {p2 : A → B → Prop} {p3 p4 p5 p6 : A → B → C → D → Prop} (x : A) (h1 : p1 x) (y : B) (h2 : p2 x y) (z : C) (u : D) (h3 : p3 x y z u) (h4 : p4 x y z u) (h5 : p5 x y z u) (h6 : p6 x y z u) : ∃ x, p1 x ∧ ∃ y, p2 x y ∧ ∃ z, ∃ u, p3 x y z u ∧ p4 x y z u ∧ p5 x y z u ∧ p6 x y z u := ⟨x, h1, y, h2, z, u, h3, h4, h5, h6⟩
theorem x92ad {p1 : A → Prop} {p2 : A → B → Prop} {p3 p4 : A → B → C → D → Prop} {p5 p6 : A → B → C → D → E → Prop} (x : A) (h1 : p1 x) (y : B) (h2 : p2 x y) (z : C) (u : D) (h3 : p3 x y z u) (h4 : p4 x y z u) (v : E) (h5 : p5 x y z u v) (h6 : p6 x y z u v) : ∃ x, p1 x ∧ ∃ y, p2 x y ∧ ∃ z, ∃ u, p3 x y z u ∧ p4 x y z u ∧ ∃ v, p5 x y z u v ∧ p6 x y z u v := ⟨x, h1, y, h2, z, u, h3, h4, v, h5, h6⟩
theorem xcabc {p1 : A → Prop} {p2 : A → B → Prop} {p3 p4 : A → B → C → D → Prop} {p5 p6 p7 : A → B → C → D → E → G → Prop} (x : A) (h1 : p1 x) (y : B) (h2 : p2 x y) (z : C) (u : D) (h3 : p3 x y z u) (h4 : p4 x y z u) (v : E) (w : G) (h5 : p5 x y z u v w) (h6 : p6 x y z u v w) (h7 : p7 x y z u v w) : ∃ x, p1 x ∧ ∃ y, p2 x y ∧ ∃ z, ∃ u, p3 x y z u ∧ p4 x y z u ∧ ∃ v, ∃ w, p5 x y z u v w ∧ p6 x y z u v w ∧ p7 x y z u v w := ⟨x, h1, y, h2, z, u, h3, h4, v, w, h5, h6, h7⟩
theorem xc932 {p1 : A → Prop} {p2 : A → B → Prop} {p3 p4 : A → B → C → D → Prop} {p5 p6 : A → B → C → D → E → G → H → Prop} (x : A) (h1 : p1 x) (y : B) (h2 : p2 x y) (z : C) (u : D) (h3 : p3 x y z u) (h4 : p4 x y z u) (v : E) (w : G) (a : H) (h5 : p5 x y z u v w a) (h6 : p6 x y z u v w a) : ∃ x, p1 x ∧ ∃ y, p2 x y ∧ ∃ z, ∃ u, p3 x y z u ∧ p4 x y z u ∧ ∃ v, ∃ w, ∃ a, p5 x y z u v w a ∧ p6 x y z u v w a := ⟨x, h1, y, h2, z, u, h3, h4, v, w, a, h5, h6⟩
theorem x12fa {p1 : A → Prop} {p2 : A → B → Prop} {p3 p4 p5 p6 p7 : A → B → C → D → E → G → Prop} (x : A) (h1 : p1 x) (y : B) (h2 : p2 x y) (z : C) (u : D) (v : E) (w : G) (h3 : p3 x y z u v w) (h4 : p4 x y z u v w) (h5 : p5 x y z u v w) (h6 : p6 x y z u v w) (h7 : p7 x y z u v w) : ∃ x, p1 x ∧ ∃ y, p2 x y ∧ ∃ z, ∃ u, ∃ v, ∃ w, p3 x y z u v w ∧ p4 x y z u v w ∧ p5 x y z u v w ∧ p6 x y z u v w ∧ p7 x y z u v w := ⟨x, h1, y, h2, z, u, v, w, h3, h4, h5, h6, h7⟩
theorem x2128 {p1 : A → Prop} {p2 p3 : A → B → C → Prop} (x : A) (h1 : p1 x) (y : B) (z : C) (h2 : p2 x y z) (h3 : p3 x y z) : ∃ x, p1 x ∧ ∃ y, ∃ z, p2 x y z ∧ p3 x y z := ⟨x, h1, y, z, h2, h3⟩
theorem x7584 {p1 : A → Prop} {p2 p3 p4 : A → B → C → Prop} (x : A) (h1 : p1 x) (y : B) (z : C) (h2 : p2 x y z) (h3 : p3 x y z) (h4 : p4 x y z) : ∃ x, p1 x ∧ ∃ y, ∃ z, p2 x y z ∧ p3 x y z ∧ p4 x y z := ⟨x, h1, y, z, h2, h3, h4⟩
theorem x34fc {p1 : A → Prop} {p2 p3 p4 p5 : A → B → C → Prop} (x : A) (h1 : p1 x) (y : B) (z : C) (h2 : p2 x y z) (h3 : p3 x y z) (h4 : p4 x y z) (h5 : p5 x y z) : ∃ x, p1 x ∧ ∃ y, ∃ z, p2 x y z ∧ p3 x y z ∧ p4 x y z ∧ p5 x y z := ⟨x, h1, y, z, h2, h3, h4, h5⟩
theorem x0494 {p1 : A → Prop} {p2 p3 p4 p5 p6 : A → B → C → Prop} (x : A) (h1 : p1 x) (y : B) (z : C) (h2 : p2 x y z) (h3 : p3 x y z) (h4 : p4 x y z) (h5 : p5 x y z) (h6 : p6 x y z) : ∃ x, p1 x ∧ ∃ y, ∃ z, p2 x y z ∧ p3 x y z ∧ p4 x y z ∧ p5 x y z ∧ p6 x y z := ⟨x, h1, y, z, h2, h3, h4, h5, h6⟩
theorem xf719 {p1 : A → Prop} {p2 p3 p4 : A → B → C → Prop} {p5 p6 : A → B → C → D → Prop} (x : A) (h1 : p1 x) (y : B) (z : C) (h2 : p2 x y z) (h3 : p3 x y z) (h4 : p4 x y z) (u : D) (h5 : p5 x y z u) (h6 : p6 x y z u) : ∃ x, p1 x ∧ ∃ y, ∃ z, p2 x y z ∧ p3 x y z ∧ p4 x y z ∧ ∃ u, p5 x y z u ∧ p6 x y z u := ⟨x, h1, y, z, h2, h3, h4, u, h5, h6⟩
theorem x04df {p1 : A → Prop} {p2 p3 p4 : A → B → C → Prop} {p5 p6 p7 : A → B → C → D → E → Prop} (x : A) (h1 : p1 x) (y : B) (z : C) (h2 : p2 x y z) (h3 : p3 x y z) (h4 : p4 x y z) (u : D) (v : E) (h5 : p5 x y z u v) (h6 : p6 x y z u v) (h7 : p7 x y z u v) : ∃ x, p1 x ∧ ∃ y, ∃ z, p2 x y z ∧ p3 x y z ∧ p4 x y z ∧ ∃ u, ∃ v, p5 x y z u v ∧ p6 x y z u v ∧ p7 x y z u v := ⟨x, h1, y, z, h2, h3, h4, u, v, h5, h6, h7⟩
theorem x5bbc {p1 : A → Prop} {p2 p3 : A → B → C → Prop} {p4 p5 : A → B → C → D → Prop} (x : A) (h1 : p1 x) (y : B) (z : C) (h2 : p2 x y z) (h3 : p3 x y z) (u : D) (h4 : p4 x y z u) (h5 : p5 x y z u) : ∃ x, p1 x ∧ ∃ y, ∃ z, p2 x y z ∧ p3 x y z ∧ ∃ u, p4 x y z u ∧ p5 x y z u := ⟨x, h1, y, z, h2, h3, u, h4, h5⟩
theorem xb699 {p1 : A → Prop} {p2 p3 : A → B → C → Prop} {p4 p5 p6 p7 : A → B → C → D → Prop} (x : A) (h1 : p1 x) (y : B) (z : C) (h2 : p2 x y z) (h3 : p3 x y z) (u : D) (h4 : p4 x y z u) (h5 : p5 x y z u) (h6 : p6 x y z u) (h7 : p7 x y z u) : ∃ x, p1 x ∧ ∃ y, ∃ z, p2 x y z ∧ p3 x y z ∧ ∃ u, p4 x y z u ∧ p5 x y z u ∧ p6 x y z u ∧ p7 x y z u := ⟨x, h1, y, z, h2, h3, u, h4, h5, h6, h7⟩
theorem xb90b {p1 : A → Prop} {p2 p3 : A → B → C → Prop} {p4 : A → B → C → D → Prop} {p5 p6 p7 : A → B → C → D → E → G → Prop} (x : A) (h1 : p1 x) (y : B) (z : C) (h2 : p2 x y z) (h3 : p3 x y z) (u : D) (h4 : p4 x y z u) (v : E) (w : G) (h5 : p5 x y z u v w) (h6 : p6 x y z u v w) (h7 : p7 x y z u v w) : ∃ x, p1 x ∧ ∃ y, ∃ z, p2 x y z ∧ p3 x y z ∧ ∃ u, p4 x y z u ∧ ∃ v, ∃ w, p5 x y z u v w ∧ p6 x y z u v w ∧ p7 x y z u v w := ⟨x, h1, y, z, h2, h3, u, h4, v, w, h5, h6, h7⟩
theorem xf1da {p1 : A → Prop} {p2 p3 p4 p5 : A → B → C → D → Prop} (x : A) (h1 : p1 x) (y : B) (z : C) (u : D) (h2 : p2 x y z u) (h3 : p3 x y z u) (h4 : p4 x y z u) (h5 : p5 x y z u) : ∃ x, p1 x ∧ ∃ y, ∃ z, ∃ u, p2 x y z u ∧ p3 x y z u ∧ p4 x y z u ∧ p5 x y z u := ⟨x, h1, y, z, u, h2, h3, h4, h5⟩
theorem x4d9d {p1 : A → Prop} {p2 p3 p4 p5 : A → B → C → D → E → Prop} {p6 p7 : A → B → C → D → E → G → Prop} (x : A) (h1 : p1 x) (y : B) (z : C) (u : D) (v : E) (h2 : p2 x y z u v) (h3 : p3 x y z u v) (h4 : p4 x y z u v) (h5 : p5 x y z u v) (w : G) (h6 : p6 x y z u v w) (h7 : p7 x y z u v w) : ∃ x, p1 x ∧ ∃ y, ∃ z, ∃ u, ∃ v, p2 x y z u v ∧ p3 x y z u v ∧ p4 x y z u v ∧ p5 x y z u v ∧ ∃ w, p6 x y z u v w ∧ p7 x y z u v w := ⟨x, h1, y, z, u, v, h2, h3, h4, h5, w, h6, h7⟩
theorem xa386 {p1 : A → Prop} {p2 p3 p4 p5 : A → B → C → D → E → G → Prop} {p6 : A → B → C → D → E → G → H → Prop} (x : A) (h1 : p1 x) (y : B) (z : C) (u : D) (v : E) (w : G) (h2 : p2 x y z u v w) (h3 : p3 x y z u v w) (h4 : p4 x y z u v w) (h5 : p5 x y z u v w) (a : H) (h6 : p6 x y z u v w a) : ∃ x, p1 x ∧ ∃ y, ∃ z, ∃ u, ∃ v, ∃ w, p2 x y z u v w ∧ p3 x y z u v w ∧ p4 x y z u v w ∧ p5 x y z u v w ∧ ∃ a, p6 x y z u v w a := ⟨x, h1, y, z, u, v, w, h2, h3, h4, h5, a, h6⟩
theorem xa57b {p1 : A → B → Prop} (x : A) (y : B) (h1 : p1 x y) : ∃ x, ∃ y, p1 x y := ⟨x, y, h1⟩
theorem x90aa {p1 p2 : A → B → Prop} (x : A) (y : B) (h1 : p1 x y) (h2 : p2 x y) : ∃ x, ∃ y, p1 x y ∧ p2 x y := ⟨x, y, h1, h2⟩
theorem xeb27 {p1 p2 p3 : A → B → Prop} (x : A) (y : B) (h1 : p1 x y) (h2 : p2 x y) (h3 : p3 x y) : ∃ x, ∃ y, p1 x y ∧ p2 x y ∧ p3 x y := ⟨x, y, h1, h2, h3⟩
theorem x5fde {p1 p2 p3 p4 : A → B → Prop} (x : A) (y : B) (h1 : p1 x y) (h2 : p2 x y) (h3 : p3 x y) (h4 : p4 x y) : ∃ x, ∃ y, p1 x y ∧ p2 x y ∧ p3 x y ∧ p4 x y := ⟨x, y, h1, h2, h3, h4⟩
theorem x6c4f {p1 p2 p3 p4 p5 : A → B → Prop} (x : A) (y : B) (h1 : p1 x y) (h2 : p2 x y) (h3 : p3 x y) (h4 : p4 x y) (h5 : p5 x y) : ∃ x, ∃ y, p1 x y ∧ p2 x y ∧ p3 x y ∧ p4 x y ∧ p5 x y := ⟨x, y, h1, h2, h3, h4, h5⟩
theorem x59b6 {p1 p2 p3 p4 p5 p6 : A → B → Prop} (x : A) (y : B) (h1 : p1 x y) (h2 : p2 x y) (h3 : p3 x y) (h4 : p4 x y) (h5 : p5 x y) (h6 : p6 x y) : ∃ x, ∃ y, p1 x y ∧ p2 x y ∧ p3 x y ∧ p4 x y ∧ p5 x y ∧ p6 x y := ⟨x, y, h1, h2, h3, h4, h5, h6⟩
theorem xc87d {p1 p2 p3 p4 p5 p6 p7 : A → B → Prop} (x : A) (y : B) (h1 : p1 x y) (h2 : p2 x y) (h3 : p3 x y) (h4 : p4 x y) (h5 : p5 x y) (h6 : p6 x y) (h7 : p7 x y) : ∃ x, ∃ y, p1 x y ∧ p2 x y ∧ p3 x y ∧ p4 x y ∧ p5 x y ∧ p6 x y ∧ p7 x y := ⟨x, y, h1, h2, h3, h4, h5, h6, h7⟩
theorem x4eaa {p1 p2 p3 p4 p5 p6 p7 p8 : A → B → Prop} (x : A) (y : B) (h1 : p1 x y) (h2 : p2 x y) (h3 : p3 x y) (h4 : p4 x y) (h5 : p5 x y) (h6 : p6 x y) (h7 : p7 x y) (h8 : p8 x y) : ∃ x, ∃ y, p1 x y ∧ p2 x y ∧ p3 x y ∧ p4 x y ∧ p5 x y ∧ p6 x y ∧ p7 x y ∧ p8 x y := ⟨x, y, h1, h2, h3, h4, h5, h6, h7, h8⟩
theorem x0d4a {p1 p2 : A → B → Prop} {p3 p4 : A → B → C → Prop} (x : A) (y : B) (h1 : p1 x y) (h2 : p2 x y) (z : C) (h3 : p3 x y z) (h4 : p4 x y z) : ∃ x, ∃ y, p1 x y ∧ p2 x y ∧ ∃ z, p3 x y z ∧ p4 x y z := ⟨x, y, h1, h2, z, h3, h4⟩
theorem xe8d9 {p1 : A → B → C → Prop} (x : A) (y : B) (z : C) (h1 : p1 x y z) : ∃ x, ∃ y, ∃ z, p1 x y z := ⟨x, y, z, h1⟩
theorem x8f53 {p1 p2 : A → B → C → Prop} (x : A) (y : B) (z : C) (h1 : p1 x y z) (h2 : p2 x y z) : ∃ x, ∃ y, ∃ z, p1 x y z ∧ p2 x y z := ⟨x, y, z, h1, h2⟩
theorem x0c51 {p1 p2 p3 : A → B → C → Prop} (x : A) (y : B) (z : C) (h1 : p1 x y z) (h2 : p2 x y z) (h3 : p3 x y z) : ∃ x, ∃ y, ∃ z, p1 x y z ∧ p2 x y z ∧ p3 x y z := ⟨x, y, z, h1, h2, h3⟩
theorem x18c7 {p1 p2 p3 p4 : A → B → C → Prop} (x : A) (y : B) (z : C) (h1 : p1 x y z) (h2 : p2 x y z) (h3 : p3 x y z) (h4 : p4 x y z) : ∃ x, ∃ y, ∃ z, p1 x y z ∧ p2 x y z ∧ p3 x y z ∧ p4 x y z := ⟨x, y, z, h1, h2, h3, h4⟩
theorem xac60 {p1 p2 p3 p4 p5 : A → B → C → Prop} (x : A) (y : B) (z : C) (h1 : p1 x y z) (h2 : p2 x y z) (h3 : p3 x y z) (h4 : p4 x y z) (h5 : p5 x y z) : ∃ x, ∃ y, ∃ z, p1 x y z ∧ p2 x y z ∧ p3 x y z ∧ p4 x y z ∧ p5 x y z := ⟨x, y, z, h1, h2, h3, h4, h5⟩
theorem xef7a {p1 p2 p3 p4 p5 p6 : A → B → C → Prop} (x : A) (y : B) (z : C) (h1 : p1 x y z) (h2 : p2 x y z) (h3 : p3 x y z) (h4 : p4 x y z) (h5 : p5 x y z) (h6 : p6 x y z) : ∃ x, ∃ y, ∃ z, p1 x y z ∧ p2 x y z ∧ p3 x y z ∧ p4 x y z ∧ p5 x y z ∧ p6 x y z := ⟨x, y, z, h1, h2, h3, h4, h5, h6⟩
theorem x0bf7 {p1 p2 : A → B → C → D → Prop} (x : A) (y : B) (z : C) (u : D) (h1 : p1 x y z u) (h2 : p2 x y z u) : ∃ x, ∃ y, ∃ z, ∃ u, p1 x y z u ∧ p2 x y z u := ⟨x, y, z, u, h1, h2⟩
theorem x5750 {p1 p2 p3 : A → B → C → D → Prop} (x : A) (y : B) (z : C) (u : D) (h1 : p1 x y z u) (h2 : p2 x y z u) (h3 : p3 x y z u) : ∃ x, ∃ y, ∃ z, ∃ u, p1 x y z u ∧ p2 x y z u ∧ p3 x y z u := ⟨x, y, z, u, h1, h2, h3⟩
theorem x6f71 {p1 p2 p3 p4 : A → B → C → D → Prop} (x : A) (y : B) (z : C) (u : D) (h1 : p1 x y z u) (h2 : p2 x y z u) (h3 : p3 x y z u) (h4 : p4 x y z u) : ∃ x, ∃ y, ∃ z, ∃ u, p1 x y z u ∧ p2 x y z u ∧ p3 x y z u ∧ p4 x y z u := ⟨x, y, z, u, h1, h2, h3, h4⟩
theorem x59b7 {p1 p2 p3 p4 p5 : A → B → C → D → Prop} (x : A) (y : B) (z : C) (u : D) (h1 : p1 x y z u) (h2 : p2 x y z u) (h3 : p3 x y z u) (h4 : p4 x y z u) (h5 : p5 x y z u) : ∃ x, ∃ y, ∃ z, ∃ u, p1 x y z u ∧ p2 x y z u ∧ p3 x y z u ∧ p4 x y z u ∧ p5 x y z u := ⟨x, y, z, u, h1, h2, h3, h4, h5⟩
theorem x3cc4 {p1 p2 p3 p4 p5 p6 : A → B → C → D → Prop} (x : A) (y : B) (z : C) (u : D) (h1 : p1 x y z u) (h2 : p2 x y z u) (h3 : p3 x y z u) (h4 : p4 x y z u) (h5 : p5 x y z u) (h6 : p6 x y z u) : ∃ x, ∃ y, ∃ z, ∃ u, p1 x y z u ∧ p2 x y z u ∧ p3 x y z u ∧ p4 x y z u ∧ p5 x y z u ∧ p6 x y z u := ⟨x, y, z, u, h1, h2, h3, h4, h5, h6⟩
theorem x1376 {p1 p2 p3 p4 p5 p6 p7 : A → B → C → D → Prop} (x : A) (y : B) (z : C) (u : D) (h1 : p1 x y z u) (h2 : p2 x y z u) (h3 : p3 x y z u) (h4 : p4 x y z u) (h5 : p5 x y z u) (h6 : p6 x y z u) (h7 : p7 x y z u) : ∃ x, ∃ y, ∃ z, ∃ u, p1 x y z u ∧ p2 x y z u ∧ p3 x y z u ∧ p4 x y z u ∧ p5 x y z u ∧ p6 x y z u ∧ p7 x y z u := ⟨x, y, z, u, h1, h2, h3, h4, h5, h6, h7⟩
theorem xe085 {p1 : A → B → C → D → E → Prop} (x : A) (y : B) (z : C) (u : D) (v : E) (h1 : p1 x y z u v) : ∃ x, ∃ y, ∃ z, ∃ u, ∃ v, p1 x y z u v := ⟨x, y, z, u, v, h1⟩
theorem x2633 {p1 p2 p3 p4 p5 : A → B → C → D → E → Prop} (x : A) (y : B) (z : C) (u : D) (v : E) (h1 : p1 x y z u v) (h2 : p2 x y z u v) (h3 : p3 x y z u v) (h4 : p4 x y z u v) (h5 : p5 x y z u v) : ∃ x, ∃ y, ∃ z, ∃ u, ∃ v, p1 x y z u v ∧ p2 x y z u v ∧ p3 x y z u v ∧ p4 x y z u v ∧ p5 x y z u v := ⟨x, y, z, u, v, h1, h2, h3, h4, h5⟩
theorem x5a1f {p1 p2 p3 p4 p5 p6 : A → B → C → D → E → Prop} (x : A) (y : B) (z : C) (u : D) (v : E) (h1 : p1 x y z u v) (h2 : p2 x y z u v) (h3 : p3 x y z u v) (h4 : p4 x y z u v) (h5 : p5 x y z u v) (h6 : p6 x y z u v) : ∃ x, ∃ y, ∃ z, ∃ u, ∃ v, p1 x y z u v ∧ p2 x y z u v ∧ p3 x y z u v ∧ p4 x y z u v ∧ p5 x y z u v ∧ p6 x y z u v := ⟨x, y, z, u, v, h1, h2, h3, h4, h5, h6⟩
theorem xf3da {p1 p2 p3 p4 p5 p6 p7 : A → B → C → D → E → Prop} (x : A) (y : B) (z : C) (u : D) (v : E) (h1 : p1 x y z u v) (h2 : p2 x y z u v) (h3 : p3 x y z u v) (h4 : p4 x y z u v) (h5 : p5 x y z u v) (h6 : p6 x y z u v) (h7 : p7 x y z u v) : ∃ x, ∃ y, ∃ z, ∃ u, ∃ v, p1 x y z u v ∧ p2 x y z u v ∧ p3 x y z u v ∧ p4 x y z u v ∧ p5 x y z u v ∧ p6 x y z u v ∧ p7 x y z u v := ⟨x, y, z, u, v, h1, h2, h3, h4, h5, h6, h7⟩
theorem x4299 {p1 p2 p3 p4 p5 : A → B → C → D → E → G → Prop} (x : A) (y : B) (z : C) (u : D) (v : E) (w : G) (h1 : p1 x y z u v w) (h2 : p2 x y z u v w) (h3 : p3 x y z u v w) (h4 : p4 x y z u v w) (h5 : p5 x y z u v w) : ∃ x, ∃ y, ∃ z, ∃ u, ∃ v, ∃ w, p1 x y z u v w ∧ p2 x y z u v w ∧ p3 x y z u v w ∧ p4 x y z u v w ∧ p5 x y z u v w := ⟨x, y, z, u, v, w, h1, h2, h3, h4, h5⟩
theorem x5b0f {p1 p2 p3 p4 p5 p6 : A → B → C → D → E → G → Prop} (x : A) (y : B) (z : C) (u : D) (v : E) (w : G) (h1 : p1 x y z u v w) (h2 : p2 x y z u v w) (h3 : p3 x y z u v w) (h4 : p4 x y z u v w) (h5 : p5 x y z u v w) (h6 : p6 x y z u v w) : ∃ x, ∃ y, ∃ z, ∃ u, ∃ v, ∃ w, p1 x y z u v w ∧ p2 x y z u v w ∧ p3 x y z u v w ∧ p4 x y z u v w ∧ p5 x y z u v w ∧ p6 x y z u v w := ⟨x, y, z, u, v, w, h1, h2, h3, h4, h5, h6⟩
theorem xb3a1 {p1 p2 p3 p4 p5 p6 p7 : A → B → C → D → E → G → Prop} (x : A) (y : B) (z : C) (u : D) (v : E) (w : G) (h1 : p1 x y z u v w) (h2 : p2 x y z u v w) (h3 : p3 x y z u v w) (h4 : p4 x y z u v w) (h5 : p5 x y z u v w) (h6 : p6 x y z u v w) (h7 : p7 x y z u v w) : ∃ x, ∃ y, ∃ z, ∃ u, ∃ v, ∃ w, p1 x y z u v w ∧ p2 x y z u v w ∧ p3 x y z u v w ∧ p4 x y z u v w ∧ p5 x y z u v w ∧ p6 x y z u v w ∧ p7 x y z u v w := ⟨x, y, z, u, v, w, h1, h2, h3, h4, h5, h6, h7⟩
theorem x4b75 {p1 p2 p3 : A → B → C → D → E → G → H → Prop} (x : A) (y : B) (z : C) (u : D) (v : E) (w : G) (a : H) (h1 : p1 x y z u v w a) (h2 : p2 x y z u v w a) (h3 : p3 x y z u v w a) : ∃ x, ∃ y, ∃ z, ∃ u, ∃ v, ∃ w, ∃ a, p1 x y z u v w a ∧ p2 x y z u v w a ∧ p3 x y z u v w a := ⟨x, y, z, u, v, w, a, h1, h2, h3⟩
theorem xbc42 {p1 p2 p3 : A → B → C → D → E → G → H → I → J → Prop} (x : A) (y : B) (z : C) (u : D) (v : E) (w : G) (a : H) (b : I) (c : J) (h1 : p1 x y z u v w a b c) (h2 : p2 x y z u v w a b c) (h3 : p3 x y z u v w a b c) : ∃ x, ∃ y, ∃ z, ∃ u, ∃ v, ∃ w, ∃ a, ∃ b, ∃ c, p1 x y z u v w a b c ∧ p2 x y z u v w a b c ∧ p3 x y z u v w a b c := ⟨x, y, z, u, v, w, a, b, c, h1, h2, h3⟩
theorem x45d0 {p1 p2 p3 p4 : A → B → C → D → E → G → H → I → J → Prop} (x : A) (y : B) (z : C) (u : D) (v : E) (w : G) (a : H) (b : I) (c : J) (h1 : p1 x y z u v w a b c) (h2 : p2 x y z u v w a b c) (h3 : p3 x y z u v w a b c) (h4 : p4 x y z u v w a b c) : ∃ x, ∃ y, ∃ z, ∃ u, ∃ v, ∃ w, ∃ a, ∃ b, ∃ c, p1 x y z u v w a b c ∧ p2 x y z u v w a b c ∧ p3 x y z u v w a b c ∧ p4 x y z u v w a b c := ⟨x, y, z, u, v, w, a, b, c, h1, h2, h3, h4⟩
end
noncomputable section
namespace L2
open PySem PySem.Spec PyProof.Rows
abbrev Key := Sum Int Str
noncomputable def keyIs : Key → Value → Bool
  | .inl k, v => Value.isInt k v
  | .inr x, v => Value.isStrOf x v
noncomputable def keyH (w : World) : Key → Int
  | .inl k => hashInt k
  | .inr x => hashStr w x
theorem j0w : ∀ {k : Key} {v : Value}, keyIs k v = true → (∃ i t, k = Sum.inl i ∧ v = Value.int i t) ∨ (∃ x t, k = Sum.inr x ∧ v = Value.str x t)
  | .inl i, v, h => by
    obtain ⟨t, e⟩ := Value.isInt_shape (k := i) (v := v) h
    exact .inl (x90aa i t rfl e)
  | .inr x, v, h => by
    obtain ⟨t, e⟩ := Value.isStrOf_shape (x := x) (v := v) h
    exact .inr (x90aa x t rfl e)
theorem key_ll (a b : Int) : decide ((Sum.inl a : Key) = Sum.inl b) = (a == b) := by
  by_cases e : a = b
  · subst e; simp
  have h : ¬ (Sum.inl a : Key) = Sum.inl b := fun q => e (Sum.inl.inj q)
  rw [decide_eq_false h]
  exact (beq_eq_false_iff_ne.mpr e).symm
theorem key_rr (a b : Str) : decide ((Sum.inr a : Key) = Sum.inr b) = decide (a = b) := by
  by_cases e : a = b
  · subst e; simp
  have h : ¬ (Sum.inr a : Key) = Sum.inr b := fun q => e (Sum.inr.inj q)
  rw [decide_eq_false h, decide_eq_false e]
theorem key_lr (a : Int) (b : Str) : decide ((Sum.inl a : Key) = Sum.inr b) = false := decide_eq_false (fun q => nomatch q)
theorem key_rl (a : Str) (b : Int) : decide ((Sum.inr a : Key) = Sum.inl b) = false := decide_eq_false (fun q => nomatch q)
noncomputable def j6m (prog : Program) (w : World) : PySem.KeyKind prog w Key where
  is := keyIs
  hash := keyH w
  inj := fun v a b ha hb => by
    rcases j0w ha with ⟨i, t, rfl, rfl⟩ | ⟨x, t, rfl, rfl⟩
    · rcases j0w hb with ⟨j, u, rfl, e⟩ | ⟨y, u, rfl, e⟩
      · injection e with e1 _; rw [e1]
      exact nomatch e
    rcases j0w hb with ⟨j, u, rfl, e⟩ | ⟨y, u, rfl, e⟩
    · exact nomatch e
    injection e with e1 _; rw [e1]
  byValue := fun k v h => by
    rcases j0w h with ⟨i, t, rfl, rfl⟩ | ⟨x, t, rfl, rfl⟩ <;> rfl
  pyHash := fun hv h => by
    rcases j0w hv with ⟨i, t, rfl, rfl⟩ | ⟨x, t, rfl, rfl⟩
    · exact wpAny_pyHash_int h
    exact wpAny_pyHash_str h
  eqBool := fun hu hv h => by
    rcases j0w hu with ⟨i, t, rfl, rfl⟩ | ⟨x, t, rfl, rfl⟩
    · rcases j0w hv with ⟨j, u, rfl, rfl⟩ | ⟨y, u, rfl, rfl⟩
      · rw [key_ll] at h; exact wpAny_eqBool_int h
      rw [key_lr] at h; exact SeqAt.EqAt.int_str i t y u _ _ _ _ h
    rcases j0w hv with ⟨j, u, rfl, rfl⟩ | ⟨y, u, rfl, rfl⟩
    · rw [key_rl] at h; exact SeqAt.EqAt.str_int x t j u _ _ _ _ h
    rw [key_rr] at h; exact wpAny_eqBool_str h
  «strs» := fun k x t v h => by
    rcases j0w h with ⟨i, u, rfl, e⟩ | ⟨y, u, rfl, e⟩
    · exact nomatch e
    injection e with e1 _
    subst e1
    cases v <;> rfl
end L2
namespace L2
open PySem PySem.Spec PyProof.Rows
inductive V where
  | non | bl (b : Bool) | int (i : Int) | str (x : Str) | byt (b : Array UInt8) | flt (b : UInt64) | ref (a : Addr) | ty (n : String)
  deriving DecidableEq
noncomputable def RelV : V → Value → Prop
  | .non, u => u = Value.none
  | .bl b, u => u = Value.bool b
  | .int i, u => ∃ t, u = Value.int i t
  | .str x, u => ∃ t, u = Value.str x t
  | .byt b, u => ∃ t, u = Value.bytes b t
  | .flt b, u => ∃ t, u = Value.float b t
  | .ref a, u => u = Value.ref a
  | .ty n, u => u = Value.type n
abbrev Vals : List V → List Value → Prop := Paired RelV
theorem Vals.length {xs : List V} {us : List Value} (r : Vals xs us) : xs.length = us.length := Paired.length r
theorem Vals.get : ∀ {xs : List V} {us : List Value} {i : Nat} {x : V}, Vals xs us → xs[i]? = some x → ∃ u, us[i]? = some u ∧ RelV x u
  | _, _, _, _, .nil, e => by simp at e
  | _, _, 0, _, .cons r _, e => by simp at e; subst e; exact (x9614 _ rfl r)
  | _, _, i + 1, x, .cons _ t, e => by
    obtain ⟨u, h1, h2⟩ := Vals.get (i := i) (x := x) t (by simpa using e)
    exact (x9614 u (by simpa using h1) h2)
theorem Vals.set {x : V} {u : Value} (r : RelV x u) : ∀ {xs : List V} {us : List Value} (i : Nat), Vals xs us → Vals (xs.set i x) (us.set i u)
  | _, _, _, .nil => .nil
  | _, _, 0, .cons _ t => .cons r t
  | _, _, i + 1, .cons q t => .cons q (Vals.set r i t)
theorem Vals.append : ∀ {xs ys : List V} {us ws : List Value}, Vals xs us → Vals ys ws → Vals (xs ++ ys) (us ++ ws)
  | _, _, _, _, .nil, s => s
  | _, _, _, _, .cons r t, s => .cons r (Vals.append t s)
noncomputable def RelO : Option V → Option Value → Prop
  | some v, some u => RelV v u
  | none, none => True
  | _, _ => False
noncomputable def KV {κ : Type} : List (κ × V) → List (κ × Value) → Prop := Paired fun (p : κ × V) (q : κ × Value) => p.1 = q.1 ∧ RelV p.2 q.2
noncomputable def kV : Key → V
  | .inl i => .int i
  | .inr x => .str x
inductive HO where
  | lst (xs : List V)
  | tup (xs : List V)
  | dK (kvs : List (Key × V)) | dT (kvs : List (List Key × V))
  | set (S : Int → Bool) (n : Nat)
  | ins (C dx : Addr) (fs : List (Str × V))
  | own (x : Addr)
  | xd (fs : List (Str × V))
  | met (f x : Addr)
  | rng (lo hi : Int)
  | frz (o : Obj) (u : HO)
  | tbl (ps : Array Value)
  | ext (φ : Heap → Prop)
abbrev Hp := Addr → Option HO
noncomputable def upd (H : Hp) (a : Addr) (o : HO) : Hp := fun b => if b = a then some o else H b
theorem j04 {H : Hp} {a : Addr} {o : HO} : upd H a o a = some o := by unfold upd; rw [if_pos rfl]
theorem j0a {H : Hp} {a b : Addr} {o : HO} (h : b ≠ a) : upd H a o b = H b := by unfold upd; rw [if_neg h]
theorem j2u {H : Hp} {a : Addr} {o u : HO} : upd (upd H a o) a u = upd H a u := by
  funext b; unfold upd; split <;> rfl
theorem ne_of {H : Hp} {a b : Addr} {o u : HO} (h : H a = some o) (h' : H b = some u) (d : o ≠ u) : a ≠ b := by
  intro e; subst e; rw [h] at h'; exact d (Option.some.inj h')
theorem j0d {H : Hp} {a b : Addr} {o : HO} (h : H a = some o) (h' : H b = none) : a ≠ b := by
  intro e; subst e; rw [h] at h'; cases h'
section
variable (P : Program) (w : World)
noncomputable def j1z (H : Hp) (h : Heap) (a : Addr) : HO → Prop
  | .lst xs => xs.length ≤ sizeLine ∧ ∃ (its : List Value) (n : Nat), Vals xs its ∧ h.get? a = some { cls := .type "list", data := .seq its.toArray n }
  | .tup xs => xs.length ≤ sizeLine ∧ ∃ its : List Value, Vals xs its ∧ IsTup h a its.toArray
  | .dK kvs => kvs.length ≤ sizeLine ∧ (a == sysModules) = false ∧ ∃ vs, KV kvs vs ∧ h.DictOf (j6m P w) a vs
  | .dT kvs => kvs.length ≤ sizeLine ∧ (a == sysModules) = false ∧ ∃ xs : List (List Key × Addr × Value),
      Paired (fun (p : List Key × V) (q : List Key × Addr × Value) => p.1 = q.1 ∧ H q.2.1 = some (.tup (p.1.map kV)) ∧ RelV p.2 q.2.2) kvs xs ∧
      ∃ o es ep, h.get? a = some o ∧ o.ExactDict ∧ o.data = .dict es ep ∧ es.toList = xs.map (entryOfKey (tupleKind (j6m P w))) ∧ (xs.map (·.1)).Nodup
  | .set S n => h.SetOf (intKind P w) a S n
  | .ins C dx fs => H dx = some (.own a) ∧ fs.length ≤ 1000 ∧ dx ≠ a ∧ h.get? a = some (PySem.W.instObj C dx) ∧
      ∃ mA, h.Ns1 dx mA ∧ (∀ f, RelO (fs.lookup f) (mA f)) ∧ PySem.Within mA (fs.map (·.1))
  | .own _ => ∃ o, h.get? a = some o
  | .xd fs => ∃ mA, h.Ns1 a mA ∧ ∀ f, RelO (fs.lookup f) (mA f)
  | .rng lo hi => ∃ t u v, h.get? a = some { cls := .type "range", data := .fields #[.int lo t, .int hi u, .int 1 v] }
  | .frz o u => h.get? a = some o ∧ j1z H h a u
  | .tbl ps => h.get? a = some { cls := .none, data := .fields ps }
  | .met f x => h.get? a = some (PySem.W.methodObj (.ref f) (.ref x))
  | .ext φ => φ h ∧ (∃ o, h.get? a = some o) ∧ ∀ h1 h2 : Heap, φ h1 → (∀ o, h1.get? a = some o → h2.get? a = some o) → φ h2
noncomputable def HOk (H : Hp) (h : Heap) : Prop := ∀ a o, H a = some o → j1z P w H h a o
end
section
variable {P : Program} {w : World} {H H' : Hp} {h h' : Heap} {a : Addr} {o : HO}
theorem j1z.lt (x : j1z P w H h a o) : a < h.objs.size := by
  cases o with
  | lst xs => obtain ⟨_, _, _, _, e⟩ := x; exact Heap.lt_size e
  | tup xs => obtain ⟨_, _, _, p⟩ := x; exact p.lt
  | dK kvs => obtain ⟨_, _, _, _, o, _, _, e, _⟩ := x; exact Heap.lt_size e
  | dT kvs => obtain ⟨_, _, _, _, o, _, _, e, _⟩ := x; exact Heap.lt_size e
  | set S n => obtain ⟨o, _, _, _, e, _⟩ := x; exact Heap.lt_size e
  | ins C dx fs => obtain ⟨_, _, _, e, _⟩ := x; exact Heap.lt_size e
  | own y => obtain ⟨_, e⟩ := x; exact Heap.lt_size e
  | xd fs => obtain ⟨_, ⟨_, _, _, e, _⟩, _⟩ := x; exact Heap.lt_size e
  | rng lo hi => obtain ⟨_, _, _, e⟩ := x; exact Heap.lt_size e
  | frz ob u => obtain ⟨e, _⟩ := x; exact Heap.lt_size e
  | tbl ps => exact Heap.lt_size (show h.get? a = some _ from x)
  | met f y => exact Heap.lt_size (show h.get? a = some _ from x)
  | ext φ => obtain ⟨_, ⟨_, e⟩, _⟩ := x; exact Heap.lt_size e
theorem Paired.mapP {α β : Type} {F G : α → β → Prop} : ∀ {l₁ : List α} {l₂ : List β}, Paired F l₁ l₂ → (∀ a b, F a b → G a b) → Paired G l₁ l₂
  | _, _, .nil, _ => .nil
  | _, _, .cons r t, f => .cons (f _ _ r) (Paired.mapP t f)
theorem j1z.stay (x : j1z P w H h a o) (k : ∀ b u, (b = a ∨ H b = some (.own a)) → h.get? b = some u → h'.get? b = some u)
    (ho : ∀ b, H b = some (.own a) → H' b = some (.own a)) (ht : ∀ b xs, H b = some (.tup xs) → H' b = some (.tup xs)) : j1z P w H' h' a o := by
  induction o with
  | lst xs => obtain ⟨z, its, n, r, e⟩ := x; exact (xbaae z its n r (k _ _ (.inl rfl) e))
  | tup xs => obtain ⟨z, its, r, ob, e, c⟩ := x; exact (x4c19 z its r (x9614 ob (k _ _ (.inl rfl) e) c))
  | dK kvs => obtain ⟨z, y, vs, r, ob, es, ep, e, c⟩ := x; exact (x3b98 z y (x9614 vs r (x8f53 ob es ep (k _ _ (.inl rfl) e) c)))
  | dT kvs =>
    obtain ⟨z, y, xs, r, ob, es, ep, e, c⟩ := x
    exact (x3b98 z y (x9614 xs (Paired.mapP r fun p q z => (x3b98 z.1 (ht _ _ z.2.1) z.2.2)) (x8f53 ob es ep (k _ _ (.inl rfl) e) c)))
  | set S n => obtain ⟨ob, es, ep, t, e, c⟩ := x; exact (x0bf7 ob es ep t (k _ _ (.inl rfl) e) c)
  | ins C dx fs =>
    obtain ⟨d, z, ne, e, mA, ⟨od, es, ep, e2, c⟩, r⟩ := x
    exact (x0988 (ho _ d) z ne (k _ _ (.inl rfl) e) (x9614 mA (x8f53 od es ep (k _ _ (.inr d) e2) c) r))
  | own y => obtain ⟨ob, e⟩ := x; exact ⟨ob, k _ _ (.inl rfl) e⟩
  | xd fs => obtain ⟨mA, ⟨od, es, ep, e, c⟩, r⟩ := x; exact (x9614 mA (x8f53 od es ep (k _ _ (.inl rfl) e) c) r)
  | rng lo hi => obtain ⟨t, u, v, e⟩ := x; exact (xe8d9 t u v (k _ _ (.inl rfl) e))
  | frz ob u ih => obtain ⟨e, q⟩ := x; exact ⟨k _ _ (.inl rfl) e, ih q⟩
  | tbl ps =>
    have e : h.get? a = some { cls := .none, data := .fields ps } := x
    show h'.get? a = some { cls := .none, data := .fields ps }
    exact k a _ (.inl rfl) e
  | met f y =>
    have e : h.get? a = some (PySem.W.methodObj (.ref f) (.ref y)) := x
    show h'.get? a = some (PySem.W.methodObj (.ref f) (.ref y))
    exact k a _ (.inl rfl) e
  | ext φ => obtain ⟨p, ⟨o, e⟩, st⟩ := x; exact (x3b98 (st _ _ p fun o q => k _ _ (.inl rfl) q) ⟨o, k _ _ (.inl rfl) e⟩ st)
theorem HOk.lt (x : HOk P w H h) (e : H a = some o) : a < h.objs.size := (x a o e).lt
theorem HOk.fresh (x : HOk P w H h) (e : h.objs.size ≤ a) : H a = none := by
  cases q : H a with
  | none => rfl
  | some u => exact absurd (Nat.lt_of_lt_of_le (x.lt q) e) (Nat.lt_irrefl _)
theorem HOk.kept (x : HOk P w H h) (k : ∀ b u, h.get? b = some u → h'.get? b = some u) : HOk P w H h' := fun a o e =>
  (x a o e).stay (fun b u _ q => k b u q) (fun _ q => q) fun _ _ q => q
theorem HOk.laid (x : HOk P w H h) (k : ∀ b u, h.get? b = some u → h'.get? b = some u) (hp : h.objs.size ≤ a) (new : j1z P w (upd H a o) h' a o) : HOk P w (upd H a o) h' := fun b u e => by
  have hn := x.fresh hp
  by_cases hb : b = a
  · subst hb; rw [j04] at e; cases e; exact new
  rw [j0a hb] at e
  exact (x b u e).stay (fun c v _ q => k c v q) (fun c q => by rw [j0a (j0d q hn)]; exact q) fun c xs q => by rw [j0a (j0d q hn)]; exact q
end
noncomputable def Rd (H : Hp) (a : Addr) (u : HO) : Prop := H a = some u ∨ ∃ o, H a = some (.frz o u)
theorem Rd.ok {P : Program} {w : World} {H : Hp} {h : Heap} {a : Addr} {u : HO} (r : Rd H a u) (x : HOk P w H h) : j1z P w H h a u := by
  rcases r with r | ⟨o, r⟩
  · exact x a u r
  obtain ⟨_, q⟩ := x a _ r
  exact q
noncomputable def Mut : Option HO → Prop
  | some (.lst _) => True
  | some (.dK _) => True
  | some (.dT _) => True
  | some (.set _ _) => True
  | some (.ins _ _ _) => True
  | some (.ext _) => True
  | _ => False
section
variable {P : Program} {w : World} {H : Hp} {h h' : Heap} {x e : Addr} {o' : HO}
theorem HOk.write (ok : HOk P w H h) (mu : Mut (H x)) (he : e = x ∨ H e = some (.own x)) (k : ∀ b u, b ≠ e → h.get? b = some u → h'.get? b = some u) (heo : ∃ u, h'.get? e = some u)
    (new : j1z P w (upd H x o') h' x o') : HOk P w (upd H x o') h' := fun b u q => by
  have nown : ∀ c y, H c = some (.own y) → c ≠ x := fun c y r z => by subst z; rw [r] at mu; exact mu
  have ntup : ∀ c xs, H c = some (.tup xs) → c ≠ x := fun c xs r z => by subst z; rw [r] at mu; exact mu
  by_cases hb : b = x
  · subst hb; rw [j04] at q; cases q; exact new
  rw [j0a hb] at q
  by_cases hbe : b = e
  · have q' : H b = some (.own x) := by
      rcases he with z | z
      · exact absurd (hbe.trans z) hb
      rw [hbe]; exact z
    rw [q] at q'; cases q'
    obtain ⟨v, hv⟩ := heo
    exact ⟨v, by rw [hbe]; exact hv⟩
  refine (ok b u q).stay (fun c v hc r => k c v ?_ r) (fun c r => by rw [j0a (nown c b r)]; exact r) fun c xs r => by rw [j0a (ntup c xs r)]; exact r
  rcases hc with rfl | hc
  · exact hbe
  rintro rfl
  rcases he with z | z
  · exact nown c b hc z
  rw [hc] at z; cases z; exact hb rfl
end
structure Un (fs ex : List Addr) (H H' : Hp) (h h' : Heap) : Prop where
  keep : ∀ b o, h.get? b = some o → H b = none → b ∉ fs → b ∉ ex → h'.get? b = some o
  slot : ∀ b o, h.get? b = some o → H b = none → b ∈ fs → b ∉ ex → ∃ sl, h'.get? b = some { o with slots := sl }
  free : ∀ b o, h.get? b = some o → H b = none → b ∉ ex → H' b = none
  there : ∀ b o, h.get? b = some o → b ∉ ex → ∃ o', h'.get? b = some o'
  tups : ∀ b xs, H b = some (.tup xs) → H' b = some (.tup xs)
  frzs : ∀ b o u, H b = some (.frz o u) → H' b = some (.frz o u)
  tbls : ∀ b ps, H b = some (.tbl ps) → ∃ more, H' b = some (.tbl (ps ++ more))
section
variable {fs fs' ex ex' : List Addr} {H H1 H2 : Hp} {h h1 h2 h' : Heap} {a x e : Addr} {o : HO}
theorem Un.any (u : Un fs ex H H1 h h1) {b : Addr} {ob : Obj} (q : h.get? b = some ob) (n : H b = none) (hx : b ∉ ex) : ∃ sl, h1.get? b = some { ob with slots := sl } := by
  by_cases hb : b ∈ fs
  · exact u.slot b ob q n hb hx
  exact ⟨ob.slots, u.keep b ob q n hb hx⟩
theorem Un.kept (k : ∀ b u, h.get? b = some u → h'.get? b = some u) : Un fs ex H H h h' :=
  ⟨fun b ob q _ _ _ => k b ob q, fun b ob q _ _ _ => ⟨ob.slots, k b ob q⟩, fun _ _ _ n _ => n, fun b ob q _ => ⟨ob, k b ob q⟩, fun _ _ q => q, fun _ _ _ q => q, fun _ ps q => ⟨#[], by rw [q]; simp⟩⟩
theorem Un.refl : Un fs ex H H h h := Un.kept fun _ _ q => q
theorem Un.laid (k : ∀ b u, h.get? b = some u → h'.get? b = some u) (hp : h.objs.size ≤ a) (hn : H a = none) : Un fs ex H (upd H a o) h h' where
  keep := fun b u q _ _ _ => k b u q
  slot := fun b u q _ _ _ => ⟨u.slots, k b u q⟩
  free := fun b u q n _ => by rw [j0a (Nat.ne_of_lt (Nat.lt_of_lt_of_le (Heap.lt_size q) hp))]; exact n
  there := fun b u q _ => ⟨u, k b u q⟩
  tups := fun b xs q => by rw [j0a (j0d q hn)]; exact q
  frzs := fun b u xs q => by rw [j0a (j0d q hn)]; exact q
  tbls := fun b ps q => ⟨#[], by rw [j0a (j0d q hn), q]; simp⟩
theorem Un.write (mu : Mut (H x)) (he : e = x ∨ H e = some (.own x)) (k : ∀ b u, b ≠ e → h.get? b = some u → h'.get? b = some u) (heo : ∃ u, h'.get? e = some u) : Un fs ex H (upd H x o) h h' := by
  have hx : ∀ b, H b = none → b ≠ x := fun b n z => by subst z; rw [n] at mu; exact mu
  have hb : ∀ b, H b = none → b ≠ e := fun b n z => by
    subst z
    rcases he with r | r
    · exact hx b n r
    rw [n] at r; cases r
  have hm : ∀ b u, H b = some u → ¬ Mut (some u) → b ≠ x := fun b u q nm z => by subst z; rw [q] at mu; exact nm mu
  refine ⟨fun b u q n _ _ => k b u (hb b n) q, fun b u q n _ _ => ⟨u.slots, k b u (hb b n) q⟩, fun b u q n _ => by rw [j0a (hx b n)]; exact n, fun b u q _ => ?_,
    fun b xs q => by rw [j0a (hm b _ q fun z => z)]; exact q, fun b u xs q => by rw [j0a (hm b _ q fun z => z)]; exact q, fun b ps q => ⟨#[], by rw [j0a (hm b _ q fun z => z), q]; simp⟩⟩
  by_cases hbe : b = e
  · subst hbe; exact heo
  exact ⟨u, k b u hbe q⟩
end
noncomputable def trk (h : Heap) (H : Hp) : List Addr := (List.range h.objs.size).filter fun a => (H a).isSome
noncomputable def hidT (h : Heap) (H : Hp) : Heap := PySem.W.hideAll h (trk h H)
theorem j9b (h : Heap) (H : Hp) : (hidT h H).objs.size = h.objs.size := PySem.W.hideAll_size _ _
theorem j3l {h : Heap} {H : Hp} {b : Addr} {o : Obj} (e : h.get? b = some o) (n : H b = none) : (hidT h H).get? b = some o :=
  PySem.W.hideAll_get _ e fun hm => by
    have q : (H b).isSome = true := (List.mem_filter.mp hm).2
    rw [n] at q; simp at q
theorem of_hidT {h : Heap} {H : Hp} {b : Addr} {o : Obj} (e : (hidT h H).get? b = some o) : h.get? b = some o ∧ H b = none := by
  have e' : h.get? b = some o := PySem.W.of_hideAll (trk h H) e
  refine ⟨e', ?_⟩
  cases q : H b with
  | none => rfl
  | some x =>
    have hm : b ∈ trk h H := List.mem_filter.mpr ⟨List.mem_range.mpr (Heap.lt_size e'), by simp [q]⟩
    have z : (hidT h H).get? b = none := PySem.W.hideAll_none (trk h H) hm
    rw [z] at e; cases e
noncomputable def j36 (g h : Heap) (L : Addr) : List (Addr × Obj) := (List.range h.objs.size).filterMap fun a => if a = L ∨ (g.get? a).isSome = true then none else (h.get? a).map fun o => (a, o)
theorem j6n {g h : Heap} {L a : Addr} {o : Obj} (h1 : a ≠ L) (h2 : g.get? a = none) (h3 : h.get? a = some o) : (a, o) ∈ j36 g h L :=
  List.mem_filterMap.mpr (x9614 a (List.mem_range.mpr (Heap.lt_size h3)) (by simp [h1, h2, h3]))
theorem j4j {g h : Heap} {L : Addr} {p : Addr × Obj} (hp : p ∈ j36 g h L) : p.1 ≠ L ∧ g.get? p.1 = none ∧ h.get? p.1 = some p.2 := by
  obtain ⟨b, _, e⟩ := List.mem_filterMap.mp hp
  split at e
  · cases e
  rename_i hn
  cases q : h.get? b with
  | none => rw [q] at e; simp at e
  | some u =>
    rw [q] at e
    simp only [Option.map_some, Option.some.injEq] at e
    subst e
    refine (x3b98 (fun z => hn (.inl z)) ?_ q)
    show g.get? b = none
    cases r : g.get? b with
    | none => rfl
    | some v => exact (hn (.inr (by simp [r]))).elim
noncomputable def rest (g h : Heap) (L d : Addr) : List (Addr × Obj) := (j36 g h L).filter fun p => decide (p.1 ≠ d)
theorem news_all {g h : Heap} {L : Addr} : News g L h (j36 g h L) := fun p hp => let ⟨a, b, c⟩ := j4j hp; (x3b98 c a b)
end L2
namespace L2
open PySem PySem.Spec PyProof.Rows
structure Mod (K : PySem.W.Frag) (mg : Str → Option Value) (base : Heap) : Prop where
  kin : K.In base
  glob : base.Ns mainGlobals mg
  blt : ∃ mb, base.Ns builtinsNs mb ∧ ∀ x : Str, x ≠ "__name__" → mb x = bootBuiltins x
  nolimit : base.NoLimit
/-- the context: a def's body (or a comprehension's block) running. base: fixed through the whole law; s₀, H₀: the entry; outer: the frames whose slots others may change (a def's callers); stack: all frames that run;
   ex: iterators that were made ahead of the entry and are walked here (a comprehension's); fn: the names whose cells were made at the entry (a def: all; a comprehension's block: its own); calm: not within an except suite; pn: pins that every state bears; xe: what is wanted of an exception that leaves the code -/
structure Cx where
  prog : Program
  w : World
  K : PySem.W.Frag
  mg : Str → Option Value
  base : Heap
  A : Around
  N : List Str
  s₀ : Shared
  H₀ : Hp
  env : Env
  outer : List Env
  stack : List Env
  ex : List Addr
  fn : Str → Bool
  calm : Bool
  pn : List (Addr × Obj)
  xe : Value → Shared → Prop
noncomputable def frs (l : List Env) : List Addr := l.filterMap (·.frame)
abbrev Cx.fs (X : Cx) : List Addr := frs X.outer
noncomputable def Vis (sc : Scope) (x : Str) : Prop := sc.names.lookup x = some .local ∨ sc.names.lookup x = some .cell ∨ sc.names.lookup x = some .free
noncomputable def Loc (sc : Scope) (x : Str) : Prop := sc.names.lookup x = some .local ∨ sc.names.lookup x = some .cell
noncomputable def Look (env : Env) (h : Heap) (m : Str → Option Value) (x : Str) (u : Value) : Prop :=
  (env.kindOf x = some .local ∧ m x = some u) ∨ ((env.kindOf x = some .cell ∨ env.kindOf x = some .free) ∧ ∃ c, env.cells.lookup x = some c ∧ h.IsCell c (some u))
structure Cx.Ok (X : Cx) : Prop where
  mod : Mod X.K X.mg X.base
  kind : X.env.scope.kind = .function
  glob : X.env.globals = mainGlobals
  blt : X.env.builtins = builtinsNs
  above : X.s₀.heap.objs.size ≤ X.env.locals
  inj : ∀ x y c, X.env.cells.lookup x = some c → X.env.cells.lookup y = some c → x = y
  has : ∀ x, (X.env.kindOf x = some .cell ∨ X.env.kindOf x = some .free) → ∃ c, X.env.cells.lookup x = some c
  cab : ∀ x c, X.fn x = true → X.env.cells.lookup x = some c → X.s₀.heap.objs.size ≤ c
  hd : X.calm = true → X.A.handled = none
  frames : X.A.frames = some X.stack
  stk : X.stack = X.outer ∨ (X.stack = X.env :: X.outer ∧ X.env.frame = some X.env.locals)
  exf : ∀ b ∈ X.ex, b ≠ X.env.locals ∧ ∀ x c, X.env.cells.lookup x = some c → c ≠ b
  bs : ∀ b o, X.base.get? b = some o → X.s₀.heap.get? b = some o ∧ X.H₀ b = none
  bsz : X.base.objs.size ≤ X.s₀.heap.objs.size
  noex : ∀ b o, X.base.get? b = some o → b ∉ X.ex
  exfs : ∀ b ∈ X.ex, b ∉ X.fs
  funs : X.s₀.heap.FunFrames X.base X.outer
  frf : ∀ b ∈ X.fs, X.H₀ b = none
structure Inv (X : Cx) (pins : List (Addr × Obj)) (σ : List (Option V)) (H : Hp) (s : Shared) : Prop where
  ok : X.Ok
  os : s.os = X.s₀.os
  bare : AllBare s.gens
  base : Un X.fs X.ex X.H₀ H X.s₀.heap s.heap
  loc : ∃ m, s.heap.Ns X.env.locals m ∧ ∀ (i : Nat) (x : Str) (v : V), X.N[i]? = some x → σ[i]? = some (some v) → Vis X.env.scope x → ∃ u, RelV v u ∧ Look X.env s.heap m x u
  cell : ∀ x c, X.env.cells.lookup x = some c → ∃ v, s.heap.IsCell c v
  free : H X.env.locals = none
  freeC : ∀ x c, X.env.cells.lookup x = some c → H c = none
  pin : ∀ p ∈ X.pn ++ pins, s.heap.get? p.1 = some p.2 ∧ H p.1 = none ∧ p.1 ≠ X.env.locals ∧ p.1 ∉ X.fs ∧ ∀ v, p.2.data ≠ .cell v
  hok : HOk X.prog X.w H s.heap
  len : σ.length = X.N.length
section
variable {X : Cx} {pins : List (Addr × Obj)} {σ : List (Option V)} {H H' : Hp} {s : Shared} {h' : Heap}
theorem Cx.Ok.nofr (ok : X.Ok) {b : Addr} {o : Obj} (e : X.base.get? b = some o) : b ∉ X.fs := fun hb => by
  have := (ok.funs.mem hb).1
  rw [e] at this; cases this
theorem Inv.bs (I : Inv X pins σ H s) : ∀ b o, X.base.get? b = some o → s.heap.get? b = some o ∧ H b = none := fun b o e =>
  ⟨I.base.keep b o (I.ok.bs b o e).1 (I.ok.bs b o e).2 (I.ok.nofr e) (I.ok.noex b o e), I.base.free b o (I.ok.bs b o e).1 (I.ok.bs b o e).2 (I.ok.noex b o e)⟩
theorem Inv.bk (I : Inv X pins σ H s) : ∀ b o, X.base.get? b = some o → s.heap.get? b = some o := fun b o e => (I.bs b o e).1
theorem Inv.mod (I : Inv X pins σ H s) : Mod X.K X.mg X.base := I.ok.mod
theorem Inv.kIn (I : Inv X pins σ H s) : X.K.In s.heap := I.ok.mod.kin.keeps I.bk
theorem Inv.nolimit (I : Inv X pins σ H s) : s.heap.NoLimit := I.ok.mod.nolimit.keeps I.bk
theorem Inv.fr (I : Inv X pins σ H s) : ∃ m, Fr X.base X.env.locals s.heap m :=
  let ⟨m, hn, _⟩ := I.loc
  ⟨m, hn, I.bk, Nat.le_trans I.ok.bsz I.ok.above⟩
theorem Inv.lt (I : Inv X pins σ H s) : X.env.locals < s.heap.objs.size := let ⟨_, hn, _⟩ := I.loc; hn.lt
theorem Inv.sz (I : Inv X pins σ H s) : X.s₀.heap.objs.size ≤ s.heap.objs.size := Nat.le_trans I.ok.above (Nat.le_of_lt I.lt)
theorem Inv.nofs (I : Inv X pins σ H s) {a : Addr} (h : s.heap.objs.size ≤ a) : a ∉ X.fs := fun hb => by
  obtain ⟨_, o, ho, _⟩ := I.ok.funs.mem hb
  exact absurd (Nat.lt_of_lt_of_le (Heap.lt_size ho) (Nat.le_trans I.sz h)) (Nat.lt_irrefl _)
theorem Inv.cne (I : Inv X pins σ H s) : ∀ x c, X.env.cells.lookup x = some c → c ≠ X.env.locals := fun x c e z => by
  obtain ⟨v, o, ho, hd⟩ := I.cell x c e
  obtain ⟨m, ⟨o', es, ep, ho', hd', _⟩, _⟩ := I.loc
  rw [z, ho'] at ho; cases ho; rw [hd'] at hd; cases hd
theorem Inv.funs (I : Inv X pins σ H s) : s.heap.FunFrames X.base X.outer := by
  have all : ∀ (l : List Env), (∀ b ∈ frs l, b ∈ X.fs) → X.s₀.heap.FunFrames X.base l → s.heap.FunFrames X.base l := by
    intro l
    induction l with
    | nil => intro _ _; trivial
    | cons env r ih =>
      intro hs hl
      obtain ⟨hk, ⟨L, o, hf, hn, ho, hd⟩, hr⟩ := hl
      have hL : L ∈ X.fs := hs L (by unfold frs; rw [List.filterMap_cons, hf]; exact List.mem_cons_self)
      obtain ⟨sl, e⟩ := I.base.slot L o ho (I.ok.frf L hL) hL fun z => I.ok.exfs L z hL
      exact (x3b98 hk (x5fde L _ hf hn e hd) (ih (fun b hb => hs b (by unfold frs; rw [List.filterMap_cons, hf]; exact List.mem_cons_of_mem _ hb)) hr))
  exact all X.outer (fun _ hb => hb) I.ok.funs
theorem Inv.stack (I : Inv X pins σ H s) : s.heap.FunFrames X.base X.stack := by
  rcases I.ok.stk with e | ⟨e, hf⟩
  · rw [e]; exact I.funs
  rw [e]
  obtain ⟨m, hn, _⟩ := I.loc
  refine .cons (by rw [I.ok.kind]; decide) hf hn ?_ I.funs
  exact Heap.get?_none_of_le (Nat.le_trans I.ok.bsz I.ok.above)
theorem Inv.stkSub (I : Inv X pins σ H s) : ∀ b ∈ frs X.stack, b ∈ X.env.locals :: X.fs := fun b hb => by
  rcases I.ok.stk with e | ⟨e, hf⟩
  · rw [e] at hb; exact List.mem_cons_of_mem _ hb
  rw [e] at hb
  unfold frs at hb
  rw [List.filterMap_cons, hf] at hb
  exact hb
theorem Inv.stkFree (I : Inv X pins σ H s) : ∀ b ∈ frs X.stack, H b = none := fun b hb => by
  rcases List.mem_cons.mp (I.stkSub b hb) with e | hb
  · rw [e]; exact I.free
  obtain ⟨_, o, ho, _⟩ := I.ok.funs.mem hb
  exact I.base.free b o ho (I.ok.frf b hb) fun z => I.ok.exfs b z hb
theorem Inv.step {g' : Array GenState} {t' : Nat} {d' : Drawn} {ch : List Addr} (I : Inv X pins σ H s)
    (hch : ∀ b ∈ ch, (b ∈ X.ex ∨ X.s₀.heap.objs.size ≤ b) ∧ b ≠ X.env.locals ∧ (∀ x c, X.env.cells.lookup x = some c → c ≠ b) ∧ ∀ p ∈ X.pn ++ pins, p.1 ≠ b)
    (keep : ∀ b o, b ≠ X.env.locals → b ∉ X.fs → b ∉ ch → s.heap.get? b = some o → H b = none → h'.get? b = some o)
    (slot : ∀ b o, b ≠ X.env.locals → b ∈ X.fs → b ∉ ch → s.heap.get? b = some o → H b = none → ∃ sl, h'.get? b = some { o with slots := sl }) (free : ∀ b o, b ∉ ch → s.heap.get? b = some o → H b = none → H' b = none)
    (there : ∀ b o, b ∉ ch → s.heap.get? b = some o → ∃ o', h'.get? b = some o')
    (tups : ∀ b xs, H b = some (.tup xs) → H' b = some (.tup xs)) (frzs : ∀ b o u, H b = some (.frz o u) → H' b = some (.frz o u)) (tbls : ∀ b ps, H b = some (.tbl ps) → ∃ more, H' b = some (.tbl (ps ++ more)))
    (ns : ∀ m, s.heap.Ns X.env.locals m → h'.Ns X.env.locals m) (hok : HOk X.prog X.w H' h') (hg : AllBare g') :
    Inv X pins σ H' { s with heap := h', gens := g', drawn := d', toks := t' } := by
  have neL : ∀ b o, X.s₀.heap.get? b = some o → b ≠ X.env.locals := fun b o e => Nat.ne_of_lt (Nat.lt_of_lt_of_le (Heap.lt_size e) I.ok.above)
  have neC : ∀ b o, X.s₀.heap.get? b = some o → b ∉ X.ex → b ∉ ch := fun b o e hx hb => by
    rcases (hch b hb).1 with z | z
    · exact hx z
    exact absurd (Nat.lt_of_lt_of_le (Heap.lt_size e) z) (Nat.lt_irrefl _)
  have cellK : ∀ x c, X.env.cells.lookup x = some c → ∀ v, s.heap.IsCell c v → h'.IsCell c v := fun x c e v ⟨o, ho, hd⟩ => by
    have nch : c ∉ ch := fun z => (hch c z).2.2.1 x c e rfl
    by_cases hc : c ∈ X.fs
    · obtain ⟨sl, q⟩ := slot c o (I.cne x c e) hc nch ho (I.freeC x c e)
      exact (x9614 _ q hd)
    exact (x9614 o (keep c o (I.cne x c e) hc nch ho (I.freeC x c e)) hd)
  refine ⟨I.ok, I.os, hg, ⟨fun b o e n hb hx => ?_, fun b o e n hb hx => ?_, fun b o e n hx => ?_, fun b o e hx => ?_, fun b xs e => tups b xs (I.base.tups b xs e), fun b o xs e => frzs b o xs (I.base.frzs b o xs e), fun b ps e => ?_⟩, ?_, fun x c e => ?_, ?_, fun x c e => ?_, fun p hp => ?_, hok, I.len⟩
  · exact keep b o (neL b o e) hb (neC b o e hx) (I.base.keep b o e n hb hx) (I.base.free b o e n hx)
  · obtain ⟨sl, e1⟩ := I.base.slot b o e n hb hx
    obtain ⟨sl', e2⟩ := slot b _ (neL b o e) hb (neC b o e hx) e1 (I.base.free b o e n hx)
    exact ⟨sl', e2⟩
  · obtain ⟨o', e1⟩ := I.base.there b o e hx
    exact free b o' (neC b o e hx) e1 (I.base.free b o e n hx)
  · obtain ⟨o', e1⟩ := I.base.there b o e hx
    exact there b o' (neC b o e hx) e1
  · obtain ⟨m1, e1⟩ := I.base.tbls b ps e
    obtain ⟨m2, e2⟩ := tbls b _ e1
    exact ⟨m1 ++ m2, by rw [e2, Array.append_assoc]⟩
  · obtain ⟨m, hn, hl⟩ := I.loc
    refine (x9614 m (ns m hn) (fun i x v e1 e2 e3 => ?_))
    obtain ⟨u, r, l⟩ := hl i x v e1 e2 e3
    refine (x9614 u r ?_)
    rcases l with l | ⟨k, c, e, z⟩
    · exact .inl l
    exact .inr (x4c19 k c e (cellK x c e _ z))
  · obtain ⟨v, z⟩ := I.cell x c e
    exact ⟨v, cellK x c e v z⟩
  · obtain ⟨m, ⟨o, _, _, ho, _⟩, _⟩ := I.loc
    exact free _ o (fun z => (hch _ z).2.1 rfl) ho I.free
  · obtain ⟨v, o, ho, hd⟩ := I.cell x c e
    exact free c o (fun z => (hch c z).2.2.1 x c e rfl) ho (I.freeC x c e)
  obtain ⟨e, n, ne, nf, d⟩ := I.pin p hp
  have nch : p.1 ∉ ch := fun z => (hch p.1 z).2.2.2 p hp rfl
  exact (x0988 (keep p.1 p.2 ne nf nch e n) (free p.1 p.2 nch e n) ne nf d)
theorem Inv.un {t' : Nat} (I : Inv X pins σ H s) (u : Un X.fs [] H H' s.heap h') (hok : HOk X.prog X.w H' h') : Inv X pins σ H' { s with heap := h', toks := t' } := by
  obtain ⟨m, ⟨o, es, ep, ho, r⟩, _⟩ := id I.loc
  obtain ⟨sl, hL⟩ := u.any ho I.free (by simp)
  exact I.step (g' := s.gens) (d' := s.drawn) (ch := []) (fun _ z => nomatch z) (fun b o _ hb _ e n => u.keep b o e n hb (by simp)) (fun b o _ hb _ e n => u.slot b o e n hb (by simp)) (fun b o _ e n => u.free b o e n (by simp)) (fun b o _ e => u.there b o e (by simp)) u.tups u.frzs u.tbls (fun m' hm => by
    obtain ⟨o', es', ep', ho', r'⟩ := hm
    rw [ho] at ho'; cases ho'
    exact (x8f53 _ es' ep' hL r')) hok I.bare
theorem Inv.call {g' : Array GenState} {t' : Nat} {d' : Drawn} {ch : List Addr} (I : Inv X pins σ H s) (u : Un (frs X.stack) ch H H' s.heap h') (hok : HOk X.prog X.w H' h') (hg : AllBare g')
    (hch : ∀ b ∈ ch, (b ∈ X.ex ∨ X.s₀.heap.objs.size ≤ b) ∧ b ≠ X.env.locals ∧ (∀ x c, X.env.cells.lookup x = some c → c ≠ b) ∧ ∀ p ∈ X.pn ++ pins, p.1 ≠ b) :
    Inv X pins σ H' { s with heap := h', gens := g', drawn := d', toks := t' } := by
  obtain ⟨m, ⟨o, es, ep, ho, r⟩, _⟩ := id I.loc
  obtain ⟨sl, hL⟩ := u.any ho I.free fun z => (hch _ z).2.1 rfl
  exact I.step (ch := ch) hch (fun b o hL hb hc e n => u.keep b o e n (fun z => (List.mem_cons.mp (I.stkSub b z)).elim hL hb) hc) (fun b o _ _ hc e n => u.any e n hc) (fun b o hc e n => u.free b o e n hc) (fun b o hc e => u.there b o e hc) u.tups u.frzs u.tbls (fun m' hm => by
    obtain ⟨o', es', ep', ho', r'⟩ := hm
    rw [ho] at ho'; cases ho'
    exact (x8f53 _ es' ep' hL r')) hok hg
theorem Inv.turned {t' : Nat} {it : Addr} (I : Inv X pins σ H s) (k : ∀ b o, b ≠ it → s.heap.get? b = some o → h'.get? b = some o) (hn : H it = none) (hL : it ≠ X.env.locals)
    (h1 : it ∈ X.ex ∨ X.s₀.heap.objs.size ≤ it) (h2 : ∀ x c, X.env.cells.lookup x = some c → c ≠ it) (h3 : ∀ p ∈ X.pn ++ pins, p.1 ≠ it) : Inv X pins σ H { s with heap := h', toks := t' } := by
  have nit : ∀ b u, H b = some u → b ≠ it := fun b u e z => by rw [z, hn] at e; cases e
  refine I.step (g' := s.gens) (d' := s.drawn) (ch := [it]) (fun b hb => ?_) (fun b o _ _ hc e _ => k b o (fun z => hc (by simp [z])) e) (fun b o _ _ hc e _ => ⟨o.slots, k b o (fun z => hc (by simp [z])) e⟩) (fun _ _ _ _ n => n)
    (fun b o hc e => ⟨o, k b o (fun z => hc (by simp [z])) e⟩) (fun _ _ e => e) (fun _ _ _ e => e) (fun b ps e => ⟨#[], by rw [e]; simp⟩) (fun m hm => ?_) (fun b u e => ?_) I.bare
  · have e : b = it := by simpa using hb
    subst e
    exact (xe1fa h1 hL h2 h3)
  · obtain ⟨o, es, ep, ho, r⟩ := hm
    exact (x8f53 o es ep (k _ o (Ne.symm hL) ho) r)
  refine (I.hok b u e).stay (fun c v hc q => k c v ?_ q) (fun _ q => q) fun _ _ q => q
  rcases hc with z | z
  · rw [z]; exact nit b u e
  exact nit c _ z
theorem Inv.tok (I : Inv X pins σ H s) (t : Nat) : Inv X pins σ H { s with toks := t } := I.un (h' := s.heap) (t' := t) Un.refl I.hok
theorem Inv.kept {t' : Nat} (I : Inv X pins σ H s) (k : ∀ b u, s.heap.get? b = some u → h'.get? b = some u) : Inv X pins σ H { s with heap := h', toks := t' } := I.un (Un.kept k) (I.hok.kept k)
theorem Inv.laid {a : Addr} {o : HO} {t' : Nat} (I : Inv X pins σ H s) (k : ∀ b u, s.heap.get? b = some u → h'.get? b = some u) (hp : s.heap.objs.size ≤ a) (new : j1z X.prog X.w (upd H a o) h' a o) :
    Inv X pins σ (upd H a o) { s with heap := h', toks := t' } := I.un (Un.laid k hp (I.hok.fresh hp)) (I.hok.laid k hp new)
theorem Inv.write {x e : Addr} {o : HO} {t' : Nat} (I : Inv X pins σ H s) (mu : Mut (H x)) (he : e = x ∨ H e = some (.own x)) (k : ∀ b u, b ≠ e → s.heap.get? b = some u → h'.get? b = some u) (heo : ∃ u, h'.get? e = some u)
    (new : j1z X.prog X.w (upd H x o) h' x o) : Inv X pins σ (upd H x o) { s with heap := h', toks := t' } := I.un (Un.write mu he k heo) (I.hok.write mu he k heo new)
theorem Inv.pins_of {pins' : List (Addr × Obj)} (I : Inv X pins σ H s) (h : ∀ p ∈ pins', s.heap.get? p.1 = some p.2 ∧ H p.1 = none ∧ p.1 ≠ X.env.locals ∧ p.1 ∉ X.fs ∧ ∀ v, p.2.data ≠ .cell v) : Inv X pins' σ H s :=
  ⟨I.ok, I.os, I.bare, I.base, I.loc, I.cell, I.free, I.freeC, fun p hp => (List.mem_append.mp hp).elim (fun z => I.pin p (List.mem_append_left _ z)) (h p), I.hok, I.len⟩
theorem j7n {N : List Str} (hN : N.Nodup) {i j : Nat} {x : Str} (a : N[i]? = some x) (b : N[j]? = some x) : i = j := by
  obtain ⟨h1, e1⟩ := List.getElem?_eq_some_iff.mp a
  obtain ⟨h2, e2⟩ := List.getElem?_eq_some_iff.mp b
  exact (List.getElem_inj hN).mp (e1.trans e2.symm)
theorem j9c {M : Model} {A : Around} {E : Value → Shared → Prop} {i : Nat} {x : Str} {v : V} {u : Value} {Q : Unit → Shared → Prop} (I : Inv X pins σ H s) (hN : X.N.Nodup) (hi : X.N[i]? = some x) (hx : Loc X.env.scope x) (r : RelV v u)
    (h : ∀ s', Inv X pins (σ.set i (some v)) H s' → (∃ a, Heap.SameBut a s.heap s'.heap ∧ (a = X.env.locals ∨ X.env.cells.lookup x = some a)) → Q () s') (hf : X.fn x = true ∨ X.env.scope.names.lookup x = some .local := by first | exact .inl rfl | exact .inr rfl | assumption) : wpAny M A (storeName X.env x u) Q E s := by
  obtain ⟨m, hn, hl⟩ := id I.loc
  have hcls : (X.env.scope.kind == .class || (X.env.scope.kind == .module && X.env.locals != X.env.globals)) = false := by rw [I.ok.kind]; rfl
  have hiσ : i < σ.length := by rw [I.len]; exact (List.getElem?_eq_some_iff.mp hi).1
  have cne := I.cne
  have tracked : ∀ {a : Addr} {h' : Heap}, (∃ o, s.heap.get? a = some o ∧ H a = none) → Heap.SameBut a s.heap h' → HOk X.prog X.w H h' := fun {a h'} ha hs b ob e => by
    obtain ⟨_, _, hfree⟩ := ha
    refine (I.hok b ob e).stay (fun c w' hc q => (hs.2 c ?_).trans q) (fun _ q => q) fun _ _ q => q
    rintro rfl
    rcases hc with rfl | hc
    · rw [hfree] at e; cases e
    rw [hfree] at hc; cases hc
  rcases hx with hk | hk
  · refine wpAny_storeName_local hk hn (fun h' hn' hs => ?_) hcls
    obtain ⟨oL, _, _, hoL, _⟩ := id hn
    refine h _ ⟨I.ok, I.os, I.bare, ⟨fun b o e n hb hx => ?_, fun b o e n hb hx => ?_, I.base.free, fun b o e hx => ?_, I.base.tups, I.base.frzs, I.base.tbls⟩, (x9614 _ hn' (fun j y v' e1 e2 e3 => ?_)), fun y c e => ?_, I.free, I.freeC, fun p hp => ?_, tracked (x9614 oL hoL I.free) hs, by simpa using I.len⟩ (x9614 _ hs (.inl rfl))
    · exact (hs.2 b (Nat.ne_of_lt (Nat.lt_of_lt_of_le (Heap.lt_size e) I.ok.above))).trans (I.base.keep b o e n hb hx)
    · obtain ⟨sl, e1⟩ := I.base.slot b o e n hb hx
      exact ⟨sl, (hs.2 b (Nat.ne_of_lt (Nat.lt_of_lt_of_le (Heap.lt_size e) I.ok.above))).trans e1⟩
    · obtain ⟨o', e1⟩ := I.base.there b o e hx
      exact ⟨o', (hs.2 b (Nat.ne_of_lt (Nat.lt_of_lt_of_le (Heap.lt_size e) I.ok.above))).trans e1⟩
    · by_cases hj : j = i
      · subst hj
        rw [hi] at e1; cases e1
        rw [List.getElem?_set_self hiσ] at e2
        cases e2
        exact (x9614 u r (.inl ⟨hk, by simp⟩))
      rw [List.getElem?_set_ne (Ne.symm hj)] at e2
      obtain ⟨u', r', q⟩ := hl j y v' e1 e2 e3
      refine (x9614 u' r' ?_)
      rcases q with ⟨k, e⟩ | ⟨k, c, e, z⟩
      · refine .inl ⟨k, ?_⟩
        have : y ≠ x := fun e => hj (j7n hN e1 (e ▸ hi))
        simp [this, e]
      exact .inr (x4c19 k c e (z.sameBut hs (cne y c e)))
    · obtain ⟨w', z⟩ := I.cell y c e
      exact ⟨w', z.sameBut hs (cne y c e)⟩
    obtain ⟨e, n, ne, nf, d⟩ := I.pin p hp
    exact (x0988 ((hs.2 p.1 ne).trans e) n ne nf d)
  have hfn : X.fn x = true := by
    rcases hf with z | z
    · exact z
    rw [z] at hk; cases hk
  obtain ⟨c, hc⟩ := I.ok.has x (.inl hk)
  obtain ⟨w', z⟩ := I.cell x c hc
  refine wpAny_storeName_cell I.ok.kind hk hc z (fun h' hc' hs => ?_)
  obtain ⟨oc, hoc, hocd⟩ := id z
  refine h { s with heap := h' } ⟨I.ok, I.os, I.bare, ⟨fun b o e n hb hx => ?_, fun b o e n hb hx => ?_, I.base.free, fun b o e hx => ?_, I.base.tups, I.base.frzs, I.base.tbls⟩, (x9614 m (hn.sameBut hs (Ne.symm (cne x c hc))) (fun j y v' e1 e2 e3 => ?_)), fun y c' e => ?_, I.free, I.freeC, fun p hp => ?_, tracked (x9614 oc hoc (I.freeC x c hc)) hs, by simpa using I.len⟩ (x9614 c hs (.inr hc))
  · exact (hs.2 b (Nat.ne_of_lt (Nat.lt_of_lt_of_le (Heap.lt_size e) (I.ok.cab x c hfn hc)))).trans (I.base.keep b o e n hb hx)
  · obtain ⟨sl, e1⟩ := I.base.slot b o e n hb hx
    exact ⟨sl, (hs.2 b (Nat.ne_of_lt (Nat.lt_of_lt_of_le (Heap.lt_size e) (I.ok.cab x c hfn hc)))).trans e1⟩
  · obtain ⟨o', e1⟩ := I.base.there b o e hx
    exact ⟨o', (hs.2 b (Nat.ne_of_lt (Nat.lt_of_lt_of_le (Heap.lt_size e) (I.ok.cab x c hfn hc)))).trans e1⟩
  · by_cases hj : j = i
    · subst hj
      rw [hi] at e1; cases e1
      rw [List.getElem?_set_self hiσ] at e2
      cases e2
      exact (x9614 u r (.inr (x4c19 (.inl hk) c hc hc')))
    rw [List.getElem?_set_ne (Ne.symm hj)] at e2
    obtain ⟨u', r', q⟩ := hl j y v' e1 e2 e3
    refine (x9614 u' r' ?_)
    rcases q with q | ⟨k, c', e, z'⟩
    · exact .inl q
    refine .inr (x4c19 k c' e (z'.sameBut hs ?_))
    rintro rfl
    exact hj (j7n hN e1 (I.ok.inj _ _ _ e hc ▸ hi))
  · by_cases hcc : c' = c
    · subst hcc; exact ⟨_, hc'⟩
    obtain ⟨w2, z2⟩ := I.cell y c' e
    exact ⟨w2, z2.sameBut hs hcc⟩
  obtain ⟨e, n, ne, nf, d⟩ := I.pin p hp
  refine (x0988 ((hs.2 p.1 ?_).trans e) n ne nf d)
  intro q
  rw [q, hoc] at e
  have q' : oc = p.2 := Option.some.inj e
  exact d w' (by rw [← q']; exact hocd)
theorem j2m {M : Model} {A : Around} {E : Value → Shared → Prop} {i : Nat} {x : Str} {v : V} {u : Value} {Q : Unit → Shared → Prop} (I : Inv X pins σ H s) (hN : X.N.Nodup) (hi : X.N[i]? = some x) (hx : Loc X.env.scope x) (r : RelV v u)
    (h : ∀ s', Inv X pins (σ.set i (some v)) H s' → Q () s') (hf : X.fn x = true ∨ X.env.scope.names.lookup x = some .local := by first | exact .inl rfl | exact .inr rfl | assumption) : wpAny M A (storeName X.env x u) Q E s :=
  j9c I hN hi hx r (fun s' I' _ => h s' I') hf
theorem Inv.call' {s' : Shared} {ch : List Addr} (I : Inv X pins σ H s) (ho : s'.os = s.os) (u : Un (frs X.stack) ch H H' s.heap s'.heap) (hok : HOk X.prog X.w H' s'.heap) (hg : AllBare s'.gens)
    (hch : ∀ b ∈ ch, (b ∈ X.ex ∨ X.s₀.heap.objs.size ≤ b) ∧ b ≠ X.env.locals ∧ (∀ x c, X.env.cells.lookup x = some c → c ≠ b) ∧ ∀ p ∈ X.pn ++ pins, p.1 ≠ b) : Inv X pins σ H' s' := by
  obtain ⟨h', g', d', t', o'⟩ := s'
  have e : o' = s.os := ho
  subst e
  exact I.call (g' := g') (t' := t') (d' := d') u hok hg hch
end
abbrev XK := Value → Option Addr → Hp → Prop
abbrev St := List (Option V)
abbrev VK := V → Hp → Prop
abbrev TE := St → Hp → VK → Prop
abbrev TT := St → Hp → (Bool → Hp → Prop) → Prop
abbrev TA := St → Hp → (List V → Hp → Prop) → Prop
structure Ends where
  nx : St → Hp → Prop
  rt : VK
  bk : St → Hp → Prop := fun _ _ => False
  ct : St → Hp → Prop := fun _ _ => False
abbrev TS := Ends → St → Hp → Prop
noncomputable def EP (X : Cx) (pins : List (Addr × Obj)) (σ : St) (Q : VK) (u : Value) (s' : Shared) : Prop := ∃ v H', Inv X pins σ H' s' ∧ RelV v u ∧ Q v H'
noncomputable def TP (X : Cx) (pins : List (Addr × Obj)) (σ : St) (Q : Bool → Hp → Prop) (b : Bool) (s' : Shared) : Prop := ∃ H', Inv X pins σ H' s' ∧ Q b H'
noncomputable def AP (X : Cx) (pins : List (Addr × Obj)) (σ : St) (Q : List V → Hp → Prop) (us : List Value) (s' : Shared) : Prop := ∃ vs H', Inv X pins σ H' s' ∧ Vals vs us ∧ Q vs H'
noncomputable def SP (X : Cx) (pins : List (Addr × Obj)) (D : Ends) (f : Flow) (s' : Shared) : Prop :=
  match f with
  | .next => ∃ σ' H', Inv X pins σ' H' s' ∧ D.nx σ' H'
  | .brk => ∃ σ' H', Inv X pins σ' H' s' ∧ D.bk σ' H'
  | .cont => ∃ σ' H', Inv X pins σ' H' s' ∧ D.ct σ' H'
  | .ret u => ∃ v σ' H', Inv X pins σ' H' s' ∧ RelV v u ∧ D.rt v H'
noncomputable def PE (X : Cx) (e : Expr) (t : TE) : Prop :=
  ∀ (pins : List (Addr × Obj)) (s : Shared) (σ : St) (H : Hp) (Q : VK), Inv X pins σ H s → t σ H Q → wpAny (model X.prog X.w) X.A (eval e X.env) (EP X pins σ Q) X.xe s
noncomputable def PT (X : Cx) (e : Expr) (t : TT) : Prop :=
  ∀ (pins : List (Addr × Obj)) (s : Shared) (σ : St) (H : Hp) (Q : Bool → Hp → Prop), Inv X pins σ H s → t σ H Q → wpAny (model X.prog X.w) X.A (isTrue e X.env (eval e X.env)) (TP X pins σ Q) X.xe s
noncomputable def PW (X : Cx) (e : Expr) (t : TT) : Prop :=
  ∀ (whole : Sem Value) (pins : List (Addr × Obj)) (s : Shared) (σ : St) (H : Hp) (Q : Bool → Hp → Prop), Inv X pins σ H s → t σ H Q → wpAny (model X.prog X.w) X.A (isTrue e X.env whole) (TP X pins σ Q) X.xe s
theorem PW.pt {X : Cx} {e : Expr} {t : TT} (h : PW X e t) : PT X e t := h _
noncomputable def PA (X : Cx) (es : List Expr) (t : TA) : Prop :=
  ∀ (pos : Pos) (pins : List (Addr × Obj)) (s : Shared) (σ : St) (H : Hp) (Q : List V → Hp → Prop), Inv X pins σ H s → t σ H Q → wpAny (model X.prog X.w) X.A (spliced (backTo pos (starEach es X.env))) (AP X pins σ Q) X.xe s
noncomputable def PS (X : Cx) (st : Stmt) (t : TS) : Prop :=
  ∀ (pins : List (Addr × Obj)) (s : Shared) (σ : St) (H : Hp) (D : Ends), Inv X pins σ H s → t D σ H → wpAny (model X.prog X.w) X.A (exec st X.env) (SP X pins D) X.xe s
noncomputable def PSs (X : Cx) (st : List Stmt) (t : TS) : Prop :=
  ∀ (pins : List (Addr × Obj)) (s : Shared) (σ : St) (H : Hp) (D : Ends), Inv X pins σ H s → t D σ H → wpAny (model X.prog X.w) X.A (execs st X.env) (SP X pins D) X.xe s
theorem thn {α : Type} {t : Sem α} {Q Q' : α → Shared → Prop} {M : Model} {A : Around} {E : Value → Shared → Prop} {s : Shared} (h : wpAny M A t Q E s) (hQ : ∀ a s, Q a s → Q' a s) : wpAny M A t Q' E s := wpAny_mono h hQ fun _ _ x => x
end L2
namespace L2
open PySem PySem.Spec PyProof.Rows
section
variable {X : Cx}
noncomputable def tVar (i : Nat) : TE := fun σ H Q => ∃ v, σ[i]? = some (some v) ∧ Q v H
noncomputable def tC (v : V) : TE := fun _ H Q => Q v H
theorem pe_var {i : Nat} {x : Str} {pos : Pos} (hN : X.N[i]? = some x) (hv : Vis X.env.scope x) (hd : (x == ("__debug__" : Str)) = false := by decide) (hcd : (x == ("__classdict__" : Str)) = false := by decide) : PE X (.Name x pos) (tVar i) := by
  intro pins s σ H Q I h
  obtain ⟨v, e, h⟩ := h
  obtain ⟨m, hn, hl⟩ := I.loc
  obtain ⟨u, r, l⟩ := hl i x v hN e hv
  have fin : EP X pins σ Q u s := (xeb27 v H I r h)
  rcases l with ⟨hk, hm⟩ | ⟨hk, c, hc, hcell⟩
  · exact wpAny_Name (wpAny_loadName_local I.ok.kind hk hn hm fin) hd
  rcases hk with hk | hk
  · exact wpAny_Name (wpAny_loadName_cell I.ok.kind hk hc hcell fin) hd
  exact wpAny_Name (wpAny_loadName_free I.ok.kind hk hc hcell fin hcd) hd
theorem j07 {i j pos} : PE X (.Constant (.int i) j pos) (tC (.int i)) := fun _ _ _ H _ I h => wpAny_Constant_int (xeb27 (.int i) H (I.tok _) ⟨_, rfl⟩ h)
theorem j50 {b j pos} : PE X (.Constant (.bool b) j pos) (tC (.bl b)) := fun _ _ _ H _ I h => Constant_bool (xeb27 (.bl b) H I rfl h)
noncomputable def Gl (X : Cx) (x : Str) : Prop := X.env.kindOf x = some .globalImplicit
theorem j6o {E : Value → Shared → Prop} {pins : List (Addr × Obj)} {s : Shared} {σ : St} {H : Hp} {x : Str} {u : Value} {pos : Pos} {Q : Value → Shared → Prop} (I : Inv X pins σ H s) (hg : Gl X x) (hm : X.mg x = some u) (h : Q u s)
    (hd : (x == ("__debug__" : Str)) = false := by decide) : wpAny (model X.prog X.w) X.A (eval (.Name x pos) X.env) Q E s :=
  Calls.Name_function_global I.ok.kind hg (Calls.loadGlobal_global (by rw [I.ok.glob]; exact I.mod.glob.keeps I.bk) hm h) hd
theorem j2r {E : Value → Shared → Prop} {pins : List (Addr × Obj)} {s : Shared} {σ : St} {H : Hp} {x : Str} {u : Value} {pos : Pos} {Q : Value → Shared → Prop} (I : Inv X pins σ H s) (hg : Gl X x) (hm : X.mg x = none) (hv : bootBuiltins x = some u) (h : Q u s)
    (hn : x ≠ "__name__" := by decide) (hd : (x == ("__debug__" : Str)) = false := by decide) : wpAny (model X.prog X.w) X.A (eval (.Name x pos) X.env) Q E s := by
  obtain ⟨mb, h1, h2⟩ := I.mod.blt
  exact Calls.Name_function_global I.ok.kind hg (Calls.loadGlobal_builtin (by rw [I.ok.glob]; exact I.mod.glob.keeps I.bk) hm (by rw [I.ok.blt]; exact h1.keeps I.bk) ((h2 x hn).trans hv) h) hd
theorem j6p {x : Str} {v : V} {u : Value} {pos : Pos} (hg : Gl X x) (hm : X.mg x = some u) (r : RelV v u) (hd : (x == ("__debug__" : Str)) = false := by decide) : PE X (.Name x pos) (tC v) :=
  fun _ _ _ H _ I h => j6o I hg hm (xeb27 v H I r h) hd
theorem j2f {x : Str} {v : V} {u : Value} {pos : Pos} (hg : Gl X x) (hm : X.mg x = none) (hv : bootBuiltins x = some u) (r : RelV v u) (hn : x ≠ "__name__" := by decide) (hd : (x == ("__debug__" : Str)) = false := by decide) : PE X (.Name x pos) (tC v) :=
  fun _ _ _ H _ I h => j2r I hg hm hv (xeb27 v H I r h) hn hd
noncomputable def t2I (ta tb : TE) (k : Int → Int → Hp → Prop) : St → Hp → Prop := fun σ H => ta σ H fun x H1 => tb σ H1 fun y H2 => ∃ i j, x = .int i ∧ y = .int j ∧ k i j H2
noncomputable def tAdd (ta tb : TE) : TE := fun σ H Q => t2I ta tb (fun i j H2 => Q (.int (i + j)) H2) σ H
noncomputable def tSub (ta tb : TE) : TE := fun σ H Q => t2I ta tb (fun i j H2 => Q (.int (i - j)) H2) σ H
noncomputable def tMul (ta tb : TE) : TE := fun σ H Q => t2I ta tb (fun i j H2 => (-(2 ^ 64) < i ∧ i < 2 ^ 64) ∧ Q (.int (i * j)) H2) σ H
variable {a b : Expr} {ta tb : TE} {pos : Pos}
noncomputable def PC (X : Cx) (op : CmpOp) (a b : Expr) (t : TE) : Prop :=
  ∀ (pins : List (Addr × Obj)) (s : Shared) (σ : St) (H : Hp) (Q : VK), Inv X pins σ H s → t σ H Q →
    wpAny (model X.prog X.w) X.A (eval a X.env) (fun v s₁ => wpAny (model X.prog X.w) X.A (eval b X.env) (fun u s₂ => wpAny (model X.prog X.w) X.A (compareOp op v u) (EP X pins σ Q) X.xe s₂) X.xe s₁) X.xe s
noncomputable def tCmp (p : Int → Int → Bool) (ta tb : TE) : TE := fun σ H Q => t2I ta tb (fun i j H2 => Q (.bl (p i j)) H2) σ H
abbrev tLt : TE → TE → TE := tCmp fun i j => decide (i < j)
abbrev tLe : TE → TE → TE := tCmp fun i j => decide (i ≤ j)
abbrev tGt : TE → TE → TE := tCmp fun i j => decide (j < i)
abbrev tGe : TE → TE → TE := tCmp fun i j => decide (j ≤ i)
abbrev tEqI : TE → TE → TE := tCmp fun i j => decide (i = j)
abbrev tNeI : TE → TE → TE := tCmp fun i j => !decide (i = j)
noncomputable def tIsN (ta : TE) : TE := fun σ H Q => ta σ H fun x H1 => Q (.bl (decide (x = .non))) H1
noncomputable def tNotN (ta : TE) : TE := fun σ H Q => ta σ H fun x H1 => Q (.bl (!decide (x = .non))) H1
noncomputable def tB (t : TE) : TT := fun σ H Q => t σ H fun x H1 => ∃ c, x = .bl c ∧ Q c H1
theorem j20 {e : Expr} {t : TE} (h : PE X e t) (he : ∀ whole, isTrue e X.env whole = (do let v ← whole; standAt e.pos; holding [v] (truthy v)) := by intro _; rfl) : PT X e (tB t) := by
  intro pins s σ H Q I hw
  refine isTrue_plain (thn (h pins s σ H _ I hw) fun v s1 ⟨x, H1, I1, r1, q1⟩ => ?_) (he _)
  obtain ⟨d, rfl, q⟩ := q1
  cases r1
  exact wpAny_truthy_bool (x9614 H1 I1 q)
variable {tA tB' : TT} {rest : List Expr}
noncomputable def tAnd (t u : TT) : TT := fun σ H Q => t σ H fun c H1 => if c = true then u σ H1 Q else Q false H1
noncomputable def tOr (t u : TT) : TT := fun σ H Q => t σ H fun c H1 => if c = true then Q true H1 else u σ H1 Q
noncomputable def tNot (t : TT) : TT := fun σ H Q => t σ H fun c H1 => Q (!c) H1
theorem j51 (ha : PT X a tA) : PW X (.BoolOp .And [a] pos) tA := by
  intro wh pins s σ H Q I h
  refine isTrue_and (thn (ha pins s σ H Q I h) fun c s1 e => ?_)
  cases c with
  | true => exact isTrue_and_nil e
  | false => exact e
theorem j2w (ha : PT X a tA) : PW X (.BoolOp .Or [a] pos) tA := by
  intro wh pins s σ H Q I h
  refine isTrue_or (thn (ha pins s σ H Q I h) fun c s1 e => ?_)
  cases c with
  | false => exact isTrue_or_nil e
  | true => exact e
theorem j5n (ha : PT X a tA) (hb : PW X (.BoolOp .And (b :: rest) pos) tB') : PW X (.BoolOp .And (a :: b :: rest) pos) (tAnd tA tB') := by
  intro wh pins s σ H Q I h
  refine isTrue_and (thn (ha pins s σ H _ I h) fun c s1 ⟨H1, I1, q1⟩ => ?_)
  cases c with
  | true => exact hb wh pins s1 σ H1 Q I1 q1
  | false => exact (x9614 H1 I1 q1)
theorem j4k (ha : PT X a tA) (hb : PW X (.BoolOp .Or (b :: rest) pos) tB') : PW X (.BoolOp .Or (a :: b :: rest) pos) (tOr tA tB') := by
  intro wh pins s σ H Q I h
  refine isTrue_or (thn (ha pins s σ H _ I h) fun c s1 ⟨H1, I1, q1⟩ => ?_)
  cases c with
  | true => exact (x9614 H1 I1 q1)
  | false => exact hb wh pins s1 σ H1 Q I1 q1
theorem j2c (ha : PT X a tA) : PT X (.UnaryOp .Not a pos) (tNot tA) := by
  intro pins s σ H Q I h
  exact isTrue_not (ha pins s σ H (fun c H1 => Q (!c) H1) I h)
noncomputable def tAndV (ta tb : TE) : TE := fun σ H Q => ta σ H fun x H1 => ∃ c, x = .bl c ∧ if c = true then tb σ H1 Q else Q (.bl false) H1
noncomputable def tOrV (ta tb : TE) : TE := fun σ H Q => ta σ H fun x H1 => ∃ c, x = .bl c ∧ if c = true then Q (.bl true) H1 else tb σ H1 Q
noncomputable def tNotV (ta : TE) : TE := fun σ H Q => ta σ H fun x H1 => ∃ c, x = .bl c ∧ Q (.bl (!c)) H1
theorem j5o {op} {t : TE} (h : PE X a t) : PE X (.BoolOp op [a] pos) t := fun pins s σ H Q I hw => BoolOp_one (h pins s σ H Q I hw)
theorem j5p (ha : PE X a ta) (hb : PE X (.BoolOp .And (b :: rest) pos) tb) : PE X (.BoolOp .And (a :: b :: rest) pos) (tAndV ta tb) := by
  intro pins s σ H Q I h
  refine BoolOp_and (thn (ha pins s σ H _ I h) fun v s1 ⟨x, H1, I1, r1, q1⟩ => ?_)
  obtain ⟨c, rfl, q1⟩ := q1
  cases r1
  refine wpAny_truthy_bool ?_
  cases c with
  | true => exact hb pins s1 σ H1 Q I1 q1
  | false => exact (xeb27 (.bl false) H1 I1 rfl q1)
theorem pe_or (ha : PE X a ta) (hb : PE X (.BoolOp .Or (b :: rest) pos) tb) : PE X (.BoolOp .Or (a :: b :: rest) pos) (tOrV ta tb) := by
  intro pins s σ H Q I h
  refine BoolOp_or (thn (ha pins s σ H _ I h) fun v s1 ⟨x, H1, I1, r1, q1⟩ => ?_)
  obtain ⟨c, rfl, q1⟩ := q1
  cases r1
  refine wpAny_truthy_bool ?_
  cases c with
  | false => exact hb pins s1 σ H1 Q I1 q1
  | true => exact (xeb27 (.bl true) H1 I1 rfl q1)
theorem j9d (ha : PE X a ta) : PE X (.UnaryOp .Not a pos) (tNotV ta) := by
  intro pins s σ H Q I h
  refine UnaryOp_ (thn (ha pins s σ H _ I h) fun v s1 ⟨x, H1, I1, r1, q1⟩ => ?_)
  obtain ⟨c, rfl, q1⟩ := q1
  cases r1
  exact not_of (wpAny_truthy_bool (xeb27 (.bl (!c)) H1 I1 rfl q1))
noncomputable def tIf (t : TT) (ta tb : TE) : TE := fun σ H Q => t σ H fun c H1 => if c = true then ta σ H1 Q else tb σ H1 Q
theorem j7o {c : Expr} (hc : PT X c tA) (ha : PE X a ta) (hb : PE X b tb) : PE X (.IfExp c a b pos) (tIf tA ta tb) := by
  intro pins s σ H Q I h
  refine wpAny_IfExp (thn (hc pins s σ H _ I h) fun d s1 ⟨H1, I1, q1⟩ => ?_)
  cases d with
  | true => exact ha pins s1 σ H1 Q I1 q1
  | false => exact hb pins s1 σ H1 Q I1 q1
end
end L2
namespace L2
open PySem PySem.Spec PyProof.Rows
noncomputable def SqL (K : PySem.W.Frag) (H : Hp) (a : Addr) (xs : List V) : Prop :=
  Rd H a (.lst xs) ∨
    ∃ (o : Obj) (its : Array Value) (n : Nat), K.lookup a = some o ∧ o.cls = .type "list" ∧ o.dict = none ∧ o.data = .seq its n ∧ its.size ≤ sizeLine ∧ Vals xs its.toList
noncomputable def SqT (K : PySem.W.Frag) (H : Hp) (a : Addr) (xs : List V) : Prop :=
  Rd H a (.tup xs) ∨
    ∃ (o : Obj) (its : Array Value) (n : Nat), K.lookup a = some o ∧ o.cls = .type "tuple" ∧ o.data = .seq its n ∧ its.size ≤ sizeLine ∧ Vals xs its.toList
noncomputable def absV : Value → Option V
  | .none => some .non
  | .bool b => some (.bl b)
  | .int i _ => some (.int i)
  | .str x _ => some (.str x)
  | .bytes b _ => some (.byt b)
  | .float b _ => some (.flt b)
  | .ref a => some (.ref a)
  | .type n => some (.ty n)
  | _ => none
theorem RelV.abs {x : V} {u : Value} (r : RelV x u) : absV u = some x := by
  cases x with
  | non => cases r; rfl
  | bl _ => cases r; rfl
  | int _ => obtain ⟨t, rfl⟩ := r; rfl
  | str _ => obtain ⟨t, rfl⟩ := r; rfl
  | byt _ => obtain ⟨t, rfl⟩ := r; rfl
  | flt _ => obtain ⟨t, rfl⟩ := r; rfl
  | ref _ => cases r; rfl
  | ty _ => cases r; rfl
theorem RelV.inj {x y : V} {u : Value} (r : RelV x u) (q : RelV y u) : x = y := Option.some.inj (r.abs.symm.trans q.abs)
theorem Vals.inj : ∀ {xs ys : List V} {us : List Value}, Vals xs us → Vals ys us → xs = ys
  | _, _, _, .nil, .nil => rfl
  | _, _, _, .cons r t, .cons r' t' => by rw [r.inj r', Vals.inj t t']
section
variable {X : Cx} {pins : List (Addr × Obj)} {σ : St} {H : Hp} {s : Shared} {a : Addr} {xs ys : List V}
theorem SqL.of {K : PySem.W.Frag} (h : H a = some (.lst xs)) : SqL K H a xs := .inl (.inl h)
theorem SqT.of {K : PySem.W.Frag} (h : H a = some (.tup xs)) : SqT K H a xs := .inl (.inl h)
theorem Inv.list (I : Inv X pins σ H s) (h : SqL X.K H a xs) : ∃ its : List Value, Vals xs its ∧ PlainL s.heap a its.toArray ∧ xs.length ≤ sizeLine := by
  rcases h with h | ⟨o, its, n, hk, hc, hd, hs, hz, r⟩
  · obtain ⟨z, its, n, r, e⟩ := h.ok I.hok
    exact (x0c0c its r (x5fde _ n e rfl rfl rfl) z)
  refine (x0c0c its.toList r (x5fde o n (I.kIn a o hk) hc hd (by simpa using hs)) ?_)
  have e := r.length
  simp only [Array.length_toList] at e
  exact o0bb0d hz e
theorem Inv.tuple (I : Inv X pins σ H s) (h : SqT X.K H a xs) : ∃ its : List Value, Vals xs its ∧ IsTup s.heap a its.toArray ∧ xs.length ≤ sizeLine := by
  rcases h with h | ⟨o, its, n, hk, hc, hs, hz, r⟩
  · obtain ⟨z, its, r, p⟩ := h.ok I.hok
    exact (x0c0c its r p z)
  refine (x0c0c its.toList r (x6ef4 o (I.kIn a o hk) hc n (by simpa using hs)) ?_)
  have e := r.length
  simp only [Array.length_toList] at e
  exact o0bb0d hz e
theorem Inv.list_inj (I : Inv X pins σ H s) (h : SqL X.K H a xs) (h' : SqL X.K H a ys) : xs = ys := by
  obtain ⟨its, r, ⟨o, n, e, _, _, d⟩, _⟩ := I.list h
  obtain ⟨its', r', ⟨o', n', e', _, _, d'⟩, _⟩ := I.list h'
  rw [e] at e'; cases e'
  rw [d] at d'
  injection d' with d1 _
  have : its = its' := by simpa using congrArg Array.toList d1
  subst this
  exact r.inj r'
theorem Inv.tuple_inj (I : Inv X pins σ H s) (h : SqT X.K H a xs) (h' : SqT X.K H a ys) : xs = ys := by
  obtain ⟨its, r, ⟨o, e, _, n, d⟩, _⟩ := I.tuple h
  obtain ⟨its', r', ⟨o', e', _, n', d'⟩, _⟩ := I.tuple h'
  rw [e] at e'; cases e'
  rw [d] at d'
  injection d' with d1 _
  have : its = its' := by simpa using congrArg Array.toList d1
  subst this
  exact r.inj r'
end
abbrev Cx.wish (X : Cx) (E : Value → Shared → Prop) : Cx := { X with xe := E }
abbrev Cx.nox (X : Cx) : Cx := X.wish fun _ _ => False
theorem Cx.Ok.wish {X : Cx} (ok : X.Ok) (E : Value → Shared → Prop) : (X.wish E).Ok :=
  ⟨ok.mod, ok.kind, ok.glob, ok.blt, ok.above, ok.inj, ok.has, ok.cab, ok.hd, ok.frames, ok.stk, ok.exf, ok.bs, ok.bsz, ok.noex, ok.exfs, ok.funs, ok.frf⟩
theorem Cx.Ok.unwish {X : Cx} {E : Value → Shared → Prop} (ok : (X.wish E).Ok) : X.Ok :=
  ⟨ok.mod, ok.kind, ok.glob, ok.blt, ok.above, ok.inj, ok.has, ok.cab, ok.hd, ok.frames, ok.stk, ok.exf, ok.bs, ok.bsz, ok.noex, ok.exfs, ok.funs, ok.frf⟩
section
variable {X : Cx} {pins : List (Addr × Obj)} {σ : St} {H : Hp} {s : Shared} {E : Value → Shared → Prop}
theorem Inv.wish (I : Inv X pins σ H s) (E : Value → Shared → Prop) : Inv (X.wish E) pins σ H s := ⟨I.ok.wish E, I.os, I.bare, I.base, I.loc, I.cell, I.free, I.freeC, I.pin, I.hok, I.len⟩
theorem Inv.unwish (I : Inv (X.wish E) pins σ H s) : Inv X pins σ H s := ⟨I.ok.unwish, I.os, I.bare, I.base, I.loc, I.cell, I.free, I.freeC, I.pin, I.hok, I.len⟩
theorem SP.unwish {D : Ends} {f : Flow} {s' : Shared} (h : SP (X.wish E) pins D f s') : SP X pins D f s' := by
  cases f with
  | next => obtain ⟨σ', H', I, q⟩ := h; exact (x90aa σ' H' I.unwish q)
  | brk => obtain ⟨σ', H', I, q⟩ := h; exact (x90aa σ' H' I.unwish q)
  | cont => obtain ⟨σ', H', I, q⟩ := h; exact (x90aa σ' H' I.unwish q)
  | ret u => obtain ⟨v, σ', H', I, r, q⟩ := h; exact (x0c51 v σ' H' I.unwish r q)
theorem PSs.nox {st : List Stmt} {t : TS} (h : PSs X.nox st t) : PSs X st t := fun pins s σ H D I hw =>
  wpAny_mono (h pins s σ H D (I.wish _) hw) (fun _ _ q => q.unwish) fun _ _ z => False.elim z
end
section
variable {X : Cx} {st : Stmt} {rest : List Stmt} {t u : TS} {e : Expr} {te : TE} {pos : Pos}
noncomputable def tNext : TS := fun D σ H => D.nx σ H
noncomputable def tSeq (t u : TS) : TS := fun D σ H => t { D with nx := u D } σ H
theorem j0m : PSs X [] tNext := fun _ _ σ H _ I h => wpAny_execs_nil (x90aa σ H I h)
theorem j01 (h1 : PS X st t) (h2 : PSs X rest u) : PSs X (st :: rest) (tSeq t u) := by
  intro pins s σ H D I h
  refine wpAny_execs_cons (thn (h1 pins s σ H { D with nx := u D } I h) fun f s1 q => ?_)
  cases f with
  | next =>
    obtain ⟨σ', H', I', q⟩ := q
    exact h2 pins s1 σ' H' D I' q
  | ret v => exact q
  | brk => exact q
  | cont => exact q
theorem j08 (h1 : PS X st t) : PSs X [st] t := by
  intro pins s σ H D I h
  refine wpAny_execs_cons (thn (h1 pins s σ H D I h) fun f s1 q => ?_)
  cases f with
  | next => exact wpAny_execs_nil q
  | ret v => exact q
  | brk => exact q
  | cont => exact q
noncomputable def tBreak : TS := fun D σ H => D.bk σ H
noncomputable def tCont : TS := fun D σ H => D.ct σ H
theorem Inv.quiet {pins : List (Addr × Obj)} {σ : St} {H : Hp} {s : Shared} (I : Inv X pins σ H s) : interactive X.env = false := by simp [interactive, I.ok.kind]
noncomputable def tDrop (te : TE) : TS := fun D σ H => te σ H fun _ H1 => D.nx σ H1
theorem j10 (he : PE X e te) (hs : swapsWith e none pos.line X.env = pure false := by rfl) : PS X (.Expr e pos) (tDrop te) := by
  intro pins s σ H D I h
  exact wpAny_Expr_any (thn (he pins s σ H _ I h) fun v s1 ⟨x, H1, I1, r1, q1⟩ => (x90aa σ H1 I1 q1)) I.quiet hs
noncomputable def tRet (te : TE) : TS := fun D σ H => te σ H D.rt
theorem j0r (he : PE X e te) : PS X (.Return (some e) pos) (tRet te) := by
  intro pins s σ H D I h
  exact wpAny_Return_some (thn (he pins s σ H _ I h) fun v s1 ⟨x, H1, I1, r1, q1⟩ => (x0c51 x σ H1 I1 r1 q1))
noncomputable def tRetN : TS := fun D _ H => D.rt .non H
noncomputable def tIfS (c : TT) (t u : TS) : TS := fun D σ H => c σ H fun b H1 => if b = true then t D σ H1 else u D σ H1
theorem j1b {c : Expr} {a b : List Stmt} {tc : TT} (hc : PT X c tc) (ha : PSs X a t) (hb : PSs X b u) : PS X (.If c a b pos) (tIfS tc t u) := by
  intro pins s σ H D I h
  refine wpAny_If (thn (hc pins s σ H _ I h) fun d s1 ⟨H1, I1, q1⟩ => ?_)
  cases d with
  | true => exact ha pins s1 σ H1 D I1 q1
  | false => exact hb pins s1 σ H1 D I1 q1
noncomputable def tNever : TS := fun _ _ _ => False
theorem j25 : PS X st tNever := fun _ _ _ _ _ _ h => h.elim
end
abbrev TG := V → St → Hp → (St → Hp → Prop) → Prop
abbrev TGs := List V → St → Hp → (St → Hp → Prop) → Prop
noncomputable def PG (X : Cx) (target : Expr) (t : TG) : Prop :=
  ∀ (pins : List (Addr × Obj)) (s : Shared) (σ : St) (H : Hp) (v : V) (u : Value) (Q : St → Hp → Prop), Inv X pins σ H s → RelV v u → t v σ H Q →
    wpAny (model X.prog X.w) X.A (assign target X.env u) (fun _ s' => ∃ σ' H', Inv X pins σ' H' s' ∧ Q σ' H') X.xe s
noncomputable def PGs (X : Cx) (ts : List Expr) (t : TGs) : Prop :=
  ∀ (pins : List (Addr × Obj)) (s : Shared) (σ : St) (H : Hp) (vs : List V) (us : List Value) (Q : St → Hp → Prop), Inv X pins σ H s → Vals vs us → t vs σ H Q →
    wpAny (model X.prog X.w) X.A (assignInOrder ((assignEach ts X.env).map (·.2)) us) (fun _ s' => ∃ σ' H', Inv X pins σ' H' s' ∧ Q σ' H') X.xe s
abbrev TSet := V → V → V → Hp → (Hp → Prop) → Prop
noncomputable def PSet (X : Cx) (t : TSet) : Prop :=
  ∀ (pins : List (Addr × Obj)) (s : Shared) (σ : St) (H : Hp) (o i v : V) (ov iv u : Value) (Q : Hp → Prop), Inv X pins σ H s → RelV o ov → RelV i iv → RelV v u → t o i v H Q →
    wpAny (model X.prog X.w) X.A (setItem ov iv u) (fun _ s' => ∃ H', Inv X pins σ H' s' ∧ Q H') X.xe s
abbrev TIp := V → V → Hp → VK → Prop
noncomputable def PIp (X : Cx) (op : Operator) (t : TIp) : Prop :=
  ∀ (pins : List (Addr × Obj)) (s : Shared) (σ : St) (H : Hp) (x y : V) (v u : Value) (Q : VK), Inv X pins σ H s → RelV x v → RelV y u → t x y H Q →
    wpAny (model X.prog X.w) X.A (inplaceOp op v u) (EP X pins σ Q) X.xe s
section
variable {X : Cx} {pos : Pos}
noncomputable def gName (i : Nat) : TG := fun v σ H Q => Q (σ.set i (some v)) H
theorem j1a {i : Nat} {x : Str} (hN : X.N.Nodup) (hi : X.N[i]? = some x) (hx : Loc X.env.scope x) (hf : X.fn x = true ∨ X.env.scope.names.lookup x = some .local := by first | exact .inl rfl | exact .inr rfl | assumption) : PG X (.Name x pos) (gName i) := by
  intro pins s σ H v u Q I r h
  exact wpAny_assign_Name (j2m I hN hi hx r (fun s' I' => (x90aa _ H I' h)) hf)
noncomputable def gNil : TGs := fun vs σ H Q => vs = [] ∧ Q σ H
noncomputable def gCons (t : TG) (u : TGs) : TGs := fun vs σ H Q => ∃ v r, vs = v :: r ∧ t v σ H fun σ' H' => u r σ' H' Q
theorem pgs_nil : PGs X [] gNil := by
  intro pins s σ H vs us Q I r h
  obtain ⟨e, h⟩ := h
  subst e
  cases r
  exact assignInOrder_nil (x90aa σ H I h)
theorem j7p {e : Expr} {es : List Expr} {t : TG} {u : TGs} (h1 : PG X e t) (h2 : PGs X es u)
    (hs : (assignEach (e :: es) X.env).map (·.2) = assign e X.env :: (assignEach es X.env).map (·.2) := by rfl) : PGs X (e :: es) (gCons t u) := by
  intro pins s σ H vs us Q I r h
  obtain ⟨v, vr, e1, h⟩ := h
  subst e1
  cases r with
  | cons r rr =>
    rw [hs]
    refine assignInOrder_cons (thn (h1 pins s σ H _ _ _ I r h) fun _ s1 ⟨σ1, H1, I1, q1⟩ => ?_)
    exact h2 pins s1 σ1 H1 _ _ Q I1 rr q1
noncomputable def gTup (K : PySem.W.Frag) (n : Nat) (t : TGs) : TG := fun v σ H Q => ∃ a xs, v = .ref a ∧ SqT K H a xs ∧ xs.length = n ∧ t xs σ H Q
theorem pg_tup {es : List Expr} {k : Nat} {t : TGs} {n : Nat} (hc : X.calm = true) (h : PGs X es t)
    (hn : (assignEach es X.env).length = n := by rfl) (hst : (assignEach es X.env).findIdx? (·.1) = none := by rfl) : PG X (.Tuple es k pos) (gTup X.K n t) := by
  intro pins s σ H v u Q I r hw
  obtain ⟨a, xs, e1, hq, hl, hw⟩ := hw
  subst e1
  cases r
  obtain ⟨its, rv, ht, hz⟩ := I.tuple hq
  refine assign_Tuple_tuple (I.ok.hd hc) ht (by simp [hn, ← hl, rv.length]) hst fun h' hx => ?_
  have I1 : Inv X pins σ H { s with heap := h' } := I.kept (t' := s.toks) fun b o e => hx b o (Nat.ne_of_lt (Heap.lt_size e)) e
  exact h pins _ σ H xs _ Q I1 (by simpa using rv) hw
noncomputable def gSub (to ti : TE) (t : TSet) : TG := fun v σ H Q => to σ H fun o H1 => ti σ H1 fun i H2 => t o i v H2 fun H3 => Q σ H3
theorem j4q {o i : Expr} {to ti : TE} {t : TSet} (ho : PE X o to) (hi : PE X i ti) (hs : PSet X t)
    (ha : ∀ v, assign (.Subscript o i pos) X.env v = (do
      let ov ← holding [v] (eval o X.env)
      let iv ← holding [v, ov] (eval i X.env)
      standAt pos
      holding [v, ov, iv] (setItem ov iv v)
      release [v, ov, iv] []) := by intro _; rfl) : PG X (.Subscript o i pos) (gSub to ti t) := by
  intro pins s σ H v u Q I r h
  rw [ha]
  refine wpAny_bind (wpAny_holding (thn (ho pins s σ H _ I h) fun ov s1 ⟨x, H1, I1, r1, q1⟩ => ?_))
  refine wpAny_bind (wpAny_holding (thn (hi pins s1 σ H1 _ I1 q1) fun iv s2 ⟨y, H2, I2, r2, q2⟩ => ?_))
  refine wpAny_bind (wpAny_standAt (wpAny_bind (wpAny_holding (thn (hs pins s2 σ H2 x y v ov iv u _ I2 r1 r2 r q2) fun _ s3 ⟨H3, I3, q3⟩ => ?_))))
  exact wpAny_release (x90aa σ H3 I3 q3)
noncomputable def tAsg (te : TE) (g : TG) : TS := fun D σ H => te σ H fun x H1 => g x σ H1 D.nx
theorem j4r {tg e : Expr} {te : TE} {g : TG} (he : PE X e te) (hg : PG X tg g) (hs : swapsWithSole [tg] e pos.line X.env = pure false := by rfl) (hw : swappedStores [tg] e X.env = pure none := by rfl)
    (h1 : (assignEach [tg] X.env).map (·.2) = [assign tg X.env] := by rfl) : PS X (.Assign [tg] e pos) (tAsg te g) := by
  intro pins s σ H D I h
  refine wpAny_Assign_stores (thn (he pins s σ H _ I h) fun v s1 ⟨x, H1, I1, r1, q1⟩ => ?_) hs hw
  rw [h1]
  exact thn (hg pins s1 σ H1 x v _ I1 r1 q1) fun _ s2 q => q
theorem j0k {i : Nat} {x : Str} {e : Expr} {te : TE} {pos' : Pos} (hN : X.N.Nodup) (hi : X.N[i]? = some x) (hx : Loc X.env.scope x) (he : PE X e te) (hs : swapsWith e (some (.Name x pos')) pos.line X.env = pure false := by rfl) (hf : X.fn x = true ∨ X.env.scope.names.lookup x = some .local := by first | exact .inl rfl | exact .inr rfl | assumption) :
    PS X (.Assign [.Name x pos'] e pos) (tAsg te (gName i)) := by
  intro pins s σ H D I h
  refine wpAny_Assign_Name (thn (he pins s σ H _ I h) fun v s1 ⟨y, H1, I1, r1, q1⟩ => ?_) hs
  exact j2m I1 hN hi hx r1 (fun s2 I2 => (x90aa _ H1 I2 q1)) hf
noncomputable def tPar (i j : Nat) (ta : TA) : TS := fun D σ H => ta σ H fun vs H1 => ∃ v w, vs = [v, w] ∧ D.nx ((σ.set i (some v)).set j (some w)) H1
theorem j5q {i j : Nat} {x y : Str} {a b : Expr} {ta : TA} {px py pt : Pos} {kt k2 pt2} (hc : X.calm = true) (hN : X.N.Nodup) (hi : X.N[i]? = some x) (hj : X.N[j]? = some y) (hij : i ≠ j)
    (hx : X.env.scope.names.lookup x = some .local) (hy : X.env.scope.names.lookup y = some .local) (ha : PA X [a, b] ta)
    (hw : swappedStores [.Tuple [.Name x px, .Name y py] kt pt] (.Tuple [a, b] k2 pt2) X.env = pure (some [x, y]))
    (hs : swapsWithSole [.Tuple [.Name x px, .Name y py] kt pt] (.Tuple [a, b] k2 pt2) pos.line X.env = pure false := by rfl) :
    PS X (.Assign [.Tuple [.Name x px, .Name y py] kt pt] (.Tuple [a, b] k2 pt2) pos) (tPar i j ta) := by
  intro pins s σ H D I h
  rw [exec_Assign_arm]
  refine wpAny_bind (wpAny_standAt ?_)
  rw [hs]
  refine wpAny_bind (wpAny_pure ?_)
  rw [if_neg (by decide)]
  refine wpAny_bind (Tuple_ (thn (ha _ pins s σ H _ I h) fun us s1 ⟨vs, H1, I1, r1, q1⟩ => ?_))
  obtain ⟨v, w, e1, q1⟩ := q1
  subst e1
  obtain ⟨u1, u2, rfl, rv, rw'⟩ : ∃ u1 u2, us = [u1, u2] ∧ RelV v u1 ∧ RelV w u2 := by
    cases r1 with
    | cons p q =>
      cases q with
      | cons p' q' =>
        cases q'
        exact (xeb27 _ _ rfl p p')
  refine wpAny_newObj_type ?_ (by show 2 ≤ sizeLine; decide)
  have I2 : Inv X pins σ H1 { s1 with heap := s1.heap.push { cls := .type "tuple", data := .seq [u1, u2].toArray } } := I1.kept (t' := s1.toks) fun b o e => Heap.get?_push_of_some _ e
  rw [hw]
  refine wpAny_bind (wpAny_pure ?_)
  show wpAny (model X.prog X.w) X.A (do rule "assign.swapped-stores"; let items ← unpackItems (.ref s1.heap.objs.size) 2 none; assignInOrder [fun v => bindName X.env y v, fun v => bindName X.env x v] items.reverse; pure Flow.next) _ _ _
  refine wpAny_bind (wpAny_rule (wpAny_bind (unpackItems_tuple (items := #[u1, u2]) (I.ok.hd hc) (IsTup.new s1.heap _) fun h' hx' => ?_)))
  have I3 := I2.kept (h' := h') (t' := s1.toks) fun b o e => hx' b o (Nat.ne_of_lt (Heap.lt_size e)) e
  show wpAny _ _ (assignInOrder [fun v => bindName X.env y v, fun v => bindName X.env x v] [u2, u1] >>= fun _ => pure Flow.next) _ _ _
  refine wpAny_bind (assignInOrder_cons (wpAny_bindName (j2m I3 hN hj (.inl hy) rw' (fun s2 I4 => ?_) (.inr hy))))
  refine assignInOrder_cons (wpAny_bindName (j2m I4 hN hi (.inl hx) rv (fun s3 I5 => assignInOrder_nil (wpAny_pure ?_)) (.inr hx)))
  rw [List.set_comm _ _ (Ne.symm hij)] at I5
  exact (x90aa _ H1 I5 q1)
noncomputable def tAug (i : Nat) (te : TE) (ti : TIp) : TS := fun D σ H => ∃ x, σ[i]? = some (some x) ∧ te σ H fun y H1 => ti x y H1 fun z H2 => D.nx (σ.set i (some z)) H2
theorem j9e {i : Nat} {x : Str} {e : Expr} {te : TE} {op : Operator} {ti : TIp} {pos' : Pos} (hN : X.N.Nodup) (hi : X.N[i]? = some x) (hx : Loc X.env.scope x) (he : PE X e te) (ho : PIp X op ti) (hf : X.fn x = true ∨ X.env.scope.names.lookup x = some .local := by first | exact .inl rfl | exact .inr rfl | assumption) :
    PS X (.AugAssign (.Name x pos') op e pos) (tAug i te ti) := by
  intro pins s σ H D I h
  obtain ⟨v, e1, h⟩ := h
  obtain ⟨m, hn, hl⟩ := I.loc
  have vis : Vis X.env.scope x := by rcases hx with k | k; exact .inl k; exact .inr (.inl k)
  obtain ⟨u, r, l⟩ := hl i x v hi e1 vis
  refine wpAny_AugAssign_Name ?_
  have go : wpAny (model X.prog X.w) X.A (eval e X.env) (fun w s₂ => wpAny (model X.prog X.w) X.A (inplaceOp op u w) (fun r s₃ => wpAny (model X.prog X.w) X.A (storeName X.env x r) (fun _ => SP X pins D .next) X.xe s₃) X.xe s₂) X.xe s := by
    refine thn (he pins s σ H _ I h) fun w s1 ⟨y, H1, I1, r1, q1⟩ => ?_
    refine thn (ho pins s1 σ H1 v y u w _ I1 r r1 q1) fun z s2 ⟨zv, H2, I2, r2, q2⟩ => ?_
    exact j2m I2 hN hi hx r2 (fun s3 I3 => (x90aa _ H2 I3 q2)) hf
  rcases l with ⟨hk, hm⟩ | ⟨hk, c, hc, hcell⟩
  · exact wpAny_loadName_local I.ok.kind hk hn hm go
  rcases hk with hk | hk
  · exact wpAny_loadName_cell I.ok.kind hk hc hcell go
  rcases hx with k | k
  · have : X.env.scope.names.lookup x = some .free := hk
    rw [k] at this; cases this
  have : X.env.scope.names.lookup x = some .free := hk
  rw [k] at this; cases this
noncomputable def tAugS (to ti te : TE) (tget : V → V → Hp → VK → Prop) (tip : TIp) (tset : TSet) : TS := fun D σ H => to σ H fun o H1 => ti σ H1 fun i H2 => tget o i H2 fun x H3 => te σ H3 fun y H4 => tip x y H4 fun z H5 => tset o i z H5 fun H6 => D.nx σ H6
noncomputable def PGet (X : Cx) (t : V → V → Hp → VK → Prop) : Prop :=
  ∀ (pins : List (Addr × Obj)) (s : Shared) (σ : St) (H : Hp) (o i : V) (ov iv : Value) (Q : VK), Inv X pins σ H s → RelV o ov → RelV i iv → t o i H Q →
    wpAny (model X.prog X.w) X.A (getItem ov iv) (EP X pins σ Q) X.xe s
theorem j6q {o i e : Expr} {to ti te : TE} {tget : V → V → Hp → VK → Prop} {tip : TIp} {tset : TSet} {op : Operator} {tpos : Pos} (ho : PE X o to) (hi : PE X i ti) (hg : PGet X tget) (he : PE X e te) (hp : PIp X op tip) (hs : PSet X tset)
    (ha : ∀ ov iv new, augStore i ov iv new = (do holding [new, ov, iv] (setItem ov iv new); release [new, ov, iv] []; pure .next) := by intros; rfl) : PS X (.AugAssign (.Subscript o i tpos) op e pos) (tAugS to ti te tget tip tset) := by
  intro pins s σ H D I h
  refine wpAny_AugAssign_SubscriptAny (thn (ho pins s σ H _ I h) fun ov s1 ⟨x1, H1, I1, r1, q1⟩ => ?_) ha
  refine thn (hi pins s1 σ H1 _ I1 q1) fun iv s2 ⟨x2, H2, I2, r2, q2⟩ => ?_
  refine thn (hg pins s2 σ H2 x1 x2 ov iv _ I2 r1 r2 q2) fun old s3 ⟨x3, H3, I3, r3, q3⟩ => ?_
  refine thn (he pins s3 σ H3 _ I3 q3) fun v s4 ⟨x4, H4, I4, r4, q4⟩ => ?_
  refine thn (hp pins s4 σ H4 x3 x4 old v _ I4 r3 r4 q4) fun new s5 ⟨x5, H5, I5, r5, q5⟩ => ?_
  exact thn (hs pins s5 σ H5 x1 x2 x5 ov iv new _ I5 r1 r2 r5 q5) fun _ s6 ⟨H6, I6, q6⟩ => (x90aa σ H6 I6 q6)
noncomputable def ipI (f : Int → Int → Int) : TIp := fun x y H Q => ∃ i j, x = .int i ∧ y = .int j ∧ Q (.int (f i j)) H
theorem j9f : PIp X .Add (ipI fun i j => i + j) := by
  intro pins s σ H x y v u Q I r1 r2 h
  obtain ⟨i, j, e1, e2, q⟩ := h
  subst e1; subst e2
  obtain ⟨t, rfl⟩ := r1
  obtain ⟨t', rfl⟩ := r2
  exact iadd_int (xeb27 (.int _) H (I.tok _) ⟨_, rfl⟩ q)
theorem j9g : PIp X .Sub (ipI fun i j => i - j) := by
  intro pins s σ H x y v u Q I r1 r2 h
  obtain ⟨i, j, e1, e2, q⟩ := h
  subst e1; subst e2
  obtain ⟨t, rfl⟩ := r1
  obtain ⟨t', rfl⟩ := r2
  exact isub_int (xeb27 (.int _) H (I.tok _) ⟨_, rfl⟩ q)
end
section
variable {X : Cx} {pos : Pos}
noncomputable def j9h (c : TT) (tb : TS) : TS := fun D σ H => ∃ W : Nat → St → Hp → Prop, (∃ m, W m σ H) ∧ ∀ m σ H, W m σ H →
  c σ H fun b H1 => if b = true then ∃ N : St → Hp → Prop, (∀ σ' H', N σ' H' → ∃ m', m' < m ∧ W m' σ' H') ∧ tb { D with nx := N, ct := N, bk := D.nx } σ H1 else D.nx σ H1
theorem ps_while {c : Expr} {body : List Stmt} {tc : TT} {tb : TS} (hp : PassesOwn (model X.prog X.w) X.A X.env X.xe) (hc : PT X c tc) (hb : PSs X body tb) : PS X (.While c body [] pos) (j9h tc tb) := by
  intro pins s σ H D I h
  obtain ⟨W, ⟨m0, w0⟩, turn⟩ := h
  refine wpAny_While (codeAny_whileLoop (fun n s' => ∃ σ' H', Inv X pins σ' H' s' ∧ W n σ' H') ?_ m0 (x90aa σ H I w0))
  rintro n s1 ⟨σ1, H1, I1, w1⟩
  refine wpAny_passesOwn hp (thn (hc pins s1 σ1 H1 _ I1 (turn n σ1 H1 w1)) fun b s2 ⟨H2, I2, q2⟩ => ?_)
  cases b with
  | true =>
    obtain ⟨N, hN, q2⟩ := q2
    rw [if_pos rfl]
    refine wpAny_passesOwn hp (thn (hb pins s2 σ1 H2 _ I2 q2) fun f s3 q3 => ?_)
    cases f with
    | next =>
      obtain ⟨σ3, H3, I3, n3⟩ := q3
      obtain ⟨m', hm, w3⟩ := hN σ3 H3 n3
      exact (x2128 m' hm σ3 H3 I3 w3)
    | cont =>
      obtain ⟨σ3, H3, I3, n3⟩ := q3
      obtain ⟨m', hm, w3⟩ := hN σ3 H3 n3
      exact (x2128 m' hm σ3 H3 I3 w3)
    | brk => exact q3
    | ret v => exact q3
  | false =>
    rw [if_neg Bool.false_ne_true]
    exact wpAny_execs_nil (x90aa σ1 H2 I2 q2)
end
structure It where
  go : Nat → Hp → Prop
  yld : Nat → Hp → V → Hp → Prop
  stop : Nat → Hp → Prop
noncomputable def FpOk (X : Cx) (pins : List (Addr × Obj)) (H : Hp) (b : Addr) : Prop :=
  H b = none ∧ b ≠ X.env.locals ∧ b ∉ X.fs ∧ (b ∈ X.ex ∨ X.s₀.heap.objs.size ≤ b) ∧ (∀ x c, X.env.cells.lookup x = some c → c ≠ b) ∧ ∀ p ∈ X.pn ++ pins, p.1 ≠ b
theorem Inv.fpOk {X : Cx} {pins : List (Addr × Obj)} {σ : St} {H H' : Hp} {s : Shared} {b : Addr} (I : Inv X pins σ H s) (hb : s.heap.objs.size ≤ b) (hn : H' b = none) : FpOk X pins H' b := by
  refine (xf6a6 hn (Nat.ne_of_gt (Nat.lt_of_lt_of_le I.lt hb)) (I.nofs hb) (.inr (Nat.le_trans I.sz hb)) (fun x c e z => ?_) (fun p hp z => ?_))
  · obtain ⟨v, q⟩ := I.cell x c e
    exact absurd (Nat.lt_of_lt_of_le q.lt (by rw [z]; exact hb)) (Nat.lt_irrefl _)
  exact absurd (Nat.lt_of_lt_of_le (Heap.lt_size (I.pin p hp).1) (by rw [z]; exact hb)) (Nat.lt_irrefl _)
structure Turn (P : Program) (w : World) (K : PySem.W.Frag) (tg : Expr) (J : It) (fp : List Addr) (it : Addr) (tn : Nat → Heap → Prop) : Prop where
  mem : it ∈ fp
  obj : ∀ i h, tn i h → ∀ b ∈ fp, ∃ o, h.get? b = some o ∧ ∀ v, o.data ≠ .cell v
  keep : ∀ i h h', tn i h → (∀ b ∈ fp, ∀ o, h.get? b = some o → h'.get? b = some o) → tn i h'
  item : ∀ (X : Cx), X.prog = P → X.w = w → X.K = K → X.calm = true → ∀ (i : Nat) (pins : List (Addr × Obj)) (s : Shared) (σ : St) (H : Hp) (E : Value → Shared → Prop), Inv X pins σ H s → (∀ b ∈ fp, FpOk X pins H b) → tn i s.heap → J.go i H →
    wpAny (model P w) X.A (pyNext (.ref it)) (fun r s1 => ∃ u, r = some u ∧
      wpAny (model P w) X.A (letOwnedTupleGo tg (.ref it) u) (fun _ s2 => ∃ x H', Inv X pins σ H' s2 ∧ RelV x u ∧ J.yld i H x H' ∧ tn (i + 1) s2.heap ∧ ∀ b ∈ fp, H' b = none) E s1) E s
  done : ∀ (X : Cx), X.prog = P → X.w = w → X.K = K → X.calm = true → ∀ (i : Nat) (pins : List (Addr × Obj)) (s : Shared) (σ : St) (H : Hp) (E : Value → Shared → Prop), Inv X pins σ H s → (∀ b ∈ fp, FpOk X pins H b) → tn i s.heap → J.stop i H →
    wpAny (model P w) X.A (pyNext (.ref it)) (fun r s1 => r = none ∧ Inv X pins σ H s1) E s
  self : ∀ (A : Around) (i : Nat) (s : Shared) (Q : Value → Shared → Prop) (E : Value → Shared → Prop), tn i s.heap → Q (.ref it) s → wpAny (model P w) A (pyIter (.ref it)) Q E s
abbrev TI := St → Hp → (It → Hp → Prop) → Prop
noncomputable def PIE (X : Cx) (pins : List (Addr × Obj)) (σ : St) (tg : Expr) (R : It → Hp → Prop) (itv : Value) (s2 : Shared) : Prop :=
  ∃ (it : Addr) (fp : List Addr) (tn : Nat → Heap → Prop) (J : It) (H' : Hp), itv = .ref it ∧ Inv X pins σ H' s2 ∧ Turn X.prog X.w X.K tg J fp it tn ∧ tn 0 s2.heap ∧ (∀ b ∈ fp, FpOk X pins H' b) ∧ R J H'
noncomputable def PI (X : Cx) (tg iter : Expr) (wi : TI) : Prop :=
  ∀ (pins : List (Addr × Obj)) (s : Shared) (σ : St) (H : Hp) (R : It → Hp → Prop), Inv X pins σ H s → wi σ H R →
    wpAny (model X.prog X.w) X.A (eval iter X.env) (fun v s1 => wpAny (model X.prog X.w) X.A (pyIter v) (PIE X pins σ tg R) X.xe s1) X.xe s
theorem go_of {M : Model} {A : Around} {E : Value → Shared → Prop} {s : Shared} {tg : Expr} {it : Addr} {u : Value} {o : Obj} {n : String} {vs : Array Value} {Q : Unit → Shared → Prop} (ho : s.heap.get? it = some o) (hc : o.cls = .type n) (hd : o.data = .fields vs)
    (hn : ["enumerate", "zip", "dict_itemiterator", "dict_reverseitemiterator", "odict_iterator", "itertools.zip_longest", "itertools.pairwise"].contains n = false) (hQ : Q () s) : wpAny M A (letOwnedTupleGo tg (.ref it) u) Q E s := by
  unfold letOwnedTupleGo
  cases tg <;> first
    | exact wpAny_pure hQ
    | (cases u <;> first
        | exact wpAny_pure hQ
        | (refine wpAny_bind (wpAny_load ho ?_)
           rw [hc, hd]
           show wpAny M A (if (["enumerate", "zip", "dict_itemiterator", "dict_reverseitemiterator", "odict_iterator", "itertools.zip_longest", "itertools.pairwise"].contains n && vs[0]? == some (rawInt _)) = true then _ else _) Q E s
           rw [if_neg (by intro h; rw [hn, Bool.false_and] at h; cases h)]
           exact wpAny_pure hQ))
noncomputable def Itl (K : PySem.W.Frag) (a : Addr) : It :=
  ⟨fun i H => ∃ xs x, SqL K H a xs ∧ xs[i]? = some x, fun i H x H' => H' = H ∧ ∀ xs, SqL K H a xs → xs[i]? = some x, fun i H => ∃ xs, SqL K H a xs ∧ xs.length ≤ i⟩
noncomputable def Itt (K : PySem.W.Frag) (a : Addr) : It :=
  ⟨fun i H => ∃ xs x, SqT K H a xs ∧ xs[i]? = some x, fun i H x H' => H' = H ∧ ∀ xs, SqT K H a xs → xs[i]? = some x, fun i H => ∃ xs, SqT K H a xs ∧ xs.length ≤ i⟩
noncomputable def Itr (lo : Int) (n : Nat) : It := ⟨fun i _ => i < n, fun i H x H' => H' = H ∧ x = .int (lo + i), fun i _ => n ≤ i⟩
theorem j9i {P : Program} {w : World} {K : PySem.W.Frag} {tg : Expr} (a it : Addr) : Turn P w K tg (Itl K a) [it] it (fun i h => h.IsListIter it a i) where
  mem := by simp
  obj := fun i h st b hb => by
    have e : b = it := by simpa using hb
    subst e
    obtain ⟨o, e, c, d⟩ := st
    exact (x9614 o e (fun v z => by rw [d] at z; cases z))
  keep := fun i h h' st k => st.at fun o e => k it (by simp) o e
  item := by
    intro X hP hw hK hc i pins s σ H E I hf st hg
    subst hP hw hK
    obtain ⟨xs, x, hq, hx⟩ := hg
    obtain ⟨its, rv, p, hz⟩ := I.list hq
    obtain ⟨u, hu, ru⟩ := rv.get hx
    obtain ⟨f0, f1, f2, f3, f4, f5⟩ := hf it (by simp)
    refine wpAny_pyNext_list_item st p.isList (x := u) (by simpa using hu) fun h' st' sb => ?_
    have I1 : Inv X pins σ H { s with heap := h' } := I.turned (t' := s.toks) (fun b o hb e => (sb.2 b hb).trans e) f0 f1 f3 f4 f5
    obtain ⟨o, e, c, d⟩ := id st'
    exact (x9614 u rfl (go_of (s := { s with heap := h' }) e c d (by decide) (x6c4f x H I1 ru ⟨rfl, fun ys hy => by rw [I.list_inj hy hq]; exact hx⟩ st' (fun b hb => (hf b hb).1))))
  done := by
    intro X hP hw hK hc i pins s σ H E I hf st hg
    subst hP hw hK
    obtain ⟨xs, hq, hx⟩ := hg
    obtain ⟨its, rv, p, hz⟩ := I.list hq
    obtain ⟨f0, f1, f2, f3, f4, f5⟩ := hf it (by simp)
    have hl := rv.length
    exact wpAny_pyNext_list_end (I.ok.hd hc) st p.isList (by simp; exact o8836e hx hl) fun h' eb => ⟨rfl, I.turned (t' := s.toks) (fun b o hb e => eb b o hb e) f0 f1 f3 f4 f5⟩
  self := fun _ _ _ _ _ st h => wpAny_pyIter_listiter st h
theorem j8h {P : Program} {w : World} {K : PySem.W.Frag} {tg : Expr} (it : Addr) (lo : Int) (n : Nat) : Turn P w K tg (Itr lo n) [it] it (fun i h => IsRangeIter h it (lo + (i : Nat) * 1) ((n : Int) - (i : Nat)) 1) where
  mem := by simp
  obj := fun i h st b hb => by
    have e : b = it := by simpa using hb
    subst e
    exact (x9614 _ st (fun v z => by
      have z' : Data.fields _ = Data.cell v := z
      cases z'))
  keep := fun i h h' st k => k it (by simp) _ st
  item := by
    intro X hP hw hK hc i pins s σ H E I hf st hg
    subst hP hw hK
    obtain ⟨f0, f1, f2, f3, f4, f5⟩ := hf it (by simp)
    have W := Walks.range (prog := X.prog) (w := X.w) (I.ok.hd hc) it lo 1 n
    refine W.item i s _ _ hg st fun v h' tk hv st' kk => ?_
    obtain ⟨t, rfl⟩ := hv
    have I1 : Inv X pins σ H { s with heap := h', toks := tk } := I.turned (fun b o hb e => kk b o (by simpa using hb) e) f0 f1 f3 f4 f5
    refine (x9614 _ rfl (go_of (s := { s with heap := h', toks := tk }) (n := "range_iterator") st' rfl rfl (by decide) (x6c4f (.int (lo + i)) H I1 ⟨t, ?_⟩ ⟨rfl, rfl⟩ st' (fun b hb => (hf b hb).1))))
    rw [Int.mul_one]
  done := by
    intro X hP hw hK hc i pins s σ H E I hf st hg
    subst hP hw hK
    obtain ⟨f0, f1, f2, f3, f4, f5⟩ := hf it (by simp)
    exact wpAny_pyNext_range_end (I.ok.hd hc) st (by have : n ≤ i := hg; exact o661b4 this) fun h' eb => ⟨rfl, I.turned (t' := s.toks) (fun b o hb e => eb b o hb e) f0 f1 f3 f4 f5⟩
  self := fun _ _ _ _ _ st h => wpAny_pyIter_rangeiter st h
end L2
namespace L2
open PySem PySem.Spec PyProof.Rows
section
variable {X : Cx} {tg : Expr}
noncomputable def iList (K : PySem.W.Frag) (tl : TE) : TI := fun σ H R => tl σ H fun x H1 => ∃ a, x = .ref a ∧ (∃ xs, SqL K H1 a xs) ∧ R (Itl K a) H1
noncomputable def iTup (K : PySem.W.Frag) (tl : TE) : TI := fun σ H R => tl σ H fun x H1 => ∃ a, x = .ref a ∧ (∃ xs, SqT K H1 a xs) ∧ R (Itt K a) H1
theorem j26 {l : Expr} {tl : TE} (hl : PE X l tl) : PI X tg l (iList X.K tl) := by
  intro pins s σ H R I h
  refine thn (hl pins s σ H _ I h) fun v s1 ⟨x, H1, I1, r1, q1⟩ => ?_
  obtain ⟨a, e, ⟨xs, hq⟩, q⟩ := q1
  subst e
  cases r1
  obtain ⟨its, rv, p, hz⟩ := I1.list hq
  refine wpAny_pyIter_list p.isList ?_
  refine (x5a1f s1.heap.objs.size [s1.heap.objs.size] _ _ H1 rfl (I1.kept (t' := s1.toks) fun b o e => Heap.get?_push_of_some _ e) (j9i a _) (x0c0c _ (Heap.get?_push_size _ rfl) rfl rfl) (fun b hb => ?_) q)
  have e : b = s1.heap.objs.size := by simpa using hb
  subst e
  exact I1.fpOk (Nat.le_refl _) (I1.hok.fresh (Nat.le_refl _))
theorem range_it {pins : List (Addr × Obj)} {σ : St} {H : Hp} {s : Shared} {R : It → Hp → Prop} {E : Value → Shared → Prop} {lo hi : Int} {t u v : Tok} {tk : Nat} (I : Inv X pins σ H s) (h1 : -(2 ^ 62) ≤ lo) (h2 : lo < 2 ^ 62) (h3 : -(2 ^ 62) ≤ hi) (h4 : hi < 2 ^ 62)
    (q : R (Itr lo (hi - lo).toNat) H) : wpAny (model X.prog X.w) X.A (pyIter (.ref s.heap.objs.size)) (PIE X pins σ tg R) E { s with heap := s.heap.push { cls := .type "range", data := .fields #[.int lo t, .int hi u, .int 1 v] }, toks := tk } := by
  refine wpAny_pyIter_range (IsRange.new ..) (small_one h1 h2 h3 h4) ?_
  have I1 : Inv X pins σ H { s with heap := s.heap.push { cls := .type "range", data := .fields #[.int lo t, .int hi u, .int 1 v] }, toks := tk } := I.kept fun b o e => Heap.get?_push_of_some _ e
  refine (x5a1f ((s.heap.push { cls := .type "range", data := .fields #[.int lo t, .int hi u, .int 1 v] }).objs.size) [(s.heap.push { cls := .type "range", data := .fields #[.int lo t, .int hi u, .int 1 v] }).objs.size] _ _ H rfl
    (I1.kept (t' := tk) fun b o e => Heap.get?_push_of_some _ e) (j8h _ lo (hi - lo).toNat) ?_ (fun b hb => ?_) q)
  · have e1 : lo + ((0 : Nat) : Int) * 1 = lo := by simp
    have e2 : (((hi - lo).toNat : Nat) : Int) - ((0 : Nat) : Int) = Builtin.Range.rangeSize lo hi 1 := by rw [rangeSize_one]; split <;> omega
    show IsRangeIter _ _ (lo + ((0 : Nat) : Int) * 1) ((((hi - lo).toNat : Nat) : Int) - ((0 : Nat) : Int)) 1
    rw [e1, e2]
    exact Heap.get?_push_size _ rfl
  have e : b = (s.heap.push { cls := .type "range", data := .fields #[.int lo t, .int hi u, .int 1 v] }).objs.size := by simpa using hb
  subst e
  exact I1.fpOk (Nat.le_refl _) (I1.hok.fresh (Nat.le_refl _))
noncomputable def iRng1 (ta : TA) : TI := fun σ H R => ta σ H fun vs H1 => ∃ j : Int, vs = [.int j] ∧ -(2 ^ 62) ≤ j ∧ j < 2 ^ 62 ∧ R (Itr 0 j.toNat) H1
noncomputable def iRng2 (ta : TA) : TI := fun σ H R => ta σ H fun vs H1 => ∃ i j : Int, vs = [.int i, .int j] ∧ (-(2 ^ 62) ≤ i ∧ i < 2 ^ 62 ∧ -(2 ^ 62) ≤ j ∧ j < 2 ^ 62) ∧ R (Itr i (j - i).toNat) H1
theorem j2g {a : Expr} {ta : TA} {p pos : Pos} (hg : Gl X "range") (hm : X.mg "range" = none) (ha : PA X [a] ta) (hs : starEach [a] X.env = [(false, eval a X.env)] := by rfl) : PI X tg (.Call (.Name "range" p) [a] [] pos) (iRng1 ta) := by
  intro pins s σ H R I h
  refine Call_ (j2r I hg hm boot_range (PyProof.Rows.callWith_type1 (thn (ha pos pins s σ H _ I h) fun us s1 ⟨vs, H1, I1, r1, q1⟩ => ?_) hs rfl))
  obtain ⟨j, e, q1, q2, q⟩ := q1
  subst e
  cases r1 with
  | cons r rr =>
    cases rr
    obtain ⟨t, rfl⟩ := r
    exact call_range_1 (range_it I1 (by omega) (by omega) q1 q2 (by simpa using q))
noncomputable def tFor (wi : TI) (g : TG) (tb : TS) : TS := fun D σ H => wi σ H fun J H1 => ∃ W : Nat → Nat → St → Hp → Prop, (∃ m, W 0 m σ H1) ∧ ∀ i m σ H, W i m σ H →
  (J.stop i H ∧ D.nx σ H) ∨ (J.go i H ∧ ∃ N : St → Hp → Prop, (∀ σ' H', N σ' H' → ∃ m', m' < m ∧ W (i + 1) m' σ' H') ∧ ∀ x H', J.yld i H x H' → g x σ H' fun σ2 H2 => tb { D with nx := N, ct := N, bk := D.nx } σ2 H2)
noncomputable def j5r (fp : List Addr) (h : Heap) : List (Addr × Obj) := fp.filterMap fun b => (h.get? b).map fun o => (b, o)
theorem j2n {fp : List Addr} {h : Heap} {b : Addr} {o : Obj} (hb : b ∈ fp) (e : h.get? b = some o) : (b, o) ∈ j5r fp h := List.mem_filterMap.mpr (x9614 b hb (by rw [e]; rfl))
theorem j9j {fp : List Addr} {h : Heap} {p : Addr × Obj} (hp : p ∈ j5r fp h) : p.1 ∈ fp ∧ h.get? p.1 = some p.2 := by
  obtain ⟨b, hb, e⟩ := List.mem_filterMap.mp hp
  cases q : h.get? b with
  | none => rw [q] at e; cases e
  | some o =>
    rw [q] at e
    have e' : (b, o) = p := Option.some.inj e
    subst e'
    exact ⟨hb, q⟩
theorem Inv.pinned {pins : List (Addr × Obj)} {σ : St} {H : Hp} {s : Shared} {fp : List Addr} (I : Inv X pins σ H s) (hf : ∀ b ∈ fp, FpOk X pins H b) (ho : ∀ b ∈ fp, ∃ o, s.heap.get? b = some o ∧ ∀ v, o.data ≠ .cell v) : Inv X (pins ++ j5r fp s.heap) σ H s :=
  I.pins_of fun p hp => (List.mem_append.mp hp).elim (fun z => I.pin p (List.mem_append_right _ z)) fun z => by
    obtain ⟨hb, e⟩ := j9j z
    obtain ⟨f0, f1, f2, _⟩ := hf p.1 hb
    obtain ⟨o, e', d⟩ := ho p.1 hb
    rw [e] at e'; cases e'
    exact (x0988 e f0 f1 f2 d)
theorem Inv.unpinned {pins pl : List (Addr × Obj)} {σ : St} {H : Hp} {s : Shared} (I : Inv X (pins ++ pl) σ H s) : Inv X pins σ H s := I.pins_of fun p hp => I.pin p (List.mem_append_right _ (List.mem_append_left _ hp))
theorem j21 {iter : Expr} {body : List Stmt} {wi : TI} {g : TG} {tb : TS} {pos : Pos} (hp : PassesOwn (model X.prog X.w) X.A X.env X.xe) (hc : X.calm = true) (hi : PI X tg iter wi) (hg : PG X tg g) (hb : PSs X body tb)
    (hs : ∀ x, foldedSetIterable iter X.env x = pure x := by intro _; rfl) : PS X (.For tg iter body [] pos) (tFor wi g tb) := by
  intro pins s σ H D I h
  refine wpAny_For (thn (hi pins s σ H _ I h) fun v s1 h1 => thn h1 fun itv s2 h2 => ?_) hs
  obtain ⟨it, fp, tn, J, H2, e, I2, T, st2, f2, W, ⟨m0, w0⟩, turn⟩ := h2
  subst e
  have stat : ∀ {H' : Hp}, (∀ b ∈ fp, H' b = none) → ∀ b ∈ fp, FpOk X pins H' b := fun hn b hb => ⟨hn b hb, (f2 b hb).2⟩
  refine codeAny_forLoop_any (fun n s' => ∃ i σ' H', Inv X pins σ' H' s' ∧ tn i s'.heap ∧ (∀ b ∈ fp, H' b = none) ∧ W i n σ' H') ?_ m0 (x18c7 0 σ H2 I2 st2 (fun b hb => (f2 b hb).1) w0)
  rintro n s3 ⟨i, σ3, H3, I3, st3, fr3, w3⟩
  rcases turn i n σ3 H3 w3 with ⟨stop, qn⟩ | ⟨go, N, hN, step⟩
  · refine wpAny_passesOwn hp (thn (T.done X rfl rfl rfl hc i pins s3 σ3 H3 X.xe I3 (stat fr3) st3 stop) fun r s4 ⟨hr, I4⟩ => ?_)
    subst hr
    exact wpAny_execs_nil (x90aa σ3 H3 I4 qn)
  refine wpAny_passesOwn hp (thn (T.item X rfl rfl rfl hc i pins s3 σ3 H3 X.xe I3 (stat fr3) st3 go) fun r s4 ⟨u, hr, h4⟩ => ?_)
  subst hr
  refine wpAny_passesOwn hp (thn h4 fun _ s5 ⟨x, H5, I5, r5, y5, st5, fr5⟩ => ?_)
  have I5' := I5.pinned (stat fr5) (T.obj _ _ st5)
  refine wpAny_passesOwn hp (thn (hg _ s5 σ3 H5 x u _ I5' r5 (step x H5 y5)) fun _ s6 ⟨σ6, H6, I6, q6⟩ => ?_)
  refine wpAny_passesOwn hp (thn (hb _ s6 σ6 H6 _ I6 q6) fun f s7 q7 => ?_)
  have again : ∀ {σ7 : St} {H7 : Hp}, Inv X (pins ++ j5r fp s5.heap) σ7 H7 s7 → N σ7 H7 → ∃ m, m < n ∧ ∃ i σ' H', Inv X pins σ' H' s7 ∧ tn i s7.heap ∧ (∀ b ∈ fp, H' b = none) ∧ W i m σ' H' := fun {σ7 H7} I7 n7 => by
    obtain ⟨m', hm, w7⟩ := hN σ7 H7 n7
    refine (xf1da m' hm (i + 1) σ7 H7 I7.unpinned (T.keep _ _ _ st5 fun b hb o e => (I7.pin (b, o) (List.mem_append_right _ (List.mem_append_right _ (j2n hb e)))).1) (fun b hb => ?_) w7)
    obtain ⟨o, e, d⟩ := T.obj _ _ st5 b hb
    exact (I7.pin (b, o) (List.mem_append_right _ (List.mem_append_right _ (j2n hb e)))).2.1
  cases f with
  | next => obtain ⟨σ7, H7, I7, n7⟩ := q7; exact again I7 n7
  | cont => obtain ⟨σ7, H7, I7, n7⟩ := q7; exact again I7 n7
  | brk => obtain ⟨σ7, H7, I7, q7⟩ := q7; exact (x90aa σ7 H7 I7.unpinned q7)
  | ret v => obtain ⟨x7, σ7, H7, I7, r7, q7⟩ := q7; exact (x0c51 x7 σ7 H7 I7.unpinned r7 q7)
end
theorem for_list {K : PySem.W.Frag} {a : Addr} {xs : List V} {g : TG} {tb : TS} {D : Ends} {σ : St} {H : Hp} (Pv : Nat → St → Hp → Prop) (h0 : Pv 0 σ H) (hl : ∀ i σ H, i ≤ xs.length → Pv i σ H → SqL K H a xs)
    (hs : ∀ i x σ H, xs[i]? = some x → Pv i σ H → g x σ H fun σ2 H2 => tb { D with nx := Pv (i + 1), ct := Pv (i + 1), bk := D.nx } σ2 H2) (hd : ∀ σ H, Pv xs.length σ H → D.nx σ H) :
    ∃ W : Nat → Nat → St → Hp → Prop, (∃ m, W 0 m σ H) ∧ ∀ i m σ H, W i m σ H →
      ((Itl K a).stop i H ∧ D.nx σ H) ∨ ((Itl K a).go i H ∧ ∃ N : St → Hp → Prop, (∀ σ' H', N σ' H' → ∃ m', m' < m ∧ W (i + 1) m' σ' H') ∧ ∀ x H', (Itl K a).yld i H x H' → g x σ H' fun σ2 H2 => tb { D with nx := N, ct := N, bk := D.nx } σ2 H2) := by
  refine (x9614 (fun i m σ H => m = xs.length - i ∧ i ≤ xs.length ∧ Pv i σ H) (x0c0c xs.length (by simp) (Nat.zero_le _) h0) ?_)
  rintro i m σ H ⟨rfl, hi, p⟩
  have q := hl i σ H hi p
  by_cases hlt : i < xs.length
  · refine .inr (x4c19 (x90aa xs (xs[i]) q (by simp [hlt])) (Pv (i + 1)) (fun σ' H' p' => (x5ff7 (xs.length - (i + 1)) (by exact o586b3 hlt) rfl hlt p')) (fun x H' y => ?_))
    obtain ⟨e, y⟩ := y
    subst e
    exact hs i x σ _ (y xs q) p
  have e : i = xs.length := by exact o4e44a hi hlt
  subst e
  exact .inl ⟨(x9614 xs q (Nat.le_refl _)), hd σ H p⟩
theorem j9k {lo : Int} {n : Nat} {g : TG} {tb : TS} {D : Ends} {σ : St} {H : Hp} (Pv : Nat → St → Hp → Prop) (h0 : Pv 0 σ H)
    (hs : ∀ i σ H, i < n → Pv i σ H → g (.int (lo + i)) σ H fun σ2 H2 => tb { D with nx := Pv (i + 1), ct := Pv (i + 1), bk := D.nx } σ2 H2) (hd : ∀ σ H, Pv n σ H → D.nx σ H) :
    ∃ W : Nat → Nat → St → Hp → Prop, (∃ m, W 0 m σ H) ∧ ∀ i m σ H, W i m σ H →
      ((Itr lo n).stop i H ∧ D.nx σ H) ∨ ((Itr lo n).go i H ∧ ∃ N : St → Hp → Prop, (∀ σ' H', N σ' H' → ∃ m', m' < m ∧ W (i + 1) m' σ' H') ∧ ∀ x H', (Itr lo n).yld i H x H' → g x σ H' fun σ2 H2 => tb { D with nx := N, ct := N, bk := D.nx } σ2 H2) := by
  refine (x9614 (fun i m σ H => m = n - i ∧ i ≤ n ∧ Pv i σ H) (x0c0c n (by simp) (Nat.zero_le _) h0) ?_)
  rintro i m σ H ⟨rfl, hi, p⟩
  by_cases hlt : i < n
  · refine .inr (x4c19 hlt (Pv (i + 1)) (fun σ' H' p' => (x5ff7 (n - (i + 1)) (by exact o586b3 hlt) rfl hlt p')) (fun x H' y => ?_))
    obtain ⟨e, y⟩ := y
    subst e y
    exact hs i σ _ hlt p
  have e : i = n := by exact o4e44a hi hlt
  subst e
  exact .inl ⟨Nat.le_refl _, hd σ H p⟩
theorem while_by {c : TT} {tb : TS} {D : Ends} {σ : St} {H : Hp} (Pv : St → Hp → Prop) (μ : St → Hp → Nat) (h0 : Pv σ H)
    (hs : ∀ σ H, Pv σ H → c σ H fun b H1 => if b = true then tb { D with nx := fun σ' H' => Pv σ' H' ∧ μ σ' H' < μ σ H, ct := fun σ' H' => Pv σ' H' ∧ μ σ' H' < μ σ H, bk := D.nx } σ H1 else D.nx σ H1)
    (mono : ∀ σ H Q Q', (∀ b H1, Q b H1 → Q' b H1) → c σ H Q → c σ H Q') : j9h c tb D σ H := by
  refine (x9614 (fun m σ H => m = μ σ H ∧ Pv σ H) (x9614 _ rfl h0) ?_)
  rintro m σ H ⟨rfl, p⟩
  refine mono σ H _ _ (fun b H1 q => ?_) (hs σ H p)
  cases b with
  | true => exact (x9614 _ (fun σ' H' ⟨p', l⟩ => (x0c0c _ l rfl p')) q)
  | false => exact q
end L2
namespace L2
open PySem PySem.Spec PyProof.Rows
abbrev R2 := V → V → Hp → VK → Prop
noncomputable def OpR (X : Cx) (f : Value → Value → Sem Value) (r : R2) : Prop :=
  ∀ (pins : List (Addr × Obj)) (s : Shared) (σ : St) (H : Hp) (x y : V) (v u : Value) (Q : VK), Inv X pins σ H s → RelV x v → RelV y u → r x y H Q →
    wpAny (model X.prog X.w) X.A (f v u) (EP X pins σ Q) X.xe s
noncomputable def UnR (X : Cx) (f : Value → Sem Value) (r : V → Hp → VK → Prop) : Prop :=
  ∀ (pins : List (Addr × Obj)) (s : Shared) (σ : St) (H : Hp) (x : V) (v : Value) (Q : VK), Inv X pins σ H s → RelV x v → r x H Q →
    wpAny (model X.prog X.w) X.A (f v) (EP X pins σ Q) X.xe s
noncomputable def j37 (X : Cx) (f : Value) (r : List V → Hp → VK → Prop) : Prop :=
  ∀ (pins : List (Addr × Obj)) (s : Shared) (σ : St) (H : Hp) (xs : List V) (us : List Value) (Q : VK), Inv X pins σ H s → Vals xs us → r xs H Q →
    wpAny (model X.prog X.w) X.A (call f us) (EP X pins σ Q) X.xe s
noncomputable def TruR (X : Cx) (r : V → Hp → (Bool → Hp → Prop) → Prop) : Prop :=
  ∀ (pins : List (Addr × Obj)) (s : Shared) (σ : St) (H : Hp) (x : V) (v : Value) (Q : Bool → Hp → Prop), Inv X pins σ H s → RelV x v → r x H Q →
    wpAny (model X.prog X.w) X.A (truthy v) (TP X pins σ Q) X.xe s
noncomputable def tOp (r : R2) (ta tb : TE) : TE := fun σ H Q => ta σ H fun x H1 => tb σ H1 fun y H2 => r x y H2 Q
noncomputable def tUn (r : V → Hp → VK → Prop) (ta : TE) : TE := fun σ H Q => ta σ H fun x H1 => r x H1 Q
noncomputable def rI (C : Int → Int → Prop) (g : Int → Int → V) : R2 := fun x y H Q => ∃ i j, x = .int i ∧ y = .int j ∧ C i j ∧ Q (g i j) H
noncomputable def rI0 (g : Int → Int → V) : R2 := fun x y H Q => ∃ i j, x = .int i ∧ y = .int j ∧ Q (g i j) H
noncomputable def rU (g : Int → V) : V → Hp → VK → Prop := fun x H Q => ∃ i, x = .int i ∧ Q (g i) H
section
variable {X : Cx} {a b c : Expr} {ta tb tc : TE} {pos : Pos}
theorem binT (ha : PE X a ta) (hb : PE X b tb) {pins : List (Addr × Obj)} {s : Shared} {σ : St} {H : Hp} {R : V → V → Hp → Prop} (I : Inv X pins σ H s)
    (h : ta σ H fun x H1 => tb σ H1 fun y H2 => R x y H2) {Q : Value → Shared → Prop} {f : Value → Value → Sem Value}
    (hf : ∀ v u s2 x y H2, Inv X pins σ H2 s2 → RelV x v → RelV y u → R x y H2 → wpAny (model X.prog X.w) X.A (f v u) Q X.xe s2) :
    wpAny (model X.prog X.w) X.A (eval a X.env) (fun v s₁ => wpAny (model X.prog X.w) X.A (eval b X.env) (fun u s₂ => wpAny (model X.prog X.w) X.A (f v u) Q X.xe s₂) X.xe s₁) X.xe s := by
  refine thn (ha pins s σ H _ I h) fun v s1 ⟨x, H1, I1, r1, q1⟩ => ?_
  refine thn (hb pins s1 σ H1 _ I1 q1) fun u s2 ⟨y, H2, I2, r2, q2⟩ => ?_
  exact hf v u s2 x y H2 I2 r1 r2 q2
theorem j0t {op : Operator} {r : R2} (ho : OpR X (binaryOp op) r) (ha : PE X a ta) (hb : PE X b tb) : PE X (.BinOp a op b pos) (tOp r ta tb) := by
  intro pins s σ H Q I h
  exact wpAny_BinOp (binT ha hb I h fun v u s2 x y H2 I2 rx ry q => ho pins s2 σ H2 x y v u Q I2 rx ry q)
theorem j6r {op : UnaryOp} {r : V → Hp → VK → Prop} (ho : UnR X (unaryOp op) r) (ha : PE X a ta) : PE X (.UnaryOp op a pos) (tUn r ta) := by
  intro pins s σ H Q I h
  exact UnaryOp_ (thn (ha pins s σ H _ I h) fun v s1 ⟨x, H1, I1, r1, q1⟩ => ho pins s1 σ H1 x v Q I1 r1 q1)
theorem opI {f : Value → Value → Sem Value} {C : Int → Int → Prop} {g : Int → Int → Int}
    (rule : ∀ (i j : Int) (t u : Tok) (s : Shared) (Q : Value → Shared → Prop) (E : Value → Shared → Prop), C i j → Q (.int (g i j) s.toks) { s with toks := s.toks + 1 } → wpAny (model X.prog X.w) X.A (f (.int i t) (.int j u)) Q E s) :
    OpR X f (rI C fun i j => .int (g i j)) := by
  intro pins s σ H x y v u Q I rx ry h
  obtain ⟨i, j, rfl, rfl, hc, q⟩ := h
  obtain ⟨t, rfl⟩ := rx
  obtain ⟨t', rfl⟩ := ry
  exact rule i j t t' s _ _ hc (xeb27 (.int (g i j)) H (I.tok _) ⟨_, rfl⟩ q)
theorem opI0 {f : Value → Value → Sem Value} {g : Int → Int → Int}
    (rule : ∀ (i j : Int) (t u : Tok) (s : Shared) (Q : Value → Shared → Prop) (E : Value → Shared → Prop), Q (.int (g i j) s.toks) { s with toks := s.toks + 1 } → wpAny (model X.prog X.w) X.A (f (.int i t) (.int j u)) Q E s) :
    OpR X f (rI0 fun i j => .int (g i j)) := by
  intro pins s σ H x y v u Q I rx ry h
  obtain ⟨i, j, rfl, rfl, q⟩ := h
  obtain ⟨t, rfl⟩ := rx
  obtain ⟨t', rfl⟩ := ry
  exact rule i j t t' s _ _ (xeb27 (.int (g i j)) H (I.tok _) ⟨_, rfl⟩ q)
theorem opB0 {f : Value → Value → Sem Value} {g : Int → Int → Bool}
    (rule : ∀ (i j : Int) (t u : Tok) (s : Shared) (Q : Value → Shared → Prop) (E : Value → Shared → Prop), Q (.bool (g i j)) s → wpAny (model X.prog X.w) X.A (f (.int i t) (.int j u)) Q E s) :
    OpR X f (rI0 fun i j => .bl (g i j)) := by
  intro pins s σ H x y v u Q I rx ry h
  obtain ⟨i, j, rfl, rfl, q⟩ := h
  obtain ⟨t, rfl⟩ := rx
  obtain ⟨t', rfl⟩ := ry
  exact rule i j t t' s _ _ (xeb27 (.bl (g i j)) H I rfl q)
noncomputable def CDiv (i j : Int) : Prop := 0 < j ∧ j < 1073741824
noncomputable def CDivN (i j : Int) : Prop := j ≠ 0 ∧ j.natAbs < 1073741824
noncomputable def CPow (i j : Int) : Prop := 0 ≤ j ∧ j ≤ 1000000 ∧ i.natAbs < 2 ^ 64
noncomputable def CMul (i j : Int) : Prop := (-(2 ^ 64) < i ∧ i < 2 ^ 64) ∨ (-(2 ^ 64) < j ∧ j < 2 ^ 64)
theorem CMul.ok {i j : Int} (h : CMul i j) : IntMulOk i j := by
  rcases h with ⟨h1, h2⟩ | ⟨h1, h2⟩
  · exact .of_left (intBits_le_64 h1 h2)
  exact .of_right (intBits_le_64 h1 h2)
theorem j1e : OpR X (binaryOp .Add) (rI0 fun i j => .int (i + j)) := opI0 fun _ _ _ _ _ _ _ q => add_int q
theorem j2h : OpR X (binaryOp .Sub) (rI0 fun i j => .int (i - j)) := opI0 fun _ _ _ _ _ _ _ q => sub_int q
theorem j9l : OpR X (binaryOp .Mult) (rI CMul fun i j => .int (i * j)) := opI fun _ _ _ _ _ _ _ hc q => mul_int q hc.ok
theorem j6s : OpR X (binaryOp .FloorDiv) (rI CDiv fun i j => .int (i / j)) := opI fun i j _ _ _ _ _ hc q => by
  have h1 : (0 : Int) < j := hc.1
  have h2 : j < 1073741824 := hc.2
  exact floordiv_int (by exact o68af4 h1) (by rw [Int.fdiv_eq_ediv_of_nonneg i (by exact o219b5 h1)]; exact q) (.inl (PyProof.noPylong_small (by omega)))
theorem j3u : OpR X (binaryOp .Mod) (rI (fun _ j => 0 < j) fun i j => .int (i % j)) := opI fun i j _ _ _ _ _ hc q => by
  have h1 : (0 : Int) < j := hc
  exact mod_int' (by exact o68af4 h1) (by rw [Int.fmod_eq_emod_of_nonneg i (by exact o219b5 h1)]; exact q)
theorem unI {f : Value → Sem Value} {g : Int → Int}
    (rule : ∀ (i : Int) (t : Tok) (s : Shared) (Q : Value → Shared → Prop) (E : Value → Shared → Prop), Q (.int (g i) s.toks) { s with toks := s.toks + 1 } → wpAny (model X.prog X.w) X.A (f (.int i t)) Q E s) :
    UnR X f (rU fun i => .int (g i)) := by
  intro pins s σ H x v Q I rx h
  obtain ⟨i, rfl, q⟩ := h
  obtain ⟨t, rfl⟩ := rx
  exact rule i t s _ _ (xeb27 (.int (g i)) H (I.tok _) ⟨_, rfl⟩ q)
theorem j3v : UnR X (unaryOp .USub) (rU fun i => .int (-i)) := unI fun _ _ _ _ _ q => neg_int q
end
noncomputable def scal : V → V → Bool
  | .non, .non => true | .non, .int _ => true | .int _, .non => true | .non, .bl _ => true | .bl _, .non => true | .non, .str _ => true | .str _, .non => true
  | .int _, .int _ => true | .bl _, .bl _ => true | .str _, .str _ => true | .byt _, .byt _ => true
  | .int _, .str _ => true | .str _, .int _ => true | .bl _, .str _ => true | .str _, .bl _ => true
  | _, _ => false
noncomputable def rEq : R2 := fun x y H Q => scal x y = true ∧ Q (.bl (decide (x = y))) H
noncomputable def rNe : R2 := fun x y H Q => scal x y = true ∧ Q (.bl (!decide (x = y))) H
theorem j9m {i j : Int} : decide (V.int i = V.int j) = (i == j) := by
  rw [Bool.eq_iff_iff]
  simp
theorem dec_bl {i j : Bool} : decide (V.bl i = V.bl j) = (i == j) := by
  rw [Bool.eq_iff_iff]
  simp
theorem j9n {i j : Str} : decide (V.str i = V.str j) = (i == j) := by
  rw [Bool.eq_iff_iff]
  simp
theorem j9o {i j : Array UInt8} : decide (V.byt i = V.byt j) = (i.toList == j.toList) := by
  rw [Bool.eq_iff_iff]
  cases i
  cases j
  simp
section
variable {X : Cx} {a b c : Expr} {ta tb tc : TE} {pos : Pos}
theorem j0s {pins : List (Addr × Obj)} {σ : St} {H : Hp} {s : Shared} {Q : VK} {k k' : Bool} (I : Inv X pins σ H s) (q : Q (.bl k) H) (e : k = k') : EP X pins σ Q (.bool k') s := by
  subst e
  exact (xeb27 (.bl k) H I rfl q)
theorem j9p : OpR X (compareOp .Eq) rEq := by
  intro pins s σ H x y v u Q I rx ry h
  obtain ⟨hs, q⟩ := h
  cases x with
  | non =>
    cases rx
    cases y with
    | non => cases ry; exact PySem.EqNone.eq_none_none (j0s I q (by simp))
    | bl j => cases ry; exact PySem.EqNone.eq_none_bool (j0s I q (by simp))
    | int j => obtain ⟨t', rfl⟩ := ry; exact PySem.EqNone.eq_none_int (j0s I q (by simp))
    | str j => obtain ⟨t', rfl⟩ := ry; exact PySem.EqNone.eq_none_str (j0s I q (by simp))
    | _ => exact absurd (show false = true from hs) Bool.false_ne_true
  | bl i =>
    cases rx
    cases y with
    | non => cases ry; exact PySem.EqNone.eq_bool_none (j0s I q (by simp))
    | bl j => cases ry; exact eq_bool (j0s I q dec_bl)
    | str j => obtain ⟨t', rfl⟩ := ry; exact PySem.EqMixed.eq_bool_str (j0s I q (by simp))
    | _ => exact absurd (show false = true from hs) Bool.false_ne_true
  | int i =>
    obtain ⟨t, rfl⟩ := rx
    cases y with
    | non => cases ry; exact PySem.EqNone.eq_int_none (j0s I q (by simp))
    | int j => obtain ⟨t', rfl⟩ := ry; exact eq_int (j0s I q j9m)
    | str j => obtain ⟨t', rfl⟩ := ry; exact PySem.EqMixed.eq_int_str (j0s I q (by simp))
    | _ => exact absurd (show false = true from hs) Bool.false_ne_true
  | str i =>
    obtain ⟨t, rfl⟩ := rx
    cases y with
    | non => cases ry; exact PySem.EqNone.eq_str_none (j0s I q (by simp))
    | bl j => cases ry; exact PySem.EqMixed.eq_str_bool (j0s I q (by simp))
    | int j => obtain ⟨t', rfl⟩ := ry; exact PySem.EqMixed.eq_str_int (j0s I q (by simp))
    | str j => obtain ⟨t', rfl⟩ := ry; exact eq_str (j0s I q j9n)
    | _ => exact absurd (show false = true from hs) Bool.false_ne_true
  | byt i =>
    obtain ⟨t, rfl⟩ := rx
    cases y with
    | byt j => obtain ⟨t', rfl⟩ := ry; exact PySem.W.eq_bytes (j0s I q j9o)
    | _ => exact absurd (show false = true from hs) Bool.false_ne_true
  | _ => cases y <;> exact absurd (show false = true from hs) Bool.false_ne_true
theorem j52 : OpR X (compareOp .NotEq) rNe := by
  intro pins s σ H x y v u Q I rx ry h
  obtain ⟨hs, q⟩ := h
  cases x with
  | non =>
    cases rx
    cases y with
    | non => cases ry; exact PySem.EqNone.ne_none_none (j0s I q (by simp))
    | bl j => cases ry; exact PySem.EqNone.ne_none_bool (j0s I q (by simp))
    | int j => obtain ⟨t', rfl⟩ := ry; exact PySem.EqNone.ne_none_int (j0s I q (by simp))
    | str j => obtain ⟨t', rfl⟩ := ry; exact PySem.EqNone.ne_none_str (j0s I q (by simp))
    | _ => exact absurd (show false = true from hs) Bool.false_ne_true
  | bl i =>
    cases rx
    cases y with
    | non => cases ry; exact PySem.EqNone.ne_bool_none (j0s I q (by simp))
    | bl j => cases ry; exact ne_bool (j0s I q (congrArg not dec_bl))
    | str j => obtain ⟨t', rfl⟩ := ry; exact PySem.EqMixed.ne_bool_str (j0s I q (by simp))
    | _ => exact absurd (show false = true from hs) Bool.false_ne_true
  | int i =>
    obtain ⟨t, rfl⟩ := rx
    cases y with
    | non => cases ry; exact PySem.EqNone.ne_int_none (j0s I q (by simp))
    | int j => obtain ⟨t', rfl⟩ := ry; exact ne_int (j0s I q (congrArg not j9m))
    | str j => obtain ⟨t', rfl⟩ := ry; exact PySem.EqMixed.ne_int_str (j0s I q (by simp))
    | _ => exact absurd (show false = true from hs) Bool.false_ne_true
  | str i =>
    obtain ⟨t, rfl⟩ := rx
    cases y with
    | non => cases ry; exact PySem.EqNone.ne_str_none (j0s I q (by simp))
    | bl j => cases ry; exact PySem.EqMixed.ne_str_bool (j0s I q (by simp))
    | int j => obtain ⟨t', rfl⟩ := ry; exact PySem.EqMixed.ne_str_int (j0s I q (by simp))
    | str j => obtain ⟨t', rfl⟩ := ry; exact ne_str (j0s I q (congrArg not j9n))
    | _ => exact absurd (show false = true from hs) Bool.false_ne_true
  | byt i =>
    obtain ⟨t, rfl⟩ := rx
    cases y with
    | byt j => obtain ⟨t', rfl⟩ := ry; exact PySem.W.ne_bytes (j0s I q (congrArg not j9o))
    | _ => exact absurd (show false = true from hs) Bool.false_ne_true
  | _ => cases y <;> exact absurd (show false = true from hs) Bool.false_ne_true
theorem j6t : OpR X (compareOp .Lt) (rI0 fun i j => .bl (decide (i < j))) := opB0 fun _ _ _ _ _ _ _ q => lt_int q
theorem op_le : OpR X (compareOp .LtE) (rI0 fun i j => .bl (decide (i ≤ j))) := opB0 fun _ _ _ _ _ _ _ q => le_int q
theorem j5s : OpR X (compareOp .Gt) (rI0 fun i j => .bl (decide (j < i))) := opB0 fun _ _ _ _ _ _ _ q => gt_int q
theorem op_ge : OpR X (compareOp .GtE) (rI0 fun i j => .bl (decide (j ≤ i))) := opB0 fun _ _ _ _ _ _ _ q => ge_int q
noncomputable def isObj : HO → Bool
  | .lst _ => true
  | .ins _ _ _ => true
  | _ => false
theorem j0p (b : Expr) {op : CmpOp} (h : op ≠ .In := by decide) (h2 : op ≠ .NotIn := by decide) : behindInMarks op b = false := by
  have e1 : (op == CmpOp.In) = false := by cases op <;> first | rfl | exact absurd rfl h
  have e2 : (op == CmpOp.NotIn) = false := by cases op <;> first | rfl | exact absurd rfl h2
  cases b <;> simp [behindInMarks, e1, e2]
theorem j53 {op : CmpOp} {r : R2} (ho : OpR X (compareOp op) r) (ha : PE X a ta) (hb : PE X b tb) (hm : behindInMarks op b = false) : PE X (.Compare a [op] [b] pos) (tOp r ta tb) := by
  intro pins s σ H Q I h
  exact wpAny_Compare1 (binT ha hb I h fun v u s2 x y H2 I2 rx ry q => ho pins s2 σ H2 x y v u Q I2 rx ry q) hm
noncomputable def tTest (t : TE) : TT := fun σ H Q => t σ H fun x H' => ∃ k, x = .bl k ∧ Q k H'
theorem j0i {op : CmpOp} {r : R2} (ho : OpR X (compareOp op) r) (ha : PE X a ta) (hb : PE X b tb) (hm : behindInMarks op b = false) : PT X (.Compare a [op] [b] pos) (tTest (tOp r ta tb)) := by
  intro pins s σ H Q I h
  refine wpAny_isTrue_Compare1 (thn (ha pins s σ H _ I h) fun v s1 ⟨x, H1, I1, r1, q1⟩ => thn (hb pins s1 σ H1 _ I1 q1) fun u s2 ⟨y, H2, I2, r2, q2⟩ =>
    thn (ho pins s2 σ H2 x y v u _ I2 r1 r2 q2) fun c s3 ⟨z, H3, I3, r3, k, e, q3⟩ => ?_) hm
  subst e
  cases r3
  exact wpAny_truthy_bool (x9614 H3 I3 q3)
noncomputable def tChain (r r' : R2) (ta tb tc : TE) : TE := fun σ H Q => ta σ H fun x H1 => tb σ H1 fun y H2 => r x y H2 fun z H3 => ∃ k, z = .bl k ∧
  (if k = true then tc σ H3 fun w' H4 => r' y w' H4 Q else Q (.bl false) H3)
theorem j7q {op op' : CmpOp} {r r' : R2} (ho : OpR X (compareOp op) r) (ho' : OpR X (compareOp op') r') (ha : PE X a ta) (hb : PE X b tb) (hc : PE X c tc)
    (hm : lastMarks [op, op'] [b, c] = false := by with_unfolding_all rfl) : PE X (.Compare a [op, op'] [b, c] pos) (tChain r r' ta tb tc) := by
  intro pins s σ H Q I h
  refine Compare_chain (thn (ha pins s σ H _ I h) fun v s1 ⟨x, H1, I1, r1, q1⟩ => chain_link (thn (hb pins s1 σ H1 _ I1 q1) fun u s2 ⟨y, H2, I2, r2, q2⟩ =>
    thn (ho pins s2 σ H2 x y v u _ I2 r1 r2 q2) fun d s3 ⟨z, H3, I3, r3, k, e, q3⟩ => ?_)) hm
  subst e
  cases r3
  refine wpAny_truthy_bool ?_
  cases k with
  | false => exact ite_ff (xeb27 (.bl false) H3 I3 rfl q3)
  | true => exact ite_tt (chain_last (thn (hc pins s3 σ H3 _ I3 q3) fun w' s4 ⟨z', H4, I4, r4, q4⟩ => ho' pins s4 σ H4 y z' u w' Q I4 r2 r4 q4))
noncomputable def TruV (K : PySem.W.Frag) (x : V) (H : Hp) (k : Bool) : Prop :=
  match x with
  | .non => k = false
  | .bl b => k = b
  | .int i => k = (i != 0)
  | .str y => y.length ≤ sizeLine ∧ k = ((y.length : Int) != 0)
  | .byt y => y.size ≤ sizeLine ∧ k = ((y.size : Int) != 0)
  | .ref p => (∃ xs, SqL K H p xs ∧ k = !xs.isEmpty) ∨ (∃ xs, SqT K H p xs ∧ k = !xs.isEmpty) ∨ ∃ kvs, H p = some (.dK kvs) ∧ k = !kvs.isEmpty
  | _ => False
theorem j8i {κ : Type} {kvs : List (κ × V)} {vs : List (κ × Value)} (r : KV kvs vs) : (!vs.isEmpty) = !kvs.isEmpty := by
  cases r <;> rfl
theorem j4s {xs : List V} {its : List Value} (r : Vals xs its) : (!its.toArray.isEmpty) = !xs.isEmpty := by
  cases r <;> simp
theorem j4t : (sizeLine : Nat) < 2 ^ 63 := by rw [sizeLine_eq]; decide
theorem tru_ok : TruR X (fun x H Q => ∃ k, TruV X.K x H k ∧ Q k H) := by
  intro pins s σ H x v Q I rx h
  obtain ⟨k, e, q⟩ := h
  have hl := j4t
  have hs : sizeLine = 16777216 := sizeLine_eq
  cases x with
  | non =>
    cases rx
    have e' : k = false := e
    subst e'
    exact truthy_none (x9614 H I q)
  | bl b =>
    cases rx
    have e' : k = b := e
    subst e'
    exact wpAny_truthy_bool (x9614 H I q)
  | int i =>
    obtain ⟨t, rfl⟩ := rx
    have e' : k = (i != 0) := e
    subst e'
    exact PySem.P.truthy_int (x9614 H I q)
  | str y =>
    obtain ⟨t, rfl⟩ := rx
    obtain ⟨hy, e'⟩ : y.length ≤ sizeLine ∧ k = ((y.length : Int) != 0) := e
    subst e'
    exact PySem.P.truthy_str (by omega) (x9614 H (I.tok _) q)
  | byt y =>
    obtain ⟨t, rfl⟩ := rx
    obtain ⟨hy, e'⟩ : y.size ≤ sizeLine ∧ k = ((y.size : Int) != 0) := e
    subst e'
    exact PySem.W.truthy_bytes (by exact oe2561 hs hy) (x9614 H (I.tok _) q)
  | ref p =>
    cases rx
    have e' : (∃ xs, SqL X.K H p xs ∧ k = !xs.isEmpty) ∨ (∃ xs, SqT X.K H p xs ∧ k = !xs.isEmpty) ∨ ∃ kvs, H p = some (.dK kvs) ∧ k = !kvs.isEmpty := e
    rcases e' with ⟨xs, hx, e'⟩ | ⟨xs, hx, e'⟩ | ⟨kvs, hx, e'⟩
    · subst e'
      obtain ⟨its, r, pl, hz⟩ := I.list hx
      have hlen := r.length
      exact wpAny_truthy_list pl.isList (by simp only [List.size_toArray]; omega) (x9614 H (I.tok _) (by rw [j4s r]; exact q))
    · subst e'
      obtain ⟨its, r, pl, hz⟩ := I.tuple hx
      have hlen := r.length
      exact truthy_tuple pl (by simp only [List.size_toArray]; omega) (x9614 H (I.tok _) (by rw [j4s r]; exact q))
    subst e'
    obtain ⟨hz, hS, vs, r, m⟩ : kvs.length ≤ sizeLine ∧ (p == sysModules) = false ∧ ∃ vs, KV kvs vs ∧ s.heap.DictOf (j6m X.prog X.w) p vs := I.hok p _ hx
    have hlen : kvs.length = vs.length := Paired.length r
    exact wpAny_truthy_dict hS m (by omega) (x9614 H (I.tok _) (by rw [j8i r]; exact q))
  | _ => exact (show False from e).elim
theorem pt_truth (ha : PE X a ta) (he : ∀ whole, isTrue a X.env whole = (do let v ← whole; standAt a.pos; holding [v] (truthy v))) :
    PT X a (fun σ H Q => ta σ H fun x H' => ∃ k, TruV X.K x H' k ∧ Q k H') := by
  intro pins s σ H Q I h
  exact isTrue_plain (thn (ha pins s σ H _ I h) fun v s1 ⟨x, H1, I1, r1, q1⟩ => tru_ok pins s1 σ H1 x v Q I1 r1 q1) (he _)
noncomputable def PlainIxT (b : Expr) : Prop := ∀ o i, subscripted b false o i = operate [o, i] (getItem o i)
theorem j2x {x : V} {us : List Value} (r : Vals [x] us) : ∃ u, us = [u] ∧ RelV x u := by
  cases r with
  | cons r1 r2 => cases r2; exact (x9614 _ rfl r1)
theorem vals2 {x y : V} {us : List Value} (r : Vals [x, y] us) : ∃ u w', us = [u, w'] ∧ RelV x u ∧ RelV y w' := by
  cases r with
  | cons r1 r2 =>
    cases r2 with
    | cons r3 r4 => cases r4; exact (xeb27 _ _ rfl r1 r3)
theorem j3m : j37 X (.builtin "abs") (fun xs H Q => ∃ i, xs = [.int i] ∧ Q (.int (if i < 0 then -i else i)) H) := by
  intro pins s σ H xs us Q I r h
  obtain ⟨i, rfl, q⟩ := h
  obtain ⟨u, rfl, t, rfl⟩ := j2x r
  exact call_abs_int fun u tk => (xeb27 (.int (if i < 0 then -i else i)) H (I.tok _) ⟨_, rfl⟩ q)
theorem j9q (hc : X.calm = true) : j37 X (.builtin "max") (fun xs H Q => ∃ i j, xs = [.int i, .int j] ∧ Q (.int (if j > i then j else i)) H) := by
  intro pins s σ H xs us Q I r h
  obtain ⟨i, j, rfl, q⟩ := h
  obtain ⟨u, w', rfl, ⟨t, rfl⟩, ⟨t', rfl⟩⟩ := vals2 r
  refine max_two_ints (I.ok.hd hc) fun h' tk k => (xeb27 _ H (I.kept k) ?_ q)
  by_cases hj : j > i
  · rw [if_pos hj, if_pos hj]; exact ⟨_, rfl⟩
  rw [if_neg hj, if_neg hj]; exact ⟨_, rfl⟩
theorem j9r (hc : X.calm = true) : j37 X (.builtin "min") (fun xs H Q => ∃ i j, xs = [.int i, .int j] ∧ Q (.int (if j < i then j else i)) H) := by
  intro pins s σ H xs us Q I r h
  obtain ⟨i, j, rfl, q⟩ := h
  obtain ⟨u, w', rfl, ⟨t, rfl⟩, ⟨t', rfl⟩⟩ := vals2 r
  refine min_two_ints (I.ok.hd hc) fun h' tk k => (xeb27 _ H (I.kept k) ?_ q)
  by_cases hj : j < i
  · rw [if_pos hj, if_pos hj]; exact ⟨_, rfl⟩
  rw [if_neg hj, if_neg hj]; exact ⟨_, rfl⟩
noncomputable def LenV (K : PySem.W.Frag) (x : V) (H : Hp) (n : Nat) : Prop :=
  match x with
  | .str y => y.length ≤ sizeLine ∧ n = y.length
  | .byt y => y.size ≤ sizeLine ∧ n = y.size
  | .ref p => (∃ xs, SqL K H p xs ∧ n = xs.length) ∨ ∃ xs, SqT K H p xs ∧ n = xs.length
  | _ => False
end
end L2
namespace L2
open PySem PySem.Spec PyProof.Rows
structure ObjM (h : Heap) (x dx C : Addr) (mA : Str → Option Value) : Prop where
  obj : h.get? x = some (PySem.W.instObj C dx)
  ns : h.Ns1 dx mA
  ne : dx ≠ x
theorem j9s {h : Heap} {dx : Addr} {mA : Str → Option Value} (n : h.Ns1 dx mA) : ∃ od, h.get? dx = some od ∧ ∀ name, PySem.W.lookIn name od = some (mA name) := by
  obtain ⟨o, es, ep, ho, hd, hk, _, hm⟩ := n
  refine (x9614 o ho (fun name => ?_))
  have e := hm name
  unfold nsFind findBy at e
  rw [← Array.find?_toList] at e
  unfold PySem.W.lookIn
  rw [hd]
  dsimp only
  split
  · rename_i y q
    rw [q] at e
    exact congrArg some e
  rename_i q
  rw [q] at e
  have a : es.toList.any (·.refKey) = false := by
    rw [List.any_eq_false]
    intro y hy
    obtain ⟨z, t, hkey⟩ := hk y (Array.mem_toList_iff.mp hy)
    simp [DictEntry.refKey, hkey]
  have a' : ¬ es.toList.any (·.refKey) = true := by rw [a]; exact Bool.false_ne_true
  rw [if_neg a']
  exact congrArg some e
theorem ObjM.look {h : Heap} {x dx C : Addr} {mA : Str → Option Value} (I : ObjM h x dx C mA) : ∃ od, PySem.W.InstAt h x (PySem.W.instObj C dx) C (some od) ∧ ∀ name, PySem.W.lookIn name od = some (mA name) :=
  let ⟨od, ho, hl⟩ := j9s I.ns
  (x9614 od ⟨I.obj, rfl, rfl, ho⟩ hl)
section
variable {prog : Program} {w : World} {A : Around} {E : Value → Shared → Prop} {s : Shared} {K : PySem.W.Frag} {x dx C f : Addr} {mA : Str → Option Value} {name : Str} {v : Value}
theorem set_map {ns : List Str} {Q : Unit → Shared → Prop} (X : K.In s.heap) (I : ObjM s.heap x dx C mA)
    (hs : PySem.W.findIn K (.ref C) "__setattr__" = some (some (.builtin "object.__setattr__"))) (hp : PySem.W.plainOver K C = true) (ht : PySem.W.takerIn K C name = some none) (hh : PySem.W.hasDictIn K C = true)
    (hw : PySem.Within mA ns) (hsz : ns.length ≤ sizeLine)
    (h : ∀ h', ObjM h' x dx C (fun y => if y = name then some v else mA y) → Heap.SameBut dx s.heap h' → Q () { s with heap := h', toks := s.toks + 2 }) :
    wpAny (model prog w) A (setAttr (.ref x) name v) Q E s := by
  obtain ⟨od, J, hl⟩ := I.look
  refine PySem.W.set_plain X J hs (PySem.W.osa_open (s := { s with toks := s.toks + 1 }) (r := none) X J hp ht fun b => ?_)
  obtain ⟨cd, hc, hd'⟩ := PySem.W.any_some hh
  have hx : s.heap.get? x = some ⟨.ref C, some dx, .plain, #[]⟩ := I.obj
  refine wpAny_bind (wpAny_pure (wpAny_bind (wpAny_bind (wpAny_loadPart hx (wpAny_bind (PySem.W.Looks.here (s := { s with toks := s.toks + 1 }) (PySem.W.looks_clsIn X hc) ?_))))))
  rw [hd']
  refine wpAny_pure (a := some dx) (wpAny_bind (wpAny_pure (wpAny_bind ?_)))
  refine wpAny_nsSet1 (s := { s with toks := s.toks + 1 }) I.ns fun h' hn2 hs2 => ?_
  obtain ⟨oD, esD, epD, hoD, hdD, hcD⟩ := hn2.count (PySem.Within.cons name v hw)
  refine wpAny_bind (wpAny_lookBehind hoD (by rw [hdD]; exact pastItsLine_dict (Nat.le_trans hcD (by rw [List.length_cons]; exact o43cf5 hsz))) ?_)
  exact wpAny_pure (h _ ⟨(hs2.2 _ (Ne.symm I.ne)).trans I.obj, hn2, I.ne⟩ hs2)
theorem make_map {R : Result → Shared → Prop} {vs : List Value} {kw : List (Str × Value)} (X : K.In s.heap) (hm : PySem.W.makesIn K C = true)
    (hi : PySem.W.findIn K (.ref C) "__init__" = some (some (.ref f))) (hf : PySem.W.typeIn K (.ref f) = some (.type "function"))
    (h : codeAny (model prog w) (A.under (.builtin "type.__call__" ⟨.ref C :: vs, kw⟩)) (.call (.ref f) ⟨.ref (s.heap.objs.size + 1) :: vs, kw⟩) (PySem.W.InitBack (s.heap.objs.size + 1) R)
      { s with heap := (s.heap.push PySem.W.emptyDict).push (PySem.W.instObj C s.heap.objs.size) }) :
    codeAny (model prog w) A (.call (.ref C) ⟨vs, kw⟩) R s := by
  obtain ⟨hh, g, d, t, os⟩ := s
  exact PySem.W.make_core (PySem.W.makes_of X hm) (PySem.W.looks_findIn X hi) (fun self => PySem.W.bind_fn X self hf) (.inl rfl) h
end
noncomputable def putF (f : Str) (v : V) : List (Str × V) → List (Str × V)
  | [] => [(f, v)]
  | (g, x) :: r => if g = f then (g, v) :: r else (g, x) :: putF f v r
theorem j3w (f g : Str) (v : V) : ∀ fs : List (Str × V), (putF f v fs).lookup g = if g = f then some v else fs.lookup g
  | [] => by
    show List.lookup g [(f, v)] = _
    by_cases h : g = f
    · have hb : (g == f) = true := beq_iff_eq.mpr h
      simp only [List.lookup, hb, if_pos h]
    have hb : (g == f) = false := beq_eq_false_iff_ne.mpr h
    simp only [List.lookup, hb, if_neg h]
  | (k, x) :: r => by
    have ih := j3w f g v r
    rw [show putF f v ((k, x) :: r) = (if k = f then (k, v) :: r else (k, x) :: putF f v r) from rfl]
    by_cases hk : k = f
    · rw [if_pos hk]
      by_cases h : g = k
      · have hb : (g == k) = true := beq_iff_eq.mpr h
        simp only [List.lookup, hb, if_pos (h.trans hk)]
      have hb : (g == k) = false := beq_eq_false_iff_ne.mpr h
      simp only [List.lookup, hb, if_neg (fun e : g = f => h (e.trans hk.symm))]
    rw [if_neg hk]
    by_cases h : g = k
    · have hb : (g == k) = true := beq_iff_eq.mpr h
      simp only [List.lookup, hb, if_neg (fun e : g = f => hk (h.symm.trans e))]
    have hb : (g == k) = false := beq_eq_false_iff_ne.mpr h
    simp only [List.lookup, hb]
    exact ih
theorem j3x (f : Str) (v : V) : ∀ fs : List (Str × V), f ∈ (putF f v fs).map (·.1) ∧ ∀ g, g ∈ fs.map (·.1) → g ∈ (putF f v fs).map (·.1)
  | [] => ⟨by simp [putF], fun g h => by simp at h⟩
  | (k, x) :: r => by
    obtain ⟨i1, i2⟩ := j3x f v r
    rw [show putF f v ((k, x) :: r) = (if k = f then (k, v) :: r else (k, x) :: putF f v r) from rfl]
    by_cases hk : k = f
    · rw [if_pos hk]
      subst hk
      exact ⟨by simp, fun g h => by simpa using h⟩
    rw [if_neg hk]
    refine ⟨?_, fun g h => ?_⟩
    · rw [List.map_cons]
      exact List.mem_cons_of_mem _ i1
    rw [List.map_cons] at h ⊢
    rcases List.mem_cons.mp h with e | e
    · exact List.mem_cons.mpr (.inl e)
    exact List.mem_cons_of_mem _ (i2 g e)
theorem j3y (f : Str) (v : V) : ∀ fs : List (Str × V), (putF f v fs).length ≤ fs.length + 1
  | [] => by simp [putF]
  | (k, x) :: r => by
    have ih := j3y f v r
    rw [show putF f v ((k, x) :: r) = (if k = f then (k, v) :: r else (k, x) :: putF f v r) from rfl]
    by_cases hk : k = f
    · rw [if_pos hk, List.length_cons, List.length_cons]; exact o80f77
    rw [if_neg hk, List.length_cons, List.length_cons]; exact o928fd ih
section
variable {P : Program} {w : World} {H H' : Hp} {h h' : Heap} {a C dx : Addr} {fs fs' : List (Str × V)}
theorem j9t (hok : HOk P w H h) (e : H a = some (.ins C dx fs)) : ∃ mA, ObjM h a dx C mA ∧ (∀ f, RelO (fs.lookup f) (mA f)) ∧ PySem.Within mA (fs.map (·.1)) ∧ fs.length ≤ 1000 ∧ H dx = some (.own a) := by
  obtain ⟨d, z, ne, ob, mA, n, r, q⟩ := (show j1z P w H h a (.ins C dx fs) from hok a _ e)
  exact (x7ea0 mA ⟨ob, n, ne⟩ r q z d)
end
structure Cls (K : PySem.W.Frag) (C : Addr) : Prop where
  pg : PySem.W.plainGet K C Str.empty = true
  hd : PySem.W.hasDictIn K C = true
  po : PySem.W.plainOver K C = true
  sa : PySem.W.findIn K (.ref C) "__setattr__" = some (some (.builtin "object.__setattr__"))
theorem Cls.get {K : PySem.W.Frag} {C : Addr} (c : Cls K C) (f : Str) : PySem.W.plainGet K C f = true := c.pg
noncomputable def j2s (K : PySem.W.Frag) (C : Addr) (f : Str) : Prop := PySem.W.findIn K (.ref C) f = some none
theorem j2s.taker {K : PySem.W.Frag} {C : Addr} {f : Str} (n : j2s K C f) : PySem.W.takerIn K C f = some none := by
  unfold PySem.W.takerIn
  rw [show PySem.W.findIn K (.ref C) f = some none from n]
  rfl
structure Con (K : PySem.W.Frag) (C : Addr) (f : Str) (v : V) (u : Value) : Prop where
  at_ : PySem.W.findIn K (.ref C) f = some (some u)
  rel : RelV v u
  get : PySem.W.specialIn K u "__get__" = some none
  cp : PySem.W.copiedNames.contains f = false
structure Meth (K : PySem.W.Frag) (C : Addr) (m : Str) (f : Addr) : Prop where
  at_ : PySem.W.findIn K (.ref C) m = some (some (.ref f))
  fn : PySem.W.isFn K (.ref f) = true
  kp : PySem.W.keepIn K (.ref f) = true
section
variable {X : Cx} {pins : List (Addr × Obj)} {σ : St} {H : Hp} {s : Shared} {a C dx : Addr} {fs : List (Str × V)} {f : Str} {v : V} {A : Around} {E : Value → Shared → Prop}
theorem j8j {y : V} {u : Value} {Q : Unit → Shared → Prop} (I : Inv X pins σ H s) (e : H a = some (.ins C dx fs)) (c : Cls X.K C) (n : j2s X.K C f) (hl : fs.length < 1000) (ry : RelV y u)
    (h : ∀ s', Inv X pins σ (upd H a (.ins C dx (putF f y fs))) s' → Q () s') : wpAny (model X.prog X.w) A (setAttr (.ref a) f u) Q E s := by
  obtain ⟨mA, O, r, wi, _, ho⟩ := j9t I.hok e
  have hz : (fs.map (·.1)).length ≤ sizeLine := by rw [List.length_map, sizeLine_eq]; exact od13a2 (by assumption)
  refine set_map I.kIn O c.sa c.po n.taker c.hd wi hz fun h' O' sb => h _ ?_
  have hd : ∃ o, h'.get? dx = some o := let ⟨o, _, _, e', _⟩ := O'.ns; ⟨o, e'⟩
  refine I.write (x := a) (e := dx) (by rw [e]; exact True.intro) (.inr ho) (fun b q hb z => (sb.2 b hb).trans z) hd ?_
  refine (x0988 (by rw [j0a O.ne]; exact ho) ?_ O.ne O'.obj (x0c0c _ O'.ns (fun g => ?_) (fun g hg => ?_)))
  · have := j3y f y fs; exact o82ee2 hl this
  · show RelO ((putF f y fs).lookup g) (if g = f then some u else mA g)
    rw [j3w]
    by_cases q : g = f
    · rw [if_pos q, if_pos q]; exact ry
    rw [if_neg q, if_neg q]; exact r g
  by_cases q : g = f
  · rw [q]; exact (j3x f y fs).1
  refine (j3x f y fs).2 g (wi g fun z => hg ?_)
  show (if g = f then some u else mA g) = none
  rw [if_neg q]; exact z
theorem Inv.made (I : Inv X pins σ H s) : Inv X pins σ (upd (upd H s.heap.objs.size (.own (s.heap.objs.size + 1))) (s.heap.objs.size + 1) (.ins C s.heap.objs.size []))
    { s with heap := (s.heap.push PySem.W.emptyDict).push (PySem.W.instObj C s.heap.objs.size) } := by
  have e1 : (s.heap.push PySem.W.emptyDict).get? s.heap.objs.size = some PySem.W.emptyDict := Heap.get?_push_size s.heap rfl
  have e2 : ((s.heap.push PySem.W.emptyDict).push (PySem.W.instObj C s.heap.objs.size)).get? (s.heap.objs.size + 1) = some (PySem.W.instObj C s.heap.objs.size) := by
    have := Heap.get?_push_size (s.heap.push PySem.W.emptyDict) (o := PySem.W.instObj C s.heap.objs.size) rfl
    rwa [Heap.size_push] at this
  have e3 : (s.heap.push PySem.W.emptyDict).Ns s.heap.objs.size (fun _ => none) := (x18c7 PySem.W.emptyDict (#[]) _ e1 rfl (fun e he => absurd he (by simp)) (fun _ => rfl))
  have I1 := I.laid (a := s.heap.objs.size) (o := .own (s.heap.objs.size + 1)) (h' := s.heap.push PySem.W.emptyDict) (t' := s.toks) (fun b u q => Heap.get?_push_of_some _ q) (Nat.le_refl _) ⟨_, e1⟩
  refine I1.laid (a := s.heap.objs.size + 1) (o := .ins C s.heap.objs.size []) (t' := s.toks) (fun b u q => Heap.get?_push_of_some _ q) (Nat.le_of_eq (Heap.size_push _ _)) ?_
  have ne : s.heap.objs.size ≠ s.heap.objs.size + 1 := Nat.ne_of_lt (Nat.lt_succ_self _)
  refine (x0988 (by rw [j0a ne, j04]) (Nat.zero_le _) ne e2 (x0c0c (fun _ => none) ((Heap.Ns1.of_empty e3).at fun o q => Heap.get?_push_of_some _ q) (fun _ => True.intro) (fun y hy => absurd rfl hy)))
end
noncomputable def tFld (K : PySem.W.Frag) (ta : TE) (f : Str) : TE := fun σ H Q => ta σ H fun x H1 => ∃ a C dx fs v, x = .ref a ∧ H1 a = some (.ins C dx fs) ∧ Cls K C ∧ j2s K C f ∧ fs.lookup f = some v ∧ Q v H1
noncomputable def tCon (K : PySem.W.Frag) (ta : TE) (f : Str) : TE := fun σ H Q => ta σ H fun x H1 => ∃ a C dx fs v u, x = .ref a ∧ H1 a = some (.ins C dx fs) ∧ Cls K C ∧ Con K C f v u ∧ fs.lookup f = none ∧ Q v H1
noncomputable def sFld (K : PySem.W.Frag) (ta tv : TE) (f : Str) : TS := fun D σ H => tv σ H fun y H1 => ta σ H1 fun x H2 => ∃ a C dx fs, x = .ref a ∧ H2 a = some (.ins C dx fs) ∧ Cls K C ∧ j2s K C f ∧ fs.length < 1000 ∧
  D.nx σ (upd H2 a (.ins C dx (putF f y fs)))
noncomputable def InOp (X : Cx) (op : Operator) (rd : V → V → Hp → VK → Prop) : Prop :=
  ∀ (pins : List (Addr × Obj)) (s : Shared) (σ : St) (H : Hp) (x y : V) (u v : Value) (Q : VK), Inv X pins σ H s → RelV x u → RelV y v → rd x y H Q → wpAny (model X.prog X.w) X.A (inplaceOp op u v) (EP X pins σ Q) X.xe s
noncomputable def sFldAug (K : PySem.W.Frag) (ta tv : TE) (rd : V → V → Hp → VK → Prop) (f : Str) : TS := fun D σ H => ta σ H fun x H1 => ∃ a C dx fs v, x = .ref a ∧ H1 a = some (.ins C dx fs) ∧ Cls K C ∧ j2s K C f ∧ fs.lookup f = some v ∧
  tv σ H1 fun y H2 => rd v y H2 fun z H3 => ∃ dx' fs', H3 a = some (.ins C dx' fs') ∧ fs'.length < 1000 ∧ D.nx σ (upd H3 a (.ins C dx' (putF f z fs')))
section
variable {X : Cx} {o e value : Expr} {f : Str} {pos pos' tpos : Pos} {ta tv : TE}
theorem j7r (ha : PE X o ta) (hv : PE X value tv) (hs : swapsWith value (some (.Attribute o f pos')) pos.line X.env = pure false) : PS X (.Assign [.Attribute o f pos'] value pos) (sFld X.K ta tv f) := by
  intro pins s σ H D I h
  refine plainObj_wpAny_Assign_Attribute (thn (hv pins s σ H _ I h) fun u s1 ⟨y, H1, I1, ry, q⟩ => thn (ha pins s1 σ H1 _ I1 q) fun ov s2 ⟨x, H2, I2, rx, a, C, dx, fs, ex, ea, c, n, l, q2⟩ => ?_) hs
  subst ex
  obtain rfl : ov = Value.ref a := rx
  exact j8j I2 ea c n l ry fun s3 I3 => (x90aa σ _ I3 q2)
noncomputable def rAdd : V → V → Hp → VK → Prop := fun x y H Q => ∃ i j, x = .int i ∧ y = .int j ∧ Q (.int (i + j)) H
noncomputable def rSub : V → V → Hp → VK → Prop := fun x y H Q => ∃ i j, x = .int i ∧ y = .int j ∧ Q (.int (i - j)) H
end
section
variable {X : Cx} {pins : List (Addr × Obj)} {σ : St} {H : Hp} {s : Shared} {A : Around} {E : Value → Shared → Prop} {Q : Value → Shared → Prop} {c : Value} {b : Bool}
inductive TyOf (K : PySem.W.Frag) (H : Hp) : V → Value → Prop where
  | non : TyOf K H .non (.type "NoneType")
  | bl (x : Bool) : TyOf K H (.bl x) (.type "bool")
  | int (i : Int) : TyOf K H (.int i) (.type "int")
  | str (x : Str) : TyOf K H (.str x) (.type "str")
  | flt (x : UInt64) : TyOf K H (.flt x) (.type "float")
  | lst {a : Addr} {xs : List V} (e : H a = some (.lst xs)) : TyOf K H (.ref a) (.type "list")
  | frz {a : Addr} {o : Obj} {xs : List V} (e : H a = some (.frz o (.lst xs))) : TyOf K H (.ref a) (.type "list")
  | tup {a : Addr} {xs : List V} (e : H a = some (.tup xs)) : TyOf K H (.ref a) (.type "tuple")
  | dK {a : Addr} {kvs : List (Key × V)} (e : H a = some (.dK kvs)) : TyOf K H (.ref a) (.type "dict")
  | dT {a : Addr} {kvs : List (List Key × V)} (e : H a = some (.dT kvs)) : TyOf K H (.ref a) (.type "dict")
  | ins {a C dx : Addr} {fs : List (Str × V)} (e : H a = some (.ins C dx fs)) (cl : Cls K C) (ha : PySem.W.findIn K (.ref C) "__class__" = some (some (.builtin "object.__class__")))
      (hn : PySem.W.specialIn K (.builtin "object.__class__") "__get__" = some (some (.builtin "getset_descriptor.__get__"))) (htk : PySem.W.takesIn K (.builtin "object.__class__") = some true)
      (hm : PySem.W.mroIn K C (.type "object") = some true) : TyOf K H (.ref a) (.ref C)
theorem j9u {x : V} {u t : Value} (I : Inv X pins σ H s) (rx : RelV x u) (ty : TyOf X.K H x t) (e : PySem.W.kitOne X.K t c = some b) (h : ∀ tk, Q (.bool b) { s with toks := tk }) :
    wpAny (model X.prog X.w) A (call (.builtin "isinstance") [u, c]) Q E s := by
  cases ty with
  | non => cases (show u = Value.none from rx); exact PySem.W.kia_one PySem.W.kitx_none I.kIn True.intro e (fun z => nomatch z) h
  | bl y => cases (show u = Value.bool y from rx); exact PySem.W.kia_one PySem.W.kitx_bool I.kIn True.intro e (fun z => nomatch z) h
  | int i => obtain ⟨t, q⟩ := (show ∃ t, u = Value.int i t from rx); cases q; exact PySem.W.kia_one PySem.W.kitx_int I.kIn True.intro e (fun z => nomatch z) h
  | str y => obtain ⟨t, q⟩ := (show ∃ t, u = Value.str y t from rx); cases q; exact PySem.W.kia_one PySem.W.kitx_str I.kIn True.intro e (fun z => nomatch z) h
  | flt y => obtain ⟨t, q⟩ := (show ∃ t, u = Value.float y t from rx); cases q; exact PySem.W.kia_one PySem.W.kitx_float I.kIn True.intro e (fun z => nomatch z) h
  | @lst a xs ea =>
    cases (show u = Value.ref a from rx)
    obtain ⟨_, _, n, _, h1⟩ := (show j1z X.prog X.w H s.heap a (.lst xs) from I.hok a _ ea)
    exact PySem.W.kia_one PySem.W.kitx_list I.kIn (x9614 _ h1 rfl) e (fun z => nomatch z) h
  | @frz a ob xs ea =>
    cases (show u = Value.ref a from rx)
    obtain ⟨_, _, _, n, _, h1⟩ := (show j1z X.prog X.w H s.heap a (.frz ob (.lst xs)) from I.hok a _ ea)
    exact PySem.W.kia_one PySem.W.kitx_list I.kIn (x9614 _ h1 rfl) e (fun z => nomatch z) h
  | @tup a xs ea =>
    cases (show u = Value.ref a from rx)
    obtain ⟨_, _, _, p⟩ := (show j1z X.prog X.w H s.heap a (.tup xs) from I.hok a _ ea)
    obtain ⟨o, h1, h2, _⟩ := p
    exact PySem.W.kia_one PySem.W.kitx_tuple I.kIn (x9614 o h1 h2) e (fun z => nomatch z) h
  | @dK a kvs ea =>
    cases (show u = Value.ref a from rx)
    obtain ⟨_, _, vs, _, p⟩ := (show j1z X.prog X.w H s.heap a (.dK kvs) from I.hok a _ ea)
    obtain ⟨o, es, ep, h1, h2, _⟩ := p
    exact PySem.W.kia_one PySem.W.kitx_dict I.kIn (x9614 o h1 h2.1) e (fun z => nomatch z) h
  | @dT a kvs ea =>
    cases (show u = Value.ref a from rx)
    obtain ⟨_, _, xs, _, o, es, ep, h1, h2, _⟩ := (show j1z X.prog X.w H s.heap a (.dT kvs) from I.hok a _ ea)
    exact PySem.W.kia_one PySem.W.kitx_dict I.kIn (x9614 o h1 h2.1) e (fun z => nomatch z) h
  | @ins a C dx fs ea cl ha hn htk hm =>
    cases (show u = Value.ref a from rx)
    obtain ⟨mA, O, _⟩ := j9t I.hok ea
    obtain ⟨od, J, _⟩ := O.look
    exact PySem.W.kia_one (PySem.W.kitx_own (cl.get _) cl.hd ha hn htk hm) I.kIn J e (fun z => nomatch z) h
end
end L2
namespace L2
open PySem PySem.Spec PyProof.Rows
structure Room (k : Nat) (A : Around) : Prop where
  hd : A.handled = none
  dp : A.depth + 3 * k + 5 < recursionLimit
  un : A.units + 16 * k + 200 < cLine
theorem Room.mono {j k : Nat} {A : Around} (r : Room k A) (h : j ≤ k) : Room j A := ⟨r.hd, by have := r.dp; exact oae48e h this, by have := r.un; exact oe9bd2 h this⟩
theorem Room.deeper {k : Nat} {A : Around} (r : Room (k + 1) A) (env : Env) : Room k (A.deeper env) :=
  ⟨r.hd, by have := r.dp; show A.depth + 1 + 3 * k + 5 < _; exact o2ad14 this, by have := r.un; show A.units + 3 + 16 * k + 200 < _; exact od81d5 this⟩
theorem j8k {A : Around} {C : Addr} {us : List Value} {kw : List (Str × Value)} : (A.under (.builtin "type.__call__" ⟨.ref C :: us, kw⟩)).depth = A.depth + 1 := by
  first | rfl | simp [Around.under, Code.weight, Code.isCreation, Code.isGuard, Code.isCaller, Code.frames, Code.isFrame, guardIds]
theorem j8l {A : Around} {C : Addr} {us : List Value} {kw : List (Str × Value)} : (A.under (.builtin "type.__call__" ⟨.ref C :: us, kw⟩)).units = A.units + 1 := by
  first | rfl | simp [Around.under, Code.cUnits, Code.frames, Code.isFrame]
theorem Room.make {k : Nat} {A : Around} (r : Room (k + 1) A) (C : Addr) (us : List Value) (kw : List (Str × Value)) : Room k (A.under (.builtin "type.__call__" ⟨.ref C :: us, kw⟩)) :=
  ⟨r.hd, by have := r.dp; rw [j8k]; exact o2ad14 this, by have := r.un; rw [j8l]; exact o5c756 this⟩
theorem Room.depth {k : Nat} {A : Around} (r : Room k A) : A.depth < recursionLimit := by have := r.dp; exact oec0bb this
theorem Room.units {k : Nat} {A : Around} (r : Room k A) : A.units + 64 < cLine := by have := r.un; exact o686e8 this
theorem Room.units0 {k : Nat} {A : Around} (r : Room k A) : A.units < cLine := by have := r.un; exact o02afe this
noncomputable def tNil : TA := fun _ H Q => Q [] H
noncomputable def j6u (ta : TE) (tr : TA) : TA := fun σ H Q => ta σ H fun x H1 => tr σ H1 fun xs H2 => Q (x :: xs) H2
section
variable {X : Cx} {e : Expr} {es : List Expr} {te : TE} {t : TA} {pos : Pos}
theorem j02 : PA X [] tNil := fun _ _ _ _ H Q I h => Calls.spliced_nil (xeb27 [] H I (.nil) h)
theorem j00 (ha : PE X e te) (hr : PA X es t) (hs : starEach (e :: es) X.env = (false, eval e X.env) :: starEach es X.env := by rfl) : PA X (e :: es) (j6u te t) := by
  intro pos pins s σ H Q I h
  rw [hs]
  show wpAny _ _ (spliced ((false, eval e X.env) :: backTo pos (starEach es X.env))) _ _ s
  refine Calls.spliced_cons (thn (ha pins s σ H _ I h) fun u s1 ⟨x, H1, I1, r1, q1⟩ => ?_)
  exact thn (hr pos pins s1 σ H1 _ I1 q1) fun us s2 ⟨xs, H2, I2, r2, q2⟩ => (xeb27 (x :: xs) H2 I2 (.cons r1 r2) q2)
noncomputable def tTup (t : TA) : TE := fun σ H Q => t σ H fun xs H1 => xs.length ≤ sizeLine ∧ ∀ p, H1 p = none → Q (.ref p) (upd H1 p (.tup xs))
noncomputable def tLst (t : TA) : TE := fun σ H Q => t σ H fun xs H1 => xs.length ≤ sizeLine ∧ ∀ p, H1 p = none → Q (.ref p) (upd H1 p (.lst xs))
theorem j7s {x1} (h : PA X es t) : PE X (.Tuple es x1 pos) (tTup t) := by
  intro pins s σ H Q I hq
  refine wpAny_Tuple_spliced (thn (h pos pins s σ H _ I hq) fun us s1 ⟨xs, H1, I1, r, z, q⟩ => ⟨by rw [← r.length]; exact z, ?_⟩)
  have hf : H1 s1.heap.objs.size = none := I1.hok.fresh (Nat.le_refl _)
  refine (xeb27 (.ref s1.heap.objs.size) (upd H1 s1.heap.objs.size (.tup xs)) (I1.laid (t' := s1.toks) (fun b u e => Heap.get?_push_of_some _ e) (Nat.le_refl _) ?_) rfl (q _ hf))
  exact (x4c19 z us r (x6ef4 _ (Heap.get?_push_size _ rfl) rfl _ rfl))
theorem j2d (h : PA X es t) : PE X (.List es pos) (tLst t) := by
  intro pins s σ H Q I hq
  refine wpAny_List_spliced (thn (h pos pins s σ H _ I hq) fun us s1 ⟨xs, H1, I1, r, z, q⟩ => ⟨by rw [← r.length]; exact z, ?_⟩)
  have hf : H1 s1.heap.objs.size = none := I1.hok.fresh (Nat.le_refl _)
  refine (xeb27 (.ref s1.heap.objs.size) (upd H1 s1.heap.objs.size (.lst xs)) (I1.laid (t' := s1.toks) (fun b u e => Heap.get?_push_of_some _ e) (Nat.le_refl _) ?_) rfl (q _ hf))
  exact (xbaae z us 0 r (Heap.get?_push_size _ rfl))
end
abbrev Sp := List V → Hp → VK → XK → Prop
abbrev CXT := List Env → Hp → Shared → XK → Value → Shared → Prop
structure Env0 (P : Program) (w : World) (K : PySem.W.Frag) (mg : Str → Option Value) (base : Heap) (A : Around) (outer : List Env) (s : Shared) (H : Hp) : Prop where
  frames : A.frames = some outer
  mod : Mod K mg base
  bs : ∀ b o, base.get? b = some o → s.heap.get? b = some o ∧ H b = none
  bsz : base.objs.size ≤ s.heap.objs.size
  funs : s.heap.FunFrames base outer
  frf : ∀ b ∈ frs outer, H b = none
  hok : HOk P w H s.heap
  bare : AllBare s.gens
noncomputable def CE (outer : List Env) (P : Program) (w : World) (H : Hp) (s : Shared) (Q : VK) (u : Value) (s' : Shared) : Prop :=
  ∃ v H', s'.os = s.os ∧ AllBare s'.gens ∧ Un (frs outer) [] H H' s.heap s'.heap ∧ HOk P w H' s'.heap ∧ RelV v u ∧ Q v H'
noncomputable def CR (CX : CXT) (outer : List Env) (P : Program) (w : World) (H : Hp) (s : Shared) (Q : VK) (E : XK) (r : Result) (s' : Shared) : Prop :=
  match r with
  | .ok (.ret u) => CE outer P w H s Q u s'
  | .ok _ => False
  | .error e => CX outer H s E e s'
structure FnOk (P : Program) (w : World) (K : PySem.W.Frag) (mg : Str → Option Value) (base : Heap) (CX : CXT) (k : Nat) (f : Addr) (fd : FuncData) (ps : List Str) (sp : Sp) : Prop where
  len : ∀ vs H Q E, sp vs H Q E → vs.length = ps.length
  run : ∀ (A : Around) (outer : List Env) (s : Shared) (H : Hp) (args : Args) (us : List Value) (vs : List V) (Q : VK) (E : XK), Room k A → Env0 P w K mg base A outer s H → BindsTo s fd args (ps.zip us) → Vals vs us → sp vs H Q E →
    codeAny (model P w) A (.call (.ref f) args) (CR CX outer P w H s Q E) s
theorem Env0.make {P : Program} {w : World} {K : PySem.W.Frag} {mg : Str → Option Value} {base : Heap} {A : Around} {outer : List Env} {s : Shared} {H : Hp} (e : Env0 P w K mg base A outer s H) (C : Addr) (us : List Value) (kw : List (Str × Value)) :
    Env0 P w K mg base (A.under (.builtin "type.__call__" ⟨.ref C :: us, kw⟩)) outer s H := ⟨by first | exact e.frames | (simpa [Around.under, Code.envs, Code.isFrame, pushEnvs] using e.frames), e.mod, e.bs, e.bsz, e.funs, e.frf, e.hok, e.bare⟩
section
variable {X : Cx} {pins : List (Addr × Obj)} {σ : St} {H : Hp} {s s' : Shared}
theorem Inv.env0 (I : Inv X pins σ H s) : Env0 X.prog X.w X.K X.mg X.base X.A X.stack s H :=
  ⟨I.ok.frames, I.ok.mod, I.bs, Nat.le_trans I.ok.bsz I.sz, I.stack, I.stkFree, I.hok, I.bare⟩
theorem Inv.after {Q : VK} {u : Value} (I : Inv X pins σ H s) (h : CE X.stack X.prog X.w H s Q u s') : EP X pins σ Q u s' := by
  obtain ⟨v, H', os, bare, un, hok, r, q⟩ := h
  obtain ⟨hh, g, d, t, os'⟩ := s'
  obtain rfl : os' = s.os := os
  exact (xeb27 v H' (I.call (h' := hh) (g' := g) (d' := d) (t' := t) (ch := []) un hok bare (fun b z => absurd z (by simp))) r q)
end
noncomputable def tCall (sp : Sp) (dvs : List V) (E : XK) (t : TA) : TE := fun σ H Q => t σ H fun vs H1 => sp (vs ++ dvs) H1 Q E
noncomputable def tMeth (C : Addr) (m : Str) (sp : Sp) (dvs : List V) (E : XK) (ta : TE) (t : TA) : TE := fun σ H Q => ta σ H fun x H1 => ∃ a dx fs, x = .ref a ∧ H1 a = some (.ins C dx fs) ∧ fs.lookup m = none ∧
  t σ H1 fun vs H2 => sp (x :: (vs ++ dvs)) H2 Q E
noncomputable def tMake (C : Addr) (sp : Sp) (dvs : List V) (E : XK) (t : TA) : TE := fun σ H Q => t σ H fun vs H1 => ∀ x dx, H1 x = none → H1 dx = none → dx ≠ x →
  sp (.ref x :: (vs ++ dvs)) (upd (upd H1 dx (.own x)) x (.ins C dx [])) (fun v H2 => v = .non ∧ Q (.ref x) H2) E
noncomputable def j4l (K : PySem.W.Frag) (fd : FuncData) (ps : List Str) (ds : List Value) : Prop :=
  ∀ (s : Shared) (us : List Value), K.In s.heap → (us ++ ds).length = ps.length → BindsTo s fd ⟨us, []⟩ (ps.zip (us ++ ds))
theorem j4l.all {K : PySem.W.Frag} {fd : FuncData} {ps : List Str} (h : ∀ us : List Value, us.length = ps.length → bindArgs fd ⟨us, []⟩ = pure (ps.zip us)) : j4l K fd ps [] := fun s us _ hl => by
  rw [List.append_nil] at hl ⊢
  exact .of_eq (h us hl)
noncomputable def j5t (CX : CXT) (X : Cx) (E : XK) : Prop := ∀ (pins : List (Addr × Obj)) (σ : St) (H : Hp) (s : Shared) (e : Value) (s' : Shared), Inv X pins σ H s → CX X.stack H s E e s' → X.xe e s'
section
variable {X : Cx} {CX : CXT} {k : Nat} {f C : Addr} {fd : FuncData} {ps : List Str} {sp : Sp} {dvs : List V} {ds : List Value} {E : XK} {x m : Str} {p pos apos : Pos} {e o : Expr} {es : List Expr} {ta : TE} {t : TA}
theorem run_fn {pins : List (Addr × Obj)} {σ : St} {H : Hp} {s : Shared} {Q : VK} {us : List Value} {vs : List V} (F : FnOk X.prog X.w X.K X.mg X.base CX k f fd ps sp) (hr : Room k X.A) (hb : j4l X.K fd ps ds) (hd : Vals dvs ds) (hx : j5t CX X E)
    (I : Inv X pins σ H s) (r : Vals vs us) (h : sp (vs ++ dvs) H Q E) : wpAny (model X.prog X.w) X.A (call (.ref f) us) (EP X pins σ Q) X.xe s := by
  have r2 : Vals (vs ++ dvs) (us ++ ds) := r.append hd
  have hl : (us ++ ds).length = ps.length := by rw [← r2.length]; exact F.len _ _ _ _ h
  refine wpAny_call (codeAny_mono (F.run X.A X.stack s H ⟨us, []⟩ (us ++ ds) (vs ++ dvs) Q E hr I.env0 (hb s us I.kIn hl) r2 h) fun r s' hq => ?_)
  cases r with
  | error e => exact hx pins σ H s e s' I hq
  | ok fl =>
    cases fl with
    | ret u => exact I.after hq
    | next => exact False.elim hq
    | brk => exact False.elim hq
    | cont => exact False.elim hq
theorem pe_call (F : FnOk X.prog X.w X.K X.mg X.base CX k f fd ps sp) (hr : Room k X.A) (hg : Gl X x) (hm : X.mg x = some (.ref f)) (hk : PySem.W.keepIn X.K (.ref f) = true) (hb : j4l X.K fd ps ds) (hd : Vals dvs ds) (hx : j5t CX X E)
    (ha : PA X (e :: es) t) (hdb : (x == ("__debug__" : Str)) = false := by decide) (he : starEach (e :: es) X.env = (false, eval e X.env) :: starEach es X.env := by rfl) (hpl : (backTo pos (starEach es X.env)).any (·.1) = false := by rfl) :
    PE X (.Call (.Name x p) (e :: es) [] pos) (tCall sp dvs E t) := by
  intro pins s σ H Q I h
  refine wpAny_Call_Name_kw (j6o I hg hm ?_ hdb)
  refine PySem.W.callWith_K (h₀ := X.base) I.ok.mod.kin hk (thn (ha pos pins s σ H _ I h) fun us s1 ⟨vs, H1, I1, r, q⟩ => ⟨I1.kIn, ?_⟩) he hpl
  exact run_fn F hr hb hd hx I1 r q
structure Mk (K : PySem.W.Frag) (C f : Addr) : Prop where
  makes : PySem.W.makesIn K C = true
  init : PySem.W.findIn K (.ref C) "__init__" = some (some (.ref f))
  fn : PySem.W.isFn K (.ref f) = true
  kp : PySem.W.keepIn K (.ref C) = true
theorem run_make {pins : List (Addr × Obj)} {σ : St} {H : Hp} {s : Shared} {Q : VK} {us : List Value} {vs : List V} (M : Mk X.K C f) (F : FnOk X.prog X.w X.K X.mg X.base CX k f fd ps sp) (hr : Room (k + 1) X.A) (hb : j4l X.K fd ps ds) (hd : Vals dvs ds)
    (hx : j5t CX X E) (I : Inv X pins σ H s) (r : Vals vs us)
    (h : ∀ x dx, H x = none → H dx = none → dx ≠ x → sp (.ref x :: (vs ++ dvs)) (upd (upd H dx (.own x)) x (.ins C dx [])) (fun v H2 => v = .non ∧ Q (.ref x) H2) E) :
    wpAny (model X.prog X.w) X.A (call (.ref C) us) (EP X pins σ Q) X.xe s := by
  have hq := h (s.heap.objs.size + 1) s.heap.objs.size (I.hok.fresh (Nat.le_succ _)) (I.hok.fresh (Nat.le_refl _)) (Nat.ne_of_lt (Nat.lt_succ_self _))
  have I2 := Inv.made (C := C) I
  have r2 : Vals (V.ref (s.heap.objs.size + 1) :: (vs ++ dvs)) (Value.ref (s.heap.objs.size + 1) :: (us ++ ds)) := .cons rfl (r.append hd)
  have hl : (Value.ref (s.heap.objs.size + 1) :: us ++ ds).length = ps.length := by
    have e := r2.length
    rw [F.len _ _ _ _ hq] at e
    exact e.symm
  refine wpAny_call (make_map (f := f) I.kIn M.makes M.init (beq_iff_eq.mp M.fn) (codeAny_mono (F.run _ X.stack _ _ ⟨Value.ref (s.heap.objs.size + 1) :: us, []⟩ (Value.ref (s.heap.objs.size + 1) :: (us ++ ds)) _ _ E (hr.make C us [])
    (I2.env0.make C us []) (hb _ (Value.ref (s.heap.objs.size + 1) :: us) I2.kIn hl) r2 hq) fun r s' hq' => ?_))
  cases r with
  | error e => exact hx pins σ _ _ e s' I2 hq'
  | ok fl =>
    cases fl with
    | ret u =>
      obtain ⟨v, H', I3, rv, ev, q3⟩ := I2.after hq'
      subst ev
      exact ⟨rv, (xeb27 (V.ref (s.heap.objs.size + 1)) H' I3 rfl q3)⟩
    | next => exact False.elim hq'
    | brk => exact False.elim hq'
    | cont => exact False.elim hq'
theorem pe_make (M : Mk X.K C f) (F : FnOk X.prog X.w X.K X.mg X.base CX k f fd ps sp) (hr : Room (k + 1) X.A) (hg : Gl X x) (hm : X.mg x = some (.ref C)) (hb : j4l X.K fd ps ds) (hd : Vals dvs ds) (hx : j5t CX X E)
    (ha : PA X (e :: es) t) (hdb : (x == ("__debug__" : Str)) = false := by decide) (he : starEach (e :: es) X.env = (false, eval e X.env) :: starEach es X.env := by rfl) (hpl : (backTo pos (starEach es X.env)).any (·.1) = false := by rfl) :
    PE X (.Call (.Name x p) (e :: es) [] pos) (tMake C sp dvs E t) := by
  intro pins s σ H Q I h
  refine wpAny_Call_Name_kw (j6o I hg hm ?_ hdb)
  refine PySem.W.callWith_K (h₀ := X.base) I.ok.mod.kin M.kp (thn (ha pos pins s σ H _ I h) fun us s1 ⟨vs, H1, I1, r, q⟩ => ⟨I1.kIn, ?_⟩) he hpl
  exact run_make M F hr hb hd hx I1 r q
end
noncomputable def PK (X : Cx) (kws : List Keyword) (t : TA) : Prop :=
  ∀ (pos : Pos) (pins : List (Addr × Obj)) (s : Shared) (σ : St) (H : Hp) (Q : List V → Hp → Prop), Inv X pins σ H s → t σ H Q → wpAny (model X.prog X.w) X.A (evalAll ((backToKw pos (keywordEach kws X.env)).map (·.2))) (AP X pins σ Q) X.xe s
section
variable {X : Cx} {CX : CXT} {k : Nat} {f C : Addr} {fd : FuncData} {ps ks : List Str} {sp : Sp} {E : XK} {x m : Str} {p pos apos kpos : Pos} {e o : Expr} {es : List Expr} {kws : List Keyword} {te ta : TE} {t tk : TA} {nm : Option Str}
theorem pk_nil : PK X [] tNil := fun _ _ _ _ H Q I h => wpAny_evalAll_nil (xeb27 [] H I (.nil) h)
theorem j6v (ha : PE X e te) (hr : PK X kws t) : PK X (⟨nm, e, kpos⟩ :: kws) (j6u te t) := by
  intro pos pins s σ H Q I h
  show wpAny _ _ (evalAll ((do let v ← eval e X.env; standAt pos; pure v) :: (backToKw pos (keywordEach kws X.env)).map (·.2))) _ _ s
  refine wpAny_evalAll_cons (wpAny_bind (thn (ha pins s σ H _ I h) fun u s1 ⟨x, H1, I1, r1, q1⟩ => wpAny_bind (wpAny_standAt (wpAny_pure ?_))))
  exact thn (hr pos pins s1 σ H1 _ I1 q1) fun us s2 ⟨xs, H2, I2, r2, q2⟩ => (xeb27 (x :: xs) H2 I2 (.cons r1 r2) q2)
structure KBinds (K : PySem.W.Frag) (fd : FuncData) (ps ks : List Str) (g : List Value → List Value → List Value) (gV : List V → List V → List V) : Prop where
  to : ∀ (s : Shared) (us ws : List Value), K.In s.heap → (g us ws).length = ps.length → BindsTo s fd ⟨us, ks.zip ws⟩ (ps.zip (g us ws))
  rel : ∀ {vs : List V} {us : List Value} {zs : List V} {ws : List Value}, Vals vs us → Vals zs ws → Vals (gV vs zs) (g us ws)
noncomputable def tCallK (sp : Sp) (gV : List V → List V → List V) (E : XK) (t tk : TA) : TE := fun σ H Q => t σ H fun vs H1 => tk σ H1 fun zs H2 => sp (gV vs zs) H2 Q E
variable {g : List Value → List Value → List Value} {gV : List V → List V → List V}
end
structure FnScope (N P : List Str) (sc : Scope) : Prop where
  kind : sc.kind = .function
  co : sc.isCoroutine = false
  gen : sc.isGenerator = false
  nd : N.Nodup
  pre : N.take P.length = P
  par : ∀ x ∈ P, sc.names.lookup x = some .local ∨ sc.names.lookup x = some .cell
  nofree : ∀ y ∈ sc.names, y.2 ≠ .free
theorem j5u {kindOf : Str → Option NameKind} {x : Str} : ∀ {binds : List (Str × Value)} {m : Str → Option Value}, (∀ v, (x, v) ∉ binds) → bindL kindOf binds m x = m x
  | [], _, _ => rfl
  | (n, v) :: r, m, h => by
    unfold bindL
    rw [j5u fun w hw => h w (List.mem_cons_of_mem _ hw)]
    split
    · have : x ≠ n := by rintro rfl; exact h v List.mem_cons_self
      simp [this]
    rfl
theorem j5v {kindOf : Str → Option NameKind} {x : Str} : ∀ {binds : List (Str × Value)} {m : Str → Option Value}, (∀ v, (x, v) ∉ binds) → bindC kindOf binds m x = m x
  | [], _, _ => rfl
  | (n, v) :: r, m, h => by
    unfold bindC
    rw [j5v fun w hw => h w (List.mem_cons_of_mem _ hw)]
    split
    · rfl
    have : x ≠ n := by rintro rfl; exact h v List.mem_cons_self
    simp [this]
theorem j5w {kindOf : Str → Option NameKind} {x : Str} {v : Value} : ∀ {P : List Str} {vs : List Value} {i : Nat} {m : Str → Option Value}, P.Nodup → P[i]? = some x → vs[i]? = some v → kindOf x = some .local →
    bindL kindOf (P.zip vs) m x = some v
  | [], _, _, _, _, h, _, _ => by simp at h
  | _ :: _, [], _, _, _, _, h, _ => by simp at h
  | p :: P, w :: vs, 0, m, nd, h1, h2, hk => by
    simp at h1 h2; subst h1; subst h2
    show bindL kindOf ((p, w) :: P.zip vs) m p = _
    unfold bindL
    rw [j5u fun v hv => (List.nodup_cons.mp nd).1 (List.of_mem_zip hv).1, if_pos hk]
    simp
  | p :: P, w :: vs, i + 1, m, nd, h1, h2, hk => by
    show bindL kindOf ((p, w) :: P.zip vs) m x = _
    unfold bindL
    exact j5w (i := i) (List.nodup_cons.mp nd).2 (by simpa using h1) (by simpa using h2) hk
theorem j5x {kindOf : Str → Option NameKind} {x : Str} {v : Value} : ∀ {P : List Str} {vs : List Value} {i : Nat} {m : Str → Option Value}, P.Nodup → P[i]? = some x → vs[i]? = some v → kindOf x ≠ some .local →
    bindC kindOf (P.zip vs) m x = some v
  | [], _, _, _, _, h, _, _ => by simp at h
  | _ :: _, [], _, _, _, _, h, _ => by simp at h
  | p :: P, w :: vs, 0, m, nd, h1, h2, hk => by
    simp at h1 h2; subst h1; subst h2
    show bindC kindOf ((p, w) :: P.zip vs) m p = _
    unfold bindC
    rw [j5v fun v hv => (List.nodup_cons.mp nd).1 (List.of_mem_zip hv).1, if_neg hk]
    simp
  | p :: P, w :: vs, i + 1, m, nd, h1, h2, hk => by
    show bindC kindOf ((p, w) :: P.zip vs) m x = _
    unfold bindC
    exact j5x (i := i) (List.nodup_cons.mp nd).2 (by simpa using h1) (by simpa using h2) hk
noncomputable def start (N : List Str) (vs : List V) : St := vs.map some ++ List.replicate (N.length - vs.length) none
noncomputable def cxOf (CX : CXT) (P : Program) (w : World) (K : PySem.W.Frag) (mg : Str → Option Value) (base : Heap) (N : List Str) (qual : Str) (scope : Scope) (f : Addr) (cd : Value) (A : Around) (outer : List Env) (s : Shared) (H : Hp) (E : XK) : Cx where
  prog := P
  w := w
  K := K
  mg := mg
  base := base
  A := A.deeper (envOfC qual scope s.heap.objs.size f cd)
  N := N
  s₀ := s
  H₀ := H
  env := envOfC qual scope s.heap.objs.size f cd
  outer := outer
  stack := envOfC qual scope s.heap.objs.size f cd :: outer
  ex := []
  calm := true
  fn := fun _ => true
  pn := []
  xe := fun e s' => wpAny (model P w) (A.deeper (envOfC qual scope s.heap.objs.size f cd)) (leaving (envOfC qual scope s.heap.objs.size f cd) e) (fun _ s'' => CX outer H s E e s'') (fun e' s'' => CX outer H s E e' s'') s'
theorem j54 {sc : Scope} {n : Nat} {x : Str} (h : sc.names.lookup x = some .cell) : ∃ c, (cellsFrom n sc.names []).lookup x = some c := by
  have q := PySem.W.cellsFrom_some sc.names n [] (.inl h)
  exact Option.isSome_iff_exists.mp q
theorem j9v {CX : CXT} {P : Program} {w : World} {K : PySem.W.Frag} {mg : Str → Option Value} {base : Heap} {N ps : List Str} {qual : Str} {scope : Scope} {f : Addr} {cd : Value} {A : Around} {outer : List Env} {s s1 : Shared} {H : Hp} {E : XK} {us : List Value} {vs : List V}
    (S : FnScope N ps scope) (hd : A.handled = none) (e0 : Env0 P w K mg base A outer s H) (hl : vs.length = ps.length) (r : Vals vs us)
    (x : InCallC s s.heap.objs.size (bindL (envOfC qual scope s.heap.objs.size f cd).kindOf (ps.zip us) fun _ => none) (cellsFrom (s.heap.objs.size + 1) scope.names []) (bindC (envOfC qual scope s.heap.objs.size f cd).kindOf (ps.zip us) fun _ => none) s1) :
    Inv (cxOf CX P w K mg base N qual scope f cd A outer s H E) [] (start N vs) H s1 := by
  have hpl : ps.length ≤ N.length := by have := congrArg List.length S.pre; rw [List.length_take] at this; exact od28f3 this
  obtain ⟨h1, tk, rfl, hk⟩ := x.done
  have noA : ∀ b : Addr, b ∉ (cxOf CX P w K mg base N qual scope f cd A outer s H E).ex := fun b z => absurd (show b ∈ ([] : List Addr) from z) (by simp)
  refine ⟨⟨e0.mod, S.kind, rfl, rfl, Nat.le_refl _, fun y z c h1 h2 => ?_, fun y hy => ?_, fun y c _ h => ?_, fun _ => hd, Around.frames_deeper e0.frames, .inr ⟨rfl, rfl⟩, fun b z => absurd z (noA b), e0.bs, e0.bsz, fun b _ _ => noA b, fun b z => absurd z (noA b), e0.funs, e0.frf⟩,
    rfl, e0.bare, Un.kept hk, (x9614 _ x.toInCall.ns (fun i y v h1 h2 h3 => ?_)), fun y c h => ⟨_, x.cell y c h⟩, e0.hok.fresh (Nat.le_refl _), fun y c h => ?_, fun p hp => absurd (show p ∈ ([] : List (Addr × Obj)) from hp) (by simp), e0.hok.kept hk, ?_⟩
  · exact name_of_addr x.apart (PySem.mem_of_lookup h1) (PySem.mem_of_lookup h2)
  · have hy : scope.names.lookup y = some .cell ∨ scope.names.lookup y = some .free := hy
    rcases hy with hy | hy
    · exact j54 hy
    exact absurd rfl (S.nofree _ (PySem.mem_of_lookup hy))
  · exact Nat.le_of_lt (x.above y c (PySem.mem_of_lookup h))
  · have hi : i < vs.length := by
      unfold start at h2
      by_cases hi : i < vs.length
      · exact hi
      rw [List.getElem?_append_right (by simpa using hi)] at h2
      rw [List.getElem?_replicate] at h2
      split at h2 <;> cases h2
    have ha : vs[i]? = some v := by
      unfold start at h2
      rw [List.getElem?_append_left (by simpa using hi), List.getElem?_map] at h2
      cases e : vs[i]? with
      | none => rw [e] at h2; cases h2
      | some a => rw [e] at h2; cases h2; rfl
    obtain ⟨u, hu, rv⟩ := r.get ha
    have hp : ps[i]? = some y := by
      rw [← S.pre, List.getElem?_take_of_lt (by exact o606e9 hl hi)]; exact h1
    have ndP : ps.Nodup := by rw [← S.pre]; exact S.nd.sublist (List.take_sublist _ _)
    refine (x9614 u rv ?_)
    rcases S.par y (List.mem_of_getElem? hp) with k | k
    · exact .inl ⟨k, j5w ndP hp hu k⟩
    obtain ⟨c, e⟩ := j54 (n := s.heap.objs.size + 1) k
    refine .inr (x4c19 (.inl k) c e ?_)
    have q := x.cell y c e
    rw [j5x ndP hp hu (by show scope.names.lookup y ≠ _; rw [k]; decide)] at q
    exact q
  · exact e0.hok.fresh (Nat.le_of_lt (x.above y c (PySem.mem_of_lookup h)))
  unfold start
  show _ = N.length
  rw [List.length_append, List.length_map, List.length_replicate]
  exact ofa4f9 hl hpl
theorem fn_of {CX : CXT} {P : Program} {w : World} {K : PySem.W.Frag} {mg : Str → Option Value} {base : Heap} {k : Nat} {f : Addr} {name qual : Str} {params : Arguments} {body : List Stmt} {scope : Scope} {dV kV doc pm cdv ct oc : Value} {an od : Option Addr}
    {osl : Array (Option Value)} {N ps : List Str} {sp : Sp} (lk : K.lookup f = some ⟨oc, od, .func (PySem.W.fnOf name qual params body scope dV kV doc pm an cdv ct), osl⟩) (hcd : PySem.W.codeIn K cdv qual = true) (S : FnScope N ps scope)
    (len : ∀ vs H Q E, sp vs H Q E → vs.length = ps.length)
    (hbody : ∀ (A : Around) (outer : List Env) (s : Shared) (H : Hp) (vs : List V) (Q : VK) (E : XK), Room k (A.deeper (envOfC qual scope s.heap.objs.size f cdv)) → sp vs H Q E →
      ∃ t, PSs (cxOf CX P w K mg base N qual scope f cdv A outer s H E) body t ∧ t { nx := fun _ H' => Q .non H', rt := Q } (start N vs) H) :
    FnOk P w K mg base CX (k + 1) f (PySem.W.fnOf name qual params body scope dV kV doc pm an cdv ct) ps sp := by
  refine ⟨len, fun A outer s H args us vs Q E hr e0 hb r hsp => ?_⟩
  have hl := len _ _ _ _ hsp
  have KX : K.In s.heap := e0.mod.kin.keeps fun b o e => (e0.bs b o e).1
  have lim : s.heap.NoLimit := e0.mod.nolimit.keeps fun b o e => (e0.bs b o e).1
  have hkind : ∀ y ∈ ps.zip us, scope.names.lookup y.1 = some .local ∨ (scope.names.lookup y.1 = some .cell ∧ ((cellsFrom (s.heap.objs.size + 1) scope.names []).lookup y.1).isSome = true) := fun ⟨n, v⟩ hy => by
    rcases S.par n (List.of_mem_zip hy).1 with q | q
    · exact .inl q
    exact .inr ⟨q, PySem.W.cellsFrom_some _ _ _ (.inl q)⟩
  refine codeAny_call_function hr.depth (KX _ _ lk) rfl S.co S.gen rfl (PySem.W.codeRec_of KX hcd) (hb _ _ _ _ ?_)
  refine wpAny_newFunctionEnv_cells S.kind hkind fun env he s1 x => ?_
  subst he
  refine ⟨lim.keeps x.toInCall.keep, codeAny_func ?_⟩
  obtain ⟨t, ht, hq⟩ := hbody A outer s H vs Q E (hr.deeper _) hsp
  have I : Inv (cxOf CX P w K mg base N qual scope f cdv A outer s H E) [] (start N vs) H s1 := j9v S hr.hd e0 hl r x
  refine wpAny_mono (ht [] s1 (start N vs) H _ I hq) (fun fl s' hs => ?_) fun e s' hs => hs
  have fin : ∀ {σ' : St} {H' : Hp} {v : V} {u : Value}, Inv (cxOf CX P w K mg base N qual scope f cdv A outer s H E) [] σ' H' s' → RelV v u → Q v H' → CE outer P w H s Q u s' :=
    fun {σ' H' v u} J rv q => (x59b6 v H' J.os J.bare J.base J.hok rv q)
  cases fl with
  | ret u =>
    obtain ⟨v, σ', H', J, rv, q⟩ := hs
    exact fin J rv q
  | next =>
    obtain ⟨σ', H', J, q⟩ := hs
    exact fin (v := V.non) (u := Value.none) J rfl q
  | brk =>
    obtain ⟨_, _, _, q⟩ := hs
    exact False.elim q
  | cont =>
    obtain ⟨_, _, _, q⟩ := hs
    exact False.elim q
end L2
namespace L2
open PySem PySem.Spec PyProof.Rows
section
variable {X : Cx} {x : Str} {p pos : Pos} {e : Expr} {es : List Expr} {t : TA} {id T : String} {r : List V → Hp → VK → Prop}
noncomputable def tCB (r : List V → Hp → VK → Prop) (t : TA) : TE := fun σ H Q => t σ H fun vs H1 => r vs H1 Q
theorem j09 (hc : j37 X (.builtin id) r) (hg : Gl X x) (hm : X.mg x = none) (hv : bootBuiltins x = some (.builtin id)) (ha : PA X (e :: es) t) (hn : x ≠ "__name__" := by decide) (hdb : (x == ("__debug__" : Str)) = false := by decide)
    (he : starEach (e :: es) X.env = (false, eval e X.env) :: starEach es X.env := by rfl) (hpl : (backTo pos (starEach es X.env)).any (·.1) = false := by rfl) : PE X (.Call (.Name x p) (e :: es) [] pos) (tCB r t) := by
  intro pins s σ H Q I h
  refine wpAny_Call_Name_kw (j2r I hg hm hv ?_ hn hdb)
  exact PyProof.Rows.callWith_builtin1 (thn (ha pos pins s σ H _ I h) fun us s1 ⟨vs, H1, I1, r1, q1⟩ => hc pins s1 σ H1 vs us Q I1 r1 q1) he hpl
theorem j2i (hc : j37 X (.type T) r) (hg : Gl X x) (hm : X.mg x = none) (hv : bootBuiltins x = some (.type T)) (ha : PA X (e :: es) t) (hn : x ≠ "__name__" := by decide) (hdb : (x == ("__debug__" : Str)) = false := by decide)
    (he : starEach (e :: es) X.env = (false, eval e X.env) :: starEach es X.env := by rfl) (hpl : (backTo pos (starEach es X.env)).any (·.1) = false := by rfl) : PE X (.Call (.Name x p) (e :: es) [] pos) (tCB r t) := by
  intro pins s σ H Q I h
  refine wpAny_Call_Name_kw (j2r I hg hm hv ?_ hn hdb)
  exact PyProof.Rows.callWith_type1 (thn (ha pos pins s σ H _ I h) fun us s1 ⟨vs, H1, I1, r1, q1⟩ => hc pins s1 σ H1 vs us Q I1 r1 q1) he hpl
end
end L2
namespace HT
open PySem PyProof.Rows
noncomputable def lexLt : List Int → List Int → Bool
  | [], [] => false
  | [], _ :: _ => true
  | _ :: _, [] => false
  | x :: xs, y :: ys => if x = y then lexLt xs ys else decide (x < y)
theorem eqAt_int (A : Around) (s : Shared) (a : Int) (t : Tok) (c : Int) (u : Tok) : ∃ e, SeqAt.EqAt A s (.int a t) (.int c u) e ∧ (e = true ↔ a = c) :=
  (x9614 (a == c) (SeqAt.EqAt.int_int a t c u) (by simp))
section
open PySem.SeqAt
open PySem.AutoSeq1 (wpAny_loadPart')
open PySem.MeetsSeq PySem.MeetsSeq2 PySem.MeetsSeq3
end
section
variable {prog : Program} {w : World} {A : Around} {E : Value → Shared → Prop} {s : Shared}
noncomputable def sIx (n d : Nat) : Option Int → Nat
  | none => d
  | some v => if v < 0 then (v + (n : Int)).toNat else min v.toNat n
end
end HT
namespace L2
open PySem PySem.Spec PyProof.Rows
abbrev TO := St → Hp → (Option Int → Hp → Prop) → Prop
noncomputable def PO (X : Cx) (e : Option Expr) (t : TO) : Prop :=
  ∀ (pins : List (Addr × Obj)) (s : Shared) (σ : St) (H : Hp) (Q : Option Int → Hp → Prop), Inv X pins σ H s → t σ H Q →
    wpAny (model X.prog X.w) X.A (evalPart e X.env) (fun u s' => ∃ o H', Inv X pins σ H' s' ∧ IsPart u o ∧ Q o H') X.xe s
noncomputable def tNoPart : TO := fun _ H Q => Q none H
noncomputable def tPart (t : TE) : TO := fun σ H Q => t σ H fun x H1 => ∃ i, x = .int i ∧ Q (some i) H1
theorem j22 {ns : List Int} : ∀ {us : List Value}, Vals (ns.map V.int) us → IntsAre us ns := by
  induction ns with
  | nil => intro us r; rw [List.map_nil] at r; cases r; exact .nil
  | cons n ns ih =>
    intro us r
    rw [List.map_cons] at r
    cases r with
    | cons r1 r2 =>
      obtain ⟨t, e⟩ := r1
      subst e
      exact .cons n t (ih r2)
section
variable {X : Cx} {e : Expr} {te : TE} {lo hi : Option Expr} {tl th : TO} {pos p2 : Pos}
noncomputable def SlR (X : Cx) (r : V → Option Int → Option Int → Hp → VK → Prop) : Prop :=
  ∀ (pins : List (Addr × Obj)) (s : Shared) (σ : St) (H : Hp) (x : V) (v vl vu : Value) (lo hi : Option Int) (sl : Addr) (Q : VK), Inv X pins σ H s → RelV x v → s.heap.IsSliceOf sl vl vu .none → IsPart vl lo → IsPart vu hi → r x lo hi H Q →
    ∃ T id, typeLookup (.type T) "__getitem__" = pure (some (.builtin id)) ∧ s.TypeIs v T ∧ wpAny (model X.prog X.w) X.A (getItem v (.ref sl)) (EP X pins σ Q) X.xe s
noncomputable def tSl (r : V → Option Int → Option Int → Hp → VK → Prop) (te : TE) (tl th : TO) : TE := fun σ H Q => te σ H fun x H1 => tl σ H1 fun l H2 => th σ H2 fun u H3 => r x l u H3 Q
noncomputable def cutV (xs : List V) (lo hi : Option Int) : List V := (xs.drop (HT.sIx xs.length 0 lo)).take (HT.sIx xs.length xs.length hi - HT.sIx xs.length 0 lo)
noncomputable def rSlT (K : PySem.W.Frag) : V → Option Int → Option Int → Hp → VK → Prop := fun x lo hi H Q => ∃ a xs, x = .ref a ∧ SqT K H a xs ∧
  ¬ (HT.sIx xs.length 0 lo = 0 ∧ HT.sIx xs.length xs.length hi = xs.length) ∧ ∀ p, H p = none → Q (.ref p) (upd H p (.tup (cutV xs lo hi)))
noncomputable def rLtT (K : PySem.W.Frag) : R2 := fun x y H Q => ∃ a b ns ms, x = .ref a ∧ y = .ref b ∧ SqT K H a (ns.map V.int) ∧ SqT K H b (ms.map V.int) ∧ Q (.bl (HT.lexLt ns ms)) H
noncomputable def rCatT (K : PySem.W.Frag) : R2 := fun x y H Q => ∃ a b xs ys, x = .ref a ∧ y = .ref b ∧ SqT K H a xs ∧ SqT K H b ys ∧ xs ≠ [] ∧ xs.length + ys.length ≤ sizeLine ∧
  (ys = [] → Q (.ref a) H) ∧ (ys ≠ [] → ∀ p, H p = none → Q (.ref p) (upd H p (.tup (xs ++ ys))))
end
end L2
namespace L2
open PySem PySem.Spec PyProof.Rows
noncomputable def ixN (n : Nat) (i : Int) : Option Nat := if 0 ≤ i then (if i < n then some i.toNat else none) else if -(n : Int) ≤ i then some (i + n).toNat else none
noncomputable def atI {α : Type} (xs : List α) (i : Int) : Option α := (ixN xs.length i).bind fun j => xs[j]?
theorem j9w {n : Nat} {i : Int} {j : Nat} (h : ixN n i = some j) : seqIndex? i n = some j ∧ j < n ∧ -(n : Int) ≤ i ∧ i < n := by
  unfold ixN at h
  by_cases h0 : 0 ≤ i
  · rw [if_pos h0] at h
    by_cases h1 : i < n
    · rw [if_pos h1] at h
      have e : i.toNat = j := Option.some.inj h
      exact (xe1fa (by rw [seqIndex_of h0 h1, e]) (by exact o11c2e h0 h1 e) (by exact oa5672 h0) h1)
    rw [if_neg h1] at h; cases h
  rw [if_neg h0] at h
  by_cases h1 : -(n : Int) ≤ i
  · rw [if_pos h1] at h
    have e : (i + n).toNat = j := Option.some.inj h
    exact (xe1fa (by rw [seqIndex_neg (by exact o2472d h0) h1, e]) (by exact o89df2 h0 h1 e) h1 (by exact o5378e h0))
  rw [if_neg h1] at h; cases h
theorem j6w {α : Type} {xs : List α} {i : Int} {v : α} (h : atI xs i = some v) : ∃ j, seqIndex? i xs.length = some j ∧ xs[j]? = some v ∧ j < xs.length ∧ -(xs.length : Int) ≤ i ∧ i < xs.length := by
  unfold atI at h
  cases e : ixN xs.length i with
  | none => rw [e] at h; cases h
  | some j =>
    rw [e] at h
    obtain ⟨h1, h2, h3, h4⟩ := j9w e
    exact (x7ea0 j h1 h h2 h3 h4)
theorem j3z {α : Type} {xs : List α} {j : Nat} {v : α} (h : xs[j]? = some v) : atI xs (j : Int) = some v := by
  have hj : j < xs.length := (List.getElem?_eq_some_iff.mp h).1
  have e : ixN xs.length (j : Int) = some j := by
    unfold ixN
    rw [if_pos (by exact o29297), if_pos (by exact oab013 hj)]; simp
  unfold atI; rw [e]; exact h
noncomputable def PlainIx (b : Expr) : Prop := ∀ o i, subscripted b false o i = operate [o, i] (getItem o i)
noncomputable def IxR (X : Cx) (r : R2) : Prop :=
  ∀ (value slice : Expr) (pins : List (Addr × Obj)) (s : Shared) (σ : St) (H : Hp) (x y : V) (v u : Value) (Q : VK), Inv X pins σ H s → RelV x v → RelV y u → r x y H Q →
    subscripted slice false v u = operate [v, u] (getItem v u) → wpAny (model X.prog X.w) X.A (subscriptTail value slice v u) (EP X pins σ Q) X.xe s
noncomputable def MtR (X : Cx) (id : String) (r : V → List V → Hp → VK → Prop) : Prop :=
  ∀ (pins : List (Addr × Obj)) (s : Shared) (σ : St) (H : Hp) (x : V) (xs : List V) (v : Value) (us : List Value) (Q : VK), Inv X pins σ H s → RelV x v → Vals xs us → r x xs H Q →
    wpAny (model X.prog X.w) X.A (call (.builtin id) (v :: us)) (EP X pins σ Q) X.xe s
section
variable {X : Cx} {a b : Expr} {ta tb : TE} {pos : Pos}
theorem j0y {r : R2} (hr : IxR X r) (ha : PE X a ta) (hb : PE X b tb) (hs : PlainIx b) : PE X (.Subscript a b pos) (tOp r ta tb) := by
  intro pins s σ H Q I h
  exact Subscript_ (binT ha hb I h fun v u s2 x y H2 I2 rx ry q => hr a b pins s2 σ H2 x y v u Q I2 rx ry q (hs _ _))
noncomputable def rIxL (K : PySem.W.Frag) : R2 := fun x y H Q => ∃ p xs i v, x = .ref p ∧ y = .int i ∧ SqL K H p xs ∧ atI xs i = some v ∧ Q v H
noncomputable def rIxT (K : PySem.W.Frag) : R2 := fun x y H Q => ∃ p xs i v, x = .ref p ∧ y = .int i ∧ SqT K H p xs ∧ atI xs i = some v ∧ Q v H
noncomputable def rIxS : R2 := fun x y H Q => ∃ z i c, x = .str z ∧ y = .int i ∧ z.length ≤ sizeLine ∧ atI z.cps.toList i = some c ∧ Q (.str ⟨#[c]⟩) H
theorem j0q : IxR X (rIxL X.K) := by
  intro value slice pins s σ H x y v u Q I rx ry h hs
  obtain ⟨p, xs, i, z, rfl, rfl, hq, he, q⟩ := h
  cases rx
  obtain ⟨t, rfl⟩ := ry
  obtain ⟨its, r, pl, hz⟩ := I.list hq
  obtain ⟨j, h1, h2, h3, h4, h5⟩ := j6w he
  obtain ⟨w, ew, rw'⟩ := r.get h2
  have hl := r.length
  have hn := j4t
  have fin : EP X pins σ Q w s := (xeb27 z H I rw' q)
  by_cases h0 : 0 ≤ i
  · have hj : i.toNat = j := by
      rw [seqIndex_of h0 h5] at h1
      exact Option.some.inj h1
    exact item_listR pl.isList h0 (by omega) (by rw [hj]; simpa using ew) fin hs
  have hj : (i + (its.toArray.size : Int)).toNat = j := by
    rw [seqIndex_neg (by exact o2472d h0) h4] at h1
    rw [List.size_toArray, ← hl]
    exact Option.some.inj h1
  exact subscriptTail_builtinR (x := w) pl.isList.typeIs slot_list_getitem.lookup
    (wpAny_getItem_list_neg (Q := fun r s' => r = w ∧ EP X pins σ Q r s') pl.isList (by exact o2472d h0) (by rw [List.size_toArray] <;> exact o858e5 h4 hl) (by omega) (by rw [hj]; simpa using ew) ⟨rfl, fin⟩) hs
theorem j1v : IxR X (rIxT X.K) := by
  intro value slice pins s σ H x y v u Q I rx ry h hs
  obtain ⟨p, xs, i, z, rfl, rfl, hq, he, q⟩ := h
  cases rx
  obtain ⟨t, rfl⟩ := ry
  obtain ⟨its, r, pl, hz⟩ := I.tuple hq
  obtain ⟨j, h1, h2, h3, h4, h5⟩ := j6w he
  obtain ⟨w, ew, rw'⟩ := r.get h2
  have hl := r.length
  have hn := j4t
  have fin : EP X pins σ Q w s := (xeb27 z H I rw' q)
  exact subscriptTail_builtinR (x := w) pl.typeIs slot_tuple_getitem.lookup
    (getItem_tuple (j := j) (Q := fun r s' => r = w ∧ EP X pins σ Q r s') pl (by omega) (by omega) (by rw [List.size_toArray, ← hl]; exact h1) (by simpa using ew) ⟨rfl, fin⟩) hs
noncomputable def rIx (K : PySem.W.Frag) : R2 := fun x y H Q => rIxL K x y H Q ∨ rIxT K x y H Q ∨ rIxS x y H Q
theorem j8m (its : List Value) (n j : Nat) (u : Value) : Obj.mapSeq (·.setIfInBounds j u) { cls := .type "list", data := .seq its.toArray n } = { cls := .type "list", data := .seq (its.set j u).toArray n } := by
  simp [Obj.mapSeq]
theorem Inv.lst {pins : List (Addr × Obj)} {σ : St} {H : Hp} {s : Shared} {p : Addr} {xs : List V} (I : Inv X pins σ H s) (h : H p = some (.lst xs)) :
    ∃ (its : List Value) (n : Nat), Vals xs its ∧ s.heap.get? p = some { cls := .type "list", data := .seq its.toArray n } ∧ xs.length ≤ sizeLine := by
  obtain ⟨z, its, n, r, e⟩ := I.hok p _ h
  exact (xeb27 its n r e z)
theorem Inv.lstUpd {pins : List (Addr × Obj)} {σ : St} {H : Hp} {s : Shared} {p : Addr} {xs ys : List V} {its its' : List Value} {n n' : Nat} {f : Obj → Obj} (I : Inv X pins σ H s) (h : H p = some (.lst xs))
    (ho : s.heap.get? p = some { cls := .type "list", data := .seq its.toArray n }) (hf : f { cls := .type "list", data := .seq its.toArray n } = { cls := .type "list", data := .seq its'.toArray n' }) (r : Vals ys its') (hz : ys.length ≤ sizeLine) (t : Nat) :
    Inv X pins σ (upd H p (.lst ys)) { s with heap := s.heap.update p f, toks := t } := by
  have e : (s.heap.update p f).get? p = some { cls := .type "list", data := .seq its'.toArray n' } := by
    rw [Heap.get?_update_self f ho (by rw [hf] <;> rfl), hf]
  refine I.write (x := p) (e := p) (by rw [h]; trivial) (.inl rfl) (fun b u hb q => (Heap.get?_update_other _ _ (Ne.symm hb)).trans q) ⟨_, e⟩ ?_
  exact (xbaae hz its' n' r e)
noncomputable def rSetL : V → V → V → Hp → (Hp → Prop) → Prop := fun o i v H Q => ∃ p xs k j, o = .ref p ∧ i = .int k ∧ H p = some (.lst xs) ∧ ixN xs.length k = some j ∧ Q (upd H p (.lst (xs.set j v)))
theorem j1k : PSet X rSetL := by
  intro pins s σ H o i v ov iv u Q I ro ri rv h
  obtain ⟨p, xs, k, j, rfl, rfl, hp, hj, q⟩ := h
  cases ro
  obtain ⟨t, rfl⟩ := ri
  obtain ⟨its, n, r, ho, hz⟩ := I.lst hp
  obtain ⟨h1, h2, h3, h4⟩ := j9w hj
  have hl := r.length
  have hn := j4t
  have I' : Inv X pins σ (upd H p (.lst (xs.set j v))) { s with heap := s.heap.update p (Obj.mapSeq (·.setIfInBounds j u)) } :=
    I.lstUpd hp ho (j8m its n j u) (r.set rv j) (by rw [List.length_set]; exact hz) s.toks
  by_cases h0 : 0 ≤ k
  · have hk : k.toNat = j := by
      rw [seqIndex_of h0 h4] at h1
      exact Option.some.inj h1
    exact PySem.W.ki_setAt ho h0 (by omega) (by rw [List.size_toArray, ← hl]; exact h4) (by rw [hk]; exact (x9614 _ I' q))
  have hk : (k + (its.toArray.size : Int)).toNat = j := by
    rw [seqIndex_neg (by exact o2472d h0) h3] at h1
    rw [List.size_toArray, ← hl]
    exact Option.some.inj h1
  exact PySem.W.ki_setBack ho (by exact o2472d h0) (by rw [List.size_toArray, ← hl]; exact h3) (by omega) (by rw [hk]; exact (x9614 _ I' q))
noncomputable def rSlL (K : PySem.W.Frag) : V → Option Int → Option Int → Hp → VK → Prop := fun x lo hi H Q => ∃ a xs, x = .ref a ∧ SqL K H a xs ∧ ∀ p, H p = none → Q (.ref p) (upd H p (.lst (cutV xs lo hi)))
noncomputable def j5y : V → Bool
  | .non => true
  | .bl _ => true
  | .int _ => true
  | .str _ => true
  | _ => false
noncomputable def eqV : V → V → Bool
  | .non, .non => true
  | .bl a, .bl b => a == b
  | .bl a, .int b => (if a then 1 else 0) == b
  | .int a, .bl b => a == (if b then 1 else 0)
  | .int a, .int b => a == b
  | .str a, .str b => a == b
  | _, _ => false
theorem eqAt_V {A : Around} {s : Shared} {y x : V} {u v : Value} (ry : RelV y u) (rx : RelV x v) (fy : j5y y = true) (fx : j5y x = true) : SeqAt.EqAt A s u v (eqV y x) := by
  cases y with
  | non =>
    cases ry
    cases x with
    | non => cases rx; exact SeqAt.EqAt.same _
    | bl b => cases rx; exact SeqAt.EqAt.none_bool b
    | int b => obtain ⟨t, rfl⟩ := rx; exact SeqAt.EqAt.none_int b t
    | str b => obtain ⟨t, rfl⟩ := rx; exact SeqAt.EqAt.none_str b t
    | _ => exact absurd (show false = true from fx) Bool.false_ne_true
  | bl a =>
    cases ry
    cases x with
    | non => cases rx; exact SeqAt.EqAt.bool_none a
    | bl b => cases rx; exact SeqAt.EqAt.bool_bool a b
    | int b => obtain ⟨t, rfl⟩ := rx; exact SeqAt.EqAt.bool_int a b t
    | str b => obtain ⟨t, rfl⟩ := rx; exact SeqAt.EqAt.bool_str a b t
    | _ => exact absurd (show false = true from fx) Bool.false_ne_true
  | int a =>
    obtain ⟨t', rfl⟩ := ry
    cases x with
    | non => cases rx; exact SeqAt.EqAt.int_none a t'
    | bl b => cases rx; exact SeqAt.EqAt.int_bool a t' b
    | int b => obtain ⟨t, rfl⟩ := rx; exact SeqAt.EqAt.int_int a t' b t
    | str b => obtain ⟨t, rfl⟩ := rx; exact SeqAt.EqAt.int_str a t' b t
    | _ => exact absurd (show false = true from fx) Bool.false_ne_true
  | str a =>
    obtain ⟨t', rfl⟩ := ry
    cases x with
    | non => cases rx; exact SeqAt.EqAt.str_none a t'
    | bl b => cases rx; exact SeqAt.EqAt.str_bool a t' b
    | int b => obtain ⟨t, rfl⟩ := rx; exact SeqAt.EqAt.str_int a t' b t
    | str b => obtain ⟨t, rfl⟩ := rx; exact SeqAt.EqAt.str_str a t' b t
    | _ => exact absurd (show false = true from fx) Bool.false_ne_true
  | _ => exact absurd (show false = true from fy) Bool.false_ne_true
noncomputable def eqU (x : V) (u : Value) : Bool := match u with
  | .none => eqV .non x
  | .bool b => eqV (.bl b) x
  | .int i _ => eqV (.int i) x
  | .str z _ => eqV (.str z) x
  | _ => false
theorem eqU_of {x y : V} {u : Value} (r : RelV y u) (f : j5y y = true) : eqU x u = eqV y x := by
  cases y with
  | non => cases r; rfl
  | bl b => cases r; rfl
  | int i => obtain ⟨t, rfl⟩ := r; rfl
  | str z => obtain ⟨t, rfl⟩ := r; rfl
  | _ => exact absurd (show false = true from f) Bool.false_ne_true
theorem j6x {x : V} : ∀ {xs : List V} {us : List Value}, Vals xs us → xs.all j5y = true → us.any (eqU x) = xs.any fun y => eqV y x
  | _, _, .nil, _ => rfl
  | y :: xs, u :: us, .cons r t, f => by
    rw [List.all_cons, Bool.and_eq_true] at f
    rw [List.any_cons, List.any_cons, eqU_of r f.1, j6x t f.2]
theorem j55 {A : Around} {s : Shared} {x : V} {v : Value} (rx : RelV x v) (fx : j5y x = true) : ∀ {xs : List V} {us : List Value}, Vals xs us → xs.all j5y = true → ∀ u ∈ us, SeqAt.EqAt A s u v (eqU x u)
  | _, _, .nil, _ => fun u hu => by cases hu
  | y :: xs, u :: us, .cons r t, f => fun u' hu => by
    rw [List.all_cons, Bool.and_eq_true] at f
    rcases List.mem_cons.mp hu with rfl | hu
    · rw [eqU_of r f.1]; exact eqAt_V r rx f.1 fx
    exact j55 rx fx t f.2 u' hu
noncomputable def inV (x : V) (xs : List V) : Bool := xs.any fun y => eqV y x
noncomputable def rIn (K : PySem.W.Frag) (neg : Bool) : R2 := fun x y H Q => ∃ p xs, y = .ref p ∧ (SqL K H p xs ∨ SqT K H p xs) ∧ j5y x = true ∧ xs.all j5y = true ∧ Q (.bl (if neg then !inV x xs else inV x xs)) H
theorem j9x : OpR X (compareOp .In) (rIn X.K false) := by
  intro pins s σ H x y v u Q I rx ry h
  obtain ⟨p, xs, rfl, hq, fx, fs, q⟩ := h
  cases ry
  rcases hq with hq | hq
  · obtain ⟨its, r, pl, hz⟩ := I.list hq
    refine SeqAt.in_listAt (eqU x) pl.isList (fun w hw => j55 rx fx r fs w (by simpa using hw)) (xeb27 (.bl _) H I rfl ?_)
    rw [show its.toArray.any (eqU x) = its.any (eqU x) by simp, j6x r fs]
    exact q
  obtain ⟨its, r, pl, hz⟩ := I.tuple hq
  refine SeqAt.in_tupleAt (eqU x) pl (fun w hw => j55 rx fx r fs w (by simpa using hw)) (xeb27 (.bl _) H I rfl ?_)
  rw [show its.toArray.any (eqU x) = its.any (eqU x) by simp, j6x r fs]
  exact q
theorem j0f : j37 X (.builtin "len") (fun xs H Q => ∃ p ys, xs = [.ref p] ∧ (SqL X.K H p ys ∨ SqT X.K H p ys) ∧ Q (.int ys.length) H) := by
  intro pins s σ H xs us Q I r h
  obtain ⟨p, ys, rfl, hq, q⟩ := h
  obtain ⟨u, rfl, rx⟩ := j2x r
  cases rx
  have hn := j4t
  rcases hq with hq | hq
  · obtain ⟨its, r', pl, hz⟩ := I.list hq
    have hlen := r'.length
    exact Calls.call_len_list pl.isList (by simp only [List.size_toArray] <;> omega) (xeb27 (.int ys.length) H (I.tok _) ⟨s.toks + 1, by rw [List.size_toArray, hlen]⟩ q)
  obtain ⟨its, r', pl, hz⟩ := I.tuple hq
  have hlen := r'.length
  exact len_tuple pl (by simp only [List.size_toArray] <;> omega) (xeb27 (.int ys.length) H (I.tok _) ⟨s.toks + 1, by rw [List.size_toArray, hlen]⟩ q)
theorem j1f : j37 X (.type "list") (fun xs H Q => ∃ p ys, xs = [.ref p] ∧ (SqL X.K H p ys ∨ SqT X.K H p ys) ∧ ∀ l, H l = none → Q (.ref l) (upd H l (.lst ys))) := by
  intro pins s σ H xs us Q I r h
  obtain ⟨p, ys, rfl, hq, q⟩ := h
  obtain ⟨u, rfl, rx⟩ := j2x r
  cases rx
  have fin : ∀ (its : List Value), Vals ys its → ys.length ≤ sizeLine → ∀ (h' : Heap) (c' : Nat), (∀ b o', s.heap.get? b = some o' → h'.get? b = some o') →
      h'.get? s.heap.objs.size = some { cls := .type "list", dict := none, data := .seq its.toArray c', slots := #[] } → EP X pins σ Q (.ref s.heap.objs.size) { s with heap := h' } := fun its r' hz h' c' kp e =>
    (xeb27 (.ref s.heap.objs.size) _ (I.laid (t' := s.toks) kp (Nat.le_refl _) (show j1z X.prog X.w _ h' _ (.lst ys) from (xbaae hz its c' r' e))) rfl (q _ (I.hok.fresh (Nat.le_refl _))))
  rcases hq with hq | hq
  · obtain ⟨its, r', pl, hz⟩ := I.list hq
    have hlen := r'.length
    obtain ⟨o, ho, hc, n, hd⟩ := pl.isList
    exact call_list_seq p (.inl rfl) ho hc hd (fun h' c' kp e => fin its r' hz h' c' kp e) (by simp only [List.size_toArray] <;> exact o8836e hz hlen)
  obtain ⟨its, r', pl, hz⟩ := I.tuple hq
  have hlen := r'.length
  obtain ⟨o, ho, hc, n, hd⟩ := pl
  exact call_list_seq p (.inr rfl) ho hc hd (fun h' c' kp e => fin its r' hz h' c' kp e) (by simp only [List.size_toArray] <;> exact o8836e hz hlen)
noncomputable def tyV (K : PySem.W.Frag) (T : String) (x : V) (H : Hp) : Prop := match x with
  | .str _ => T = "str"
  | .int _ => T = "int"
  | .ref p => (T = "list" ∧ ∃ xs, SqL K H p xs) ∨ (T = "tuple" ∧ ∃ o, K.lookup p = some o ∧ o.cls = .type "tuple" ∧ o.dict = none) ∨
      (T = "dict" ∧ ((∃ kvs, H p = some (.dK kvs)) ∨ ∃ kvs, H p = some (.dT kvs))) ∨ (T = "set" ∧ ∃ S n, H p = some (.set S n))
  | _ => False
theorem tyV_is {pins : List (Addr × Obj)} {σ : St} {H : Hp} {s : Shared} {T : String} {x : V} {v : Value} (I : Inv X pins σ H s) (r : RelV x v) (ty : tyV X.K T x H) :
    s.TypeIs v T ∧ ∀ a, v = .ref a → ∃ ob, s.heap.get? a = some ob ∧ ob.dict = none := by
  cases x with
  | str z =>
    obtain ⟨t, rfl⟩ := r
    cases (show T = "str" from ty)
    exact ⟨typeIs_str s z t, fun _ e => nomatch e⟩
  | int i =>
    obtain ⟨t, rfl⟩ := r
    cases (show T = "int" from ty)
    exact ⟨typeIs_int s i t, fun _ e => nomatch e⟩
  | ref p =>
    cases r
    rcases ty with ⟨rfl, xs, hq⟩ | ⟨rfl, o, hk, hc, hd⟩ | ⟨rfl, hk⟩ | ⟨rfl, S, n, hk⟩
    · obtain ⟨its, _, pl, _⟩ := I.list hq
      refine ⟨pl.isList.typeIs, fun a e => ?_⟩
      cases e
      obtain ⟨o, n, e, c, hd, _⟩ := pl
      exact (x9614 o e hd)
    · refine ⟨(x9614 o (I.kIn p o hk) hc), fun a e => ?_⟩
      cases e
      exact (x9614 o (I.kIn _ o hk) hd)
    · have z : ∃ o, s.heap.get? p = some o ∧ o.ExactDict := by
        rcases hk with ⟨kvs, hk⟩ | ⟨kvs, hk⟩
        · obtain ⟨_, _, _, _, o, _, _, e, ex, _⟩ := I.hok p _ hk
          exact (x9614 o e ex)
        obtain ⟨_, _, _, _, o, _, _, e, ex, _⟩ := I.hok p _ hk
        exact (x9614 o e ex)
      obtain ⟨o, e, ex⟩ := z
      refine ⟨(x9614 o e ex.1), fun a e2 => ?_⟩
      cases e2
      exact (x9614 o e ex.2.1)
    obtain ⟨o, _, _, _, e, ex, _⟩ := I.hok p _ hk
    refine ⟨(x9614 o e ex.1), fun a e2 => ?_⟩
    cases e2
    exact (x9614 o e ex.2.1)
  | _ => exact False.elim ty
noncomputable def tBM0 (K : PySem.W.Frag) (T : String) (r : V → List V → Hp → VK → Prop) (to : TE) : TE := fun σ H Q => to σ H fun x H1 => tyV K T x H1 ∧ r x [] H1 Q
noncomputable def tBM (K : PySem.W.Frag) (T : String) (r : V → List V → Hp → VK → Prop) (to : TE) (t : TA) : TE := fun σ H Q => to σ H fun x H1 => tyV K T x H1 ∧ t σ H1 fun xs H2 => r x xs H2 Q
variable {o e : Expr} {es : List Expr} {to : TE} {t : TA} {name : Str} {apos cpos : Pos} {T id : String} {r : V → List V → Hp → VK → Prop}
theorem pe_bm0 (pa : PlainAttrs T) (slot : Slot T name id) (hty : typeOf (.builtin id) = pure (.type "method_descriptor")) (hm : MtR X id r) (ho : PE X o to)
    (hbase : attributeBase o name X.env (eval o X.env) = eval o X.env := by rfl) (hline : (apos.endLine == cpos.line) = true := by rfl) : PE X (.Call (.Attribute o name apos) [] [] cpos) (tBM0 X.K T r to) := by
  intro pins s σ H Q I h
  refine wpAny_Call_method0_late hbase hline (thn (ho pins s σ H _ I h) fun v s1 ⟨x, H1, I1, r1, ty, q1⟩ => ?_)
  obtain ⟨h1, h2⟩ := tyV_is I1 r1 ty
  exact (x59b6 T id pa slot hty h1 h2 (Calls.callWith_builtin rfl (PySem.evalArgs_none (hm pins s1 σ H1 x [] v [] Q I1 r1 .nil q1))))
theorem j4m (pa : PlainAttrs T) (slot : Slot T name id) (hty : typeOf (.builtin id) = pure (.type "method_descriptor")) (hm : MtR X id r) (ho : PE X o to) (ha : PA X (e :: es) t)
    (hbase : attributeBase o name X.env (eval o X.env) = eval o X.env := by rfl)
    (hfew : ((backTo cpos (starEach (e :: es) X.env)).all (fun x => !x.1) && (backToKw cpos (keywordEach [] X.env)).all (fun x => x.1.isSome)
      && decide ((e :: es).length + ([] : List Keyword).length + (if ([] : List Keyword).isEmpty then 0 else 1) < 30)) = true := by rfl)
    (hline : (apos.endLine == cpos.line) = true := by rfl) (hs : starEach (e :: es) X.env = (false, eval e X.env) :: starEach es X.env := by rfl) (hplain : (backTo cpos (starEach es X.env)).any (·.1) = false := by rfl) :
    PE X (.Call (.Attribute o name apos) (e :: es) [] cpos) (tBM X.K T r to t) := by
  intro pins s σ H Q I h
  refine wpAny_Call_method_late hbase hfew hline rfl (thn (ho pins s σ H _ I h) fun v s1 ⟨x, H1, I1, r1, ty, q1⟩ => ?_)
  obtain ⟨h1, h2⟩ := tyV_is I1 r1 ty
  refine (x59b6 T id pa slot hty h1 h2 ?_)
  have hA := ha cpos pins s1 σ H1 _ I1 q1
  rw [hs] at hA ⊢
  refine Calls.callWith_builtin (by show (false || (backTo cpos (starEach es X.env)).any (·.1)) = false; rw [hplain] <;> rfl) (Calls.evalArgs_plain ?_)
  exact thn hA fun us s2 ⟨vs, H2, I2, r2, q2⟩ => hm pins s2 σ H2 x vs v us Q I2 r1 r2 q2
/- xs.append(e), list.index on a module's tuple .. are MtR facts of 06m -/
end
end L2
namespace L2
open PySem PySem.Spec PyProof.Rows
noncomputable def MtM (X : Cx) (id : String) (r : V → List V → Hp → VK → Prop) : Prop :=
  ∀ (pins : List (Addr × Obj)) (s : Shared) (σ : St) (H : Hp) (x : V) (xs : List V) (v : Value) (us : List Value) (Q : VK), Inv X pins σ H s → RelV x v → Vals xs us → r x xs H Q →
    wpAny (model X.prog X.w) X.A (call (.builtin id) (v :: us)) (EP X pins σ Q) X.xe s
theorem Vals.one : ∀ {x : V} {us : List Value}, Vals [x] us → ∃ u, us = [u] ∧ RelV x u
  | _, _, .cons r .nil => (x9614 _ rfl r)
theorem Vals.zero : ∀ {us : List Value}, Vals [] us → us = []
  | _, .nil => rfl
theorem Vals.dropLast {xs : List V} {us : List Value} (h : Vals xs us) : Vals xs.dropLast us.dropLast := by
  induction h with
  | nil => exact .nil
  | cons r t ih =>
    cases t with
    | nil => exact .nil
    | cons q t' => exact .cons r ih
theorem Vals.reverse {xs : List V} {us : List Value} (h : Vals xs us) : Vals xs.reverse us.reverse := by
  induction h with
  | nil => exact .nil
  | cons r t ih => rw [List.reverse_cons, List.reverse_cons]; exact Vals.append ih (.cons r .nil)
theorem Vals.rep {xs : List V} {us : List Value} (h : Vals xs us) : ∀ k : Nat, Vals (List.replicate k xs).flatten (List.replicate k us).flatten
  | 0 => .nil
  | k + 1 => by
    rw [List.replicate_succ, List.replicate_succ, List.flatten_cons, List.flatten_cons]
    exact Vals.append h (Vals.rep h k)
theorem j8n {α : Type} (l : List α) : l.eraseIdx (l.length - 1) = l.dropLast := by
  induction l with
  | nil => rfl
  | cons a r ih =>
    cases r with
    | nil => rfl
    | cons b r =>
      have e : (a :: b :: r).length - 1 = ((b :: r).length - 1) + 1 := by
        have h1 : (a :: b :: r).length = r.length + 2 := rfl
        have h2 : (b :: r).length = r.length + 1 := rfl
        exact oa68c7 h1 h2
      rw [e, List.eraseIdx_cons_succ, ih]
      all_goals rfl
theorem j5z (its : List Value) : ∀ (k : Nat) (acc : List Value),
    List.foldl (fun x1 x2 => x1 ++ x2) acc.toArray (List.replicate k its.toArray) = (acc ++ (List.replicate k its).flatten).toArray
  | 0, acc => by simp
  | k + 1, acc => by
    have e : acc.toArray ++ its.toArray = (acc ++ its).toArray := by simp
    have e2 : (acc ++ its) ++ (List.replicate k its).flatten = acc ++ (List.replicate (k + 1) its).flatten := by
      rw [List.replicate_succ, List.flatten_cons, List.append_assoc]
    rw [← e2, ← j5z its k (acc ++ its), ← e, List.replicate_succ, List.foldl_cons]
section
variable {X : Cx} {pins : List (Addr × Obj)} {σ : St} {H : Hp} {s : Shared} {l b : Addr} {xs ys zs : List V}
theorem Inv.lset {its its' : List Value} {n : Nat} {f : Array Value → Array Value} {t' : Nat} (I : Inv X pins σ H s) (hH : H l = some (.lst xs))
    (e : s.heap.get? l = some { cls := .type "list", data := .seq its.toArray n }) (hf : f its.toArray = its'.toArray) (hv : Vals ys its') (hz : ys.length ≤ sizeLine) :
    Inv X pins σ (upd H l (.lst ys)) { s with heap := s.heap.update l (Obj.mapSeq f), toks := t' } := by
  have q := PySem.IsL.update e f
  rw [hf] at q
  refine I.write (x := l) (e := l) (by rw [hH]; exact trivial) (.inl rfl) (fun b' u hb hu => (Heap.get?_update_other s.heap (Obj.mapSeq f) (Ne.symm hb)).trans hu) ⟨_, q⟩ ?_
  exact (xbaae hz its' _ hv q)
theorem Inv.lnew {its : List Value} {t' : Nat} (I : Inv X pins σ H s) (hv : Vals ys its) (hz : ys.length ≤ sizeLine) :
    Inv X pins σ (upd H s.heap.objs.size (.lst ys)) { s with heap := s.heap.push { cls := .type "list", data := .seq its.toArray }, toks := t' } :=
  I.laid (fun _ _ q => Heap.get?_push_of_some _ q) (Nat.le_refl _) (xbaae hz its 0 hv (Heap.get?_push_size _ rfl))
theorem Inv.fresh (I : Inv X pins σ H s) : H s.heap.objs.size = none := I.hok.fresh (Nat.le_refl _)
theorem Inv.lstM (I : Inv X pins σ H s) (hH : H l = some (.lst xs)) : xs.length ≤ sizeLine ∧ ∃ (its : List Value) (n : Nat), Vals xs its ∧ xs.length = its.length ∧ s.heap.get? l = some { cls := .type "list", data := .seq its.toArray n } := by
  obtain ⟨z, its, n, r, e⟩ := I.hok l _ hH
  exact (xbaae z its n r ⟨r.length, e⟩)
theorem notLongL {n : Nat} (h : n ≤ sizeLine) : Builtin.List.listTooLong n = false := by
  unfold Builtin.List.listTooLong
  exact decide_eq_false (by exact o4733e h)
end
section
variable {X : Cx}
noncomputable def rAppend : V → List V → Hp → VK → Prop := fun x vs H Q => ∃ l xs y, x = .ref l ∧ vs = [y] ∧ H l = some (.lst xs) ∧ xs.length < sizeLine ∧ Q .non (upd H l (.lst (xs ++ [y])))
theorem j11 : MtM X "list.append" rAppend := by
  intro pins s σ H x vs v us Q I rx rv h
  obtain ⟨l, xs, y, rfl, rfl, hH, hz, q⟩ := h
  cases rx
  obtain ⟨u, rfl, ru⟩ := rv.one
  obtain ⟨z, its, n, r, hl, e⟩ := I.lstM hH
  refine call_meets F.slot_list_append (x9614 _ e rfl) F.entry_list_append (F.args_list_append_2 _ _) (PySem.list_append l its.toArray n u (by rw [List.size_toArray]; exact o8836e z hl)) ⟨e, ?_⟩
  refine (xeb27 (.non) _ (I.lset (its' := its ++ [u]) hH e (by simp) (r.append (.cons ru .nil)) ?_) rfl q)
  rw [List.length_append, List.length_singleton]
  exact odad2c hz
noncomputable def rExtend : V → List V → Hp → VK → Prop := fun x vs H Q => ∃ l b xs zs, x = .ref l ∧ vs = [.ref b] ∧ H l = some (.lst xs) ∧ H b = some (.lst zs) ∧ xs.length + zs.length ≤ sizeLine ∧ Q .non (upd H l (.lst (xs ++ zs)))
noncomputable def rPop : V → List V → Hp → VK → Prop := fun x vs H Q => ∃ l xs y, x = .ref l ∧ vs = [] ∧ H l = some (.lst xs) ∧ xs[xs.length - 1]? = some y ∧ Q y (upd H l (.lst xs.dropLast))
theorem mt_pop : MtM X "list.pop" rPop := by
  intro pins s σ H x vs v us Q I rx rv h
  obtain ⟨l, xs, y, rfl, rfl, hH, hy, q⟩ := h
  cases rx
  have hus := rv.zero
  subst hus
  obtain ⟨z, its, n, r, hl, e⟩ := I.lstM hH
  obtain ⟨u, hu, ru⟩ := r.get hy
  have hy' : its.toArray[its.toArray.size - 1]? = some u := by
    show its.toArray[its.length - 1]? = some u
    rw [← Array.getElem?_toList, ← hl]
    exact hu
  refine call_meets F.slot_list_pop (x9614 _ e rfl) F.entry_list_pop (F.args_list_pop_1 _) (MeetsSeq.list_pop_last l its.toArray n u hy' (by rw [List.size_toArray]; exact o8836e z hl)) ⟨e, ?_⟩
  refine (xeb27 y _ (I.lset (its' := its.dropLast) hH e ?_ r.dropLast ?_) ru q)
  · show its.toArray.eraseIdxIfInBounds (its.toArray.size - 1) = its.dropLast.toArray
    rw [List.size_toArray, List.eraseIdxIfInBounds_toArray, j8n]
  rw [List.length_dropLast]
  exact ofe467 z
noncomputable def rPopAt : V → List V → Hp → VK → Prop := fun x vs H Q => ∃ l xs i k y, x = .ref l ∧ vs = [.int i] ∧ H l = some (.lst xs) ∧ -(2 ^ 63) ≤ i ∧ i < 2 ^ 63 ∧ seqIndex? i xs.length = some k ∧ xs[k]? = some y ∧ Q y (upd H l (.lst (xs.eraseIdx k)))
noncomputable def rReverse : V → List V → Hp → VK → Prop := fun x vs H Q => ∃ l xs, x = .ref l ∧ vs = [] ∧ H l = some (.lst xs) ∧ Q .non (upd H l (.lst xs.reverse))
noncomputable def rClear : V → List V → Hp → VK → Prop := fun x vs H Q => ∃ l xs, x = .ref l ∧ vs = [] ∧ H l = some (.lst xs) ∧ Q .non (upd H l (.lst []))
noncomputable def rCat : R2 := fun x y H Q => ∃ l b xs zs, x = .ref l ∧ y = .ref b ∧ H l = some (.lst xs) ∧ H b = some (.lst zs) ∧ xs.length + zs.length ≤ sizeLine ∧ ∀ p, H p = none → Q (.ref p) (upd H p (.lst (xs ++ zs)))
theorem op_cat : OpR X (binaryOp .Add) rCat := by
  intro pins s σ H x y v u Q I rx ry h
  obtain ⟨l, b, xs, zs, rfl, rfl, hH, hB, hz, q⟩ := h
  cases rx
  cases ry
  obtain ⟨z, its, n, r, hl, e⟩ := I.lstM hH
  obtain ⟨z2, its2, n2, r2, hl2, e2⟩ := I.lstM hB
  refine PySem.P.add_list e e2 ?_ (by rw [List.size_toArray, List.size_toArray]; exact o07fe9 hz hl hl2)
  have ea : its.toArray ++ its2.toArray = (its ++ its2).toArray := by simp
  rw [ea]
  exact (xeb27 (.ref _) _ (I.lnew (t' := s.toks) (r.append r2) (by rw [List.length_append]; exact o3a19b hz)) rfl (q _ I.fresh))
noncomputable def rRep : R2 := fun x y H Q => ∃ l k xs, x = .ref l ∧ y = .int k ∧ H l = some (.lst xs) ∧ -(2 ^ 63) ≤ k ∧ k < 2 ^ 63 ∧ xs.length * k.toNat ≤ sizeLine ∧
  ∀ p, H p = none → Q (.ref p) (upd H p (.lst (List.replicate k.toNat xs).flatten))
theorem len_rep {α : Type} (xs : List α) (k : Nat) : (List.replicate k xs).flatten.length = k * xs.length := by
  induction k with
  | zero => simp
  | succ k ih => rw [List.replicate_succ, List.flatten_cons, List.length_append, ih, Nat.succ_mul, Nat.add_comm]
theorem op_rep : OpR X (binaryOp .Mult) rRep := by
  intro pins s σ H x y v u Q I rx ry h
  obtain ⟨l, k, xs, rfl, rfl, hH, h1, h2, hz, q⟩ := h
  cases rx
  obtain ⟨t, rfl⟩ := ry
  obtain ⟨z, its, n, r, hl, e⟩ := I.lstM hH
  have hlen : its.toArray.size * k.toNat ≤ sizeLine := by rw [List.size_toArray, ← hl]; exact hz
  have hcap : ¬ its.toArray.size * k.toNat > (2 ^ 63 - 1) / 8 := by
    have : (sizeLine : Nat) ≤ (2 ^ 63 - 1) / 8 := by decide
    exact o1bf13 hlen this
  have hfit : ¬ (!Builtin.List.listFitsIndex k) = true := by
    rw [fitsIndex_both h1 h2]
    exact Bool.false_ne_true
  have hlong : ¬ Builtin.List.listTooLong (its.toArray.size * k.toNat) = true := by
    rw [notLongL hlen]
    exact Bool.false_ne_true
  have hnew : List.foldl (fun x1 x2 => x1 ++ x2) #[] (List.replicate (if its.toArray.isEmpty = true then 0 else k.toNat) its.toArray) = (List.replicate k.toNat its).flatten.toArray := by
    have f0 : ∀ m : Nat, List.foldl (fun x1 x2 => x1 ++ x2) #[] (List.replicate m its.toArray) = (List.replicate m its).flatten.toArray := fun m => by
      have := j5z its m []
      rw [List.nil_append] at this
      exact this
    rw [f0]
    cases its with
    | nil => simp
    | cons a r' => rw [if_neg (by simp)]
  refine wpAny_binaryOp_repeat_ref (T := "list") (U := "int") (by decide) (x9614 _ e rfl) (fun s' => typeIs_int s' k t) noFill_list_mul F.fills_int_mul F.slot_int_rmul repeat_list F.slot_int_index.lookup
    (call_meets F.slot_int_rmul (typeIs_int s k t) F.entry_int_rmul (F.args_int_rmul_2 _ _) (int___rmul___int_list k t l its.toArray n)
      (xe1fa e rfl (x9614 _ e rfl) (call_meets F.slot_list_mul (x9614 _ e rfl) F.entry_list_mul (F.args_list_mul_2 _ _) (AutoListH.list___mul___list_int_3 l its.toArray n k t hfit hcap hlong) ⟨e, ?_⟩)))
  rw [hnew]
  exact (xeb27 (.ref _) _ (I.lnew (t' := s.toks) (r.rep k.toNat) (by rw [len_rep, Nat.mul_comm]; exact hz)) rfl (q _ I.fresh))
end
section
variable {prog : Program} {w : World} {A : Around} {E : Value → Shared → Prop} {s : Shared}
set_option maxRecDepth 100000 in
end
section
variable {X : Cx}
end
end L2
namespace Att
open PySem PySem.W PySem.Calls PyProof.Rows
theorem j40 {P : Params} {h : Heap} : ∀ (ns : List Int) (vs : List Value), WellAll P h vs (ns.map WData.int) → IntsAre vs ns := by
  intro ns
  induction ns with
  | nil =>
    intro vs w
    rw [List.map_nil] at w
    cases w
    exact .nil
  | cons n ns ih =>
    intro vs w
    rw [List.map_cons] at w
    cases w with
    | cons a b =>
      cases a
      exact .cons _ _ (ih _ b)
theorem j9y {l : OpenLaw} {n : Nat} (hn : l.most = some n) {P : Params} {h : Heap} {args : List WData} {vals : List Value}
    (hpre : l.row.toRowW.claim.pre args = true) (hwl : WellAll P h vals args) :
    ∃ a vs ns, vals = [Value.ref a] ∧ args = [WData.list (ns.map WData.int)] ∧ h.get? a = some { cls := .type "list", data := .seq vs.toArray } ∧ IntsAre vs ns ∧ ns.length ≤ n := by
  have hsh : WShape.hasAll [] args [.list .int] = true := (pre_splitW hpre).1
  have hc : l.pre.holds [] { args := args } = true := (pre_splitW hpre).2
  obtain ⟨d, r, rfl, h1, h2⟩ := hasAllW_cons hsh
  obtain rfl := hasAllW_nil h2
  obtain ⟨xs, rfl, h3⟩ := hasW_list h1
  obtain ⟨ns, rfl⟩ := items_int h3
  have hlen : ns.length ≤ n := by
    unfold OpenLaw.pre at hc
    have h4 : (WTm.not (.lt (.lit (.int (n : Int))) (.len (.arg 0)))).holds [] { args := [.list (ns.map .int)] } = true := by
      have h4 := (holds_andW hc).1
      rw [hn] at h4
      exact h4
    have h5 := condW_of h4 (w_not (w_lt w_lit (w_len_list (w_arg rfl))))
    rw [List.length_map] at h5
    refine Nat.le_of_not_lt fun q => ?_
    have q' : (n : Int) < ((ns.length : Nat) : Int) := by exact oab013 q
    first
      | (rw [decide_eq_true q'] at h5; exact absurd h5 (by decide))
      | (simp at h5; omega)
  cases hwl with
  | cons w1 w2 =>
    cases w2
    cases w1 with
    | list ho hall => exact (xac60 _ _ ns rfl rfl ho (j40 ns _ hall) hlen)
theorem j9z (l : OpenLaw) (args : List WData) : l.row.toRowW.claim.post args (.bool true) args = true :=
  postW_of (r := l.row.toRowW) (X := (true == true))
    (show WShape.has [] (.bool true) .bool = true by first | rfl | decide | simp [WShape.has, WShape.arms, WShape.armsAll])
    (show (WTm.eq .res (.lit (.bool true))).value [] { args := args, res := some (.bool true), after := args } = some (.bool (true == true)) from w_eq_bool (w_res rfl) w_lit) rfl
theorem attach_call {l : OpenLaw} {n : Nat} {q : Program} {loose : List Str} {XP : (Str → Option Value) → Heap → Prop} {YP : World → Heap → Prop} {d : DefRec}
    (hn : l.most = some n) (hdf : d.params.defaults = [])
    (call : ∀ (w : World) (s₀ s₁ : Shared) (mg mb : Str → Option Value) (fa : Addr) (o : Obj) (pm cd doc : Value) (a : Addr) (vs : List Value) (ns : List Int),
      Ground q loose [] XP w s₀ mg mb s₁.heap → YP w s₁.heap →
      s₁.heap.get? fa = some o → o.data = .func (docDef d.name d.params d.body d.scope pm cd doc) → s₁.heap.CodeRec cd d.name → mg d.name = some (.ref fa) →
      s₁.heap.get? a = some { cls := .type "list", data := .seq vs.toArray } → IntsAre vs ns → ns.length ≤ n → s₁.gens = #[] →
      codeAny (model l.prog w) callerA (.call (.ref fa) ⟨[.ref a], []⟩) (fun r s' => r = .ok (.ret (.bool true)) ∧ OldK s₁.heap s'.heap ∧ s'.os = s₁.os ∧ AllBare s'.gens) s₁) :
    WalkO q loose XP YP l.row.toRowW d [] (fun f vs => PySem.call f vs) := by
  intro w s₀ s₁ mg mb G Y fa o pm cd doc dV kV ho hd hcd hD hmg hg args vals as hpre hlay hrd hwl hlo
  obtain rfl : dV = .none := Dflts.none hD hdf
  obtain rfl : kV = .none := Dflts.noKw hD
  obtain ⟨a, vs, ns, rfl, rfl, hobj, hints, hlen⟩ := j9y hn hpre hwl
  refine enter_call (codeAny_mono (call w s₀ s₁ mg mb fa o pm cd doc a vs ns G Y ho (fd_plain hd) hcd hmg hobj hints hlen hg) fun r s' hq => ?_)
  obtain ⟨rfl, h2, h3, h4⟩ := hq
  exact (xe1fa (.inl (xac60 (.bool true) (.bool true) [] rfl (fun _ => rfl) (.bool true) (j9z l _) (fun _ => ⟨List.Pairwise.nil, fun _ hm => (nomatch hm)⟩))) h2 h3 h4)
section
variable {prog : Program} {w : World} {A : Around} {E : Value → Shared → Prop} {s : Shared} {K : Frag}
noncomputable def noObjs (h : Heap) : Heap := { h with objs := #[] }
noncomputable def ledger (h : Heap) (L d : Addr) : List (Addr × Obj) := (List.range h.objs.size).filterMap fun a => if a = L ∨ a = d then none else (h.get? a).map fun o => (a, o)
end
end Att
namespace L2
open PySem PySem.Spec PyProof.Rows
theorem j23 : ∀ {vs : List Value} {ns : List Int}, IntsAre vs ns → Vals (ns.map V.int) vs
  | _, _, .nil => .nil
  | _, _, .cons n t h => .cons ⟨t, rfl⟩ (j23 h)
noncomputable def Only (H : Hp) : Prop := ∀ b, H b = none ∨ ∃ o xs, H b = some (.frz o (.lst xs))
end L2
namespace L2
open PySem PySem.Spec PyProof.Rows
abbrev KOf {K : PySem.W.Frag} {h : Heap} (_ : K.In h) : PySem.W.Frag := K
end L2
/- THE LAST THEOREM (shape; LID, My.* are yours):
   My.Adr: a structure of the addresses that your layer names (classes, functions); My.Txt K t: a structure (Prop) of the equations over K;
   My.txt_mk : {K} {implicit addresses ..} (e1 : nsIn K mainGlobals "law" = some (some (.ref f))) (e2 : K.lookup f = some ⟨oc, od, .func (fnOf "law" "law" params body scope dV kV doc pm an cdv ct), sl⟩) (e3 : codeIn K cdv "law" = true) .. : ∃ t, My.Txt K t
set_option maxRecDepth 100000 in
set_option maxHeartbeats 0 in
theorem PySem.Challenge.cw_LID_holds : PySem.Challenge.rw_LID.Holds := by
  w_on; o_law; k_head; (case hw => w_witness2)
  k_fill
  refine L2.walk_of (l := PySem.Challenge.rw_LID) (n := 63) (k := 40) (x := "script") (CX := fun w => ..) (sp := fun _ => My.sp_law) rfl (by decide) rfl ⟨rfl, by decide, by decide⟩ (fun w h Y => PySem.W.kIn_of Y) ?F ?S ?C
  case F =>
    intro w mg fa h KX G hmg
    have T : ∃ t, My.Txt (L2.KOf KX) t := by
      dsimp only [L2.KOf]                          -- K must stand as «<heap const> w.params» for k_is
      refine' My.txt_mk ?e1 ?e2 ?e3 ..
      (case e1 => PySem.W.k_is)                    -- in the order: a name -> its address -> its object -> its parts
      (case e2 => PySem.W.k_is)
      ..
    obtain ⟨t, T⟩ := T
    have e0 := hmg.symm.trans (PySem.W.mg_of KX G T.law)
    cases e0                                       -- fa is the law's own address
    exact ⟨_, fun s u => .of_eq rfl, fun base kb nb => My.law_fn T kb nb⟩     -- if «.of_eq rfl» comes too early: refine' ⟨_, ?b, fun base kb nb => My.law_fn T kb nb⟩; exact fun s u => .of_eq rfl
  case S => exact fun w H a ns hl hO hS => ..
  case C => exact ..
(the tactic k_is has no namespace: write k_is) -/
namespace L2
open PySem PySem.Spec PyProof.Rows
noncomputable def j6y (s : Stmt) (j : Nat) : Stmt := match s with
  | .ClassDef _ _ _ body _ _ _ _ _ _ _ => body.getD j (.Pass ⟨0, 0, 0, 0⟩)
  | _ => .Pass ⟨0, 0, 0, 0⟩
noncomputable def j2v (s : Stmt) : Arguments := match s with
  | .FunctionDef _ a _ _ _ _ _ _ _ _ => a
  | _ => { posonlyargs := [], args := [], vararg := none, kwonlyargs := [], kw_defaults := [], kwarg := none, defaults := [] }
noncomputable def j1x (s : Stmt) : List Stmt := match s with
  | .FunctionDef _ _ b _ _ _ _ _ _ _ => b
  | _ => []
noncomputable def j0c (s : Stmt) : Scope := match s with
  | .FunctionDef _ _ _ _ _ _ sc _ _ _ => sc
  | _ => { kind := .function, names := [], isGenerator := false, isCoroutine := false }
abbrev CX0 : CXT := fun _ _ _ _ _ _ => False
abbrev E0 : XK := fun _ _ _ => False
theorem pass0 {X : Cx} : j5t CX0 X E0 := fun _ _ _ _ _ _ _ h => h.elim
structure Fun (K : PySem.W.Frag) (x qual : Str) (st : Stmt) (f : Addr) (fd : FuncData) : Prop where
  ex : ∃ (oc : Value) (od : Option Addr) (kV doc pm : Value) (an : Option Addr) (cdv ct : Value) (osl : Array (Option Value)),
    fd = PySem.W.fnOf x qual (j2v st) (j1x st) (j0c st) .none kV doc pm an cdv ct ∧ K.lookup f = some ⟨oc, od, .func fd, osl⟩ ∧ PySem.W.codeIn K cdv qual = true
  kp : PySem.W.keepIn K (.ref f) = true
section
variable {P : Program} {w : World} {K : PySem.W.Frag} {mg : Str → Option Value} {base : Heap}
theorem Fun.ok {x qual : Str} {st : Stmt} {f : Addr} {fd : FuncData} {N ps : List Str} {k : Nat} {sp : Sp} (F : Fun K x qual st f fd) (S : FnScope N ps (j0c st)) (len : ∀ vs H Q E, sp vs H Q E → vs.length = ps.length)
    (hbody : ∀ (cdv : Value) (A : Around) (outer : List Env) (s : Shared) (H : Hp) (vs : List V) (Q : VK) (E : XK), Room k (A.deeper (envOfC qual (j0c st) s.heap.objs.size f cdv)) → sp vs H Q E →
      ∃ t, PSs (cxOf CX0 P w K mg base N qual (j0c st) f cdv A outer s H E).nox (j1x st) t ∧ t { nx := fun _ H' => Q .non H', rt := Q } (start N vs) H) : FnOk P w K mg base CX0 (k + 1) f fd ps sp := by
  obtain ⟨oc, od, kV, doc, pm, an, cdv, ct, osl, rfl, lk, hcd⟩ := F.ex
  refine fn_of lk hcd S len fun A outer s H vs Q E hr hsp => ?_
  obtain ⟨t, h, q⟩ := hbody cdv A outer s H vs Q E hr hsp
  exact (x9614 t h.nox q)
theorem Fun.binds {x qual : Str} {st : Stmt} {f : Addr} {fd : FuncData} {ps : List Str} (F : Fun K x qual st f fd)
    (h : ∀ (kV doc pm : Value) (an : Option Addr) (cdv ct : Value) (us : List Value), us.length = ps.length → bindArgs (PySem.W.fnOf x qual (j2v st) (j1x st) (j0c st) .none kV doc pm an cdv ct) ⟨us, []⟩ = pure (ps.zip us)) : j4l K fd ps [] := by
  obtain ⟨oc, od, kV, doc, pm, an, cdv, ct, osl, rfl, lk, hcd⟩ := F.ex
  exact .all (h kV doc pm an cdv ct)
theorem fun_mk {x qual : Str} {st : Stmt} {f : Addr} {oc : Value} {od an : Option Addr} {osl : Array (Option Value)} {kV doc pm cdv ct : Value} (l : K.lookup f = some ⟨oc, od, .func (PySem.W.fnOf x qual (j2v st) (j1x st) (j0c st) .none kV doc pm an cdv ct), osl⟩)
    (c : PySem.W.codeIn K cdv qual = true) (k : PySem.W.keepIn K (.ref f) = true) : Fun K x qual st f (PySem.W.fnOf x qual (j2v st) (j1x st) (j0c st) .none kV doc pm an cdv ct) := ⟨(xbc42 oc od kV doc pm an cdv ct osl rfl l c), k⟩
end
theorem hu_of {A : Around} {k : Nat} (hr : Room k A) : A.units + 1 < cLine := Nat.lt_of_le_of_lt (Nat.add_le_add_left (by decide : 1 ≤ 64) _) hr.units
theorem j0z {n : Nat} (h : n ≤ 1000) : n < sizeLine := Nat.lt_of_le_of_lt h (by decide)
section
variable {X : Cx}
theorem pv (i : Nat) {x : Str} {pos : Pos} (hN : X.N[i]? = some x := by rfl) (hv : Vis X.env.scope x := by first | exact Or.inl rfl | exact Or.inr (Or.inl rfl) | exact Or.inr (Or.inr rfl)) (hd : (x == ("__debug__" : Str)) = false := by decide)
    (hcd : (x == ("__classdict__" : Str)) = false := by decide) : PE X (.Name x pos) (tVar i) := pe_var hN hv hd hcd
end
theorem iteF {A B : Prop} (h : B) : if false = true then A else B := by
  rw [if_neg Bool.false_ne_true]
  exact h
theorem iteT {A B : Prop} (h : A) : if true = true then A else B := by
  rw [if_pos rfl]
  exact h
theorem ite2 {c A B : Prop} [Decidable c] (h1 : c → A) (h2 : ¬ c → B) : if c then A else B := by
  by_cases h : c
  · rw [if_pos h]
    exact h1 h
  rw [if_neg h]
  exact h2 h
noncomputable def Same (H H' : Hp) : Prop := ∀ b o, H b = some o → H' b = some o
theorem Same.refl (H : Hp) : Same H H := fun _ _ h => h
theorem Same.trans {H H1 H2 : Hp} (a : Same H H1) (b : Same H1 H2) : Same H H2 := fun c o h => b c o (a c o h)
theorem Same.free {H H' : Hp} (e : Same H H') {l : Addr} (h : H' l = Option.none) : H l = Option.none := by
  cases q : H l with
  | none => rfl
  | some o =>
    rw [e l o q] at h
    cases h
theorem Same.seq {K : PySem.W.Frag} {H H' : Hp} {a : Addr} {xs : List V} (e : Same H H') (h : SqL K H a xs) : SqL K H' a xs := by
  rcases h with (h | ⟨o, h⟩) | h
  · exact .inl (.inl (e _ _ h))
  · exact .inl (.inr ⟨o, e _ _ h⟩)
  exact .inr h
end L2
end
noncomputable section
namespace Srt
open PySem PyProof.Rows
noncomputable def IntKey (p : Keyed) : Prop := ∃ n t, p.1 = .int n t
section
variable {prog : Program} {w : World} {A : Around} {E : Value → Shared → Prop} {s : Shared}
theorem j60 {st : SortSt} {p q : Keyed} {Q : Option Bool → SortSt → Prop} (hk : kindOf st = oneType') (hp : IntKey p) (hq : IntKey q)
    (h : Q (some (decide (numOf p.1 < numOf q.1))) st) : wpS (model prog w) A E s (lt' p q) Q st := by
  obtain ⟨n, t, hn⟩ := hp
  obtain ⟨m, u, hm⟩ := hq
  rw [lt'_eq, hn, hm]
  rw [hn, hm] at h
  refine wpS_bind (wpS_get ?_)
  rw [hk, keyLt'_oneType]
  exact wpS_bind (wpS_lift (wpAny_attempt (oneLt_int ⟨rfl, wpS_pure h⟩)))
theorem j0l {st : SortSt} {arr : Array Keyed} {i : Nat} {p : Keyed} {Q : Keyed → SortSt → Prop} (h : arr[i]? = some p) (hq : Q p st) :
    wpS (model prog w) A E s (elem' arr i) Q st := by
  rw [elem'_eq, h]
  exact wpS_pure hq
noncomputable def bins (bey : Nat → StateT SortSt Sem (Option Bool)) (n lo₀ hi₀ : Nat) : StateT SortSt Sem (Option Nat) := do
  let mut lo := lo₀
  let mut hi := hi₀
  for _ in [0:n] do
    if lo ≥ hi then break
    let m := lo + (hi - lo) / 2
    let some more ← bey m | return none
    if more then lo := m + 1 else hi := m
  return some hi
noncomputable def gal (bey : Nat → StateT SortSt Sem (Option Bool)) (n hint : Nat) : StateT SortSt Sem (Option Nat) := do
  let mut last := 0
  let mut ofs := 1
  let mut lo := 0
  let mut hi := 0
  let some right ← bey hint | return none
  if right then
    let most := n - hint
    for _ in [0:n] do
      if ofs ≥ most then break
      let some more ← bey (hint + ofs) | return none
      if !more then break
      last := ofs
      ofs := 2 * ofs + 1
    lo := hint + last + 1
    hi := hint + min ofs most
  else
    let most := hint + 1
    for _ in [0:n] do
      if ofs ≥ most then break
      let some found ← bey (hint - ofs) | return none
      if found then break
      last := ofs
      ofs := 2 * ofs + 1
    lo := hint + 1 - min ofs most
    hi := hint - last
  bins bey n lo hi
noncomputable def j1i : Bool → Keyed → Array Keyed → Nat → Nat → Nat → StateT SortSt Sem (Option Nat) := sortPriv% PySem.Builtin.gallop
theorem j8o (left : Bool) (key : Keyed) (arr : Array Keyed) (base n hint : Nat) :
    j1i left key arr base n hint = gal (fun i => do
      let x ← elem' arr (base + i)
      if left then lt' x key else return (← lt' key x).map (!·)) n hint := rfl
theorem wpS_gal {bey : Nat → StateT SortSt Sem (Option Bool)} {f : Nat → Bool} {n hint : Nat} {st : SortSt} {Q : Option Nat → SortSt → Prop}
    (hb : ∀ i, i < n → ∀ Q : Option Bool → SortSt → Prop, Q (some (f i)) st → wpS (model prog w) A E s (bey i) Q st)
    (hm : ∀ i j, i ≤ j → j < n → f j = true → f i = true) (hh : hint < n)
    (h : ∀ k, k ≤ n → (∀ i, i < k → f i = true) → (∀ i, k ≤ i → i < n → f i = false) → Q (some k) st) :
    wpS (model prog w) A E s (gal bey n hint) Q st := by
  have hm' : ∀ i j, i ≤ j → j < n → f i = false → f j = false := fun i j hij hj hf => by
    cases e : f j with
    | false => rfl
    | true => rw [hm i j hij hj e] at hf; cases hf
  have bin : ∀ lo hi last ofs : Nat, lo ≤ hi → hi ≤ n → (∀ i, i < lo → f i = true) → (∀ i, hi ≤ i → i < n → f i = false) →
      wpS (model prog w) A E s (bins bey n lo hi) Q st := by
    intro lo hi last ofs h1 h2 h3 h4
    unfold bins
    dsimp only
    refine wpS_bind (wpS_mono (wpS_forRange (I := fun x c st' => st' = st ∧ ∃ l r, c = (none, l, r) ∧ l ≤ r ∧ r ≤ n ∧ r - l ≤ n - x ∧ (∀ i, i < l → f i = true) ∧ (∀ i, r ≤ i → i < n → f i = false))
      (Q := fun c st' => st' = st ∧ ∃ k, c = (none, k, k) ∧ k ≤ n ∧ (∀ i, i < k → f i = true) ∧ (∀ i, k ≤ i → i < n → f i = false)) ?step ?fin (xd962 rfl lo hi rfl h1 h2 (by exact o750fd h2) h3 h4)) ?post)
    case post =>
      rintro c st' ⟨rfl, k, rfl, k1, k2, k3⟩
      exact wpS_pure (h k k1 k2 k3)
    case fin =>
      rintro c st' ⟨rfl, l, r, rfl, a1, a2, a3, a4, a5⟩
      have : l = r := by exact o0d0f8 a1 a3
      subst this
      exact (xeb03 rfl l rfl a2 a4 a5)
    case step =>
      rintro x c st' _ hx ⟨rfl, l, r, rfl, a1, a2, a3, a4, a5⟩
      dsimp only
      by_cases hge : l ≥ r
      · rw [if_pos hge]
        have : l = r := by exact o3bfd2 a1 hge
        subst this
        exact wpS_pure (xeb03 rfl l rfl a2 a4 a5)
      rw [if_neg hge]
      refine wpS_bind (hb _ (by exact o00147 a2 hge) _ ?_)
      dsimp only
      cases e : f (l + (r - l) / 2) with
      | true =>
        rw [if_pos rfl]
        exact wpS_pure (xd962 rfl _ _ rfl (by exact o2fc71 hge) a2 (by exact o4e91e a3) (fun i hi => hm i (l + (r - l) / 2) (by exact oc8b88 hi) (by exact o00147 a2 hge) e) a5)
      | false =>
        rw [if_neg (by simp)]
        exact wpS_pure (xd962 rfl _ _ rfl (by exact o17d79) (by exact o15224 a2 hge) (by exact o715d6 a3) a4 (fun i hi hn => hm' (l + (r - l) / 2) i (by exact o5561a hi) hn e))
  unfold gal
  refine wpS_bind (hb hint hh _ ?_)
  dsimp only
  cases e : f hint with
  | true =>
    rw [if_pos rfl]
    refine wpS_bind (wpS_mono (wpS_forRange (I := fun x c st' => st' = st ∧ ∃ l o, c = (none, l, o) ∧ l < o ∧ x < o ∧ l < n - hint ∧ f (hint + l) = true)
      (Q := fun c st' => st' = st ∧ ∃ l o, c = (none, l, o) ∧ l < o ∧ l < n - hint ∧ f (hint + l) = true ∧ (n - hint ≤ o ∨ f (hint + o) = false)) ?step ?fin (x0a76 rfl 0 1 rfl (by exact oefa14) (by exact oefa14) (by exact oce11a hh) e)) ?post)
    case fin =>
      rintro c st' ⟨rfl, l, o, rfl, a1, a2, a3, a4⟩
      exact (x0a76 rfl l o rfl a1 a3 a4 (.inl (by exact o27e8b a2)))
    case step =>
      rintro x c st' _ hx ⟨rfl, l, o, rfl, a1, a2, a3, a4⟩
      dsimp only
      by_cases hge : o ≥ n - hint
      · rw [if_pos hge]
        exact wpS_pure (x0a76 rfl l o rfl a1 a3 a4 (.inl hge))
      rw [if_neg hge]
      refine wpS_bind (hb _ (by exact o086c3 hge) _ ?_)
      dsimp only
      cases e2 : f (hint + o) with
      | true =>
        simp only [Bool.not_true, Bool.false_eq_true, if_false]
        exact wpS_pure (x0a76 rfl o (2 * o + 1) rfl (by exact o15295) (by exact oe2bc4 a2) (by exact o8acb6 hge) e2)
      | false =>
        simp only [Bool.not_false, if_true]
        exact wpS_pure (x0a76 rfl l o rfl a1 a3 a4 (.inr e2))
    case post =>
      rintro c st' ⟨rfl, l, o, rfl, a1, a2, a3, a4⟩
      dsimp only
      refine bin (hint + l + 1) (hint + min o (n - hint)) l o (by exact o2a10e a1 a2) (by exact of0dd4 a2) (fun i hi => hm i (hint + l) (by exact o91e1e hi) (by exact o5cd43 a2) a3) (fun i hi hn => ?_)
      rcases a4 with a4 | a4
      · omega
      by_cases ho : o ≤ n - hint
      · exact hm' (hint + o) i (by exact o90a57 hi ho) hn a4
      omega
  | false =>
    rw [if_neg (by simp)]
    refine wpS_bind (wpS_mono (wpS_forRange (I := fun x c st' => st' = st ∧ ∃ l o, c = (none, l, o) ∧ l < o ∧ x < o ∧ l ≤ hint ∧ f (hint - l) = false)
      (Q := fun c st' => st' = st ∧ ∃ l o, c = (none, l, o) ∧ l < o ∧ l ≤ hint ∧ f (hint - l) = false ∧ (hint + 1 ≤ o ∨ f (hint - o) = true)) ?step ?fin (x0a76 rfl 0 1 rfl (by exact oefa14) (by exact oefa14) (by exact o871ad) e)) ?post)
    case fin =>
      rintro c st' ⟨rfl, l, o, rfl, a1, a2, a3, a4⟩
      exact (x0a76 rfl l o rfl a1 a3 a4 (.inl (by exact od20cd hh a2)))
    case step =>
      rintro x c st' _ hx ⟨rfl, l, o, rfl, a1, a2, a3, a4⟩
      dsimp only
      by_cases hge : o ≥ hint + 1
      · rw [if_pos hge]
        exact wpS_pure (x0a76 rfl l o rfl a1 a3 a4 (.inl hge))
      rw [if_neg hge]
      refine wpS_bind (hb _ (by exact o8b452 hh) _ ?_)
      dsimp only
      cases e2 : f (hint - o) with
      | true =>
        rw [if_pos rfl]
        exact wpS_pure (x0a76 rfl l o rfl a1 a3 a4 (.inr e2))
      | false =>
        rw [if_neg (by simp)]
        exact wpS_pure (x0a76 rfl o (2 * o + 1) rfl (by exact o15295) (by exact oe2bc4 a2) (by exact o9325a hge) e2)
    case post =>
      rintro c st' ⟨rfl, l, o, rfl, a1, a2, a3, a4⟩
      dsimp only
      refine bin (hint + 1 - min o (hint + 1)) (hint - l) l o (by exact o8d202 a1) (by exact o07564 hh) (fun i hi => ?_) (fun i hi hn => hm' (hint - l) i (by exact o6dd49 hi) hn a3)
      rcases a4 with a4 | a4
      · omega
      by_cases ho : o ≤ hint
      · exact hm i (hint - o) (by exact o2fc81 hi) (by exact o8b452 hh) a4
      omega
end
end Srt
end
noncomputable section
namespace Srt
open PySem PyProof.Rows
abbrev kn (p : Keyed) : Int := numOf p.1
abbrev Up (l : List Keyed) : Prop := l.Pairwise fun x y => kn x ≤ kn y
structure MI (A B O : List Keyed) (i j : Nat) : Prop where
  perm : O.Perm (A.take i ++ B.take j)
  up : Up O
  loA : ∀ x ∈ O, ∀ y ∈ A.drop i, kn x ≤ kn y
  loB : ∀ x ∈ O, ∀ y ∈ B.drop j, kn x ≤ kn y
theorem MI.swap {A B O : List Keyed} {i j : Nat} (m : MI A B O i j) : MI B A O j i := ⟨m.perm.trans List.perm_append_comm, m.up, m.loB, m.loA⟩
theorem Up.drop {l : List Keyed} (h : Up l) (i : Nat) : Up (l.drop i) := h.sublist (List.drop_sublist i l)
theorem Up.take {l : List Keyed} (h : Up l) (i : Nat) : Up (l.take i) := h.sublist (List.take_sublist i l)
theorem Up.app {l r : List Keyed} (h : Up l) (h' : Up r) (c : ∀ x ∈ l, ∀ y ∈ r, kn x ≤ kn y) : Up (l ++ r) := List.pairwise_append.mpr (x3b98 h h' c)
theorem Up.parts {l : List Keyed} (h : Up l) (k : Nat) : ∀ x ∈ l.take k, ∀ y ∈ l.drop k, kn x ≤ kn y := by
  have e : l = l.take k ++ l.drop k := (List.take_append_drop k l).symm
  rw [e] at h
  exact (List.pairwise_append.mp h).2.2
theorem MI.chunk {A B O : List Keyed} {i j : Nat} (m : MI A B O i j) (hA : Up A) (k : Nat) (hk : i + k ≤ A.length) (c : ∀ x ∈ (A.drop i).take k, ∀ y ∈ B.drop j, kn x ≤ kn y) : MI A B (O ++ (A.drop i).take k) (i + k) j where
  perm := by
    have e : A.take (i + k) = A.take i ++ (A.drop i).take k := by rw [List.take_add]
    rw [e]
    refine (m.perm.append_right _).trans ?_
    rw [List.append_assoc, List.append_assoc]
    exact List.Perm.append_left _ List.perm_append_comm
  up := m.up.app ((hA.drop i).take k) fun x hx y hy => m.loA x hx y (List.mem_of_mem_take hy)
  loA := fun x hx y hy => by
    have hy' : y ∈ (A.drop i).drop k := by rw [List.drop_drop]; exact hy
    rcases List.mem_append.mp hx with h | h
    · exact m.loA x h y (List.mem_of_mem_drop hy')
    exact (hA.drop i).parts k x h y hy'
  loB := fun x hx y hy => by
    rcases List.mem_append.mp hx with h | h
    · exact m.loB x h y hy
    exact c x h y hy
theorem MI.chunkB {A B O : List Keyed} {i j : Nat} (m : MI A B O i j) (hB : Up B) (k : Nat) (hk : j + k ≤ B.length) (c : ∀ x ∈ (B.drop j).take k, ∀ y ∈ A.drop i, kn x ≤ kn y) : MI A B (O ++ (B.drop j).take k) i (j + k) :=
  (m.swap.chunk hB k hk c).swap
theorem ja0 {l : List Keyed} {i : Nat} {p : Keyed} (h : l[i]? = some p) : (l.drop i).take 1 = [p] := by
  have hi : i < l.length := (List.getElem?_eq_some_iff.mp h).1
  rw [List.drop_eq_getElem_cons hi]
  have := (List.getElem?_eq_some_iff.mp h).2
  simp [this]
theorem MI.one {A B O : List Keyed} {i j : Nat} {p : Keyed} (m : MI A B O i j) (hA : Up A) (h : A[i]? = some p) (c : ∀ y ∈ B.drop j, kn p ≤ kn y) : MI A B (O ++ [p]) (i + 1) j := by
  have hi : i < A.length := (List.getElem?_eq_some_iff.mp h).1
  have z := m.chunk hA 1 hi (by rw [ja0 h]; intro x hx y hy; rw [List.mem_singleton.mp hx]; exact c y hy)
  rw [ja0 h] at z
  exact z
theorem MI.oneB {A B O : List Keyed} {i j : Nat} {p : Keyed} (m : MI A B O i j) (hB : Up B) (h : B[j]? = some p) (c : ∀ y ∈ A.drop i, kn p ≤ kn y) : MI A B (O ++ [p]) i (j + 1) := (m.swap.one hB h c).swap
theorem Up.head {l : List Keyed} (h : Up l) {i : Nat} {p : Keyed} (e : l[i]? = some p) : ∀ y ∈ l.drop i, kn p ≤ kn y := by
  have hi : i < l.length := (List.getElem?_eq_some_iff.mp e).1
  have e2 := (List.getElem?_eq_some_iff.mp e).2
  have h' := h.drop i
  rw [List.drop_eq_getElem_cons hi, e2] at h'
  intro y hy
  rw [List.drop_eq_getElem_cons hi, e2] at hy
  rcases List.mem_cons.mp hy with rfl | hy
  · exact Int.le_refl _
  exact (List.pairwise_cons.mp h').1 y hy
noncomputable def Res (A B R : List Keyed) : Prop := R.Perm (A ++ B) ∧ Up R
theorem MI.all {A B O : List Keyed} {i j : Nat} (m : MI A B O i j) : (O ++ (A.drop i ++ B.drop j)).Perm (A ++ B) := by
  refine (m.perm.append_right _).trans ?_
  have e : A ++ B = (A.take i ++ A.drop i) ++ (B.take j ++ B.drop j) := by rw [List.take_append_drop, List.take_append_drop]
  rw [e, List.append_assoc, List.append_assoc]
  refine List.Perm.append_left _ ?_
  rw [← List.append_assoc, ← List.append_assoc]
  exact List.Perm.append_right _ List.perm_append_comm
theorem MI.fin {A B O : List Keyed} {i j : Nat} (m : MI A B O i j) (hA : Up A) (hB : Up B) (h : A.length ≤ i ∨ B.length ≤ j) : Res A B (O ++ A.drop i ++ B.drop j) := by
  refine ⟨by rw [List.append_assoc]; exact m.all, ?_⟩
  refine (m.up.app (hA.drop i) m.loA).app (hB.drop j) fun x hx y hy => ?_
  rcases List.mem_append.mp hx with hx | hx
  · exact m.loB x hx y hy
  rcases h with h | h
  · rw [List.drop_eq_nil_of_le h] at hx; cases hx
  rw [List.drop_eq_nil_of_le h] at hy; cases hy
theorem MI.las {A B O : List Keyed} {i j : Nat} (m : MI A B O i j) (hA : Up A) (hB : Up B) (c : ∀ x ∈ B, ∀ y ∈ A.drop i, kn x ≤ kn y) : Res A B (O ++ B.drop j ++ A.drop i) := by
  refine ⟨?_, ?_⟩
  · rw [List.append_assoc]
    exact (List.Perm.append_left _ List.perm_append_comm).trans m.all
  refine (m.up.app (hB.drop j) m.loB).app (hA.drop i) fun x hx y hy => ?_
  rcases List.mem_append.mp hx with hx | hx
  · exact m.loA x hx y hy
  exact c x (List.mem_of_mem_drop hx) y hy
noncomputable def Like (st st' : SortSt) : Prop := kindOf st' = kindOf st ∧ arrOf st' = arrOf st ∧ pendingOf st' = pendingOf st ∧ failedOf st' = failedOf st
theorem Like.refl (st : SortSt) : Like st st := (xe1fa rfl rfl rfl rfl)
noncomputable def j27 : Nat → StateT SortSt Sem Unit := sortPriv% PySem.Builtin.setMinGallop
theorem j2o (g : Nat) : j27 g = modify fun st => SortSt.mk' (kindOf st) (arrOf st) (pendingOf st) g (failedOf st) := rfl
abbrev LoSt := Option (Array Keyed) × Array Keyed × Nat × Nat × Nat × Nat × Nat
noncomputable def fiA (a b o : Array Keyed) (x y : Nat) : Array Keyed := o ++ a.extract x a.size ++ b.extract y b.size
noncomputable def laA (a b o : Array Keyed) (x y : Nat) : Array Keyed := o ++ b.extract y b.size ++ a.extract x a.size
noncomputable def lo0 (a b : Array Keyed) (g : Nat) (c : Option (Array Keyed) × Array Keyed × Nat × Nat × Nat × Nat) : StateT SortSt Sem (ForInStep (Option (Array Keyed) × Array Keyed × Nat × Nat × Nat × Nat)) := do
  let q ← elem' b c.2.2.2.1
  let p ← elem' a c.2.2.1
  let some t ← lt' q p | pure (.done (some (fiA a b c.2.1 c.2.2.1 c.2.2.2.1), c.2.1, c.2.2.1, c.2.2.2.1, c.2.2.2.2.1, c.2.2.2.2.2))
  if t then
    let q ← elem' b c.2.2.2.1
    if c.2.2.2.1 + 1 == b.size then pure (.done (some (fiA a b (c.2.1.push q) c.2.2.1 (c.2.2.2.1 + 1)), c.2.1.push q, c.2.2.1, c.2.2.2.1 + 1, 0, c.2.2.2.2.2 + 1))
    else if c.2.2.2.2.2 + 1 ≥ g then pure (.done (none, c.2.1.push q, c.2.2.1, c.2.2.2.1 + 1, 0, c.2.2.2.2.2 + 1))
    else pure (.yield (none, c.2.1.push q, c.2.2.1, c.2.2.2.1 + 1, 0, c.2.2.2.2.2 + 1))
  else
    let p ← elem' a c.2.2.1
    if c.2.2.1 + 1 + 1 == a.size then pure (.done (some (laA a b (c.2.1.push p) (c.2.2.1 + 1) c.2.2.2.1), c.2.1.push p, c.2.2.1 + 1, c.2.2.2.1, c.2.2.2.2.1 + 1, 0))
    else if c.2.2.2.2.1 + 1 ≥ g then pure (.done (none, c.2.1.push p, c.2.2.1 + 1, c.2.2.2.1, c.2.2.2.2.1 + 1, 0))
    else pure (.yield (none, c.2.1.push p, c.2.2.1 + 1, c.2.2.2.1, c.2.2.2.2.1 + 1, 0))
noncomputable def lo4 (a b o : Array Keyed) (i j g m n : Nat) : StateT SortSt Sem (ForInStep LoSt) := do
  let p ← elem' a i
  if i + 1 + 1 == a.size then pure (.done (some (laA a b (o.push p) (i + 1) j), o.push p, i + 1, j, g, m, n))
  else if (m < 7 && n < 7) = true then pure (.done (none, o.push p, i + 1, j, g, m, n))
  else pure (.yield (none, o.push p, i + 1, j, g, m, n))
noncomputable def lo3 (a b o : Array Keyed) (i j g m n : Nat) : StateT SortSt Sem (ForInStep LoSt) := do
  let p ← elem' a i
  let some k ← j1i true p b j (b.size - j) 0 | pure (.done (some (fiA a b o i j), o, i, j, g, m, n))
  if k > 0 then
    if j + k == b.size then pure (.done (some (fiA a b (o ++ b.extract j (j + k)) i (j + k)), o ++ b.extract j (j + k), i, j + k, g, m, k))
    else lo4 a b (o ++ b.extract j (j + k)) i (j + k) g m k
  else lo4 a b o i j g m k
noncomputable def lo2 (a b o : Array Keyed) (i j g m n : Nat) : StateT SortSt Sem (ForInStep LoSt) := do
  let q ← elem' b j
  if j + 1 == b.size then pure (.done (some (fiA a b (o.push q) i (j + 1)), o.push q, i, j + 1, g, m, n))
  else lo3 a b (o.push q) i (j + 1) g m n
noncomputable def lo1 (a b o : Array Keyed) (i j g m n : Nat) : StateT SortSt Sem (ForInStep LoSt) := do
  j27 g
  let q ← elem' b j
  let some k ← j1i false q a i (a.size - i) 0 | pure (.done (some (fiA a b o i j), o, i, j, g, m, n))
  if k > 0 then
    if i + k + 1 == a.size then pure (.done (some (laA a b (o ++ a.extract i (i + k)) (i + k) j), o ++ a.extract i (i + k), i + k, j, g, k, n))
    else if i + k == a.size then pure (.done (some (fiA a b (o ++ a.extract i (i + k)) (i + k) j), o ++ a.extract i (i + k), i + k, j, g, k, n))
    else lo2 a b (o ++ a.extract i (i + k)) (i + k) j g k n
  else lo2 a b o i j g k n
noncomputable def loG (a b : Array Keyed) (c : LoSt) : StateT SortSt Sem (ForInStep LoSt) :=
  if c.2.2.2.2.1 > 1 then lo1 a b c.2.1 c.2.2.1 c.2.2.2.1 (c.2.2.2.2.1 - 1) c.2.2.2.2.2.1 c.2.2.2.2.2.2
  else lo1 a b c.2.1 c.2.2.1 c.2.2.2.1 c.2.2.2.2.1 c.2.2.2.2.2.1 c.2.2.2.2.2.2
noncomputable def loT (a b : Array Keyed) (c : Option (Array Keyed) × Array Keyed × Nat × Nat × Nat) : StateT SortSt Sem (ForInStep (Option (Array Keyed) × Array Keyed × Nat × Nat × Nat)) := do
  let r ← forIn [0:a.size + b.size] ((none, c.2.1, c.2.2.1, c.2.2.2.1, 0, 0) : Option (Array Keyed) × Array Keyed × Nat × Nat × Nat × Nat) fun _ z => lo0 a b c.2.2.2.2 z
  match r.1 with
  | some R => pure (.done (some R, r.2.1, r.2.2.1, r.2.2.2.1, c.2.2.2.2))
  | none => do
    rule "list.sort.gallop"
    let r ← forIn [0:a.size + b.size] ((none, r.2.1, r.2.2.1, r.2.2.2.1, c.2.2.2.2 + 1, r.2.2.2.2.1, r.2.2.2.2.2) : LoSt) fun _ z => loG a b z
    match r.1 with
    | some R => pure (.done (some R, r.2.1, r.2.2.1, r.2.2.2.1, r.2.2.2.2.1))
    | none => do
      j27 (r.2.2.2.2.1 + 1)
      pure (.yield (none, r.2.1, r.2.2.1, r.2.2.2.1, r.2.2.2.2.1 + 1))
noncomputable def mLo (a b : Array Keyed) : StateT SortSt Sem (Array Keyed) := do
  rule "list.sort.merge-lo"
  let q ← elem' b 0
  if 1 == b.size then return fiA a b #[q] 0 1
  if 0 + 1 == a.size then return laA a b #[q] 0 1
  let g := gallopOf (← get)
  let r ← forIn [0:a.size + b.size] ((none, #[q], 0, 1, g) : Option (Array Keyed) × Array Keyed × Nat × Nat × Nat) fun _ z => loT a b z
  match r.1 with
  | some R => pure R
  | none => unsupported "internal:list.sort.merge-bound"
noncomputable def mLoD (a b : Array Keyed) : StateT SortSt Sem (Array Keyed) := do
  rule "list.sort.merge-lo"
  let tot := a.size + b.size
  let fin (o : Array Keyed) (x y : Nat) := o ++ a.extract x a.size ++ b.extract y b.size
  let las (o : Array Keyed) (x y : Nat) := o ++ b.extract y b.size ++ a.extract x a.size
  let mut o : Array Keyed := #[← elem' b 0]
  let mut i := 0
  let mut j := 1
  if j == b.size then return fin o i j
  if i + 1 == a.size then return las o i j
  let mut g := gallopOf (← get)
  for _ in [0:tot] do
    let mut m := 0
    let mut n := 0
    for _ in [0:tot] do
      let some t ← lt' (← elem' b j) (← elem' a i) | return fin o i j
      if t then
        o := o.push (← elem' b j); j := j + 1; n := n + 1; m := 0
        if j == b.size then return fin o i j
        if n ≥ g then break
      else
        o := o.push (← elem' a i); i := i + 1; m := m + 1; n := 0
        if i + 1 == a.size then return las o i j
        if m ≥ g then break
    rule "list.sort.gallop"
    g := g + 1
    for _ in [0:tot] do
      if g > 1 then g := g - 1
      j27 g
      let some k ← j1i false (← elem' b j) a i (a.size - i) 0 | return fin o i j
      m := k
      if k > 0 then
        o := o ++ a.extract i (i + k); i := i + k
        if i + 1 == a.size then return las o i j
        if i == a.size then return fin o i j
      o := o.push (← elem' b j); j := j + 1
      if j == b.size then return fin o i j
      let some k ← j1i true (← elem' a i) b j (b.size - j) 0 | return fin o i j
      n := k
      if k > 0 then
        o := o ++ b.extract j (j + k); j := j + k
        if j == b.size then return fin o i j
      o := o.push (← elem' a i); i := i + 1
      if i + 1 == a.size then return las o i j
      if m < 7 && n < 7 then break
    g := g + 1
    j27 g
  unsupported "internal:list.sort.merge-bound"
noncomputable def j56 : Array Keyed → Array Keyed → StateT SortSt Sem (Array Keyed) := sortPriv% PySem.Builtin.mergeLo
theorem j61 (a b : Array Keyed) : j56 a b = mLoD a b := rfl
theorem mLoD_eq (a b : Array Keyed) : mLoD a b = mLo a b := by
  unfold mLoD mLo
  refine congrArg _ (funext fun _ => ?_)
  refine congrArg (fun k => elem' b 0 >>= k) (funext fun q => ?_)
  show (if (1 == b.size) = true then _ else if (0 + 1 == a.size) = true then _ else (get >>= _)) = _
  refine congrArg (fun k => if (1 == b.size) = true then pure (fiA a b #[q] 0 1) else k) ?_
  refine congrArg (fun k => if (0 + 1 == a.size) = true then pure (laA a b #[q] 0 1) else k) ?_
  refine congrArg (fun k => get >>= k) (funext fun st => ?_)
  show ((forIn _ _ _) >>= _) = _
  refine congr (congrArg _ ?_) ?_
  · refine congrArg _ (funext fun _ => funext fun c => ?_)
    unfold loT
    show ((forIn _ _ _) >>= _) = _
    refine congr (congrArg _ ?_) ?_
    · rfl
    refine funext fun r => ?_
    obtain ⟨r1, r2⟩ := r
    cases r1
    · show (liftM _ >>= fun _ => ((forIn _ _ _) >>= _)) = _
      refine congrArg _ (funext fun _ => ?_)
      refine congr (congrArg _ ?_) ?_
      · refine congrArg _ (funext fun _ => funext fun c => ?_)
        unfold loG lo1
        rfl
      refine funext fun r => ?_
      obtain ⟨r1, _⟩ := r
      cases r1 <;> rfl
    rfl
  refine funext fun r => ?_
  obtain ⟨r1, _⟩ := r
  cases r1 <;> rfl
end Srt
end
noncomputable section
namespace Srt
open PySem PyProof.Rows
theorem j1j {a : Array Keyed} (ia : ∀ p ∈ a.toList, IntKey p) {i : Nat} (h : i < a.size) : ∃ q, a[i]? = some q ∧ a.toList[i]? = some q ∧ IntKey q := by
  refine (x0c0c (a[i]) (by simp [h]) (by simp [h]) (ia _ (by simp)))
theorem K_at {a : Array Keyed} {i : Nat} {q : Keyed} (h : a[i]? = some q) : K a i = kn q := by unfold K; rw [h]
section
variable {prog : Program} {w : World} {A : Around} {E : Value → Shared → Prop} {s : Shared}
noncomputable def fq (left : Bool) (key : Keyed) (arr : Array Keyed) (base i : Nat) : Bool := if left then decide (K arr (base + i) < kn key) else !decide (kn key < K arr (base + i))
theorem j1p {left : Bool} {key : Keyed} {arr : Array Keyed} {base n hint : Nat} {st : SortSt} {Q : Option Nat → SortSt → Prop}
    (hk : kindOf st = oneType') (ik : IntKey key) (hi : ∀ i, i < n → ∃ q, arr[base + i]? = some q ∧ IntKey q)
    (hm : ∀ i j, i ≤ j → j < n → K arr (base + i) ≤ K arr (base + j)) (hh : hint < n)
    (h : ∀ k, k ≤ n → (∀ i, i < k → fq left key arr base i = true) → (∀ i, k ≤ i → i < n → fq left key arr base i = false) → Q (some k) st) :
    wpS (model prog w) A E s (j1i left key arr base n hint) Q st := by
  rw [j8o]
  refine wpS_gal (f := fq left key arr base) (fun i hin Q' hq => ?_) (fun i j hij hj e => ?_) hh h
  · obtain ⟨q, e, iq⟩ := hi i hin
    refine wpS_bind (j0l e ?_)
    unfold fq at hq
    rw [K_at e] at hq
    cases left with
    | true => exact j60 hk iq ik (by simpa using hq)
    | false =>
      refine wpS_bind (j60 hk ik iq ?_)
      exact wpS_pure (by simpa using hq)
  have := hm i j hij hj
  unfold fq at e ⊢
  cases left <;> simp at e ⊢ <;> omega
theorem Up.K_le {a : Array Keyed} (u : Up a.toList) {i j : Nat} (hij : i ≤ j) (hj : j < a.size) : K a i ≤ K a j := by
  have hi : i < a.size := by exact of192c hij hj
  have e1 : a[i]? = some a[i] := by simp [hi]
  have e2 : a[j]? = some a[j] := by simp [hj]
  rw [K_at e1, K_at e2]
  by_cases h : i = j
  · subst h; exact Int.le_refl _
  have := List.pairwise_iff_getElem.mp u i j (by simpa using hi) (by simpa using hj) (by exact o6f926 hij h)
  simpa using this
theorem j2j {a : Array Keyed} {i k : Nat} {x : Keyed} (h : x ∈ (a.toList.drop i).take k) : ∃ m, m < k ∧ i + m < a.size ∧ K a (i + m) = kn x := by
  obtain ⟨m, hm, e⟩ := List.mem_iff_getElem.mp h
  rw [List.length_take, List.length_drop] at hm
  have h1 : i + m < a.toList.length := by exact o73e08 hm
  have e' : a.toList[i + m] = x := by
    rw [← e]; simp [List.getElem_take, List.getElem_drop]
  refine (x0c0c m (by exact o4a259 hm) (by simpa using h1) ?_)
  have e1 : a[i + m]? = some x := by rw [← e']; simp at h1; simp [h1]
  exact K_at e1
theorem j4u {a : Array Keyed} {i : Nat} {x : Keyed} (h : x ∈ a.toList.drop i) : ∃ m, i + m < a.size ∧ K a (i + m) = kn x := by
  have h' : x ∈ (a.toList.drop i).take a.toList.length := by
    rw [List.take_of_length_le (by simp)]
    exact h
  obtain ⟨m, _, h1, h2⟩ := j2j h'
  exact (x9614 m h1 h2)
theorem j3n (a : Array Keyed) (i : Nat) : (a.extract i a.size).toList = a.toList.drop i := by
  rw [Array.toList_extract, List.extract_eq_take_drop]
  exact List.take_of_length_le (by simp)
theorem j62 (a : Array Keyed) (i k : Nat) : (a.extract i (i + k)).toList = (a.toList.drop i).take k := by
  rw [Array.toList_extract, List.extract_eq_take_drop]
  congr 1
  exact o69e25
theorem j63 (a : Array Keyed) (x : Keyed) : (a.push x).toList = a.toList ++ [x] := by simp
structure Two (a b : Array Keyed) : Prop where
  ia : ∀ p ∈ a.toList, IntKey p
  ib : ∀ p ∈ b.toList, IntKey p
  uA : Up a.toList
  uB : Up b.toList
  ha : 0 < a.size
  hb : 0 < b.size
  first : ∀ q, b.toList[0]? = some q → ∀ y ∈ a.toList, kn q ≤ kn y
  last : ∀ x ∈ b.toList, ∀ y ∈ a.toList.drop (a.size - 1), kn x ≤ kn y
theorem Two.fi {a b : Array Keyed} (T : Two a b) {o : Array Keyed} {i j : Nat} (m : MI a.toList b.toList o.toList i j) (hj : a.size ≤ i ∨ b.size ≤ j) : Res a.toList b.toList (fiA a b o i j).toList := by
  unfold fiA
  rw [Array.toList_append, Array.toList_append, j3n, j3n]
  exact m.fin T.uA T.uB (by simpa using hj)
theorem Two.la {a b : Array Keyed} (T : Two a b) {o : Array Keyed} {i j : Nat} (m : MI a.toList b.toList o.toList i j) (hi : i + 1 = a.size) : Res a.toList b.toList (laA a b o i j).toList := by
  unfold laA
  rw [Array.toList_append, Array.toList_append, j3n, j3n]
  refine m.las T.uA T.uB ?_
  have : i = a.size - 1 := by exact o78ad7 hi
  rw [this]
  exact T.last
theorem Two.pushB {a b : Array Keyed} (T : Two a b) {o : Array Keyed} {i j : Nat} {q : Keyed} (m : MI a.toList b.toList o.toList i j) (e : b.toList[j]? = some q) (c : ∀ y ∈ a.toList.drop i, kn q ≤ kn y) : MI a.toList b.toList (o.push q).toList i (j + 1) := by
  rw [j63]; exact m.oneB T.uB e c
theorem Two.pushA {a b : Array Keyed} (T : Two a b) {o : Array Keyed} {i j : Nat} {q : Keyed} (m : MI a.toList b.toList o.toList i j) (e : a.toList[i]? = some q) (c : ∀ y ∈ b.toList.drop j, kn q ≤ kn y) : MI a.toList b.toList (o.push q).toList (i + 1) j := by
  rw [j63]; exact m.one T.uA e c
theorem Two.manyA {a b : Array Keyed} (T : Two a b) {o : Array Keyed} {i j k : Nat} (m : MI a.toList b.toList o.toList i j) (hk : i + k ≤ a.size) (c : ∀ x ∈ (a.toList.drop i).take k, ∀ y ∈ b.toList.drop j, kn x ≤ kn y) : MI a.toList b.toList (o ++ a.extract i (i + k)).toList (i + k) j := by
  rw [Array.toList_append, j62]; exact m.chunk T.uA k (by simpa using hk) c
theorem Two.manyB {a b : Array Keyed} (T : Two a b) {o : Array Keyed} {i j k : Nat} (m : MI a.toList b.toList o.toList i j) (hk : j + k ≤ b.size) (c : ∀ x ∈ (b.toList.drop j).take k, ∀ y ∈ a.toList.drop i, kn x ≤ kn y) : MI a.toList b.toList (o ++ b.extract j (j + k)).toList i (j + k) := by
  rw [Array.toList_append, j62]; exact m.chunkB T.uB k (by simpa using hk) c
theorem Like.step {st st' : SortSt} (l : Like st st') (g : Nat) : Like st (SortSt.mk' (kindOf st') (arrOf st') (pendingOf st') g (failedOf st')) := (xe1fa l.1 l.2.1 l.2.2.1 l.2.2.2)
noncomputable def Aft0 (a b : Array Keyed) (N : Nat) (c : Option (Array Keyed) × Array Keyed × Nat × Nat × Nat × Nat) : Prop :=
  (∃ R, c.1 = some R ∧ Res a.toList b.toList R.toList) ∨ (∃ o i j m n, c = (none, o, i, j, m, n) ∧ MI a.toList b.toList o.toList i j ∧ i + 1 < a.size ∧ j < b.size ∧ N ≤ i + j)
theorem wpS_lo0 {a b o : Array Keyed} {i j g m n : Nat} {st st' : SortSt} (hk : kindOf st = oneType') (T : Two a b) (l : Like st st') (I : MI a.toList b.toList o.toList i j) (h1 : i + 1 < a.size) (h2 : j < b.size)
    {Q : ForInStep (Option (Array Keyed) × Array Keyed × Nat × Nat × Nat × Nat) → SortSt → Prop}
    (hd : ∀ c, Aft0 a b (i + j + 1) c → Q (.done c) st') (hy : ∀ o' i' j' m' n', MI a.toList b.toList o'.toList i' j' → i' + 1 < a.size → j' < b.size → i + j + 1 ≤ i' + j' → Q (.yield (none, o', i', j', m', n')) st') :
    wpS (model prog w) A E s (lo0 a b g (none, o, i, j, m, n)) Q st' := by
  obtain ⟨q, e1, e1', k1⟩ := j1j T.ib h2
  obtain ⟨p, e2, e2', k2⟩ := j1j T.ia (show i < a.size by exact ofa809 h1)
  unfold lo0
  dsimp only
  refine wpS_bind (j0l e1 (wpS_bind (j0l e2 (wpS_bind (j60 (l.1.trans hk) k1 k2 ?_)))))
  dsimp only
  by_cases c : kn q < kn p
  · rw [if_pos (by simpa using c)]
    refine wpS_bind (j0l e1 ?_)
    have I' : MI a.toList b.toList (o.push q).toList i (j + 1) := T.pushB I e1' fun y hy => Int.le_trans (Int.le_of_lt c) (T.uA.head e2' y hy)
    by_cases hb : j + 1 = b.size
    · rw [if_pos (by simpa using hb)]
      exact wpS_pure (hd _ (.inl (x9614 _ rfl (T.fi I' (.inr (by exact o17e60 hb))))))
    rw [if_neg (by simpa using hb)]
    by_cases hg : n + 1 ≥ g
    · rw [if_pos hg]
      exact wpS_pure (hd _ (.inr (x2633 _ _ _ _ _ rfl I' h1 (by exact oc78a4 h2 hb) (by exact oe9ead))))
    rw [if_neg hg]
    exact wpS_pure (hy _ _ _ _ _ I' h1 (by exact oc78a4 h2 hb) (by exact oe9ead))
  rw [if_neg (by simpa using c)]
  refine wpS_bind (j0l e2 ?_)
  have I' : MI a.toList b.toList (o.push p).toList (i + 1) j := T.pushA I e2' fun y hy => Int.le_trans (Int.not_lt.mp c) (T.uB.head e1' y hy)
  by_cases hb : i + 1 + 1 = a.size
  · rw [if_pos (by simpa using hb)]
    exact wpS_pure (hd _ (.inl (x9614 _ rfl (T.la I' hb))))
  rw [if_neg (by simpa using hb)]
  by_cases hg : m + 1 ≥ g
  · rw [if_pos hg]
    exact wpS_pure (hd _ (.inr (x2633 _ _ _ _ _ rfl I' (by exact oe795f h1 hb) (by exact o14dc1 h2) (by exact od1da0))))
  rw [if_neg hg]
  exact wpS_pure (hy _ _ _ _ _ I' (by exact oe795f h1 hb) (by exact o14dc1 h2) (by exact od1da0))
noncomputable def Aft1 (a b : Array Keyed) (N : Nat) (c : LoSt) : Prop :=
  (∃ R, c.1 = some R ∧ Res a.toList b.toList R.toList) ∨ (∃ o i j g m n, c = (none, o, i, j, g, m, n) ∧ MI a.toList b.toList o.toList i j ∧ i + 1 < a.size ∧ j < b.size ∧ N ≤ i + j)
noncomputable def W1 (a b : Array Keyed) (st : SortSt) (N : Nat) (r : ForInStep LoSt) (st' : SortSt) : Prop :=
  Like st st' ∧ match r with
    | .done c => Aft1 a b N c
    | .yield c => c.1 = none ∧ Aft1 a b N c
theorem ja1 {a b o : Array Keyed} {i j g m n N : Nat} {st st' : SortSt} (T : Two a b) (l : Like st st') (I : MI a.toList b.toList o.toList i j) (h1 : i + 1 < a.size) (h2 : j < b.size) (hN : N ≤ i + j) (lo : ∀ p, a.toList[i]? = some p → ∀ y ∈ b.toList.drop j, kn p ≤ kn y) :
    wpS (model prog w) A E s (lo4 a b o i j g m n) (W1 a b st N) st' := by
  obtain ⟨p, e2, e2', k2⟩ := j1j T.ia (show i < a.size by exact ofa809 h1)
  unfold lo4
  refine wpS_bind (j0l e2 ?_)
  have I' : MI a.toList b.toList (o.push p).toList (i + 1) j := T.pushA I e2' (lo p e2')
  by_cases hb : i + 1 + 1 = a.size
  · rw [if_pos (by simpa using hb)]
    exact wpS_pure ⟨l, .inl (x9614 _ rfl (T.la I' hb))⟩
  rw [if_neg (by simpa using hb)]
  split
  · exact wpS_pure ⟨l, .inr (x4299 _ _ _ _ _ _ rfl I' (by exact oe795f h1 hb) (by exact o14dc1 h2) (by exact o1f3fc hN))⟩
  exact wpS_pure (x3b98 l rfl (.inr (x4299 _ _ _ _ _ _ rfl I' (by exact oe795f h1 hb) (by exact o14dc1 h2) (by exact o1f3fc hN))))
theorem wpS_lo3 {a b o : Array Keyed} {i j g m n N : Nat} {st st' : SortSt} (hk : kindOf st = oneType') (T : Two a b) (l : Like st st') (I : MI a.toList b.toList o.toList i j) (h1 : i + 1 < a.size) (h2 : j < b.size) (hN : N ≤ i + j) :
    wpS (model prog w) A E s (lo3 a b o i j g m n) (W1 a b st N) st' := by
  obtain ⟨p, e2, e2', k2⟩ := j1j T.ia (show i < a.size by exact ofa809 h1)
  unfold lo3
  refine wpS_bind (j0l e2 (wpS_bind ?_))
  refine j1p (l.1.trans hk) k2 (fun x hx => ?_) (fun x y hxy hy => T.uB.K_le (by exact ocaada hxy) (by exact o5cd43 hy)) (by exact oce11a h2) fun k hk0 ht hf => ?_
  · obtain ⟨q, z1, _, z2⟩ := j1j T.ib (show j + x < b.size by exact o5cd43 hx)
    exact (x9614 q z1 z2)
  dsimp only
  have lo : ∀ p', a.toList[i]? = some p' → ∀ y ∈ b.toList.drop (j + k), kn p' ≤ kn y := fun p' e y hy => by
    rw [e2'] at e; cases e
    obtain ⟨x, hx, e3⟩ := j4u hy
    have := hf (k + x) (by exact o4937f) (by exact oace3d hx)
    unfold fq at this
    simp at this
    rw [← Nat.add_assoc, e3] at this
    exact this
  by_cases h0 : k > 0
  · rw [if_pos h0]
    have I' : MI a.toList b.toList (o ++ b.extract j (j + k)).toList i (j + k) := T.manyB I (by exact o17fa4 hk0 h0) fun x hx y hy => by
      obtain ⟨z, hz, _, e3⟩ := j2j hx
      have := ht z hz
      unfold fq at this
      simp at this
      rw [e3] at this
      exact Int.le_trans (Int.le_of_lt this) (T.uA.head e2' y hy)
    by_cases hb : j + k = b.size
    · rw [if_pos (by simpa using hb)]
      exact wpS_pure ⟨l, .inl (x9614 _ rfl (T.fi I' (.inr (by exact oe4bec hb))))⟩
    rw [if_neg (by simpa using hb)]
    exact ja1 T l I' h1 (by exact o79b33 hk0 h0 hb) (by exact o42182 hN) lo
  rw [if_neg h0]
  have : k = 0 := by exact o9a6f0 h0
  subst this
  exact ja1 T l I h1 h2 hN lo
theorem ja2 {a b o : Array Keyed} {i j g m n N : Nat} {st st' : SortSt} (hk : kindOf st = oneType') (T : Two a b) (l : Like st st') (I : MI a.toList b.toList o.toList i j) (h1 : i + 1 < a.size) (h2 : j < b.size) (hN : N ≤ i + j) (lo : ∀ p, b.toList[j]? = some p → ∀ y ∈ a.toList.drop i, kn p ≤ kn y) :
    wpS (model prog w) A E s (lo2 a b o i j g m n) (W1 a b st N) st' := by
  obtain ⟨q, e1, e1', k1⟩ := j1j T.ib h2
  unfold lo2
  refine wpS_bind (j0l e1 ?_)
  have I' : MI a.toList b.toList (o.push q).toList i (j + 1) := T.pushB I e1' (lo q e1')
  by_cases hb : j + 1 = b.size
  · rw [if_pos (by simpa using hb)]
    exact wpS_pure ⟨l, .inl (x9614 _ rfl (T.fi I' (.inr (by exact o17e60 hb))))⟩
  rw [if_neg (by simpa using hb)]
  exact wpS_lo3 hk T l I' h1 (by exact oc78a4 h2 hb) (by exact o32a85 hN)
theorem ja3 {a b o : Array Keyed} {i j g m n N : Nat} {st st' : SortSt} (hk : kindOf st = oneType') (T : Two a b) (l : Like st st') (I : MI a.toList b.toList o.toList i j) (h1 : i + 1 < a.size) (h2 : j < b.size) (hN : N ≤ i + j) :
    wpS (model prog w) A E s (lo1 a b o i j g m n) (W1 a b st N) st' := by
  obtain ⟨q, e1, e1', k1⟩ := j1j T.ib h2
  unfold lo1
  rw [j2o]
  refine wpS_bind (wpS_modify ?_)
  have l' := l.step g
  refine wpS_bind (j0l e1 (wpS_bind ?_))
  refine j1p (l'.1.trans hk) k1 (fun x hx => ?_) (fun x y hxy hy => T.uA.K_le (by exact ocaada hxy) (by exact o5cd43 hy)) (by exact oc849a h1) fun k hk0 ht hf => ?_
  · obtain ⟨q, z1, _, z2⟩ := j1j T.ia (show i + x < a.size by exact o5cd43 hx)
    exact (x9614 q z1 z2)
  dsimp only
  have lo : ∀ p', b.toList[j]? = some p' → ∀ y ∈ a.toList.drop (i + k), kn p' ≤ kn y := fun p' e y hy => by
    rw [e1'] at e; cases e
    obtain ⟨x, hx, e3⟩ := j4u hy
    have := hf (k + x) (by exact o4937f) (by exact oace3d hx)
    unfold fq at this
    simp at this
    rw [← Nat.add_assoc, e3] at this
    exact Int.le_of_lt this
  by_cases h0 : k > 0
  · rw [if_pos h0]
    have I' : MI a.toList b.toList (o ++ a.extract i (i + k)).toList (i + k) j := T.manyA I (by exact o17fa4 hk0 h0) fun x hx y hy => by
      obtain ⟨z, hz, _, e3⟩ := j2j hx
      have := ht z hz
      unfold fq at this
      simp at this
      rw [e3] at this
      exact Int.le_trans this (T.uB.head e1' y hy)
    by_cases hb : i + k + 1 = a.size
    · rw [if_pos (by simpa using hb)]
      exact wpS_pure ⟨l', .inl (x9614 _ rfl (T.la I' hb))⟩
    rw [if_neg (by simpa using hb)]
    by_cases hb2 : i + k = a.size
    · rw [if_pos (by simpa using hb2)]
      exact wpS_pure ⟨l', .inl (x9614 _ rfl (T.fi I' (.inl (by exact oe4bec hb2))))⟩
    rw [if_neg (by simpa using hb2)]
    exact ja2 hk T l' I' (by exact o9b529 hk0 h0 hb hb2) h2 (by exact obc70b hN) lo
  rw [if_neg h0]
  have : k = 0 := by exact o9a6f0 h0
  subst this
  exact ja2 hk T l' I h1 h2 hN lo
theorem wpS_loG {a b o : Array Keyed} {i j g m n N : Nat} {st st' : SortSt} (hk : kindOf st = oneType') (T : Two a b) (l : Like st st') (I : MI a.toList b.toList o.toList i j) (h1 : i + 1 < a.size) (h2 : j < b.size) (hN : N ≤ i + j) :
    wpS (model prog w) A E s (loG a b (none, o, i, j, g, m, n)) (W1 a b st N) st' := by
  unfold loG
  dsimp only
  split
  · exact ja3 hk T l I h1 h2 hN
  exact ja3 hk T l I h1 h2 hN
theorem wpS_loT {a b o : Array Keyed} {i j g : Nat} {st st' : SortSt} (hk : kindOf st = oneType') (T : Two a b) (l : Like st st') (I : MI a.toList b.toList o.toList i j) (h1 : i + 1 < a.size) (h2 : j < b.size)
    {Q : ForInStep (Option (Array Keyed) × Array Keyed × Nat × Nat × Nat) → SortSt → Prop}
    (hd : ∀ c st', Like st st' → (∃ R, c.1 = some R ∧ Res a.toList b.toList R.toList) → Q (.done c) st')
    (hy : ∀ o' i' j' g' st', Like st st' → MI a.toList b.toList o'.toList i' j' → i' + 1 < a.size → j' < b.size → i + j + 1 ≤ i' + j' → Q (.yield (none, o', i', j', g')) st') :
    wpS (model prog w) A E s (loT a b (none, o, i, j, g)) Q st' := by
  unfold loT
  dsimp only
  refine wpS_bind (wpS_mono (wpS_forRange (I := fun x c st2 => st2 = st' ∧ ∃ o' i' j' m n, c = (none, o', i', j', m, n) ∧ MI a.toList b.toList o'.toList i' j' ∧ i' + 1 < a.size ∧ j' < b.size ∧ i + j + x ≤ i' + j')
    (Q := fun c st2 => st2 = st' ∧ Aft0 a b (i + j + 1) c) ?step ?fin (xea8a rfl o (x59b7 i j 0 0 rfl I h1 h2 (by exact o93e9a)))) ?post)
  case fin =>
    rintro c st2 ⟨rfl, o', i', j', m, n, rfl, I', k1, k2, k3⟩
    exact ⟨rfl, .inr (x2633 o' i' j' m n rfl I' k1 k2 (by exact o18a3f k2 k3))⟩
  case step =>
    rintro x c st2 _ hx ⟨rfl, o', i', j', m, n, rfl, I', k1, k2, k3⟩
    refine wpS_lo0 hk T l I' k1 k2 (fun c hc => ⟨rfl, ?_⟩) fun o2 i2 j2 m2 n2 I2 q1 q2 q3 => (xea8a rfl o2 (x59b7 i2 j2 m2 n2 rfl I2 q1 q2 (by exact o8848f k3 q3)))
    rcases hc with hc | ⟨o2, i2, j2, m2, n2, rfl, I2, q1, q2, q3⟩
    · exact .inl hc
    exact .inr (x2633 o2 i2 j2 m2 n2 rfl I2 q1 q2 (by exact o512c1 k3 q3))
  case post =>
    rintro c st2 ⟨rfl, hc⟩
    rcases hc with ⟨R, e, hR⟩ | ⟨o2, i2, j2, m2, n2, rfl, I2, q1, q2, q3⟩
    · rw [e]
      exact wpS_pure (hd _ _ l (x9614 R rfl hR))
    dsimp only
    refine wpS_bind (wpS_lift (wpAny_rule ⟨rfl, ?_⟩))
    refine wpS_bind (wpS_mono (wpS_forRange (I := fun x c st3 => Like st st3 ∧ c.1 = none ∧ Aft1 a b (i + j + 1) c) (Q := fun c st3 => Like st st3 ∧ Aft1 a b (i + j + 1) c)
      ?step2 (by rintro c st3 ⟨z1, _, z2⟩; exact ⟨z1, z2⟩) (x3b98 l rfl (.inr (x4299 _ _ _ _ _ _ rfl I2 q1 q2 (by exact ob9648 q3))))) ?post2)
    case step2 =>
      rintro x c st3 _ hx ⟨l3, e3, z⟩
      rcases z with ⟨R, e, _⟩ | ⟨o3, i3, j3, g3, m3, n3, rfl, I3, r1, r2, r3⟩
      · rw [e3] at e; cases e
      refine wpS_mono (wpS_loG hk T l3 I3 r1 r2 r3) fun r st4 h4 => ?_
      cases r with
      | done c => exact h4
      | yield c => exact h4
    case post2 =>
      rintro c st3 ⟨l3, z⟩
      rcases z with ⟨R, e, hR⟩ | ⟨o3, i3, j3, g3, m3, n3, rfl, I3, r1, r2, r3⟩
      · rw [e]
        exact wpS_pure (hd _ _ l3 (x9614 R rfl hR))
      dsimp only
      rw [j2o]
      refine wpS_bind (wpS_modify ?_)
      exact wpS_pure (hy _ _ _ _ _ (l3.step _) I3 r1 r2 r3)
theorem j6z {a b : Array Keyed} {st : SortSt} {Q : Array Keyed → SortSt → Prop} (hk : kindOf st = oneType') (T : Two a b) (h : ∀ R st', Like st st' → Res a.toList b.toList R.toList → Q R st') :
    wpS (model prog w) A E s (j56 a b) Q st := by
  rw [j61, mLoD_eq]
  unfold mLo
  refine wpS_bind (wpS_lift (wpAny_rule ⟨rfl, ?_⟩))
  obtain ⟨q0, e0, e0', i0⟩ := j1j T.ib T.hb
  have ha := T.ha
  have hb := T.hb
  refine wpS_bind (j0l e0 ?_)
  have m0 : MI a.toList b.toList (#[q0] : Array Keyed).toList 0 1 := by
    refine ⟨?_, by simp [Up], ?_, ?_⟩
    · have : b.toList.take 1 = [q0] := by
        have := ja0 e0'
        simpa using this
      rw [this]; simp
    · intro x hx y hy
      simp at hx; subst hx
      exact T.first _ e0' y (by simpa using hy)
    intro x hx y hy
    simp at hx; subst hx
    exact T.uB.head e0' y (by simpa using List.mem_of_mem_drop hy)
  by_cases hb1 : 1 = b.size
  · rw [if_pos (by simpa using hb1)]
    exact wpS_pure (h _ _ (Like.refl _) (T.fi m0 (.inr (by exact oce8a5 hb1))))
  rw [if_neg (by simpa using hb1)]
  by_cases ha1 : 0 + 1 = a.size
  · rw [if_pos (by simpa using ha1)]
    exact wpS_pure (h _ _ (Like.refl _) (T.la m0 ha1))
  rw [if_neg (by simpa using ha1)]
  refine wpS_bind (wpS_get ?_)
  refine wpS_bind (wpS_mono (wpS_forRange (I := fun x c st' => Like st st' ∧ ∃ o i j g, c = (none, o, i, j, g) ∧ MI a.toList b.toList o.toList i j ∧ i + 1 < a.size ∧ j < b.size ∧ x ≤ i + j)
    (Q := fun c st' => Like st st' ∧ ∃ R, c.1 = some R ∧ Res a.toList b.toList R.toList) ?step ?fin (xea8a (Like.refl _) _ (xac60 0 1 _ rfl m0 (by exact od64f1 ha ha1) (by exact o92f6d hb hb1) (by exact o9961e)))) ?post)
  case post =>
    rintro c st' ⟨l, R, e, r⟩
    rw [e]
    exact wpS_pure (h R st' l r)
  case fin =>
    rintro c st' ⟨l, o, i, j, g, rfl, m, h1, h2, h3⟩
    omega
  case step =>
    rintro x c st' _ hx ⟨l, o, i, j, g, rfl, m, h1, h2, h3⟩
    exact wpS_loT hk T l m h1 h2 (fun c st2 l2 r2 => ⟨l2, r2⟩) fun o' i' j' g' st2 l2 m2 k1 k2 k3 => (xea8a l2 o' (xac60 i' j' g' rfl m2 k1 k2 (by exact o63b3a h3 k3)))
end
end Srt
end
noncomputable section
namespace Srt
open PySem PyProof.Rows
structure MH (A B O : List Keyed) (i j : Nat) : Prop where
  perm : O.Perm (A.drop i ++ B.drop j)
  up : Up O
  hiA : ∀ x ∈ A.take i, ∀ y ∈ O, kn x ≤ kn y
  hiB : ∀ x ∈ B.take j, ∀ y ∈ O, kn x ≤ kn y
theorem MH.swap {A B O : List Keyed} {i j : Nat} (m : MH A B O i j) : MH B A O j i := ⟨m.perm.trans List.perm_append_comm, m.up, m.hiB, m.hiA⟩
theorem j2p {l : List Keyed} {r i : Nat} (h : r ≤ i) (hi : i ≤ l.length) : l.drop r = (l.take i).drop r ++ l.drop i := by
  have e : (l.take i ++ l.drop i).drop r = (l.take i).drop r ++ l.drop i := List.drop_append_of_le_length (by rw [List.length_take]; exact ob5946 h hi)
  rw [List.take_append_drop] at e
  exact e
theorem j2y {l : List Keyed} {r i : Nat} (h : r ≤ i) : l.take r = (l.take i).take r := by rw [List.take_take, Nat.min_eq_left h]
theorem MH.chunk {A B O : List Keyed} {i j : Nat} (m : MH A B O i j) (hA : Up A) (r : Nat) (hr : r ≤ i) (hi : i ≤ A.length) (c : ∀ x ∈ B.take j, ∀ y ∈ (A.take i).drop r, kn x ≤ kn y) : MH A B ((A.take i).drop r ++ O) r j where
  perm := by
    rw [j2p hr hi, List.append_assoc]
    exact List.Perm.append_left _ m.perm
  up := ((hA.take i).drop r).app m.up fun x hx y hy => m.hiA x (List.mem_of_mem_drop hx) y hy
  hiA := fun x hx y hy => by
    rw [j2y hr] at hx
    rcases List.mem_append.mp hy with h | h
    · exact (hA.take i).parts r x hx y h
    exact m.hiA x (List.mem_of_mem_take hx) y h
  hiB := fun x hx y hy => by
    rcases List.mem_append.mp hy with h | h
    · exact c x hx y h
    exact m.hiB x hx y h
theorem MH.chunkB {A B O : List Keyed} {i j : Nat} (m : MH A B O i j) (hB : Up B) (r : Nat) (hr : r ≤ j) (hj : j ≤ B.length) (c : ∀ x ∈ A.take i, ∀ y ∈ (B.take j).drop r, kn x ≤ kn y) : MH A B ((B.take j).drop r ++ O) i r :=
  (m.swap.chunk hB r hr hj c).swap
theorem last1 {l : List Keyed} {i : Nat} {p : Keyed} (h : l[i]? = some p) : (l.take (i + 1)).drop i = [p] := by
  have hi : i < l.length := (List.getElem?_eq_some_iff.mp h).1
  have e := (List.getElem?_eq_some_iff.mp h).2
  rw [List.take_succ_eq_append_getElem hi, List.drop_append_of_le_length (by rw [List.length_take]; exact o7dd6b hi), e, List.drop_eq_nil_of_le (by rw [List.length_take]; exact ofecc1)]
  rfl
theorem Up.foot {l : List Keyed} (h : Up l) {i : Nat} {p : Keyed} (e : l[i]? = some p) : ∀ y ∈ l.take (i + 1), kn y ≤ kn p := by
  have hi : i < l.length := (List.getElem?_eq_some_iff.mp e).1
  have e2 := (List.getElem?_eq_some_iff.mp e).2
  have h' := h.take (i + 1)
  rw [List.take_succ_eq_append_getElem hi, e2] at h'
  intro y hy
  rw [List.take_succ_eq_append_getElem hi, e2] at hy
  rcases List.mem_append.mp hy with hy | hy
  · exact (List.pairwise_append.mp h').2.2 y hy p (by simp)
  rw [List.mem_singleton.mp hy]; exact Int.le_refl _
theorem MH.one {A B O : List Keyed} {i j : Nat} {p : Keyed} (m : MH A B O (i + 1) j) (hA : Up A) (h : A[i]? = some p) (c : ∀ y ∈ B.take j, kn y ≤ kn p) : MH A B (p :: O) i j := by
  have hi : i < A.length := (List.getElem?_eq_some_iff.mp h).1
  have z := m.chunk hA i (Nat.le_succ i) hi (by rw [last1 h]; intro x hx y hy; rw [List.mem_singleton.mp hy]; exact c x hx)
  rw [last1 h] at z
  exact z
theorem MH.oneB {A B O : List Keyed} {i j : Nat} {p : Keyed} (m : MH A B O i (j + 1)) (hB : Up B) (h : B[j]? = some p) (c : ∀ y ∈ A.take i, kn y ≤ kn p) : MH A B (p :: O) i j := (m.swap.one hB h c).swap
theorem MH.all {A B O : List Keyed} {i j : Nat} (m : MH A B O i j) : (A.take i ++ B.take j ++ O).Perm (A ++ B) := by
  refine (List.Perm.append_left _ m.perm).trans ?_
  have e : A ++ B = (A.take i ++ A.drop i) ++ (B.take j ++ B.drop j) := by rw [List.take_append_drop, List.take_append_drop]
  rw [e, List.append_assoc, List.append_assoc]
  refine List.Perm.append_left _ ?_
  rw [← List.append_assoc, ← List.append_assoc]
  exact List.Perm.append_right _ List.perm_append_comm
theorem MH.fin {A B O : List Keyed} {i j : Nat} (m : MH A B O i j) (hA : Up A) (hB : Up B) (h : i = 0 ∨ j = 0) : Res A B (A.take i ++ B.take j ++ O) := by
  refine ⟨m.all, ?_⟩
  refine ((hA.take i).app (hB.take j) fun x hx y hy => ?_).app m.up fun x hx y hy => ?_
  · rcases h with h | h
    · subst h; simp at hx
    subst h; simp at hy
  rcases List.mem_append.mp hx with h | h
  · exact m.hiA x h y hy
  exact m.hiB x h y hy
theorem MH.fir {A B O : List Keyed} {i j : Nat} (m : MH A B O i j) (hA : Up A) (hB : Up B) (c : ∀ x ∈ B.take j, ∀ y ∈ A, kn x ≤ kn y) : Res A B (B.take j ++ A.take i ++ O) := by
  refine ⟨(List.Perm.append_right _ List.perm_append_comm).trans m.all, ?_⟩
  refine ((hB.take j).app (hA.take i) fun x hx y hy => c x hx y (List.mem_of_mem_take hy)).app m.up fun x hx y hy => ?_
  rcases List.mem_append.mp hx with h | h
  · exact m.hiB x h y hy
  exact m.hiA x h y hy
abbrev HiSt := Option (Array Keyed) × Nat × Nat × Array Keyed × Nat × Nat × Nat
noncomputable def fiH (a b o : Array Keyed) (x y : Nat) : Array Keyed := a.extract 0 x ++ b.extract 0 y ++ o.reverse
noncomputable def frH (a b o : Array Keyed) (x y : Nat) : Array Keyed := b.extract 0 y ++ a.extract 0 x ++ o.reverse
noncomputable def hi0 (a b : Array Keyed) (g : Nat) (c : Option (Array Keyed) × Nat × Nat × Array Keyed × Nat × Nat) : StateT SortSt Sem (ForInStep (Option (Array Keyed) × Nat × Nat × Array Keyed × Nat × Nat)) := do
  let q ← elem' b (c.2.2.1 - 1)
  let p ← elem' a (c.2.1 - 1)
  let some t ← lt' q p | pure (.done (some (fiH a b c.2.2.2.1 c.2.1 c.2.2.1), c.2.1, c.2.2.1, c.2.2.2.1, c.2.2.2.2.1, c.2.2.2.2.2))
  if t then
    let p ← elem' a (c.2.1 - 1)
    if c.2.1 - 1 == 0 then pure (.done (some (fiH a b (c.2.2.2.1.push p) (c.2.1 - 1) c.2.2.1), c.2.1 - 1, c.2.2.1, c.2.2.2.1.push p, c.2.2.2.2.1 + 1, 0))
    else if c.2.2.2.2.1 + 1 ≥ g then pure (.done (none, c.2.1 - 1, c.2.2.1, c.2.2.2.1.push p, c.2.2.2.2.1 + 1, 0))
    else pure (.yield (none, c.2.1 - 1, c.2.2.1, c.2.2.2.1.push p, c.2.2.2.2.1 + 1, 0))
  else
    let q ← elem' b (c.2.2.1 - 1)
    if c.2.2.1 - 1 == 1 then pure (.done (some (frH a b (c.2.2.2.1.push q) c.2.1 (c.2.2.1 - 1)), c.2.1, c.2.2.1 - 1, c.2.2.2.1.push q, 0, c.2.2.2.2.2 + 1))
    else if c.2.2.2.2.2 + 1 ≥ g then pure (.done (none, c.2.1, c.2.2.1 - 1, c.2.2.2.1.push q, 0, c.2.2.2.2.2 + 1))
    else pure (.yield (none, c.2.1, c.2.2.1 - 1, c.2.2.2.1.push q, 0, c.2.2.2.2.2 + 1))
noncomputable def hi4 (a b : Array Keyed) (i j : Nat) (o : Array Keyed) (g m n : Nat) : StateT SortSt Sem (ForInStep HiSt) := do
  let p ← elem' a (i - 1)
  if i - 1 == 0 then pure (.done (some (fiH a b (o.push p) (i - 1) j), i - 1, j, o.push p, g, m, n))
  else if (m < 7 && n < 7) = true then pure (.done (none, i - 1, j, o.push p, g, m, n))
  else pure (.yield (none, i - 1, j, o.push p, g, m, n))
noncomputable def hi3 (a b : Array Keyed) (i j : Nat) (o : Array Keyed) (g m n : Nat) : StateT SortSt Sem (ForInStep HiSt) := do
  let p ← elem' a (i - 1)
  let some r ← j1i true p b 0 j (j - 1) | pure (.done (some (fiH a b o i j), i, j, o, g, m, n))
  if j - r > 0 then
    if r == 1 then pure (.done (some (frH a b (o ++ (b.extract r j).reverse) i r), i, r, o ++ (b.extract r j).reverse, g, m, j - r))
    else if r == 0 then pure (.done (some (fiH a b (o ++ (b.extract r j).reverse) i r), i, r, o ++ (b.extract r j).reverse, g, m, j - r))
    else hi4 a b i r (o ++ (b.extract r j).reverse) g m (j - r)
  else hi4 a b i j o g m (j - r)
noncomputable def hi2 (a b : Array Keyed) (i j : Nat) (o : Array Keyed) (g m n : Nat) : StateT SortSt Sem (ForInStep HiSt) := do
  let q ← elem' b (j - 1)
  if j - 1 == 1 then pure (.done (some (frH a b (o.push q) i (j - 1)), i, j - 1, o.push q, g, m, n))
  else hi3 a b i (j - 1) (o.push q) g m n
noncomputable def hi1 (a b : Array Keyed) (i j : Nat) (o : Array Keyed) (g m n : Nat) : StateT SortSt Sem (ForInStep HiSt) := do
  j27 g
  let q ← elem' b (j - 1)
  let some r ← j1i false q a 0 i (i - 1) | pure (.done (some (fiH a b o i j), i, j, o, g, m, n))
  if i - r > 0 then
    if r == 0 then pure (.done (some (fiH a b (o ++ (a.extract r i).reverse) r j), r, j, o ++ (a.extract r i).reverse, g, i - r, n))
    else hi2 a b r j (o ++ (a.extract r i).reverse) g (i - r) n
  else hi2 a b i j o g (i - r) n
noncomputable def hiG (a b : Array Keyed) (c : HiSt) : StateT SortSt Sem (ForInStep HiSt) :=
  if c.2.2.2.2.1 > 1 then hi1 a b c.2.1 c.2.2.1 c.2.2.2.1 (c.2.2.2.2.1 - 1) c.2.2.2.2.2.1 c.2.2.2.2.2.2
  else hi1 a b c.2.1 c.2.2.1 c.2.2.2.1 c.2.2.2.2.1 c.2.2.2.2.2.1 c.2.2.2.2.2.2
noncomputable def hiT (a b : Array Keyed) (c : Option (Array Keyed) × Nat × Nat × Array Keyed × Nat) : StateT SortSt Sem (ForInStep (Option (Array Keyed) × Nat × Nat × Array Keyed × Nat)) := do
  let r ← forIn [0:a.size + b.size] ((none, c.2.1, c.2.2.1, c.2.2.2.1, 0, 0) : Option (Array Keyed) × Nat × Nat × Array Keyed × Nat × Nat) fun _ z => hi0 a b c.2.2.2.2 z
  match r.1 with
  | some R => pure (.done (some R, r.2.1, r.2.2.1, r.2.2.2.1, c.2.2.2.2))
  | none => do
    rule "list.sort.gallop"
    let r ← forIn [0:a.size + b.size] ((none, r.2.1, r.2.2.1, r.2.2.2.1, c.2.2.2.2 + 1, r.2.2.2.2.1, r.2.2.2.2.2) : HiSt) fun _ z => hiG a b z
    match r.1 with
    | some R => pure (.done (some R, r.2.1, r.2.2.1, r.2.2.2.1, r.2.2.2.2.1))
    | none => do
      j27 (r.2.2.2.2.1 + 1)
      pure (.yield (none, r.2.1, r.2.2.1, r.2.2.2.1, r.2.2.2.2.1 + 1))
noncomputable def mHi (a b : Array Keyed) : StateT SortSt Sem (Array Keyed) := do
  rule "list.sort.merge-hi"
  let q ← elem' a (a.size - 1)
  if a.size - 1 == 0 then return fiH a b #[q] (a.size - 1) b.size
  if b.size == 1 then return frH a b #[q] (a.size - 1) b.size
  let g := gallopOf (← get)
  let r ← forIn [0:a.size + b.size] ((none, a.size - 1, b.size, #[q], g) : Option (Array Keyed) × Nat × Nat × Array Keyed × Nat) fun _ z => hiT a b z
  match r.1 with
  | some R => pure R
  | none => unsupported "internal:list.sort.merge-bound"
noncomputable def mHiD (a b : Array Keyed) : StateT SortSt Sem (Array Keyed) := do
  rule "list.sort.merge-hi"
  let tot := a.size + b.size
  let fin (o : Array Keyed) (x y : Nat) := a.extract 0 x ++ b.extract 0 y ++ o.reverse
  let fir (o : Array Keyed) (x y : Nat) := b.extract 0 y ++ a.extract 0 x ++ o.reverse
  let mut i := a.size - 1
  let mut j := b.size
  let mut o : Array Keyed := #[← elem' a i]
  if i == 0 then return fin o i j
  if j == 1 then return fir o i j
  let mut g := gallopOf (← get)
  for _ in [0:tot] do
    let mut m := 0
    let mut n := 0
    for _ in [0:tot] do
      let some t ← lt' (← elem' b (j - 1)) (← elem' a (i - 1)) | return fin o i j
      if t then
        i := i - 1; o := o.push (← elem' a i); m := m + 1; n := 0
        if i == 0 then return fin o i j
        if m ≥ g then break
      else
        j := j - 1; o := o.push (← elem' b j); n := n + 1; m := 0
        if j == 1 then return fir o i j
        if n ≥ g then break
    rule "list.sort.gallop"
    g := g + 1
    for _ in [0:tot] do
      if g > 1 then g := g - 1
      j27 g
      let some r ← j1i false (← elem' b (j - 1)) a 0 i (i - 1) | return fin o i j
      let k := i - r
      m := k
      if k > 0 then
        o := o ++ (a.extract r i).reverse; i := r
        if i == 0 then return fin o i j
      j := j - 1; o := o.push (← elem' b j)
      if j == 1 then return fir o i j
      let some r ← j1i true (← elem' a (i - 1)) b 0 j (j - 1) | return fin o i j
      let k := j - r
      n := k
      if k > 0 then
        o := o ++ (b.extract r j).reverse; j := r
        if j == 1 then return fir o i j
        if j == 0 then return fin o i j
      i := i - 1; o := o.push (← elem' a i)
      if i == 0 then return fin o i j
      if m < 7 && n < 7 then break
    g := g + 1
    j27 g
  unsupported "internal:list.sort.merge-bound"
noncomputable def j57 : Array Keyed → Array Keyed → StateT SortSt Sem (Array Keyed) := sortPriv% PySem.Builtin.mergeHi
theorem j64 (a b : Array Keyed) : j57 a b = mHiD a b := rfl
theorem mHiD_eq (a b : Array Keyed) : mHiD a b = mHi a b := by
  unfold mHiD mHi
  refine congrArg _ (funext fun _ => ?_)
  refine congrArg (fun k => elem' a (a.size - 1) >>= k) (funext fun q => ?_)
  show (if (a.size - 1 == 0) = true then _ else if (b.size == 1) = true then _ else (get >>= _)) = _
  refine congrArg (fun k => if (a.size - 1 == 0) = true then pure (fiH a b #[q] (a.size - 1) b.size) else k) ?_
  refine congrArg (fun k => if (b.size == 1) = true then pure (frH a b #[q] (a.size - 1) b.size) else k) ?_
  refine congrArg (fun k => get >>= k) (funext fun st => ?_)
  show ((forIn _ _ _) >>= _) = _
  refine congr (congrArg _ ?_) ?_
  · refine congrArg _ (funext fun _ => funext fun c => ?_)
    unfold hiT
    show ((forIn _ _ _) >>= _) = _
    refine congr (congrArg _ ?_) ?_
    · rfl
    refine funext fun r => ?_
    obtain ⟨r1, r2⟩ := r
    cases r1
    · show (liftM _ >>= fun _ => ((forIn _ _ _) >>= _)) = _
      refine congrArg _ (funext fun _ => ?_)
      refine congr (congrArg _ ?_) ?_
      · refine congrArg _ (funext fun _ => funext fun c => ?_)
        unfold hiG hi1
        rfl
      refine funext fun r => ?_
      obtain ⟨r1, _⟩ := r
      cases r1 <;> rfl
    rfl
  refine funext fun r => ?_
  obtain ⟨r1, _⟩ := r
  cases r1 <;> rfl
end Srt
end
noncomputable section
namespace Srt
open PySem PyProof.Rows
section
variable {prog : Program} {w : World} {A : Around} {E : Value → Shared → Prop} {s : Shared}
theorem ext0 (a : Array Keyed) (i : Nat) : (a.extract 0 i).toList = a.toList.take i := by
  rw [Array.toList_extract, List.extract_eq_take_drop]
  simp
theorem extm (a : Array Keyed) (r i : Nat) : (a.extract r i).toList = (a.toList.take i).drop r := by
  rw [Array.toList_extract, List.extract_eq_take_drop, List.drop_take]
theorem rpush (o : Array Keyed) (x : Keyed) : (o.push x).reverse.toList = x :: o.reverse.toList := by simp
theorem rapp (o c : Array Keyed) : (o ++ c.reverse).reverse.toList = c.toList ++ o.reverse.toList := by simp
theorem j4v {a : Array Keyed} {i : Nat} {x : Keyed} (h : x ∈ a.toList.take i) : ∃ m, m < i ∧ m < a.size ∧ K a m = kn x := by
  have h' : x ∈ (a.toList.drop 0).take i := by simpa using h
  obtain ⟨m, h1, h2, h3⟩ := j2j h'
  rw [Nat.zero_add] at h2 h3
  exact (x0c0c m h1 h2 h3)
theorem j16 {a : Array Keyed} {r i : Nat} {x : Keyed} (h : x ∈ (a.toList.take i).drop r) : ∃ m, r ≤ m ∧ m < i ∧ m < a.size ∧ K a m = kn x := by
  rw [List.drop_take] at h
  obtain ⟨m, h1, h2, h3⟩ := j2j h
  exact (x5ff7 (r + m) (by exact o4937f) (by exact o5cd43 h1) h2 h3)
abbrev MHa (a b o : Array Keyed) (i j : Nat) : Prop := MH a.toList b.toList o.reverse.toList i j
theorem Two.fiH {a b : Array Keyed} (T : Two a b) {o : Array Keyed} {i j : Nat} (m : MHa a b o i j) (hj : i = 0 ∨ j = 0) : Res a.toList b.toList (fiH a b o i j).toList := by
  unfold Srt.fiH
  rw [Array.toList_append, Array.toList_append, ext0, ext0]
  exact m.fin T.uA T.uB hj
theorem Two.frH {a b : Array Keyed} (T : Two a b) {o : Array Keyed} {i j : Nat} (m : MHa a b o i j) (hj : j = 1) : Res a.toList b.toList (frH a b o i j).toList := by
  unfold Srt.frH
  rw [Array.toList_append, Array.toList_append, ext0, ext0]
  refine m.fir T.uA T.uB fun x hx y hy => ?_
  subst hj
  obtain ⟨q, e, e', _⟩ := j1j T.ib T.hb
  have : b.toList.take 1 = [q] := by simpa using ja0 e'
  rw [this] at hx
  rw [List.mem_singleton.mp hx]
  exact T.first q e' y hy
theorem Two.hpushA {a b : Array Keyed} (T : Two a b) {o : Array Keyed} {i j : Nat} {q : Keyed} (m : MHa a b o i j) (h1 : 1 ≤ i) (e : a.toList[i - 1]? = some q) (c : ∀ y ∈ b.toList.take j, kn y ≤ kn q) : MHa a b (o.push q) (i - 1) j := by
  obtain ⟨x, rfl⟩ : ∃ x, i = x + 1 := ⟨i - 1, by exact od89bb h1⟩
  unfold MHa
  rw [rpush]; exact MH.one m T.uA e c
theorem Two.hpushB {a b : Array Keyed} (T : Two a b) {o : Array Keyed} {i j : Nat} {q : Keyed} (m : MHa a b o i j) (h1 : 1 ≤ j) (e : b.toList[j - 1]? = some q) (c : ∀ y ∈ a.toList.take i, kn y ≤ kn q) : MHa a b (o.push q) i (j - 1) := by
  obtain ⟨x, rfl⟩ : ∃ x, j = x + 1 := ⟨j - 1, by exact od89bb h1⟩
  unfold MHa
  rw [rpush]; exact MH.oneB m T.uB e c
theorem Two.hmanyA {a b : Array Keyed} (T : Two a b) {o : Array Keyed} {i j r : Nat} (m : MHa a b o i j) (hr : r ≤ i) (hi : i ≤ a.size) (c : ∀ x ∈ b.toList.take j, ∀ y ∈ (a.toList.take i).drop r, kn x ≤ kn y) : MHa a b (o ++ (a.extract r i).reverse) r j := by
  unfold MHa
  rw [rapp, extm]; exact m.chunk T.uA r hr (by simpa using hi) c
theorem Two.hmanyB {a b : Array Keyed} (T : Two a b) {o : Array Keyed} {i j r : Nat} (m : MHa a b o i j) (hr : r ≤ j) (hj : j ≤ b.size) (c : ∀ x ∈ a.toList.take i, ∀ y ∈ (b.toList.take j).drop r, kn x ≤ kn y) : MHa a b (o ++ (b.extract r j).reverse) i r := by
  unfold MHa
  rw [rapp, extm]; exact m.chunkB T.uB r hr (by simpa using hj) c
theorem foot1 {a : Array Keyed} (u : Up a.toList) {i : Nat} {p : Keyed} (h : 1 ≤ i) (e : a.toList[i - 1]? = some p) : ∀ y ∈ a.toList.take i, kn y ≤ kn p := by
  have := u.foot e
  rw [show i - 1 + 1 = i by exact od059b h] at this
  exact this
noncomputable def AftH0 (a b : Array Keyed) (N : Nat) (c : Option (Array Keyed) × Nat × Nat × Array Keyed × Nat × Nat) : Prop :=
  (∃ R, c.1 = some R ∧ Res a.toList b.toList R.toList) ∨ (∃ i j o m n, c = (none, i, j, o, m, n) ∧ MHa a b o i j ∧ 1 ≤ i ∧ i ≤ a.size ∧ 1 < j ∧ j ≤ b.size ∧ i + j ≤ N)
theorem wpS_hi0 {a b o : Array Keyed} {i j g m n : Nat} {st st' : SortSt} (hk : kindOf st = oneType') (T : Two a b) (l : Like st st') (I : MHa a b o i j) (h1 : 1 ≤ i) (h1' : i ≤ a.size) (h2 : 1 < j) (h2' : j ≤ b.size)
    {Q : ForInStep (Option (Array Keyed) × Nat × Nat × Array Keyed × Nat × Nat) → SortSt → Prop}
    (hd : ∀ c, AftH0 a b (i + j - 1) c → Q (.done c) st') (hy : ∀ i' j' o' m' n', MHa a b o' i' j' → 1 ≤ i' → i' ≤ a.size → 1 < j' → j' ≤ b.size → i' + j' ≤ i + j - 1 → Q (.yield (none, i', j', o', m', n')) st') :
    wpS (model prog w) A E s (hi0 a b g (none, i, j, o, m, n)) Q st' := by
  obtain ⟨q, e1, e1', k1⟩ := j1j T.ib (show j - 1 < b.size by exact oc90d4 h2 h2')
  obtain ⟨p, e2, e2', k2⟩ := j1j T.ia (show i - 1 < a.size by exact o38de3 h1 h1')
  unfold hi0
  dsimp only
  refine wpS_bind (j0l e1 (wpS_bind (j0l e2 (wpS_bind (j60 (l.1.trans hk) k1 k2 ?_)))))
  dsimp only
  by_cases c : kn q < kn p
  · rw [if_pos (by simpa using c)]
    refine wpS_bind (j0l e2 ?_)
    have I' : MHa a b (o.push p) (i - 1) j := T.hpushA I h1 e2' fun y hy => Int.le_trans (foot1 T.uB (by exact oc6c07 h2) e1' y hy) (Int.le_of_lt c)
    by_cases hb : i - 1 = 0
    · rw [if_pos (by simpa using hb)]
      exact wpS_pure (hd _ (.inl (x9614 _ rfl (T.fiH I' (.inl hb)))))
    rw [if_neg (by simpa using hb)]
    by_cases hg : m + 1 ≥ g
    · rw [if_pos hg]
      exact wpS_pure (hd _ (.inr (xf3da _ _ _ _ _ rfl I' (by exact o9c21a hb) (by exact ofe467 h1') (by exact oa234e h2) (by exact o12bb4 h2') (by exact o2336b hb))))
    rw [if_neg hg]
    exact wpS_pure (hy _ _ _ _ _ I' (by exact o9c21a hb) (by exact ofe467 h1') (by exact oa234e h2) (by exact o12bb4 h2') (by exact o2336b hb))
  rw [if_neg (by simpa using c)]
  refine wpS_bind (j0l e1 ?_)
  have I' : MHa a b (o.push q) i (j - 1) := T.hpushB I (by exact oc6c07 h2) e1' fun y hy => Int.le_trans (foot1 T.uA h1 e2' y hy) (Int.not_lt.mp c)
  by_cases hb : j - 1 = 1
  · rw [if_pos (by simpa using hb)]
    exact wpS_pure (hd _ (.inl (x9614 _ rfl (T.frH I' hb))))
  rw [if_neg (by simpa using hb)]
  by_cases hg : n + 1 ≥ g
  · rw [if_pos hg]
    exact wpS_pure (hd _ (.inr (xf3da _ _ _ _ _ rfl I' (by exact ob5ba8 h1) (by exact o12bb4 h1') (by exact o64962 h2 hb) (by exact ofe467 h2') (by exact o700a1 h2))))
  rw [if_neg hg]
  exact wpS_pure (hy _ _ _ _ _ I' (by exact ob5ba8 h1) (by exact o12bb4 h1') (by exact o64962 h2 hb) (by exact ofe467 h2') (by exact o700a1 h2))
noncomputable def AftH1 (a b : Array Keyed) (N : Nat) (c : HiSt) : Prop :=
  (∃ R, c.1 = some R ∧ Res a.toList b.toList R.toList) ∨ (∃ i j o g m n, c = (none, i, j, o, g, m, n) ∧ MHa a b o i j ∧ 1 ≤ i ∧ i ≤ a.size ∧ 1 < j ∧ j ≤ b.size ∧ i + j ≤ N)
noncomputable def WH1 (a b : Array Keyed) (st : SortSt) (N : Nat) (r : ForInStep HiSt) (st' : SortSt) : Prop :=
  Like st st' ∧ match r with
    | .done c => AftH1 a b N c
    | .yield c => c.1 = none ∧ AftH1 a b N c
theorem ja4 {a b o : Array Keyed} {i j g m n N : Nat} {st st' : SortSt} (T : Two a b) (l : Like st st') (I : MHa a b o i j) (h1 : 1 ≤ i) (h1' : i ≤ a.size) (h2 : 1 < j) (h2' : j ≤ b.size) (hN : i + j ≤ N) (hi : ∀ p, a.toList[i - 1]? = some p → ∀ y ∈ b.toList.take j, kn y ≤ kn p) :
    wpS (model prog w) A E s (hi4 a b i j o g m n) (WH1 a b st N) st' := by
  obtain ⟨p, e2, e2', k2⟩ := j1j T.ia (show i - 1 < a.size by exact o38de3 h1 h1')
  unfold hi4
  refine wpS_bind (j0l e2 ?_)
  have I' : MHa a b (o.push p) (i - 1) j := T.hpushA I h1 e2' (hi p e2')
  by_cases hb : i - 1 = 0
  · rw [if_pos (by simpa using hb)]
    exact wpS_pure ⟨l, .inl (x9614 _ rfl (T.fiH I' (.inl hb)))⟩
  rw [if_neg (by simpa using hb)]
  split
  · exact wpS_pure ⟨l, .inr (xb3a1 _ _ _ _ _ _ rfl I' (by exact o9c21a hb) (by exact ofe467 h1') (by exact oa234e h2) (by exact o12bb4 h2') (by exact o81c5e hN))⟩
  exact wpS_pure (x3b98 l rfl (.inr (xb3a1 _ _ _ _ _ _ rfl I' (by exact o9c21a hb) (by exact ofe467 h1') (by exact oa234e h2) (by exact o12bb4 h2') (by exact o81c5e hN))))
theorem wpS_hi3 {a b o : Array Keyed} {i j g m n N : Nat} {st st' : SortSt} (hk : kindOf st = oneType') (T : Two a b) (l : Like st st') (I : MHa a b o i j) (h1 : 1 ≤ i) (h1' : i ≤ a.size) (h2 : 1 < j) (h2' : j ≤ b.size) (hN : i + j ≤ N) :
    wpS (model prog w) A E s (hi3 a b i j o g m n) (WH1 a b st N) st' := by
  obtain ⟨p, e2, e2', k2⟩ := j1j T.ia (show i - 1 < a.size by exact o38de3 h1 h1')
  unfold hi3
  refine wpS_bind (j0l e2 (wpS_bind ?_))
  refine j1p (l.1.trans hk) k2 (fun x hx => ?_) (fun x y hxy hy => T.uB.K_le (by exact o5bfce hxy) (by exact o5923c h2' hy)) (by exact od3e53 h2) fun r hr0 ht hf => ?_
  · obtain ⟨q, z1, _, z2⟩ := j1j T.ib (show 0 + x < b.size by exact o5923c h2' hx)
    exact (x9614 q z1 z2)
  dsimp only
  have lo : ∀ p', a.toList[i - 1]? = some p' → ∀ y ∈ b.toList.take r, kn y ≤ kn p' := fun p' e y hy => by
    rw [e2'] at e; cases e
    obtain ⟨x, hx, _, e3⟩ := j4v hy
    have := ht x hx
    unfold fq at this
    simp at this
    rw [e3] at this
    exact Int.le_of_lt this
  by_cases h0 : j - r > 0
  · rw [if_pos h0]
    have I' : MHa a b (o ++ (b.extract r j).reverse) i r := T.hmanyB I hr0 h2' fun x hx y hy => by
      obtain ⟨z, hz, hz2, _, e3⟩ := j16 hy
      have := hf z hz hz2
      unfold fq at this
      simp at this
      rw [e3] at this
      exact Int.le_trans (foot1 T.uA h1 e2' x hx) this
    by_cases hb : r = 1
    · rw [if_pos (by simpa using hb)]
      exact wpS_pure ⟨l, .inl (x9614 _ rfl (T.frH I' hb))⟩
    rw [if_neg (by simpa using hb)]
    by_cases hb2 : r = 0
    · rw [if_pos (by simpa using hb2)]
      exact wpS_pure ⟨l, .inl (x9614 _ rfl (T.fiH I' (.inr hb2)))⟩
    rw [if_neg (by simpa using hb2)]
    exact ja4 T l I' h1 h1' (by exact o411bf hb hb2) (by exact oefac5 h2' h0) (by exact oab5f3 hN h0) lo
  rw [if_neg h0]
  have : r = j := by exact o16688 hr0 h0
  subst this
  exact ja4 T l I h1 h1' h2 h2' hN lo
theorem ja5 {a b o : Array Keyed} {i j g m n N : Nat} {st st' : SortSt} (hk : kindOf st = oneType') (T : Two a b) (l : Like st st') (I : MHa a b o i j) (h1 : 1 ≤ i) (h1' : i ≤ a.size) (h2 : 1 < j) (h2' : j ≤ b.size) (hN : i + j ≤ N) (hi : ∀ p, b.toList[j - 1]? = some p → ∀ y ∈ a.toList.take i, kn y ≤ kn p) :
    wpS (model prog w) A E s (hi2 a b i j o g m n) (WH1 a b st N) st' := by
  obtain ⟨q, e1, e1', k1⟩ := j1j T.ib (show j - 1 < b.size by exact oc90d4 h2 h2')
  unfold hi2
  refine wpS_bind (j0l e1 ?_)
  have I' : MHa a b (o.push q) i (j - 1) := T.hpushB I (by exact oc6c07 h2) e1' (hi q e1')
  by_cases hb : j - 1 = 1
  · rw [if_pos (by simpa using hb)]
    exact wpS_pure ⟨l, .inl (x9614 _ rfl (T.frH I' hb))⟩
  rw [if_neg (by simpa using hb)]
  exact wpS_hi3 hk T l I' h1 h1' (by exact o64962 h2 hb) (by exact ofe467 h2') (by exact of1bef hN)
theorem ja6 {a b o : Array Keyed} {i j g m n N : Nat} {st st' : SortSt} (hk : kindOf st = oneType') (T : Two a b) (l : Like st st') (I : MHa a b o i j) (h1 : 1 ≤ i) (h1' : i ≤ a.size) (h2 : 1 < j) (h2' : j ≤ b.size) (hN : i + j ≤ N) :
    wpS (model prog w) A E s (hi1 a b i j o g m n) (WH1 a b st N) st' := by
  obtain ⟨q, e1, e1', k1⟩ := j1j T.ib (show j - 1 < b.size by exact oc90d4 h2 h2')
  unfold hi1
  rw [j2o]
  refine wpS_bind (wpS_modify ?_)
  have l' := l.step g
  refine wpS_bind (j0l e1 (wpS_bind ?_))
  refine j1p (l'.1.trans hk) k1 (fun x hx => ?_) (fun x y hxy hy => T.uA.K_le (by exact o5bfce hxy) (by exact o5923c h1' hy)) (by exact oe58d2 h1) fun r hr0 ht hf => ?_
  · obtain ⟨q, z1, _, z2⟩ := j1j T.ia (show 0 + x < a.size by exact o5923c h1' hx)
    exact (x9614 q z1 z2)
  dsimp only
  have lo : ∀ p', b.toList[j - 1]? = some p' → ∀ y ∈ a.toList.take r, kn y ≤ kn p' := fun p' e y hy => by
    rw [e1'] at e; cases e
    obtain ⟨x, hx, _, e3⟩ := j4v hy
    have := ht x hx
    unfold fq at this
    simp at this
    rw [e3] at this
    exact this
  by_cases h0 : i - r > 0
  · rw [if_pos h0]
    have I' : MHa a b (o ++ (a.extract r i).reverse) r j := T.hmanyA I hr0 h1' fun x hx y hy => by
      obtain ⟨z, hz, hz2, _, e3⟩ := j16 hy
      have := hf z hz hz2
      unfold fq at this
      simp at this
      rw [e3] at this
      exact Int.le_trans (foot1 T.uB (by exact oc6c07 h2) e1' x hx) (Int.le_of_lt this)
    by_cases hb : r = 0
    · rw [if_pos (by simpa using hb)]
      exact wpS_pure ⟨l', .inl (x9614 _ rfl (T.fiH I' (.inl hb)))⟩
    rw [if_neg (by simpa using hb)]
    exact ja5 hk T l' I' (by exact o73506 hb) (by exact oefac5 h1' h0) h2 h2' (by exact o9634e hN h0) lo
  rw [if_neg h0]
  have : r = i := by exact o16688 hr0 h0
  subst this
  exact ja5 hk T l' I h1 h1' h2 h2' hN lo
theorem wpS_hiG {a b o : Array Keyed} {i j g m n N : Nat} {st st' : SortSt} (hk : kindOf st = oneType') (T : Two a b) (l : Like st st') (I : MHa a b o i j) (h1 : 1 ≤ i) (h1' : i ≤ a.size) (h2 : 1 < j) (h2' : j ≤ b.size) (hN : i + j ≤ N) :
    wpS (model prog w) A E s (hiG a b (none, i, j, o, g, m, n)) (WH1 a b st N) st' := by
  unfold hiG
  dsimp only
  split
  · exact ja6 hk T l I h1 h1' h2 h2' hN
  exact ja6 hk T l I h1 h1' h2 h2' hN
theorem wpS_hiT {a b o : Array Keyed} {i j g : Nat} {st st' : SortSt} (hk : kindOf st = oneType') (T : Two a b) (l : Like st st') (I : MHa a b o i j) (h1 : 1 ≤ i) (h1' : i ≤ a.size) (h2 : 1 < j) (h2' : j ≤ b.size)
    {Q : ForInStep (Option (Array Keyed) × Nat × Nat × Array Keyed × Nat) → SortSt → Prop}
    (hd : ∀ c st', Like st st' → (∃ R, c.1 = some R ∧ Res a.toList b.toList R.toList) → Q (.done c) st')
    (hy : ∀ i' j' o' g' st', Like st st' → MHa a b o' i' j' → 1 ≤ i' → i' ≤ a.size → 1 < j' → j' ≤ b.size → i' + j' ≤ i + j - 1 → Q (.yield (none, i', j', o', g')) st') :
    wpS (model prog w) A E s (hiT a b (none, i, j, o, g)) Q st' := by
  unfold hiT
  dsimp only
  refine wpS_bind (wpS_mono (wpS_forRange (I := fun x c st2 => st2 = st' ∧ ∃ i' j' o' m n, c = (none, i', j', o', m, n) ∧ MHa a b o' i' j' ∧ 1 ≤ i' ∧ i' ≤ a.size ∧ 1 < j' ∧ j' ≤ b.size ∧ i' + j' + x ≤ i + j)
    (Q := fun c st2 => st2 = st' ∧ AftH0 a b (i + j - 1) c) ?step ?fin (xea8a rfl i (x1376 j o 0 0 rfl I h1 h1' h2 h2' (by exact o93e9a)))) ?post)
  case fin =>
    rintro c st2 ⟨rfl, i', j', o', m, n, rfl, I', k1, k1', k2, k2', k3⟩
    exact ⟨rfl, .inr (xf3da i' j' o' m n rfl I' k1 k1' k2 k2' (by exact o6aad6 k2 k2' k3))⟩
  case step =>
    rintro x c st2 _ hx ⟨rfl, i', j', o', m, n, rfl, I', k1, k1', k2, k2', k3⟩
    refine wpS_hi0 hk T l I' k1 k1' k2 k2' (fun c hc => ⟨rfl, ?_⟩) fun i2 j2 o2 m2 n2 I2 q1 q1' q2 q2' q3 => (xea8a rfl i2 (x1376 j2 o2 m2 n2 rfl I2 q1 q1' q2 q2' (by exact o32181 k3 q2 q3)))
    rcases hc with hc | ⟨i2, j2, o2, m2, n2, rfl, I2, q1, q1', q2, q2', q3⟩
    · exact .inl hc
    exact .inr (xf3da i2 j2 o2 m2 n2 rfl I2 q1 q1' q2 q2' (by exact o352cb k3 q3))
  case post =>
    rintro c st2 ⟨rfl, hc⟩
    rcases hc with ⟨R, e, hR⟩ | ⟨i2, j2, o2, m2, n2, rfl, I2, q1, q1', q2, q2', q3⟩
    · rw [e]
      exact wpS_pure (hd _ _ l (x9614 R rfl hR))
    dsimp only
    refine wpS_bind (wpS_lift (wpAny_rule ⟨rfl, ?_⟩))
    refine wpS_bind (wpS_mono (wpS_forRange (I := fun x c st3 => Like st st3 ∧ c.1 = none ∧ AftH1 a b (i + j - 1) c) (Q := fun c st3 => Like st st3 ∧ AftH1 a b (i + j - 1) c)
      ?step2 (by rintro c st3 ⟨z1, _, z2⟩; exact ⟨z1, z2⟩) (x3b98 l rfl (.inr (xb3a1 _ _ _ _ _ _ rfl I2 q1 q1' q2 q2' (by exact o0b928 q3))))) ?post2)
    case step2 =>
      rintro x c st3 _ hx ⟨l3, e3, z⟩
      rcases z with ⟨R, e, _⟩ | ⟨i3, j3, o3, g3, m3, n3, rfl, I3, r1, r1', r2, r2', r3⟩
      · rw [e3] at e; cases e
      refine wpS_mono (wpS_hiG hk T l3 I3 r1 r1' r2 r2' r3) fun r st4 h4 => ?_
      cases r with
      | done c => exact h4
      | yield c => exact h4
    case post2 =>
      rintro c st3 ⟨l3, z⟩
      rcases z with ⟨R, e, hR⟩ | ⟨i3, j3, o3, g3, m3, n3, rfl, I3, r1, r1', r2, r2', r3⟩
      · rw [e]
        exact wpS_pure (hd _ _ l3 (x9614 R rfl hR))
      dsimp only
      rw [j2o]
      refine wpS_bind (wpS_modify ?_)
      exact wpS_pure (hy _ _ _ _ _ (l3.step _) I3 r1 r1' r2 r2' r3)
theorem j70 {a b : Array Keyed} {st : SortSt} {Q : Array Keyed → SortSt → Prop} (hk : kindOf st = oneType') (T : Two a b) (h : ∀ R st', Like st st' → Res a.toList b.toList R.toList → Q R st') :
    wpS (model prog w) A E s (j57 a b) Q st := by
  rw [j64, mHiD_eq]
  unfold mHi
  refine wpS_bind (wpS_lift (wpAny_rule ⟨rfl, ?_⟩))
  have ha := T.ha
  have hb := T.hb
  obtain ⟨q0, e0, e0', i0⟩ := j1j T.ia (show a.size - 1 < a.size by exact o1acec ha)
  refine wpS_bind (j0l e0 ?_)
  have hd : a.toList.drop (a.size - 1) = [q0] := by
    have := ja0 e0'
    rw [← this, List.take_of_length_le]
    simp
    exact o3222e
  have m0 : MHa a b #[q0] (a.size - 1) b.size := by
    refine ⟨?_, by simp [Up], ?_, ?_⟩
    · rw [hd, List.drop_eq_nil_of_le (by simp)]; simp
    · intro x hx y hy
      simp at hy; subst hy
      exact T.uA.foot e0' x (by
        rw [List.take_of_length_le (by simp; exact o2cdd6)]
        exact List.mem_of_mem_take hx)
    intro x hx y hy
    simp at hy; subst hy
    exact T.last x (List.mem_of_mem_take hx) _ (by rw [hd]; simp)
  by_cases ha1 : a.size - 1 = 0
  · rw [if_pos (by simpa using ha1)]
    exact wpS_pure (h _ _ (Like.refl _) (T.fiH m0 (.inl ha1)))
  rw [if_neg (by simpa using ha1)]
  by_cases hb1 : b.size = 1
  · rw [if_pos (by simpa using hb1)]
    exact wpS_pure (h _ _ (Like.refl _) (T.frH m0 hb1))
  rw [if_neg (by simpa using hb1)]
  refine wpS_bind (wpS_get ?_)
  refine wpS_bind (wpS_mono (wpS_forRange (I := fun x c st' => Like st st' ∧ ∃ i j o g, c = (none, i, j, o, g) ∧ MHa a b o i j ∧ 1 ≤ i ∧ i ≤ a.size ∧ 1 < j ∧ j ≤ b.size ∧ i + j + x ≤ a.size + b.size)
    (Q := fun c st' => Like st st' ∧ ∃ R, c.1 = some R ∧ Res a.toList b.toList R.toList) ?step ?fin (xea8a (Like.refl _) _ (xef7a _ _ _ rfl m0 (by exact o9c21a ha1) (by exact ofaa36) (by exact oc4df6 hb hb1) ⟨by exact ocdd73, by exact ob0bb0⟩))) ?post)
  case post =>
    rintro c st' ⟨l, R, e, r⟩
    rw [e]
    exact wpS_pure (h R st' l r)
  case fin =>
    rintro c st' ⟨l, i, j, o, g, rfl, m, h1, h1', h2, h2', h3⟩
    omega
  case step =>
    rintro x c st' _ hx ⟨l, i, j, o, g, rfl, m, h1, h1', h2, h2', h3⟩
    exact wpS_hiT hk T l m h1 h1' h2 h2' (fun c st2 l2 r2 => ⟨l2, r2⟩) fun i' j' o' g' st2 l2 m2 k1 k1' k2 k2' k3 => (xea8a l2 i' (xef7a j' o' g' rfl m2 k1 k1' k2 ⟨k2', by exact o32181 h3 k2 k3⟩))
end
end Srt
end
noncomputable section
namespace Srt
open PySem PyProof.Rows
noncomputable def Seg (xs : Array Keyed) (lo hi : Nat) : Prop := ∀ i j, lo ≤ i → i ≤ j → j < hi → K xs i ≤ K xs j
noncomputable def Geg (xs : Array Keyed) (lo hi : Nat) : Prop := ∀ i j, lo ≤ i → i ≤ j → j < hi → K xs j ≤ K xs i
noncomputable def IK (xs : Array Keyed) : Prop := ∀ p ∈ xs.toList, IntKey p
structure Mv (lo : Nat) (st st' : SortSt) : Prop where
  kind : kindOf st' = kindOf st
  failed : failedOf st' = failedOf st
  pend : pendingOf st' = pendingOf st
  perm : (arrOf st').Perm (arrOf st)
  low : ∀ k, k < lo → (arrOf st')[k]? = (arrOf st)[k]?
theorem Mv.refl (lo : Nat) (st : SortSt) : Mv lo st st := ⟨rfl, rfl, rfl, Array.Perm.refl _, fun _ _ => rfl⟩
theorem Mv.trans {lo : Nat} {st st1 st2 : SortSt} (a : Mv lo st st1) (b : Mv lo st1 st2) : Mv lo st st2 :=
  ⟨b.kind.trans a.kind, b.failed.trans a.failed, b.pend.trans a.pend, b.perm.trans a.perm, fun k h => (b.low k h).trans (a.low k h)⟩
theorem Mv.size {lo : Nat} {st st' : SortSt} (a : Mv lo st st') : (arrOf st').size = (arrOf st).size := a.perm.size_eq
theorem IK.perm {xs ys : Array Keyed} (h : IK xs) (p : ys.Perm xs) : IK ys := fun q hq => h q ((Array.perm_iff_toList_perm.mp p).mem_iff.mp hq)
theorem Mv.ik {lo : Nat} {st st' : SortSt} (a : Mv lo st st') (h : IK (arrOf st)) : IK (arrOf st') := h.perm a.perm
section
variable {prog : Program} {w : World} {A : Around} {E : Value → Shared → Prop} {s : Shared}
theorem j38 {st : SortSt} {i j : Nat} {Q : Option Bool → SortSt → Prop} (hk : kindOf st = oneType') (ik : IK (arrOf st)) (hi : i < (arrOf st).size) (hj : j < (arrOf st).size)
    (h : Q (some (decide (K (arrOf st) i < K (arrOf st) j))) st) : wpS (model prog w) A E s (ltAt' i j) Q st := by
  obtain ⟨p, e1, _, k1⟩ := j1j ik hi
  obtain ⟨q, e2, _, k2⟩ := j1j ik hj
  rw [ltAt'_eq]
  refine wpS_bind (wpS_get ?_)
  refine wpS_bind (j0l e1 (wpS_bind (j0l e2 (j60 hk k1 k2 ?_))))
  rw [K_at e1, K_at e2] at h
  exact h
theorem Mv.rev {lo : Nat} {st : SortSt} {i j : Nat} (hi : lo ≤ i) (hj : j ≤ (arrOf st).size) : Mv lo st (setArr st (mirror (arrOf st) i j ((j - i) / 2))) :=
  ⟨rfl, rfl, rfl, mirror_perm _ _ _ _, fun k hk => by
    show (mirror (arrOf st) i j ((j - i) / 2))[k]? = _
    rw [getElem?_mirror_all hj, if_neg (by exact o48d72 hi hk)]⟩
noncomputable def ru3 (lo nrem n₀ : Nat) : StateT SortSt Sem (Option Nat) := do
  let mut n := n₀
  for _ in [n:nrem] do
    let some t ← ltAt' (lo + n) (lo + n - 1) | return none
    if t then break
    n := n + 1
  return some n
theorem wpS_ru3 {st st₀ : SortSt} {lo nrem n : Nat} {Q : Option Nat → SortSt → Prop} (hk : kindOf st = oneType') (ik : IK (arrOf st)) (hs : lo + nrem ≤ (arrOf st).size) (h1 : 1 ≤ n) (hn : n ≤ nrem) (hS : Seg (arrOf st) lo (lo + n))
    (h : ∀ m, n ≤ m → m ≤ nrem → Seg (arrOf st) lo (lo + m) → Q (some m) st) : wpS (model prog w) A E s (ru3 lo nrem n) Q st := by
  unfold ru3
  dsimp only
  refine wpS_bind (wpS_mono (wpS_forRange (I := fun x c st' => st' = st ∧ c = (none, x) ∧ n ≤ x ∧ x ≤ nrem ∧ Seg (arrOf st) lo (lo + x)) (Q := fun c st' => st' = st ∧ ∃ x, c = (none, x) ∧ n ≤ x ∧ x ≤ nrem ∧ Seg (arrOf st) lo (lo + x)) ?step ?fin (x0988 rfl rfl (Nat.le_refl _) hn hS)) ?post)
  case post =>
    rintro c st' ⟨rfl, x, rfl, a1, a2, a3⟩
    exact wpS_pure (h x a1 a2 a3)
  case fin =>
    rintro c st' ⟨rfl, rfl, a1, a2, a3⟩
    exact (xeb03 rfl _ rfl a1 a2 a3)
  case step =>
    rintro x c st' b1 b2 ⟨rfl, rfl, a1, a2, a3⟩
    dsimp only
    refine wpS_bind (j38 hk ik (by exact o6ef3a b2 hs) (by exact od426f b2 hs) ?_)
    dsimp only
    by_cases hlt : K (arrOf st') (lo + x) < K (arrOf st') (lo + x - 1)
    · rw [if_pos (by simpa using hlt)]
      exact wpS_pure (xeb03 rfl x rfl a1 a2 a3)
    rw [if_neg (by simpa using hlt)]
    refine wpS_pure (x0988 rfl rfl (by exact o6129f a1) (by exact odad2c b2) (fun i j hi hij hj => ?_))
    by_cases e : j = lo + x
    · subst e
      by_cases e2 : i = lo + x
      · subst e2; exact Int.le_refl _
      exact Int.le_trans (a3 i (lo + x - 1) hi (by exact o27b6a hij e2) (by exact o72d4d hij e2)) (Int.not_lt.mp hlt)
    exact a3 i j hi hij (by exact o19765 hj e)
noncomputable def ru2 (lo nrem n₀ : Nat) : StateT SortSt Sem (Option Nat) := do
  rule "list.sort.descending-run"
  let mut n := n₀
  n := n + 1
  let mut q := 0
  for _ in [n:nrem] do
    let some t ← ltAt' (lo + n) (lo + n - 1) | return none
    if t then
      if q > 0 then reverseSlice' (lo + n - (q + 1)) (lo + n)
      q := 0
    else
      let some u ← ltAt' (lo + n - 1) (lo + n) | return none
      if u then break
      q := q + 1
    n := n + 1
  if q > 0 then reverseSlice' (lo + n - (q + 1)) (lo + n)
  reverseSlice' lo (lo + n)
  ru3 lo nrem n
noncomputable def runD (lo nrem : Nat) : StateT SortSt Sem (Option Nat) := do
  let mut n := 1
  for _ in [1:nrem] do
    let some t ← ltAt' (lo + n) (lo + n - 1) | return none
    if t then break
    n := n + 1
  if n == nrem then return some n
  if n > 1 then
    let some r ← ltAt' lo (lo + n - 1) | return none
    if r then return some n
    reverseSlice' lo (lo + n)
  ru2 lo nrem n
theorem run_eq (lo nrem : Nat) : countRun' lo nrem = runD lo nrem := by
  rw [countRun'_eq]
  unfold runD ru2 ru3
  rfl
end
end Srt
end
noncomputable section
namespace Srt
open PySem PyProof.Rows
section
variable {prog : Program} {w : World} {A : Around} {E : Value → Shared → Prop} {s : Shared}
theorem j39 {xs : Array Keyed} {i j : Nat} (hj : j ≤ xs.size) (heq : ∀ k, i ≤ k → k < j → K xs k = K xs (j - 1)) (k : Nat) : K (mirror xs i j ((j - i) / 2)) k = K xs k := K_mirror_equal hj heq k
theorem j58 {st : SortSt} {i j : Nat} {Q : Unit → SortSt → Prop} (h : Q () (setArr st (mirror (arrOf st) i j ((j - i) / 2)))) : wpS (model prog w) A E s (reverseSlice' i j) Q st := by
  rw [reverseSlice'_eq]
  exact wpS_modify h
structure Fal (xs : Array Keyed) (lo n q : Nat) : Prop where
  geg : Geg xs lo (lo + n)
  like : ∀ k, lo + n - (q + 1) ≤ k → k < lo + n → K xs k = K xs (lo + n - 1)
  le : q + 1 ≤ n
theorem ja7 {st : SortSt} {lo nrem n₀ : Nat} {Q : Option Nat → SortSt → Prop} (hk : kindOf st = oneType') (ik : IK (arrOf st)) (hs : lo + nrem ≤ (arrOf st).size) (h1 : 1 ≤ n₀) (hn : n₀ + 1 ≤ nrem) (hG : Geg (arrOf st) lo (lo + (n₀ + 1)))
    (h : ∀ m st', 1 ≤ m → m ≤ nrem → Mv lo st st' → Seg (arrOf st') lo (lo + m) → Q (some m) st') : wpS (model prog w) A E s (ru2 lo nrem n₀) Q st := by
  unfold ru2
  refine wpS_bind (wpS_lift (wpAny_rule ⟨rfl, ?_⟩))
  dsimp only
  refine wpS_bind (wpS_mono (wpS_forRange (I := fun x c st' => Mv lo st st' ∧ ∃ q, c = (none, x, q) ∧ 2 ≤ x ∧ x ≤ nrem ∧ Fal (arrOf st') lo x q)
    (Q := fun c st' => Mv lo st st' ∧ ∃ x q, c = (none, x, q) ∧ 2 ≤ x ∧ x ≤ nrem ∧ Fal (arrOf st') lo x q) ?step ?fin ⟨Mv.refl _ _, 0, rfl, by exact oc46de h1, hn, hG, fun k a b => by rw [show k = lo + (n₀ + 1) - 1 by exact o4c446 a b], by exact o9f05f⟩) ?post)
  case fin =>
    rintro c st' ⟨m, q, rfl, a1, a2, a3⟩
    exact (x8511 m _ q rfl (by exact o27c6b a1) (by exact o977f2 a2) a3)
  case step =>
    rintro x c st' b1 b2 ⟨m, q, rfl, a1, a2, a3⟩
    dsimp only
    have hk' : kindOf st' = oneType' := m.kind.trans hk
    have ik' := m.ik ik
    have sz := m.size
    refine wpS_bind (j38 hk' ik' (by exact ofc0e8 hs b2 sz) (by exact o25a4d hs a1 a2 sz) ?_)
    dsimp only
    by_cases hlt : K (arrOf st') (lo + x) < K (arrOf st') (lo + x - 1)
    · rw [if_pos (by simpa using hlt)]
      have grow : ∀ st2 : SortSt, (∀ k, K (arrOf st2) k = K (arrOf st') k) → Fal (arrOf st2) lo (x + 1) 0 := fun st2 e => by
        refine ⟨fun i j hi hij hj => ?_, fun k c1 c2 => by rw [show k = lo + (x + 1) - 1 by exact o4c446 c1 c2], by exact o9f05f⟩
        rw [e, e]
        by_cases e1 : j = lo + x
        · subst e1
          by_cases e2 : i = lo + x
          · subst e2; exact Int.le_refl _
          exact Int.le_trans (Int.le_of_lt hlt) (a3.geg i (lo + x - 1) hi (by exact o27b6a hij e2) (by exact o72d4d hij e2))
        exact a3.geg i j hi hij (by exact o19765 hj e1)
      by_cases hq : q > 0
      · rw [if_pos hq]
        refine wpS_bind (j58 ?_)
        refine wpS_pure (xeb03 (m.trans (Mv.rev (by have := a3.le; exact od9149 this) (by exact o8ed8f hs a2 sz))) 0 rfl (by exact od2f55 a1) (by exact odad2c b2) (grow _ fun k => ?_))
        exact j39 (by exact o8ed8f hs a2 sz) (fun k c1 c2 => a3.like k c1 c2) k
      rw [if_neg hq]
      exact wpS_pure (xeb03 m 0 rfl (by exact od2f55 a1) (by exact odad2c b2) (grow _ fun k => rfl))
    rw [if_neg (by simpa using hlt)]
    refine wpS_bind (j38 hk' ik' (by exact o25a4d hs a1 a2 sz) (by exact ofc0e8 hs b2 sz) ?_)
    dsimp only
    by_cases hgt : K (arrOf st') (lo + x - 1) < K (arrOf st') (lo + x)
    · rw [if_pos (by simpa using hgt)]
      exact wpS_pure (x8511 m x q rfl (by exact o9d62e a1) (by exact o12bb4 a2) a3)
    rw [if_neg (by simpa using hgt)]
    have eq : K (arrOf st') (lo + x) = K (arrOf st') (lo + x - 1) := by exact o59865 hlt hgt
    refine wpS_pure ⟨m, q + 1, rfl, by exact od2f55 a1, by exact odad2c b2, fun i j hi hij hj => ?_, fun k c1 c2 => ?_, by have := a3.le; exact o0663a this⟩
    · by_cases e1 : j = lo + x
      · subst e1
        by_cases e2 : i = lo + x
        · subst e2; exact Int.le_refl _
        rw [eq]; exact a3.geg i (lo + x - 1) hi (by exact o27b6a hij e2) (by exact o72d4d hij e2)
      exact a3.geg i j hi hij (by exact o19765 hj e1)
    rw [show lo + (x + 1) - 1 = lo + x by exact o5bf90, eq]
    by_cases e1 : k = lo + x
    · rw [e1, eq]
    exact a3.like k (by exact o2606b c1) (by exact o19765 c2 e1)
  case post =>
    rintro c st' ⟨m, x, q, rfl, a1, a2, a3⟩
    dsimp only
    have sz := m.size
    have last : ∀ st2 : SortSt, Mv lo st st2 → (∀ k, K (arrOf st2) k = K (arrOf st') k) → wpS (model prog w) A E s (do reverseSlice' lo (lo + x); ru3 lo nrem x) Q st2 := fun st2 m2 e => by
      have sz2 := m2.size
      refine wpS_bind (j58 ?_)
      have m3 : Mv lo st (setArr st2 (mirror (arrOf st2) lo (lo + x) ((lo + x - lo) / 2))) := m2.trans (Mv.rev (Nat.le_refl _) (by exact o8ed8f hs a2 sz2))
      have sz3 := m3.size
      refine wpS_ru3 (st₀ := st) (m3.kind.trans hk) (m3.ik ik) (by exact o8ab2c hs sz3) (by exact o4ec16 a1) a2 (fun i j hi hij hj => ?_) fun y c1 c2 c3 => h y _ (by exact o687d5 a1 c1) c2 m3 c3
      show K (mirror (arrOf st2) lo (lo + x) ((lo + x - lo) / 2)) i ≤ K (mirror (arrOf st2) lo (lo + x) ((lo + x - lo) / 2)) j
      rw [K_mirror (by exact o8ed8f hs a2 sz2), K_mirror (by exact o8ed8f hs a2 sz2), if_pos (by exact oa44f4 hi hij hj), if_pos (by exact ofd146 hi hij hj), e, e]
      exact a3.geg _ _ (by exact o2baa6 hj) (by exact oaf630 hij) (by exact o32497 hi hj)
    by_cases hq : q > 0
    · rw [if_pos hq]
      refine wpS_bind (j58 ?_)
      exact last _ (m.trans (Mv.rev (by have := a3.le; exact od9149 this) (by exact o8ed8f hs a2 sz))) fun k => j39 (by exact o8ed8f hs a2 sz) (fun k c1 c2 => a3.like k c1 c2) k
    rw [if_neg hq]
    exact last _ m fun k => rfl
theorem wpS_run {st : SortSt} {lo nrem : Nat} {Q : Option Nat → SortSt → Prop} (hk : kindOf st = oneType') (ik : IK (arrOf st)) (hs : lo + nrem ≤ (arrOf st).size) (h1 : 1 ≤ nrem)
    (h : ∀ m st', 1 ≤ m → m ≤ nrem → Mv lo st st' → Seg (arrOf st') lo (lo + m) → Q (some m) st') : wpS (model prog w) A E s (countRun' lo nrem) Q st := by
  rw [run_eq]
  unfold runD
  dsimp only
  refine wpS_bind (wpS_mono (wpS_forRange (I := fun x c st' => st' = st ∧ c = (none, x) ∧ 1 ≤ x ∧ x ≤ nrem ∧ Seg (arrOf st) lo (lo + x))
    (Q := fun c st' => st' = st ∧ ∃ x, c = (none, x) ∧ 1 ≤ x ∧ x ≤ nrem ∧ Seg (arrOf st) lo (lo + x) ∧ (x = nrem ∨ (x < nrem ∧ K (arrOf st) (lo + x) < K (arrOf st) (lo + x - 1)))) ?step ?fin (x0988 rfl rfl (Nat.le_refl _) h1 (fun i j hi hij hj => by rw [show i = j by exact o76ad6 hi hij hj]; exact Int.le_refl _))) ?post)
  case fin =>
    rintro c st' ⟨rfl, rfl, a1, a2, a3⟩
    exact (x03a7 rfl _ rfl a1 a2 a3 (.inl (by exact oed25a a2)))
  case step =>
    rintro x c st' b1 b2 ⟨rfl, rfl, a1, a2, a3⟩
    dsimp only
    refine wpS_bind (j38 hk ik (by exact o6ef3a b2 hs) (by exact od5985 hs a1 a2) ?_)
    dsimp only
    by_cases hlt : K (arrOf st') (lo + x) < K (arrOf st') (lo + x - 1)
    · rw [if_pos (by simpa using hlt)]
      exact wpS_pure (x03a7 rfl x rfl a1 a2 a3 (.inr ⟨b2, hlt⟩))
    rw [if_neg (by simpa using hlt)]
    refine wpS_pure (x0988 rfl rfl (by exact o96fcf) (by exact odad2c b2) (fun i j hi hij hj => ?_))
    by_cases e : j = lo + x
    · subst e
      by_cases e2 : i = lo + x
      · subst e2; exact Int.le_refl _
      exact Int.le_trans (a3 i (lo + x - 1) hi (by exact o27b6a hij e2) (by exact o72d4d hij e2)) (Int.not_lt.mp hlt)
    exact a3 i j hi hij (by exact o19765 hj e)
  case post =>
    rintro c st' ⟨rfl, x, rfl, a1, a2, a3, a4⟩
    dsimp only
    by_cases e : x = nrem
    · rw [if_pos (by simpa using e)]
      exact wpS_pure (h x _ a1 a2 (Mv.refl _ _) a3)
    rw [if_neg (by simpa using e)]
    obtain ⟨hx, hlt⟩ : x < nrem ∧ K (arrOf st') (lo + x) < K (arrOf st') (lo + x - 1) := a4.resolve_left e
    by_cases hx1 : x > 1
    · rw [if_pos hx1]
      refine wpS_bind (j38 hk ik (by exact o5d89d hs hx) (by exact ofa971 hs hx) ?_)
      dsimp only
      by_cases hr : K (arrOf st') lo < K (arrOf st') (lo + x - 1)
      · rw [if_pos (by simpa using hr)]
        exact wpS_pure (h x _ a1 a2 (Mv.refl _ _) a3)
      rw [if_neg (by simpa using hr)]
      have same : ∀ k, lo ≤ k → k < lo + x → K (arrOf st') k = K (arrOf st') (lo + x - 1) := fun k c1 c2 => by
        have z1 := a3 lo k (Nat.le_refl _) c1 c2
        have z2 := a3 k (lo + x - 1) c1 (by exact o938db c2) (by exact o67ad0 c2)
        exact ofc3cf hr z1 z2
      refine wpS_bind (j58 ?_)
      have m : Mv lo st' (setArr st' (mirror (arrOf st') lo (lo + x) ((lo + x - lo) / 2))) := Mv.rev (Nat.le_refl _) (by exact oc9f27 hs hx)
      have e3 : ∀ k, K (mirror (arrOf st') lo (lo + x) ((lo + x - lo) / 2)) k = K (arrOf st') k := j39 (by exact oc9f27 hs hx) same
      have sz := m.size
      refine ja7 (m.kind.trans hk) (m.ik ik) (by exact o8ab2c hs sz) a1 hx (fun i j hi hij hj => ?_) fun y st2 c1 c2 m2 c3 => h y st2 c1 c2 (m.trans m2) c3
      show K (mirror (arrOf st') lo (lo + x) ((lo + x - lo) / 2)) j ≤ K (mirror (arrOf st') lo (lo + x) ((lo + x - lo) / 2)) i
      rw [e3, e3]
      by_cases e4 : j = lo + x
      · subst e4
        by_cases e5 : i = lo + x
        · subst e5; exact Int.le_refl _
        rw [same i hi (by exact o151ab hij e5)]; exact Int.le_of_lt hlt
      rw [same i hi (by exact o3012f hij hj e4), same j (by exact o2e439 hi hij) (by exact o19765 hj e4)]; exact Int.le_refl _
    rw [if_neg hx1]
    have : x = 1 := by exact o367d3 a1 hx1
    subst this
    refine ja7 hk ik hs a1 hx (fun i j hi hij hj => ?_) fun y st2 c1 c2 m2 c3 => h y st2 c1 c2 m2 c3
    by_cases e4 : i = j
    · subst e4; exact Int.le_refl _
    rw [show j = lo + 1 by exact o53eb9 hi hij hj e4, show i = lo + 1 - 1 by exact o3a276 hi hij hj e4]; exact Int.le_of_lt hlt
theorem Mv.bub {lo : Nat} {st : SortSt} {src d : Nat} (hs : src < (arrOf st).size) (hd : lo + d ≤ src) : Mv lo st (setArr st (bubble (arrOf st) src d)) :=
  ⟨rfl, rfl, rfl, bubble_perm _ _ _, fun k hk => by
    show (bubble (arrOf st) src d)[k]? = _
    rw [getElem?_bubble hs d (by exact ocbfbe hd), if_neg (by exact o0abea hd hk), if_neg (by exact o42aab hd hk)]⟩
theorem wpS_bin {st : SortSt} {lo n ok : Nat} {Q : Bool → SortSt → Prop} (hk : kindOf st = oneType') (ik : IK (arrOf st)) (hn : lo + n ≤ (arrOf st).size) (hok : ok ≤ n) (hS : Seg (arrOf st) lo (lo + ok))
    (h : ∀ st', Mv lo st st' → Seg (arrOf st') lo (lo + n) → Q true st') : wpS (model prog w) A E s (binarySort' lo n ok) Q st := by
  rw [binarySort'_eq]
  refine wpS_bind (wpS_mono (wpS_forRange (I := fun k c st' => c = (none, ()) ∧ Mv lo st st' ∧ Seg (arrOf st') lo (lo + min k n))
    (Q := fun c st' => c = (none, ()) ∧ Mv lo st st' ∧ Seg (arrOf st') lo (lo + n)) ?step ?fin ?init) ?post)
  case post =>
    rintro c st' ⟨rfl, m, hs'⟩
    exact wpS_pure (h st' m hs')
  case init =>
    refine (x3b98 rfl (Mv.refl _ _) (fun i j hi hij hj => ?_))
    by_cases h1 : ok = 0
    · rw [show i = j by exact odb411 hi hij hj h1]; exact Int.le_refl _
    exact hS i j hi hij (by exact o91075 hj h1)
  case fin =>
    rintro c st' ⟨hc, m, hs'⟩
    refine (x3b98 hc m ?_)
    rwa [show min (max (max ok 1) n) n = n by exact o0c0e8] at hs'
  case step =>
    rintro k c st' hak hkn ⟨rfl, m, hs'⟩
    rw [show min k n = k by exact obb26d hkn] at hs'
    have sz := m.size
    have ik' := m.ik ik
    have hk' : kindOf st' = oneType' := m.kind.trans hk
    refine wpS_bind (wpS_mono (wpS_forRange (I := fun x c st'' => st'' = st' ∧ ∃ l r, c = (none, l, r) ∧ l ≤ r ∧ r ≤ k ∧ r - l ≤ k - x ∧
        (∀ i, i < l → K (arrOf st') (lo + i) ≤ K (arrOf st') (lo + k)) ∧ (∀ i, r ≤ i → i < k → K (arrOf st') (lo + k) < K (arrOf st') (lo + i)))
      (Q := fun c st'' => st'' = st' ∧ ∃ l r, c = (none, l, r) ∧ l ≤ k ∧
        (∀ i, i < l → K (arrOf st') (lo + i) ≤ K (arrOf st') (lo + k)) ∧ (∀ i, l ≤ i → i < k → K (arrOf st') (lo + k) < K (arrOf st') (lo + i))) ?istep ?ifin ?iinit) ?ipost)
    case iinit => exact (xd962 rfl 0 k rfl (by exact o871ad) (by exact ocdd73) (by exact obbee4) (fun i hi => by exact o7e3aa hi) (fun i h1 h2 => by exact o2a0a7 h1 h2))
    case ifin =>
      rintro c st'' ⟨rfl, l, r, rfl, hlr, hrk, hm, hlo, hhi⟩
      have : l = r := by exact o0d0f8 hlr hm
      subst this
      exact (x8511 rfl l l rfl hrk hlo hhi)
    case istep =>
      rintro x c st'' _ hxk ⟨rfl, l, r, rfl, hlr, hrk, hm, hlo, hhi⟩
      dsimp only
      by_cases hge : l ≥ r
      · rw [if_pos hge]
        have : l = r := by exact o3bfd2 hlr hge
        subst this
        exact wpS_pure (x8511 rfl l l rfl hrk hlo hhi)
      rw [if_neg hge]
      refine wpS_bind (j38 hk' ik' (by exact ofc0e8 hn hkn sz) (by exact o4a61f hn hkn sz hrk hge) ?_)
      dsimp only
      by_cases hless : K (arrOf st'') (lo + k) < K (arrOf st'') (lo + (l + r) / 2)
      · rw [if_pos (by simpa using hless)]
        refine wpS_pure (xd962 rfl l ((l + r) / 2) rfl (by exact oce27f hge) (by exact o0cf0d hrk hge) (by exact o9bfc5 hm) hlo (fun i h1 h2 => ?_))
        exact Int.lt_of_lt_of_le hless (hs' _ _ (by exact oa21d4) (by exact o0b511 h1) (by exact ob7c71 h2))
      rw [if_neg (by simpa using hless)]
      refine wpS_pure (xd962 rfl ((l + r) / 2 + 1) r rfl (by exact ofbd1f hge) (by exact o12bb4 hrk) (by exact o043da hm) (fun i h1 => ?_) hhi)
      exact Int.le_trans (hs' (lo + i) (lo + (l + r) / 2) (by exact o4937f) (by exact oca6bf h1) (by exact of2367 hrk hge)) (Int.not_lt.mp hless)
    case ipost =>
      rintro c st'' ⟨rfl, l, r, rfl, hlk, hlo, hhi⟩
      show wpS _ _ _ _ (do moveDown' (lo + k) (lo + l); pure (ForInStep.yield (none, ()))) _ _
      rw [moveDown'_eq]
      refine wpS_bind (wpS_modify (wpS_pure (x3b98 rfl (m.trans (Mv.bub (by exact ofc0e8 hn hkn sz) (by exact o7444d))) ?_)))
      rw [show min (k + 1) n = k + 1 by exact o4f671 hkn]
      have hks : lo + k < (arrOf st'').size := by exact ofc0e8 hn hkn sz
      intro i j hi hij hj
      show K (bubble (arrOf st'') (lo + k) (lo + k - (lo + l))) i ≤ K (bubble (arrOf st'') (lo + k) (lo + k - (lo + l))) j
      rw [K_bubble hks (by exact of63d4), K_bubble hks (by exact of63d4), show lo + k - (lo + k - (lo + l)) = lo + l by exact o93db8 hlk]
      have hlo' : ∀ i, lo ≤ i → i < lo + l → K (arrOf st'') i ≤ K (arrOf st'') (lo + k) := fun i a b => by
        have := hlo (i - lo) (by exact oa7551 a b)
        rwa [show lo + (i - lo) = i by exact o03304 a] at this
      have hhi' : ∀ i, lo + l ≤ i → i < lo + k → K (arrOf st'') (lo + k) < K (arrOf st'') i := fun i a b => by
        have := hhi (i - lo) (by exact o58ec2 a) (by exact o9d738 a b)
        rwa [show lo + (i - lo) = i by exact o75013 a] at this
      repeat' split
      all_goals first
        | (exfalso; omega)
        | exact Int.le_refl _
        | exact hlo' _ (by omega) (by omega)
        | exact Int.le_of_lt (hhi' _ (by exact o5f3e0 (by assumption)) (by exact o8947b (by assumption)))
        | exact hs' _ _ (by omega) (by omega) (by omega)
end
end Srt
end
noncomputable section
namespace Srt
open PySem PyProof.Rows
theorem writes (sa : Nat) : ∀ (m : List Keyed) (j : Nat) (a : Array Keyed), sa + j + m.length ≤ a.size →
    ((m.zipIdx j).foldl (fun (a : Array Keyed) (z : Keyed × Nat) => a.setIfInBounds (sa + z.2) z.1) a).toList = a.toList.take (sa + j) ++ m ++ a.toList.drop (sa + j + m.length)
  | [], j, a, h => by simp
  | p :: m, j, a, h => by
    rw [List.zipIdx_cons, List.foldl_cons, writes sa m (j + 1) _ (by simp at h ⊢; exact occ98e h)]
    have hl : sa + j < a.toList.length := by simp at h ⊢; exact oea3b0 h
    rw [Array.toList_setIfInBounds]
    dsimp only
    rw [show sa + (j + 1) = sa + j + 1 by exact o58ede, List.take_succ_eq_append_getElem (by simpa using hl), List.getElem_set_self, List.take_set_of_le (Nat.le_refl _),
      List.drop_set_of_lt (by exact o8baf7)]
    simp only [List.length_cons, List.append_assoc, List.singleton_append, List.cons_append, List.nil_append]
    rw [show sa + j + 1 + m.length = sa + j + (m.length + 1) by exact o976b0]
theorem j7t {xs : Array Keyed} {lo hi : Nat} (h : Seg xs lo hi) (hs : hi ≤ xs.size) : Up ((xs.toList.take hi).drop lo) := by
  rw [Up, List.pairwise_iff_getElem]
  intro i j hi' hj hij
  rw [List.length_drop, List.length_take] at hi' hj
  have hl : xs.toList.length = xs.size := by simp
  have z := h (lo + i) (lo + j) (by exact o4937f) (by exact o62af5 hij) (by exact o73cd1 hj)
  have e1 : xs[lo + i]? = some ((xs.toList.take hi).drop lo)[i] := by
    rw [List.getElem_drop, List.getElem_take]; simp
  have e2 : xs[lo + j]? = some ((xs.toList.take hi).drop lo)[j] := by
    rw [List.getElem_drop, List.getElem_take]; simp
  rw [K_at e1, K_at e2] at z
  exact z
theorem up_seg {xs : Array Keyed} {lo hi : Nat} (h : Up ((xs.toList.take hi).drop lo)) (hs : hi ≤ xs.size) : Seg xs lo hi := by
  intro i j hi' hij hj
  by_cases e : i = j
  · subst e; exact Int.le_refl _
  rw [Up, List.pairwise_iff_getElem] at h
  have hl : xs.toList.length = xs.size := by simp
  have b1 : i - lo < ((xs.toList.take hi).drop lo).length := by rw [List.length_drop, List.length_take]; exact o7da63 hs hi' hij hj hl
  have b2 : j - lo < ((xs.toList.take hi).drop lo).length := by rw [List.length_drop, List.length_take]; exact o3ec4b hs hi' hij hj hl
  have z := h (i - lo) (j - lo) b1 b2 (by exact odc558 hi' hij e)
  have e1 : xs[i]? = some ((xs.toList.take hi).drop lo)[i - lo] := by
    rw [List.getElem_drop, List.getElem_take]
    simp only [show lo + (i - lo) = i by exact o03304 hi']
    simp
  have e2 : xs[j]? = some ((xs.toList.take hi).drop lo)[j - lo] := by
    rw [List.getElem_drop, List.getElem_take]
    simp only [show lo + (j - lo) = j by exact of7759 hi' hij]
    simp
  rw [K_at e1, K_at e2]
  exact z
structure Anew (lo hi : Nat) (xs ys : Array Keyed) : Prop where
  perm : ys.Perm xs
  out : ∀ k, k < lo ∨ hi ≤ k → ys[k]? = xs[k]?
theorem anew_of {lo hi : Nat} {xs ys : Array Keyed} {S : List Keyed} (hl : lo ≤ hi) (hh : hi ≤ xs.size) (e : ys.toList = xs.toList.take lo ++ S ++ xs.toList.drop hi) (p : S.Perm ((xs.toList.take hi).drop lo)) :
    Anew lo hi xs ys ∧ (ys.toList.take hi).drop lo = S := by
  have hx : xs.toList.length = xs.size := by simp
  have dec : xs.toList = xs.toList.take lo ++ (xs.toList.take hi).drop lo ++ xs.toList.drop hi := by
    rw [List.append_assoc, ← j2p hl (by exact o6edbd hh hx), List.take_append_drop]
  have sl : S.length = hi - lo := by rw [p.length_eq, List.length_drop, List.length_take]; exact of9964 hh hx
  refine ⟨⟨?_, fun k hk => ?_⟩, ?_⟩
  · rw [Array.perm_iff_toList_perm, e]
    conv => rhs; rw [dec]
    exact List.Perm.append_right _ (List.Perm.append_left _ p)
  · have y1 : ys[k]? = ys.toList[k]? := by simp
    have x1 : xs[k]? = xs.toList[k]? := by simp
    rw [y1, x1, e]
    rcases hk with hk | hk
    · rw [List.append_assoc, List.getElem?_append_left (by rw [List.length_take]; exact o2e33a hl hh hx hk), List.getElem?_take_of_lt hk]
    rw [List.getElem?_append_right (by rw [List.length_append, List.length_take]; exact of4d5d hl sl hk), List.length_append, List.length_take, sl, List.getElem?_drop]
    congr 1
    exact of9089 hl hh hx hk
  rw [e, List.take_append_of_le_length (by rw [List.length_append, List.length_take]; exact o87529 hh hx sl), List.take_of_length_le (by rw [List.length_append, List.length_take]; exact of97ee hl sl),
    List.drop_append_of_le_length (by rw [List.length_take]; exact oac07c hl hh hx), List.drop_eq_nil_of_le (by rw [List.length_take]; exact ofecc1), List.nil_append]
noncomputable def mAt (i : Nat) : StateT SortSt Sem Bool := do
  let s ← get
  let (some (sa, na, pw), some (sb, nb, _)) := ((pendingOf s)[i]?, (pendingOf s)[i + 1]?) | unsupported "internal:list.sort.pending"
  set (setPending s (((pendingOf s).setIfInBounds i (sa, na + nb, pw)).eraseIdxIfInBounds (i + 1)))
  let some k ← j1i false (← elem' (arrOf s) sb) (arrOf s) sa na 0 | return false
  let (ta, ma) := (sa + k, na - k)
  if ma == 0 then return true
  let some mb ← j1i true (← elem' (arrOf s) (ta + ma - 1)) (arrOf s) sb nb (nb - 1) | return false
  if mb == 0 then return true
  let x := (arrOf s).extract ta sb
  let y := (arrOf s).extract sb (sb + mb)
  let r ← if ma ≤ mb then j56 x y else j57 x y
  modify fun s => setArr s (r.toList.zipIdx.foldl (fun a (p, j) => a.setIfInBounds (ta + j) p) (arrOf s))
  return (failedOf (← get)).isNone
theorem j71 (i : Nat) : mergeAt' i = mAt i := rfl
section
variable {prog : Program} {w : World} {A : Around} {E : Value → Shared → Prop} {s : Shared}
theorem wpS_set {st st' : SortSt} {Q : PUnit → SortSt → Prop} (h : Q ⟨⟩ st') : wpS (model prog w) A E s (set st' : StateT SortSt Sem PUnit) Q st := by
  unfold wpS; rw [StateT.run_set]; exact wpAny_pure ⟨rfl, h⟩
theorem wpS_mAt {st : SortSt} {i sa na pw sb nb pw2 : Nat} {Q : Bool → SortSt → Prop} (hk : kindOf st = oneType') (ik : IK (arrOf st)) (hf : failedOf st = none)
    (e1 : (pendingOf st)[i]? = some (sa, na, pw)) (e2 : (pendingOf st)[i + 1]? = some (sb, nb, pw2)) (hsb : sb = sa + na) (n1 : 1 ≤ na) (n2 : 1 ≤ nb) (hs : sb + nb ≤ (arrOf st).size)
    (s1 : Seg (arrOf st) sa sb) (s2 : Seg (arrOf st) sb (sb + nb))
    (h : ∀ st', kindOf st' = oneType' → failedOf st' = none → pendingOf st' = ((pendingOf st).setIfInBounds i (sa, na + nb, pw)).eraseIdxIfInBounds (i + 1) →
      Anew sa (sb + nb) (arrOf st) (arrOf st') → Seg (arrOf st') sa (sb + nb) → Q true st') :
    wpS (model prog w) A E s (mergeAt' i) Q st := by
  rw [j71]
  unfold mAt
  refine wpS_bind (wpS_get ?_)
  rw [e1, e2]
  dsimp only
  refine wpS_bind (wpS_set ?_)
  have lx : (arrOf st).toList.length = (arrOf st).size := by simp
  have hmem : ∀ p ∈ (arrOf st).toList, IntKey p := ik
  obtain ⟨b0, eb, eb', kb⟩ := j1j ik (show sb < (arrOf st).size by exact of10d6 n2 hs)
  obtain ⟨al, ea, ea', ka⟩ := j1j ik (show sb - 1 < (arrOf st).size by exact o3472e n2 hs)
  have idle : Seg (arrOf st) sa (sb + nb) → Q true (setPending st (((pendingOf st).setIfInBounds i (sa, na + nb, pw)).eraseIdxIfInBounds (i + 1))) := fun z =>
    h _ hk hf rfl ⟨Array.Perm.refl _, fun k _ => rfl⟩ z
  refine wpS_bind (j0l eb (wpS_bind ?_))
  refine j1p hk kb (fun x hx => ?_) (fun x y hxy hy => s1 _ _ (by exact o4937f) (by exact ocaada hxy) (by exact o35238 hsb hy)) (by exact o54526 n1) fun k hk0 ht1 hf1 => ?_
  · obtain ⟨q, z1, _, z2⟩ := j1j ik (show sa + x < (arrOf st).size by exact off5b9 hsb hs hx)
    exact (x9614 q z1 z2)
  dsimp only
  have bel : ∀ x, x < k → K (arrOf st) (sa + x) ≤ K (arrOf st) sb := fun x hx => by
    have := ht1 x hx
    unfold fq at this
    simp at this
    rw [K_at eb]; exact this
  have abv : ∀ x, k ≤ x → x < na → K (arrOf st) sb < K (arrOf st) (sa + x) := fun x hx hx2 => by
    have := hf1 x hx hx2
    unfold fq at this
    simp at this
    rw [K_at eb]; exact this
  by_cases hz : na - k = 0
  · rw [if_pos (by simpa using hz)]
    refine wpS_pure (idle fun x y hx hxy hy => ?_)
    by_cases c1 : y < sb
    · exact s1 x y hx hxy c1
    by_cases c2 : sb ≤ x
    · exact s2 x y c2 hxy hy
    have := bel (x - sa) (by exact o7fcbf hsb hz hx c2)
    rw [show sa + (x - sa) = x by exact o03304 hx] at this
    exact Int.le_trans this (s2 sb y (Nat.le_refl _) (by exact o6f490 c1) hy)
  rw [if_neg (by simpa using hz)]
  rw [show sa + k + (na - k) - 1 = sb - 1 by exact o954ce hsb hz]
  refine wpS_bind (j0l ea (wpS_bind ?_))
  refine j1p hk ka (fun x hx => ?_) (fun x y hxy hy => s2 _ _ (by exact o4937f) (by exact ocaada hxy) (by exact ob7c71 hy)) (by exact oe58d2 n2) fun r hr0 ht2 hf2 => ?_
  · obtain ⟨q, z1, _, z2⟩ := j1j ik (show sb + x < (arrOf st).size by exact o0b455 hs hx)
    exact (x9614 q z1 z2)
  dsimp only
  have bel2 : ∀ x, x < r → K (arrOf st) (sb + x) < K (arrOf st) (sb - 1) := fun x hx => by
    have := ht2 x hx
    unfold fq at this
    simp at this
    rw [K_at ea]; exact this
  have abv2 : ∀ x, r ≤ x → x < nb → K (arrOf st) (sb - 1) ≤ K (arrOf st) (sb + x) := fun x hx hx2 => by
    have := hf2 x hx hx2
    unfold fq at this
    simp at this
    rw [K_at ea]; exact this
  by_cases hr1 : r = 0
  · rw [if_pos (by simpa using hr1)]
    refine wpS_pure (idle fun x y hx hxy hy => ?_)
    by_cases c1 : y < sb
    · exact s1 x y hx hxy c1
    by_cases c2 : sb ≤ x
    · exact s2 x y c2 hxy hy
    have := abv2 (y - sb) (by exact of2430 hr1) (by exact o3532c hy c1)
    rw [show sb + (y - sb) = y by exact o63e44 c1] at this
    exact Int.le_trans (s1 x (sb - 1) hx (by exact o42d20 c2) (by exact oba26a c2)) this
  rw [if_neg (by simpa using hr1)]
  have X1 : ((arrOf st).extract (sa + k) sb).toList = ((arrOf st).toList.take sb).drop (sa + k) := extm _ _ _
  have Y1 : ((arrOf st).extract sb (sb + r)).toList = ((arrOf st).toList.take (sb + r)).drop sb := extm _ _ _
  have xs1 : ((arrOf st).extract (sa + k) sb).size = sb - (sa + k) := by simp; exact o4b1ab hs
  have ys1 : ((arrOf st).extract sb (sb + r)).size = r := by simp; exact o4cddb hs hr0
  have T : Two ((arrOf st).extract (sa + k) sb) ((arrOf st).extract sb (sb + r)) := by
    refine ⟨?_, ?_, ?_, ?_, ?_, ?_, ?_, ?_⟩
    · rw [X1]; exact fun p hp => hmem p (List.mem_of_mem_take (List.mem_of_mem_drop hp))
    · rw [Y1]; exact fun p hp => hmem p (List.mem_of_mem_take (List.mem_of_mem_drop hp))
    · rw [X1]; exact j7t (fun x y a b c => s1 x y (by exact o4df7c a) b c) (by exact o4df7c hs)
    · rw [Y1]; exact j7t (fun x y a b c => s2 x y a b (by exact o162df hr0 c)) (by exact oc6867 hs hr0)
    · rw [xs1]; exact o182b1 hsb hz
    · rw [ys1]; exact o02282 hr1
    · intro q hq y hy
      rw [X1] at hy
      rw [Y1] at hq
      have hq' : q = b0 := by
        rw [List.getElem?_drop, List.getElem?_take_of_lt (by exact o4f446 hr1)] at hq
        rw [Nat.add_zero, eb'] at hq
        exact (Option.some.inj hq).symm
      subst hq'
      obtain ⟨z, hz1, hz2, _, ez⟩ := j16 hy
      have := abv (z - sa) (by exact o58ec2 hz1) (by exact oc3d3c hsb hz1 hz2)
      rw [show sa + (z - sa) = z by exact o75013 hz1, ez, K_at eb] at this
      exact Int.le_of_lt this
    intro x hx y hy
    rw [xs1, X1] at hy
    rw [Y1] at hx
    obtain ⟨z, hz1, hz2, _, ez⟩ := j16 hx
    have hy2 : y ∈ ((arrOf st).toList.take sb).drop (sb - 1) := by
      rw [List.drop_drop] at hy
      rwa [show sa + k + (sb - (sa + k) - 1) = sb - 1 by exact o48381 hsb hz] at hy
    obtain ⟨v, hv1, hv2, _, ev⟩ := j16 hy2
    have := bel2 (z - sb) (by exact oa7551 hz1 hz2)
    rw [show sb + (z - sb) = z by exact o03304 hz1, ez] at this
    rw [show v = sb - 1 by exact o3adc9 hv1 hv2] at ev
    rw [ev] at this
    exact Int.le_of_lt this
  have done : ∀ (R : Array Keyed) (st' : SortSt), Like (setPending st (((pendingOf st).setIfInBounds i (sa, na + nb, pw)).eraseIdxIfInBounds (i + 1))) st' →
      Res ((arrOf st).extract (sa + k) sb).toList ((arrOf st).extract sb (sb + r)).toList R.toList →
      wpS (model prog w) A E s (do
        modify fun s => setArr s (R.toList.zipIdx.foldl (fun a (p, j) => a.setIfInBounds (sa + k + j) p) (arrOf s))
        let z ← get
        pure (failedOf z).isNone) Q st' := by
    intro R st' l hR
    refine wpS_bind (wpS_modify (wpS_bind (wpS_get (wpS_pure ?_))))
    obtain ⟨l1, l2, l3, l4⟩ := l
    have rl : R.toList.length = (sb - (sa + k)) + r := by
      rw [hR.1.length_eq, List.length_append]
      have := xs1; have := ys1
      simp only [Array.length_toList]
      exact o535c4 (by assumption) this
    have w1 := writes (sa + k) R.toList 0 (arrOf st') (by rw [l2]; show sa + k + 0 + _ ≤ (arrOf st).size; rw [rl]; exact o88573 hsb hs hz hr0)
    rw [l2] at w1
    have w2 : (R.toList.zipIdx.foldl (fun (a : Array Keyed) (z : Keyed × Nat) => a.setIfInBounds (sa + k + z.2) z.1) (arrOf st)).toList
        = (arrOf st).toList.take sa ++ (((arrOf st).toList.take (sa + k)).drop sa ++ R.toList ++ ((arrOf st).toList.take (sb + nb)).drop (sb + r)) ++ (arrOf st).toList.drop (sb + nb) := by
      refine w1.trans ?_
      show (arrOf st).toList.take (sa + k + 0) ++ R.toList ++ (arrOf st).toList.drop (sa + k + 0 + R.toList.length) = _
      rw [rl, Nat.add_zero, show sa + k + (sb - (sa + k) + r) = sb + r by exact of907e hsb hz, j2p (l := (arrOf st).toList) (r := sb + r) (i := sb + nb) (by exact ocaada hr0) (by exact o8ab2c hs lx)]
      have : (arrOf st).toList.take (sa + k) = (arrOf st).toList.take sa ++ ((arrOf st).toList.take (sa + k)).drop sa := by
        conv => lhs; rw [← List.take_append_drop sa ((arrOf st).toList.take (sa + k)), ← j2y (Nat.le_add_right sa k)]
      conv => lhs; rw [this]
      simp only [List.append_assoc]
    have cut : ((arrOf st).toList.take (sb + nb)).drop sa = ((arrOf st).toList.take (sa + k)).drop sa ++ (((arrOf st).toList.take sb).drop (sa + k) ++ ((arrOf st).toList.take (sb + r)).drop sb) ++ ((arrOf st).toList.take (sb + nb)).drop (sb + r) := by
      have g1 : ((arrOf st).toList.take (sb + nb)).drop sa = ((arrOf st).toList.take (sa + k)).drop sa ++ ((arrOf st).toList.take (sb + nb)).drop (sa + k) := by
        have := j2p (l := (arrOf st).toList.take (sb + nb)) (r := sa) (i := sa + k) (by exact o4937f) (by rw [List.length_take]; exact o02736 hsb hs lx hz)
        rw [this, ← j2y (show sa + k ≤ sb + nb by exact of1d3a hsb hz)]
      have g2 : ((arrOf st).toList.take (sb + nb)).drop (sa + k) = ((arrOf st).toList.take sb).drop (sa + k) ++ ((arrOf st).toList.take (sb + nb)).drop sb := by
        have := j2p (l := (arrOf st).toList.take (sb + nb)) (r := sa + k) (i := sb) (by exact o2bf35 hsb hz) (by rw [List.length_take]; exact of623e hs lx)
        rw [this, ← j2y (show sb ≤ sb + nb by exact o4937f)]
      have g3 : ((arrOf st).toList.take (sb + nb)).drop sb = ((arrOf st).toList.take (sb + r)).drop sb ++ ((arrOf st).toList.take (sb + nb)).drop (sb + r) := by
        have := j2p (l := (arrOf st).toList.take (sb + nb)) (r := sb) (i := sb + r) (by exact o4937f) (by rw [List.length_take]; exact of37dd hs lx hr0)
        rw [this, ← j2y (show sb + r ≤ sb + nb by exact ocaada hr0)]
      rw [g1, g2, g3]
      simp only [List.append_assoc]
    have hRp : R.toList.Perm (((arrOf st).toList.take sb).drop (sa + k) ++ ((arrOf st).toList.take (sb + r)).drop sb) := by
      have := hR.1
      rwa [X1, Y1] at this
    have an := anew_of (lo := sa) (hi := sb + nb) (xs := arrOf st) (S := ((arrOf st).toList.take (sa + k)).drop sa ++ R.toList ++ ((arrOf st).toList.take (sb + nb)).drop (sb + r)) (by exact o2bd32 hsb) hs w2 (by
      rw [cut]
      exact List.Perm.append_right _ (List.Perm.append_left _ hRp))
    have l2' : arrOf st' = arrOf st := l2
    rw [show (failedOf (setArr st' _)).isNone = true from by
      show (failedOf st').isNone = true
      rw [l4]
      show (failedOf st).isNone = true
      rw [hf]; rfl]
    refine h _ (l1.trans hk) (l4.trans hf) l3 ?_ ?_
    · show Anew sa (sb + nb) (arrOf st) (R.toList.zipIdx.foldl (fun (a : Array Keyed) (z : Keyed × Nat) => a.setIfInBounds (sa + k + z.2) z.1) (arrOf st'))
      rw [l2']
      exact an.1
    show Seg (R.toList.zipIdx.foldl (fun (a : Array Keyed) (z : Keyed × Nat) => a.setIfInBounds (sa + k + z.2) z.1) (arrOf st')) sa (sb + nb)
    rw [l2']
    refine up_seg ?_ (by rw [an.1.perm.size_eq]; exact hs)
    rw [an.2]
    have inM : ∀ z ∈ R.toList, (∃ m, sa + k ≤ m ∧ m < sb ∧ K (arrOf st) m = kn z) ∨ ∃ m, sb ≤ m ∧ m < sb + r ∧ K (arrOf st) m = kn z := fun z hz => by
      rcases List.mem_append.mp (hRp.mem_iff.mp hz) with hz | hz
      · obtain ⟨m, a1, a2, _, a3⟩ := j16 hz
        exact .inl (x0c0c m a1 a2 a3)
      obtain ⟨m, a1, a2, _, a3⟩ := j16 hz
      exact .inr (x0c0c m a1 a2 a3)
    have u1 : Up (((arrOf st).toList.take (sa + k)).drop sa) := j7t (fun x y a b c => s1 x y a b (by exact of65e6 hsb hz c)) (by exact o88582 hsb hs hz)
    have u3 : Up (((arrOf st).toList.take (sb + nb)).drop (sb + r)) := j7t (fun x y a b c => s2 x y (by exact o4df7c a) b c) (by exact o3a19b hs)
    refine (u1.app hR.2 fun x hx y hy => ?_).app u3 fun x hx y hy => ?_
    · obtain ⟨m, a1, a2, _, a3⟩ := j16 hx
      rcases inM y hy with ⟨v, b1, b2, b3⟩ | ⟨v, b1, b2, b3⟩
      · rw [← a3, ← b3]; exact s1 m v a1 (by exact odac00 a2 b1) b2
      rw [← a3, ← b3]
      have := bel (m - sa) (by exact oa7551 a1 a2)
      rw [show sa + (m - sa) = m by exact o03304 a1] at this
      exact Int.le_trans this (s2 sb v (Nat.le_refl _) b1 (by exact o162df hr0 b2))
    obtain ⟨v, b1, b2, _, b3⟩ := j16 hy
    have lastv : K (arrOf st) (sb - 1) ≤ K (arrOf st) v := by
      have := abv2 (v - sb) (by exact o58ec2 b1) (by exact o9d738 b1 b2)
      rwa [show sb + (v - sb) = v by exact o75013 b1] at this
    rcases List.mem_append.mp hx with hx | hx
    · obtain ⟨m, a1, a2, _, a3⟩ := j16 hx
      rw [← a3, ← b3]
      exact Int.le_trans (s1 m (sb - 1) a1 (by exact o02be3 hsb hz a2) (by exact oc129f hsb hz)) lastv
    rcases inM x hx with ⟨m, a1, a2, a3⟩ | ⟨m, a1, a2, a3⟩
    · rw [← a3, ← b3]
      exact Int.le_trans (s1 m (sb - 1) (by exact o4df7c a1) (by exact o646cd a2) (by exact o6bed4 a2)) lastv
    rw [← a3, ← b3]
    exact s2 m v a1 (by exact oea832 b1 a2) b2
  by_cases hc : na - k ≤ r
  · rw [if_pos hc]
    exact wpS_bind (j6z hk T fun R st' l hR => done R st' l hR)
  rw [if_neg hc]
  exact wpS_bind (j70 hk T fun R st' l hR => done R st' l hR)
end
end Srt
end
noncomputable section
namespace Srt
open PySem PyProof.Rows
noncomputable def Runs (xs : Array Keyed) : Nat → List (Nat × Nat × Nat) → Nat → Prop
  | a, [], b => a = b
  | a, (z : Nat × Nat × Nat) :: t, b => z.1 = a ∧ 1 ≤ z.2.1 ∧ Seg xs a (a + z.2.1) ∧ Runs xs (a + z.2.1) t b
theorem Runs.le {xs : Array Keyed} : ∀ {P : List (Nat × Nat × Nat)} {a b : Nat}, Runs xs a P b → a + P.length ≤ b
  | [], a, b, h => by have h' : a = b := h; simp; exact o3d3ea h'
  | z :: t, a, b, h => by
    obtain ⟨_, h2, _, h4⟩ := h
    have := h4.le
    simp only [List.length_cons]; exact o12fa4 h2 this
theorem Runs.app {xs : Array Keyed} : ∀ {P R : List (Nat × Nat × Nat)} {a b : Nat}, Runs xs a (P ++ R) b ↔ ∃ m, Runs xs a P m ∧ Runs xs m R b
  | [], R, a, b => ⟨fun h => (x9614 a rfl h), fun ⟨m, h1, h2⟩ => by have e : a = m := h1; subst e; exact h2⟩
  | z :: t, R, a, b => by
    constructor
    · rintro ⟨h1, h2, h3, h4⟩
      obtain ⟨m, h5, h6⟩ := Runs.app.mp h4
      exact (x9614 m (xe1fa h1 h2 h3 h5) h6)
    rintro ⟨m, ⟨h1, h2, h3, h5⟩, h6⟩
    exact (xe1fa h1 h2 h3 (Runs.app.mpr (x9614 m h5 h6)))
theorem Seg.congr {xs ys : Array Keyed} {lo hi : Nat} (h : Seg xs lo hi) (e : ∀ k, lo ≤ k → k < hi → ys[k]? = xs[k]?) : Seg ys lo hi := fun i j a b c => by
  rw [K_congr (e i a (by exact of192c b c)), K_congr (e j (by exact o2e439 a b) c)]
  exact h i j a b c
theorem Runs.congr {xs ys : Array Keyed} : ∀ {P : List (Nat × Nat × Nat)} {a b : Nat}, Runs xs a P b → (∀ k, a ≤ k → k < b → ys[k]? = xs[k]?) → Runs ys a P b
  | [], a, b, h, _ => h
  | z :: t, a, b, h, e => by
    obtain ⟨h1, h2, h3, h4⟩ := h
    have := h4.le
    exact (xe1fa h1 h2 (h3.congr fun k c1 c2 => e k c1 (by exact o19918 this c2)) (h4.congr fun k c1 c2 => e k (by exact o4df7c c1) c2))
theorem split2 {α : Type} : ∀ {P : List α} {i : Nat}, i + 1 < P.length → ∃ U x y D, P = U ++ x :: y :: D ∧ U.length = i
  | [], i, h => by simp at h
  | [_], i, h => by simp at h
  | x :: y :: D, 0, _ => (x0bf7 [] x y D rfl rfl)
  | x :: y :: D, i + 1, h => by
    obtain ⟨U, u, v, W, e, l⟩ := split2 (P := y :: D) (i := i) (by simp at h ⊢; exact o14dc1 h)
    exact (x0bf7 (x :: U) u v W (by rw [e]; rfl) (by simp [l]))
theorem Runs.pow {xs : Array Keyed} (f : Nat × Nat × Nat → Nat × Nat × Nat) (hf : ∀ z, (f z).1 = z.1 ∧ (f z).2.1 = z.2.1) : ∀ {P : List (Nat × Nat × Nat)} {a b k : Nat}, Runs xs a P b → Runs xs a (P.modify k f) b
  | [], a, b, k, h => by simpa using h
  | z :: t, a, b, 0, h => by
    obtain ⟨h1, h2, h3, h4⟩ := h
    rw [List.modify_zero_cons]
    refine (xe1fa ((hf z).1.trans h1) (by rw [(hf z).2]; exact h2) (by rw [(hf z).2]; exact h3) (by rw [(hf z).2]; exact h4))
  | z :: t, a, b, k + 1, h => by
    obtain ⟨h1, h2, h3, h4⟩ := h
    rw [List.modify_succ_cons]
    exact (xe1fa h1 h2 h3 (Runs.pow f hf h4))
theorem Runs.mod {xs : Array Keyed} {p : Array (Nat × Nat × Nat)} {a b k : Nat} (pw : Nat) (h : Runs xs a p.toList b) : Runs xs a (p.modify k fun x => (x.1, x.2.1, pw)).toList b := by
  rw [Array.toList_modify]
  exact Runs.pow (fun x => (x.1, x.2.1, pw)) (fun z => ⟨rfl, rfl⟩) h
structure Base (a₀ : Array Keyed) (st : SortSt) : Prop where
  perm : (arrOf st).Perm a₀
  kind : kindOf st = oneType'
  failed : failedOf st = none
section
variable {prog : Program} {w : World} {A : Around} {E : Value → Shared → Prop} {s : Shared} {a₀ : Array Keyed}
theorem ja8 {st : SortSt} {i b : Nat} {Q : Bool → SortSt → Prop} (ik : IK a₀) (B : Base a₀ st) (R : Runs (arrOf st) 0 (pendingOf st).toList b) (hb : b ≤ a₀.size) (hi : i + 1 < (pendingOf st).size)
    (h : ∀ st', Base a₀ st' → Runs (arrOf st') 0 (pendingOf st').toList b → (pendingOf st').size + 1 = (pendingOf st).size → (∀ k, b ≤ k → (arrOf st')[k]? = (arrOf st)[k]?) → Q true st') :
    wpS (model prog w) A E s (mergeAt' i) Q st := by
  obtain ⟨U, ⟨sa, na, pw⟩, ⟨sb, nb, pw2⟩, D, e, l⟩ := split2 (P := (pendingOf st).toList) (i := i) (by simpa using hi)
  have sz := B.perm.size_eq
  rw [e] at R
  obtain ⟨m, r1, r2⟩ := Runs.app.mp R
  obtain ⟨z1, z2, z3, z4, z5, z6, z7⟩ := r2
  dsimp only at z1 z2 z3 z4 z5 z6 z7
  subst z1
  have le7 := z7.le
  have le1 := r1.le
  have e1 : (pendingOf st)[i]? = some (sa, na, pw) := by
    have : (pendingOf st)[i]? = (pendingOf st).toList[i]? := by simp
    rw [this, e, List.getElem?_append_right (by exact o3d3ea l)]; simp [l]
  have e2 : (pendingOf st)[i + 1]? = some (sb, nb, pw2) := by
    have : (pendingOf st)[i + 1]? = (pendingOf st).toList[i + 1]? := by simp
    rw [this, e, List.getElem?_append_right (by exact ofdea4 l)]; simp [l, show i + 1 - i = 1 by exact o3b188]
  subst z4
  refine wpS_mAt B.kind (ik.perm B.perm) B.failed e1 e2 rfl z2 z5 (by exact o99351 hb sz le7) z3 z6 fun st' k1 k2 k3 k4 k5 => ?_
  have pl : (pendingOf st').toList = U ++ (sa, na + nb, pw) :: D := by
    rw [k3, Array.toList_eraseIdxIfInBounds, Array.toList_setIfInBounds, e, ← l, List.set_append_right (h := Nat.le_refl _), List.eraseIdx_append_of_length_le (by exact oa7bba)]
    simp [show U.length + 1 - U.length = 1 by exact o3b188]
  refine h st' ⟨k4.perm.trans B.perm, k1, k2⟩ ?_ ?_ fun k hk => k4.out k (.inr (by exact oa3404 le7 hk))
  · rw [pl]
    refine Runs.app.mpr (x7ea0 sa (r1.congr fun k _ c => k4.out k (.inl c)) rfl (by dsimp only; exact o90fa8 z5) ?_ ?_)
    · dsimp only
      rw [← Nat.add_assoc]
      exact k5
    dsimp only
    rw [← Nat.add_assoc]
    exact z7.congr fun k c _ => k4.out k (.inr c)
  have c1 : (pendingOf st').toList.length = (pendingOf st').size := by simp
  have c2 : (pendingOf st).toList.length = (pendingOf st).size := by simp
  rw [pl] at c1
  rw [e] at c2
  simp only [List.length_append, List.length_cons] at c1 c2
  exact od4c68 c1 c2
theorem j41 {st : SortSt} {Q : Unit → SortSt → Prop} (ik : IK a₀) (B : Base a₀ st) (hp : pendingOf st = #[]) (h2 : 2 ≤ a₀.size)
    (h : ∀ st', (arrOf st').Perm a₀ → failedOf st' = none → SortedTo (arrOf st') a₀.size → Q () st') : wpS (model prog w) A E s sortRuns' Q st := by
  rw [sortRuns'_eq]
  refine wpS_bind (wpS_get ?_)
  dsimp only
  rw [B.perm.size_eq]
  generalize minRun' a₀.size a₀.size 0 = mr
  refine wpS_bind (wpS_mono (wpS_forRange
    (I := fun x c st' => ∃ lo, c = (none, lo) ∧ x ≤ lo ∧ lo ≤ a₀.size ∧ Base a₀ st' ∧ Runs (arrOf st') 0 (pendingOf st').toList lo)
    (Q := fun c st' => c = (none, a₀.size) ∧ Base a₀ st' ∧ Runs (arrOf st') 0 (pendingOf st').toList a₀.size) ?step ?fin (x7ea0 0 rfl (Nat.le_refl _) (Nat.zero_le _) B (by rw [hp]; exact rfl))) ?post)
  case fin =>
    rintro c st' ⟨lo, rfl, h1, h3, h4, h5⟩
    have : lo = a₀.size := by exact o1ad21 h1 h3
    subst this
    exact (x3b98 rfl h4 h5)
  case step =>
    rintro x c st' _ hx ⟨lo, rfl, h1, h3, h4, h5⟩
    dsimp only
    by_cases hl : lo ≥ a₀.size
    · rw [if_pos hl]
      have : lo = a₀.size := by exact o3bfd2 h3 hl
      subst this
      exact wpS_pure (x3b98 rfl h4 h5)
    rw [if_neg hl]
    have sz := h4.perm.size_eq
    refine wpS_bind (wpS_run h4.kind (ik.perm h4.perm) (by exact o69e4c hl sz) (by exact o1843e hl) fun m st2 m1 m2 mv sg => ?_)
    dsimp only
    have B2 : Base a₀ st2 := ⟨mv.perm.trans h4.perm, mv.kind.trans h4.kind, mv.failed.trans h4.failed⟩
    have R2 : Runs (arrOf st2) 0 (pendingOf st2).toList lo := by
      rw [mv.pend]; exact h5.congr fun k _ c => mv.low k c
    have rest : ∀ (n : Nat) (st3 : SortSt), 1 ≤ n → lo + n ≤ a₀.size → Base a₀ st3 → Runs (arrOf st3) 0 (pendingOf st3).toList lo → Seg (arrOf st3) lo (lo + n) →
        wpS (model prog w) A E s (do
          modify fun s => setPending s ((pendingOf s).push (lo, n, 0))
          pure (ForInStep.yield ((none : Option Unit), lo + n)))
          (fun r st' => match r with
            | .done c' => c' = (none, a₀.size) ∧ Base a₀ st' ∧ Runs (arrOf st') 0 (pendingOf st').toList a₀.size
            | .yield c' => ∃ lo, c' = (none, lo) ∧ x + 1 ≤ lo ∧ lo ≤ a₀.size ∧ Base a₀ st' ∧ Runs (arrOf st') 0 (pendingOf st').toList lo) st3 := by
      intro n st3 n1 n2 B3 R3 S3
      refine wpS_bind (wpS_modify (wpS_pure (x7ea0 (lo + n) rfl (by exact ofd174 h1 n1) n2 ⟨B3.perm, B3.kind, B3.failed⟩ ?_)))
      show Runs (arrOf st3) 0 ((pendingOf st3).push (lo, n, 0)).toList (lo + n)
      rw [Array.toList_push]
      exact Runs.app.mpr (x7ea0 lo R3 rfl n1 S3 rfl)
    have pack : ∃ (n : Nat) (st3 : SortSt), n = m ∧ st3 = st2 ∧ 1 ≤ n ∧ lo + n ≤ a₀.size ∧ Base a₀ st3 ∧ Runs (arrOf st3) 0 (pendingOf st3).toList lo ∧ Seg (arrOf st3) lo (lo + n) := (xc87d m st2 rfl rfl m1 (by exact o3bd69 m1 m2) B2 R2 sg)
    have sz2 := B2.perm.size_eq
    by_cases hm : m < mr
    case' pos =>
      rw [if_pos hm]
      refine wpS_bind (wpS_lift (wpAny_rule ⟨rfl, ?_⟩))
      refine wpS_bind (wpS_bin B2.kind (ik.perm B2.perm) (by exact o158ab m1 m2 sz2) (by exact occ96a m2 hm) sg fun st3 mv3 S3 => ?_)
      rw [if_neg (by simp)]
      have B3 : Base a₀ st3 := ⟨mv3.perm.trans B2.perm, mv3.kind.trans B2.kind, mv3.failed.trans B2.failed⟩
      have R3 : Runs (arrOf st3) 0 (pendingOf st3).toList lo := by
        rw [mv3.pend]; exact R2.congr fun k _ c => mv3.low k c
      have n1 : 1 ≤ min (a₀.size - lo) mr := by exact o72b62 m1 m2 hm
      have n2 : lo + min (a₀.size - lo) mr ≤ a₀.size := by exact o2cf7b n1
      generalize min (a₀.size - lo) mr = n at n1 n2 S3 ⊢
    case' neg =>
      rw [if_neg hm]
      obtain ⟨n, st3, en, es, n1, n2, B3, R3, S3⟩ := pack
      rw [← en, ← es]
    all_goals
      refine wpS_bind (wpS_get ?_)
      cases hb : (pendingOf st3).back? with
      | none => exact rest n st3 n1 n2 B3 R3 S3
      | some z =>
        obtain ⟨s1, k1, p1⟩ := z
        dsimp only
        generalize power' a₀.size (2 * s1 + k1) (2 * s1 + k1 + k1 + n) a₀.size = pw
        refine wpS_bind (wpS_mono (wpS_forRange (I := fun _ c st' => c = (none, ()) ∧ Base a₀ st' ∧ Runs (arrOf st') 0 (pendingOf st').toList lo ∧ Seg (arrOf st') lo (lo + n))
          (Q := fun c st' => c = (none, ()) ∧ Base a₀ st' ∧ Runs (arrOf st') 0 (pendingOf st').toList lo ∧ Seg (arrOf st') lo (lo + n)) ?_ (fun _ _ hh => hh) (xe1fa rfl B3 R3 S3)) ?_)
        · rintro y c st4 _ _ ⟨rfl, B4, R4, S4⟩
          refine wpS_bind (wpS_get ?_)
          by_cases hs : (pendingOf st4).size > 1
          · rw [if_pos hs]
            cases e : (pendingOf st4)[(pendingOf st4).size - 2]? with
            | none => exact wpS_pure (xe1fa rfl B4 R4 S4)
            | some z =>
              obtain ⟨_, _, older⟩ := z
              dsimp only
              by_cases ho : older ≤ pw
              · rw [if_pos ho]
                exact wpS_pure (xe1fa rfl B4 R4 S4)
              rw [if_neg ho]
              refine wpS_bind (ja8 ik B4 R4 h3 (by exact oefe9d hs) fun st5 B5 R5 _ o5 => ?_)
              rw [if_neg (by simp)]
              exact wpS_pure (xe1fa rfl B5 R5 (S4.congr fun k c _ => o5 k c))
          rw [if_neg hs]
          exact wpS_pure (xe1fa rfl B4 R4 S4)
        rintro c st4 ⟨rfl, B4, R4, S4⟩
        dsimp only
        refine wpS_bind (wpS_modify ?_)
        refine rest n _ n1 n2 ⟨B4.perm, B4.kind, B4.failed⟩ ?_ S4
        show Runs (arrOf st4) 0 ((pendingOf st4).modify ((pendingOf st4).size - 1) fun x => (x.1, x.2.1, pw)).toList lo
        exact Runs.mod _ R4
  case post =>
    rintro c st' ⟨rfl, B', R'⟩
    dsimp only
    refine wpS_bind (wpS_mono (wpS_forRange (I := fun x c st2 => c = (none, ()) ∧ Base a₀ st2 ∧ Runs (arrOf st2) 0 (pendingOf st2).toList a₀.size ∧ (pendingOf st2).size + x ≤ a₀.size)
      (Q := fun c st2 => c = (none, ()) ∧ Base a₀ st2 ∧ Runs (arrOf st2) 0 (pendingOf st2).toList a₀.size ∧ (pendingOf st2).size ≤ 1) ?_ ?_ (xe1fa rfl B' R' (by have := R'.le; simpa using this))) ?_)
    · rintro x c st2 _ hx ⟨rfl, B2, R2, L2⟩
      refine wpS_bind (wpS_get ?_)
      by_cases hs : (pendingOf st2).size ≤ 1
      · rw [if_pos hs]
        exact wpS_pure (xe1fa rfl B2 R2 hs)
      rw [if_neg hs]
      refine wpS_bind (ja8 ik B2 R2 (Nat.le_refl _) ?_ fun st3 B3 R3 l3 _ => ?_)
      · repeat' split
        all_goals omega
      rw [if_neg (by simp)]
      exact wpS_pure (xe1fa rfl B3 R3 (by exact o2d205 L2 l3))
    · rintro c st2 ⟨rfl, B2, R2, L2⟩
      exact (xe1fa rfl B2 R2 (by exact o1e13e L2))
    rintro c st2 ⟨rfl, B2, R2, L2⟩
    refine wpS_pure (h _ B2.perm B2.failed fun i j hij hj => ?_)
    have ll : (pendingOf st2).toList.length ≤ 1 := by simpa using L2
    match hP : (pendingOf st2).toList, R2, ll with
    | [], R2, _ => have e : 0 = a₀.size := R2; exact o1d8ed hj e
    | [z], R2, _ =>
      obtain ⟨_, _, z3, z4⟩ := R2
      have e : 0 + z.2.1 = a₀.size := z4
      rw [e] at z3
      exact z3 i j (Nat.zero_le _) hij hj
    | _ :: _ :: _, _, ll => simp at ll
end
end Srt
end
noncomputable section
namespace Srt
open PySem PyProof.Rows
section
variable {prog : Program} {w : World} {A : Around} {E : Value → Shared → Prop} {s : Shared}
theorem ik_of {vs : List Value} {ns : List Int} (hI : IntsAre vs ns) : IK (pairsOf vs) := fun p hp => hI.intKeys p hp
theorem srt_in {a : Addr} {e1 : Nat} {vs : List Value} {ns : List Int} {b : Bool} {P : Fin → Shared → Prop} (ho : s.heap.get? a = some (seqObj "list" #[] e1)) (hI : IntsAre vs ns) (hz : vs.length ≤ sizeLine)
    (fin : ∀ (out : Array Value) (ms : List Int), IntsAre out.toList ms → ms.Perm ns → Ordered b ms → P (.done (.ret .none)) { s with heap := s.heap.update a (Obj.mapSeq fun _ => out) }) :
    wpAny (model prog w) A (do
      let kd ← if vs.toArray.size < 2 then pure general' else keyKind' vs.toArray
      let ((), z) ← (if vs.toArray.size < 2 then pure () else sortRuns').run (SortSt.mk' kd (if b then (vs.toArray.zip vs.toArray).reverse else vs.toArray.zip vs.toArray) #[] 7 none)
      let out := (arrOf z).map (·.2)
      let moved := (← seqEpoch a) != e1
      Builtin.List.listUpdate (.ref a) fun _ => if b then out.reverse else out
      if let some e := failedOf z then rule "list.sort.comparison-raised"; throw e
      if moved then rule "list.sort.modified"; raiseError "ValueError" "list modified during sort"
      ret .none) P E s := by
  have start : (if b = true then (vs.toArray.zip vs.toArray).reverse else vs.toArray.zip vs.toArray).Perm (pairsOf vs) := by
    cases b
    · exact Array.Perm.refl _
    rw [if_pos rfl, Array.perm_iff_toList_perm, Array.toList_reverse]
    exact List.reverse_perm _
  have tail : ∀ z : SortSt, (arrOf z).Perm (pairsOf vs) → failedOf z = none → SortedTo (arrOf z) (pairsOf vs).size → wpAny (model prog w) A (do
      let moved := (← seqEpoch a) != e1
      Builtin.List.listUpdate (.ref a) fun _ => if b then ((arrOf z).map (·.2)).reverse else (arrOf z).map (·.2)
      if let some e := failedOf z then rule "list.sort.comparison-raised"; throw e
      if moved then rule "list.sort.modified"; raiseError "ValueError" "list modified during sort"
      ret .none) P E s := by
    intro z hp hf hs
    obtain ⟨ms, g1, g2, g3⟩ := sorted_out_rev hI hp hs b
    refine wpAny_bind (seqEpoch_at ho rfl ?_)
    dsimp only
    have len : (if b = true then ((arrOf z).map (·.2)).reverse else (arrOf z).map (·.2)).size = vs.length := by
      have e : ((arrOf z).map (·.2)).size = vs.length := (Array.size_map ..).trans (hp.size_eq.trans (pairsOf_size vs))
      cases b
      · exact e
      rw [if_pos rfl, Array.size_reverse]; exact e
    refine wpAny_bind (listUpdate_at ho rfl ?_ (by simp) (by rw [len]; exact o6129f hz))
    rw [hf]
    simp only [bne_self_eq_false, Bool.false_eq_true, if_false]
    exact wpAny_pure (fin _ ms g1 g2 g3)
  by_cases h2 : vs.toArray.size < 2
  · rw [if_pos h2, if_pos h2]
    refine wpAny_bind (wpAny_pure (wpAny_bind (m := pure ((), SortSt.mk' general' (if b = true then (vs.toArray.zip vs.toArray).reverse else vs.toArray.zip vs.toArray) #[] 7 none)) (wpAny_pure ?_)))
    refine tail (SortSt.mk' general' _ #[] 7 none) start rfl fun i j hij hj => ?_
    rw [pairsOf_size] at hj
    have e : vs.toArray.size = vs.length := by simp
    rw [show i = j by exact o45a13 h2 hij hj e]
    exact Int.le_refl _
  rw [if_neg h2, if_neg h2]
  have kd : keyKind' vs.toArray = pure oneType' := by
    cases vs with
    | nil => simp at h2
    | cons x t =>
      cases t with
      | nil => simp at h2
      | cons y r => exact keyKind_ints hI
  rw [kd]
  refine wpAny_bind (wpAny_pure ?_)
  have run := j41 (prog := prog) (w := w) (A := A) (E := E) (s := s) (a₀ := pairsOf vs) (st := SortSt.mk' oneType' (if b = true then (vs.toArray.zip vs.toArray).reverse else vs.toArray.zip vs.toArray) #[] 7 none)
    (Q := fun _ z => (arrOf z).Perm (pairsOf vs) ∧ failedOf z = none ∧ SortedTo (arrOf z) (pairsOf vs).size) (ik_of hI) ⟨start, rfl, rfl⟩ rfl (by rw [pairsOf_size]; simp at h2; exact o9d62e h2) fun z c1 c2 c3 => (x3b98 c1 c2 c3)
  refine wpAny_bind (wpAny_mono run ?_ fun _ _ e => e)
  rintro ⟨⟨⟩, z⟩ s' ⟨rfl, c1, c2, c3⟩
  exact tail z c1 c2 c3
noncomputable def midH (h : Heap) (a : Addr) (vs : List Value) : Heap := ((h.update a (Obj.mapSeq fun _ => #[])).push (seqObj "tuple" vs.toArray 0)).push (seqObj "list" #[] 0)
theorem j72 {h : Heap} {a : Addr} {vs : List Value} {n : Nat} (ho : h.get? a = some (seqObj "list" vs.toArray n)) : ∃ e1, (h.update a (Obj.mapSeq fun _ => #[])).get? a = some (seqObj "list" #[] e1) ∧ (midH h a vs).get? a = some (seqObj "list" #[] e1) := by
  have ha := Heap.lt_size ho
  refine (x9614 _ (get?_update_seq ho (fun _ => #[])) ?_)
  unfold midH
  rw [Heap.get?_push_ne, Heap.get?_push_ne]
  · exact get?_update_seq ho (fun _ => #[])
  · rw [Heap.size_update]; exact Nat.ne_of_lt ha
  rw [size_push', Heap.size_update]; exact Nat.ne_of_lt (Nat.lt_succ_of_lt ha)
theorem j7u {a : Addr} {vs : List Value} {ns : List Int} {n : Nat} {P : Fin → Shared → Prop} (ho : s.heap.get? a = some (seqObj "list" vs.toArray n)) (hI : IntsAre vs ns) (hz : vs.length ≤ sizeLine)
    (fin : ∀ (out : Array Value) (ms : List Int), IntsAre out.toList ms → ms.Perm ns → ms.Pairwise (· ≤ ·) → P (.done (.ret .none)) { s with heap := sortedHeap s.heap a vs out }) :
    wpAny (model prog w) A (Builtin.«list.sort» ⟨[.ref a], []⟩) P E s := by
  obtain ⟨e1, o1, o2⟩ := j72 ho
  rw [list_sort_plain]
  refine wpAny_bind (listItems_at ho rfl ?_)
  refine wpAny_bind (listUpdate_at ho rfl ?_ (by simpa using hz) (by simp))
  refine wpAny_bind (seqEpoch_at o1 rfl ?_)
  refine wpAny_bind (wpAny_newTuple ?_)
  refine wpAny_bind (wpAny_newList ?_)
  refine wpAny_holding ?_
  have z := srt_in (prog := prog) (w := w) (A := A) (E := E) (s := { s with heap := midH s.heap a vs }) (b := false) (P := P) o2 hI hz fin
  simp only [Bool.false_eq_true, if_false] at z
  exact z
theorem j65 {a : Addr} {vs : List Value} {ns : List Int} {n : Nat} {b : Bool} {P : Fin → Shared → Prop} (ho : s.heap.get? a = some (seqObj "list" vs.toArray n)) (hI : IntsAre vs ns) (hz : vs.length ≤ sizeLine)
    (fin : ∀ (out : Array Value) (ms : List Int), IntsAre out.toList ms → ms.Perm ns → Ordered b ms → P (.done (.ret .none)) { s with heap := sortedHeap s.heap a vs out }) :
    wpAny (model prog w) A (Builtin.«list.sort» ⟨[.ref a], [(Str.ofString "reverse", .bool b)]⟩) P E s := by
  obtain ⟨e1, o1, o2⟩ := j72 ho
  rw [list_sort_rev]
  refine wpAny_bind (listItems_at ho rfl ?_)
  refine wpAny_bind (listUpdate_at ho rfl ?_ (by simpa using hz) (by simp))
  refine wpAny_bind (seqEpoch_at o1 rfl ?_)
  refine wpAny_bind (wpAny_newTuple ?_)
  refine wpAny_bind (wpAny_newList ?_)
  refine wpAny_holding ?_
  have z := srt_in (prog := prog) (w := w) (A := A) (E := E) (s := { s with heap := midH s.heap a vs }) (b := b) (P := P) o2 hI hz fin
  cases b
  · exact z
  exact wpAny_bind (wpAny_rule z)
theorem j8p {l : Addr} {vs : List Value} {ns : List Int} {Q : Value → Shared → Prop} (hl : s.heap.IsList l vs.toArray) (hI : IntsAre vs ns) (hz : vs.length ≤ sizeLine)
    (fin : ∀ (out : Array Value) (ms : List Int), IntsAre out.toList ms → ms.Perm ns → ms.Pairwise (· ≤ ·) → Q (.ref (s.heap.objs.size + 1)) { s with heap := sortedAll s.heap vs out }) :
    wpAny (model prog w) A (call (.builtin "sorted") [.ref l]) Q E s := by
  refine Calls.call_function_entry kind_sorted plain_sorted entry_sorted (args_sorted1 _) ?_
  unfold Builtin.«sorted»
  refine wpAny_bind (m := checkCount "sorted" 1 1 _) (wpAny_pure ?_)
  refine wpAny_bind (collect_list hl ?_ hz)
  refine wpAny_bind (wpAny_newList ?_)
  generalize hh : (s.heap.push (seqObj "list" #[] 0)).update s.heap.objs.size (Obj.mapSeq (· ++ vs.toArray)) = h1
  have hs : h1.objs.size = s.heap.objs.size + 1 := by rw [← hh, Heap.size_update, size_push']
  have hL : (h1.push (seqObj "list" vs.toArray 0)).get? (s.heap.objs.size + 1) = some (seqObj "list" vs.toArray 0) := by
    rw [← hs]; exact Heap.get?_push_size _ rfl
  dsimp only
  rw [hs]
  refine wpAny_bind (wpAny_holding (wpAny_call_entry slot_list_sort (x9614 _ hL rfl) entry_list_sort (j7u hL hI hz fun out ms c1 c2 c3 => (x9614 _ rfl (wpAny_pure (x9614 _ rfl ?_)))) (args_list_sort _)))
  subst hh
  exact fin out ms c1 c2 c3
theorem j4n {l : Addr} {vs : List Value} {ns : List Int} {b : Bool} {Q : Value → Shared → Prop} (hl : s.heap.IsList l vs.toArray) (hI : IntsAre vs ns) (hz : vs.length ≤ sizeLine)
    (fin : ∀ (out : Array Value) (ms : List Int), IntsAre out.toList ms → ms.Perm ns → Ordered b ms → Q (.ref (s.heap.objs.size + 1)) { s with heap := sortedAll s.heap vs out }) :
    wpAny (model prog w) A (call (.builtin "sorted") [.ref l] [(Str.ofString "reverse", .bool b)]) Q E s := by
  refine call_function_entry_kw kind_sorted plain_sorted entry_sorted (args_sorted_rev _ _) ?_
  unfold Builtin.«sorted»
  refine wpAny_bind (m := checkCount "sorted" 1 1 _) (wpAny_pure ?_)
  refine wpAny_bind (collect_list hl ?_ hz)
  refine wpAny_bind (wpAny_newList ?_)
  generalize hh : (s.heap.push (seqObj "list" #[] 0)).update s.heap.objs.size (Obj.mapSeq (· ++ vs.toArray)) = h1
  have hs : h1.objs.size = s.heap.objs.size + 1 := by rw [← hh, Heap.size_update, size_push']
  have hL : (h1.push (seqObj "list" vs.toArray 0)).get? (s.heap.objs.size + 1) = some (seqObj "list" vs.toArray 0) := by
    rw [← hs]; exact Heap.get?_push_size _ rfl
  dsimp only
  rw [hs]
  refine wpAny_bind (wpAny_holding (wpAny_call_entry_kw slot_list_sort (x9614 _ hL rfl) entry_list_sort (j65 hL hI hz fun out ms c1 c2 c3 => (x9614 _ rfl (wpAny_pure (x9614 _ rfl ?_)))) (args_list_sort_rev _ _)))
  subst hh
  exact fin out ms c1 c2 c3
end
end Srt
end
noncomputable section
namespace L3
noncomputable def srt (ns : List Int) : List Int := ns.mergeSort fun a b => decide (a ≤ b)
theorem j1c (ns : List Int) : (srt ns).Perm ns := List.mergeSort_perm ns _
theorem j7v (ns : List Int) : (srt ns).Pairwise (· ≤ ·) := by
  have h := List.pairwise_mergeSort (le := fun (a b : Int) => decide (a ≤ b)) (fun a b c h1 h2 => by simp at *; exact oa15b4 h1 h2) (fun a b => by simp; exact o9661b) ns
  exact h.imp fun {a b} h => by simpa using h
theorem j73 : ∀ {l r : List Int}, l.Perm r → l.Pairwise (· ≤ ·) → r.Pairwise (· ≤ ·) → l = r
  | [], r, p, _, _ => (List.nil_perm.mp p).symm
  | a :: l, [], p, _, _ => by have := p.length_eq; simp at this
  | a :: l, b :: r, p, h1, h2 => by
    have e : a = b := by
      have m1 : a ∈ b :: r := p.mem_iff.mp List.mem_cons_self
      have m2 : b ∈ a :: l := p.mem_iff.mpr List.mem_cons_self
      have h1' := List.pairwise_cons.mp h1
      have h2' := List.pairwise_cons.mp h2
      rcases List.mem_cons.mp m1 with e | m1
      · exact e
      rcases List.mem_cons.mp m2 with e | m2
      · exact e.symm
      have := h2'.1 a m1
      have := h1'.1 b m2
      exact o66bb4 (by assumption) this
    subst e
    rw [j73 (List.Perm.cons_inv p) (List.pairwise_cons.mp h1).2 (List.pairwise_cons.mp h2).2]
theorem j66 {ms ns : List Int} (p : ms.Perm ns) (u : ms.Pairwise (· ≤ ·)) : ms = srt ns := j73 (p.trans (j1c ns).symm) u (j7v ns)
theorem j1s (ns : List Int) : (srt ns).length = ns.length := (j1c ns).length_eq
theorem ja9 {ms ns : List Int} (p : ms.Perm ns) : srt ms = srt ns := j66 ((j1c ms).trans p) (j7v ms)
theorem j74 {ms ns : List Int} (h : srt ms = srt ns) : ms.Perm ns := (j1c ms).symm.trans (h ▸ j1c ns)
theorem j3o {ms ns : List Int} (p : ms.Perm ns) : ms.sum = ns.sum := by
  induction p with
  | nil => rfl
  | cons x _ ih => simp [ih]
  | swap x y l => simp only [List.sum_cons]; exact obed08
  | trans _ _ h1 h2 => exact h1.trans h2
noncomputable def top (k : Nat) (ns : List Int) : Int := ((srt ns).drop (ns.length - k)).sum
theorem j1t (l : List Int) : l.reverse.sum = l.sum := j3o (List.reverse_perm l)
theorem j75 {k : Nat} {ns : List Int} (h : k ≤ ns.length) : (((srt ns).reverse).take k).sum = top k ns := by
  unfold top
  rw [List.take_reverse, j1t, j1s]
noncomputable def ab1 (m x : Int) : Int := if x > m then x - m else 0
theorem j1g (m x : Int) : (m < x ∧ ab1 m x = x - m) ∨ (x ≤ m ∧ ab1 m x = 0) := by unfold ab1; split <;> omega
noncomputable def abv (ns : List Int) (m : Int) : Int := (ns.map (ab1 m)).sum
theorem j59 {ms ns : List Int} (p : ms.Perm ns) (m : Int) : abv ms m = abv ns m := j3o (p.map _)
theorem jaa (a b : List Int) (m : Int) : abv (a ++ b) m = abv a m + abv b m := by unfold abv; rw [List.map_append, List.sum_append]
theorem abv_nn (m : Int) : ∀ a : List Int, 0 ≤ abv a m
  | [] => Int.le_refl _
  | x :: t => by
    have := abv_nn m t
    unfold abv at *
    simp only [List.map_cons, List.sum_cons]
    rcases j1g m x with ⟨c1, c2⟩ | ⟨c1, c2⟩ <;> omega
theorem abv_ge (m : Int) : ∀ a : List Int, a.sum - a.length * m ≤ abv a m
  | [] => by simp [abv]
  | x :: t => by
    have h := abv_ge m t
    unfold abv at *
    simp only [List.map_cons, List.sum_cons, List.length_cons]
    have : ((t.length + 1 : Nat) : Int) * m = t.length * m + m := by rw [Int.natCast_add, Int.add_mul]; simp
    rw [this]
    rcases j1g m x with ⟨c1, c2⟩ | ⟨c1, c2⟩ <;> omega
theorem abv_eq (m : Int) : ∀ a : List Int, (∀ x ∈ a, m ≤ x) → abv a m = a.sum - a.length * m
  | [], _ => by simp [abv]
  | x :: t, hx => by
    have h := abv_eq m t fun y hy => hx y (List.mem_cons_of_mem _ hy)
    have h1 := hx x List.mem_cons_self
    unfold abv at *
    simp only [List.map_cons, List.sum_cons, List.length_cons]
    have : ((t.length + 1 : Nat) : Int) * m = t.length * m + m := by rw [Int.natCast_add, Int.add_mul]; simp
    rw [this]
    rcases j1g m x with ⟨c1, c2⟩ | ⟨c1, c2⟩ <;> omega
theorem j7w (m : Int) : ∀ a : List Int, (∀ x ∈ a, x ≤ m) → abv a m = 0
  | [], _ => rfl
  | x :: t, hx => by
    have h := j7w m t fun y hy => hx y (List.mem_cons_of_mem _ hy)
    have h1 := hx x List.mem_cons_self
    unfold abv at *
    simp only [List.map_cons, List.sum_cons]
    rcases j1g m x with ⟨c1, c2⟩ | ⟨c1, c2⟩ <;> omega
theorem j8q {k : Nat} {ns : List Int} (hk : k ≤ ns.length) (m : Int) : top k ns - k * m ≤ abv ns m := by
  have e : abv ns m = abv (srt ns) m := j59 (j1c ns).symm m
  rw [e, ← List.take_append_drop (ns.length - k) (srt ns), jaa]
  have h1 := abv_nn m ((srt ns).take (ns.length - k))
  have h2 := abv_ge m ((srt ns).drop (ns.length - k))
  have l : ((srt ns).drop (ns.length - k)).length = k := by rw [List.length_drop, j1s]; exact ofb5a9 hk
  rw [l] at h2
  unfold top
  exact o52f10 h1 h2
theorem j8r {k : Nat} {ns : List Int} (h1 : 1 ≤ k) (hk : k ≤ ns.length) : ∃ m, m ∈ ns ∧ abv ns m = top k ns - k * m := by
  have hl : ns.length - k < (srt ns).length := by rw [j1s]; exact of161c h1 hk
  refine (x9614 ((srt ns)[ns.length - k]) ((j1c ns).mem_iff.mp (List.getElem_mem hl)) ?_)
  generalize hm : (srt ns)[ns.length - k] = m
  have up := j7v ns
  have e : abv ns m = abv (srt ns) m := j59 (j1c ns).symm m
  rw [e, ← List.take_append_drop (ns.length - k) (srt ns), jaa]
  have d : (srt ns).drop (ns.length - k) = m :: (srt ns).drop (ns.length - k + 1) := by rw [List.drop_eq_getElem_cons hl, hm]
  have up' : ((srt ns).take (ns.length - k) ++ (srt ns).drop (ns.length - k)).Pairwise (· ≤ ·) := by rw [List.take_append_drop]; exact up
  have p := List.pairwise_append.mp up'
  rw [j7w m _ fun x hx => p.2.2 x hx m (by rw [d]; exact List.mem_cons_self)]
  have l : ((srt ns).drop (ns.length - k)).length = k := by rw [List.length_drop, j1s]; exact ofb5a9 hk
  rw [abv_eq m ((srt ns).drop (ns.length - k)) fun x hx => ?_, l]
  · unfold top; exact o65990
  rw [d] at hx
  rcases List.mem_cons.mp hx with rfl | hx
  · exact Int.le_refl _
  have p2 := p.2.1
  rw [d] at p2
  exact (List.pairwise_cons.mp p2).1 x hx
noncomputable def give (row : List Int) (g t : Nat) (a : Int) : List Int :=
  let r := row.set g (row.getD g 0 - a)
  r.set t (r.getD t 0 + a)
theorem j2q (row : List Int) (g t : Nat) (a : Int) : (give row g t a).length = row.length := by unfold give; simp
theorem j76 (m : Int) : ∀ (row : List Int) (i : Nat) (y : Int), i < row.length → abv (row.set i y) m = abv row m - ab1 m (row.getD i 0) + ab1 m y
  | [], i, y, h => by simp at h
  | x :: t, 0, y, _ => by simp [abv]; exact o4327b
  | x :: t, i + 1, y, h => by
    have ih := j76 m t i y (by simpa using h)
    unfold abv at *
    simp only [List.set_cons_succ, List.map_cons, List.sum_cons, List.getD_cons_succ]
    exact o1a434 ih
theorem j28 : ∀ (row : List Int) (i : Nat) (y : Int), i < row.length → (row.set i y).sum = row.sum - row.getD i 0 + y
  | [], i, y, h => by simp at h
  | x :: t, 0, y, _ => by simp; exact o4327b
  | x :: t, i + 1, y, h => by
    have ih := j28 t i y (by simpa using h)
    simp only [List.set_cons_succ, List.sum_cons, List.getD_cons_succ]
    exact o1a434 ih
theorem j0h {row : List Int} {i j : Nat} (h : i ≠ j) (y : Int) : (row.set i y).getD j 0 = row.getD j 0 := by
  simp [List.getD_eq_getElem?_getD, List.getElem?_set_ne h]
theorem j0x {row : List Int} {i : Nat} (h : i < row.length) (y : Int) : (row.set i y).getD i 0 = y := by
  simp [List.getD_eq_getElem?_getD, List.getElem?_set_self h]
theorem jab {row : List Int} {g t : Nat} {a : Int} (hne : g ≠ t) (hg : g < row.length) (ht : t < row.length) :
    (give row g t a).getD g 0 = row.getD g 0 - a ∧ (give row g t a).getD t 0 = row.getD t 0 + a := by
  unfold give
  dsimp only
  rw [j0h (Ne.symm hne), j0x hg, j0x (by simpa using ht), j0h hne]
  exact ⟨rfl, rfl⟩
theorem give_sum {row : List Int} {g t : Nat} {a : Int} (hne : g ≠ t) (hg : g < row.length) (ht : t < row.length) : (give row g t a).sum = row.sum := by
  unfold give
  dsimp only
  rw [j28 _ _ _ (by simpa using ht), j28 _ _ _ hg, j0h hne]
  exact o43ad3
theorem give_abv {row : List Int} {g t : Nat} {a : Int} (hne : g ≠ t) (hg : g < row.length) (ht : t < row.length) (ha : 0 < a) (fair : row.getD t 0 + a ≤ row.getD g 0 - a) (m : Int) : abv (give row g t a) m ≤ abv row m := by
  unfold give
  dsimp only
  rw [j76 m _ _ _ (by simpa using ht), j76 m _ _ _ hg, j0h hne]
  rcases j1g m (row.getD g 0) with ⟨c1, c2⟩ | ⟨c1, c2⟩ <;> rcases j1g m (row.getD t 0) with ⟨d1, d2⟩ | ⟨d1, d2⟩ <;> rcases j1g m (row.getD g 0 - a) with ⟨e1, e2⟩ | ⟨e1, e2⟩ <;> rcases j1g m (row.getD t 0 + a) with ⟨f1, f2⟩ | ⟨f1, f2⟩ <;> omega
abbrev G3 := Int × Int × Int
noncomputable def okG (n : Nat) (g : G3) : Bool := decide (0 ≤ g.1 ∧ g.1 < n) && decide (0 ≤ g.2.1 ∧ g.2.1 < n) && decide (g.1 ≠ g.2.1) && decide (0 < g.2.2)
noncomputable def j5a (row : List Int) (g : G3) : Option (List Int) :=
  if okG row.length g = true then
    let r := give row g.1.toNat g.2.1.toNat g.2.2
    if r.getD g.1.toNat 0 < r.getD g.2.1.toNat 0 then none else some r
  else none
noncomputable def runG : List Int → List G3 → Option (List Int)
  | row, [] => some row
  | row, g :: gs => match j5a row g with
    | some r => runG r gs
    | none => none
theorem j8s {row r : List Int} {g : G3} (h : j5a row g = some r) : ∃ i j, g.1.toNat = i ∧ g.2.1.toNat = j ∧ i ≠ j ∧ i < row.length ∧ j < row.length ∧ 0 < g.2.2 ∧ r = give row i j g.2.2 ∧ row.getD j 0 + g.2.2 ≤ row.getD i 0 - g.2.2 := by
  unfold j5a okG at h
  split at h
  · rename_i ok
    simp only [Bool.and_eq_true, decide_eq_true_eq] at ok
    obtain ⟨⟨⟨h1, h2⟩, h3⟩, h4⟩ := ok
    have n1 : g.1.toNat ≠ g.2.1.toNat := by exact o011aa h3 h1 h2
    have n2 : g.1.toNat < row.length := by exact o05fbe h1
    have n3 : g.2.1.toNat < row.length := by exact o05fbe h2
    have at' := jab (a := g.2.2) n1 n2 n3
    dsimp only at h
    rw [at'.1, at'.2] at h
    split at h
    · cases h
    exact (x4eaa _ _ rfl rfl n1 n2 n3 h4 ((Option.some.inj h).symm) (by exact o81c00 (by assumption)))
  cases h
theorem j3p : ∀ {gs : List G3} {row r : List Int}, runG row gs = some r → r.length = row.length ∧ r.sum = row.sum ∧ ∀ m, abv r m ≤ abv row m
  | [], row, r, h => by cases h; exact (x3b98 rfl rfl (fun _ => Int.le_refl _))
  | g :: gs, row, r, h => by
    unfold runG at h
    split at h
    · rename_i r1 e
      obtain ⟨i, j, _, _, h1, h2, h3, h4, rfl, h5⟩ := j8s e
      obtain ⟨a1, a2, a3⟩ := j3p h
      exact (x3b98 (a1.trans (j2q ..)) (a2.trans (give_sum h1 h2 h3)) (fun m => Int.le_trans (a3 m) (give_abv h1 h2 h3 h4 h5 m)))
    cases h
noncomputable def jac (one other : List Int) (gs : List G3) : Prop := gs.length < one.length ∧ one.length = other.length ∧ ∃ r, runG one gs = some r ∧ srt r = srt other
noncomputable def Tops (one other : List Int) (k : Int) : Prop := one.length = other.length ∧ one.sum = other.sum ∧ 1 ≤ k ∧ k ≤ one.length ∧ top k.toNat one < top k.toNat other
theorem jac.abv {one other : List Int} {gs : List G3} (h : jac one other gs) (m : Int) : abv other m ≤ abv one m := by
  obtain ⟨_, _, r, e, p⟩ := h
  rw [j59 (j74 p).symm m]
  exact (j3p e).2.2 m
theorem Tops.abv {one other : List Int} {k : Int} (h : Tops one other k) : ∃ m ∈ one, abv one m < abv other m := by
  obtain ⟨h1, h2, h3, h4, h5⟩ := h
  obtain ⟨m, hm, e⟩ := j8r (k := k.toNat) (ns := one) (by exact o9597c h3) (by exact o50e3f h4)
  refine (x9614 m hm ?_)
  have := j8q (k := k.toNat) (ns := other) (by exact od71bf h1 h4) m
  exact od9996 h5 e this
end L3
end
noncomputable section
namespace L3
theorem j2t {P : List Nat} {r : List Int} (h : P.Perm (List.range r.length)) : (P.map fun j => r.getD j 0).Perm r := by
  have e : (List.range r.length).map (fun j => r.getD j 0) = r := by
    apply List.ext_getElem
    · simp
    intro i h1 h2
    simp [List.getD_eq_getElem?_getD, List.getElem?_eq_getElem h2]
  exact (h.map _).trans (by rw [e])
theorem j42 : ∀ {l : List Int}, (∀ x ∈ l, 0 ≤ x) → l.sum = 0 → ∀ x ∈ l, x = 0
  | [], _, _, x, h => nomatch h
  | a :: t, hn, hs, x, h => by
    have ha := hn a List.mem_cons_self
    have ht : 0 ≤ t.sum := by
      have : ∀ l : List Int, (∀ x ∈ l, 0 ≤ x) → 0 ≤ l.sum := by
        intro l
        induction l with
        | nil => intro _; exact Int.le_refl _
        | cons b u ih => intro hh; simp only [List.sum_cons]; have := hh b List.mem_cons_self; have := ih fun y hy => hh y (List.mem_cons_of_mem _ hy); exact o144c2 (by assumption) this
      exact this t fun y hy => hn y (List.mem_cons_of_mem _ hy)
    simp only [List.sum_cons] at hs
    rcases List.mem_cons.mp h with rfl | h
    · exact o1b38f ht hs ha
    exact j42 (fun y hy => hn y (List.mem_cons_of_mem _ hy)) (by exact ofdad1 hs ha ht) x h
theorem j3f : ∀ {l : List Int}, 0 < l.sum → ∃ x ∈ l, 0 < x
  | [], h => by simp at h
  | a :: t, h => by
    simp only [List.sum_cons] at h
    by_cases ha : 0 < a
    · exact (x9614 a List.mem_cons_self ha)
    obtain ⟨x, h1, h2⟩ := j3f (l := t) (by exact occ285 h ha)
    exact (x9614 x (List.mem_cons_of_mem _ h1) h2)
structure Fx (one : List Int) (P : List Nat) (w gl : List Int) : Prop where
  perm : P.Perm (List.range one.length)
  hw : ∀ j, j < P.length → w.getD j 0 = one.getD (P.getD j 0) 0
  wl : w.length = one.length
  gll : gl.length = one.length
  fall : ∀ i j, i ≤ j → j < gl.length → gl.getD j 0 ≤ gl.getD i 0
  maj : ∀ i, i ≤ gl.length → (gl.take i).sum ≤ (w.take i).sum
theorem Fx.pl {one : List Int} {P : List Nat} {w gl : List Int} (F : Fx one P w gl) : P.length = one.length := by have := F.perm.length_eq; simpa using this
theorem Fx.lt {one : List Int} {P : List Nat} {w gl : List Int} (F : Fx one P w gl) {j : Nat} (h : j < one.length) : P.getD j 0 < one.length := by
  have hj : j < P.length := by rw [F.pl]; exact h
  have : P.getD j 0 ∈ P := by rw [List.getD_eq_getElem?_getD, List.getElem?_eq_getElem hj]; exact List.getElem_mem hj
  exact List.mem_range.mp (F.perm.mem_iff.mp this)
theorem Fx.inj {one : List Int} {P : List Nat} {w gl : List Int} (F : Fx one P w gl) {i j : Nat} (hi : i < one.length) (hj : j < one.length) (e : P.getD i 0 = P.getD j 0) : i = j := by
  have nd : P.Nodup := F.perm.nodup_iff.mpr List.nodup_range
  have hi' : i < P.length := by rw [F.pl]; exact hi
  have hj' : j < P.length := by rw [F.pl]; exact hj
  rw [List.getD_eq_getElem?_getD, List.getD_eq_getElem?_getD, List.getElem?_eq_getElem hi', List.getElem?_eq_getElem hj'] at e
  exact (List.getElem_inj nd).mp e
theorem Fx.sur {one : List Int} {P : List Nat} {w gl : List Int} (F : Fx one P w gl) {q : Nat} (hq : q < one.length) : ∃ j, j < one.length ∧ P.getD j 0 = q := by
  have : q ∈ P := F.perm.mem_iff.mpr (List.mem_range.mpr hq)
  obtain ⟨j, hj, e⟩ := List.getElem_of_mem this
  refine (x9614 j (by rw [← F.pl]; exact hj) ?_)
  rw [List.getD_eq_getElem?_getD, List.getElem?_eq_getElem hj]
  exact e
structure Inn (one : List Int) (P : List Nat) (w gl : List Int) (i : Nat) (lack : Int) (sp : List Int) (gv : List Nat) (gs : List G3) (r : List Int) : Prop where
  hi : i < one.length
  run : runG one gs = some r
  spl : sp.length = one.length
  ahead : ∀ j, j < i → r.getD (P.getD j 0) 0 = gl.getD j 0 + sp.getD (P.getD j 0) 0 ∧ 0 ≤ sp.getD (P.getD j 0) 0
  here : r.getD (P.getD i 0) 0 = gl.getD i 0 - lack ∧ sp.getD (P.getD i 0) 0 = 0 ∧ 0 ≤ lack
  behind : ∀ j, i < j → j < one.length → r.getD (P.getD j 0) 0 = one.getD (P.getD j 0) 0 ∧ sp.getD (P.getD j 0) 0 = 0
  gvs : ∀ q, q ∈ gv → ∃ j, j < i ∧ P.getD j 0 = q ∧ 0 < sp.getD q 0
  gva : ∀ j, j < i → 0 < sp.getD (P.getD j 0) 0 → P.getD j 0 ∈ gv
  nd : gv.Nodup
  tot : sp.sum - lack = (w.take (i + 1)).sum - (gl.take (i + 1)).sum
  n1 : gs.length + gv.length ≤ i + 1
  n2 : 0 < lack → gs.length + gv.length ≤ i
  n3 : gv = [] → gs.length ≤ i
structure Mid (one : List Int) (P : List Nat) (w gl : List Int) (i : Nat) (sp : List Int) (gv : List Nat) (gs : List G3) (r : List Int) : Prop where
  run : runG one gs = some r
  spl : sp.length = one.length
  ahead : ∀ j, j < i → r.getD (P.getD j 0) 0 = gl.getD j 0 + sp.getD (P.getD j 0) 0 ∧ 0 ≤ sp.getD (P.getD j 0) 0
  behind : ∀ j, i ≤ j → j < one.length → r.getD (P.getD j 0) 0 = one.getD (P.getD j 0) 0 ∧ sp.getD (P.getD j 0) 0 = 0
  gvs : ∀ q, q ∈ gv → ∃ j, j < i ∧ P.getD j 0 = q ∧ 0 < sp.getD q 0
  gva : ∀ j, j < i → 0 < sp.getD (P.getD j 0) 0 → P.getD j 0 ∈ gv
  nd : gv.Nodup
  tot : sp.sum = (w.take i).sum - (gl.take i).sum
  n1 : gs.length + gv.length ≤ i
  n3 : gv = [] → gs.length ≤ i - 1
theorem j7x : ∀ n : Nat, (List.replicate n (0 : Int)).sum = 0
  | 0 => rfl
  | n + 1 => by rw [List.replicate_succ, List.sum_cons, j7x n]; rfl
theorem jad (n j : Nat) : (List.replicate n (0 : Int)).getD j 0 = 0 := by
  rw [List.getD_eq_getElem?_getD, List.getElem?_replicate]
  split <;> rfl
theorem j1l {l : List Int} {i : Nat} (h : i < l.length) : (l.take (i + 1)).sum = (l.take i).sum + l.getD i 0 := by
  rw [List.take_succ, List.getElem?_eq_getElem h, List.sum_append, List.getD_eq_getElem?_getD, List.getElem?_eq_getElem h]
  simp
theorem Mid.start {one : List Int} {P : List Nat} {w gl : List Int} : Mid one P w gl 0 (List.replicate one.length 0) [] [] one where
  run := rfl
  spl := by simp
  ahead := fun j h => by exact o463e4 h
  behind := fun j _ _ => ⟨rfl, jad _ _⟩
  gvs := fun q h => nomatch h
  gva := fun j h => by omega
  nd := List.nodup_nil
  tot := by simp [j7x]
  n1 := Nat.le_refl _
  n3 := fun _ => Nat.le_refl _
variable {one : List Int} {P : List Nat} {w gl : List Int} {i : Nat} {sp : List Int} {gv : List Nat} {gs : List G3} {r : List Int}
theorem Mid.inn (M : Mid one P w gl i sp gv gs r) (F : Fx one P w gl) (hi : i < one.length) (hl : 0 ≤ gl.getD i 0 - one.getD (P.getD i 0) 0) : Inn one P w gl i (gl.getD i 0 - one.getD (P.getD i 0) 0) sp gv gs r where
  hi := hi
  run := M.run
  spl := M.spl
  ahead := M.ahead
  here := by have := M.behind i (Nat.le_refl _) hi; exact (x3b98 (by exact oe8587 this) this.2 hl)
  behind := fun j h1 h2 => M.behind j (by exact o3dc74 h1) h2
  gvs := M.gvs
  gva := M.gva
  nd := M.nd
  tot := by
    have h1 : i < w.length := by rw [F.wl]; exact hi
    have h2 : i < gl.length := by rw [F.gll]; exact hi
    rw [j1l h1, j1l h2, M.tot, F.hw i (by rw [F.pl]; exact hi)]
    exact o7849a
  n1 := by have := M.n1; exact o8e994 this
  n2 := fun _ => M.n1
  n3 := fun h => by have := M.n3 h; exact o81e61 this
theorem Mid.push (M : Mid one P w gl i sp gv gs r) (F : Fx one P w gl) (hi : i < one.length) (hl : gl.getD i 0 - one.getD (P.getD i 0) 0 < 0) : Mid one P w gl (i + 1) (sp.set (P.getD i 0) (-(gl.getD i 0 - one.getD (P.getD i 0) 0))) (gv ++ [P.getD i 0]) gs r where
  run := M.run
  spl := by rw [List.length_set]; exact M.spl
  ahead := fun j hj => by
    have hp : P.getD i 0 < sp.length := by rw [M.spl]; exact F.lt hi
    by_cases e : j = i
    · subst e
      rw [j0x hp]
      have := M.behind j (Nat.le_refl _) hi
      exact o1cc53 hl this
    have ne : P.getD i 0 ≠ P.getD j 0 := fun z => e (F.inj (by exact o95fa4 hi hj) hi z.symm)
    rw [j0h ne]
    exact M.ahead j (by exact oc0d91 hj e)
  behind := fun j h1 h2 => by
    have ne : P.getD i 0 ≠ P.getD j 0 := fun z => by have := F.inj h2 hi z.symm; exact oea3ec h1 this
    rw [j0h ne]
    exact M.behind j (by exact o40fc0 h1) h2
  gvs := fun q hq => by
    have hp : P.getD i 0 < sp.length := by rw [M.spl]; exact F.lt hi
    rcases List.mem_append.mp hq with h | h
    · obtain ⟨j, h1, h2, h3⟩ := M.gvs q h
      refine (x0c0c j (by exact o63cad h1) h2 ?_)
      have ne : P.getD i 0 ≠ q := fun z => by have := F.inj (i := i) (j := j) hi (by exact o31800 hi h1) (z.trans h2.symm); exact o8d8d6 h1 this
      rw [j0h ne]
      exact h3
    rw [List.mem_singleton] at h
    subst h
    exact (x0c0c i (by exact ob8d30) rfl (by rw [j0x hp]; exact od6747 hl))
  gva := fun j hj h => by
    by_cases e : j = i
    · subst e; simp
    have ne : P.getD i 0 ≠ P.getD j 0 := fun z => e (F.inj (by exact o95fa4 hi hj) hi z.symm)
    rw [j0h ne] at h
    exact List.mem_append_left _ (M.gva j (by exact oc0d91 hj e) h)
  nd := by
    rw [List.nodup_append]
    refine (x3b98 M.nd (by simp) (fun a ha b hb => ?_))
    rw [List.mem_singleton] at hb
    subst hb
    obtain ⟨j, h1, h2, h3⟩ := M.gvs a ha
    intro z
    have := F.inj (i := j) (j := i) (by exact o31800 hi h1) hi (h2.trans z)
    exact o1a01d h1 this
  tot := by
    have hp : P.getD i 0 < sp.length := by rw [M.spl]; exact F.lt hi
    have h1 : i < w.length := by rw [F.wl]; exact hi
    have h2 : i < gl.length := by rw [F.gll]; exact hi
    rw [j28 _ _ _ hp, j1l h1, j1l h2, M.tot, F.hw i (by rw [F.pl]; exact hi), (M.behind i (Nat.le_refl _) hi).2]
    exact o47b19
  n1 := by have := M.n1; simp; exact o73a53 this
  n3 := fun h => by simp at h
theorem Inn.out (I : Inn one P w gl i 0 sp gv gs r) : Mid one P w gl (i + 1) sp gv gs r where
  run := I.run
  spl := I.spl
  ahead := fun j hj => by
    by_cases e : j = i
    · subst e
      have := I.here
      exact odf0f4 this
    exact I.ahead j (by exact oc0d91 hj e)
  behind := fun j h1 h2 => I.behind j (by exact ocb160 h1) h2
  gvs := fun q hq => by obtain ⟨j, h1, h2⟩ := I.gvs q hq; exact (x9614 j (by exact o63cad h1) h2)
  gva := fun j hj h => by
    by_cases e : j = i
    · subst e
      have := I.here.2.1
      omega
    exact I.gva j (by exact oc0d91 hj e) h
  nd := I.nd
  tot := by have := I.tot; exact o6326b this
  n1 := I.n1
  n3 := fun h => by have := I.n3 h; exact o0b304 this
theorem Inn.some {lack : Int} (I : Inn one P w gl i lack sp gv gs r) (F : Fx one P w gl) (hl : 0 < lack) : gv ≠ [] := by
  have h2 : i < gl.length := by rw [F.gll]; exact I.hi
  have := F.maj (i + 1) (by exact odad2c h2)
  have t := I.tot
  obtain ⟨x, hx, hp⟩ := j3f (l := sp) (by exact ocdc00 hl this t)
  obtain ⟨q, hq, e⟩ := List.getElem_of_mem hx
  have eq : sp.getD q 0 = x := by rw [List.getD_eq_getElem?_getD, List.getElem?_eq_getElem hq]; exact e
  obtain ⟨j, hj, ej⟩ := F.sur (q := q) (by rw [← I.spl]; exact hq)
  subst ej
  have : j < i := by
    rcases Nat.lt_trichotomy j i with h | h | h
    · exact h
    · subst h
      have := I.here.2.1
      exact o0209a hp eq this
    have := (I.behind j h hj).2
    exact o86079 hp eq this
  have := I.gva j this (by exact o0f070 hp eq)
  intro z
  rw [z] at this
  exact nomatch this
theorem j67 : ∀ {gs : List G3} {row : List Int} {g : G3}, runG row (gs ++ [g]) = (runG row gs).bind fun r => j5a r g
  | [], row, g => by
    show (match j5a row g with | some r => runG r [] | none => none) = _
    cases h : j5a row g <;> simp [runG, h]
  | x :: gs, row, g => by
    simp only [List.cons_append, runG]
    cases h : j5a row x with
    | none => rfl
    | some r => exact j67
theorem Inn.step {lack : Int} {g : Nat} (I : Inn one P w gl i lack sp (gv ++ [g]) gs r) (F : Fx one P w gl) (hl : 0 < lack) (a : Int) (ha : a = if sp.getD g 0 ≤ lack then sp.getD g 0 else lack) :
    0 < sp.getD g 0 ∧ g < one.length ∧ 0 ≤ lack - a ∧ Inn one P w gl i (lack - a) (sp.set g (sp.getD g 0 - a)) (if sp.getD g 0 - a = 0 then gv else gv ++ [g]) (gs ++ [((g : Int), (P.getD i 0 : Int), a)]) (give r g (P.getD i 0) a) := by
  obtain ⟨j, hj, ej, hp⟩ := I.gvs g (by simp)
  have hi := I.hi
  have hjl : j < one.length := by exact o8a424 hj hi
  have gl' : g < one.length := by rw [← ej]; exact F.lt hjl
  have pl' : P.getD i 0 < one.length := F.lt hi
  have rl : r.length = one.length := (j3p I.run).1
  have gne : g ≠ P.getD i 0 := fun z => by have := F.inj hjl hi (ej.trans z); exact o1a01d hj this
  have a0 : 0 < a := by rw [ha]; split <;> omega
  have al : a ≤ lack := by rw [ha]; split <;> omega
  have as : a ≤ sp.getD g 0 := by rw [ha]; split <;> omega
  have gsp : g < sp.length := by rw [I.spl]; exact gl'
  have ga := jab (row := r) (g := g) (t := P.getD i 0) (a := a) gne (by exact o80915 gl' rl) (by exact o80915 pl' rl)
  have oth : ∀ q, q ≠ g → q ≠ P.getD i 0 → (give r g (P.getD i 0) a).getD q 0 = r.getD q 0 := fun q h1 h2 => by
    unfold give
    dsimp only
    rw [j0h (Ne.symm h2), j0h (Ne.symm h1)]
  have rg := I.ahead j hj
  rw [ej] at rg
  have fl := F.fall j i (by exact o3dc74 hj) (by rw [F.gll]; exact hi)
  have rh := I.here
  refine (xe1fa hp gl' (by exact ob9481 al) ?_)
  constructor
  · exact hi
  · rw [j67, I.run]
    show j5a r _ = _
    unfold j5a okG
    have e1 : ((g : Int)).toNat = g := by exact of65d4
    have e2 : ((P.getD i 0 : Nat) : Int).toNat = P.getD i 0 := by exact of65d4
    dsimp only
    rw [if_pos (by simp only [Bool.and_eq_true, decide_eq_true_eq]; refine ⟨⟨⟨⟨by exact o29297, by exact obdd3f gl' rl⟩, ⟨by exact o29297, by exact obdd3f pl' rl⟩⟩, by exact o301ce gne⟩, a0⟩), e1, e2, ga.1, ga.2, if_neg (by exact od0aba al as rg fl rh)]
  · rw [List.length_set]; exact I.spl
  · intro k hk
    have hkl : k < one.length := by exact o31800 hi hk
    have n2 : P.getD k 0 ≠ P.getD i 0 := fun z => by have := F.inj hkl hi z; exact o1a01d hk this
    by_cases e : k = j
    · subst e
      rw [ej, j0x gsp, ga.1]
      exact od9979 as rg
    have n1 : P.getD k 0 ≠ g := fun z => e (F.inj hkl hjl (z.trans ej.symm))
    rw [j0h (Ne.symm n1), oth _ n1 n2]
    exact I.ahead k hk
  · rw [ga.2, j0h gne]
    exact (x3b98 (by exact o58580 rh) rh.2.1 (by exact ob9481 al))
  · intro k h1 h2
    have n2 : P.getD k 0 ≠ P.getD i 0 := fun z => by have := F.inj h2 hi z; exact o8d8d6 h1 this
    have n1 : P.getD k 0 ≠ g := fun z => by have := F.inj h2 hjl (z.trans ej.symm); exact of9912 hj h1 this
    rw [j0h (Ne.symm n1), oth _ n1 n2]
    exact I.behind k h1 h2
  · intro q hq
    have nd := List.nodup_append.mp I.nd
    by_cases e : q = g
    · subst e
      split at hq
      · exact absurd rfl (nd.2.2 q hq q (by simp))
      exact (x0c0c j hj ej (by rw [j0x gsp]; exact o43b7b as (by assumption)))
    have hq' : q ∈ gv ++ [g] := by split at hq; exact List.mem_append_left _ hq; exact hq
    rw [j0h (Ne.symm e)]
    exact I.gvs q hq'
  · intro k hk h
    by_cases e : P.getD k 0 = g
    · rw [e, j0x gsp] at h
      rw [if_neg (by exact o967fe h), e]
      simp
    rw [j0h (Ne.symm e)] at h
    have := I.gva k hk h
    split
    · rcases List.mem_append.mp this with z | z
      · exact z
      exact absurd (List.mem_singleton.mp z) e
    exact this
  · split
    · exact (List.nodup_append.mp I.nd).1
    exact I.nd
  · have := I.tot
    rw [j28 _ _ _ gsp]
    exact o51a91 this
  · have := I.n2 hl
    simp only [List.length_append, List.length_singleton] at *
    split <;> simp <;> omega
  · intro h
    have := I.n2 hl
    have z : sp.getD g 0 - a = 0 := by rw [ha] at *; split at * <;> omega
    rw [if_pos z]
    simp only [List.length_append, List.length_singleton] at *
    exact o8540f this
  intro h
  have := I.n2 hl
  split at h
  · subst h
    simp only [List.length_append, List.length_singleton, List.nil_append] at *
    exact o93145 this
  simp at h
theorem j68 {l : List Int} {j : Nat} (h : j < l.length) : l.getD j 0 ∈ l := by
  rw [List.getD_eq_getElem?_getD, List.getElem?_eq_getElem h]; exact List.getElem_mem h
theorem Mid.leads {other : List Int} (M : Mid one P w gl one.length sp gv gs r) (F : Fx one P w gl) (h1 : 1 ≤ one.length) (hg : gl.Perm other) (hs : w.sum = gl.sum) : jac one other gs := by
  have nn : ∀ x ∈ sp, 0 ≤ x := fun x hx => by
    obtain ⟨q, hq, e⟩ := List.getElem_of_mem hx
    have eq : sp.getD q 0 = x := by rw [List.getD_eq_getElem?_getD, List.getElem?_eq_getElem hq]; exact e
    obtain ⟨j, hj, ej⟩ := F.sur (q := q) (by rw [← M.spl]; exact hq)
    subst ej
    have := (M.ahead j hj).2
    exact o312ee eq this
  have tot := M.tot
  have wt : w.take one.length = w := by rw [← F.wl, List.take_length]
  have gt : gl.take one.length = gl := by rw [← F.gll, List.take_length]
  rw [wt, gt] at tot
  have z := j42 nn (by exact offfe0 hs tot)
  have gv0 : gv = [] := by
    cases hgv : gv with
    | nil => rfl
    | cons q t =>
      obtain ⟨j, hj, ej, hp⟩ := M.gvs q (by rw [hgv]; exact List.mem_cons_self)
      have := z (sp.getD q 0) (j68 (by rw [M.spl, ← ej]; exact F.lt hj))
      omega
  have n3 := M.n3 gv0
  have rl : r.length = one.length := (j3p M.run).1
  refine (x3b98 (by exact oaa43f h1 n3) (by rw [← hg.length_eq, F.gll]) (x9614 r M.run ?_))
  have p1 : (P.map fun j => r.getD j 0).Perm r := j2t (by rw [rl]; exact F.perm)
  have e : (P.map fun j => r.getD j 0) = gl := by
    apply List.ext_getElem
    · rw [List.length_map, F.pl, F.gll]
    intro j a1 a2
    have hj : j < one.length := by rw [← F.gll]; exact a2
    have hjp : j < P.length := by rw [F.pl]; exact hj
    have m := M.ahead j hj
    have z1 := z (sp.getD (P.getD j 0) 0) (j68 (by rw [M.spl]; exact F.lt hj))
    have e1 : P.getD j 0 = P[j] := by rw [List.getD_eq_getElem?_getD, List.getElem?_eq_getElem hjp]; rfl
    have e2 : gl.getD j 0 = gl[j] := by rw [List.getD_eq_getElem?_getD, List.getElem?_eq_getElem a2]; rfl
    rw [List.getElem_map, ← e1, ← e2]
    exact o572ac m z1
  rw [e] at p1
  exact ja9 (p1.symm.trans hg)
end L3
end
noncomputable section
namespace L3
theorem jae {l r : List Int} (p : l.Perm r) (h1 : l.Pairwise (· ≥ ·)) (h2 : r.Pairwise (· ≥ ·)) : l = r := by
  have := j73 (l := l.reverse) (r := r.reverse) ((List.reverse_perm l).trans (p.trans (List.reverse_perm r).symm)) (List.pairwise_reverse.mpr h1) (List.pairwise_reverse.mpr h2)
  rw [← List.reverse_reverse l, this, List.reverse_reverse]
theorem j7y (ns : List Int) : ((srt ns).reverse).Pairwise (· ≥ ·) := List.pairwise_reverse.mpr ((j7v ns).imp fun h => h)
theorem j2k (ns : List Int) : ((srt ns).reverse).Perm ns := (List.reverse_perm _).trans (j1c ns)
theorem j1m (ns : List Int) : ((srt ns).reverse).length = ns.length := (j2k ns).length_eq
theorem fall_at {l : List Int} (h : l.Pairwise (· ≥ ·)) (i j : Nat) (hij : i ≤ j) (hj : j < l.length) : l.getD j 0 ≤ l.getD i 0 := by
  have hi : i < l.length := by exact of192c hij hj
  rw [List.getD_eq_getElem?_getD, List.getD_eq_getElem?_getD, List.getElem?_eq_getElem hi, List.getElem?_eq_getElem hj]
  show l[j] ≤ l[i]
  by_cases e : i = j
  · subst e; exact Int.le_refl _
  exact List.pairwise_iff_getElem.mp h i j hi hj (by exact o6f926 hij e)
theorem Fx.of {one other : List Int} {P : List Nat} (hP : P.Perm (List.range one.length)) (hf : (P.map fun j => one.getD j 0).Pairwise (· ≥ ·)) (hl : one.length = other.length) (ht : ∀ k, k ≤ one.length → top k other ≤ top k one) : Fx one P ((srt one).reverse) ((srt other).reverse) where
  perm := hP
  hw := fun j hj => by
    have e : (P.map fun j => one.getD j 0) = (srt one).reverse := jae ((j2t hP).trans (j2k one).symm) hf (j7y one)
    rw [← e, List.getD_eq_getElem?_getD, List.getElem?_map, List.getElem?_eq_getElem hj]
    have e1 : P.getD j 0 = P[j] := by rw [List.getD_eq_getElem?_getD, List.getElem?_eq_getElem hj]; rfl
    rw [e1]
    rfl
  wl := j1m one
  gll := (j1m other).trans hl.symm
  fall := fun i j h1 h2 => fall_at (j7y other) i j h1 h2
  maj := fun i hi => by
    rw [j1m] at hi
    rw [j75 hi, j75 (by exact o7aa7a hl hi)]
    exact ht i (by exact o7aa7a hl hi)
noncomputable def psum (l : List Int) : List Int := (List.range l.length).map fun k => (l.take (k + 1)).sum
theorem j2z (l : List Int) : (psum l).length = l.length := by unfold psum; simp
theorem psum_at {l : List Int} {k : Nat} (h : k < l.length) : (psum l).getD k 0 = (l.take (k + 1)).sum := by
  unfold psum
  rw [List.getD_eq_getElem?_getD, List.getElem?_map, List.getElem?_range h]
  rfl
theorem jaf (l : List Int) (x : Int) : psum (l ++ [x]) = psum l ++ [l.sum + x] := by
  unfold psum
  rw [List.length_append, List.length_singleton, List.range_succ, List.map_append]
  congr 1
  · apply List.map_congr_left
    intro k hk
    have := List.mem_range.mp hk
    rw [List.take_append_of_le_length (by exact odad2c this)]
  simp only [List.map_cons, List.map_nil]
  rw [List.take_of_length_le (by simp), List.sum_append]
  simp
noncomputable def tops (ns : List Int) : List Int := psum ((srt ns).reverse)
theorem j30 (ns : List Int) : (tops ns).length = ns.length := by unfold tops; rw [j2z, j1m]
theorem jag {ns : List Int} {k : Nat} (h : k < ns.length) : (tops ns).getD k 0 = top (k + 1) ns := by
  unfold tops
  rw [psum_at (by rw [j1m]; exact h), j75 (by exact odad2c h)]
theorem j7z (ns : List Int) : top 0 ns = 0 := by
  unfold top
  rw [Nat.sub_zero, List.drop_of_length_le (by rw [j1s]; exact Nat.le_refl _)]
  rfl
noncomputable def Agn (one other : List Int) (k : Int) : Prop := (1 ≤ k ∧ Tops one other k) ∨ (k = 0 ∧ ∀ k, k ≤ one.length → top k other ≤ top k one)
end L3
end
noncomputable section
namespace L3
open PySem PySem.Spec PyProof.Rows L2
abbrev iV (ns : List Int) : List V := ns.map V.int
theorem j0e (ns : List Int) : (iV ns).length = ns.length := List.length_map ..
section
variable {X : Cx}
theorem j43 : j37 X (.builtin "sorted") (fun xs H Q => ∃ p ns, xs = [.ref p] ∧ SqL X.K H p (iV ns) ∧ ∀ l, H l = none → Q (.ref l) (upd H l (.lst (iV (srt ns))))) := by
  intro pins s σ H xs us Q I r h
  obtain ⟨p, ns, rfl, hx, q⟩ := h
  obtain ⟨u, rfl, rx⟩ := j2x r
  cases rx
  obtain ⟨its, r', pl, hz⟩ := I.list hx
  have hI : IntsAre its ns := j22 r'
  have hlen := r'.length
  refine Srt.j8p pl.isList hI (by exact o8836e hz hlen) fun out ms c1 c2 c3 => ?_
  have e := j66 c2 c3
  subst e
  obtain ⟨n, ho⟩ := sortedAll_at s.heap its out
  have hf : H (s.heap.objs.size + 1) = none := I.hok.fresh (Nat.le_succ _)
  refine (xeb27 (.ref (s.heap.objs.size + 1)) _ (I.laid (t' := s.toks) (o := .lst (iV (srt ns))) (fun b o e => sortedAll_old e) (Nat.le_succ _) (xbaae ?_ out.toList n (j23 c1) (by simpa using ho))) rfl (q _ hf))
  rw [j0e, j1s, ← j0e]; exact hz
theorem j4w {e : Expr} {t : TA} {b : Bool} {j : Nat} {p p2 p3 pos : Pos} (hg : Gl X "sorted") (hm : X.mg "sorted" = none) (ha : PA X [e] t) (he : starEach [e] X.env = [(false, eval e X.env)] := by rfl) :
    PE X (.Call (.Name "sorted" p) [e] [⟨some "reverse", .Constant (.bool b) j p2, p3⟩] pos) (fun σ H Q => t σ H fun vs H1 => ∃ a ns, vs = [.ref a] ∧ SqL X.K H1 a (iV ns) ∧ ∀ l, H1 l = none → Q (.ref l) (upd H1 l (.lst (iV (if b then (srt ns).reverse else srt ns))))) := by
  intro pins s σ H Q I h
  refine wpAny_Call_Name_kw (j2r I hg hm boot_sorted ?_ (by decide) (by decide))
  refine callWith_kw (thn (ha pos pins s σ H _ I h) fun us s1 ⟨vs, H1, I1, r, q⟩ => ?_) (by rw [he]; rfl) (by rw [he]; rfl)
  have hk : PK X [⟨some "reverse", .Constant (.bool b) j p2, p3⟩] (j6u (tC (.bl b)) tNil) := j6v j50 pk_nil
  refine thn (hk pos pins s1 σ H1 (fun zs H2 => zs = [.bl b] ∧ ∃ a ns, vs = [.ref a] ∧ SqL X.K H2 a (iV ns) ∧ ∀ l, H2 l = none → Q (.ref l) (upd H2 l (.lst (iV (if b then (srt ns).reverse else srt ns))))) I1 ⟨rfl, q⟩) fun ws s2 ⟨zs, H2, I2, rz, e2, q2⟩ => ?_
  subst e2
  obtain ⟨w', rfl, rw'⟩ := j2x rz
  cases rw'
  obtain ⟨a, ns, rfl, hx, q3⟩ := q2
  obtain ⟨u, rfl, rx⟩ := j2x r
  cases rx
  obtain ⟨its, r', pl, hz⟩ := I2.list hx
  have hI : IntsAre its ns := j22 r'
  have hlen := r'.length
  show wpAny _ _ (call (.builtin "sorted") [.ref a] [(Str.ofString "reverse", .bool b)]) _ _ _
  refine Srt.j4n pl.isList hI (by exact o8836e hz hlen) fun out ms c1 c2 c3 => ?_
  have em : ms = if b then (srt ns).reverse else srt ns := by
    cases b
    · exact j66 c2 c3
    have c3' : ms.Pairwise (· ≥ ·) := c3
    have := j66 (ms := ms.reverse) ((List.reverse_perm ms).trans c2) (List.pairwise_reverse.mpr c3')
    rw [if_pos rfl, ← this, List.reverse_reverse]
  subst em
  obtain ⟨n, ho⟩ := sortedAll_at s2.heap its out
  have hf : H2 (s2.heap.objs.size + 1) = none := I2.hok.fresh (Nat.le_succ _)
  refine (xeb27 (.ref (s2.heap.objs.size + 1)) _ (I2.laid (t' := s2.toks) (o := .lst (iV (if b then (srt ns).reverse else srt ns))) (fun b o e => sortedAll_old e) (Nat.le_succ _) (xbaae ?_ out.toList n (j23 c1) (by simpa using ho))) rfl (q3 _ hf))
  have : (if b = true then (srt ns).reverse else srt ns).length = ns.length := by cases b <;> simp [j1s]
  rw [j0e, this, ← j0e]; exact hz
theorem j29 (hc : X.calm = true) : j37 X (.builtin "sum") (fun xs H Q => ∃ p ns, xs = [.ref p] ∧ SqL X.K H p (iV ns) ∧ Q (.int ns.sum) H) := by
  intro pins s σ H xs us Q I r h
  obtain ⟨p, ns, rfl, hx, q⟩ := h
  obtain ⟨u, rfl, rx⟩ := j2x r
  cases rx
  obtain ⟨its, r', pl, hz⟩ := I.list hx
  have hI : IntsAre its ns := j22 r'
  obtain ⟨zs, hzs⟩ := hI.allInts.items
  refine sum_intListG (I.ok.hd hc) (hzs ▸ pl.isList) fun h' tk t' hk => ?_
  have e1 : ns = zs.toList.map (·.1) := by
    rw [← nums_intItems, ← hzs]
    exact (show numsOf its.toArray.toList = ns from hI.numsOf).symm
  have e2 : preSum (numAt zs) zs.size = ns.sum := by rw [preSum_eq, List.take_of_length_le (by simp), e1]
  exact (xeb27 (.int ns.sum) H (I.kept hk) ⟨t', by rw [e2]⟩ q)
theorem j80 {pins : List (Addr × Obj)} {σ : L2.St} {H : Hp} {s : Shared} (I : Inv X pins σ H s) : ∃ m, Fr X.base X.env.locals s.heap m ∧ News X.base X.env.locals s.heap (j36 X.base s.heap X.env.locals) :=
  let ⟨m, F⟩ := I.fr
  (x9614 m F news_all)
theorem Inv.newsed {pins : List (Addr × Obj)} {σ : L2.St} {H : Hp} {s : Shared} {h' : Heap} {tk : Nat} (I : Inv X pins σ H s) {m : Str → Option Value} (F0 : Fr X.base X.env.locals s.heap m) (F : Fr X.base X.env.locals h' m) (N : News X.base X.env.locals h' (j36 X.base s.heap X.env.locals)) :
    Inv X pins σ H { s with heap := h', toks := tk } := by
  have kept : ∀ b o, b ≠ X.env.locals → s.heap.get? b = some o → h'.get? b = some o := fun b o hb e => by
    cases q : X.base.get? b with
    | some u =>
      have := I.bk b u q
      rw [e] at this; cases this
      exact F.keep b _ q
    | none => exact (N (b, o) (j6n hb q e)).1
  have nl : ∀ b u, H b = some u → b ≠ X.env.locals := fun b u e z => by
    have n := I.free
    rw [← z, e] at n; cases n
  refine I.step (g' := s.gens) (d' := s.drawn) (ch := []) (fun _ z => nomatch z) (fun b o hb _ _ e _ => kept b o hb e) (fun b o hb _ _ e _ => ⟨o.slots, kept b o hb e⟩) (fun _ _ _ _ n => n) (fun b o _ e => ?_) (fun _ _ e => e) (fun _ _ _ e => e) (fun b ps e => ⟨#[], by rw [e]; simp⟩) (fun m' hm => ?_) (fun b u e => ?_) I.bare
  · by_cases hb : b = X.env.locals
    · obtain ⟨o', _, _, ho', _⟩ := F.ns
      exact ⟨o', by rw [hb]; exact ho'⟩
    exact ⟨o, kept b o hb e⟩
  · rw [hm.eq_nsMap, ← F0.ns.eq_nsMap]; exact F.ns
  refine (I.hok b u e).stay (fun c v hc q => kept c v ?_ q) (fun _ q => q) fun _ _ q => q
  rcases hc with z | z
  · rw [z]; exact nl b u e
  exact nl c _ z
end
end L3
end
noncomputable section
namespace L3
open PySem PySem.Spec PyProof.Rows L2
noncomputable def clG (cells : List (Str × Addr)) : List (Str × NameKind) → List (Str × Addr) → List (Str × Addr)
  | [], acc => acc
  | (n, k) :: r, acc => if k == .free then (match cells.lookup n with
    | some a => clG cells r ((n, a) :: acc)
    | none => clG cells r acc) else clG cells r acc
theorem j0j {α : Type} {n x : Str} {a : α} {l : List (Str × α)} : ((n, a) :: l).lookup x = if x = n then some a else l.lookup x := by
  rw [List.lookup_cons]
  by_cases h : x = n
  · subst h; simp
  rw [if_neg h]
  have : (x == n) = false := by simpa using h
  rw [this]
theorem j31 {cells : List (Str × Addr)} {x : Str} {c : Addr} : ∀ {l : List (Str × NameKind)} {acc : List (Str × Addr)}, (∀ c, acc.lookup x = some c → cells.lookup x = some c) → (clG cells l acc).lookup x = some c → cells.lookup x = some c
  | [], acc, h, e => h c e
  | (n, k) :: r, acc, h, e => by
    unfold clG at e
    split at e
    · split at e
      · rename_i a ha
        refine j31 (l := r) (acc := (n, a) :: acc) (fun c' z => ?_) e
        rw [j0j] at z
        split at z
        · rename_i hx
          rw [hx, ha]; exact z
        exact h c' z
      exact j31 (l := r) h e
    exact j31 (l := r) h e
theorem j44 {cells : List (Str × Addr)} {x : Str} {a : Addr} (hx : cells.lookup x = some a) : ∀ {l : List (Str × NameKind)} {acc : List (Str × Addr)}, ((x, NameKind.free) ∈ l ∨ ∃ c, acc.lookup x = some c) → ∃ c, (clG cells l acc).lookup x = some c
  | [], acc, h => by
    rcases h with h | h
    · cases h
    exact h
  | (n, k) :: r, acc, h => by
    unfold clG
    split
    · rename_i hk
      split
      · rename_i a' ha
        refine j44 hx (l := r) ?_
        by_cases e : x = n
        · exact .inr ⟨a', by rw [j0j, if_pos e]⟩
        rcases h with h | ⟨c, h⟩
        · rcases List.mem_cons.mp h with z | z
          · cases z; exact absurd rfl e
          exact .inl z
        exact .inr ⟨c, by rw [j0j, if_neg e]; exact h⟩
      rename_i ha
      refine j44 hx (l := r) ?_
      rcases h with h | h
      · rcases List.mem_cons.mp h with z | z
        · cases z; rw [hx] at ha; cases ha
        exact .inl z
      exact .inr h
    rename_i hk
    refine j44 hx (l := r) ?_
    rcases h with h | h
    · rcases List.mem_cons.mp h with z | z
      · cases z; exact absurd rfl hk
      exact .inl z
    exact .inr h
theorem j4x {scope : Scope} {env : Env} (h : ∀ n, (n, NameKind.free) ∈ scope.names → ∃ a, env.cells.lookup n = some a) : closureFor scope env = pure (clG env.cells scope.names []) := by
  have all : ∀ (l : List (Str × NameKind)) (cs : List (Str × Addr)), (∀ n, (n, NameKind.free) ∈ l → ∃ a, env.cells.lookup n = some a) →
      (forIn l cs fun x r => (if (x.2 == NameKind.free) = true then do let a ← cellOf env x.1; pure (ForInStep.yield ((x.1, a) :: r)) else pure (ForInStep.yield r) : Sem (ForInStep (List (Str × Addr))))) = pure (clG env.cells l cs) := by
    intro l
    induction l with
    | nil => intro cs _; rfl
    | cons x r ih =>
      intro cs hl
      obtain ⟨n, k⟩ := x
      rw [List.forIn_cons]
      have ih' := fun cs => ih cs fun n' hn => hl n' (List.mem_cons_of_mem _ hn)
      unfold clG
      by_cases hk : (k == NameKind.free) = true
      · have ek : k = NameKind.free := by simpa using hk
        obtain ⟨a, ha⟩ := hl n (by rw [ek]; exact List.mem_cons_self)
        have e : cellOf env n = pure a := by unfold cellOf; rw [ha]
        simp only [hk, if_true, ha, e]
        exact ih' _
      simp only [hk]
      exact ih' _
  have e := all scope.names [] h
  have e2 : closureFor scope env = ((forIn scope.names [] fun x r => (if (x.2 == NameKind.free) = true then do let a ← cellOf env x.1; pure (ForInStep.yield ((x.1, a) :: r)) else pure (ForInStep.yield r) : Sem (ForInStep (List (Str × Addr))))) >>= fun z => pure z) := rfl
  rw [e2, e]
  rfl
noncomputable def PTs (X : Cx) (ifs : List Expr) (t : TT) : Prop :=
  ∀ (pins : List (Addr × Obj)) (s : Shared) (σ : L2.St) (H : Hp) (Q : Bool → Hp → Prop), Inv X pins σ H s → t σ H Q →
    wpAny (model X.prog X.w) X.A (forIn ifs true fun c r => if r = true then do let ok ← isTrue c X.env (eval c X.env); pure (ForInStep.yield ok) else pure (ForInStep.yield r)) (TP X pins σ Q) X.xe s
theorem pts_nil {X : Cx} : PTs X [] (fun _ H Q => Q true H) := fun _ _ _ H _ I h => wpAny_tests_nil (x9614 H I h)
theorem pts_one {X : Cx} {c : Expr} {t : TT} (h : PT X c t) : PTs X [c] t := fun pins s σ H Q I q => wpAny_tests_one (h pins s σ H Q I q)
noncomputable def cxC (X : Cx) (scope : Scope) (C : Addr) (fp : List Addr) (s2 : Shared) (H2 : Hp) (pins : List (Addr × Obj)) (N : List Str) : Cx :=
  { X with N := N, s₀ := s2, H₀ := H2, env := compEnvC scope (clG X.env.cells scope.names []) C X.env, outer := X.stack, ex := fp, fn := fun _ => false, pn := X.pn ++ pins, xe := fun _ _ => False }
structure CompSc (X : Cx) (scope : Scope) (x : Str) (caps : List Str) (idx : List Nat) : Prop where
  kind : scope.kind = .function
  cell : ∀ y ∈ scope.names, y.2 ≠ .cell
  names : ∀ y ∈ scope.names, y.2 = .local → scope.names.lookup y.1 = some .local
  lx : scope.names.lookup x = some .local
  fr : ∀ y ∈ scope.names, y.2 = .free → scope.names.lookup y.1 = some .free
  free : ∀ y ∈ scope.names, y.2 = .free → X.env.kindOf y.1 = some .cell ∨ X.env.kindOf y.1 = some .free
  nd : (x :: caps).Nodup
  len : idx.length = caps.length
  cap : ∀ (k : Nat) (i : Nat) (y : Str), idx[k]? = some i → caps[k]? = some y → X.N[i]? = some y
  out : ∀ y ∈ caps, (y, NameKind.free) ∈ scope.names
noncomputable def capV (idx : List Nat) (σ : L2.St) : L2.St := idx.map fun i => (σ[i]?).getD none
noncomputable def tComp (wi : TI) (idx : List Nat) (ti : TT) (te : TE) : TE := fun σ H Q => wi σ H fun J H1 => ∀ D, H1 D = none →
  ∃ W : Nat → Nat → List V → Hp → Prop, (∃ m, W 0 m [] (upd H1 D (.lst []))) ∧ ∀ i m ys H2, W i m ys H2 →
    (J.stop i H2 ∧ Q (.ref D) H2) ∨ (J.go i H2 ∧ ∀ x H3, J.yld i H2 x H3 → ti (some x :: capV idx σ) H3 fun b H4 =>
      if b = true then te (some x :: capV idx σ) H4 fun y H5 => H5 D = some (.lst ys) ∧ ys.length < sizeLine ∧ ∃ m', m' < m ∧ W (i + 1) m' (ys ++ [y]) (upd H5 D (.lst (ys ++ [y])))
      else ∃ m', m' < m ∧ W (i + 1) m' ys H4)
theorem j1y {env : Env} : ∀ {names : List (Str × NameKind)} {x : Str} {k : NameKind}, (names.map fun (n, k) => if (k == NameKind.free && env.scope.kind == .function && env.kindOf n == some .cell) then (n, NameKind.cell) else (n, k)).lookup x = some k →
    (k = .cell ∨ k = .free) → (∀ y ∈ names, y.2 ≠ .cell) → (x, NameKind.free) ∈ names
  | [], _, _, h, _, _ => by simp at h
  | (n, k0) :: r, x, k, h, hk, hc => by
    rw [List.map_cons] at h
    dsimp only at h
    have ih := fun h' => j1y (env := env) (names := r) (x := x) (k := k) h' hk fun y hy => hc y (List.mem_cons_of_mem _ hy)
    by_cases hcond : (k0 == NameKind.free && env.scope.kind == .function && env.kindOf n == some .cell) = true
    · rw [if_pos hcond, j0j] at h
      by_cases e : x = n
      · subst e
        have : k0 = NameKind.free := by
          simp only [Bool.and_eq_true] at hcond
          simpa using hcond.1.1
        rw [this]; exact List.mem_cons_self
      rw [if_neg e] at h
      exact List.mem_cons_of_mem _ (ih h)
    rw [if_neg hcond, j0j] at h
    by_cases e : x = n
    · subst e
      rw [if_pos rfl] at h
      have e2 : k0 = k := Option.some.inj h
      rcases hk with z | z
      · exact absurd (e2.trans z) (hc _ List.mem_cons_self)
      rw [e2, z]; exact List.mem_cons_self
    rw [if_neg e] at h
    exact List.mem_cons_of_mem _ (ih h)
theorem j3g {env : Env} : ∀ {names : List (Str × NameKind)} {x : Str}, names.lookup x = some .free →
    (names.map fun (n, k) => if (k == NameKind.free && env.scope.kind == .function && env.kindOf n == some .cell) then (n, NameKind.cell) else (n, k)).lookup x ≠ some .local
  | [], _, h => by simp at h
  | (n, k0) :: r, x, h => by
    rw [j0j] at h
    rw [List.map_cons]
    dsimp only
    by_cases e : x = n
    · rw [if_pos e] at h
      have e2 : k0 = NameKind.free := Option.some.inj h
      subst e2
      split
      · rw [j0j, if_pos e]; intro z; cases z
      rw [j0j, if_pos e]; intro z; cases z
    rw [if_neg e] at h
    have ih := j3g (env := env) h
    split
    · rw [j0j, if_neg e]; exact ih
    rw [j0j, if_neg e]; exact ih
section
variable {X : Cx} {elt iter : Expr} {x : Str} {px pos : Pos} {ifs : List Expr} {scope : Scope} {wi : TI} {ti : TT} {te : TE} {caps : List Str} {idx : List Nat}
theorem cxC_ok {pins : List (Addr × Obj)} {σ : L2.St} {H2 : Hp} {s2 : Shared} {C : Addr} {fp : List Addr} (S : CompSc X scope x caps idx) (I : Inv X pins σ H2 s2) (hC : s2.heap.objs.size ≤ C) (hf : ∀ b ∈ fp, FpOk X pins H2 b) (hfl : ∀ b ∈ fp, b < s2.heap.objs.size) :
    (cxC X scope C fp s2 H2 pins (x :: caps)).Ok := by
  have from' : ∀ {y : Str} {c : Addr}, (clG X.env.cells scope.names []).lookup y = some c → X.env.cells.lookup y = some c := fun e => j31 (fun _ z => by simp at z) e
  have clt : ∀ {y : Str} {c : Addr}, X.env.cells.lookup y = some c → c < s2.heap.objs.size := fun e => by
    obtain ⟨v, q⟩ := I.cell _ _ e
    exact q.lt
  refine ⟨I.ok.mod, S.kind, I.ok.glob, I.ok.blt, hC, fun y z c e1 e2 => I.ok.inj y z c (from' e1) (from' e2), fun y hy => ?_, (fun y c z => by cases z), I.ok.hd, I.ok.frames, .inl rfl, fun b hb => ?_, I.bs, ?_, fun b o e hb => ?_, fun b hb hb2 => ?_, I.stack, I.stkFree⟩
  · have m : (y, NameKind.free) ∈ scope.names := by
      rcases hy with e | e
      · exact j1y (env := X.env) e (.inl rfl) S.cell
      exact j1y (env := X.env) e (.inr rfl) S.cell
    obtain ⟨a, ha⟩ := I.ok.has y (S.free _ m rfl)
    exact j44 ha (.inl m)
  · obtain ⟨_, f1, f2, f3, f4, f5⟩ := hf b hb
    exact ⟨Nat.ne_of_lt (Nat.lt_of_lt_of_le (hfl b hb) hC), fun y c e => f4 y c (from' e)⟩
  · exact Nat.le_trans I.ok.bsz I.sz
  · obtain ⟨_, f1, f2, f3, f4, f5⟩ := hf b hb
    rcases f3 with z | z
    · exact I.ok.noex b o e z
    exact absurd (Nat.lt_of_lt_of_le (Heap.lt_size (I.ok.bs b o e).1) z) (Nat.lt_irrefl _)
  obtain ⟨_, f1, f2, f3, f4, f5⟩ := hf b hb
  rcases List.mem_cons.mp (I.stkSub b hb2) with z | z
  · exact f1 z
  exact f2 z
end
end L3
end
noncomputable section
namespace L3
open PySem PySem.Spec PyProof.Rows L2
section
variable {X : Cx} {elt iter : Expr} {x : Str} {px pos : Pos} {ifs : List Expr} {scope : Scope} {wi : TI} {ti : TT} {te : TE} {caps : List Str} {idx : List Nat}
theorem jah {use : Option (Value → Sem Unit)} {Qf : Value → Shared → Prop} {pins : List (Addr × Obj)} {σ : L2.St} {H : Hp} {s : Shared} {Q : VK} {cpos : Pos} (hxe : X.xe = fun _ _ => False) (hc : X.calm = true) (S : CompSc X scope x caps idx) (hi : PI X (.Name x px) iter wi)
    (ht : ∀ C fp s2 H2 pins, PTs (cxC X scope C fp s2 H2 pins (x :: caps)) ifs ti) (he : ∀ C fp s2 H2 pins, PE (cxC X scope C fp s2 H2 pins (x :: caps)) elt te) (I : L2.Inv X pins σ H s) (h : tComp wi idx ti te σ H Q)
    (post : ∀ (C D : Addr) (fp : List Addr) (s2 s' : Shared) (H2 H' : Hp) (σ' : L2.St), L2.Inv X pins σ H2 s2 → s2.heap.objs.size ≤ C → (∀ b ∈ fp, FpOk X pins H2 b) → L2.Inv (cxC X scope C fp s2 H2 pins (x :: caps)) [] σ' H' s' → Q (.ref D) H' → compPost (model X.prog X.w) X.A X.xe use Qf (.ref D) C (.ok .next) s')
    (hs : ∀ x, foldedSetIterable iter X.env x = pure x := by intro _; rfl) : wpAny (model X.prog X.w) X.A (comprehension (.ListComp elt [⟨.Name x px, iter, ifs, 0⟩] scope pos) scope X.env cpos (newList []) false (eval iter X.env) use) Qf X.xe s := by
  refine wpAny_comprehension_free (use := use) rfl hs (j4x fun n hn => I.ok.has n (S.free _ hn rfl)) S.kind S.names (thn (hi pins s σ H _ I h) fun v s1 h1 => thn h1 fun itv s2 h2 => ?_)
  obtain ⟨it, fp, tn, J, H2, rfl, I2, T, st2, f2, h⟩ := h2
  refine wpAny_newObj_type (wpAny_newFunctionEnv S.cell (by intro y hy; simp at hy) (fun h₁ hns₁ hsb₁ => ?_) S.kind)
  dsimp only at hns₁ hsb₁ ⊢
  generalize hP : s2.heap.push { cls := .type "list", dict := none, data := .seq ([] : List Value).toArray } = P at hns₁ hsb₁ ⊢
  have hC : P.objs.size = s2.heap.objs.size + 1 := by rw [← hP, Heap.size_push]
  have hDC : s2.heap.objs.size ≠ P.objs.size := by rw [hC]; exact Nat.ne_of_lt (Nat.lt_succ_self _)
  have hCle : s2.heap.objs.size ≤ P.objs.size := by rw [hC]; exact Nat.le_succ _
  have ltC : ∀ {b : Addr}, b < s2.heap.objs.size → b ≠ P.objs.size := fun hb => Nat.ne_of_lt (Nat.lt_of_lt_of_le hb hCle)
  have old : ∀ b o, s2.heap.get? b = some o → h₁.get? b = some o := fun b o e => hsb₁.extBut b o (ltC (Heap.lt_size e)) (Heap.get?_push_of_some _ (hP ▸ Heap.get?_push_of_some _ e))
  have accAt : h₁.get? s2.heap.objs.size = some { cls := .type "list", data := .seq ([] : List Value).toArray } := hsb₁.extBut _ _ hDC (Heap.get?_push_of_some _ (hP ▸ Heap.get?_push_size _ rfl))
  have fresh : ∀ a, s2.heap.objs.size ≤ a → s2.heap.get? a = none := fun a ha => by
    cases e : s2.heap.get? a with
    | none => rfl
    | some o' => exact absurd (Heap.lt_size e) (Nat.not_lt.mpr ha)
  have fpl : ∀ b ∈ fp, b < s2.heap.objs.size := fun b hb => by
    obtain ⟨o, e, _⟩ := T.obj _ _ st2 b hb
    exact Heap.lt_size e
  have hD0 : H2 s2.heap.objs.size = none := I2.hok.fresh (Nat.le_refl _)
  have hC0 : H2 P.objs.size = none := I2.hok.fresh hCle
  have from' : ∀ {y : Str} {c : Addr}, (clG X.env.cells scope.names []).lookup y = some c → X.env.cells.lookup y = some c := fun e => j31 (fun _ z => by simp at z) e
  have clt : ∀ {y : Str} {c : Addr}, X.env.cells.lookup y = some c → c < s2.heap.objs.size := fun e => by
    obtain ⟨v, q⟩ := I2.cell _ _ e
    exact q.lt
  have neD : ∀ {b : Addr}, b < s2.heap.objs.size → b ≠ s2.heap.objs.size := fun hb => Nat.ne_of_lt hb
  have I3 : Inv (cxC X scope P.objs.size fp s2 H2 pins (x :: caps)) [] (none :: capV idx σ) (upd H2 s2.heap.objs.size (.lst [])) { s2 with heap := h₁, toks := s2.toks + ([] : List (Str × Value)).length } := by
    refine ⟨cxC_ok S I2 hCle f2 fpl, rfl, I2.bare, Un.laid old (Nat.le_refl _) hD0, (x9614 _ hns₁ (fun i y v e1 e2 e3 => ?_)), fun y c e => ?_, ?_, fun y c e => ?_, fun p hp => ?_, I2.hok.laid old (Nat.le_refl _) (xbaae (Nat.zero_le _) [] 0 (.nil) accAt), ?_⟩
    · cases i with
      | zero => cases e2
      | succ k =>
        have e1' : caps[k]? = some y := e1
        have e2' : (capV idx σ)[k]? = some (some v) := e2
        unfold capV at e2'
        rw [List.getElem?_map] at e2'
        cases ei : idx[k]? with
        | none => rw [ei] at e2'; cases e2'
        | some i0 =>
          rw [ei] at e2'
          have e4 : (σ[i0]?).getD none = some v := Option.some.inj e2'
          have e5 : σ[i0]? = some (some v) := by
            cases e6 : σ[i0]? with
            | none => rw [e6] at e4; cases e4
            | some z => rw [e6] at e4; exact congrArg some e4
          have hfree := S.out y (List.mem_of_getElem? e1')
          have hk := S.free _ hfree rfl
          obtain ⟨m, hn, hl⟩ := I2.loc
          have vis : Vis X.env.scope y := by
            rcases hk with z | z
            · exact .inr (.inl z)
            exact .inr (.inr z)
          obtain ⟨u, r, l⟩ := hl i0 y v (S.cap k i0 y ei e1') e5 vis
          refine (x9614 u r (.inr ?_))
          rcases l with ⟨z, _⟩ | ⟨_, c, hc', hcell⟩
          · rcases hk with z2 | z2
            · rw [z] at z2; cases z2
            rw [z] at z2; cases z2
          obtain ⟨c2, hc2⟩ := j44 hc' (l := scope.names) (acc := []) (.inl hfree)
          have : c2 = c := Option.some.inj ((from' hc2).symm.trans hc')
          subst this
          refine (x4c19 ?_ c2 hc2 (hcell.keeps old))
          rcases e3 with z | z | z
          · exfalso
            exact j3g (env := X.env) (S.fr _ hfree rfl) z
          · exact .inl z
          exact .inr z
    · obtain ⟨v, q⟩ := I2.cell y c (from' e)
      exact ⟨v, q.keeps old⟩
    · show upd H2 _ _ P.objs.size = none
      rw [j0a (Ne.symm hDC)]; exact hC0
    · rw [j0a (neD (clt (from' e)))]; exact I2.freeC y c (from' e)
    · have hp' : p ∈ X.pn ++ pins := by
        have : p ∈ (X.pn ++ pins) ++ [] := hp
        simpa using this
      obtain ⟨a1, a2, a3, a4, a5⟩ := I2.pin p hp'
      refine (x0988 (old _ _ a1) ?_ (ltC (Heap.lt_size a1)) (fun z => ?_) a5)
      · rw [j0a (neD (Heap.lt_size a1))]; exact a2
      rcases List.mem_cons.mp (I2.stkSub p.1 z) with w' | w'
      · exact a3 w'
      exact a4 w'
    show (none :: capV idx σ).length = (x :: caps).length
    unfold capV
    rw [List.length_cons, List.length_map, S.len, List.length_cons]
  have post' : ∀ {σ' : L2.St} {H' : Hp} {s' : Shared}, L2.Inv (cxC X scope P.objs.size fp s2 H2 pins (x :: caps)) [] σ' H' s' → Q (.ref s2.heap.objs.size) H' → compPost (model X.prog X.w) X.A X.xe use Qf (.ref s2.heap.objs.size) P.objs.size (.ok .next) s' := fun {σ' H' s'} I' q => post _ _ fp s2 s' H2 H' σ' I2 hCle f2 I' q
  obtain ⟨W, ⟨m0, w0⟩, turn⟩ := h s2.heap.objs.size hD0
  have stat : ∀ {H' : Hp}, (∀ b ∈ fp, H' b = none) → ∀ b ∈ fp, FpOk (cxC X scope P.objs.size fp s2 H2 pins (x :: caps)) [] H' b := fun hn b hb => by
    obtain ⟨_, g1, g2, g3, g4, g5⟩ := f2 b hb
    refine (xf6a6 (hn b hb) (ltC (fpl b hb)) (fun z => ?_) (.inl hb) (fun y c e => g4 y c (from' e)) (fun p hp => g5 p (by have : p ∈ (X.pn ++ pins) ++ [] := hp; simpa using this)))
    rcases List.mem_cons.mp (I2.stkSub b z) with w' | w'
    · exact g1 w'
    exact g2 w'
  have loop : ∀ s₃ : Shared, Inv (cxC X scope P.objs.size fp s2 H2 pins (x :: caps)) [] (none :: capV idx σ) (upd H2 s2.heap.objs.size (.lst [])) s₃ → tn 0 s₃.heap →
      codeAny (model X.prog X.w) X.A (.compLoop (.ListComp elt [⟨.Name x px, iter, ifs, 0⟩] scope pos) 0 (.ref it) (.ref s2.heap.objs.size) (compEnvC scope (clG X.env.cells scope.names []) P.objs.size X.env))
        (compPost (model X.prog X.w) X.A X.xe use Qf (.ref s2.heap.objs.size) P.objs.size) s₃ := by
    intro s₃ I₃ st₃
    refine codeAny_loop rfl (fun n s' => ∃ i ys xo H', Inv (cxC X scope P.objs.size fp s2 H2 pins (x :: caps)) [] (xo :: capV idx σ) H' s' ∧ tn i s'.heap ∧ (∀ b ∈ fp, H' b = none) ∧ W i n ys H') (fun n s4 hI => ?_) m0 (x6f71 0 [] none _ I₃ st₃ (fun b hb => by rw [j0a (neD (fpl b hb))]; exact (f2 b hb).1) w0)
    obtain ⟨i, ys, xo, H4, I4, st4, fr4, w4⟩ := hI
    show wpAny _ X.A ((compTurn (.ListComp elt [⟨.Name x px, iter, ifs, 0⟩] scope pos) 0 (.ref it) (.ref s2.heap.objs.size) (compEnvC scope (clG X.env.cells scope.names []) P.objs.size X.env)).onRaise (fun x => do noteFrame x (compEnvC scope (clG X.env.cells scope.names []) P.objs.size X.env); theTreesLotGoes x)) _ _ s4
    refine wpAny_noted ?_
    rw [compTurn_list]
    refine wpAny_bind (wpAny_standAt (wpAny_bind ?_))
    rcases turn i n ys H4 w4 with ⟨stop, q⟩ | ⟨go, step⟩
    · refine wpAny_mono (T.done (cxC X scope P.objs.size fp s2 H2 pins (x :: caps)) rfl rfl rfl hc i [] s4 _ H4 (fun _ _ => False) I4 (stat fr4) st4 stop) (fun r s5 hr => ?_) (fun _ _ e => e.elim)
      obtain ⟨rfl, I5⟩ := hr
      exact wpAny_pure (post' I5 q)
    refine wpAny_mono (T.item (cxC X scope P.objs.size fp s2 H2 pins (x :: caps)) rfl rfl rfl hc i [] s4 _ H4 (fun _ _ => False) I4 (stat fr4) st4 go) (fun r s5 hr => ?_) (fun _ _ e => e.elim)
    obtain ⟨u, rfl, h5⟩ := hr
    dsimp only
    refine wpAny_bind (wpAny_mono h5 (fun _ s6 h6 => ?_) (fun _ _ e => e.elim))
    obtain ⟨x6, H6, I6, r6, y6, st6, fr6⟩ := h6
    have I6' := I6.pinned (stat fr6) (T.obj _ _ st6)
    refine wpAny_bind (wpAny_assign_Name (j2m (i := 0) I6' S.nd rfl (.inl (lookup_relabel_local S.lx)) r6 (fun s7 I7 => ?_) (.inr (lookup_relabel_local S.lx))))
    have again : ∀ {H8 : Hp} {s8 : Shared} {zs : List V}, Inv (cxC X scope P.objs.size fp s2 H2 pins (x :: caps)) ([] ++ j5r fp s6.heap) (some x6 :: capV idx σ) H8 s8 → (∃ m', m' < n ∧ W (i + 1) m' zs H8) →
        ∃ m, m < n ∧ ∃ i ys xo H', Inv (cxC X scope P.objs.size fp s2 H2 pins (x :: caps)) [] (xo :: capV idx σ) H' s8 ∧ tn i s8.heap ∧ (∀ b ∈ fp, H' b = none) ∧ W i m ys H' := fun {H8 s8 zs} I8 w8 => by
      obtain ⟨m', hm, w8⟩ := w8
      refine (x9614 m' hm (x6f71 (i + 1) zs (some x6) H8 I8.unpinned (T.keep _ _ _ st6 fun b hb o e => (I8.pin (b, o) (List.mem_append_right _ (List.mem_append_right _ (j2n hb e)))).1) (fun b hb => ?_) w8))
      obtain ⟨o, e, d⟩ := T.obj _ _ st6 b hb
      exact (I8.pin (b, o) (List.mem_append_right _ (List.mem_append_right _ (j2n hb e)))).2.1
    refine wpAny_bind (wpAny_mono (ht P.objs.size fp s2 H2 pins _ s7 (some x6 :: capV idx σ) H6 _ I7 (step x6 H6 y6)) (fun ok s8 h8 => ?_) (fun _ _ e => e.elim))
    obtain ⟨H8, I8, q8⟩ := h8
    cases ok with
    | false => exact wpAny_pure ⟨rfl, again I8 (by simpa using q8)⟩
    | true =>
      rw [if_pos rfl] at q8
      refine wpAny_bind (wpAny_bind (wpAny_mono (he P.objs.size fp s2 H2 pins _ s8 (some x6 :: capV idx σ) H8 _ I8 q8) (fun y s9 h9 => ?_) (fun _ _ e => e.elim)))
      obtain ⟨yv, H9, I9, r9, d9, l9, w9⟩ := h9
      refine wpAny_bind (wpAny_mono (j11 (X := cxC X scope P.objs.size fp s2 H2 pins (x :: caps)) _ s9 _ H9 (.ref s2.heap.objs.size) [yv] (.ref s2.heap.objs.size) [y] (fun _ HA => ∃ m', m' < n ∧ W (i + 1) m' (ys ++ [yv]) HA) I9 rfl (.cons r9 .nil) (xac60 _ _ yv rfl rfl d9 l9 w9)) (fun z s10 h10 => ?_) (fun _ _ e => e.elim))
      obtain ⟨_, H10, I10, _, w10⟩ := h10
      exact wpAny_pure (wpAny_pure ⟨rfl, again I10 w10⟩)
  have st₁ : tn 0 h₁ := T.keep _ _ _ st2 fun b hb o e => old b o e
  exact codeAny_compStart_list (loop _ I3 st₁) (T.self X.A 0 _ _ _ st₁ (loop _ I3 st₁))
theorem jai {C : Addr} {fp : List Addr} {s2 s' : Shared} {H2 H' : Hp} {σ σ' : L2.St} {pins : List (Addr × Obj)} (I2 : L2.Inv X pins σ H2 s2) (f2 : ∀ b ∈ fp, FpOk X pins H2 b) (I' : L2.Inv (cxC X scope C fp s2 H2 pins (x :: caps)) [] σ' H' s') : L2.Inv X pins σ H' s' := by
  refine I2.call' (ch := fp) I'.os I'.base I'.hok I'.bare fun b hb => ?_
  obtain ⟨_, g1, g2, g3, g4, g5⟩ := f2 b hb
  exact (xe1fa g3 g1 g4 g5)
theorem j8t {C : Addr} {s2 s' : Shared} {h' : Heap} {H2 H' : Hp} {σ σ0 : L2.St} {pins : List (Addr × Obj)} (I2 : L2.Inv X pins σ0 H2 s2) (hC : s2.heap.objs.size ≤ C) (hn : H' C = none) (I : L2.Inv X pins σ H' s') (hs : Heap.SameBut C s'.heap h') : L2.Inv X pins σ H' { s' with heap := h' } := by
  refine I.turned (t' := s'.toks) (it := C) (fun b o hb e => (hs.2 b hb).trans e) hn (Nat.ne_of_gt (Nat.lt_of_lt_of_le I2.lt hC)) (.inr (Nat.le_trans I2.sz hC)) (fun y c e z => ?_) fun p hp z => ?_
  · obtain ⟨v, q⟩ := I2.cell y c e
    exact absurd (Nat.lt_of_lt_of_le q.lt (by rw [z]; exact hC)) (Nat.lt_irrefl _)
  exact absurd (Nat.lt_of_lt_of_le (Heap.lt_size (I2.pin p hp).1) (by rw [z]; exact hC)) (Nat.lt_irrefl _)
theorem jaj (hxe : X.xe = fun _ _ => False) (hc : X.calm = true) (S : CompSc X scope x caps idx) (hi : PI X (.Name x px) iter wi)
    (ht : ∀ C fp s2 H2 pins, PTs (cxC X scope C fp s2 H2 pins (x :: caps)) ifs ti) (he : ∀ C fp s2 H2 pins, PE (cxC X scope C fp s2 H2 pins (x :: caps)) elt te)
    (hs : ∀ x, foldedSetIterable iter X.env x = pure x := by intro _; rfl) : PE X (.ListComp elt [⟨.Name x px, iter, ifs, 0⟩] scope pos) (tComp wi idx ti te) := by
  intro pins s σ H Q I h
  rw [eval_ListComp]
  refine jah (use := none) hxe hc S hi ht he I h (fun C D fp s2 s' H2 H' σ' I2 hC f2 I' q => ?_) hs
  obtain ⟨m, hn, _⟩ := I'.loc
  exact (x9614 m hn (fun h' hs' => (xeb27 (.ref D) H' (j8t I2 hC I'.free (jai I2 f2 I') hs') rfl q)))
end
end L3
end
noncomputable section
namespace L3
open PySem PySem.Spec PyProof.Rows L2
section
variable {X : Cx}
theorem j69 (hc : X.calm = true) : j37 X (.builtin "min") (fun xs H Q => ∃ p ns, xs = [.ref p] ∧ SqL X.K H p (iV ns) ∧ ns ≠ [] ∧ ∀ M, M ∈ ns → (∀ a ∈ ns, M ≤ a) → Q (.int M) H) := by
  intro pins s σ H xs us Q I r h
  obtain ⟨p, ns, rfl, hx, hne, q⟩ := h
  obtain ⟨u, rfl, rx⟩ := j2x r
  cases rx
  obtain ⟨its, r', pl, hz⟩ := I.list hx
  obtain ⟨m, F, N⟩ := j80 I
  refine min_list_N (I.ok.hd hc) F N pl.isList (j22 r') (List.length_pos_iff.mpr hne) fun h' M t tk F' N' m1 m2 => ?_
  exact (xeb27 (.int M) H (Inv.newsed I F F' N') ⟨t, rfl⟩ (q M m1 m2))
abbrev bV (bs : List Bool) : List V := bs.map V.bl
theorem j45 : ∀ {bs : List Bool} {us : List Value}, Vals (bV bs) us → LSm.BoolsAre us bs
  | [], _, .nil => .nil
  | b :: bs, _, .cons r t => by
    cases (show _ = Value.bool b from r)
    exact .cons b (j45 t)
theorem jak (hc : X.calm = true) : j37 X (.builtin "any") (fun xs H Q => ∃ p bs, xs = [.ref p] ∧ SqL X.K H p (bV bs) ∧ Q (.bl (bs.any id)) H) := by
  intro pins s σ H xs us Q I r h
  obtain ⟨p, bs, rfl, hx, q⟩ := h
  obtain ⟨u, rfl, rx⟩ := j2x r
  cases rx
  obtain ⟨its, r', pl, hz⟩ := I.list hx
  obtain ⟨m, F, N⟩ := j80 I
  refine LSm.any_bools F N (I.ok.hd hc) pl.isList (j45 r') fun h' tk F' N' => ?_
  exact (xeb27 (.bl _) H (Inv.newsed I F F' N') rfl q)
theorem pe_rev {e st : Expr} {te ts : TE} {p2 pos : Pos} (he : PE X e te) (hs : PE X st ts) :
    PE X (.Subscript e (.Slice none none (some st) p2) pos) (fun σ H Q => te σ H fun x H1 => ∃ a xs, x = .ref a ∧ ts σ H1 fun y H2 => y = .int (-1) ∧ SqL X.K H2 a xs ∧ ∀ p, H2 p = none → Q (.ref p) (upd H2 p (.lst xs.reverse))) := by
  intro pins s σ H Q I h
  refine Subscript_ (thn (he pins s σ H _ I h) fun v s1 ⟨x, H1, I1, r1, q1⟩ => ?_)
  obtain ⟨a, xs, rfl, q1⟩ := q1
  cases r1
  refine wpAny_Slice ?_
  rw [evalPart_none]
  refine wpAny_pure (wpAny_pure ?_)
  rw [evalPart_some]
  refine thn (hs pins s1 σ H1 _ I1 q1) fun vk s3 ⟨k, H3, I3, rk, ek, hx, q3⟩ => ?_
  subst ek
  obtain ⟨tk, rfl⟩ := rk
  have pk : IsPart (Value.int (-1) tk) (some (-1)) := .int _ _
  obtain ⟨its, r, ht, hz⟩ := I3.list hx
  have I4 : L2.Inv X pins σ H3 { s3 with heap := s3.heap.push { cls := .type "slice", data := .fields #[.none, .none, .int (-1) tk] } } := I3.kept (t' := s3.toks) fun b ob q => Heap.get?_push_of_some _ q
  have hl : (s3.heap.push { cls := .type "slice", data := .fields #[.none, .none, .int (-1) tk] }).IsList a its.toArray := ht.isList.push _
  have hlen := r.length
  show wpAny (model X.prog X.w) X.A (subscriptTail e (.Slice none none (some st) p2) (.ref a) (.ref s3.heap.objs.size)) (EP X pins σ Q) X.xe { s3 with heap := s3.heap.push { cls := .type "slice", data := .fields #[.none, .none, .int (-1) tk] } }
  refine tail_any (ops := [.ref a, .ref s3.heap.objs.size]) hl.typeIs slot_list_getitem.lookup (wpAny_getItem_list_slice (s := { s3 with heap := s3.heap.push { cls := .type "slice", data := .fields #[.none, .none, .int (-1) tk] } }) hl (Heap.IsSliceOf.new ..) .none .none pk (by decide) ?_ (by rw [List.size_toArray] <;> exact o8836e hz hlen)) (by with_unfolding_all rfl)
  rw [PySem.W.krv_pick]
  refine (xeb27 (.ref _) _ (I4.laid (t' := s3.toks) (o := .lst xs.reverse) (fun b ob q => Heap.get?_push_of_some _ q) (Nat.le_refl _) (xbaae (by rw [List.length_reverse]; exact hz) its.reverse 0 r.reverse ?_)) rfl (q3 _ (I4.hok.fresh (Nat.le_refl _))))
  exact Heap.get?_push_size _ rfl
noncomputable def tyVal : V → Option Value
  | .ty n => some (.type n)
  | .ref C => some (.ref C)
  | _ => none
theorem j1w : j37 X (.builtin "isinstance") (fun xs H Q => ∃ x T c t b, xs = [x, T] ∧ tyVal T = some c ∧ TyOf X.K H x t ∧ PySem.W.kitOne X.K t c = some b ∧ Q (.bl b) H) := by
  intro pins s σ H xs us Q I r h
  obtain ⟨x, T, c, t, b, rfl, hc, ty, e, q⟩ := h
  obtain ⟨u, w', rfl, rx, rt⟩ := vals2 r
  have ew : w' = c := by
    cases T with
    | ty n => cases (show w' = Value.type n from rt); exact Option.some.inj hc
    | ref C => cases (show w' = Value.ref C from rt); exact Option.some.inj hc
    | _ => cases hc
  subst ew
  exact j9u I rx ty e fun tk => (xeb27 (.bl b) H (I.tok tk) rfl q)
end
end L3
end
noncomputable section
namespace L3
open PySem PySem.Spec PyProof.Rows L2
theorem j6a {α : Type} [DecidableEq α] : ∀ {as bs : List α}, as.length = bs.length → ∀ (e : Nat → Bool), (∀ j a b, as[j]? = some a → bs[j]? = some b → e j = decide (a = b)) → (List.range as.length).all e = decide (as = bs) := by
  intro as bs hl e he
  rw [Bool.eq_iff_iff, List.all_eq_true]
  simp only [List.mem_range, decide_eq_true_eq]
  constructor
  · intro h
    refine List.ext_getElem hl fun j h1 h2 => ?_
    have := h j h1
    rw [he j as[j] bs[j] (by simp [h1]) (by simp [h2])] at this
    simpa using this
  intro h j hj
  subst h
  rw [he j as[j] as[j] (by simp [hj]) (by simp [hj])]
  simp
theorem Paired.at {α β : Type} {F : α → β → Prop} : ∀ {l₁ : List α} {l₂ : List β}, PySem.Paired F l₁ l₂ → ∀ {j : Nat} {b : β}, l₂[j]? = some b → ∃ a, l₁[j]? = some a ∧ F a b
  | _, _, .nil, j, b, e => by simp at e
  | _, _, .cons h t, 0, b, e => by simp at e; subst e; exact (x9614 _ rfl h)
  | _, _, .cons h t, j + 1, b, e => by simpa using Paired.at t (j := j) (b := b) (by simpa using e)
section
variable {X : Cx} {pins : List (Addr × Obj)} {σ : L2.St} {H : Hp} {s : Shared}
theorem jal (A : Around) (s : Shared) (a : Int) (t : Tok) (c : Int) (u : Tok) : SeqAt.EqAt A s (.int a t) (.int c u) (decide (a = c)) := by
  obtain ⟨e, h, hi⟩ := HT.eqAt_int A s a t c u
  have : e = decide (a = c) := by
    rw [Bool.eq_iff_iff, hi]; simp
  rw [← this]; exact h
structure ItemR (X : Cx) {α : Type} [DecidableEq α] (A : Around) (R : Hp → α → V → Prop) : Prop where
  eq : ∀ (pins : List (Addr × Obj)) (σ : L2.St) (H : Hp) (s : Shared), L2.Inv X pins σ H s → ∀ (a b : α) (x y : V) (u v : Value), R H a x → R H b y → RelV x u → RelV y v → SeqAt.EqAt A s u v (decide (a = b))
  inj : ∀ (pins : List (Addr × Obj)) (σ : L2.St) (H : Hp) (s : Shared), L2.Inv X pins σ H s → ∀ (a b : α) (x : V), R H a x → R H b x → a = b
abbrev rInt : Hp → Int → V → Prop := fun _ a x => x = .int a
abbrev rBl : Hp → Bool → V → Prop := fun _ a x => x = .bl a
theorem j3a {A : Around} : ItemR X A rInt where
  eq := by
    intro pins σ H s I a b x y u v h1 h2 r1 r2
    cases h1; cases h2
    obtain ⟨t, rfl⟩ := r1
    obtain ⟨t', rfl⟩ := r2
    exact jal A s a t b t'
  inj := by
    intro pins σ H s I a b x h1 h2
    cases h1; cases h2; rfl
theorem j3b {α : Type} {R : α → V → Prop} (h : ∀ a b x, R a x → R b x → a = b) : ∀ {as bs : List α} {xs : List V}, PySem.Paired R as xs → PySem.Paired R bs xs → as = bs
  | _, _, _, .nil, .nil => rfl
  | _, _, _, .cons h1 t1, .cons h2 t2 => by rw [h _ _ _ h1 h2, j3b h t1 t2]
theorem j81 {α : Type} [DecidableEq α] {A : Around} {R : Hp → α → V → Prop} (hE : ItemR X A R) (I : L2.Inv X pins σ H s) {xs ys : List V} {as bs : List α} {its jts : List Value} (p1 : PySem.Paired (R H) as xs) (p2 : PySem.Paired (R H) bs ys) (r1 : Vals xs its) (r2 : Vals ys jts) :
    ∃ e : Nat → Bool, (∀ j (h1 : j < its.toArray.size) (h2 : j < jts.toArray.size), SeqAt.EqAt A s its.toArray[j] jts.toArray[j] (e j)) ∧ ∀ j a b, as[j]? = some a → bs[j]? = some b → e j = decide (a = b) := by
  refine ⟨fun j => match as[j]?, bs[j]? with
    | some a, some b => decide (a = b)
    | _, _ => true, fun j h1 h2 => ?_, fun j a b ea eb => by simp only [ea, eb]⟩
  rw [List.size_toArray] at h1 h2
  have l1 := r1.length
  have l2 := r2.length
  have ex : xs[j]? = some xs[j] := by simp [show j < xs.length by exact o80915 h1 l1]
  have ey : ys[j]? = some ys[j] := by simp [show j < ys.length by exact o80915 h2 l2]
  obtain ⟨a, ea, ha⟩ := Paired.at p1 ex
  obtain ⟨b, eb, hb⟩ := Paired.at p2 ey
  obtain ⟨u, eu, ru⟩ := r1.get ex
  obtain ⟨v, ev, rv⟩ := r2.get ey
  have eu' : its.toArray[j] = u := by
    have : its[j]? = some its[j] := by simp [h1]
    rw [this] at eu
    simpa using Option.some.inj eu
  have ev' : jts.toArray[j] = v := by
    have : jts[j]? = some jts[j] := by simp [h2]
    rw [this] at ev
    simpa using Option.some.inj ev
  simp only [ea, eb]
  rw [eu', ev']
  exact hE.eq _ _ _ _ I _ _ _ _ _ _ ha hb ru rv
noncomputable def IsL (K : PySem.W.Frag) {α : Type} (R : Hp → α → V → Prop) (H : Hp) (as : List α) (x : V) : Prop := ∃ p xs, x = .ref p ∧ SqL K H p xs ∧ PySem.Paired (R H) as xs
noncomputable def IsT (K : PySem.W.Frag) {α : Type} (R : Hp → α → V → Prop) (H : Hp) (as : List α) (x : V) : Prop := ∃ p xs, x = .ref p ∧ SqT K H p xs ∧ PySem.Paired (R H) as xs
theorem j0n (H : Hp) : ∀ ns : List Int, PySem.Paired (rInt H) ns (iV ns)
  | [] => .nil
  | n :: ns => .cons rfl (j0n H ns)
theorem j82 {α : Type} [DecidableEq α] {A : Around} {R : Hp → α → V → Prop} (hu : A.units < cLine) (hE : ItemR X A.in1 R) (I : L2.Inv X pins σ H s) {as bs : List α} {x y : V} {u v : Value} (h1 : IsL X.K R H as x) (h2 : IsL X.K R H bs y) (r1 : RelV x u) (r2 : RelV y v) :
    SeqAt.RcAt A s u v (decide (as = bs)) ∧ SeqAt.RcNeAt A s u v (!decide (as = bs)) := by
  obtain ⟨p, xs, rfl, hx, p1⟩ := h1
  obtain ⟨q, ys, rfl, hy, p2⟩ := h2
  cases r1; cases r2
  obtain ⟨its, v1, l1, z1⟩ := I.list hx
  obtain ⟨jts, v2, l2, z2⟩ := I.list hy
  have k1 := v1.length
  have k2 := v2.length
  have k3 : as.length = xs.length := PySem.Paired.length p1
  have k4 : bs.length = ys.length := PySem.Paired.length p2
  by_cases hl : its.length = jts.length
  · obtain ⟨e, he, hb⟩ := j81 hE I p1 p2 v1 v2
    have ra := j6a (as := as) (bs := bs) (by exact o81c62 k1 k2 k3 k4 hl) e hb
    have sz : its.toArray.size = as.length := by rw [List.size_toArray]; exact ob7fbb k1 k3
    have g1 := SeqAt.RcAt.lists (A := A) (s := s) l1.isList l2.isList (by simpa using hl) hu he
    have g2 := SeqAt.RcNeAt.lists (A := A) (s := s) l1.isList l2.isList (by simpa using hl) hu he
    rw [sz, ra] at g1 g2
    exact ⟨g1, g2⟩
  have hd : decide (as = bs) = false := decide_eq_false fun z => hl (by rw [z] at k3; exact o7814e k1 k2 k3 k4)
  rw [hd]
  exact ⟨SeqAt.RcAt.lists_lengths l1.isList l2.isList (by simpa using hl) hu, SeqAt.RcNeAt.lists_lengths l1.isList l2.isList (by simpa using hl) hu⟩
theorem jam {α : Type} [DecidableEq α] {A : Around} {R : Hp → α → V → Prop} (hu : A.units < cLine) (hE : ItemR X A.in1 R) (I : L2.Inv X pins σ H s) {as bs : List α} {x y : V} {u v : Value} (h1 : IsT X.K R H as x) (h2 : IsT X.K R H bs y) (r1 : RelV x u) (r2 : RelV y v) :
    SeqAt.RcAt A s u v (decide (as = bs)) ∧ SeqAt.RcNeAt A s u v (!decide (as = bs)) := by
  obtain ⟨p, xs, rfl, hx, p1⟩ := h1
  obtain ⟨q, ys, rfl, hy, p2⟩ := h2
  cases r1; cases r2
  obtain ⟨its, v1, l1, z1⟩ := I.tuple hx
  obtain ⟨jts, v2, l2, z2⟩ := I.tuple hy
  have k1 := v1.length
  have k2 := v2.length
  have k3 : as.length = xs.length := PySem.Paired.length p1
  have k4 : bs.length = ys.length := PySem.Paired.length p2
  obtain ⟨e, he, hb⟩ := j81 hE I p1 p2 v1 v2
  have g1 := SeqAt.RcAt.tuples (A := A) (s := s) l1 l2 hu he
  have g2 := SeqAt.RcNeAt.tuples (A := A) (s := s) l1 l2 hu he
  have fin : ((List.range (min its.toArray.size jts.toArray.size)).all e && its.toArray.size == jts.toArray.size) = decide (as = bs) := by
    by_cases hl : its.length = jts.length
    · have ra := j6a (as := as) (bs := bs) (by exact o81c62 k1 k2 k3 k4 hl) e hb
      have : min its.toArray.size jts.toArray.size = as.length := by rw [List.size_toArray, List.size_toArray]; exact o22e18 k1 k3 hl
      rw [this, ra]
      simp [hl]
    have hd : decide (as = bs) = false := decide_eq_false fun z => hl (by rw [z] at k3; exact o7814e k1 k2 k3 k4)
    rw [hd]
    simp [hl]
  rw [fin] at g1 g2
  exact ⟨g1, g2⟩
theorem itemT {α : Type} [DecidableEq α] {A : Around} {R : Hp → α → V → Prop} (hu : A.units < cLine) (hE : ItemR X A.in1 R) : ItemR X A (IsT X.K R) where
  eq := by
    intro pins σ H s I a b x y u v h1 h2 r1 r2
    have g := jam hu hE I h1 h2 r1 r2
    obtain ⟨p, xs, rfl, hx, p1⟩ := id h1
    obtain ⟨q, ys, rfl, hy, p2⟩ := id h2
    cases r1; cases r2
    by_cases e : p = q
    · subst e
      have e2 := I.tuple_inj hx hy
      subst e2
      rw [decide_eq_true (j3b (hE.inj _ _ _ _ I) p1 p2)]
      exact SeqAt.EqAt.same _
    exact SeqAt.EqAt.of_refs e g.1
  inj := by
    intro pins σ H s I a b x h1 h2
    obtain ⟨p, xs, rfl, hx, p1⟩ := h1
    obtain ⟨q, ys, e, hy, p2⟩ := h2
    cases e
    have e2 := I.tuple_inj hx hy
    subst e2
    exact j3b (hE.inj _ _ _ _ I) p1 p2
noncomputable def rEqL (K : PySem.W.Frag) {α : Type} [DecidableEq α] (R : Hp → α → V → Prop) (n : Bool) : R2 := fun x y H Q => ∃ as bs, IsL K R H as x ∧ IsL K R H bs y ∧ Q (.bl (if n then !decide (as = bs) else decide (as = bs))) H
noncomputable def rEqT (K : PySem.W.Frag) {α : Type} [DecidableEq α] (R : Hp → α → V → Prop) (n : Bool) : R2 := fun x y H Q => ∃ as bs, IsT K R H as x ∧ IsT K R H bs y ∧ Q (.bl (if n then !decide (as = bs) else decide (as = bs))) H
theorem op_eqL {α : Type} [DecidableEq α] {R : Hp → α → V → Prop} (hu : X.A.units < cLine) (hE : ItemR X X.A.in1 R) : OpR X (compareOp .Eq) (rEqL X.K R false) := by
  intro pins s σ H x y v u Q I rx ry h
  obtain ⟨as, bs, h1, h2, q⟩ := h
  exact (j82 hu hE I h1 h2 rx ry).1 _ _ _ _ (xeb27 (.bl _) H I rfl q)
theorem j83 {α : Type} [DecidableEq α] {R : Hp → α → V → Prop} (hu : X.A.units < cLine) (hE : ItemR X X.A.in1 R) : OpR X (compareOp .NotEq) (rEqL X.K R true) := by
  intro pins s σ H x y v u Q I rx ry h
  obtain ⟨as, bs, h1, h2, q⟩ := h
  exact (j82 hu hE I h1 h2 rx ry).2 _ _ _ _ (xeb27 (.bl _) H I rfl q)
end
end L3
end
noncomputable section
namespace L3
open PySem PySem.Spec PyProof.Rows L2
theorem j84 : bootBuiltins "int" = some (.type "int") := by decide +kernel
theorem j6b : bootBuiltins "bool" = some (.type "bool") := by decide +kernel
theorem j1h : bootBuiltins "list" = some (.type "list") := by decide +kernel
theorem j8u : bootBuiltins "tuple" = some (.type "tuple") := by decide +kernel
theorem j2a : bootBuiltins "sum" = some (.builtin "sum") := by decide +kernel
theorem boot_any : bootBuiltins "any" = some (.builtin "any") := by decide +kernel
theorem j3q : bootBuiltins "abs" = some (.builtin "abs") := by decide +kernel
theorem boot_max : bootBuiltins "max" = some (.builtin "max") := by decide +kernel
theorem j5b : bootBuiltins "min" = some (.builtin "min") := by decide +kernel
structure Bl (mg : Str → Option Value) : Prop where
  len : mg "len" = none
  range : mg "range" = none
  list : mg "list" = none
  tuple : mg "tuple" = none
  int : mg "int" = none
  bool : mg "bool" = none
  str : mg "str" = none
  isinstance : mg "isinstance" = none
  sum : mg "sum" = none
  sorted : mg "sorted" = none
  any : mg "any" = none
  all : mg "all" = none
  abs : mg "abs" = none
  max : mg "max" = none
  min : mg "min" = none
structure Ok (P : Program) (w : World) (K : PySem.W.Frag) (mg : Str → Option Value) (base : Heap) (k : Nat) (x : Str) (ps : List Str) (sp : Sp) : Prop where
  ex : ∃ (f : Addr) (fd : FuncData), FnOk P w K mg base CX0 k f fd ps sp ∧ mg x = some (.ref f) ∧ PySem.W.keepIn K (.ref f) = true ∧ j4l K fd ps []
structure OkM (P : Program) (w : World) (K : PySem.W.Frag) (mg : Str → Option Value) (base : Heap) (k : Nat) (C : Addr) (m : Str) (ps : List Str) (sp : Sp) : Prop where
  ex : ∃ (f : Addr) (fd : FuncData), FnOk P w K mg base CX0 k f fd ps sp ∧ Cls K C ∧ Meth K C m f ∧ j4l K fd ps []
structure OkC (P : Program) (w : World) (K : PySem.W.Frag) (mg : Str → Option Value) (base : Heap) (k : Nat) (x : Str) (C : Addr) (ps : List Str) (sp : Sp) : Prop where
  ex : ∃ (f : Addr) (fd : FuncData), FnOk P w K mg base CX0 k f fd ps sp ∧ mg x = some (.ref C) ∧ Mk K C f ∧ j4l K fd ps []
section
variable {X : Cx} {k : Nat} {ps : List Str} {sp : Sp} {x m : Str} {p pos apos : Pos} {e o : Expr} {es : List Expr} {ta : TE} {t : TA} {C : Addr}
theorem j06 (c : Ok X.prog X.w X.K X.mg X.base k x ps sp) (hr : Room k X.A) (hg : Gl X x) (ha : PA X (e :: es) t)
    (hdb : (x == ("__debug__" : Str)) = false := by decide) (he : starEach (e :: es) X.env = (false, eval e X.env) :: starEach es X.env := by rfl) (hpl : (backTo pos (starEach es X.env)).any (·.1) = false := by rfl) :
    PE X (.Call (.Name x p) (e :: es) [] pos) (tCall sp [] E0 t) := by
  obtain ⟨f, fd, F, g, kp, b⟩ := c.ex
  exact pe_call (E := E0) F hr hg g kp b .nil pass0 ha hdb he hpl
theorem j5c (c : OkC X.prog X.w X.K X.mg X.base k x C ps sp) (hr : Room (k + 1) X.A) (hg : Gl X x) (ha : PA X (e :: es) t)
    (hdb : (x == ("__debug__" : Str)) = false := by decide) (he : starEach (e :: es) X.env = (false, eval e X.env) :: starEach es X.env := by rfl) (hpl : (backTo pos (starEach es X.env)).any (·.1) = false := by rfl) :
    PE X (.Call (.Name x p) (e :: es) [] pos) (tMake C sp [] E0 t) := by
  obtain ⟨f, fd, F, g, M, b⟩ := c.ex
  exact pe_make (E := E0) M F hr hg g b .nil pass0 ha hdb he hpl
theorem j5d : PGet X (rIxL X.K) := by
  intro pins s σ H x y v u Q I rx ry h
  obtain ⟨p, xs, i, z, rfl, rfl, hq, he, q⟩ := h
  cases rx
  obtain ⟨t, rfl⟩ := ry
  obtain ⟨its, r, pl, hz⟩ := I.list hq
  obtain ⟨j, h1, h2, h3, h4, h5⟩ := j6w he
  obtain ⟨w, ew, rw'⟩ := r.get h2
  have hl := r.length
  have hn := j4t
  have fin : EP X pins σ Q w s := (xeb27 z H I rw' q)
  by_cases h0 : 0 ≤ i
  · have hj : i.toNat = j := by
      rw [seqIndex_of h0 h5] at h1
      exact Option.some.inj h1
    exact wpAny_getItem_list pl.isList h0 (by omega) (by rw [hj]; simpa using ew) fin
  have hj : (i + (its.toArray.size : Int)).toNat = j := by
    rw [seqIndex_neg (by exact o2472d h0) h4] at h1
    rw [List.size_toArray, ← hl]
    exact Option.some.inj h1
  exact wpAny_getItem_list_neg pl.isList (by exact o2472d h0) (by rw [List.size_toArray] <;> exact o858e5 h4 hl) (by omega) (by rw [hj]; simpa using ew) fin
end
end L3
end
noncomputable section
namespace L3
open PySem PySem.Spec PyProof.Rows L2
inductive ICon : List Expr → List Int → Prop
  | nil : ICon [] []
  | cons {n : Int} {k : Nat} {p : Pos} {r : List Expr} {ns : List Int} (h : ICon r ns) : ICon (.Constant (.int n) k p :: r) (n :: ns)
theorem pa_icon {X : Cx} {es : List Expr} {ns : List Int} (h : ICon es ns) : PA X es (fun _ H Q => Q (iV ns) H) := by
  induction h with
  | nil => exact j02
  | cons _ ih => exact j00 j07 ih rfl
noncomputable def stL : Stmt → Nat → List Stmt
  | .For _ _ b e _, k => if k = 0 then b else e
  | .While _ b e _, k => if k = 0 then b else e
  | .If _ b e _, k => if k = 0 then b else e
  | _, _ => []
abbrev noSt : Stmt := .Pass ⟨0, 0, 0, 0⟩
theorem jan {X : Cx} {es : List Expr} {ns : List Int} {x1 : Nat} {pos : Pos} (h : ICon es ns) (hl : ns.length ≤ 1000) : PE X (.Tuple es x1 pos) (fun _ H Q => ∀ p, H p = none → Q (.ref p) (upd H p (.tup (iV ns)))) := by
  intro pins s σ H Q I q
  exact j7s (pa_icon h) pins s σ H Q I ⟨by rw [j0e]; exact Nat.le_trans hl (by decide), q⟩
end L3
namespace L2
open PySem PySem.Spec PyProof.Rows
theorem j1u {K : PySem.W.Frag} {a : Addr} {xs : List V} {g : TG} {tb : TS} {D : Ends} {σ : St} {H : Hp} (Pv : Nat → St → Hp → Prop) (h0 : Pv 0 σ H) (hl : ∀ i σ H, i ≤ xs.length → Pv i σ H → SqL K H a xs)
    (hs : ∀ i x σ H, xs[i]? = some x → Pv i σ H → let D' : Ends := { D with nx := Pv (i + 1), ct := Pv (i + 1), bk := D.nx }; g x σ H fun σ2 H2 => tb D' σ2 H2) (hd : ∀ σ H, Pv xs.length σ H → D.nx σ H) :
    ∃ W : Nat → Nat → St → Hp → Prop, (∃ m, W 0 m σ H) ∧ ∀ i m σ H, W i m σ H →
      ((Itl K a).stop i H ∧ D.nx σ H) ∨ ((Itl K a).go i H ∧ ∃ N : St → Hp → Prop, (∀ σ' H', N σ' H' → ∃ m', m' < m ∧ W (i + 1) m' σ' H') ∧ ∀ x H', (Itl K a).yld i H x H' → g x σ H' fun σ2 H2 => tb { D with nx := N, ct := N, bk := D.nx } σ2 H2) := for_list Pv h0 hl hs hd
theorem j24 {lo : Int} {n : Nat} {g : TG} {tb : TS} {D : Ends} {σ : St} {H : Hp} (Pv : Nat → St → Hp → Prop) (h0 : Pv 0 σ H)
    (hs : ∀ i σ H, i < n → Pv i σ H → let D' : Ends := { D with nx := Pv (i + 1), ct := Pv (i + 1), bk := D.nx }; g (.int (lo + i)) σ H fun σ2 H2 => tb D' σ2 H2) (hd : ∀ σ H, Pv n σ H → D.nx σ H) :
    ∃ W : Nat → Nat → St → Hp → Prop, (∃ m, W 0 m σ H) ∧ ∀ i m σ H, W i m σ H →
      ((Itr lo n).stop i H ∧ D.nx σ H) ∨ ((Itr lo n).go i H ∧ ∃ N : St → Hp → Prop, (∀ σ' H', N σ' H' → ∃ m', m' < m ∧ W (i + 1) m' σ' H') ∧ ∀ x H', (Itr lo n).yld i H x H' → g x σ H' fun σ2 H2 => tb { D with nx := N, ct := N, bk := D.nx } σ2 H2) := j9k Pv h0 hs hd
theorem jao {c : TT} {tb : TS} {D : Ends} {σ : St} {H : Hp} (Pv : St → Hp → Prop) (μ : St → Hp → Nat) (h0 : Pv σ H)
    (hs : ∀ σ H, Pv σ H → let D' : Ends := { D with nx := fun σ' H' => Pv σ' H' ∧ μ σ' H' < μ σ H, ct := fun σ' H' => Pv σ' H' ∧ μ σ' H' < μ σ H, bk := D.nx }; c σ H fun b H1 => if b = true then tb D' σ H1 else D.nx σ H1)
    (mono : ∀ σ H Q Q', (∀ b H1, Q b H1 → Q' b H1) → c σ H Q → c σ H Q') : j9h c tb D σ H := while_by Pv μ h0 hs mono
end L2
end
noncomputable section
namespace L3
open PySem PySem.Spec PyProof.Rows L2
theorem _root_.L2.Inv.adopt {X : Cx} {pins : List (Addr × Obj)} {σ : L2.St} {H : Hp} {s : Shared} {a : Addr} {o : HO} (I : Inv X pins σ H s) (hn : H a = none) (h1 : X.s₀.heap.objs.size ≤ a) (hL : a ≠ X.env.locals)
    (h2 : ∀ x c, X.env.cells.lookup x = some c → c ≠ a) (h3 : ∀ p ∈ X.pn ++ pins, p.1 ≠ a) (new : j1z X.prog X.w (upd H a o) s.heap a o) : Inv X pins σ (upd H a o) s := by
  have z := I.step (H' := upd H a o) (h' := s.heap) (g' := s.gens) (t' := s.toks) (d' := s.drawn) (ch := [a]) (fun b hb => by have e : b = a := by simpa using hb
                                                                                                                              subst e; exact (xe1fa (.inr h1) hL h2 h3))
    (fun b o _ _ _ e _ => e) (fun b o _ _ _ e _ => ⟨o.slots, e⟩) (fun b u hc e n => by rw [j0a (fun z => hc (by simp [z]))]; exact n) (fun b o _ e => ⟨o, e⟩)
    (fun b xs e => by rw [j0a (j0d e hn)]; exact e) (fun b u xs e => by rw [j0a (j0d e hn)]; exact e) (fun b ps e => ⟨#[], by rw [j0a (j0d e hn), e]; simp⟩) (fun m hm => hm) (fun b u e => ?_) I.bare
  · exact z
  by_cases hb : b = a
  · subst hb; rw [j04] at e; cases e; exact new
  rw [j0a hb] at e
  exact (I.hok b u e).stay (fun c v _ q => q) (fun c q => by rw [j0a (j0d q hn)]; exact q) fun c xs q => by rw [j0a (j0d q hn)]; exact q
section
variable {X : Cx}
theorem pe_rng1 {a : Expr} {ta : TA} {p pos : Pos} (hg : Gl X "range") (hm : X.mg "range" = none) (ha : PA X [a] ta) (hs : starEach [a] X.env = [(false, eval a X.env)] := by rfl) :
    PE X (.Call (.Name "range" p) [a] [] pos) (fun σ H Q => ta σ H fun vs H1 => ∃ j : Int, vs = [.int j] ∧ -(2 ^ 62) ≤ j ∧ j < 2 ^ 62 ∧ ∀ r, H1 r = none → Q (.ref r) (upd H1 r (.rng 0 j))) := by
  intro pins s σ H Q I h
  refine Call_ (j2r I hg hm boot_range (PyProof.Rows.callWith_type1 (thn (ha pos pins s σ H _ I h) fun us s1 ⟨vs, H1, I1, r1, q1⟩ => ?_) hs rfl))
  obtain ⟨j, e, q1, q2, q⟩ := q1
  subst e
  obtain ⟨u', rfl, r⟩ := j2x r1
  obtain ⟨t, rfl⟩ := r
  refine call_range_1 ?_
  exact (xeb27 (.ref s1.heap.objs.size) _ (I1.laid (o := .rng 0 j) (fun b o e => Heap.get?_push_of_some _ e) (Nat.le_refl _) (xe8d9 _ _ _ (Heap.get?_push_size _ rfl))) rfl (q _ (I1.hok.fresh (Nat.le_refl _))))
end
noncomputable def cxLm (X : Cx) (A : Around) (env : Env) (N : List Str) (s : Shared) (H : Hp) (pins : List (Addr × Obj)) : Cx :=
  { X with A := A.deeper env, N := N, s₀ := s, H₀ := H, env := env, outer := X.stack, stack := env :: X.stack, ex := [], fn := fun _ => false, calm := true, pn := X.pn ++ pins, xe := fun _ _ => False }
structure LamSc (scope : Scope) (y x : Str) : Prop where
  kind : scope.kind = .function
  co : scope.isCoroutine = false
  gen : scope.isGenerator = false
  cell : ∀ z ∈ scope.names, z.2 ≠ .cell
  ly : scope.names.lookup y = some .local
  lx : scope.names.lookup x = some .free
  fr : ∀ z ∈ scope.names, z.2 = .free → z.1 = x
theorem j3r {x z : Str} {c d : Addr} (h : [(x, c)].lookup z = some d) : z = x ∧ d = c := by
  rw [j0j] at h
  split at h
  · exact ⟨by assumption, (Option.some.inj h).symm⟩
  cases h
theorem lam_call {X : Cx} {A : Around} {pins : List (Addr × Obj)} {σ : L2.St} {H : Hp} {s : Shared} {f c' cx : Addr} {ix : Nat} {name qual x y : Str} {params : Arguments} {body : Expr} {scope : Scope} {pm ctv u : Value} {v w' : V} {k : Int} {te : TE}
    (I : Inv X pins σ H s) (hA : A.frames = X.A.frames) (hh : A.handled = none) (hroom : A.depth < recursionLimit) (S : LamSc scope y x)
    (hx : X.env.cells.lookup x = some cx) (hN : X.N[ix]? = some x) (hσ : σ[ix]? = some (some w')) (kx : X.env.kindOf x = some .cell)
    (hf : s.heap.get? f = some (PySem.W.kla_obj name qual params body scope [(x, cx)] pm c' ctv)) (hcd : s.heap.CodeRec (.ref c') qual)
    (hb : bindArgs (PySem.W.kla_fn name qual params body scope [(x, cx)] pm (.ref c') ctv) ⟨[u], []⟩ = pure [(y, u)]) (r : RelV v u)
    (he : PE (cxLm X A (PySem.W.envX qual scope s.heap.objs.size f (.ref c') [(x, cx)]) [y, x] s H pins) body te)
    (ht : te [some v, some w'] H fun z H' => z = .int k ∧ H' = H) :
    wpAny (model X.prog X.w) A (call (.ref f) [u]) (fun z s' => ∃ t, z = .int k t ∧ Inv X pins σ H s') (fun _ _ => False) s := by
  obtain ⟨m, hn, hl⟩ := id I.loc
  obtain ⟨uw, rw', lw⟩ := hl ix x w' hN hσ (.inr (.inl kx))
  have cellAt : s.heap.IsCell cx (some uw) := by
    rcases lw with ⟨z, _⟩ | ⟨_, c, e, z⟩
    · rw [kx] at z; cases z
    rw [hx] at e; cases e; exact z
  refine wpAny_call (codeAny_mono (R := fun r s' => ∃ t, r = .ok (.ret (.int k t)) ∧ Inv X pins σ H s') (PySem.W.kla_callFunE hroom hf rfl S.co S.gen rfl hcd ?_) fun r s' hq => ?_)
  · rw [hb]
    refine wpAny_pure (wpAny_newFunctionEnv S.cell (fun z hz => ?_) (fun h₁ hns hsb => ⟨I.nolimit.fresh _ hsb, ?_⟩) S.kind)
    · have e : z = (y, u) := by simpa using hz
      rw [e]; exact S.ly
    show codeAny _ _ (.expr body (PySem.W.envX qual scope s.heap.objs.size f (.ref c') [(x, cx)])) _ _
    have old : ∀ b o, s.heap.get? b = some o → h₁.get? b = some o := fun b o e => hsb.extBut b o (Nat.ne_of_lt (Heap.lt_size e)) (Heap.get?_push_of_some _ e)
    have J : Inv (cxLm X A (PySem.W.envX qual scope s.heap.objs.size f (.ref c') [(x, cx)]) [y, x] s H pins) [] [some v, some w'] H { s with heap := h₁, toks := s.toks + [(y, u)].length } := by
      refine ⟨⟨I.ok.mod, S.kind, rfl, rfl, Nat.le_refl _, fun a b c e1 e2 => ?_, fun z hz => ?_, (fun z c e => by cases e), fun _ => hh, Around.frames_deeper (hA.trans I.ok.frames), .inr ⟨rfl, rfl⟩, (fun b z => by cases z), I.bs, Nat.le_trans I.ok.bsz I.sz, (fun b o _ z => by cases z), (fun b z => by cases z), I.stack, I.stkFree⟩,
        rfl, I.bare, Un.kept old, (x9614 _ hns (fun i z vz e1 e2 e3 => ?_)), fun z c e => ?_, I.hok.fresh (Nat.le_refl _), fun z c e => ?_, fun p hp => ?_, I.hok.kept old, rfl⟩
      · rw [(j3r e1).1, (j3r e2).1]
      · have e : z = x := by
          rcases hz with hz | hz
          · exact absurd rfl (S.cell _ (PySem.mem_of_lookup hz))
          exact S.fr _ (PySem.mem_of_lookup hz) rfl
        exact ⟨cx, by show [(x, cx)].lookup z = some cx; rw [j0j, if_pos e]⟩
      · match i with
        | 0 =>
          cases e1; cases e2
          exact (x9614 u r (.inl ⟨S.ly, by simp⟩))
        | 1 =>
          cases e1; cases e2
          exact (x9614 uw rw' (.inr (x4c19 (.inr S.lx) cx (by show [(x, cx)].lookup x = some cx; rw [j0j, if_pos rfl]) (cellAt.keeps old))))
        | i + 2 => cases e2
      · rw [(j3r e).2]
        exact ⟨_, cellAt.keeps old⟩
      · rw [(j3r e).2]
        exact I.freeC x cx hx
      have hp' : p ∈ X.pn ++ pins := by
        have : p ∈ (X.pn ++ pins) ++ [] := hp
        simpa using this
      obtain ⟨a1, a2, a3, a4, a5⟩ := I.pin p hp'
      refine (x0988 (old _ _ a1) a2 (Nat.ne_of_lt (Heap.lt_size a1)) (fun z => ?_) a5)
      rcases List.mem_cons.mp (I.stkSub p.1 z) with w1 | w1
      · exact a3 w1
      exact a4 w1
    refine PySem.W.kla_codeExpr (wpAny_mono (he [] _ _ _ _ J ht) (fun z s' hz => ?_) fun _ _ e => e.elim)
    obtain ⟨vz, Hz, Jz, rz, e1, e2⟩ := hz
    subst e1; subst e2
    obtain ⟨t, rfl⟩ := rz
    exact (x9614 t rfl (I.call' (ch := []) Jz.os Jz.base Jz.hok Jz.bare fun b z => by cases z))
  obtain ⟨t, rfl, J⟩ := hq
  exact (x9614 t rfl J)
end L3
end
noncomputable section
namespace L3
open PySem PySem.Spec PyProof.Rows L2
section
variable {prog : Program} {w : World} {A : Around} {E : Value → Shared → Prop} {s : Shared}
theorem j8v {n : Nat} {acc : Array Value} (h : ItemsOf (fun i v => ∃ t, v = .int (0 + i * 1) t) acc n) : IntsAre acc.toList ((List.range n).map fun i : Nat => (i : Int)) := by
  have h1 := intsAre_map acc.toList fun v hv => by
    obtain ⟨i, hi, e⟩ := List.getElem_of_mem hv
    obtain ⟨t, z⟩ := h.2 i v (by rw [Array.getElem?_eq_getElem (by simpa using hi)]; simpa using e)
    exact (xa57b _ t z)
  have e : acc.toList.map numOf = (List.range n).map fun i : Nat => (i : Int) := by
    apply List.ext_getElem?
    intro i
    rw [List.getElem?_map, List.getElem?_map]
    by_cases hi : i < n
    · have hi' : i < acc.size := by rw [h.1]; exact hi
      obtain ⟨t, z⟩ := h.2 i acc[i] (Array.getElem?_eq_getElem hi')
      rw [List.getElem?_range hi, Array.getElem?_toList, Array.getElem?_eq_getElem hi', z]
      show some (0 + (i : Int) * 1) = some (i : Int)
      congr 1; exact o538a5
    rw [List.getElem?_eq_none_iff.mpr (by rw [Array.length_toList, h.1]; exact o6f490 hi), List.getElem?_eq_none_iff.mpr (by rw [List.length_range]; exact o6f490 hi)]
    rfl
  rw [← e]; exact h1
theorem j77 {r : Addr} {n : Nat} {t u v : Tok} {Q : List Value → Shared → Prop} (hh : A.handled = none) (hr : IsRange s.heap r 0 n 1 t u v) (hn : n ≤ 2 ^ 24)
    (fin : ∀ (h' : Heap) (tk : Nat) (vs : List Value), (∀ b o, s.heap.get? b = some o → h'.get? b = some o) → s.heap.objs.size ≤ h'.objs.size → IntsAre vs ((List.range n).map fun i : Nat => (i : Int)) → Q vs { s with heap := h', toks := tk }) :
    wpAny (model prog w) A (collect (.ref r)) Q E s := by
  have sz : Builtin.Range.rangeSize 0 n 1 = n := by rw [rangeSize_one]; split <;> omega
  have sm : Builtin.Range.small 0 n 1 = true := small_one (by omega) (by omega) (by omega) (by omega)
  have hS : (s.heap.push (seqObj "list" #[] 0)).get? s.heap.objs.size = some (seqObj "list" #[] 0) := Heap.get?_push_size _ rfl
  let R : Result → Shared → Prop := fun res s' => ∃ (h' : Heap) (tk : Nat) (acc : Array Value) (c : Nat), res = .ok (.ret (.ref s.heap.objs.size)) ∧ s' = { s with heap := h', toks := tk } ∧
    (∀ b o, s.heap.get? b = some o → h'.get? b = some o) ∧ h'.get? s.heap.objs.size = some { cls := .type "list", dict := none, data := .seq acc c, slots := #[] } ∧ ItemsOf (fun i v => ∃ t, v = .int (0 + i * 1) t) acc n
  have key : codeAny (model prog w) A (.builtin "proto.collect" ⟨[.ref r], []⟩) R s := by
    refine codeAny_builtin entry_proto_collect' ?_
    show wpAny _ _ (do again (.builtin "list.__iadd__" ⟨[← newList [], .ref r], []⟩)) _ _ s
    refine wpAny_bind (wpAny_newList (wpAny_pure ⟨Code.quiet_builtin _ (by decide +kernel), codeAny_builtin entry_list_iadd' ?_⟩))
    show wpAny _ _ (Builtin.List.listExtendWith (.ref s.heap.objs.size) (.ref r) (.ref s.heap.objs.size)) _ _ { s with heap := s.heap.push (seqObj "list" #[] 0) }
    rw [Around.under_plainId F.plain_list_iadd _]
    exact wpAny_extend_range (R := R) (s := { s with heap := s.heap.push (seqObj "list" #[] 0) }) hh (Heap.get?_push_of_some _ hr) sm sz hn s.heap.objs.size _ 0 hS fun h' tk acc c hk hS' hacc =>
      (x59b7 h' tk acc c rfl rfl (fun b o e => hk b o (Nat.ne_of_lt (Heap.lt_size e)) (Heap.get?_push_of_some _ e)) hS' hacc)
  unfold collect
  refine wpAny_bind (wpAny_runValue (codeAny_mono key fun res s' hR => ?_))
  obtain ⟨h', tk, acc, c, rfl, rfl, k, hS', hacc⟩ := hR
  dsimp only
  refine wpAny_bind (wpAny_load hS' ?_)
  exact wpAny_pure (fin h' tk _ k (Nat.le_of_lt (Heap.lt_size hS')) (j8v hacc))
theorem srtK_end {a kS : Addr} {e1 e : Nat} {keys : Array Value} {vs : List Value} {kz : List Int} {b : Bool} {P : PySem.Fin → Shared → Prop} (ho : s.heap.get? a = some (seqObj "list" #[] e1)) (hk : s.heap.get? kS = some (seqObj "list" keys e)) (hka : kS ≠ a)
    (hI : IntsAre keys.toList kz) (hlen : kz.length = vs.length) (hz : vs.length ≤ sizeLine)
    (fin : ∀ out : Array Value, KskOut b kz vs out.toList → P (.done (.ret .none)) { s with heap := (s.heap.update kS (Obj.mapSeq fun _ => #[])).update a (Obj.mapSeq fun _ => out) }) :
    wpAny (model prog w) A (ksk_end a b vs.toArray e1 (.ref kS) keys) P E s := by
  have ks : keys.size = vs.length := by
    have := hI.length
    rw [Array.length_toList] at this
    exact o73b8f hlen this
  have zs : (keys.zip vs.toArray).size = vs.length := by rw [Array.size_zip, ks, List.size_toArray, Nat.min_self]
  have tail : ∀ z : SortSt, (arrOf z).Perm (keys.zip vs.toArray) → failedOf z = none → SortedTo (arrOf z) (arrOf z).size → wpAny (model prog w) A (ksk_tail a b e1 (.ref kS) z) P E s := by
    intro z hp hf hs
    have lz : (arrOf z).size = vs.length := hp.size_eq.trans zs
    have lo : (if b = true then ((arrOf z).map (·.2)).reverse else (arrOf z).map (·.2)).size = vs.length := by
      cases b
      · exact (Array.size_map ..).trans lz
      rw [if_pos rfl, Array.size_reverse]; exact (Array.size_map ..).trans lz
    have oa : (s.heap.update kS (Obj.mapSeq fun _ => (#[] : Array Value))).get? a = some (seqObj "list" #[] e1) := ((Heap.SameBut.update s.heap kS _).2 a hka.symm).trans ho
    unfold ksk_tail
    refine wpAny_bind (listUpdate_at hk rfl ?_ (by rw [ks]; exact o12bb4 hz) (Nat.zero_le _))
    refine wpAny_bind (wpAny_letGo (wpAny_bind (seqEpoch_at oa rfl ?_)))
    refine wpAny_bind (listUpdate_at oa rfl ?_ (Nat.zero_le _) (by rw [lo]; exact o6129f hz))
    rw [hf]
    simp only [bne_self_eq_false, Bool.false_eq_true, if_false]
    exact wpAny_pure (fin _ (ksk_out hI hp hs))
  have start : (if b = true then (keys.zip vs.toArray).reverse else keys.zip vs.toArray).Perm (keys.zip vs.toArray) := by
    cases b
    · exact Array.Perm.refl _
    rw [if_pos rfl, Array.perm_iff_toList_perm, Array.toList_reverse]
    exact List.reverse_perm _
  have step : ∀ t : Sem PySem.Fin, wpAny (model prog w) A t P E s → wpAny (model prog w) A (if b = true then (do let _ ← rule "list.sort.reverse"; t) else t) P E s := fun t ht => by
    split
    · exact wpAny_bind (wpAny_rule ht)
    exact ht
  unfold ksk_end
  refine step _ ?_
  by_cases h2 : vs.toArray.size < 2
  · rw [if_pos h2, if_pos h2]
    refine wpAny_bind (wpAny_pure (wpAny_bind (m := pure ((), SortSt.mk' general' (if b = true then (keys.zip vs.toArray).reverse else keys.zip vs.toArray) #[] 7 none)) (wpAny_pure ?_)))
    refine tail (SortSt.mk' general' _ #[] 7 none) start rfl fun i j hij hj => ?_
    have hj' : j < (if b = true then (keys.zip vs.toArray).reverse else keys.zip vs.toArray).size := hj
    rw [start.size_eq, zs] at hj'
    rw [List.size_toArray] at h2
    rw [show i = j by exact o2ed12 h2 hij hj']
    exact Int.le_refl _
  rw [if_neg h2, if_neg h2]
  rw [List.size_toArray] at h2
  rw [ksk_kind hI (by exact o19dcc ks h2)]
  refine wpAny_bind (wpAny_pure ?_)
  have run := Srt.j41 (prog := prog) (w := w) (A := A) (E := E) (s := s) (a₀ := keys.zip vs.toArray) (st := SortSt.mk' oneType' (if b = true then (keys.zip vs.toArray).reverse else keys.zip vs.toArray) #[] 7 none)
    (Q := fun _ z => (arrOf z).Perm (keys.zip vs.toArray) ∧ failedOf z = none ∧ SortedTo (arrOf z) (keys.zip vs.toArray).size) (fun p hp => ksk_intKeys hI p hp) ⟨start, rfl, rfl⟩ rfl (by rw [zs]; exact o7c67e h2) fun z c1 c2 c3 => (x3b98 c1 c2 c3)
  refine wpAny_bind (wpAny_mono run ?_ fun _ _ e => e)
  rintro ⟨⟨⟩, z⟩ s' ⟨rfl, c1, c2, c3⟩
  exact tail z c1 c2 (by rw [c1.size_eq]; exact c3)
end
theorem j8w {n : Nat} {g : Nat → Int} {vs out : List Value} (hv : IntsAre vs ((List.range n).map fun i : Nat => (i : Int))) (ko : KskOut true ((List.range n).map g) vs out) :
    ∃ js : List Nat, js.Perm (List.range n) ∧ (js.map g).Pairwise (· ≥ ·) ∧ IntsAre out (js.map fun i : Nat => (i : Int)) := by
  obtain ⟨ps, hp, rfl, pw⟩ := ko
  have key : ∀ p ∈ ((List.range n).map g).zip vs, ∃ j t, p = (g j, Value.int ((j : Nat) : Int) t) := fun p hp => by
    obtain ⟨j, hj, e⟩ := List.getElem_of_mem hp
    rw [List.getElem_zip] at e
    have hj1 : j < n := by rw [List.length_zip, List.length_map, List.length_range] at hj; exact o167c2 hj
    have hj2 : j < vs.length := by rw [List.length_zip] at hj; exact ofa411 hj
    obtain ⟨t, z⟩ := hv.int_at j vs[j] (List.getElem?_eq_getElem hj2)
    refine (xa57b j t ?_)
    rw [← e, z]
    congr 1
    · rw [List.getElem_map, List.getElem_range]
    congr 1
    rw [List.getD_eq_getElem?_getD, List.getElem?_map, List.getElem?_range hj1]
    rfl
  have kp : ∀ p ∈ ps, ∃ j t, p = (g j, Value.int ((j : Nat) : Int) t) := fun p h => key p (hp.mem_iff.mp h)
  have nj : ∀ (j : Nat) (t : Tok), (numOf (Value.int (j : Int) t)).toNat = j := fun j t => by show ((j : Int)).toNat = j; exact of65d4
  refine (x0c0c (ps.map fun p => (numOf p.2).toNat) ?_ ?_ ?_)
  · refine (hp.map _).trans ?_
    have e : (((List.range n).map g).zip vs).map (fun p => (numOf p.2).toNat) = List.range n := by
      have lv := hv.length
      rw [List.length_map, List.length_range] at lv
      apply List.ext_getElem
      · rw [List.length_map, List.length_zip, List.length_map, List.length_range]; exact oc6eb4 lv
      intro j h1 h2
      rw [List.length_range] at h2
      obtain ⟨t, z⟩ := hv.int_at j (vs[j]'(by exact o18d53 lv h2)) (List.getElem?_eq_getElem (by exact o18d53 lv h2))
      rw [List.getElem_map, List.getElem_zip, List.getElem_range]
      dsimp only
      rw [z]
      show ((((List.range n).map fun i : Nat => (i : Int)).getD j 0)).toNat = j
      rw [List.getD_eq_getElem?_getD, List.getElem?_map, List.getElem?_range h2]
      show ((j : Int)).toNat = j
      exact of65d4
    rw [e]
  · rw [List.map_map]
    have e : ps.map (g ∘ fun p => (numOf p.2).toNat) = ps.map Prod.fst := List.map_congr_left fun p h => by
      obtain ⟨j, t, rfl⟩ := kp p h
      show g ((numOf (Value.int (j : Int) t)).toNat) = g j
      rw [nj]
    rw [e, List.pairwise_map]
    exact pw.imp fun h => h
  clear pw hp key
  induction ps with
  | nil => exact .nil
  | cons p r ih =>
    obtain ⟨j, t, rfl⟩ := kp p List.mem_cons_self
    show IntsAre (Value.int (j : Int) t :: _) ((((numOf (Value.int (j : Int) t)).toNat : Nat) : Int) :: _)
    rw [nj]
    exact .cons _ _ (ih fun q hq => kp q (List.mem_cons_of_mem _ hq))
end L3
end
noncomputable section
namespace L3
open PySem PySem.Spec PyProof.Rows L2
theorem j4o {a b : Addr} (h : @LT.lt Nat _ a b) : a ≠ b := Nat.ne_of_lt h
theorem ne_gt {a b : Addr} (h : @LT.lt Nat _ b a) : a ≠ b := Nat.ne_of_gt h
theorem j8x {X : Cx} {pins : List (Addr × Obj)} {σ : L2.St} {H : Hp} {s : Shared} {r f : Addr} {n : Nat} {g : Nat → Int} {Q : VK} (I : Inv X pins σ H s) (hc : X.A.handled = none) (hr : H r = some (.rng 0 n)) (hn : n ≤ 2 ^ 24)
    (turn : ∀ (pins' : List (Addr × Obj)) (s' : Shared) (i : Nat) (t : Tok), i < n → Inv X (pins ++ pins') σ H s' →
      wpAny (model X.prog X.w) X.A.in1.in1 (call (.ref f) [.int (i : Int) t]) (fun z s'' => ∃ t', z = .int (g i) t' ∧ Inv X (pins ++ pins') σ H s'') (fun _ _ => False) s')
    (q : ∀ (l : Addr) (js : List Nat), H l = none → js.Perm (List.range n) → (js.map g).Pairwise (· ≥ ·) → Q (.ref l) (upd H l (.lst (iV (js.map fun i : Nat => (i : Int)))))) :
    wpAny (model X.prog X.w) X.A (call (.builtin "sorted") [.ref r] [(Str.ofString "key", .ref f), (Str.ofString "reverse", .bool true)]) (EP X pins σ Q) X.xe s := by
  obtain ⟨t, u, v, er⟩ := I.hok r _ hr
  refine call_function_entry_kw kind_sorted plain_sorted entry_sorted (ksk_s2 _ _ _) ?_
  unfold Builtin.«sorted»
  refine wpAny_bind (m := checkCount "sorted" 1 1 _) (wpAny_pure (wpAny_bind (j77 hc er hn fun h1 tk1 vs k1 z1 hv => ?_)))
  have lv : vs.length = n := by
    have := hv.length
    rw [List.length_map, List.length_range] at this
    exact this
  have hz : vs.length ≤ sizeLine := by rw [lv, sizeLine_eq]; omega
  refine wpAny_bind (wpAny_newList ?_ (by exact o12bb4 hz))
  generalize hh2 : h1.push (seqObj "list" vs.toArray 0) = h2
  have lAt : h2.get? h1.objs.size = some (seqObj "list" vs.toArray 0) := by rw [← hh2]; exact Heap.get?_push_size _ rfl
  have sz2 : h2.objs.size = h1.objs.size + 1 := by rw [← hh2]; exact size_push' _ _
  generalize hl : h1.objs.size = l at *
  refine wpAny_bind (wpAny_holding (wpAny_call_entry_kw slot_list_sort (x9614 _ lAt rfl) entry_list_sort ?body (ksk_l2 _ _ _)))
  case body =>
  show wpAny (model X.prog X.w) X.A.in1.in1 (Builtin.«list.sort» ⟨[.ref l], _⟩) _ _ _
  rw [ksk_t2]
  obtain ⟨e1, o1, o2⟩ := Srt.j72 lAt
  unfold ksk_tree
  refine wpAny_bind (listItems_at lAt rfl (wpAny_bind (listUpdate_at lAt rfl ?_ (by simpa using hz) (by simp))))
  refine wpAny_bind (seqEpoch_at o1 rfl (wpAny_bind (wpAny_newTuple ?_ (by simpa using hz))))
  refine wpAny_bind (wpAny_newList (wpAny_holding ?_) (Nat.zero_le _))
  have ks : ((h2.update l (Obj.mapSeq fun _ => (#[] : Array Value))).push (seqObj "tuple" vs.toArray 0)).objs.size = l + 2 := by rw [size_push', Heap.size_update, sz2]
  have kAt : (Srt.midH h2 l vs).get? (l + 2) = some (seqObj "list" #[] 0) := by unfold Srt.midH; rw [← ks]; exact Heap.get?_push_size _ rfl
  have szs : s.heap.objs.size ≤ l := z1
  have kept : ∀ b o, s.heap.get? b = some o → (Srt.midH h2 l vs).get? b = some o := fun b o e => by
    have lt : @LT.lt Nat _ b s.heap.objs.size := Heap.lt_size e
    unfold Srt.midH
    refine Heap.get?_push_of_some _ (Heap.get?_push_of_some _ ?_)
    rw [Heap.get?_update_ne _ _ _ _ (j4o (by exact oc2d00 szs lt)), ← hh2]
    exact Heap.get?_push_of_some _ (k1 b o e)
  show wpAny (model X.prog X.w) X.A.in1.in1 (ksk_rest l (.ref f) true vs.toArray e1 (.ref ((h2.update l (Obj.mapSeq fun _ => (#[] : Array Value))).push (seqObj "tuple" vs.toArray 0)).objs.size)) _ _ { s with heap := Srt.midH h2 l vs, toks := tk1 }
  rw [ks]
  have s0 := I.sz
  have lloc : @LT.lt Nat _ X.env.locals s.heap.objs.size := I.lt
  have cl : ∀ x c, X.env.cells.lookup x = some c → @LT.lt Nat _ c s.heap.objs.size := fun x c e => by
    obtain ⟨_, z⟩ := I.cell x c e
    exact z.lt
  have pl : ∀ p ∈ X.pn ++ pins, @LT.lt Nat _ p.1 s.heap.objs.size := fun p hp => Heap.lt_size (I.pin p hp).1
  have Hl : H l = none := I.hok.fresh szs
  have Hk : H (l + 2) = none := I.hok.fresh (by exact o3b41e szs)
  have nfl : l ∉ X.fs := I.nofs szs
  have nfk : l + 2 ∉ X.fs := I.nofs (by exact o3b41e szs)
  have pin1 : ∀ {s' : Shared} {pp : List (Addr × Obj)} {kA : Array Value} {e : Nat}, Inv X pp σ H s' → (∀ p ∈ pins, p ∈ X.pn ++ pp) → s'.heap.get? l = some (seqObj "list" #[] e1) → s'.heap.get? (l + 2) = some (seqObj "list" kA e) →
      Inv X (pins ++ [(l, seqObj "list" #[] e1), (l + 2, seqObj "list" kA e)]) σ H s' := fun {s' pp kA e} J hpp g1 g2 => J.pins_of fun p hp => by
    rcases List.mem_append.mp hp with hp | hp
    · exact J.pin p (hpp p hp)
    rcases List.mem_cons.mp hp with rfl | hp
    · exact (x0988 g1 Hl (by show l ≠ _; exact o63fe8 szs lloc) nfl (fun v z => by cases z))
    have e2 : p = (l + 2, seqObj "list" kA e) := by simpa using hp
    subst e2
    exact (x0988 g2 Hk (by show l + 2 ≠ _; exact oe110a szs lloc) nfk (fun v z => by cases z))
  have I2 : Inv X pins σ H { s with heap := Srt.midH h2 l vs, toks := tk1 } := I.kept kept
  have turnd : ∀ {s' : Shared} {kA : Array Value} {e : Nat} (ff : Array Value → Array Value), Inv X (pins ++ [(l, seqObj "list" #[] e1), (l + 2, seqObj "list" kA e)]) σ H s' → Inv X (pins ++ [(l, seqObj "list" #[] e1)]) σ H { s' with heap := s'.heap.update (l + 2) (Obj.mapSeq ff) } := fun {s' kA e} ff J => by
    have J0 : Inv X (pins ++ [(l, seqObj "list" #[] e1)]) σ H s' := J.pins_of fun p hp => J.pin p (List.mem_append_right _ (by
      rcases List.mem_append.mp hp with hp | hp
      · exact List.mem_append_left _ hp
      exact List.mem_append_right _ (by simp at hp; simp [hp])))
    refine J0.turned (t' := s'.toks) (it := l + 2) (fun b o hb e => (Heap.get?_update_ne _ _ _ _ hb).trans e) Hk (ne_gt (by exact o02d9d szs lloc)) (.inr (by show @LE.le Nat _ _ _; exact ob8244 szs s0)) (fun x c e => j4o (by have := cl x c e; exact o02d9d szs this)) fun p hp => ?_
    rcases List.mem_append.mp hp with hp | hp
    · exact j4o (by have := pl p (List.mem_append_left _ hp); exact o02d9d szs this)
    rcases List.mem_append.mp hp with hp | hp
    · exact j4o (by have := pl p (List.mem_append_right _ hp); exact o02d9d szs this)
    have : p = (l, seqObj "list" #[] e1) := by simpa using hp
    rw [this]; exact j4o (a := l) (b := l + 2) (by exact o1dac9)
  unfold ksk_rest
  refine wpAny_bind (wpAny_rule ?_)
  rw [List.forIn_toArray]
  refine wpAny_bind (ksk_fold (fun i s' => ∃ kA e, Inv X (pins ++ [(l, seqObj "list" #[] e1), (l + 2, seqObj "list" kA e)]) σ H s' ∧ IntsAre kA.toList ((List.range i).map g)) vs 0 _
    (x90aa (#[]) 0 (pin1 I2 (fun p hp => List.mem_append_right _ hp) o2 kAt) (.nil)) ?step ?done)
  case step =>
    rintro j x s' hx ⟨kA, e, J, hk⟩
    rw [Nat.zero_add] at hk ⊢
    have hj : j < n := by rw [← lv]; exact (List.getElem?_eq_some_iff.mp hx).1
    obtain ⟨tj, ej⟩ := hv.int_at j x hx
    have ej2 : ((List.range n).map fun i : Nat => (i : Int)).getD j 0 = (j : Int) := by rw [List.getD_eq_getElem?_getD, List.getElem?_map, List.getElem?_range hj]; rfl
    rw [ej2] at ej
    subst ej
    have kl : kA.size = j := by
      have := hk.length
      rw [Array.length_toList, List.length_map, List.length_range] at this
      exact this
    refine wpAny_bind (wpAny_attempt (wpAny_mono (turn _ s' j tj hj J) (fun z s'' hz2 => ?_) fun _ _ e => e.elim))
    obtain ⟨t', rfl, J2⟩ := hz2
    dsimp only
    have gk := (J2.pin (l + 2, seqObj "list" kA e) (by simp)).1
    have gl := (J2.pin (l, seqObj "list" #[] e1) (by simp)).1
    refine wpAny_bind (listUpdate_at gk rfl ?_ (by rw [sizeLine_eq]; omega) (by rw [Array.size_push, sizeLine_eq]; omega))
    refine wpAny_pure (xbaae rfl (kA.push (.int (g j) t')) _ (pin1 (turnd (fun a => a.push (.int (g j) t')) J2) (fun p hp => List.mem_append_right _ (List.mem_append_left _ hp)) ((Heap.get?_update_ne _ _ _ _ (j4o (a := l) (b := l + 2) (by exact o1dac9))).trans gl) (get?_update_seq gk _)) ?_)
    rw [List.range_succ, List.map_append, Array.toList_push]
    exact ksk_snoc hk
  case done =>
    rintro s' ⟨kA, e, J, hk⟩
    rw [Nat.zero_add, lv] at hk
    have gk := (J.pin (l + 2, seqObj "list" kA e) (by simp)).1
    have gl := (J.pin (l, seqObj "list" #[] e1) (by simp)).1
    refine wpAny_bind (listItems_at gk rfl ?_)
    refine srtK_end gl gk (ne_gt (a := l + 2) (b := l) (by exact o1dac9)) hk (by rw [List.length_map, List.length_range]; exact o1a5ea lv) hz fun out ko => (x9614 _ rfl (wpAny_pure (x9614 _ rfl ?_)))
    obtain ⟨js, p1, p2, p3⟩ := j8w hv ko
    have lo : out.size = n := by
      have := p3.length
      rw [Array.length_toList, List.length_map, p1.length_eq, List.length_range] at this
      exact this
    have J1 : Inv X pins σ H { s' with heap := s'.heap.update (l + 2) (Obj.mapSeq fun _ => #[]) } := (turnd (fun _ => #[]) J).pins_of fun p hp => (turnd (fun _ => #[]) J).pin p (List.mem_append_right _ (List.mem_append_left _ hp))
    have pp : ∀ p ∈ X.pn ++ pins, p.1 ≠ l := fun p hp => j4o (by have := pl p hp; exact oc2d00 szs this)
    have J2 : Inv X pins σ H { s' with heap := (s'.heap.update (l + 2) (Obj.mapSeq fun _ => #[])).update l (Obj.mapSeq fun _ => out) } := J1.turned (s := { s' with heap := s'.heap.update (l + 2) (Obj.mapSeq fun _ => #[]) }) (t' := s'.toks) (it := l) (fun b o hb e => (Heap.get?_update_ne _ _ _ _ hb).trans e) Hl (ne_gt (by exact oc2d00 szs lloc)) (.inr (by show @LE.le Nat _ _ _; exact o7feec szs s0)) (fun x c e => j4o (by have := cl x c e; exact oc2d00 szs this)) pp
    have fl : ((s'.heap.update (l + 2) (Obj.mapSeq fun _ => (#[] : Array Value))).update l (Obj.mapSeq fun _ => out)).get? l = some (seqObj "list" out _) := get?_update_seq ((Heap.get?_update_ne _ _ _ _ (j4o (a := l) (b := l + 2) (by exact o1dac9))).trans gl) _
    refine (xeb27 (.ref l) _ (J2.adopt (o := .lst (iV (js.map fun i : Nat => (i : Int)))) Hl (by show @LE.le Nat _ _ _; exact o7feec szs s0) (ne_gt (by exact oc2d00 szs lloc)) (fun x c e => j4o (by have := cl x c e; exact oc2d00 szs this)) pp (xbaae ?_ out.toList _ (j23 p3) (by simpa using fl))) rfl (q l js Hl p1 p2))
    rw [j0e, List.length_map, p1.length_eq, List.length_range, sizeLine_eq]; omega
end L3
end
noncomputable section
namespace L3
open PySem PySem.Spec PyProof.Rows L2
noncomputable def TbOk (P : Addr) (pos : Pos) (qual : Str) (H : Hp) : Prop :=
  H P = some (.tbl #[]) ∨ ∃ (c' : Addr) (oc : Obj) (vs : Array Value) (t : Tok), H P = some (.tbl #[rawInt pos.line, rawInt pos.col, .ref c']) ∧ H c' = some (.frz oc (.own c')) ∧ oc.data = .fields vs ∧ vs[1]? = some (.str qual t)
noncomputable def j15 (P : Addr) (H H' : Hp) : Prop := ∀ b o, b ≠ P → H b = some o → H' b = some o
noncomputable def CdAt (c' : Addr) (qual : Str) (H : Hp) : Prop := ∃ (oc : Obj) (vs : Array Value) (t : Tok), H c' = some (.frz oc (.own c')) ∧ oc.data = .fields vs ∧ vs[1]? = some (.str qual t)
theorem CdAt.rec {c' : Addr} {qual : Str} {H : Hp} {P : Program} {w : World} {h : Heap} (x : CdAt c' qual H) (ok : HOk P w H h) : h.CodeRec (.ref c') qual := by
  obtain ⟨oc, vs, t, e, d, z⟩ := x
  exact (x6f71 c' oc vs t rfl ((ok c' _ e).1) d z)
noncomputable def tLam (P : Addr) (pos : Pos) (qual : Str) (params : Arguments) (body : Expr) (scope : Scope) (x : Str) (cx : Addr) (pm : Value) : TE := fun _ H Q => TbOk P pos qual H ∧ ∀ f c' ctv H2, j15 P H H2 → TbOk P pos qual H2 → H2 f = none → CdAt c' qual H2 →
  Q (.ref f) (upd H2 f (.ext fun h => h.get? f = some (PySem.W.kla_obj "<lambda>" qual params body scope [(x, cx)] pm c' ctv)))
theorem pe_lam {X : Cx} {P c cx : Addr} {x qual : Str} {params : Arguments} {body : Expr} {scope : Scope} {pos : Pos} (hq : X.env.qual ++ "<lambda>" = qual) (hcode : X.env.code = .ref c) (C : PySem.W.CodeHd X.base c P) (hbm : X.base.BuiltinsAt X.mg P)
    (hcl : closureFor scope X.env = pure [(x, cx)]) (hdef : defaultsOf params X.env = ([], [])) : PE X (.Lambda params body scope pos) (tLam P pos qual params body scope x cx ((X.mg "__name__").getD .none)) := by
  intro pins s σ H Q I ⟨tb, q⟩
  subst hq
  have hg : s.heap.Ns mainGlobals X.mg := I.ok.mod.glob.keeps I.bk
  have C' := C.keeps I.bk
  have B' := hbm.keeps I.bk
  have fin : ∀ (H2 : Hp) (h' : Heap) (tk : Nat) (c' : Addr) (ctv : Value), Inv X pins σ H2 { s with heap := h', toks := tk } → j15 P H H2 → TbOk P pos (X.env.qual ++ "<lambda>") H2 → CdAt c' (X.env.qual ++ "<lambda>") H2 →
      EP X pins σ Q (.ref h'.objs.size) { s with heap := h'.push (PySem.W.kla_obj "<lambda>" (X.env.qual ++ "<lambda>") params body scope [(x, cx)] ((X.mg "__name__").getD .none) c' ctv), toks := tk } := fun H2 h' tk c' ctv J s2 t2 cd => by
    have hf : H2 h'.objs.size = none := J.hok.fresh (Nat.le_refl _)
    refine (xeb27 (.ref h'.objs.size) _ (J.laid (t' := tk) (fun b o e => Heap.get?_push_of_some _ e) (Nat.le_refl _) (o := .ext fun h => h.get? h'.objs.size = some (PySem.W.kla_obj "<lambda>" (X.env.qual ++ "<lambda>") params body scope [(x, cx)] ((X.mg "__name__").getD .none) c' ctv)) (x3b98 (Heap.get?_push_size _ rfl) ⟨_, Heap.get?_push_size _ rfl⟩ (fun h1 h2 e k => k _ e))) rfl (q _ c' ctv H2 s2 t2 hf cd))
  refine PySem.W.kla_eval hdef ?_
  rcases tb with tb | ⟨c', oc, vs, t, tb, hc, hd, hv⟩
  · have gP : mainGlobals ≠ P := fun z => by
      obtain ⟨o, _, _, e, _⟩ := I.ok.mod.glob
      have := (I.bs _ _ e).2
      rw [z, tb] at this; cases this
    have oP : s.heap.get? P = some (PySem.W.tabObj #[]) := I.hok P _ tb
    refine PySem.W.kla_makeFunction hcl I.ok.glob hg hcode C' oP trivial rfl gP B' fun c' ctv h' tk hx hge hlt hrec htb => ?_
    obtain ⟨c2, oc, vs, t, ec, hoc, hd, hv⟩ := hrec
    cases ec
    have cP : c' ≠ P := fun z => absurd (Heap.lt_size oP) (Nat.not_lt.mpr (by rw [← z]; exact hge))
    have Hc : H c' = none := I.hok.fresh hge
    have nP : ∀ b, H b = none → b ≠ P := fun b e z => by rw [z, tb] at e; cases e
    have nC : ∀ b o, s.heap.get? b = some o → b ≠ c' := fun b o e => Nat.ne_of_lt (Nat.lt_of_lt_of_le (Heap.lt_size e) hge)
    have hsC : ∀ b o, H b = some o → b ≠ c' := fun b o e z => by rw [z, Hc] at e; cases e
    let H2 : Hp := upd (upd H c' (.frz oc (.own c'))) P (.tbl #[rawInt pos.line, rawInt pos.col, .ref c'])
    have at2 : ∀ b, b ≠ P → b ≠ c' → H2 b = H b := fun b h1 h2 => by
      show upd _ P _ b = _
      rw [j0a h1, j0a h2]
    have atP : H2 P = some (.tbl #[rawInt pos.line, rawInt pos.col, .ref c']) := j04
    have atC : H2 c' = some (.frz oc (.own c')) := by
      show upd _ P _ c' = _
      rw [j0a cP, j04]
    have J : Inv X pins σ H2 { s with heap := h', toks := tk } := by
      refine I.un ⟨fun b o e n hb hz => hx b o (nP b n) e, fun b o e n hb hz => ⟨o.slots, hx b o (nP b n) e⟩, fun b o e n hz => (at2 b (nP b n) (nC b o e)).trans n, fun b o e hz => ?_, fun b xs e => ?_, fun b u xs e => ?_, fun b ps e => ?_⟩ fun b u e => ?_
      · by_cases z : b = P
        · exact ⟨_, by rw [z]; exact htb⟩
        exact ⟨o, hx b o z e⟩
      · rw [at2 b (fun z => by rw [z, tb] at e; cases e) (hsC b _ e)]; exact e
      · rw [at2 b (fun z => by rw [z, tb] at e; cases e) (hsC b _ e)]; exact e
      · by_cases z : b = P
        · subst z
          rw [tb] at e
          cases e
          exact ⟨#[rawInt pos.line, rawInt pos.col, .ref c'], by rw [atP]; rfl⟩
        exact ⟨#[], by rw [at2 b z (hsC b _ e), e]; simp⟩
      by_cases z : b = P
      · subst z
        rw [atP] at e
        cases e
        exact htb
      by_cases z2 : b = c'
      · subst z2
        rw [atC] at e
        cases e
        exact (xea8a hoc oc hoc)
      rw [at2 b z z2] at e
      refine (I.hok b u e).stay (fun d v hdv r => hx d v ?_ r) (fun d r => ?_) fun d xs r => ?_
      · rcases hdv with y | y
        · rw [y]; exact z
        intro y2; rw [y2, tb] at y; cases y
      · rw [at2 d (fun y => by rw [y, tb] at r; cases r) (hsC d _ r)]; exact r
      rw [at2 d (fun y => by rw [y, tb] at r; cases r) (hsC d _ r)]; exact r
    refine fin H2 h' tk c' ctv J (fun b o hb e => ?_) (.inr (x6f71 c' oc vs t atP atC hd hv)) (x0c51 oc vs t atC hd hv)
    rw [at2 b hb (hsC b o e)]; exact e
  have oP : s.heap.get? P = some (PySem.W.tabObj #[rawInt pos.line, rawInt pos.col, .ref c']) := I.hok P _ tb
  refine PySem.W.kla_makeFunctionHit (cv := .ref c') hcl I.ok.glob hg hcode C' oP ?_ ?_ B' fun ctv h' tk k z => ?_
  · simp [TriplesOk, rawInt]
  · simp [codeAmong, rawInt]
  exact fin H h' tk c' ctv (I.kept k) (fun b o _ e => e) (.inr (x6f71 c' oc vs t tb hc hd hv)) (x0c51 oc vs t hc hd hv)
theorem j8y {X : Cx} {P c cx : Addr} {x y qual : Str} {params : Arguments} {body e : Expr} {scope : Scope} {lp p p2 p3 p4 pos : Pos} {j ix : Nat} {t : TA} {te : TE} (hg : Gl X "sorted") (hm : X.mg "sorted" = none) (ha : PA X [e] t)
    (hh : X.A.handled = none) (hroom : X.A.depth < recursionLimit) (S : LamSc scope y x) (hx : X.env.cells.lookup x = some cx) (hN : X.N[ix]? = some x) (kx : X.env.kindOf x = some .cell)
    (hq : X.env.qual ++ "<lambda>" = qual) (hcode : X.env.code = .ref c) (C : PySem.W.CodeHd X.base c P) (hbm : X.base.BuiltinsAt X.mg P) (hcl : closureFor scope X.env = pure [(x, cx)]) (hdef : defaultsOf params X.env = ([], []))
    (hb : ∀ u pm c' ctv, bindArgs (PySem.W.kla_fn "<lambda>" qual params body scope [(x, cx)] pm (.ref c') ctv) ⟨[u], []⟩ = pure [(y, u)])
    (hbody : ∀ A L f c' s H pins, PE (cxLm X A (PySem.W.envX qual scope L f (.ref c') [(x, cx)]) [y, x] s H pins) body te) (he : starEach [e] X.env = [(false, eval e X.env)] := by rfl) :
    PE X (.Call (.Name "sorted" p) [e] [⟨some "key", .Lambda params body scope lp, p2⟩, ⟨some "reverse", .Constant (.bool true) j p3, p4⟩] pos)
      (fun σ H Q => t σ H fun vs H1 => ∃ (r : Addr) (n : Nat) (w' : V) (g : Nat → Int), vs = [.ref r] ∧ H1 r = some (.rng 0 n) ∧ n ≤ 2 ^ 24 ∧ σ[ix]? = some (some w') ∧ TbOk P lp qual H1 ∧
        (∀ i H2, i < n → j15 P H1 H2 → te [some (.int (i : Int)), some w'] H2 fun z H' => z = .int (g i) ∧ H' = H2) ∧
        ∀ (l : Addr) (js : List Nat) (H2 : Hp), j15 P H1 H2 → TbOk P lp qual H2 → H2 l = none → js.Perm (List.range n) → (js.map g).Pairwise (· ≥ ·) → Q (.ref l) (upd H2 l (.lst (iV (js.map fun i : Nat => (i : Int)))))) := by
  intro pins s σ H Q I h
  refine wpAny_Call_Name_kw (j2r I hg hm boot_sorted ?_ (by decide) (by decide))
  refine callWith_kw (thn (ha pos pins s σ H _ I h) fun us s1 ⟨vs, H1, I1, r, q⟩ => ?_) (by rw [he]; rfl) (by rw [he]; rfl)
  obtain ⟨ra, n, w', g, rfl, hr, hn, hσ, tb, ht, q⟩ := q
  have hk : PK X [⟨some "key", .Lambda params body scope lp, p2⟩, ⟨some "reverse", .Constant (.bool true) j p3, p4⟩] (j6u (tLam P lp qual params body scope x cx ((X.mg "__name__").getD .none)) (j6u (tC (.bl true)) tNil)) := j6v (pe_lam hq hcode C hbm hcl hdef) (j6v j50 pk_nil)
  refine thn (hk pos pins s1 σ H1 (fun zs H3 => ∃ f c' ctv H2, zs = [.ref f, .bl true] ∧ j15 P H1 H2 ∧ TbOk P lp qual H2 ∧ H2 f = none ∧ CdAt c' qual H2 ∧ H3 = upd H2 f (.ext fun h => h.get? f = some (PySem.W.kla_obj "<lambda>" qual params body scope [(x, cx)] ((X.mg "__name__").getD .none) c' ctv))) I1
    ⟨tb, fun f c' ctv H2 a1 a2 a3 a4 => (x3cc4 f c' ctv H2 rfl a1 a2 a3 a4 rfl)⟩) fun ws s2 ⟨zs, H3, I3, rz, f, c', ctv, H2, ez, a1, a2, a3, a4, eH⟩ => ?_
  subst ez
  obtain ⟨u, rfl, rx⟩ := j2x r
  cases rx
  have ew : ws = [.ref f, .bool true] := by
    cases rz with
    | cons r1 rr =>
      obtain ⟨u2, rfl, r2⟩ := j2x rr
      cases r1; cases r2; rfl
  subst ew
  show wpAny _ _ (call (.builtin "sorted") [.ref ra] [(Str.ofString "key", .ref f), (Str.ofString "reverse", .bool true)]) _ _ _
  have P3 : ∀ b o, b ≠ P → H1 b = some o → H3 b = some o := fun b o hb e => by
    rw [eH, j0a (j0d (a1 b o hb e) a3)]; exact a1 b o hb e
  have rP : ra ≠ P := fun z => by
    rcases tb with tb | ⟨_, _, _, _, tb, _⟩
    · rw [z, tb] at hr; cases hr
    rw [z, tb] at hr; cases hr
  have t3 : TbOk P lp qual H3 := by
    rw [eH]
    rcases a2 with z | ⟨d1, d2, d3, d4, z1, z2, z3, z4⟩
    · exact .inl (by rw [j0a (j0d z a3)]; exact z)
    exact .inr (x6f71 d1 d2 d3 d4 (by rw [j0a (j0d z1 a3)]; exact z1) (by rw [j0a (j0d z2 a3)]; exact z2) z3 z4)
  have c3 : CdAt c' qual H3 := by
    obtain ⟨oc, vs, t, e, d⟩ := a4
    exact (x8f53 oc vs t (by rw [eH, j0a (j0d e a3)]; exact e) d)
  have f3 : H3 f = some (.ext fun h => h.get? f = some (PySem.W.kla_obj "<lambda>" qual params body scope [(x, cx)] ((X.mg "__name__").getD .none) c' ctv)) := by rw [eH, j04]
  refine j8x I3 hh (P3 ra _ rP hr) hn (g := g) (fun pins' s' i ti hi J => ?_) fun l js hl p1 p2 => q l js H3 P3 t3 hl p1 p2
  exact lam_call (v := .int (i : Int)) J rfl hh hroom S hx hN hσ kx (J.hok f _ f3).1 (c3.rec J.hok) (hb _ _ _ _) ⟨ti, rfl⟩ (hbody _ _ _ _ _ _ _) (ht i H3 hi P3)
end L3
end
noncomputable section
namespace L3
open PySem PySem.Spec PyProof.Rows L2
theorem _root_.L2.Inv.turnedL {X : Cx} {pins : List (Addr × Obj)} {σ : L2.St} {H : Hp} {s : Shared} {h' : Heap} {t' : Nat} {ch : List Addr} (I : Inv X pins σ H s) (hf : ∀ b ∈ ch, FpOk X pins H b) (k : ∀ b o, b ∉ ch → s.heap.get? b = some o → h'.get? b = some o) :
    Inv X pins σ H { s with heap := h', toks := t' } := by
  have nch : ∀ b u, H b = some u → b ∉ ch := fun b u e z => by rw [(hf b z).1] at e; cases e
  refine I.step (g' := s.gens) (d' := s.drawn) (ch := ch) (fun b hb => (xe1fa ((hf b hb).2.2.2.1) ((hf b hb).2.1) ((hf b hb).2.2.2.2.1) ((hf b hb).2.2.2.2.2))) (fun b o _ _ hc e _ => k b o hc e) (fun b o _ _ hc e _ => ⟨o.slots, k b o hc e⟩) (fun _ _ _ _ n => n)
    (fun b o hc e => ⟨o, k b o hc e⟩) (fun _ _ e => e) (fun _ _ _ e => e) (fun b ps e => ⟨#[], by rw [e]; simp⟩) (fun m hm => ?_) (fun b u e => ?_) I.bare
  · obtain ⟨o, es, ep, ho, r⟩ := hm
    exact (x8f53 o es ep (k _ o (fun z => (hf _ z).2.1 rfl) ho) r)
  refine (I.hok b u e).stay (fun c v hc q => k c v ?_ q) (fun _ q => q) fun _ _ q => q
  rcases hc with z | z
  · rw [z]; exact nch b u e
  exact nch c _ z
noncomputable def Itz (K : PySem.W.Frag) (a b : Addr) : It :=
  ⟨fun i H => ∃ xs ys x y, SqL K H a xs ∧ SqL K H b ys ∧ xs[i]? = some x ∧ ys[i]? = some y,
   fun i H v H' => ∃ T x y, v = .ref T ∧ H T = none ∧ H' = upd H T (.tup [x, y]) ∧ (∀ xs, SqL K H a xs → xs[i]? = some x) ∧ ∀ ys, SqL K H b ys → ys[i]? = some y,
   fun i H => ∃ xs ys, SqL K H a xs ∧ SqL K H b ys ∧ (xs.length ≤ i ∨ ys.length ≤ i)⟩
theorem turn_zip {P : Program} {w : World} {K : PySem.W.Frag} {elts : List Expr} {x1 : Nat} {tp : Pos} (a b z TI TO i1 i2 : Addr) (D : ZipApart z TI TO i1 i2 a b) : Turn P w K (.Tuple elts x1 tp) (Itz K a b) [z, TI, TO, i1, i2] z
    (fun i h => IsZip h z TI TO .none ∧ IsPair h TI (.ref i1) (.ref i2) ∧ (∃ u v, IsPair h TO u v) ∧ h.IsListIter i1 a i ∧ h.IsListIter i2 b i) where
  mem := by simp
  obj := fun i h ⟨h1, h2, ⟨_, _, h3⟩, ⟨o4, h4, _, d4⟩, ⟨o5, h5, _, d5⟩⟩ c hc => by
    simp only [List.mem_cons, List.not_mem_nil, or_false] at hc
    rcases hc with rfl | rfl | rfl | rfl | rfl
    · exact (x9614 _ h1 (fun v z => by cases z))
    · exact (x9614 _ h2 (fun v z => by cases z))
    · exact (x9614 _ h3 (fun v z => by cases z))
    · exact (x9614 o4 h4 (fun v z => by rw [d4] at z; cases z))
    exact (x9614 o5 h5 (fun v z => by rw [d5] at z; cases z))
  keep := fun i h h' ⟨h1, h2, ⟨u, v, h3⟩, h4, h5⟩ k => (x0988 (k z (by simp) _ h1) (k TI (by simp) _ h2) (xa57b u v (k TO (by simp) _ h3)) (h4.at fun o e => k i1 (by simp) o e) (h5.at fun o e => k i2 (by simp) o e))
  item := by
    intro X hP hw hK hc i pins s σ H E I hf st hg
    subst hP hw hK
    obtain ⟨h1, h2, ⟨u, v, h3⟩, h4, h5⟩ := st
    obtain ⟨xs, ys, x, y, qx, qy, ex, ey⟩ := hg
    obtain ⟨its, rv, p, hz⟩ := I.list qx
    obtain ⟨its2, rv2, p2, hz2⟩ := I.list qy
    obtain ⟨ux, hux, rx⟩ := rv.get ex
    obtain ⟨uy, huy, ry⟩ := rv2.get ey
    refine wpAny_pyNext_zip_item D h1 h2 h3 h4 h5 p.isList p2.isList (x := ux) (y := uy) (by simpa using hux) (by simpa using huy) fun h' g1 g2 g3 g4 g5 g6 k => ?_
    have zlt := Heap.lt_size h1
    refine (x9614 (.ref s.heap.objs.size) rfl (wpAny_letOwnedTupleGo_zip (s := { s with heap := h' }) g1 fun h2' g1' sb => ?_))
    have zn : s.heap.objs.size ≠ z := Nat.ne_of_gt zlt
    have I1 : Inv X pins σ H { s with heap := h2' } := I.turnedL (t' := s.toks) (ch := [z, TI, TO, i1, i2]) hf fun c o hcn e => by
      simp only [List.mem_cons, List.not_mem_nil, or_false, not_or] at hcn
      exact (sb.2 c hcn.1).trans (k c o hcn.1 hcn.2.2.1 hcn.2.2.2.1 hcn.2.2.2.2 e)
    have Hn : H s.heap.objs.size = none := I.hok.fresh (Nat.le_refl _)
    have tAt : h2'.get? s.heap.objs.size = some { cls := .type "tuple", data := .seq #[ux, uy] } := (sb.2 _ zn).trans g5
    have I2 := I1.adopt (a := s.heap.objs.size) (o := .tup [x, y]) Hn I.sz (Nat.ne_of_gt I.lt) (fun n c e => by
        obtain ⟨_, q⟩ := I.cell n c e
        exact Nat.ne_of_lt q.lt) (fun q hq => Nat.ne_of_lt (Heap.lt_size (I.pin q hq).1)) (x4c19 (by show 2 ≤ sizeLine; rw [sizeLine_eq]; exact o1d293) [ux, uy] (.cons rx (.cons ry .nil)) (x6ef4 _ tAt rfl _ rfl))
    have cu : ∀ c, (c = z ∨ c = TI ∨ c = TO ∨ c = i1 ∨ c = i2) → c < s.heap.objs.size := fun c hcc => by
      obtain ⟨o4, e4, _⟩ := id h4
      obtain ⟨o5, e5, _⟩ := id h5
      rcases hcc with rfl | rfl | rfl | rfl | rfl
      · exact zlt
      · exact Heap.lt_size h2
      · exact Heap.lt_size h3
      · exact Heap.lt_size e4
      exact Heap.lt_size e5
    refine (x6c4f (.ref s.heap.objs.size) _ I2 rfl (xac60 s.heap.objs.size x y rfl Hn rfl (fun ws hw => by rw [I.list_inj hw qx]; exact ex) (fun ws hw => by rw [I.list_inj hw qy]; exact ey)) (x0988 g1' ((sb.2 TI D.TIz).trans (k TI _ D.TIz D.TITO D.TIi1 D.TIi2 h2)) (xa57b ux uy ((sb.2 TO D.TOz).trans g2)) (g3.at fun o e => (sb.2 i1 D.i1z).trans e) (g4.at fun o e => (sb.2 i2 D.i2z).trans e)) (fun c hcc => ?_))
    have lt := cu c (by simpa using hcc)
    rw [j0a (Nat.ne_of_lt lt)]
    exact (hf c hcc).1
  done := by
    intro X hP hw hK hc i pins s σ H E I hf st hg
    subst hP hw hK
    obtain ⟨h1, h2, ⟨u, v, h3⟩, h4, h5⟩ := st
    obtain ⟨xs, ys, qx, qy, hlen⟩ := hg
    obtain ⟨its, rv, p, hz⟩ := I.list qx
    obtain ⟨its2, rv2, p2, hz2⟩ := I.list qy
    have l1 := rv.length
    have l2 := rv2.length
    refine wpAny_pyNext_zip_end (I.ok.hd hc) D h1 h2 h3 h4 h5 p.isList p2.isList (by rcases hlen with z | z; left; simp; exact oaf0d8 l1 z; right; simp; exact oaf0d8 l2 z) fun h' k => ⟨rfl, I.turnedL (t' := s.toks) (ch := [z, TI, TO, i1, i2]) hf fun c o hcn e => ?_⟩
    simp only [List.mem_cons, List.not_mem_nil, or_false, not_or] at hcn
    exact k c o hcn.1 hcn.2.2.1 hcn.2.2.2.1 hcn.2.2.2.2 e
  self := fun _ _ _ _ _ st h => wpAny_pyIter_zip st.1 h
noncomputable def iZip (K : PySem.W.Frag) (ta : TA) : TI := fun σ H R => ta σ H fun vs H1 => ∃ a b, vs = [.ref a, .ref b] ∧ (∃ xs, SqL K H1 a xs) ∧ (∃ ys, SqL K H1 b ys) ∧ R (Itz K a b) H1
theorem pi_zip {X : Cx} {e1 e2 : Expr} {elts : List Expr} {x1 : Nat} {tp : Pos} {ta : TA} {p pos : Pos} (hg : Gl X "zip") (hm : X.mg "zip" = none) (ha : PA X [e1, e2] ta) (hs : starEach [e1, e2] X.env = [(false, eval e1 X.env), (false, eval e2 X.env)] := by rfl) (hs2 : starEach [e2] X.env = [(false, eval e2 X.env)] := by rfl) :
    PI X (.Tuple elts x1 tp) (.Call (.Name "zip" p) [e1, e2] [] pos) (iZip X.K ta) := by
  intro pins s σ H R I h
  refine Call_ (j2r I hg hm boot_zip (PyProof.Rows.callWith_type1 (thn (ha pos pins s σ H _ I h) fun us s1 ⟨vs, H1, I1, r1, q1⟩ => ?_) (by rw [hs, hs2]) (by rw [hs2]; rfl)))
  obtain ⟨a, b, rfl, ⟨xs, qx⟩, ⟨ys, qy⟩, q⟩ := q1
  have eu : us = [.ref a, .ref b] := by
    cases r1 with
    | cons r1 rr =>
      obtain ⟨u2, rfl, r2⟩ := j2x rr
      cases r1; cases r2; rfl
  subst eu
  obtain ⟨its, rv, pp, hz⟩ := I1.list qx
  obtain ⟨its2, rv2, pp2, hz2⟩ := I1.list qy
  refine call_zip_2 pp.isList pp2.isList fun h' g1 g2 g3 g4 g5 g6 k => wpAny_pyIter_zip g1 ?_
  have la : a < s1.heap.objs.size := by obtain ⟨_, e, _⟩ := pp.isList; exact Heap.lt_size e
  have lb : b < s1.heap.objs.size := by obtain ⟨_, e, _⟩ := pp2.isList; exact Heap.lt_size e
  refine (x5a1f _ _ _ _ H1 rfl (I1.kept (t' := s1.toks) k) (turn_zip a b _ _ _ _ _ (zipApart_new la lb)) (x0988 g1 g2 (xa57b _ _ g3) g4 g5) (fun c hc => ?_) q)
  have le : s1.heap.objs.size ≤ c := by
    simp only [List.mem_cons, List.not_mem_nil, or_false] at hc
    rcases hc with rfl | rfl | rfl | rfl | rfl <;> omega
  exact I1.fpOk le (I1.hok.fresh le)
end L3
namespace L3
open PySem PySem.Spec PyProof.Rows L2
theorem for_zip {K : PySem.W.Frag} {a b : Addr} {xs ys : List V} {n : Nat} {g : TG} {tb : TS} {D : Ends} {σ : L2.St} {H : Hp} (Pv : Nat → L2.St → Hp → Prop) (hx : xs.length = n) (hy : ys.length = n) (h0 : Pv 0 σ H) (hl : ∀ i σ H, i ≤ n → Pv i σ H → SqL K H a xs ∧ SqL K H b ys)
    (hs : ∀ i x y T σ H, xs[i]? = some x → ys[i]? = some y → Pv i σ H → H T = none → g (.ref T) σ (upd H T (.tup [x, y])) fun σ2 H2 => tb { D with nx := Pv (i + 1), ct := Pv (i + 1), bk := D.nx } σ2 H2) (hd : ∀ σ H, Pv n σ H → D.nx σ H) :
    ∃ W : Nat → Nat → L2.St → Hp → Prop, (∃ m, W 0 m σ H) ∧ ∀ i m σ H, W i m σ H →
      ((Itz K a b).stop i H ∧ D.nx σ H) ∨ ((Itz K a b).go i H ∧ ∃ N : L2.St → Hp → Prop, (∀ σ' H', N σ' H' → ∃ m', m' < m ∧ W (i + 1) m' σ' H') ∧ ∀ x H', (Itz K a b).yld i H x H' → g x σ H' fun σ2 H2 => tb { D with nx := N, ct := N, bk := D.nx } σ2 H2) := by
  refine (x9614 (fun i m σ H => m = n - i ∧ i ≤ n ∧ Pv i σ H) (x0c0c n (by simp) (Nat.zero_le _) h0) ?_)
  rintro i m σ H ⟨rfl, hi, p⟩
  obtain ⟨q1, q2⟩ := hl i σ H hi p
  by_cases hlt : i < n
  · refine .inr (x4c19 (x6f71 xs ys (xs[i]) (ys[i]) q1 q2 (List.getElem?_eq_getElem _) (List.getElem?_eq_getElem _)) (Pv (i + 1)) (fun σ' H' p' => (x5ff7 (n - (i + 1)) (by exact o586b3 hlt) rfl (by exact odad2c hlt) p')) (fun v H' hv => ?_))
    obtain ⟨T, x, y, rfl, hT, rfl, ax, ay⟩ := hv
    exact hs i x y T σ H (ax xs q1) (ay ys q2) p hT
  have e : i = n := by exact o4e44a hi hlt
  exact .inl ⟨(xeb27 xs ys q1 q2 (.inl (by exact ofe091 hx e))), hd σ H (e ▸ p)⟩
theorem j15.upd {P x : Addr} {H H' : Hp} {o : HO} (s : j15 P H H') (n : H x = none) : j15 P H (upd H' x o) := fun b u hb e => by rw [j0a (j0d e n)]; exact s b u hb e
theorem j15.same {P : Addr} {H H1 H2 : Hp} (s : j15 P H H1) (t : Same H1 H2) : j15 P H H2 := fun b u hb e => t b u (s b u hb e)
theorem j15.trans {P : Addr} {H H1 H2 : Hp} (s : j15 P H H1) (t : j15 P H1 H2) : j15 P H H2 := fun b u hb e => t b u hb (s b u hb e)
theorem j15.of {P : Addr} {H H' : Hp} (s : Same H H') : j15 P H H' := fun b u _ e => s b u e
theorem TbOk.same {P : Addr} {pos : Pos} {q : Str} {H H' : Hp} (t : TbOk P pos q H) (s : Same H H') : TbOk P pos q H' := by
  rcases t with t | ⟨c, o, vs, k, t1, t2, t3⟩
  · exact .inl (s _ _ t)
  exact .inr (x5750 c o vs k (s _ _ t1) (s _ _ t2) t3)
theorem TbOk.upd {P x : Addr} {pos : Pos} {q : Str} {H : Hp} {o : HO} (t : TbOk P pos q H) (h1 : ∀ ps, H x ≠ some (.tbl ps)) (h2 : ∀ u v, H x ≠ some (.frz u v)) : TbOk P pos q (L2.upd H x o) := by
  have ne : ∀ b u, H b = some u → (∀ z, b = x → H x = some z → z = u) := fun b u e z hb e2 => by rw [hb] at e; rw [e] at e2; exact (Option.some.inj e2).symm
  rcases t with t | ⟨c, oc, vs, k, t1, t2, t3⟩
  · exact .inl (by rw [j0a (fun z => h1 _ (z ▸ t))]; exact t)
  exact .inr (x5750 c oc vs k (by rw [j0a (fun z => h1 _ (z ▸ t1))]; exact t1) (by rw [j0a (fun z => h2 _ _ (z ▸ t2))]; exact t2) t3)
theorem TbOk.ne {P x : Addr} {pos : Pos} {q : Str} {H : Hp} {xs : List V} (t : TbOk P pos q H) (h : H x = some (.lst xs)) : x ≠ P := fun z => by
  rcases t with t | ⟨_, _, _, _, t, _⟩
  · rw [z, t] at h; cases h
  rw [z, t] at h; cases h
theorem TbOk.some {P : Addr} {pos : Pos} {q : Str} {H : Hp} (t : TbOk P pos q H) : ∃ ps, H P = some (.tbl ps) := by
  rcases t with t | ⟨_, _, _, _, t, _⟩
  · exact ⟨_, t⟩
  exact ⟨_, t⟩
theorem j15.seq {K : PySem.W.Frag} {P : Addr} {ps : Array Value} {H H' : Hp} {a : Addr} {xs : List V} (e : j15 P H H') (t : H P = some (.tbl ps)) (h : SqL K H a xs) : SqL K H' a xs := by
  rcases h with (h | ⟨o, h⟩) | h
  · exact .inl (.inl (e _ _ (fun z => by rw [z, t] at h; cases h) h))
  · exact .inl (.inr ⟨o, e _ _ (fun z => by rw [z, t] at h; cases h) h⟩)
  exact .inr h
theorem j15.free {P : Addr} {pos : Pos} {q : Str} {H H' : Hp} (s : j15 P H H') (t : TbOk P pos q H') {x : Addr} (h : H' x = none) : H x = none := by
  cases e : H x with
  | none => rfl
  | some o =>
    by_cases hx : x = P
    · obtain ⟨ps, z⟩ := t.some
      rw [hx, z] at h; cases h
    rw [s x o hx e] at h; cases h
end L3
namespace L3
open PySem PySem.Spec PyProof.Rows L2
noncomputable def compOk (sc0 scope : Scope) (N : List Str) (x : Str) (caps : List Str) (idx : List Nat) : Bool :=
  (scope.kind == .function) && scope.names.all (fun y => y.2 != .cell && (y.2 != .local || scope.names.lookup y.1 == some .local) && (y.2 != .free || (scope.names.lookup y.1 == some .free && (sc0.names.lookup y.1 == some .cell || sc0.names.lookup y.1 == some .free)))) &&
  (scope.names.lookup x == some .local) && decide (x :: caps).Nodup && (idx.length == caps.length) && (idx.map fun i => N[i]?) == caps.map some && caps.all fun y => scope.names.contains (y, NameKind.free)
theorem j6c {X : Cx} {sc0 scope : Scope} {N : List Str} {x : Str} {caps : List Str} {idx : List Nat} (h1 : X.env.scope = sc0) (h2 : X.N = N) (h : compOk sc0 scope N x caps idx = true) : CompSc X scope x caps idx := by
  unfold compOk at h
  simp only [Bool.and_eq_true, List.all_eq_true, bne_iff_ne, ne_eq, Bool.or_eq_true, beq_iff_eq, decide_eq_true_eq, List.contains_iff_mem] at h
  obtain ⟨⟨⟨⟨⟨⟨a1, a2⟩, a3⟩, a4⟩, a5⟩, a6⟩, a7⟩ := h
  refine ⟨a1, fun y hy => (a2 y hy).1.1, fun y hy e => ?_, a3, fun y hy e => ?_, fun y hy e => ?_, a4, a5, fun k i y e1 e2 => ?_, fun y hy => a7 y hy⟩
  · rcases (a2 y hy).1.2 with z | z
    · exact absurd e z
    exact z
  · rcases (a2 y hy).2 with z | z
    · exact absurd e z
    exact z.1
  · rcases (a2 y hy).2 with z | z
    · exact absurd e z
    show X.env.scope.names.lookup y.1 = some .cell ∨ X.env.scope.names.lookup y.1 = some .free
    rw [h1]; exact z.2
  have e3 : (idx.map fun i => N[i]?)[k]? = (caps.map some)[k]? := by rw [a6]
  rw [List.getElem?_map, List.getElem?_map, e1, e2] at e3
  rw [h2]
  exact Option.some.inj e3
end L3
namespace L3
open PySem PySem.Spec PyProof.Rows L2
theorem for_zipD {K : PySem.W.Frag} {a b : Addr} {xs ys : List V} {n : Nat} {g : TG} {tb : TS} {D : Ends} {σ : L2.St} {H : Hp} (Pv : Nat → L2.St → Hp → Prop) (hx : xs.length = n) (hy : ys.length = n) (h0 : Pv 0 σ H) (hl : ∀ i σ H, i ≤ n → Pv i σ H → SqL K H a xs ∧ SqL K H b ys)
    (hs : ∀ i x y T σ H, xs[i]? = some x → ys[i]? = some y → Pv i σ H → H T = none → let D' : Ends := { D with nx := Pv (i + 1), ct := Pv (i + 1), bk := D.nx }; g (.ref T) σ (upd H T (.tup [x, y])) fun σ2 H2 => tb D' σ2 H2) (hd : ∀ σ H, Pv n σ H → D.nx σ H) :
    ∃ W : Nat → Nat → L2.St → Hp → Prop, (∃ m, W 0 m σ H) ∧ ∀ i m σ H, W i m σ H →
      ((Itz K a b).stop i H ∧ D.nx σ H) ∨ ((Itz K a b).go i H ∧ ∃ N : L2.St → Hp → Prop, (∀ σ' H', N σ' H' → ∃ m', m' < m ∧ W (i + 1) m' σ' H') ∧ ∀ x H', (Itz K a b).yld i H x H' → g x σ H' fun σ2 H2 => tb { D with nx := N, ct := N, bk := D.nx } σ2 H2) := for_zip Pv hx hy h0 hl hs hd
end L3
end
noncomputable section
namespace L3
open PySem PySem.Spec PyProof.Rows L2
theorem no_tab {K : PySem.W.Frag} {h : Heap} {Pt : Addr} {ps : Array Value} (X : K.In h) (hK : PySem.W.noTabs K = true) (e : h.get? Pt = some (PySem.W.tabObj ps)) : K.lookup Pt = none := by
  cases q : K.lookup Pt with
  | none => rfl
  | some o =>
    have z := X Pt o q
    rw [e] at z
    cases z
    have := List.all_eq_true.mp hK (Pt, PySem.W.tabObj ps) (PySem.W.mem_of_lookupK q)
    cases this
theorem jap {P : Program} {w : World} {K : PySem.W.Frag} {mg mb : Str → Option Value} {CX : CXT} {k : Nat} {fa a c Pt bm : Addr} {ob : Obj} {fd : FuncData} {x : Str} {sp : Sp} {s₁ : Shared} {vs : List Value} {ns : List Int}
    (KX : K.In s₁.heap) (hns : s₁.heap.Ns mainGlobals mg) (hb : s₁.heap.Ns builtinsNs mb) (hbb : ∀ x : Str, x ≠ "__name__" → mb x = bootBuiltins x) (hlim : s₁.heap.NoLimit) (hg : s₁.gens = #[])
    (ha : s₁.heap.get? a = some { cls := .type "list", data := .seq vs.toArray }) (hi : IntsAre vs ns) (hl : ns.length ≤ sizeLine) (hr : Room k callerA)
    (hC : s₁.heap.IsCode c Pt #[]) (hT : s₁.heap.TableAt c Pt #[]) (hK : PySem.W.noTabs K = true) (b1 : mg "__builtins__" = some (.ref bm)) (b2 : bm ≠ builtinsNs) (b3 : s₁.heap.get? bm = some ob) (b4 : ob.cls = .type "module") (b5 : ob.dict = some builtinsNs) (b6 : ob.data = .plain)
    (F : ∀ base : Heap, K.In base → base.Ns mainGlobals mg → PySem.W.CodeHd base c Pt → base.BuiltinsAt mg Pt → FnOk P w K mg base CX k fa fd [x] sp) (hbind : ∀ (s : Shared) (u : Value), BindsTo s fd ⟨[u], []⟩ [(x, u)])
    (hsp : ∀ H : Hp, H Pt = some (.tbl #[]) → SqL K H a (ns.map V.int) → sp [.ref a] H (fun v _ => v = .bl true) fun _ _ _ => False)
    (hCX : ∀ H e s', CX [] H s₁ (fun _ _ _ => False) e s' → False) :
    codeAny (model P w) callerA (.call (.ref fa) ⟨[.ref a], []⟩) (fun r s' => r = .ok (.ret (.bool true)) ∧ OldK s₁.heap s'.heap ∧ s'.os = s₁.os ∧ AllBare s'.gens) s₁ := by
  have rv := j23 hi
  have lenV := hi.length
  have oP : s₁.heap.get? Pt = some (PySem.W.tabObj #[]) := hT.2
  have aP : a ≠ Pt := fun z => by rw [z, oP] at ha; cases ha
  have kP := no_tab KX hK oP
  have core : ∀ H : Hp, H Pt = some (.tbl #[]) → (∀ b, H b = none ∨ b = Pt ∨ b = a ∧ ∃ o xs, H b = some (.frz o (.lst xs))) → SqL K H a (ns.map V.int) → HOk P w H s₁.heap → (H a ≠ none → K.lookup a = none) →
      codeAny (model P w) callerA (.call (.ref fa) ⟨[.ref a], []⟩) (fun r s' => r = .ok (.ret (.bool true)) ∧ OldK s₁.heap s'.heap ∧ s'.os = s₁.os ∧ AllBare s'.gens) s₁ := by
    intro H hP hO hS hok hKa
    have dat : ∀ {b : Addr} {o : Obj}, s₁.heap.get? b = some o → b ≠ Pt → b ≠ a → H b = none := fun {b o} e n1 n2 => by
      rcases hO b with z | z | ⟨z, _⟩
      · exact z
      · exact absurd z n1
      exact absurd z n2
    have nsK : ∀ {b : Addr} {m : Str → Option Value}, s₁.heap.Ns b m → (hidT s₁.heap H).Ns b m := fun {b m} ⟨o, es, ep, e, d, r⟩ => by
      refine (x0c51 o es ep (j3l e (dat e (fun z => ?_) fun z => ?_)) d r)
      · rw [z, oP] at e; cases e; cases d
      rw [z, ha] at e; cases e; cases d
    have hKb : K.In (hidT s₁.heap H) := fun b o e => j3l (KX b o e) (by
      rcases hO b with z | z | ⟨z, o', xs, z2⟩
      · exact z
      · rw [z, kP] at e; cases e
      rw [z] at e z2
      rw [hKa (by rw [z2]; simp)] at e
      cases e)
    have hM : Mod K mg (hidT s₁.heap H) := ⟨hKb, nsK hns, ⟨mb, nsK hb, hbb⟩, let ⟨mc, h1, h2⟩ := hlim; (x9614 mc (nsK h1) h2)⟩
    have e0 : Env0 P w K mg (hidT s₁.heap H) callerA [] s₁ H := ⟨rfl, hM, fun b o e => of_hidT e, Nat.le_of_eq (j9b _ _), trivial, fun b hb => absurd (show b ∈ ([] : List Addr) from hb) (by simp), hok, .of_eq hg⟩
    have hC' : PySem.W.CodeHd (hidT s₁.heap H) c Pt := by
      obtain ⟨o, vs', file, tf, flags, tg, inF, text, tt, e1, r1, r2, r⟩ := PySem.W.CodeHd.of hC hT
      refine (x45d0 o vs' file tf flags tg inF text tt (j3l e1 (dat e1 (fun z => ?_) fun z => ?_)) r1 r2 r)
      · rw [z, oP] at e1; cases e1; cases r1
      rw [z, ha] at e1; cases e1; exact absurd (show Value.type "list" = Value.type "code" from r1) (by decide)
    have hB : (hidT s₁.heap H).BuiltinsAt mg Pt := by
      have bP : bm ≠ Pt := fun z => by rw [z, oP] at b3; cases b3; cases b4
      have ba : bm ≠ a := fun z => by rw [z, ha] at b3; cases b3; exact absurd (show Value.type "list" = Value.type "module" from b4) (by decide)
      have bG : bm ≠ mainGlobals := fun z => by
        obtain ⟨o, es, ep, e, hd, _⟩ := hns
        rw [z, e] at b3; cases b3; rw [hd] at b6; cases b6
      exact (x4eaa bm ob b1 b2 bG bP (j3l b3 (dat b3 bP ba)) b4 b5 b6)
    refine codeAny_mono ((F _ hKb (nsK hns) hC' hB).run callerA [] s₁ H ⟨[.ref a], []⟩ [.ref a] [.ref a] _ _ hr e0 (hbind s₁ (.ref a)) (.cons rfl .nil) (hsp H hP hS)) fun r s' h => ?_
    cases r with
    | error e => exact (hCX H e s' h).elim
    | ok fl =>
      cases fl with
      | next => exact False.elim h
      | brk => exact False.elim h
      | cont => exact False.elim h
      | ret u =>
        obtain ⟨v, H', os, bare, un, hok', r', q⟩ := h
        have q' : v = .bl true := q
        subst q'
        obtain rfl : u = Value.bool true := r'
        have nil : ∀ b : Addr, b ∉ frs ([] : List Env) := fun b z => absurd (show b ∈ ([] : List Addr) from z) (by simp)
        refine (xe1fa rfl ⟨fun b o e => ?_, fun b o e => un.there b o e (by simp)⟩ os bare)
        rcases hO b with z | z | ⟨z, ob', xs, z2⟩
        · exact .inl (un.keep b o e z (nil b) (by simp))
        · subst z
          obtain ⟨more, z3⟩ := un.tbls b _ hP
          have e3 : s'.heap.get? b = some (PySem.W.tabObj (#[] ++ more)) := hok' b _ z3
          rw [oP] at e
          cases e
          exact .inr (.inl (xc15b hT.isCodeTable rfl (#[]) more rfl e3))
        have z3 := un.frzs b ob' _ z2
        obtain ⟨e1, _⟩ := hok b _ z2
        obtain ⟨e2, _⟩ := hok' b _ z3
        rw [e] at e1; cases e1
        exact .inl e2
  cases hk : K.lookup a with
  | some o =>
    have e := KX a o hk
    rw [ha] at e
    cases e
    refine core (fun b => if b = Pt then some (.tbl #[]) else none) (if_pos rfl) (fun b => ?_) (.inr (xef7a _ vs.toArray _ hk rfl rfl rfl (by rw [List.size_toArray, lenV]; exact hl) (by simpa using rv))) (fun b u z => ?_) fun z => absurd (if_neg aP) z
    · by_cases hb : b = Pt
      · exact .inr (.inl hb)
      exact .inl (if_neg hb)
    by_cases hb : b = Pt
    · have z' := (if_pos hb).symm.trans z
      cases z'
      subst hb
      exact oP
    have z' := (if_neg hb).symm.trans z
    cases z'
  | none =>
    refine core (fun b => if b = Pt then some (.tbl #[]) else if b = a then some (.frz { cls := .type "list", data := .seq vs.toArray } (.lst (ns.map V.int))) else none) (if_pos rfl) (fun b => ?_) (.inl (.inr ⟨{ cls := .type "list", data := .seq vs.toArray }, (if_neg aP).trans (if_pos rfl)⟩)) (fun b u z => ?_) fun _ => hk
    · by_cases hb : b = Pt
      · exact .inr (.inl hb)
      by_cases hb2 : b = a
      · exact .inr (.inr (xea8a hb2 _ ⟨_, (if_neg hb).trans (if_pos hb2)⟩))
      exact .inl ((if_neg hb).trans (if_neg hb2))
    by_cases hb : b = Pt
    · have z' := (if_pos hb).symm.trans z
      cases z'
      subst hb
      exact oP
    dsimp only at z
    rw [if_neg hb] at z
    by_cases hb2 : b = a
    · rw [if_pos hb2] at z
      cases z
      subst hb2
      exact (xc15b ha (by rw [List.length_map]; exact hl) vs _ rv ha)
    rw [if_neg hb2] at z
    cases z
theorem walk_T {l : PySem.W.OpenLaw} {n k : Nat} {q : Program} {loose : List Str} {XP : (Str → Option Value) → Heap → Prop} {YP : World → Heap → Prop} {d : DefRec} {tN : Str} {K : Params → PySem.W.Frag} {sp : World → Addr → Sp} {x : Str}
    (hn : l.most = some n) (hn2 : n ≤ sizeLine) (hdf : d.params.defaults = []) (hr : Room k callerA)
    (hY : ∀ (w : World) (h : Heap), YP w h → (K w.params).In h) (hdt : ((recsOf q).find? fun e => e.name == tN).isSome = true) (hKt : ∀ p : Params, PySem.W.noTabs (K p) = true)
    (F : ∀ (w : World) (mg : Str → Option Value) (fa : Addr) (h : Heap), (K w.params).In h → h.Ns mainGlobals mg → mg d.name = some (.ref fa) → ∀ (ft c Pt : Addr) (ot : Obj) (fdt : FuncData), mg tN = some (.ref ft) → h.get? ft = some ot → ot.data = .func fdt → fdt.code = .ref c →
      ∃ fd : FuncData, (∀ (s : Shared) (u : Value), BindsTo s fd ⟨[u], []⟩ [(x, u)]) ∧
        ∀ base : Heap, (K w.params).In base → base.Ns mainGlobals mg → PySem.W.CodeHd base c Pt → base.BuiltinsAt mg Pt → FnOk l.prog w (K w.params) mg base CX0 k fa fd [x] (sp w Pt))
    (hsp : ∀ (w : World) (Pt : Addr) (H : Hp) (a : Addr) (ns : List Int), ns.length ≤ n → H Pt = some (.tbl #[]) → SqL (K w.params) H a (ns.map V.int) → sp w Pt [.ref a] H (fun v _ => v = .bl true) fun _ _ _ => False) :
    PySem.W.WalkO q loose XP YP l.row.toRowW d [] (fun f vs => PySem.call f vs) := by
  refine Att.attach_call hn hdf fun w s₀ s₁ mg mb fa o pm cd doc a vs ns G Y ho hd hcd hmg hobj hints hlen hg => ?_
  have KX := hY w _ Y
  obtain ⟨dt, hd2⟩ := Option.isSome_iff_exists.mp hdt
  have en : dt.name = tN := by
    have := List.find?_some hd2
    simpa using this
  obtain ⟨ft, ot, fdt, c, Pt, t1, t2, t3, t4, t5, t6⟩ := G.T.tab dt (List.mem_of_find?_eq_some hd2)
  rw [en] at t1
  obtain ⟨bm, ob, b1, b2, b3, b4, b5, b6⟩ := G.T.bmain
  obtain ⟨fd, hb, hF⟩ := F w mg fa _ KX G.T.g hmg ft c Pt ot fdt t1 t2 t3 t4
  exact jap KX G.T.g G.T.b G.T.builtins G.T.nolimit hg hobj hints (Nat.le_trans hlen hn2) hr t5 t6 (hKt _) b1 b2 b3 b4 b5 b6 hF hb (fun H hO hS => hsp w Pt H a ns hlen hO hS) fun H e s' z => z
end L3
end
noncomputable section
namespace L3
open PySem PySem.Spec PyProof.Rows L2
structure CF (K : PySem.W.Frag) (C : Addr) : Prop where
  cl : Cls K C
  ha : PySem.W.findIn K (.ref C) "__class__" = some (some (.builtin "object.__class__"))
  hn : PySem.W.specialIn K (.builtin "object.__class__") "__get__" = some (some (.builtin "getset_descriptor.__get__"))
  htk : PySem.W.takesIn K (.builtin "object.__class__") = some true
  hm : PySem.W.mroIn K C (.type "object") = some true
theorem CF.ty {K : PySem.W.Frag} {C a dx : Addr} {H : Hp} {fs : List (Str × V)} (f : CF K C) (e : H a = some (.ins C dx fs)) : TyOf K H (.ref a) (.ref C) := .ins e f.cl f.ha f.hn f.htk f.hm
theorem cf_mk {K : PySem.W.Frag} {C : Addr} (pg : PySem.W.plainGet K C Str.empty = true) (hd : PySem.W.hasDictIn K C = true) (po : PySem.W.plainOver K C = true) (sa : PySem.W.findIn K (.ref C) "__setattr__" = some (some (.builtin "object.__setattr__")))
    (ha : PySem.W.findIn K (.ref C) "__class__" = some (some (.builtin "object.__class__"))) (hn : PySem.W.specialIn K (.builtin "object.__class__") "__get__" = some (some (.builtin "getset_descriptor.__get__"))) (htk : PySem.W.takesIn K (.builtin "object.__class__") = some true)
    (hm : PySem.W.mroIn K C (.type "object") = some true) : CF K C := ⟨⟨pg, hd, po, sa⟩, ha, hn, htk, hm⟩
structure TopF (K : PySem.W.Frag) (x qual : Str) (st : Stmt) : Prop where
  ex : ∃ (f : Addr) (fd : FuncData), PySem.W.nsIn K mainGlobals x = some (some (.ref f)) ∧ Fun K x qual st f fd
theorem j0u {K : PySem.W.Frag} {x qual : Str} {st : Stmt} {f : Addr} {oc : Value} {od an : Option Addr} {osl : Array (Option Value)} {kV doc pm cdv ct : Value} (a : PySem.W.nsIn K mainGlobals x = some (some (.ref f)))
    (l : K.lookup f = some ⟨oc, od, .func (PySem.W.fnOf x qual (j2v st) (j1x st) (j0c st) .none kV doc pm an cdv ct), osl⟩) (c : PySem.W.codeIn K cdv qual = true) (k : PySem.W.keepIn K (.ref f) = true) : TopF K x qual st := ⟨f, _, a, fun_mk l c k⟩
structure MthF (K : PySem.W.Frag) (C : Addr) (m qual : Str) (st : Stmt) : Prop where
  ex : ∃ (f : Addr) (fd : FuncData), Meth K C m f ∧ Fun K m qual st f fd
theorem j78 {K : PySem.W.Frag} {C : Addr} {m qual : Str} {st : Stmt} {f : Addr} {oc : Value} {od an : Option Addr} {osl : Array (Option Value)} {kV doc pm cdv ct : Value} (a : PySem.W.findIn K (.ref C) m = some (some (.ref f))) (i : PySem.W.isFn K (.ref f) = true)
    (l : K.lookup f = some ⟨oc, od, .func (PySem.W.fnOf m qual (j2v st) (j1x st) (j0c st) .none kV doc pm an cdv ct), osl⟩) (c : PySem.W.codeIn K cdv qual = true) (k : PySem.W.keepIn K (.ref f) = true) : MthF K C m qual st := ⟨f, _, ⟨a, i, k⟩, fun_mk l c k⟩
section
variable {P : Program} {w : World} {K : PySem.W.Frag} {mg : Str → Option Value} {base h : Heap} {x qual m : Str} {st : Stmt} {ps : List Str} {k : Nat} {sp : Sp} {C : Addr}
abbrev BindsBy (x qual : Str) (st : Stmt) (ps : List Str) : Prop := ∀ (kV doc pm : Value) (an : Option Addr) (cdv ct : Value) (us : List Value), us.length = ps.length → bindArgs (PySem.W.fnOf x qual (j2v st) (j1x st) (j0c st) .none kV doc pm an cdv ct) ⟨us, []⟩ = pure (ps.zip us)
theorem Ok.of (t : TopF K x qual st) (X : K.In h) (G : h.Ns mainGlobals mg) (b : BindsBy x qual st ps) (ok : ∀ f fd, Fun K x qual st f fd → FnOk P w K mg base CX0 k f fd ps sp) : Ok P w K mg base k x ps sp := by
  obtain ⟨f, fd, a, F⟩ := t.ex
  exact ⟨f, fd, ok f fd F, PySem.W.mg_of X G a, F.kp, F.binds b⟩
theorem Ok.ofC {ft c : Addr} {ot : Obj} {fdt : FuncData} (t : TopF K x qual st) (X : K.In h) (G : h.Ns mainGlobals mg) (h1 : mg x = some (.ref ft)) (h2 : h.get? ft = some ot) (h3 : ot.data = .func fdt) (h4 : fdt.code = .ref c) (b : BindsBy x qual st ps)
    (ok : ∀ f fd, Fun K x qual st f fd → fd.code = .ref c → FnOk P w K mg base CX0 k f fd ps sp) : Ok P w K mg base k x ps sp := by
  obtain ⟨f, fd, a, F⟩ := t.ex
  have e := PySem.W.mg_of X G a
  refine ⟨f, fd, ok f fd F ?_, e, F.kp, F.binds b⟩
  rw [h1] at e
  cases e
  obtain ⟨oc, od, kV, doc, pm, an, cdv, ct, osl, rfl, lk, hcd⟩ := F.ex
  have z := X _ _ lk
  rw [h2] at z
  cases z
  cases h3
  exact h4
theorem OkC.of (t : MthF K C "__init__" qual st) (X : K.In h) (G : h.Ns mainGlobals mg) (a : PySem.W.nsIn K mainGlobals x = some (some (.ref C))) (mk : PySem.W.makesIn K C = true) (kc : PySem.W.keepIn K (.ref C) = true) (b : BindsBy "__init__" qual st ps)
    (ok : ∀ f fd, Fun K "__init__" qual st f fd → FnOk P w K mg base CX0 k f fd ps sp) : OkC P w K mg base k x C ps sp := by
  obtain ⟨f, fd, M, F⟩ := t.ex
  exact ⟨f, fd, ok f fd F, PySem.W.mg_of X G a, ⟨mk, M.at_, M.fn, kc⟩, F.binds b⟩
theorem Bl.of (X : K.In h) (G : h.Ns mainGlobals mg) (z0 : PySem.W.nsIn K mainGlobals "len" = some none) (z1 : PySem.W.nsIn K mainGlobals "range" = some none) (z2 : PySem.W.nsIn K mainGlobals "list" = some none) (z3 : PySem.W.nsIn K mainGlobals "tuple" = some none) (z4 : PySem.W.nsIn K mainGlobals "int" = some none) (z5 : PySem.W.nsIn K mainGlobals "bool" = some none) (z6 : PySem.W.nsIn K mainGlobals "str" = some none) (z7 : PySem.W.nsIn K mainGlobals "isinstance" = some none) (z8 : PySem.W.nsIn K mainGlobals "sum" = some none) (z9 : PySem.W.nsIn K mainGlobals "sorted" = some none) (z10 : PySem.W.nsIn K mainGlobals "any" = some none) (z11 : PySem.W.nsIn K mainGlobals "all" = some none) (z12 : PySem.W.nsIn K mainGlobals "abs" = some none) (z13 : PySem.W.nsIn K mainGlobals "max" = some none) (z14 : PySem.W.nsIn K mainGlobals "min" = some none) : Bl mg :=
  ⟨PySem.W.mg_none_of X G z0, PySem.W.mg_none_of X G z1, PySem.W.mg_none_of X G z2, PySem.W.mg_none_of X G z3, PySem.W.mg_none_of X G z4, PySem.W.mg_none_of X G z5, PySem.W.mg_none_of X G z6, PySem.W.mg_none_of X G z7, PySem.W.mg_none_of X G z8, PySem.W.mg_none_of X G z9, PySem.W.mg_none_of X G z10, PySem.W.mg_none_of X G z11, PySem.W.mg_none_of X G z12, PySem.W.mg_none_of X G z13, PySem.W.mg_none_of X G z14⟩
end
end L3
end
noncomputable section
namespace L3
open PySem PySem.Spec PyProof.Rows L2
section
variable {X : Cx}
noncomputable def isB (k : Bool) : Value → Bool
  | .bool b => decide (b = k)
  | _ => false
end
end L3
end
noncomputable section
namespace L3
open PySem PySem.Spec PyProof.Rows L2
section
variable {X : Cx}
noncomputable def isN (k : Int) : Value → Bool
  | .int n _ => decide (n = k)
  | _ => false
end
end L3
end
noncomputable section
namespace L3
open PySem PySem.Spec PyProof.Rows L2
theorem j6d {ns : List Int} {i : Nat} {y : V} (h : (iV ns)[i]? = some y) : ∃ n, ns[i]? = some n ∧ y = V.int n := by
  rw [List.getElem?_map] at h
  cases e : ns[i]? with
  | none => rw [e] at h; cases h
  | some n => rw [e] at h; exact (x9614 n rfl ((Option.some.inj h).symm))
theorem same_n {H : Hp} {p : Addr} {o : HO} (h : H p = none) : Same H (upd H p o) := fun b u e => by rw [j0a (j0d e h)]; exact e
theorem fm_len {α β : Type} (f : α → Option β) (l : List α) : (l.filterMap f).length ≤ l.length := List.length_filterMap_le f l
theorem jaq {K : PySem.W.Frag} {a : Addr} {ns : List Int} {idx : List Nat} {ti : TT} {te : TE} {σ : L2.St} {H : Hp} {Q : VK} (f : Int → Option V) (hS : SqL K H a (iV ns)) (hl : ns.length ≤ 1000)
    (ht : ∀ n ∈ ns, ∀ (H' : Hp) (R : Bool → Hp → Prop), R (f n).isSome H' → ti (some (.int n) :: capV idx σ) H' R)
    (he : ∀ n ∈ ns, ∀ v, f n = some v → ∀ (H' : Hp) (R : VK), R v H' → te (some (.int n) :: capV idx σ) H' R)
    (q : ∀ D, H D = none → Q (.ref D) (upd H D (.lst (ns.filterMap f)))) :
    ∀ D, H D = none → ∃ W : Nat → Nat → List V → Hp → Prop, (∃ m, W 0 m [] (upd H D (.lst []))) ∧ ∀ i m ys H2, W i m ys H2 →
      ((Itl K a).stop i H2 ∧ Q (.ref D) H2) ∨ ((Itl K a).go i H2 ∧ ∀ x H3, (Itl K a).yld i H2 x H3 → ti (some x :: capV idx σ) H3 fun b H4 =>
        if b = true then te (some x :: capV idx σ) H4 fun y H5 => H5 D = some (.lst ys) ∧ ys.length < sizeLine ∧ ∃ m', m' < m ∧ W (i + 1) m' (ys ++ [y]) (upd H5 D (.lst (ys ++ [y])))
        else ∃ m', m' < m ∧ W (i + 1) m' ys H4) := by
  intro D hD
  refine (x9614 (fun i m ys H2 => m = ns.length - i ∧ i ≤ ns.length ∧ ys = (ns.take i).filterMap f ∧ H2 = upd H D (.lst ys)) (x5ff7 ns.length (by simp) (Nat.zero_le _) (by simp) rfl) ?_)
  rintro i m ys H2 ⟨rfl, hi, rfl, rfl⟩
  have hS2 : SqL K (upd H D (.lst ((ns.take i).filterMap f))) a (iV ns) := (same_n hD).seq hS
  by_cases hlt : i < ns.length
  · refine .inr ⟨(x90aa _ _ hS2 (by rw [List.getElem?_map, List.getElem?_eq_getElem hlt]; rfl)), ?_⟩
    rintro x H3 ⟨rfl, hx⟩
    obtain ⟨n, hn, rfl⟩ := j6d (hx _ hS2)
    have hm : n ∈ ns := List.mem_of_getElem? hn
    have tk : ns.take (i + 1) = ns.take i ++ [n] := by rw [List.take_succ, hn]; rfl
    refine ht n hm _ _ ?_
    cases e : f n with
    | none =>
      rw [Option.isSome_none, if_neg (by simp)]
      refine (x7ea0 (ns.length - (i + 1)) (by exact o586b3 hlt) rfl hlt ?_ rfl)
      rw [tk, List.filterMap_append]
      simp [e]
    | some v =>
      rw [Option.isSome_some, if_pos rfl]
      refine he n hm v e _ _ (x3b98 j04 (j0z ?_) (x7ea0 (ns.length - (i + 1)) (by exact o586b3 hlt) rfl hlt ?_ (by rw [j2u])))
      · have := fm_len f (ns.take i)
        rw [List.length_take] at this
        exact o3c9ad hl this
      rw [tk, List.filterMap_append]
      simp [e]
  have : i = ns.length := by exact o4e44a hi hlt
  subst this
  refine .inl ⟨(x9614 _ hS2 (by rw [j0e]; exact Nat.le_refl _)), ?_⟩
  rw [List.take_of_length_le (Nat.le_refl _)]
  exact q D hD
theorem jar {K : PySem.W.Frag} {a : Addr} {ns : List Int} {tl : TE} {idx : List Nat} {ti : TT} {te : TE} {σ : L2.St} {H : Hp} {Q : VK} (f : Int → Option V) (htl : ∀ R : VK, R (.ref a) H → tl σ H R) (hS : SqL K H a (iV ns)) (hl : ns.length ≤ 1000)
    (ht : ∀ n ∈ ns, ∀ (H' : Hp) (R : Bool → Hp → Prop), R (f n).isSome H' → ti (some (.int n) :: capV idx σ) H' R)
    (he : ∀ n ∈ ns, ∀ v, f n = some v → ∀ (H' : Hp) (R : VK), R v H' → te (some (.int n) :: capV idx σ) H' R)
    (q : ∀ D, H D = none → Q (.ref D) (upd H D (.lst (ns.filterMap f)))) : tComp (iList K tl) idx ti te σ H Q :=
  htl _ (x0c0c a rfl ⟨_, hS⟩ (jaq f hS hl ht he q))
theorem j6e {X : Cx} {K : PySem.W.Frag} (e : X.K = K) : j37 X (.builtin "isinstance") (fun xs H Q => ∃ x T c t b, xs = [x, T] ∧ tyVal T = some c ∧ TyOf K H x t ∧ PySem.W.kitOne K t c = some b ∧ Q (.bl b) H) := e ▸ j1w
theorem fm_ints (g : Int → Option Int) (ns : List Int) : ns.filterMap (fun n => (g n).map V.int) = iV (ns.filterMap g) := by
  induction ns with
  | nil => rfl
  | cons x t ih =>
    rw [List.filterMap_cons, List.filterMap_cons]
    cases g x with
    | none => exact ih
    | some y => exact congrArg (V.int y :: ·) ih
theorem j79 {α : Type} {gs : List α} {i : Nat} {g : α} (h : gs[i]? = some g) : gs.take (i + 1) = gs.take i ++ [g] := by rw [List.take_succ, h]; rfl
theorem iV_sn (l : List Int) (x : Int) : iV l ++ [V.int x] = iV (l ++ [x]) := by unfold iV; rw [List.map_append]; rfl
theorem iV_app (l m : List Int) : iV l ++ iV m = iV (l ++ m) := by unfold iV; rw [List.map_append]
end L3
end
noncomputable section
namespace Stb
open PySem
abbrev Up (l : List Nat) : Prop := l.Pairwise (· < ·)
theorem jas {l : List Nat} (h : Up l) {i j : Nat} {x y : Nat} (hij : i < j) (hi : l[i]? = some x) (hj : l[j]? = some y) : x < y := by
  obtain ⟨hi', rfl⟩ := List.getElem?_eq_some_iff.mp hi
  obtain ⟨hj', rfl⟩ := List.getElem?_eq_some_iff.mp hj
  exact List.pairwise_iff_getElem.mp h i j hi' hj' hij
noncomputable def At (l : List Nat) (j p : Nat) : Prop := p ≤ l.length ∧ (∀ i x, i < p → l[i]? = some x → x < j) ∧ ∀ i x, p ≤ i → l[i]? = some x → j ≤ x
theorem at_one {l : List Nat} {j p q : Nat} (hp : At l j p) (hq : At l j q) : p = q := by
  rcases Nat.lt_trichotomy p q with h | h | h
  · have hl : p < l.length := Nat.lt_of_lt_of_le h hq.1
    have h1 := hp.2.2 p _ (Nat.le_refl _) (List.getElem?_eq_getElem hl)
    have h2 := hq.2.1 p _ h (List.getElem?_eq_getElem hl)
    exact o0b728 h1 h2
  · exact h
  have hl : q < l.length := Nat.lt_of_lt_of_le h hp.1
  have h1 := hq.2.2 q _ (Nat.le_refl _) (List.getElem?_eq_getElem hl)
  have h2 := hp.2.1 q _ h (List.getElem?_eq_getElem hl)
  exact o0b728 h1 h2
theorem j5e {xs : Array Nat} {j : Nat} (up : Up xs.toList) : ∀ (f lo hi : Nat), hi - lo ≤ f → lo ≤ hi → hi ≤ xs.size → (∀ i x, i < lo → xs.toList[i]? = some x → x < j) → (∀ i x, hi ≤ i → xs.toList[i]? = some x → j ≤ x) → At xs.toList j (SetTable.below.go xs j f lo hi)
  | 0, lo, hi, hf, hl, hs, h1, h2 => by
    have e : lo = hi := by exact oc90d3 hf hl
    subst e
    unfold SetTable.below.go
    exact (x3b98 (by simpa using hs) h1 h2)
  | f + 1, lo, hi, hf, hl, hs, h1, h2 => by
    unfold SetTable.below.go
    by_cases c : lo < hi
    · rw [if_pos c]
      have hm : (lo + hi) / 2 < xs.size := by exact o9f09c hs c
      have em : xs.getD ((lo + hi) / 2) j = xs[(lo + hi) / 2] := by simp [hm]
      have el : xs.toList[(lo + hi) / 2]? = some xs[(lo + hi) / 2] := by simp [hm]
      dsimp only
      rw [em]
      by_cases d : xs[(lo + hi) / 2] < j
      · rw [if_pos d]
        refine j5e up f _ hi (by exact o8a340 hf) (by exact oce99a c) hs (fun i x hi' hx => ?_) h2
        by_cases e : i = (lo + hi) / 2
        · rw [e, el] at hx
          cases hx
          exact d
        exact Nat.lt_trans (jas up (by exact o109ca hi' e) hx el) d
      rw [if_neg d]
      refine j5e up f lo _ (by exact o36505 hf) (by exact o520a1 c) (by exact odbe37 hm) h1 fun i x hi' hx => ?_
      by_cases e : i = (lo + hi) / 2
      · rw [e, el] at hx
        cases hx
        exact o6f490 d
      have := jas up (show (lo + hi) / 2 < i by exact oef8fb hi' e) el hx
      exact o1c5cd d this
    rw [if_neg c]
    have e : lo = hi := by exact o4e44a hl c
    subst e
    exact (x3b98 (by simpa using hs) h1 h2)
theorem j5f {xs : Array Nat} (up : Up xs.toList) (j : Nat) : At xs.toList j (SetTable.below xs j) :=
  j5e up _ 0 xs.size (by exact o1d7e4) (Nat.zero_le _) (Nat.le_refl _) (fun i x h _ => absurd h (Nat.not_lt_zero _)) fun i x h hx => by
    have := (List.getElem?_eq_some_iff.mp hx).1
    simp at this
    exact o1d33c h this
theorem j8z {xs : Array Nat} (up : Up xs.toList) : SetTable.below xs 0 = 0 :=
  at_one (j5f up 0) (x3b98 (Nat.zero_le _) (fun i x h _ => absurd h (Nat.not_lt_zero _)) (fun _ _ _ _ => Nat.zero_le _))
theorem j90 {xs : Array Nat} (up : Up xs.toList) {i x : Nat} (h : xs[i]? = some x) : SetTable.below xs (x + 1) = i + 1 := by
  have h' : xs.toList[i]? = some x := by rw [Array.getElem?_toList]; exact h
  have hl := (List.getElem?_eq_some_iff.mp h').1
  refine at_one (j5f up _) (x3b98 (by exact odad2c hl) (fun k y hk hy => ?_) (fun k y hk hy => ?_))
  · by_cases e : k = i
    · rw [e, h'] at hy; cases hy; exact ob8d30
    have := jas up (show k < i by exact oc0d91 hk e) hy h'; exact o63cad this
  have := jas up (show i < k by exact ocb160 hk) h' hy
  exact odad2c this
theorem j5g {α : Type} (xs : Array α) (p : Nat) (x : α) : (SetTable.insertAt xs p x).toList = xs.toList.take p ++ x :: xs.toList.drop p := by
  unfold SetTable.insertAt
  simp [List.take_of_length_le]
theorem jat {l : List Nat} {j p : Nat} (up : Up l) (ha : At l j p) (hn : l[p]? ≠ some j) : Up (l.take p ++ j :: l.drop p) := by
  refine List.pairwise_append.mpr (x3b98 (up.sublist (List.take_sublist _ _)) (List.pairwise_cons.mpr ⟨fun y hy => ?_, up.sublist (List.drop_sublist _ _)⟩) (fun x hx y hy => ?_))
  · obtain ⟨k, hk, rfl⟩ := List.getElem_of_mem hy
    have hk' : l[p + k]? = some (l.drop p)[k] := by rw [List.getElem_drop, List.getElem?_eq_getElem]
    have h1 := ha.2.2 (p + k) _ (by exact o4937f) hk'
    rcases Nat.lt_or_ge j (l.drop p)[k] with c | c
    · exact c
    have e : (l.drop p)[k] = j := by exact o42a31 h1 c
    rw [e] at hk'
    by_cases k0 : k = 0
    · subst k0; exact absurd hk' hn
    have hp : p < l.length := by have := (List.getElem?_eq_some_iff.mp hk').1; exact o4b6d9 this
    have h2 := ha.2.2 p _ (Nat.le_refl _) (List.getElem?_eq_getElem hp)
    have h3 := jas up (show p < p + k by exact o2826e k0) (List.getElem?_eq_getElem hp) hk'
    exact o2e6ae h2 h3
  obtain ⟨i, hi, rfl⟩ := List.getElem_of_mem hx
  have hi' : i < p := by simp at hi; exact o167c2 hi
  have h1 := ha.2.1 i (l.take p)[i] hi' (by rw [List.getElem_take, List.getElem?_eq_getElem])
  rcases List.mem_cons.mp hy with rfl | hy
  · exact h1
  obtain ⟨k, hk, rfl⟩ := List.getElem_of_mem hy
  have hk' : l[p + k]? = some (l.drop p)[k] := by rw [List.getElem_drop, List.getElem?_eq_getElem]
  have h2 := ha.2.2 (p + k) _ (by exact o4937f) hk'
  exact o63b20 h1 h2
theorem j85 (n : Nat) : Up (List.range n) := List.pairwise_lt_range
theorem up_live {β : Type} (f : Nat → Option β) (n : Nat) : Up (((List.range n).filterMap fun j => (f j).map (j, ·)).map (·.1)) := by
  refine List.pairwise_map.mpr ?_
  refine List.Pairwise.filterMap _ (fun a a' h b hb b' hb' => ?_) (j85 n)
  cases e : f a with
  | none => rw [e] at hb; cases hb
  | some u => cases e' : f a' with
    | none => rw [e'] at hb'; cases hb'
    | some v =>
      rw [e] at hb; rw [e'] at hb'
      cases hb; cases hb'
      exact h
structure TI (L : Bool) (t : SetTable) : Prop where
  led : t.led = L
  up : Up t.place.toList
  dm : t.dummies = #[]
theorem TI.standIn {L : Bool} {t : SetTable} (h : TI L t) (n : Nat) : TI L (t.standIn n) := ⟨h.led, by show Up (Array.range n).toList; simpa using j85 n, rfl⟩
theorem TI.orStandIn {L : Bool} {t : SetTable} (h : TI L t) (n : Nat) : TI L (t.orStandIn n) := by
  unfold SetTable.orStandIn
  split
  · exact h
  exact h.standIn n
theorem j91 {t : SetTable} (hd : t.dummies = #[]) (j : Nat) : (t.slot j = .empty ∧ t.place[SetTable.below t.place j]? ≠ some j) ∨ ∃ i, t.slot j = .live i := by
  unfold SetTable.slot
  dsimp only
  by_cases c : (t.place[SetTable.below t.place j]? == some j) = true
  · rw [if_pos c]; exact .inr ⟨_, rfl⟩
  rw [if_neg c]
  have e : SetTable.has t.dummies j = false := by rw [hd]; rfl
  rw [e]
  exact .inl ⟨rfl, fun z => c (by rw [z]; exact beq_self_eq_true _)⟩
theorem j86 {t : SetTable} (hd : t.dummies = #[]) {g : Nat → Int} {h : Int} : ∀ (f : Nat) (p : SetTable.Probe) (j : Nat) (dmy : Option Nat), p.dummy = none → SetTable.probe.go t g h f p = some (.empty j dmy) → dmy = none ∧ t.place[SetTable.below t.place j]? ≠ some j
  | 0, p, j, dmy, hp, e => by unfold SetTable.probe.go at e; cases e
  | f + 1, p, j, dmy, hp, e => by
    unfold SetTable.probe.go at e
    rcases j91 hd p.j with ⟨s, n⟩ | ⟨i, s⟩
    · rw [s] at e
      dsimp only at e
      cases e
      exact ⟨hp, n⟩
    rw [s] at e
    dsimp only at e
    split at e
    · cases e
    refine j86 hd f _ j dmy ?_ e
    unfold SetTable.advance
    split
    · exact hp
    exact hp
theorem j7a {t : SetTable} (hd : t.dummies = #[]) {h : Int} {j : Nat} {b : Bool} (e : t.freeSlot h = some (j, b)) : t.place[SetTable.below t.place j]? ≠ some j := by
  unfold SetTable.freeSlot at e
  split at e
  · rename_i k dmy hp
    have := j86 hd _ _ _ _ rfl hp
    obtain ⟨rfl, n⟩ := this
    cases e
    exact n
  cases e
theorem TI.put {L : Bool} {t : SetTable} (h : TI L t) {j : Nat} (hn : t.place[SetTable.below t.place j]? ≠ some j) : TI L (t.put j).1 := by
  unfold SetTable.put
  refine ⟨h.led, ?_, ?_⟩
  · show Up (SetTable.insertAt t.place (SetTable.below t.place j) j).toList
    rw [j5g]
    exact jat h.up (j5f h.up j) (by rw [Array.getElem?_toList]; exact hn)
  show (if SetTable.has t.dummies j = true then _ else t.dummies) = #[]
  have e : SetTable.has t.dummies j = false := by rw [h.dm]; rfl
  rw [e]
  exact h.dm
theorem TI.layNew {L : Bool} {t : SetTable} (h : TI L t) (es : Array (Int × Value)) (hs : Int) (x : Value) : TI L (layNew t es hs x).2.1 := by
  unfold PySem.layNew
  split
  · rename_i slot wd hf
    exact (h.put (j7a h.dm hf)).orStandIn _
  exact h.standIn _
theorem TI.relayAll {L : Bool} {t : SetTable} (h : TI L t) (es : Array (Int × Value)) (n : Nat) : TI L (relayAll t es n).2.1 := by
  unfold PySem.relayAll
  split
  · rename_i t' order hr
    have ht : TI L t' := by
      unfold SetTable.relaid SetTable.laid at hr
      cases ho : SetTable.layClean (SetTable.sizeAbove n - 1) (es.map (·.1)) with
      | none => rw [ho] at hr; cases hr
      | some owner =>
        rw [ho] at hr
        cases hr
        refine ⟨h.led, ?_, rfl⟩
        have := up_live (fun j => owner.getD j none) (SetTable.sizeAbove n - 1 + 1)
        simpa using this
    show TI L (if (coversAll order es.size && t'.fits (Array.filterMap (fun x => es[x]?) order).size) = true then (Array.filterMap (fun x => es[x]?) order, t', false) else (es, t.standIn es.size, true)).2.1
    split
    · exact ht
    exact h.standIn _
  exact h.standIn _
theorem TI.fresh (L : Bool) : TI L (.fresh 0 0 L) := ⟨rfl, by show Up (#[] : Array Nat).toList; exact List.Pairwise.nil, rfl⟩
end Stb
end
noncomputable section
namespace Stb
open PySem PyProof.Rows
noncomputable def nm : Value → Int
  | .int n _ => n
  | _ => 0
abbrev stO (es : Array (Int × Value)) (ep : Nat) (t : SetTable) : Obj := { cls := .type "set", dict := none, data := .set es ep t }
noncomputable def IE (e : Int × Value) : Prop := ∃ n t, e.2 = .int n t ∧ e.1 = hashInt n
structure SE (L : Bool) (ns : List Int) (es : Array (Int × Value)) (t : SetTable) : Prop where
  ie : ∀ e ∈ es.toList, IE e
  fit : t.fits es.size = true
  ti : TI L t
  pm : (es.toList.map fun e => nm e.2).Perm ns
noncomputable def SO (L : Bool) (h : Heap) (a : Addr) (ns : List Int) : Prop := ∃ es ep t, h.get? a = some (stO es ep t) ∧ SE L ns es t
noncomputable def ded (ns : List Int) (k : Int) : List Int := if k ∈ ns then ns else ns ++ [k]
noncomputable def dd (ns : List Int) : List Int := ns.foldl ded []
theorem dd_snoc (ns : List Int) (k : Int) : dd (ns ++ [k]) = ded (dd ns) k := by unfold dd; rw [List.foldl_append]; rfl
theorem ded_mem {ns : List Int} {k x : Int} : x ∈ ded ns k ↔ x ∈ ns ∨ x = k := by
  unfold ded
  split
  · exact ⟨.inl, fun z => z.elim id fun e => e ▸ ‹_›⟩
  simp
theorem ded_len (ns : List Int) (k : Int) : (ded ns k).length ≤ ns.length + 1 := by
  unfold ded
  split
  · exact oa7bba
  simp
theorem j6f : ∀ (l acc : List Int) (x : Int), x ∈ l.foldl ded acc ↔ x ∈ acc ∨ x ∈ l
  | [], acc, x => by simp
  | k :: l, acc, x => by
    rw [List.foldl_cons, j6f l, ded_mem, List.mem_cons]
    exact ⟨fun z => by rcases z with (z | z) | z <;> simp [z], fun z => by rcases z with z | z | z <;> simp [z]⟩
theorem dd_mem {ns : List Int} {x : Int} : x ∈ dd ns ↔ x ∈ ns := by
  unfold dd
  rw [j6f]
  simp
theorem j6g : ∀ (l acc : List Int), (l.foldl ded acc).length ≤ acc.length + l.length
  | [], acc => by simp
  | k :: l, acc => by
    have h1 := j6g l (ded acc k)
    have h2 := ded_len acc k
    rw [List.foldl_cons, List.length_cons]
    exact oba178 h1 h2
theorem jau (ns : List Int) : (dd ns).length ≤ ns.length := by have := j6g ns []; unfold dd; simpa using this
theorem jav : ∀ {vs : List Value}, (∀ v ∈ vs, ∃ n t, v = .int n t) → IntsAre vs (vs.map nm)
  | [], _ => .nil
  | v :: vs, h => by
    obtain ⟨n, t, rfl⟩ := h v List.mem_cons_self
    exact .cons n t (jav fun u hu => h u (List.mem_cons_of_mem _ hu))
section
variable {prog : Program} {w : World} {A : Around} {E : Value → Shared → Prop} {s : Shared} {L : Bool}
theorem elemsOf {l : List (Int × Value)} (h : ∀ e ∈ l, IE e) : ElemsOf (intKind prog w) l := fun e he => by
  obtain ⟨n, t, e1, e2⟩ := h e he
  exact ⟨(x9614 n (by rw [e1]; exact intKind_is _ _ _ _) e2), by rw [e1]; rfl⟩
theorem put_at {h : Heap} {a : Addr} {es es1 : Array (Int × Value)} {ep : Nat} {t t1 : SetTable} (ho : h.get? a = some (stO es ep t)) : (h.update a (Obj.putSet es1 t1)).get? a = some (stO es1 (ep + 1) t1) :=
  Heap.get?_update_self (Obj.putSet es1 t1) ho rfl
theorem SE.size {ns : List Int} {es : Array (Int × Value)} {t : SetTable} (h : SE L ns es t) : es.size = ns.length := by
  rw [← Array.length_toList, ← h.pm.length_eq, List.length_map]
theorem se_lay {ns : List Int} {es es1 : Array (Int × Value)} {t t1 : SetTable} {k : Int} {tk : Tok} (h : SE L ns es t) (p : es1.toList.Perm (es.toList ++ [(hashInt k, .int k tk)])) (f : t1.fits es1.size = true) (i : TI L t1) : SE L (ns ++ [k]) es1 t1 where
  ie := fun e he => by
    rcases List.mem_append.mp (p.mem_iff.mp he) with z | z
    · exact h.ie e z
    rw [List.mem_singleton] at z
    subst z
    exact (x90aa k tk rfl rfl)
  fit := f
  ti := i
  pm := (p.map _).trans (by rw [List.map_append]; exact h.pm.append_right [k])
theorem so_add {a : Addr} {k : Int} {tk : Tok} {ns : List Int} {Q : Bool → Shared → Prop} (h : SO L s.heap a ns) (hb : ns.length + 1 < scanBound)
    (q : ∀ h' b, Heap.SameBut a s.heap h' → SO L h' a (ded ns k) → Q b { s with heap := h' }) : wpAny (model prog w) A (setAddHashed a (.int k tk) (hashInt k)) Q E s := by
  obtain ⟨es, ep, t, ho, se⟩ := h
  have sz := se.size
  have el := elemsOf (prog := prog) (w := w) se.ie
  unfold setAddHashed setAddHashedIn
  refine wpAny_holding (wpAny_bind (wpAny_setState_of ho rfl se.fit ?_))
  dsimp only
  rw [byScan_of (knd := intKind prog w) (x := .int k tk) rfl (by exact oeecd4 hb sz) el, if_pos rfl]
  refine wpAny_bind ?_
  unfold setAddByScan
  refine wpAny_bind (wpAny_rule (wpAny_bind (wpAny_setScan_of (knd := intKind prog w) (k := k) (intKind_is _ _ _ _) ho rfl se.fit el ?_)))
  cases hr : List.findIdx? (fun e => (intKind prog w).is k e.2) es.toList with
  | some j =>
    obtain ⟨hj, hp, _⟩ := List.findIdx?_eq_some_iff_getElem.mp hr
    have hk : k ∈ ns := by
      obtain ⟨u, e⟩ := Value.isInt_shape (show Value.isInt k es.toList[j].2 = true from hp)
      refine se.pm.mem_iff.mp (List.mem_map.mpr (x9614 (es.toList[j]) (List.getElem_mem hj) ?_))
      rw [e]
      rfl
    have := q s.heap false (Heap.SameBut.refl a s.heap) (x8f53 es ep t ho (by unfold ded; rw [if_pos hk]; exact se))
    exact wpAny_pure (wpAny_pure this)
  | none =>
    have hk : k ∉ ns := fun z => by
      obtain ⟨e, he, z⟩ := List.mem_map.mp (se.pm.mem_iff.mpr z)
      obtain ⟨n, u, e1, _⟩ := se.ie e he
      have := List.findIdx?_eq_none_iff.mp hr e he
      rw [e1] at z
      cases (show n = k from z)
      rw [e1, intKind_is] at this
      cases this
    have p1 := layNew_perm t es (hashInt k) (.int k tk)
    have f1 := layNew_fits t es (hashInt k) (.int k tk)
    have i1 := se.ti.layNew es (hashInt k) (.int k tk)
    have q' : ∀ h', Heap.SameBut a s.heap h' → SO L h' a (ns ++ [k]) → Q true { s with heap := h' } := fun h' h1 h2 => q h' true h1 (by unfold ded; rw [if_neg hk]; exact h2)
    dsimp only
    generalize layNew t es (hashInt k) (.int k tk) = Z at p1 f1 i1 ⊢
    obtain ⟨es1, t1, wd, gave⟩ := Z
    dsimp only at p1 f1 i1 ⊢
    rw [Array.toList_push] at p1
    have se1 := se_lay (tk := tk) se p1 f1 i1
    have b1 : es1.size < scanBound := by rw [se1.size, List.length_append]; simpa using hb
    refine wpAny_bind ?_
    have rest : wpAny (model prog w) A (do
        let byValue ← if t1.plain then hashByValue 8 (.int k tk) else pure true
        let t := if byValue then t1 else { t1 with plain := false }
        storeSet a es1 t
        if !wd && t.tooFull then
          let (es, t, gave) := relayAll t es1 (SetTable.grown es1.size)
          (match gave with | true => rule "set.scan.the-table-gave-way" | false => pure ())
          storeSet a es t
        return some true) (fun r s' => wpAny (model prog w) A (match r with | some added => pure added | none => setAddHashedIn a (.int k tk) (hashInt k) 99999) Q E s') E s := by
      dsimp only
      refine (fun h => by
        by_cases c : t1.plain = true
        · rw [if_pos c]
          exact wpAny_bind (m := hashByValue 8 (.int k tk)) (wpAny_pure h)
        rw [if_neg c]
        exact wpAny_bind (wpAny_pure h) : ∀ h : _, _) ?_
      rw [if_pos rfl]
      refine wpAny_bind (wpAny_storeSet_of ho rfl ?_ (fits_of_scanBound b1))
      have o1 := put_at (es1 := es1) (t1 := t1) ho
      have sb1 := Heap.SameBut.update s.heap a (Obj.putSet es1 t1)
      split
      · have p2 := relayAll_perm t1 es1 (SetTable.grown es1.size)
        have f2 := relayAll_fits t1 es1 (SetTable.grown es1.size)
        have i2 := i1.relayAll es1 (SetTable.grown es1.size)
        generalize relayAll t1 es1 (SetTable.grown es1.size) = Y at p2 f2 i2
        obtain ⟨es2, t2, gave2⟩ := Y
        dsimp only at p2 f2 i2 ⊢
        have z2 : es2.size = es1.size := by rw [← Array.length_toList, p2.length_eq, Array.length_toList]
        refine wpAny_bind ?_
        have fin : wpAny (model prog w) A (do storeSet a es2 t2; pure (some true)) (fun r s' => wpAny (model prog w) A (match r with | some added => pure added | none => setAddHashedIn a (.int k tk) (hashInt k) 99999) Q E s') E { s with heap := s.heap.update a (Obj.putSet es1 t1) } := by
          refine wpAny_bind (wpAny_storeSet_of o1 rfl (wpAny_pure (wpAny_pure (q' _ (sb1.trans (Heap.SameBut.update _ a _)) (x8f53 es2 _ t2 (put_at o1) ?_)))) (fits_of_scanBound (by exact of37ed b1 z2)))
          exact ⟨fun e he => se1.ie e (p2.mem_iff.mp he), f2, i2, (p2.map _).trans se1.pm⟩
        cases gave2
        · exact wpAny_pure fin
        exact wpAny_rule fin
      exact wpAny_pure (wpAny_pure (q' _ sb1 (x8f53 es1 _ t1 o1 se1)))
    cases gave
    · exact wpAny_pure rest
    exact wpAny_rule rest
end
end Stb
end
noncomputable section
namespace Stb
open PySem PyProof.Rows
theorem j3c {α : Type} : ∀ {l : List α} {i : Nat} (h : i < l.length), (l[i] :: l.eraseIdx i).Perm l
  | [], _, h => absurd h (Nat.not_lt_zero _)
  | x :: t, 0, _ => List.Perm.refl _
  | x :: t, i + 1, h => by
    have h' : i < t.length := by simpa using h
    exact (List.Perm.swap x t[i] _).trans ((j3c h').cons x)
theorem jaw {α : Type} (next : Nat → Nat) : ∀ (f k : Nat) (left : List α) (out : Array α), left.length = f → (pickOrder.go next f k left out).toList.Perm (out.toList ++ left)
  | 0, k, left, out, h => by
    cases left with
    | nil => unfold pickOrder.go; simp
    | cons x t => simp at h
  | f + 1, k, left, out, h => by
    have hi : next k % left.length < left.length := Nat.mod_lt _ (by exact o4d1a2 h)
    unfold pickOrder.go
    rw [List.getElem?_eq_getElem hi]
    dsimp only
    refine (jaw next f (k + 1) _ _ (by rw [List.length_eraseIdx_of_lt hi]; exact oe404e h)).trans ?_
    rw [Array.toList_push, List.append_assoc]
    exact List.Perm.append_left _ (j3c hi)
theorem jax {α : Type} (next : Nat → Nat) (xs : Array α) : (pickOrder next xs).toList.Perm xs.toList := by
  have := jaw next xs.size 0 xs.toList #[] (by simp)
  simpa [pickOrder] using this
section
variable {prog : Program} {w : World} {A : Around} {E : Value → Shared → Prop} {s : Shared} {L : Bool}
theorem j92 {M : Model} {src : Source} {n : Nat} {Q : Nat → Shared → Prop} (hn : n ≠ 0) (h : ∀ i d, i < n → Q i { s with drawn := d }) : wpAny M A (choose src n) Q E s :=
  fun _ _ _ => ⟨hn, h _ _ (Nat.mod_lt _ (Nat.pos_of_ne_zero hn))⟩
theorem j87 {M : Model} {α : Type} : ∀ (n : Nat) (xs : List α) (s : Shared) (Q : List α → Shared → Prop), xs.length = n → (∀ ys d, ys.Perm xs → Q ys { s with drawn := d }) → wpAny M A (drawOrder n xs) Q E s
  | 0, xs, s, Q, h, q => by
    cases xs with
    | nil => exact wpAny_pure (q [] s.drawn (List.Perm.refl _))
    | cons x t => simp at h
  | n + 1, xs, s, Q, h, q => by
    cases xs with
    | nil => simp at h
    | cons x t =>
      unfold drawOrder
      refine wpAny_bind (j92 (by simp) fun i d hi => ?_)
      rw [List.getElem?_eq_getElem hi]
      dsimp only
      refine wpAny_bind (j87 n _ _ _ (by rw [List.length_eraseIdx_of_lt hi]; simp at h ⊢; exact o93f83 h) fun ys d' p => wpAny_pure ?_)
      exact q _ d' ((p.cons _).trans (j3c hi))
end
theorem j3s : Slot "set_iterator" "__next__" "set_iterator.__next__" := .of (owner := "set_iterator") (n := "__next__") (by rw [typeLookup_type, builtinLookup_eq_fast]; kernel_rfl) (by decide +kernel) (by decide +kernel) (by decide +kernel) (by first | exact .inl (by decide +kernel) | exact .inr (by decide +kernel)) (by rw [isSubtype_type]; kernel_rfl)
theorem j88 : Slot "set_iterator" "__iter__" "set_iterator.__iter__" := .of (owner := "set_iterator") (n := "__iter__") (by rw [typeLookup_type, builtinLookup_eq_fast]; kernel_rfl) (by decide +kernel) (by decide +kernel) (by decide +kernel) (by first | exact .inl (by decide +kernel) | exact .inr (by decide +kernel)) (by rw [isSubtype_type]; kernel_rfl)
theorem ent_sin : entryFor table "set_iterator.__next__" = some Builtin.«set_iterator.__next__» := entryFor_of_fast (by kernel_rfl)
theorem ent_sii : entryFor table "set_iterator.__iter__" = some Builtin.«dict_keyiterator.__iter__» := entryFor_alias (id' := "dict_keyiterator.__iter__") (by kernel_rfl) rfl (by decide +kernel) (by kernel_rfl)
theorem ent_si : entryFor table "set.__iter__" = some Builtin.«frozenset.__iter__» := entryFor_alias (id' := "frozenset.__iter__") (by kernel_rfl) rfl (by decide +kernel) (by kernel_rfl)
theorem ag_sin (a : Value) : argsOk "set_iterator.__next__" ⟨[a], []⟩ := by unfold argsOk; kernel_rfl
theorem ag_sii (a : Value) : argsOk "set_iterator.__iter__" ⟨[a], []⟩ := by unfold argsOk; kernel_rfl
abbrev itO (first : Value) (i : Nat) (S : Addr) (n ep : Nat) : Obj := { cls := .type "set_iterator", data := .fields #[first, .int i 0, .ref S, .int n 0, .int ep 0] }
abbrev tuO (ys : List Nat) : Obj := { cls := .type "tuple", data := .seq (ys.map fun i : Nat => rawInt i).toArray }
abbrev dr (es : Array (Int × Value)) (t : SetTable) : Bool := !t.plain && decide (es.size > 1)
section
variable {prog : Program} {w : World} {A : Around} {E : Value → Shared → Prop} {s : Shared} {L : Bool}
variable {I S T : Addr} {es : Array (Int × Value)} {ep : Nat} {t : SetTable} {i : Nat}
theorem iter_set {Q : Value → Shared → Prop} (ho : s.heap.get? S = some (stO es ep t)) (hf : t.fits es.size = true) (hz : es.size ≤ sizeLine)
    (q1 : (w.params.followText "set-order" = true ∨ dr es t = false) → Q (.ref s.heap.objs.size) { s with heap := s.heap.push (itO (.int 0 0) 0 S es.size ep) })
    (q2 : ∀ ys d, w.params.followText "set-order" = false → dr es t = true → ys.Perm (List.range es.size) → Q (.ref (s.heap.objs.size + 1)) { s with drawn := d, heap := (s.heap.push (tuO ys)).push (itO (.ref s.heap.objs.size) 0 S es.size ep) }) :
    wpAny (model prog w) A (pyIter (.ref S)) Q E s := by
  have hT : s.TypeIs (.ref S) "set" := (x9614 _ ho rfl)
  refine wpAny_pyIter_slot hT F.slot_set_iter (wpAny_call_entry F.slot_set_iter hT ent_si ?_ (F.args_set_iter_1 _))
  have fin : ∀ (first : Value) (s1 : Shared), s1.heap.get? S = some (stO es ep t) → Q (.ref s1.heap.objs.size) { s1 with heap := s1.heap.push (itO first 0 S es.size ep) } →
      wpAny (model prog w) A.in1 (do ret (← newFields "set_iterator" [first, rawInt 0, .ref S, rawInt es.size, rawInt (← setEpoch S)])) (fun fin s' => ∃ v, fin = .done (.ret v) ∧ ∃ T' r, s'.TypeIs v T' ∧ typeLookup (.type T') "__next__" = pure (some r) ∧ Q v s') E s1 := by
    intro first s1 h1 q
    refine wpAny_bind (wpAny_setEpoch_of h1 rfl hf ?_)
    refine wpAny_bind (wpAny_newObj_type (wpAny_pure (x7584 _ rfl ("set_iterator") _ (x9614 _ (Heap.get?_push_size _ rfl) rfl) j3s.lookup q)))
  show wpAny _ _ (do
    let n ← Builtin.Frozenset.sizeOf S
    let first ← if ← setDrawn S then newTuple ((← drawOrder n (List.range n)).map fun (i : Nat) => rawInt i) else pure (rawInt 0)
    ret (← newFields "set_iterator" [first, rawInt 0, .ref S, rawInt n, rawInt (← setEpoch S)])) _ _ s
  unfold Builtin.Frozenset.sizeOf setEntries
  refine wpAny_bind (wpAny_bind (wpAny_bind (wpAny_setState_of ho rfl hf (wpAny_pure (wpAny_pure ?_)))))
  dsimp only
  unfold setDrawn setsByText
  refine wpAny_bind (wpAny_bind (wpAny_setState_of ho rfl hf (wpAny_bind (wpAny_bind (wpAny_askSetting (wpAny_pure (wpAny_pure ?_)))))))
  show wpAny _ _ (if (!(w.params.followText "set-order") && dr es t) = true then _ else _) _ _ _
  cases hb : w.params.followText "set-order" with
  | true =>
    rw [hb] at q1
    rw [Bool.not_true, Bool.false_and, if_neg Bool.false_ne_true]
    exact wpAny_bind (wpAny_pure (fin _ s ho (q1 (.inl rfl))))
  | false =>
    rw [Bool.not_false, Bool.true_and]
    cases hd : dr es t with
    | false =>
      rw [if_neg Bool.false_ne_true]
      exact wpAny_bind (wpAny_pure (fin _ s ho (q1 (.inr hd))))
    | true =>
      rw [if_pos rfl]
      refine wpAny_bind (j87 es.size _ _ _ List.length_range fun ys d p => ?_)
      have hl : ys.length = es.size := by rw [p.length_eq, List.length_range]
      refine wpAny_bind (wpAny_newTuple (items := ys.map fun i : Nat => rawInt i) ?_ (by rw [List.length_map, hl]; exact hz))
      refine fin _ _ (Heap.get?_push_of_some _ ho) ?_
      have := q2 ys d hb hd p
      have e : (s.heap.push (tuO ys)).objs.size = s.heap.objs.size + 1 := Heap.size_push _ _
      rw [← e] at this
      exact this
inductive Wk (w : World) (h : Heap) (I S T : Addr) (es : Array (Int × Value)) (ep : Nat) (t : SetTable) (os : List Value) (i : Nat) : Prop
  | text (b : w.params.followText "set-order" = true) (hI : h.get? I = some (itO (.int 0 0) i S es.size ep)) (eo : os = (pickOrder (w.params.setOrder S ep) es).toList.map (·.2))
  | drawn (ys : List Nat) (hy : ys.Perm (List.range es.size)) (hI : h.get? I = some (itO (.ref T) i S es.size ep)) (hT : h.get? T = some (tuO ys)) (eo : os = ys.map fun j => (es.getD j (0, .none)).2)
  | plain (b : w.params.followText "set-order" = false) (d : dr es t = false) (j : Nat) (hI : h.get? I = some (itO (.int j 0) i S es.size ep)) (hj : SetTable.below t.place j = i) (eo : os = es.toList.map (·.2))
theorem Wk.perm {h : Heap} {os : List Value} (k : Wk w h I S T es ep t os i) : os.Perm (es.toList.map (·.2)) := by
  cases k with
  | text _ _ eo => rw [eo]; exact (jax _ es).map _
  | drawn ys hy _ _ eo =>
    rw [eo]
    refine (hy.map _).trans ?_
    have : (List.range es.size).map (fun j => (es.getD j (0, .none)).2) = es.toList.map (·.2) := by
      refine List.ext_getElem (by simp) fun j h1 h2 => ?_
      have hj : j < es.size := by simpa using h1
      simp [Array.getD, hj]
    rw [this]
  | plain _ _ _ _ _ eo => rw [eo]
theorem Wk.keep {h h' : Heap} {os : List Value} (k : Wk w h I S T es ep t os i) (c : ∀ b ∈ [I, S, T], ∀ o, h.get? b = some o → h'.get? b = some o) : Wk w h' I S T es ep t os i := by
  cases k with
  | text b hI eo => exact .text b (c I (by simp) _ hI) eo
  | drawn ys hy hI hT eo => exact .drawn ys hy (c I (by simp) _ hI) (c T (by simp) _ hT) eo
  | plain b d j hI hj eo => exact .plain b d j (c I (by simp) _ hI) hj eo
end
end Stb
end
noncomputable section
namespace Stb
open PySem PyProof.Rows
section
variable {prog : Program} {w : World} {A : Around} {E : Value → Shared → Prop} {s : Shared} {L : Bool}
variable {I S T : Addr} {es : Array (Int × Value)} {ep : Nat} {t : SetTable} {i : Nat}
theorem stop_any {B : Around} {α : Type} {P : α → Shared → Prop} (hh : B.handled = none) (h : ∀ e h', (∀ b o, s.heap.get? b = some o → h'.get? b = some o) → ({ s with heap := h' } : Shared).TypeIs e "StopIteration" → E e { s with heap := h' }) :
    wpAny (model prog w) B (newExc (.type "StopIteration") [] >>= fun e => (raiseNew e : Sem α)) P E s := by
  refine wpAny_bind ?_
  simp only [newExc, newTuple, raiseNew]
  refine wpAny_bind (wpAny_newObj_type (wpAny_bind (m := firstArgMember _ _) (wpAny_of_eq (a := Value.none) (by first | rfl | (simp only [firstArgMember]; rfl)) (wpAny_newObj_type ?_ (by size_fits)))) (by size_fits))
  refine wpAny_bind (wpAny_handled ?_)
  rw [hh]
  refine wpAny_bind (wpAny_pure (wpAny_throw ?_))
  refine h _ _ (fun b o e => ?_) (show Shared.TypeIs _ (.ref _) _ from (x9614 _ (Heap.get?_push_size _ rfl) rfl))
  exact Heap.get?_push_of_some _ (Heap.get?_push_of_some _ e)
theorem j3h {h : Heap} {a : Addr} {c : Value} {vs : Array Value} {k : Nat} {x : Value} (ho : h.get? a = some { cls := c, data := .fields vs }) : (h.update a (Obj.mapFields (·.setIfInBounds k x))).get? a = some { cls := c, data := .fields (vs.setIfInBounds k x) } :=
  Heap.get?_update_self _ ho rfl
theorem jay {slot given : Nat} {Q : Option (Value × Nat) → Shared → Prop} {B : Around} (b : w.params.followText "set-order" = true) (hS : s.heap.get? S = some (stO es ep t)) (hf : t.fits es.size = true)
    (q : Q (((pickOrder (w.params.setOrder S ep) es)[given]?).map fun e => (e.2, slot)) s) : wpAny (model prog w) B (setNext S slot given ep) Q E s := by
  have hb : ∀ {Q' : Bool → Shared → Prop}, Q' true s → wpAny (model prog w) B setsByText Q' E s := fun h => by
    unfold setsByText
    exact wpAny_bind (wpAny_askSetting (wpAny_pure (by show _ ; rw [show (model prog w).w.params.followText "set-order" = true from b]; exact h)))
  unfold setNext
  refine wpAny_bind (wpAny_setState_of hS rfl hf (wpAny_bind (hb ?_)))
  rw [if_pos rfl]
  dsimp only
  rw [bne_self_eq_false, if_neg Bool.false_ne_true]
  unfold setWalk
  refine wpAny_bind (wpAny_bind (wpAny_setState_of hS rfl hf (wpAny_bind (hb ?_))))
  rw [if_pos rfl]
  exact wpAny_bind (wpAny_askSetting (wpAny_pure (wpAny_pure q)))
theorem j93 {slot given : Nat} {Q : Option (Value × Nat) → Shared → Prop} {B : Around} (b : w.params.followText "set-order" = false) (d : dr es t = false) (hl : t.led = true) (hS : s.heap.get? S = some (stO es ep t)) (hf : t.fits es.size = true)
    (q : Q (match es[SetTable.below t.place slot]?, t.place[SetTable.below t.place slot]? with
      | some (_, x), some j => some (x, j + 1)
      | _, _ => none) s) : wpAny (model prog w) B (setNext S slot given ep) Q E s := by
  unfold setNext setsByText
  refine wpAny_bind (wpAny_setState_of hS rfl hf (wpAny_bind (wpAny_bind (wpAny_askSetting (wpAny_pure ?_)))))
  rw [show (model prog w).w.params.followText "set-order" = false from b, if_neg Bool.false_ne_true]
  dsimp only
  show wpAny _ _ (if dr es t = true then _ else _) _ _ _
  rw [d, if_neg Bool.false_ne_true]
  show wpAny _ _ ((if (!t.led && !es.isEmpty) = true then unsupported "set:maker-not-led" else pure ()) >>= _) _ _ _
  rw [hl, Bool.not_true, Bool.false_and, if_neg Bool.false_ne_true]
  exact wpAny_bind (wpAny_pure (wpAny_pure q))
theorem j94 {place : Nat} {Q : Value → Shared → Prop} {B : Around} {e : Int × Value} (hS : s.heap.get? S = some (stO es ep t)) (hf : t.fits es.size = true) (he : es[place]? = some e) (q : Q e.2 s) : wpAny (model prog w) B (setNextDrawn S place ep) Q E s := by
  unfold setNextDrawn
  refine wpAny_bind (wpAny_setState_of hS rfl hf ?_)
  dsimp only
  rw [bne_self_eq_false, if_neg Bool.false_ne_true, he]
  exact wpAny_pure q
theorem j89 {os : List Value} {Q : Option Value → Shared → Prop} (hh : A.handled = none) (hS : s.heap.get? S = some (stO es ep t)) (hf : t.fits es.size = true) (hl : w.params.followText "set-order" = false → t.led = true) (up : Up t.place.toList) (nS : S ≠ I) (nT : T ≠ I)
    (k : Wk w s.heap I S T es ep t os i)
    (q1 : ∀ v h', i < es.size → os[i]? = some v → Wk w h' I S T es ep t os (i + 1) → (∀ b, b ≠ I → h'.get? b = s.heap.get? b) → Q (some v) { s with heap := h' })
    (q2 : ∀ h', ¬ i < es.size → (∀ b o, b ≠ I → s.heap.get? b = some o → h'.get? b = some o) → Q none { s with heap := h' }) : wpAny (model prog w) A (pyNext (.ref I)) Q E s := by
  have ol : os.length = es.size := by rw [k.perm.length_eq, List.length_map, Array.length_toList]
  obtain ⟨first, hI⟩ : ∃ first, s.heap.get? I = some (itO first i S es.size ep) := by
    cases k with
    | text _ hI _ => exact ⟨_, hI⟩
    | drawn _ _ hI _ _ => exact ⟨_, hI⟩
    | plain _ _ _ hI _ _ => exact ⟨_, hI⟩
  have hT : s.TypeIs (.ref I) "set_iterator" := (x9614 _ hI rfl)
  unfold pyNext
  refine wpAny_bind (wpAny_attempt (wpAny_callSpecial?_slot (name := Str.ofString "__next__") hT j3s (wpAny_call_entry j3s hT ent_sin ?_ (ag_sin _))))
  have stop : ∀ {h' : Heap}, ¬ i < es.size → (∀ b o, b ≠ I → s.heap.get? b = some o → h'.get? b = some o) → ∀ {R : Fin → Shared → Prop}, wpAny (model prog w) A.in1 (newExc (.type "StopIteration") [] >>= fun e => (raiseNew e : Sem Fin)) R
      (fun x s' => wpAny (model prog w) A (do if ← isInstance x (.type "StopIteration") then pure none else throw x) Q E s') { s with heap := h' } := by
    intro h' hn ex R
    refine stop_any (by simpa using hh) fun e h2 k2 ty => ?_
    refine wpAny_bind (wpAny_isInstance (b := true) ty isSubtype_stop ?_)
    exact wpAny_pure (q2 h2 hn fun b o hb e => k2 b o (ex b o hb e))
  have upd2 : ∀ (u v : Value) b, b ≠ I → ((s.heap.update I (Obj.mapFields (·.setIfInBounds 0 u))).update I (Obj.mapFields (·.setIfInBounds 1 v))).get? b = s.heap.get? b := fun u v b hb => by
    rw [Heap.get?_update_other _ _ (Ne.symm hb), Heap.get?_update_other _ _ (Ne.symm hb)]
  show wpAny _ _ (fieldsOf (.ref I) >>= _) _ _ s
  refine wpAny_bind (wpAny_fieldsOf hI rfl ?_)
  show wpAny _ _ (setEntries S >>= _) _ _ s
  refine wpAny_bind (wpAny_setEntries_of hS rfl hf ?_)
  rw [if_neg (by simp)]
  cases k with
  | text b hI' eo =>
    rw [hI] at hI'
    obtain rfl : first = .int 0 0 := by simpa using hI'
    show wpAny _ _ (setNext S 0 i ep >>= _) _ _ s
    refine wpAny_bind (jay b hS hf ?_)
    have eg : (pickOrder (w.params.setOrder S ep) es)[i]?.map (·.2) = os[i]? := by rw [eo, List.getElem?_map, Array.getElem?_toList]
    by_cases hi : i < es.size
    · rw [List.getElem?_eq_getElem (by exact o18d53 ol hi)] at eg
      cases ep' : (pickOrder (w.params.setOrder S ep) es)[i]? with
      | none => rw [ep'] at eg; cases eg
      | some e =>
        rw [ep'] at eg
        show wpAny _ _ (setField (.ref I) 0 (rawInt ((0 : Nat) : Int)) >>= _) _ _ s
        refine wpAny_bind (wpAny_setField hI rfl (by simp) (wpAny_bind (wpAny_setField (j3h hI) rfl (by simp) (wpAny_pure (x9614 e.2 rfl (wpAny_pure ?_))))))
        refine q1 e.2 _ hi (by rw [List.getElem?_eq_getElem (by exact o18d53 ol hi)]; exact eg.symm) (.text b ?_ eo) (upd2 _ _)
        rw [j3h (j3h hI)]
        rfl
    have en : (pickOrder (w.params.setOrder S ep) es)[i]? = none := by
      rw [List.getElem?_eq_none (by exact o77cee ol hi)] at eg
      exact Option.map_eq_none_iff.mp eg
    rw [en]
    show wpAny _ _ (setField (.ref I) 2 .none >>= _) _ _ s
    exact wpAny_bind (wpAny_setField hI rfl (by simp) (stop hi fun b o hb e => by rw [Heap.get?_update_other _ _ (Ne.symm hb)]; exact e))
  | plain b d j hI' hj eo =>
    rw [hI] at hI'
    obtain rfl : first = .int j 0 := by simpa using hI'
    show wpAny _ _ (setNext S j i ep >>= _) _ _ s
    refine wpAny_bind (j93 b d (hl b) hS hf ?_)
    rw [hj]
    have pz : t.place.size = es.size := by
      unfold SetTable.fits at hf
      simp at hf
      exact hf.1
    by_cases hi : i < es.size
    · have hp : i < t.place.size := by exact o18d53 pz hi
      have e1 : es[i]? = some (es[i].1, es[i].2) := by simp [hi]
      have e2 : t.place[i]? = some t.place[i] := by simp [hp]
      rw [e1, e2]
      show wpAny _ _ (setField (.ref I) 0 (rawInt ((t.place[i] + 1 : Nat) : Int)) >>= _) _ _ s
      refine wpAny_bind (wpAny_setField hI rfl (by simp) (wpAny_bind (wpAny_setField (j3h hI) rfl (by simp) (wpAny_pure (x9614 (es[i].2) rfl (wpAny_pure ?_))))))
      refine q1 es[i].2 _ hi (by rw [eo]; simp [hi]) (.plain b d (t.place[i] + 1) ?_ (j90 up e2) eo) (upd2 _ _)
      rw [j3h (j3h hI)]
      rfl
    have e1 : es[i]? = none := by simp; exact o6f490 hi
    rw [e1]
    show wpAny _ _ (setField (.ref I) 2 .none >>= _) _ _ s
    exact wpAny_bind (wpAny_setField hI rfl (by simp) (stop hi fun b o hb e => by rw [Heap.get?_update_other _ _ (Ne.symm hb)]; exact e))
  | drawn ys hy hI' hT' eo =>
    rw [hI] at hI'
    obtain rfl : first = .ref T := by simpa using hI'
    show wpAny _ _ (seqItems? (.ref T) >>= _) _ _ s
    refine wpAny_bind (wpAny_seqItems hT' rfl ?_)
    have yl : ys.length = es.size := by rw [hy.length_eq, List.length_range]
    by_cases hi : i < es.size
    · have hy' : i < ys.length := by exact o18d53 yl hi
      have hp : ys[i] < es.size := List.mem_range.mp (hy.mem_iff.mp (List.getElem_mem hy'))
      have e1 : ((ys.map fun i : Nat => rawInt i).toArray)[(i : Int).toNat]? = some (.int ys[i] 0) := by simp [hy', rawInt]
      dsimp only
      rw [e1]
      show wpAny _ _ (setNextDrawn S ys[i] ep >>= _) _ _ s
      refine wpAny_bind (j94 (e := es[ys[i]]) hS hf (by simp [hp]) ?_)
      refine wpAny_bind (wpAny_setField hI rfl (by simp) (wpAny_pure (x9614 _ rfl (wpAny_pure ?_))))
      refine q1 _ _ hi (by rw [eo]; simp [hy', Array.getD, hp]) (.drawn ys hy ?_ ?_ eo) (fun b hb => Heap.get?_update_other _ _ (Ne.symm hb))
      · rw [j3h hI]
        rfl
      rw [Heap.get?_update_other _ _ (Ne.symm nT)]
      exact hT'
    have e1 : ((ys.map fun i : Nat => rawInt i).toArray)[(i : Int).toNat]? = none := by simp; exact o77cee yl hi
    dsimp only
    rw [e1]
    show wpAny _ _ (setField (.ref I) 0 (rawInt 0) >>= _) _ _ s
    refine wpAny_bind (wpAny_setField hI rfl (by simp) (wpAny_bind (wpAny_setField (j3h hI) rfl (by simp) ?_)))
    exact stop hi fun b o hb e => by rw [Heap.get?_update_other _ _ (Ne.symm hb), Heap.get?_update_other _ _ (Ne.symm hb)]; exact e
end
end Stb
end
noncomputable section
namespace Stb
open PySem PyProof.Rows
section
variable {prog : Program} {w : World} {A : Around} {E : Value → Shared → Prop} {s : Shared} {L : Bool}
variable {I S T : Addr} {es : Array (Int × Value)} {ep : Nat} {t : SetTable} {i : Nat}
theorem jaz {Q : Value → Shared → Prop} (ho : s.heap.get? S = some (stO es ep t)) (hf : t.fits es.size = true) (hz : es.size ≤ sizeLine) (up : Up t.place.toList)
    (q : ∀ I T d h2 os, Wk w h2 I S T es ep t os 0 → S < s.heap.objs.size → s.heap.objs.size ≤ I → (T = S ∨ s.heap.objs.size ≤ T) → T ≠ I → (∀ b o, s.heap.get? b = some o → h2.get? b = some o) → Q (.ref I) { s with drawn := d, heap := h2 }) :
    wpAny (model prog w) A (pyIter (.ref S)) Q E s := by
  have hs := Heap.lt_size ho
  refine iter_set ho hf hz (fun c => ?_) fun ys d b dd p => ?_
  · have hI : (s.heap.push (itO (.int 0 0) 0 S es.size ep)).get? s.heap.objs.size = some (itO (.int 0 0) 0 S es.size ep) := Heap.get?_push_size _ rfl
    by_cases b : w.params.followText "set-order" = true
    · exact q s.heap.objs.size S s.drawn _ _ (.text b hI rfl) hs (Nat.le_refl _) (.inl rfl) (Nat.ne_of_lt hs) fun b o e => Heap.get?_push_of_some _ e
    exact q s.heap.objs.size S s.drawn _ _ (.plain (by simpa using b) (c.elim (fun z => absurd z b) id) 0 hI (j8z up) rfl) hs (Nat.le_refl _) (.inl rfl) (Nat.ne_of_lt hs) fun b o e => Heap.get?_push_of_some _ e
  have e1 : (s.heap.push (tuO ys)).objs.size = s.heap.objs.size + 1 := Heap.size_push _ _
  refine q (s.heap.objs.size + 1) s.heap.objs.size d _ _ (.drawn ys p ?_ ?_ rfl) hs (Nat.le_succ _) (.inr (Nat.le_refl _)) (Nat.ne_of_lt (Nat.lt_succ_self _)) fun b o e => Heap.get?_push_of_some _ (Heap.get?_push_of_some _ e)
  · rw [← e1]
    exact Heap.get?_push_size _ rfl
  exact Heap.get?_push_of_some _ (Heap.get?_push_size _ rfl)
theorem jb0 {os : List Value} (hh : A.handled = none) (hf : t.fits es.size = true) (hl : w.params.followText "set-order" = false → t.led = true) (up : Up t.place.toList) (nS : S ≠ I) (nT : T ≠ I) :
    WalksS prog w A I [I, S, T] [I] (fun a b => b = a) es.size (fun i v => os[i]? = some v) (fun i s => s.heap.get? S = some (stO es ep t) ∧ Wk w s.heap I S T es ep t os i) where
  sub := fun b hb => by rw [List.mem_singleton] at hb; rw [hb]; simp
  grefl := fun _ => rfl
  gtrans := fun _ _ _ h1 h2 => h2.trans h1
  frame := fun i s h' tk st _ c => ⟨c S (by simp) _ st.1, st.2.keep c⟩
  item := fun i s Q E hi st q => j89 hh st.1 hf hl up nS nT st.2
    (fun v h' _ e k kp => q v _ e ⟨(kp S nS).trans st.1, k⟩ ⟨fun b o hb e => (kp b fun z => hb (by rw [z]; simp)).trans e, rfl, rfl, rfl, Nat.le_refl _⟩) fun h' n _ => absurd hi n
  done := fun s Q E st q => j89 hh st.1 hf hl up nS nT st.2 (fun v h' n _ _ _ => absurd n (Nat.lt_irrefl _)) fun h' _ kp => q _ ⟨fun b o hb e => kp b o (fun z => hb (by rw [z]; simp)) e, rfl, rfl, rfl, Nat.le_refl _⟩
  self := fun i s Q E st q => by
    have ty : s.TypeIs (.ref I) "set_iterator" := by
      cases st.2 with
      | text _ hI _ => exact (x9614 _ hI rfl)
      | drawn _ _ hI _ _ => exact (x9614 _ hI rfl)
      | plain _ _ _ hI _ _ => exact (x9614 _ hI rfl)
    refine wpAny_pyIter_slot ty j88 (wpAny_call_entry j88 ty ent_sii ?_ (ag_sii _))
    show wpAny _ _ (ret (.ref I)) _ _ s
    exact wpAny_pure (x7584 _ rfl ("set_iterator") _ ty j3s.lookup q)
theorem hint_set {Q : Bool → Shared → Prop} {B : Around} (hS : s.heap.get? S = some (stO es ep t)) (q : Q false s) : wpAny (model prog w) B (Builtin.List.listLengthHint (.ref S)) Q E s := by
  have ty : s.TypeIs (.ref S) "set" := (x9614 _ hS rfl)
  unfold Builtin.List.listLengthHint
  refine wpAny_bind (wpAny_specialOf ty F.slot_set_len.lookup ?_)
  have e : splitId "set.__len__" = some ("set", "__len__") := by decide +kernel
  dsimp only
  rw [e]
  dsimp only
  refine wpAny_bind (wpAny_isInstance (b := true) ty (by rw [isSubtype_type]; kernel_rfl) ?_)
  rw [Bool.not_true, if_neg Bool.false_ne_true]
  refine (fun h => by rw [if_pos (by decide +kernel)]; exact h : ∀ h : _, _) ?_
  refine wpAny_bind (wpAny_typeOf ty ?_)
  exact wpAny_pure q
theorem j7b {ns : List Int} {Q : List Value → Shared → Prop} (hh : A.handled = none) (h : SO (!w.params.followText "set-order") s.heap S ns) (hb : ns.length < scanBound)
    (q : ∀ h' tk d vs ms, (∀ b o, s.heap.get? b = some o → h'.get? b = some o) → IntsAre vs ms → ms.Perm ns → Q vs { s with heap := h', toks := tk, drawn := d }) : wpAny (model prog w) A (collect (.ref S)) Q E s := by
  obtain ⟨es, ep, t, ho, se⟩ := h
  have hz := fits_of_scanBound (n := es.size) (by rw [se.size]; exact hb)
  have hh1 : A.in1.handled = none := by simpa using hh
  have hs := Heap.lt_size ho
  unfold collect
  refine wpAny_bind (wpAny_runValue (codeAny_builtin F.entry_proto_collect ?_))
  rw [Around.under_plainId F.plain_proto_collect _]
  show wpAny _ A.in1 (newList [] >>= fun l => again (.builtin "list.__iadd__" ⟨[l, .ref S], []⟩)) _ _ s
  refine wpAny_bind (wpAny_newObj_type (wpAny_pure ⟨plainId_quiet F.plain_list_iadd _, codeAny_builtin F.entry_list_iadd ?_⟩))
  rw [Around.under_plainId F.plain_list_iadd _]
  generalize hh0 : s.heap.push { cls := .type "list", data := .seq ([] : List Value).toArray } = h0
  have hS0 : h0.get? S = some (stO es ep t) := by rw [← hh0]; exact Heap.get?_push_of_some _ ho
  have hD0 : h0.get? s.heap.objs.size = some { cls := .type "list", data := .seq ([] : List Value).toArray } := by rw [← hh0]; exact Heap.get?_push_size _ rfl
  have k0 : ∀ b o, s.heap.get? b = some o → h0.get? b = some o := fun b o e => by rw [← hh0]; exact Heap.get?_push_of_some _ e
  have z0 : h0.objs.size = s.heap.objs.size + 1 := by rw [← hh0]; exact Heap.size_push _ _
  show wpAny _ A.in1 (Builtin.List.listExtendWith (.ref s.heap.objs.size) (.ref S) (.ref s.heap.objs.size)) _ _ { s with heap := h0 }
  generalize hD : s.heap.objs.size = D at hD0 z0 hs
  have nSD : S ≠ D := Nat.ne_of_lt hs
  unfold Builtin.List.listExtendWith
  refine wpAny_bind (wpAny_typeOf (T := "set") (x9614 _ hS0 rfl) ?_)
  have c0 : Builtin.List.listSameRef (.ref D) (.ref S) = false := by simp [Builtin.List.listSameRef, Ne.symm nSD]
  rw [if_neg (by rw [c0]; decide)]
  refine wpAny_bind (jaz (s := { s with heap := h0 }) hS0 se.fit hz se.ti.up fun I T d h2 os wk _ lI lT nT k2 => ?_)
  have nSI : S ≠ I := Nat.ne_of_lt (Nat.lt_of_lt_of_le (Nat.lt_trans hs (by rw [z0]; exact Nat.lt_succ_self _)) lI)
  have lI' : D < I := by rw [z0] at lI; exact lI
  have nTD : T ≠ D := by
    rcases lT with z | z
    · rw [z]; exact nSD
    rw [z0] at z; exact Nat.ne_of_gt z
  have hS2 := k2 _ _ hS0
  have hD2 := k2 _ _ hD0
  refine wpAny_bind (wpAny_holding (hint_set (s := { s with drawn := d, heap := h2 }) hS2 ?_))
  rw [if_pos (by decide +kernel)]
  refine wpAny_bind (wpAny_rule (wpAny_bind ?_))
  show wpAny _ A.in1 (updateSeq D (·.push .none) >>= fun _ => updateSeq D (·.pop)) _ _ _
  have hD3 := Heap.get?_update_self (Obj.mapSeq (·.push Value.none)) hD2 rfl
  have hD4 := Heap.get?_update_self (Obj.mapSeq (·.pop)) hD3 rfl
  refine wpAny_bind (wpAny_updateSeq hD2 rfl (wpAny_updateSeq hD3 rfl ?_))
  have k4 : ∀ b o, b ≠ D → h2.get? b = some o → ((h2.update D (Obj.mapSeq (·.push Value.none))).update D (Obj.mapSeq (·.pop))).get? b = some o := fun b o hb e => by
    rw [Heap.get?_update_other _ _ (Ne.symm hb), Heap.get?_update_other _ _ (Ne.symm hb)]
    exact e
  have wk4 := wk.keep (h' := (h2.update D (Obj.mapSeq (·.push Value.none))).update D (Obj.mapSeq (·.pop))) fun b hb o e => k4 b o (by
    simp only [List.mem_cons, List.not_mem_nil, or_false] at hb
    rcases hb with z | z | z
    · rw [z]; exact Nat.ne_of_gt lI'
    · rw [z]; exact nSD
    rw [z]; exact nTD) e
  have W := jb0 (prog := prog) (w := w) (A := A.in1) (ep := ep) (os := os) hh1 se.fit (fun b => by have := se.ti.led; rw [b] at this; simpa using this) se.ti.up nSI nT
  refine wpAny_pure ⟨plainId_quiet F.plain_extend_loop _, codeAny_extend_loopS W hz D (by
    simp only [List.mem_cons, List.not_mem_nil, or_false, not_or]
    exact (x3b98 (Nat.ne_of_lt lI') (Ne.symm nSD) (Ne.symm nTD))) _ es.size 0 _ _ _ rfl (Nat.zero_le _) ⟨k4 _ _ nSD hS2, wk4⟩ hD4 (ItemsOf.nil _) fun s' acc c' mv hD' it => ?_⟩
  show wpAny _ A (load D >>= _) _ _ s'
  refine wpAny_bind (wpAny_load hD' (wpAny_pure ?_))
  have eo : acc.toList = os := by
    have ol : os.length = es.size := by rw [wk.perm.length_eq, List.length_map, Array.length_toList]
    refine List.ext_getElem (by rw [ol, Array.length_toList, it.1]) fun j h1 h2 => ?_
    have : os[j]? = some acc.toList[j] := it.2 j acc.toList[j] (by rw [← Array.getElem?_toList]; exact List.getElem?_eq_getElem h1)
    rw [List.getElem?_eq_getElem h2] at this
    exact (Option.some.inj this).symm
  have pm : (os.map nm).Perm ns := by
    have := wk.perm.map nm
    rw [List.map_map] at this
    exact this.trans se.pm
  have ii : IntsAre os (os.map nm) := jav fun v hv => by
    obtain ⟨e, he, rfl⟩ := List.mem_map.mp (wk.perm.mem_iff.mp hv)
    obtain ⟨n, tk, e1, _⟩ := se.ie e he
    exact (xa57b n tk e1)
  obtain ⟨h5, g5, d5, tk5, os5⟩ := s'
  have eg : g5 = s.gens := mv.gens
  have ed : d5 = d := mv.drawn
  have eos : os5 = s.os := mv.os
  subst eg ed eos
  rw [eo]
  refine q h5 tk5 d5 os (os.map nm) (fun b o e => ?_) ii pm
  have lb := Heap.lt_size e
  rw [hD] at lb
  exact mv.heap b o (by
    simp only [List.mem_cons, List.not_mem_nil, or_false, not_or]
    exact ⟨Nat.ne_of_lt lb, Nat.ne_of_lt (Nat.lt_trans lb lI')⟩) (k4 b o (Nat.ne_of_lt lb) (k2 b o (k0 b o e)))
end
end Stb
end
noncomputable section
namespace Stb
open PySem PyProof.Rows
section
variable {prog : Program} {w : World} {A : Around} {E : Value → Shared → Prop} {s : Shared} {L : Bool}
theorem j8a : ∀ {vs : List Value} {ns : List Int}, IntsAre vs ns → ∀ {i : Nat} {v : Value}, vs[i]? = some v → ∃ n t, v = .int n t ∧ ns[i]? = some n
  | _, _, .nil, i, v, h => by simp at h
  | _, _, .cons n t _, 0, v, h => by
    cases (show some (Value.int n t) = some v from h)
    exact (x90aa n t rfl rfl)
  | _, _, .cons n t r, i + 1, v, h => j8a r (i := i) (by simpa using h)
theorem set_loop {R : Result → Shared → Prop} {I S l : Addr} {items : Array Value} {ns : List Int} (hh : A.handled = none) (hi : IntsAre items.toList ns) (hb : items.size + 1 < scanBound) (nI : I ≠ S) (nl : l ≠ S) (ni : l ≠ I) :
    ∀ (k i : Nat) (s : Shared), items.size - i = k → i ≤ items.size → s.heap.IsListIter I l i → s.heap.IsList l items → SO L s.heap S (dd (ns.take i)) →
      (∀ h' tk, (∀ b o, b ≠ S → b ≠ I → s.heap.get? b = some o → h'.get? b = some o) → SO L h' S (dd ns) → R (.ok (.ret .none)) { s with heap := h', toks := tk }) →
      codeAny (model prog w) A (.builtin "set.update.loop" ⟨[.ref S, .ref I], []⟩) R s := by
  have nlen : ns.length = items.size := by rw [← hi.length, Array.length_toList]
  have hh1 : A.in1.handled = none := by simpa using hh
  intro k
  induction k with
  | zero =>
    intro i s hk hle hI hl hS q
    have e : i = items.size := by exact o101c3 hk hle
    refine codeAny_builtin F.entry_set_update_loop ?_
    rw [Around.under_plainId F.plain_set_update_loop _]
    show wpAny _ _ (pyNext (.ref I) >>= _) _ _ s
    refine wpAny_bind (wpAny_pyNext_list_end hh1 hI hl (by rw [e]; simp) fun h' ex => ?_)
    rw [e, ← nlen, List.take_length] at hS
    obtain ⟨es, ep, t, ho, se⟩ := hS
    exact wpAny_pure (q h' s.toks (fun b o _ hb e => ex b o hb e) (x8f53 es ep t (ex S _ (Ne.symm nI) ho) se))
  | succ k ih =>
    intro i s hk hle hI hl hS q
    have hlt : i < items.size := by exact o44404 hk
    have hx : items[i]? = some items[i] := by simp [hlt]
    obtain ⟨n, t, ev, en⟩ := j8a hi (i := i) (v := items[i]) (by simp [hlt])
    refine codeAny_builtin F.entry_set_update_loop ?_
    rw [Around.under_plainId F.plain_set_update_loop _]
    show wpAny _ _ (pyNext (.ref I) >>= _) _ _ s
    refine wpAny_bind (wpAny_pyNext_list_item hI hl hx fun h1 hI1 sb1 => ?_)
    rw [ev]
    show wpAny _ _ (holding [Value.int n t] (setAdd S (.int n t)) >>= _) _ _ _
    refine wpAny_bind (wpAny_holding ?_)
    unfold setAdd
    refine wpAny_holding (wpAny_bind (wpAny_pyHash_int ?_))
    have hS1 : SO L h1 S (dd (ns.take i)) := by
      obtain ⟨es, ep, tb, ho, se⟩ := hS
      exact (x8f53 es ep tb (by rw [sb1.2 S (Ne.symm nI)]; exact ho) se)
    have dl := jau (ns.take i)
    rw [List.length_take] at dl
    refine so_add (s := { s with heap := h1, toks := s.toks + 1 }) hS1 (by exact o5656b hb hlt dl) fun h2 b sb2 hS2 => ?_
    have et : ns.take (i + 1) = ns.take i ++ [n] := by rw [List.take_succ, en]; rfl
    rw [← dd_snoc, ← et] at hS2
    have kp : ∀ b, b ≠ S → b ≠ I → h2.get? b = s.heap.get? b := fun b h1 h2 => (sb2.2 b h1).trans (sb1.2 b h2)
    refine wpAny_pure ⟨plainId_quiet F.plain_set_update_loop _, ih (i + 1) _ (by exact o2f1f1 hk) (by exact odad2c hlt) ?_ ?_ hS2 fun h3 tk k3 hS3 => ?_⟩
    · obtain ⟨o, ho, r⟩ := hI1
      exact (x9614 o ((sb2.2 I nI).trans ho) r)
    · obtain ⟨o, ho, r⟩ := hl
      exact (x9614 o ((kp l nl ni).trans ho) r)
    exact q h3 tk (fun b o c1 c2 e => k3 b o c1 c2 (by rw [kp b c1 c2]; exact e)) hS3
theorem set_made (a : Value) {Q : Value → Shared → Prop} (h : Q (.ref s.heap.objs.size) { s with heap := s.heap.push (stO #[] 0 (.fresh 0 0 (!w.params.followText "set-order"))) }) :
    codeAny (model prog w) A (.call (.builtin "set.__new__") ⟨[.type "set", a], []⟩) (wants Q E) s := by
  refine codeAny_of_tree ?_
  show wpAny _ A.in1 (checkBuiltinCall "set.__new__" ⟨[.type "set", a], []⟩ >>= fun _ => again (.builtin "set.__new__" ⟨[.type "set", a], []⟩)) _ _ s
  refine wpAny_bind (wpAny_of_eq (F.newCall_set_1 a) (wpAny_pure ⟨plainId_quiet F.plain_set_new _, codeAny_builtin F.entry_set_new ?_⟩))
  rw [Around.under_plainId F.plain_set_new _]
  have hsub := sub_set_self
  unfold Builtin.«set.__new__» Builtin.Frozenset.newClass
  obtain ⟨hp, g, d, tk, os⟩ := s; dsimp only
  wp_walk
  refine wpAny_askSetting (wpAny_pure ?_); dsimp only; simp only [newObj]
  exact wpAny_bind (wpAny_alloc (wpAny_pure (wpAny_pure h)))
theorem j7c {l : Addr} {items : Array Value} {ns : List Int} {Q : Value → Shared → Prop} (hh : A.handled = none) (hl : s.heap.IsList l items) (hi : IntsAre items.toList ns) (hb : items.size + 1 < scanBound)
    (q : ∀ h' tk, SO (!w.params.followText "set-order") h' s.heap.objs.size (dd ns) → (∀ b o, s.heap.get? b = some o → h'.get? b = some o) → Q (.ref s.heap.objs.size) { s with heap := h', toks := tk }) :
    wpAny (model prog w) A (call (.type "set") [.ref l]) Q E s := by
  obtain ⟨c, tl, hmro⟩ := F.called_set.mro
  have hmade := F.called_set.made; have hsub := F.called_set.sub; have h1 := F.called_set.notType; have h2 := F.called_set.canCreate; have hct := F.typeCall_set_1 (.ref l)
  refine wpAny_call (codeAny_of_tree ?_)
  show wpAny _ _ (callAny (.type "set") _) _ _ _
  refine wpAny_pure ⟨Code.quiet_builtin _ (by decide +kernel), codeAny_builtin F.entry_type_call ?_⟩
  rw [Around.under_plain (weight_type_call_type "set" [.ref l] []) rfl]; repeat (any_goals (first | assumption | wp_step))
  refine codeAny_mono (set_made (.ref l) (E := E) (Q := fun obj s1 => obj = .ref s.heap.objs.size ∧ s1 = { s with heap := s.heap.push (stO #[] 0 (.fresh 0 0 (!w.params.followText "set-order"))) }) ⟨rfl, rfl⟩) fun r s1 hr => ?_
  cases r with
  | error e => exact hr
  | ok fl =>
    cases fl with
    | next => exact hr.elim
    | brk => exact hr.elim
    | cont => exact hr.elim
    | ret obj =>
      obtain ⟨rfl, rfl⟩ := hr
      generalize hB : s.heap.push (stO #[] 0 (.fresh 0 0 (!w.params.followText "set-order"))) = h1'
      have hS : h1'.get? s.heap.objs.size = some (stO #[] 0 (.fresh 0 0 (!w.params.followText "set-order"))) := by rw [← hB]; exact Heap.get?_push_size _ rfl
      have kp : ∀ b o, s.heap.get? b = some o → h1'.get? b = some o := fun b o e => by rw [← hB]; exact Heap.get?_push_of_some _ e
      have z1 : h1'.objs.size = s.heap.objs.size + 1 := by rw [← hB]; exact Heap.size_push _ _
      have hT : Shared.TypeIs { s with heap := h1' } (.ref s.heap.objs.size) "set" := (x9614 _ hS rfl)
      have hli := F.called_set.init.lookup; have hbi := F.called_set.init.bind (.ref s.heap.objs.size); repeat (any_goals (first | assumption | wp_step))
      refine codeAny_mono (codeAny_call_builtin (R := wants (fun r s2 => r = .none ∧ ∃ h' tk, s2 = { s with heap := h', toks := tk } ∧ SO (!w.params.followText "set-order") h' s.heap.objs.size (dd ns) ∧ ∀ b o, s.heap.get? b = some o → h'.get? b = some o) E) F.called_set.init.plain F.entry_set_init (check_set_init_1 hT ?_)) fun r2 s2 hr2 => ?_
      · obtain ⟨ol, hol, hcl, nl, hdl⟩ := id hl
        obtain ⟨ocls, odict, odata, oslots⟩ := ol
        cases (show ocls = .type "list" from hcl)
        cases (show odata = .seq items nl from hdl)
        have hol' := kp _ _ hol
        have hl1 : h1'.IsList l items := (x6ef4 _ hol' rfl nl rfl)
        have hsls := F.sub_list_set; have hslf := F.sub_list_frozenset; have hne : (Value.type "list" == Value.type "dict") = false := by decide
        have ll := Heap.lt_size hol
        unfold Builtin.«set.__init__» noKeywords Builtin.Frozenset.updateFrom
        generalize hPI : pyIter = PI; wp_walk; subst hPI
        refine wpAny_pyIter_list hl1 (wpAny_bind (wpAny_runValue ?_))
        refine set_loop (L := !w.params.followText "set-order") (l := l) (items := items) (ns := ns) (by simp [hh]) hi hb (by rw [z1]; exact Nat.ne_of_gt (Nat.lt_succ_self _)) (Nat.ne_of_lt ll) (by rw [z1]; exact Nat.ne_of_lt (Nat.lt_succ_of_lt ll)) items.size 0 _ (by exact ofb53c) (Nat.zero_le _) (x0c0c _ (Heap.get?_push_size _ rfl) rfl rfl) (hl1.push _) (x8f53 (#[]) 0 _ (Heap.get?_push_of_some _ hS) ?_) fun h' tk k' so => ?_
        · exact ⟨fun e he => by simp at he, by rfl, TI.fresh _, by simp [dd]⟩
        show wpAny _ _ _ _ _ _
        refine wpAny_pure (wpAny_pure (xbaae rfl h' tk rfl ⟨so, fun b o e => ?_⟩))
        have lb := Heap.lt_size e
        exact k' b o (Nat.ne_of_lt lb) (by rw [z1]; exact Nat.ne_of_lt (Nat.lt_succ_of_lt lb)) (Heap.get?_push_of_some _ (kp b o e))
      cases r2 with
      | error e => exact hr2
      | ok fl2 =>
        cases fl2 with
        | next => exact hr2.elim
        | brk => exact hr2.elim
        | cont => exact hr2.elim
        | ret r =>
          obtain ⟨rfl, h', tk, rfl, so, k'⟩ := hr2
          (repeat (any_goals (first | assumption | wp_step))); exact q _ _ so k'
theorem j95 {S : Addr} {ns : List Int} {Q : Value → Shared → Prop} (hh : A.handled = none) (h : SO (!w.params.followText "set-order") s.heap S ns) (hb : ns.length < scanBound)
    (q : ∀ (h1 h2 : Heap) (tk : Nat) (d : Drawn) (n : Nat) (out : Array Value) (ms : List Int), (∀ b o, s.heap.get? b = some o → h1.get? b = some o) → (∀ b o, h1.get? b = some o → h2.get? b = some o) → h2.get? h1.objs.size = some (seqObj "list" out n) → IntsAre out.toList ms → ms.Perm ns → ms.Pairwise (· ≤ ·) → Q (.ref h1.objs.size) { s with heap := h2, toks := tk, drawn := d }) :
    wpAny (model prog w) A (call (.builtin "sorted") [.ref S]) Q E s := by
  refine Calls.call_function_entry kind_sorted plain_sorted entry_sorted (args_sorted1 _) ?_
  unfold Builtin.«sorted»; refine wpAny_bind (m := checkCount "sorted" 1 1 _) (wpAny_pure ?_)
  refine wpAny_bind (j7b (by simpa using hh) h hb fun h1 tk d vs ms kp hI pm => ?_)
  have hz : vs.length ≤ sizeLine := by
    have e := hI.length
    have e2 := pm.length_eq
    exact fits_of_scanBound (by exact oce0c1 hb e e2)
  refine wpAny_bind (wpAny_newList ?_ hz)
  have hL : (h1.push (seqObj "list" vs.toArray 0)).get? h1.objs.size = some (seqObj "list" vs.toArray 0) := Heap.get?_push_size _ rfl
  dsimp only
  refine wpAny_bind (wpAny_holding (wpAny_call_entry slot_list_sort (x9614 _ hL rfl) entry_list_sort (Srt.j7u hL hI hz fun out ms' c1 c2 c3 => (x9614 _ rfl (wpAny_pure (x9614 _ rfl ?_)))) (args_list_sort _)))
  obtain ⟨n, ho⟩ := sortedHeap_at (out := out) hL
  refine q h1 _ tk d n out ms' kp (fun b o e1 => ?_) ho c1 (c2.trans pm) c3
  have l1 := Heap.lt_size e1
  rw [sortedHeap_old (Nat.ne_of_lt l1) (by rw [Heap.size_push]; exact Nat.lt_succ_of_lt l1)]
  exact Heap.get?_push_of_some _ e1
end
end Stb
end
noncomputable section
namespace L3
open PySem PySem.Spec PyProof.Rows L2
theorem boot_set : bootBuiltins "set" = some (.type "set") := by decide +kernel
noncomputable def strd (ns : List Int) (k : Int) : List Int := (sliceRange 0 ns.length k).filterMap (ns[·]?)
theorem sr_len {n : Nat} {k : Int} (hk : 1 ≤ k) : (sliceRange 0 n k).length ≤ n := by
  unfold sliceRange
  rw [List.length_map, List.length_range, if_pos (by exact o9aaf8 hk)]
  split
  · have := ceilDiv_le (n - 0) k (by exact o7f220 (by assumption)) hk
    exact o421c7 this
  simp
theorem j8b {ns : List Int} {k : Int} (hk : 1 ≤ k) : (strd ns k).length ≤ ns.length := Nat.le_trans (fm_len _ _) (sr_len hk)
theorem strd_ne {ns : List Int} {k : Int} (hk : 1 ≤ k) (hn : ns ≠ []) : strd ns k ≠ [] := by
  cases ns with
  | nil => exact absurd rfl hn
  | cons x t =>
    refine List.ne_nil_of_mem (a := x) (List.mem_filterMap.mpr (x9614 0 ?_ rfl))
    unfold sliceRange
    refine List.mem_map.mpr (x9614 0 (List.mem_range.mpr ?_) (by simp))
    rw [if_pos (by exact o9aaf8 hk), if_pos (by simp only [List.length_cons]; exact od8082)]
    have : 1 ≤ (((x :: t).length : Int) - 0 + k - 1) / k := by
      rw [Int.le_ediv_iff_mul_le (by exact o6663a hk)]
      simp only [List.length_cons]
      exact o74fce
    exact o863cc this
theorem j46 {xs : List V} {its : List Value} (h : Vals xs its) : ∀ l : List Nat, Vals (l.filterMap (xs[·]?)) (l.filterMap (its[·]?))
  | [] => .nil
  | i :: l => by
    rw [List.filterMap_cons, List.filterMap_cons]
    have hl := h.length
    by_cases c : i < xs.length
    · obtain ⟨u, eu, ru⟩ := h.get (List.getElem?_eq_getElem c)
      rw [List.getElem?_eq_getElem c, eu]
      exact .cons ru (j46 h l)
    rw [List.getElem?_eq_none (by exact o6f490 c), List.getElem?_eq_none (by exact oa20ea hl c)]
    exact j46 h l
theorem jb1 (ns : List Int) : ∀ l : List Nat, l.filterMap ((iV ns)[·]?) = iV (l.filterMap (ns[·]?))
  | [] => rfl
  | i :: l => by
    rw [List.filterMap_cons, List.filterMap_cons, List.getElem?_map, jb1 ns l]
    cases ns[i]? with
    | none => rfl
    | some n => rfl
section
variable {X : Cx}
theorem jb2 {e st : Expr} {te ts : TE} {p2 pos : Pos} (he : PE X e te) (hs : PE X st ts) :
    PE X (.Subscript e (.Slice none none (some st) p2) pos) (fun σ H Q => te σ H fun x H1 => ∃ a ns, x = .ref a ∧ ts σ H1 fun y H2 => ∃ k : Int, y = .int k ∧ 1 ≤ k ∧ SqL X.K H2 a (iV ns) ∧ ∀ p, H2 p = none → Q (.ref p) (upd H2 p (.lst (iV (strd ns k))))) := by
  intro pins s σ H Q I h
  refine Subscript_ (thn (he pins s σ H _ I h) fun v s1 ⟨x, H1, I1, r1, q1⟩ => ?_)
  obtain ⟨a, ns, rfl, q1⟩ := q1
  cases r1
  refine wpAny_Slice ?_
  rw [evalPart_none]
  refine wpAny_pure (wpAny_pure ?_)
  rw [evalPart_some]
  refine thn (hs pins s1 σ H1 _ I1 q1) fun vk s3 ⟨y, H3, I3, rk, k, ek, k1, hx, q3⟩ => ?_
  subst ek
  obtain ⟨tk, rfl⟩ := rk
  have pk : IsPart (Value.int k tk) (some k) := .int _ _
  obtain ⟨its, r, ht, hz⟩ := I3.list hx
  have I4 : L2.Inv X pins σ H3 { s3 with heap := s3.heap.push { cls := .type "slice", data := .fields #[.none, .none, .int k tk] } } := I3.kept (t' := s3.toks) fun b ob q => Heap.get?_push_of_some _ q
  have hl : (s3.heap.push { cls := .type "slice", data := .fields #[.none, .none, .int k tk] }).IsList a its.toArray := ht.isList.push _
  have hlen := r.length
  rw [j0e] at hlen hz
  show wpAny (model X.prog X.w) X.A (subscriptTail e (.Slice none none (some st) p2) (.ref a) (.ref s3.heap.objs.size)) (EP X pins σ Q) X.xe { s3 with heap := s3.heap.push { cls := .type "slice", data := .fields #[.none, .none, .int k tk] } }
  refine tail_any (ops := [.ref a, .ref s3.heap.objs.size]) hl.typeIs slot_list_getitem.lookup (wpAny_getItem_list_slice (s := { s3 with heap := s3.heap.push { cls := .type "slice", data := .fields #[.none, .none, .int k tk] } }) hl (Heap.IsSliceOf.new ..) .none .none pk (by simp; exact o7274e k1) ?_ (by rw [List.size_toArray] <;> exact o8836e hz hlen)) (by with_unfolding_all rfl)
  have e1 : slicePick its.toArray none none (some k) = ((sliceRange 0 ns.length k).filterMap (its[·]?)).toArray := by
    unfold slicePick sliceBounds
    rw [List.size_toArray, ← hlen]
    have : (some k).getD 1 > 0 := by show k > 0; exact o9aaf8 k1
    simp only [if_pos this]
    simp
  rw [e1]
  have rr := j46 r (sliceRange 0 ns.length k)
  rw [jb1] at rr
  refine (xeb27 (.ref _) _ (I4.laid (t' := s3.toks) (o := .lst (iV (strd ns k))) (fun b ob q => Heap.get?_push_of_some _ q) (Nat.le_refl _) (xbaae (by rw [j0e]; exact Nat.le_trans (j8b k1) hz) _ 0 rr ?_)) rfl (q3 _ (I4.hok.fresh (Nat.le_refl _))))
  exact Heap.get?_push_size _ rfl
theorem Inv.drew {pins : List (Addr × Obj)} {σ : L2.St} {H : Hp} {s : Shared} {d : Drawn} (I : L2.Inv X pins σ H s) : L2.Inv X pins σ H { s with drawn := d } := ⟨I.ok, I.os, I.bare, I.base, I.loc, I.cell, I.free, I.freeC, I.pin, I.hok, I.len⟩
theorem j6h {e : Expr} {t : TA} {p p2 pos pos2 : Pos} (hc : X.calm = true) (hg : Gl X "sorted") (hm : X.mg "sorted" = none) (hg2 : Gl X "set") (hm2 : X.mg "set" = none) (ha : PA X [e] t) (he : starEach [e] X.env = (false, eval e X.env) :: starEach [] X.env := by rfl) (hpl : (backTo pos2 (starEach [] X.env)).any (·.1) = false := by rfl)
    (he2 : starEach [.Call (.Name "set" p2) [e] [] pos2] X.env = (false, eval (.Call (.Name "set" p2) [e] [] pos2) X.env) :: starEach [] X.env := by rfl) (hpl2 : (backTo pos (starEach [] X.env)).any (·.1) = false := by rfl) :
    PE X (.Call (.Name "sorted" p) [.Call (.Name "set" p2) [e] [] pos2] [] pos) (fun σ H Q => t σ H fun vs H1 => ∃ a ns, vs = [.ref a] ∧ SqL X.K H1 a (iV ns) ∧ ns.length ≤ 1000 ∧ ∀ l, H1 l = none → Q (.ref l) (upd H1 l (.lst (iV (srt (Stb.dd ns)))))) := by
  intro pins s σ H Q I h
  refine wpAny_Call_Name_kw (j2r I hg hm boot_sorted ?_ (by decide) (by decide))
  refine PyProof.Rows.callWith_builtin1 (PyProof.Rows.spliced_more ?_ he2) he2 hpl2
  refine wpAny_Call_Name_kw (j2r I hg2 hm2 boot_set ?_ (by decide) (by decide))
  refine PyProof.Rows.callWith_type1 (thn (ha pos2 pins s σ H _ I h) fun us s1 ⟨vs, H1, I1, r1, q1⟩ => ?_) he hpl
  obtain ⟨a, ns, rfl, hx, hn, q⟩ := q1
  obtain ⟨u, rfl, rx⟩ := j2x r1
  cases rx
  obtain ⟨its, r', pl, hz⟩ := I1.list hx
  have hI : IntsAre its ns := j22 r'
  have hlen := r'.length
  rw [j0e] at hlen
  have hd := I1.ok.hd hc
  refine Stb.j7c hd pl.isList (by simpa using hI) (by rw [List.size_toArray, ← hlen]; unfold scanBound; exact o03d91 hn) fun h2 tk so k2 => ?_
  refine PyProof.Rows.spliced_none ?_
  have I2 := I1.kept (t' := tk) k2
  have dl := Stb.jau ns
  refine Stb.j95 (s := { s1 with heap := h2, toks := tk }) hd so (by unfold scanBound; exact oed57f hn dl) fun h3 h4 tk4 d n out ms k3 k4 ho c1 c2 c3 => ?_
  have I3 := Inv.drew (d := d) (I2.kept (t' := tk4) k3)
  have e1 := j66 c2 c3
  subst e1
  refine (xeb27 (.ref h3.objs.size) _ (I3.laid (t' := tk4) (o := .lst (iV (srt (Stb.dd ns)))) k4 (Nat.le_refl _) (xbaae ?_ out.toList n (j23 c1) (by simpa using ho))) rfl (q _ (I3.hok.fresh (Nat.le_refl _))))
  rw [j0e, j1s]
  rw [j0e] at hz
  exact Nat.le_trans dl hz
end
end L3
end
noncomputable section
namespace My
open PySem L2 L3
noncomputable def tp (i : Nat) : Stmt := PySem.Challenge.pw_evenhand_k04_sums_and_marks.main.body.getD i (.Pass ⟨0, 0, 0, 0⟩)
section
variable {P : Program} {w : World} {K : PySem.W.Frag} {mg : Str → Option Value} {base : Heap}
abbrev s_cell : Stmt := tp 31
theorem j47 : FnScope ["_law_script", "_law_k"] ["_law_script", "_law_k"] (j0c s_cell) := ⟨rfl, rfl, rfl, by decide +kernel, rfl, by decide +kernel, by decide +kernel⟩
noncomputable def j8c (K : PySem.W.Frag) : Sp := fun vs H Q _ => ∃ (a : Addr) (ns : List Int) (k : Int), vs = [.ref a, .int k] ∧ SqL K H a (iV ns) ∧ 0 ≤ k ∧ ∀ n : Int, Q (.int n) H
theorem ok_cell {f : Addr} {fd : FuncData} (F : Fun K "_law_cell_at" "_law_cell_at" s_cell f fd) (B : Bl mg) : FnOk P w K mg base CX0 1 f fd ["_law_script", "_law_k"] (j8c K) := by
  refine F.ok j47 (fun vs H Q E h => ?_) (fun cdv A outer s H vs Q E hr h => ?_)
  · obtain ⟨a, ns, k, rfl, _⟩ := h
    rfl
  obtain ⟨a, ns, k, rfl, hS, h0, q⟩ := h
  refine (x9614 _ (j01 (j1b (j0i j6t (pv 1) (j09 j0f rfl B.len PySem.boot_len (j00 (pv 0) j02)) (j0p _)) (j08 (j0r (j0y j0q (pv 0) (pv 1) (fun _ _ => rfl)))) j0m)
    (j08 (j0r j07))) ?_)
  refine (xcabc _ rfl _ rfl a _ rfl (.inl hS) _ _ rfl rfl (x9614 _ rfl ?_))
  refine ite2 (fun hlt => ?_) (fun hge => ?_)
  · rw [decide_eq_true_eq, j0e] at hlt
    obtain ⟨j, rfl⟩ : ∃ j : Nat, k = j := ⟨k.toNat, by exact ob7bfc h0⟩
    have hj : j < ns.length := by exact o5fe39 hlt
    exact (x12fa _ rfl _ rfl a _ _ (V.int ns[j]) rfl rfl hS (j3z (by simp [hj])) (q _))
  exact q 0
abbrev s_draw : Stmt := tp 32
theorem j3i : FnScope ["_law_cell", "_law_k", "_law_many", "_law_primes"] ["_law_cell", "_law_k", "_law_many"] (j0c s_draw) := ⟨rfl, rfl, rfl, by decide +kernel, rfl, by decide +kernel, by decide +kernel⟩
noncomputable def j4y : List Int := [1000003, 1000033, 1000037, 1000039, 1000081, 1000099, 1000117, 1000121, 1000133, 1000151, 1000159, 1000171, 1000183, 1000187, 1000193, 1000199]
theorem j96 : ∀ p ∈ j4y, (0 : Int) < p := by decide
noncomputable def j8d : Sp := fun vs H Q _ => ∃ c k m : Int, vs = [.int c, .int k, .int m] ∧ 0 ≤ k ∧ 0 < m ∧ ∀ (n : Int) (H' : Hp), 0 ≤ n → n < m → Same H H' → Q (.int n) H'
theorem j05 {H : Hp} {p : Addr} {o : HO} (h : H p = none) : Same H (upd H p o) := fun b u e => by rw [j0a (j0d e h)]; exact e
theorem ok_draw {f : Addr} {fd : FuncData} (F : Fun K "_law_draw" "_law_draw" s_draw f fd) (B : Bl mg) : FnOk P w K mg base CX0 1 f fd ["_law_cell", "_law_k", "_law_many"] j8d := by
  refine F.ok j3i (fun vs H Q E h => ?_) (fun cdv A outer s H vs Q E hr h => ?_)
  · obtain ⟨c, k, m, rfl, _⟩ := h
    rfl
  obtain ⟨c, k, m, rfl, h0, hm, q⟩ := h
  refine (x9614 _ (@j01 _ _ _ _ _ (@j0k _ _ 3 _ _ _ _ j3i.nd rfl (Or.inl rfl) (@jan _ _ j4y _ _ (.cons (.cons (.cons (.cons (.cons (.cons (.cons (.cons (.cons (.cons (.cons (.cons (.cons (.cons (.cons (.cons .nil)))))))))))))))) (by decide)) rfl (.inl rfl)) (j08 (j0r (j0t j3u (j0t j3u (j0t j1e (j0t j9l (pv 0) j07) (j0t j9l (pv 1) j07)) (j0y j1v (pv 3) (j0t j3u (pv 1) j07) (fun _ _ => rfl))) (pv 2))))) ?_)
  intro t ht
  have hk : (0 : Int) ≤ k % 16 ∧ k % 16 < 16 := ⟨Int.emod_nonneg _ (by decide), Int.emod_lt_of_pos _ (by decide)⟩
  obtain ⟨j, hj⟩ : ∃ j : Nat, k % 16 = (j : Int) := ⟨(k % 16).toNat, by exact obcd97⟩
  have hj16 : j < j4y.length := by show j < 16; exact oe283c hj
  have pp := j96 j4y[j] (List.getElem_mem hj16)
  refine (x34fc _ rfl _ _ rfl rfl (.inr ⟨by decide, by decide⟩) ?_)
  refine (x34fc _ rfl _ _ rfl rfl (.inr ⟨by decide, by decide⟩) ?_)
  refine (xeb27 _ _ rfl rfl ?_)
  refine (x2fac _ rfl _ rfl _ _ rfl rfl (by decide : (0 : Int) < 16) ?_)
  refine (x59b7 t (iV j4y) _ (V.int j4y[j]) rfl rfl (SqT.of j04) ?_ (x5fde _ _ rfl rfl pp (x34fc _ rfl _ _ rfl rfl hm ?_)))
  · rw [hj]
    exact j3z (by simp [hj16])
  exact q _ _ (Int.emod_nonneg _ (by exact o68af4 hm)) (Int.emod_lt_of_pos _ hm) (j05 ht)
end
end My
end
noncomputable section
namespace My
open PySem L2 L3
theorem _root_.L2.Same.seqT {K : PySem.W.Frag} {H H' : Hp} {a : Addr} {xs : List V} (e : Same H H') (h : SqT K H a xs) : SqT K H' a xs := by
  rcases h with (h | ⟨o, h⟩) | h
  · exact .inl (.inl (e _ _ h))
  · exact .inl (.inr ⟨o, e _ _ h⟩)
  exact .inr h
theorem j18 {H H' : Hp} {p : Addr} {o : HO} (s : Same H H') (n : H p = none) : Same H (upd H' p o) := fun b u e => by rw [j0a (j0d e n)]; exact s b u e
theorem len64 {n : Nat} (h : n ≤ 1000) : n ≤ sizeLine := Nat.le_of_lt (j0z h)
section
variable {P : Program} {w : World} {K : PySem.W.Frag} {mg : Str → Option Value} {base : Heap}
abbrev s_row : Stmt := tp 33
theorem j2b : FnScope ["_law_script", "_law_most", "_law_row_here", "_law_k"] ["_law_script"] (j0c s_row) := ⟨rfl, rfl, rfl, by decide +kernel, rfl, by decide +kernel, by decide +kernel⟩
noncomputable def Bd (b : Int) (rs : List Int) : Prop := ∀ x ∈ rs, -b ≤ x ∧ x ≤ b
noncomputable def spRow (K : PySem.W.Frag) : Sp := fun vs H Q _ => ∃ (a : Addr) (ns : List Int), vs = [.ref a] ∧ SqL K H a (iV ns) ∧ ns.length ≤ 63 ∧
  ∀ (rs : List Int) (p : Addr) (H' : Hp), rs.length = ns.length + 1 → Bd 900000 rs → H p = none → H' p = some (.lst (iV rs)) → Same H H' → Q (.ref p) H'
theorem ok_row {f : Addr} {fd : FuncData} (F : Fun K "_law_row" "_law_row" s_row f fd) (B : Bl mg) (c_cell_at : Ok P w K mg base 1 "_law_cell_at" ["_law_script", "_law_k"] (j8c K)) (c_draw : Ok P w K mg base 1 "_law_draw" ["_law_cell", "_law_k", "_law_many"] j8d) :
    FnOk P w K mg base CX0 2 f fd ["_law_script"] (spRow K) := by
  refine F.ok j2b (fun vs H Q E h => ?_) (fun cdv A outer s H vs Q E hr h => ?_)
  · obtain ⟨a, ns, rfl, _⟩ := h
    rfl
  obtain ⟨a, ns, rfl, hS, hl, q⟩ := h
  refine (x9614 _ (j01 (j0k (i := 1) j2b.nd rfl (Or.inl rfl) (j0y j1v (jan (ns := [2, 9, 400, 900000]) (.cons (.cons (.cons (.cons .nil)))) (by decide)) (j06 c_draw (hr.mono (by decide)) rfl (j00 (j06 c_cell_at (hr.mono (by decide)) rfl (j00 (pv 0) (j00 j07 j02))) (j00 j07 (j00 j07 j02)))) (fun _ _ => rfl)))
    (j01 (j0k (i := 2) j2b.nd rfl (Or.inl rfl) (j2d (j00 (j0t j2h (j06 c_draw (hr.mono (by decide)) rfl (j00 (j06 c_cell_at (hr.mono (by decide)) rfl (j00 (pv 0) (j00 j07 j02))) (j00 j07 (j00 j07 j02)))) j07) j02)))
    (j01 (j21 PassesOwn.never rfl (j2g rfl B.range (j00 (j09 j0f rfl B.len PySem.boot_len (j00 (pv 0) j02)) j02)) (j1a (i := 3) j2b.nd rfl (Or.inl rfl))
    (j08 (j10 (j4m PySem.F.plainAttrs_list PySem.F.slot_list_append PySem.F.type_list_append j11 (pv 2) (j00 (j0t j2h (j06 c_draw (hr.mono (by decide)) rfl (j00 (j0y j0q (pv 0) (pv 3) (fun _ _ => rfl)) (j00 (j0t j1e (j0t j3u (pv 3) j07) j07) (j00 (j0t j1e (j0t j9l j07 (pv 1)) j07) j02)))) (pv 1)) j02)))))
    (j08 (j0r (pv 2)))))) ?_)
  intro t ht
  have s1 := j05 (o := .tup (iV [2, 9, 400, 900000])) ht
  refine (xf1da _ rfl a ns 0 rfl (s1.seq hS) (by decide) (fun n => ?_))
  refine (x18c7 _ _ _ rfl (by decide) (by decide) (fun i H2 i0 i4 s2 => ?_))
  obtain ⟨j, rfl⟩ : ∃ j : Nat, i = j := ⟨i.toNat, by exact ob7bfc i0⟩
  have hj : j < [2, 9, 400, (900000 : Int)].length := by show j < 4; exact o80223 i4
  obtain ⟨most, hmost, mlo, mhi⟩ : ∃ m, [2, 9, 400, (900000 : Int)][j]? = some m ∧ 2 ≤ m ∧ m ≤ 900000 := by
    have : j = 0 ∨ j = 1 ∨ j = 2 ∨ j = 3 := by exact o73889 i4
    rcases this with rfl | rfl | rfl | rfl
    · exact (x0c0c 2 rfl (by decide) (by decide))
    · exact (x0c0c 9 rfl (by decide) (by decide))
    · exact (x0c0c 400 rfl (by decide) (by decide))
    exact (x0c0c 900000 rfl (by decide) (by decide))
  refine (x59b7 t _ _ (V.int most) rfl rfl (s2.seqT (SqT.of j04)) (j3z (by rw [List.getElem?_map, hmost]; rfl)) ?_)
  have s3 : Same H H2 := s1.trans s2
  refine (xf1da _ rfl a ns 1 rfl (s3.seq hS) (by decide) (fun n1 => ?_))
  refine (x18c7 _ _ _ rfl (by decide) (by decide) (fun r0 H3 r00 r05 s4 => ?_))
  refine (x5fde _ _ rfl rfl (by show 1 ≤ sizeLine; decide) (fun p hp => ?_))
  have s5 : Same H H3 := s3.trans s4
  have hp0 : H p = none := s5.free hp
  refine (xb699 _ rfl a _ rfl (.inl ((j18 s5 hp0).seq hS)) _ rfl (by omega) (by rw [j0e]; omega) (j24 (n := ((iV ns).length : Int).toNat) (fun i σ H4 => ∃ (rs : List Int) (v : Option V), σ = [some (.ref a), some (.int most), some (.ref p), v] ∧ H4 p = some (.lst (iV rs)) ∧ rs.length = i + 1 ∧ Bd 900000 rs ∧ Same H H4) (x6c4f [r0 - 2] none rfl j04 rfl ?_ (j18 s5 hp0)) ?_ ?_))
  · intro x hx
    rw [List.mem_singleton.mp hx]
    exact o4bc21 r00 r05
  · rintro i σ H4 hi ⟨rs, v, rfl, h4, rl, rb, s6⟩
    intro D'
    rw [j0e] at hi
    have hi' : i < ns.length := by exact o10f91 hi
    refine (x0c0c _ rfl (.inl (xea8a rfl _ (SqL.of h4))) ?_)
    refine (x12fa _ rfl _ rfl a _ _ (V.int ns[i]) rfl rfl (s6.seq hS) (by rw [Int.zero_add]; exact j3z (by simp [hi'])) ?_)
    refine (x04df _ rfl _ _ rfl rfl (by decide : (0 : Int) < 5) _ _ rfl rfl ?_)
    refine (x04df _ rfl _ _ rfl rfl (.inl ⟨by decide, by decide⟩) _ _ rfl rfl ?_)
    have e5 : (0 : Int) ≤ (0 + (i : Int)) % 5 := Int.emod_nonneg _ (by decide)
    refine (x18c7 _ _ _ rfl (by exact oef2f6) (by exact o55c6b mlo) (fun d H5 d0 d1 s7 => ?_))
    refine (x7584 _ rfl _ _ rfl rfl ?_)
    refine (xac60 p _ _ rfl rfl (s7 _ _ h4) (by rw [j0e, rl]; exact j0z (by exact od8a26 hl hi')) ?_)
    refine (x6c4f (rs ++ [d - most]) _ rfl ?_ (by simp [rl]) ?_ (j18 (s6.trans s7) hp0))
    · rw [j04]
      simp [iV]
    intro x hx
    rcases List.mem_append.mp hx with hx | hx
    · exact rb x hx
    rw [List.mem_singleton.mp hx]; exact o01536 mhi d0 d1
  rintro σ H4 ⟨rs, v, rfl, h4, rl, rb, s6⟩
  exact (x9614 _ rfl (q rs p H4 (by rw [rl]; simp) rb hp0 h4 s6))
end
end My
end
noncomputable section
namespace My
open PySem L2 L3
theorem seq_join {t u : TS} {D : Ends} {σ : L2.St} {H : Hp} (M : L2.St → Hp → Prop) (h : ∀ N : L2.St → Hp → Prop, (∀ σ' H', M σ' H' → N σ' H') → t { D with nx := N } σ H) (hu : ∀ σ' H', M σ' H' → u D σ' H') : tSeq t u D σ H := h (u D) hu
theorem j0v {t u : TS} {D : Ends} {σ : L2.St} {H : Hp} (M : L2.St → Hp → Prop) (h : ∀ N : L2.St → Hp → Prop, (∀ σ' H', M σ' H' → N σ' H') → let D' : Ends := { D with nx := N }; t D' σ H) (hu : ∀ σ' H', M σ' H' → u D σ' H') : tSeq t u D σ H := h (u D) hu
theorem gN {i : Nat} {v : V} {σ : L2.St} {H : Hp} {Q : L2.St → Hp → Prop} (h : Q (σ.set i (some v)) H) : gName i v σ H Q := h
theorem j3j {b : Int} {fs : List Int} (h : Bd b fs) {i : Nat} (hi : i < fs.length) : -b ≤ fs.getD i 0 ∧ fs.getD i 0 ≤ b := by
  rw [List.getD_eq_getElem?_getD, List.getElem?_eq_getElem hi]
  exact h _ (List.getElem_mem hi)
theorem j6i {b : Int} {fs : List Int} (h : Bd b fs) {i : Nat} {y : Int} (hy : -b ≤ y ∧ y ≤ b) : Bd b (fs.set i y) := fun x hx => by
  rcases List.mem_or_eq_of_mem_set hx with hx | hx
  · exact h x hx
  rw [hx]; exact hy
theorem j3d {b c : Int} {fs : List Int} (h : Bd b fs) (hc : b ≤ c) : Bd c fs := fun x hx => by have := h x hx; exact o3b513 hc this
theorem j1n {fs : List Int} {i : Nat} (hi : i < fs.length) : atI (iV fs) (i : Int) = some (.int (fs.getD i 0)) := j3z (by rw [List.getElem?_map, List.getElem?_eq_getElem hi, List.getD_eq_getElem?_getD, List.getElem?_eq_getElem hi]; rfl)
theorem j5h {fs : List Int} {i : Nat} (hi : i < fs.length) : ixN (iV fs).length (i : Int) = some i := by
  unfold ixN
  rw [j0e, if_pos (by exact o29297), if_pos (by exact oab013 hi)]
  simp
theorem j32 (fs : List Int) (i : Nat) (y : Int) : (iV fs).set i (.int y) = iV (fs.set i y) := by
  unfold iV; rw [List.map_set]
section
variable {P : Program} {w : World} {K : PySem.W.Frag} {mg : Str → Option Value} {base : Heap}
abbrev s_other : Stmt := tp 34
theorem j0o : FnScope ["_law_script", "_law_row_here", "_law_found", "_law_kind", "_law_k", "_law_one", "_law_other_here", "_law_more", "_law_amount"] ["_law_script", "_law_row_here"] (j0c s_other) := ⟨rfl, rfl, rfl, by decide +kernel, rfl, by decide +kernel, by decide +kernel⟩
noncomputable def jb3 (K : PySem.W.Frag) : Sp := fun vs H Q _ => ∃ (a p : Addr) (ns rs : List Int), vs = [.ref a, .ref p] ∧ SqL K H a (iV ns) ∧ H p = some (.lst (iV rs)) ∧ 1 ≤ rs.length ∧ rs.length ≤ 64 ∧ Bd 900000 rs ∧
  ∀ (os : List Int) (q : Addr) (H' : Hp), os.length = rs.length → Bd 999990 os → rs.sum - 1 ≤ os.sum → os.sum ≤ rs.sum + 1 → H q = none → H' q = some (.lst (iV os)) → Same H H' → Q (.ref q) H'
theorem ok_other {f : Addr} {fd : FuncData} (F : Fun K "_law_other" "_law_other" s_other f fd) (B : Bl mg) (c_cell_at : Ok P w K mg base 1 "_law_cell_at" ["_law_script", "_law_k"] (j8c K)) (c_draw : Ok P w K mg base 1 "_law_draw" ["_law_cell", "_law_k", "_law_many"] j8d) :
    FnOk P w K mg base CX0 2 f fd ["_law_script", "_law_row_here"] (jb3 K) := by
  refine F.ok j0o (fun vs H Q E h => ?_) (fun cdv A outer s H vs Q E hr h => ?_)
  · obtain ⟨a, p, ns, rs, rfl, _⟩ := h
    rfl
  obtain ⟨a, p, ns, rs, rfl, hS, hP, l1, l64, rb, q⟩ := h
  refine (x9614 _ (j01 (j5q rfl j0o.nd (i := 2) (j := 3) rfl rfl (by decide) rfl rfl (j00 (j2i j1f rfl B.list j1h (j00 (pv 1) j02)) (j00 (j06 c_draw (hr.mono (by decide)) rfl (j00 (j06 c_cell_at (hr.mono (by decide)) rfl (j00 (pv 0) (j00 j07 j02))) (j00 j07 (j00 j07 j02)))) j02)) rfl)
    (j01 (j1b (j0i j9p (pv 3) j07 (j0p _)) (j01 (j4r (j0t j2h (j0t j1e (j0y j0q (pv 2) j07 (fun _ _ => rfl)) (j06 c_draw (hr.mono (by decide)) rfl (j00 (j06 c_cell_at (hr.mono (by decide)) rfl (j00 (pv 0) (j00 j07 j02))) (j00 j07 (j00 j07 j02))))) j07) (j4q (pv 2) j07 j1k))
    (j08 (j0r (pe_rev (pv 2) (j6r j3v j07))))) j0m)
    (j01 (j21 PassesOwn.never rfl (j2g rfl B.range (j00 (j09 j0f rfl B.len PySem.boot_len (j00 (pv 1) j02)) j02)) (j1a (i := 4) j0o.nd rfl (Or.inl rfl))
    (j01 (j5q rfl j0o.nd (i := 5) (j := 6) rfl rfl (by decide) rfl rfl (j00 (pv 4) (j00 (j06 c_draw (hr.mono (by decide)) rfl (j00 (j06 c_cell_at (hr.mono (by decide)) rfl (j00 (pv 0) (j00 (pv 4) j02))) (j00 j07 (j00 (j09 j0f rfl B.len PySem.boot_len (j00 (pv 1) j02)) j02)))) j02)) rfl)
    (j01 (j0k (i := 7) j0o.nd rfl (Or.inl rfl) (j09 j3m rfl B.abs j3q (j00 (j0t j2h (j0y j0q (pv 2) (pv 5) (fun _ _ => rfl)) (j0y j0q (pv 2) (pv 6) (fun _ _ => rfl))) j02)))
    (j01 (j0k (i := 8) j0o.nd rfl (Or.inl rfl) (j06 c_draw (hr.mono (by decide)) rfl (j00 (j06 c_cell_at (hr.mono (by decide)) rfl (j00 (pv 0) (j00 (j0t j1e (pv 4) j07) j02))) (j00 j07 (j00 (j0t j1e (j0t j6s (pv 7) j07) j07) j02)))))
    (j01 (j1b (PW.pt (j5n (j0i j9x (pv 3) (j7s (j00 j07 (j00 j07 j02))) (by with_unfolding_all rfl)) (j51 (j0i j9p (j0t j3u (pv 4) (pv 3)) j07 (j0p _))))) (j08 (j0k (i := 8) j0o.nd rfl (Or.inl rfl) (j6r j3v (j06 c_draw (hr.mono (by decide)) rfl (j00 (j06 c_cell_at (hr.mono (by decide)) rfl (j00 (pv 0) (j00 (j0t j1e (pv 4) j07) j02))) (j00 j07 (j00 (j0t j1e j07 (j0t j6s (pv 7) j07)) j02))))))) j0m)
    (j01 (j1b (j0i j5s (j0t j1e (j09 (j9q rfl) rfl B.max boot_max (j00 (j09 j3m rfl B.abs j3q (j00 (j0y j0q (pv 2) (pv 5) (fun _ _ => rfl)) j02)) (j00 (j09 j3m rfl B.abs j3q (j00 (j0y j0q (pv 2) (pv 6) (fun _ _ => rfl)) j02)) j02))) (j09 j3m rfl B.abs j3q (j00 (pv 8) j02))) j07 (j0p _)) (j08 (j0k (i := 8) j0o.nd rfl (Or.inl rfl) j07)) j0m)
    (j01 (j1b (j0i j6t (j0y j0q (pv 2) (pv 5) (fun _ _ => rfl)) (j0y j0q (pv 2) (pv 6) (fun _ _ => rfl)) (j0p _)) (j01 (j0k (i := 5) j0o.nd rfl (Or.inl rfl) (pv 6))
    (j08 (j0k (i := 6) j0o.nd rfl (Or.inl rfl) (pv 4)))) j0m)
    (j01 (j4r (j0t j2h (j0y j0q (pv 2) (pv 5) (fun _ _ => rfl)) (pv 8)) (j4q (pv 2) (pv 5) j1k))
    (j08 (j4r (j0t j1e (j0y j0q (pv 2) (pv 6) (fun _ _ => rfl)) (pv 8)) (j4q (pv 2) (pv 6) j1k)))))))))))
    (j08 (j0r (j7o (pt_truth (j0t j3u (pv 3) j07) (fun _ => rfl)) (pe_rev (pv 2) (j6r j3v j07)) (pv 2))))))) ?_)
  refine (x7584 _ rfl p _ rfl (.inl (SqL.of hP)) (fun fa hfa => ?_))
  have s1 := j05 (o := .lst (iV rs)) hfa
  refine (xf1da _ rfl a ns 2 rfl (s1.seq hS) (by decide) (fun n => ?_))
  refine (x18c7 _ _ _ rfl (by decide) (by decide) (fun kind H1 k0 k6 s2 => ?_))
  refine (x90aa _ _ rfl ?_)
  have s3 := s1.trans s2
  have hF : H1 fa = some (.lst (iV rs)) := s2 _ _ j04
  refine (x6ef4 _ rfl rfl _ ⟨rfl, ?_⟩)
  refine ite2 (fun _ => ?_) (fun _ => ?_)
  · refine (x9614 _ rfl (x59b7 fa _ 0 _ rfl rfl (SqL.of hF) (j1n (i := 0) (by exact o54526 l1)) ?_))
    refine (xf1da _ rfl a ns 3 rfl (s3.seq hS) (by decide) (fun n1 => ?_))
    refine (x18c7 _ _ _ rfl (by decide) (by decide) (fun d H2 d0 d3 s4 => ?_))
    refine (xeb27 _ _ rfl rfl (x0d4a _ _ rfl rfl _ rfl (x59b7 fa _ 0 0 rfl rfl (s4 _ _ hF) (j5h (i := 0) (by exact o54526 l1)) ?_)))
    refine (x2128 _ rfl fa (iV (rs.set 0 (rs.getD 0 0 + d - 1))) rfl (x5ff7 1 rfl rfl ?_ (fun r hr' => ?_)))
    · exact SqL.of (by rw [j04, j32])
    have b0 := j3j rb (i := 0) (by exact o54526 l1)
    have hr0 : H2 r = none := by
      by_cases e : r = fa
      · subst e; rw [j04] at hr'; cases hr'
      rwa [j0a e] at hr'
    have s5 := s3.trans s4
    refine q (rs.set 0 (rs.getD 0 0 + d - 1)).reverse r _ (by simp) (fun x hx => ?_) ?_ ?_ (s5.free hr0) (by rw [j04]; simp [iV]) (fun b u e => ?_)
    · exact j6i (j3d rb (by decide)) (by exact o22f1e d0 d3 b0) x (List.mem_reverse.mp hx)
    · rw [j1t, j28 _ _ _ (by exact o54526 l1)]; exact o6229b d0
    · rw [j1t, j28 _ _ _ (by exact o54526 l1)]; exact o017a5 d3
    rw [j0a (j0d e (s5.free hr0)), j0a (j0d e hfa)]
    exact s5 b u e
  -- for k in range(len(row))
  have hP1 : H1 p = some (.lst (iV rs)) := s3 _ _ hP
  refine (xb699 _ rfl p _ rfl (.inl (SqL.of hP1)) _ rfl (by omega) (by rw [j0e]; omega) (j24 (n := ((iV rs).length : Int).toNat) (fun i σ H4 => ∃ (fs : List Int) (v4 v5 v6 v7 v8 : Option V), σ = [some (.ref a), some (.ref p), some (.ref fa), some (.int kind), v4, v5, v6, v7, v8] ∧ H4 fa = some (.lst (iV fs)) ∧ fs.length = rs.length ∧ Bd 999990 fs ∧ fs.sum = rs.sum ∧ Same H H4) (x5b0f rs none none none none none rfl hF rfl (j3d rb (by decide)) rfl s3) ?_ ?_))
  · rintro i σ H4 hi ⟨fs, v4, v5, v6, v7, v8, rfl, h4, fl, fb, fsum, s4⟩
    intro D'
    rw [j0e] at hi
    have hi' : i < fs.length := by exact o61bd6 hi fl
    refine (x2e55 _ rfl _ rfl _ rfl a ns _ rfl (s4.seq hS) (by exact od02e9) (fun n1 => ?_))
    refine (x7584 _ rfl p _ rfl (.inl (SqL.of (s4 _ _ hP))) ?_)
    refine (x18c7 _ _ _ rfl (by decide) (by rw [j0e]; exact o65411 fl hi') (fun ot H5 o0 o1 s5 => ?_))
    refine (x90aa _ _ rfl ?_)
    rw [j0e] at o1
    obtain ⟨j, rfl⟩ : ∃ j : Nat, ot = j := ⟨ot.toNat, by exact ob7bfc o0⟩
    have hj : j < fs.length := by exact o753c3 fl o1
    have h5 := s5 _ _ h4
    have e0 : (0 : Int) + (i : Int) = (i : Int) := Int.zero_add _
    refine (x12fa _ rfl _ rfl fa _ _ _ rfl rfl (SqL.of h5) (by rw [e0]; exact j1n hi') ?_)
    refine (x12fa _ rfl _ rfl fa _ _ _ rfl rfl (SqL.of h5) (j1n hj) ?_)
    refine (x0d4a _ _ rfl rfl _ rfl ?_)
    generalize hmore : (if fs.getD i 0 - fs.getD j 0 < 0 then -(fs.getD i 0 - fs.getD j 0) else fs.getD i 0 - fs.getD j 0) = more
    have m0 : 0 ≤ more := by rw [← hmore]; split <;> omega
    refine (xc932 _ rfl _ rfl _ _ rfl rfl a ns _ rfl (x3b98 ((s4.trans s5).seq hS) (by exact o0311b) (fun n2 => ?_)))
    refine (x04df _ rfl _ _ rfl rfl ⟨by decide, by decide⟩ _ _ rfl rfl ?_)
    have m2 : 0 ≤ more / 2 := Int.ediv_nonneg m0 (by decide)
    have m4 : 0 ≤ more / 4 := Int.ediv_nonneg m0 (by decide)
    refine (x18c7 _ _ _ rfl (by decide) (by exact ocf44c m4) (fun am0 H6 a0 a1 s6 => ?_))
    have h6 := s6 _ _ h5
    have s46 := (s4.trans s5).trans s6
    refine gN ?_
    dsimp only
    refine j0v (fun σ' H' => ∃ am : Int, σ' = [some (.ref a), some (.ref p), some (.ref fa), some (.int kind), some (.int (0 + (i : Int))), some (.int (0 + (i : Int))), some (.int (j : Int)), some (.int more), some (.int am)] ∧ H' fa = some (.lst (iV fs)) ∧ Same H H') ?_ ?_
    · intro N hN D'
      refine (x0c0c _ rfl (by show 2 ≤ sizeLine; decide) (fun t ht => ?_))
      have hfa' : H fa = none := hfa
      refine (x6c4f t _ rfl (.inr (SqT.of j04)) rfl rfl (x9614 _ rfl ?_))
      have s7 : Same H (upd H6 t (.tup [.int 3, .int 4])) := s46.trans (j05 ht)
      have h7 : (upd H6 t (.tup [V.int 3, V.int 4])) fa = some (.lst (iV fs)) := j05 ht _ _ h6
      refine ite2 (fun hin => ?_) (fun _ => ?_)
      · have hk : kind = 3 ∨ kind = 4 := by
          simp [inV, eqV] at hin
          exact ofb19d hin
        refine (x2fac _ rfl _ rfl _ _ rfl rfl (by omega) (x4c19 rfl _ rfl ?_))
        refine ite2 (fun _ => ?_) (fun _ => ?_)
        · refine (xc932 _ rfl _ rfl _ _ rfl rfl a ns _ rfl (x3b98 (s7.seq hS) (by exact o0311b) (fun n3 => ?_)))
          refine (x04df _ rfl _ _ rfl rfl ⟨by decide, by decide⟩ _ _ rfl rfl ?_)
          refine (x18c7 _ _ _ rfl (by decide) (by exact of2574 a0 a1) (fun am1 H8 b0 b1 s8 => ?_))
          refine (x9614 _ rfl ?_)
          exact hN _ _ (x0c0c (-am1) rfl (s8 _ _ h7) (s7.trans s8))
        exact hN _ _ (x0c0c am0 rfl h7 s7)
      exact hN _ _ (x0c0c am0 rfl h7 s7)
    rintro σ' H' ⟨am, rfl, h8, s8⟩
    have bi := j3j fb hi'
    have bj := j3j fb hj
    refine j0v (fun σ' H'' => H'' = H' ∧ ∃ am : Int, σ' = [some (.ref a), some (.ref p), some (.ref fa), some (.int kind), some (.int (0 + (i : Int))), some (.int (0 + (i : Int))), some (.int (j : Int)), some (.int more), some (.int am)] ∧ (-999990 ≤ fs.getD i 0 - am ∧ fs.getD i 0 - am ≤ 999990) ∧ (-999990 ≤ fs.getD j 0 - am ∧ fs.getD j 0 - am ≤ 999990) ∧ (-999990 ≤ fs.getD i 0 + am ∧ fs.getD i 0 + am ≤ 999990) ∧ (-999990 ≤ fs.getD j 0 + am ∧ fs.getD j 0 + am ≤ 999990)) ?_ ?_
    · intro N hN D'
      refine (x12fa _ rfl _ rfl fa _ _ _ rfl rfl (SqL.of h8) (by rw [e0]; exact j1n hi') (x9614 _ rfl ?_))
      refine (x12fa _ rfl _ rfl fa _ _ _ rfl rfl (SqL.of h8) (j1n hj) (x9614 _ rfl ?_))
      refine (x90aa _ _ rfl ?_)
      refine (xcabc _ rfl _ rfl _ _ rfl rfl _ _ rfl rfl (x9614 _ rfl ?_))
      refine ite2 (fun _ => ?_) (fun hle => ?_)
      · exact hN _ _ (x03a7 rfl 0 rfl (by exact o22a04 bi) (by exact o22a04 bj) (by exact o150ce bi) (by exact o150ce bj))
      refine hN _ _ (x4c19 rfl am rfl ?_)
      simp only [decide_eq_true_eq, gt_iff_lt] at hle
      repeat' split at hle
      all_goals omega
    rintro σ2 H2 ⟨rfl, am, rfl, c1, c2, c3, c4⟩
    refine j0v (fun σ' H'' => H'' = H2 ∧ ∃ x y : Nat, σ' = [some (.ref a), some (.ref p), some (.ref fa), some (.int kind), some (.int (0 + (i : Int))), some (.int (x : Int)), some (.int (y : Int)), some (.int more), some (.int am)] ∧ x < fs.length ∧ y < fs.length ∧ (-999990 ≤ fs.getD x 0 - am ∧ fs.getD x 0 - am ≤ 999990) ∧ (-999990 ≤ fs.getD y 0 + am ∧ fs.getD y 0 + am ≤ 999990)) ?_ ?_
    · intro N hN D'
      refine (x12fa _ rfl _ rfl fa _ _ _ rfl rfl (SqL.of h8) (by rw [e0]; exact j1n hi') ?_)
      refine (x12fa _ rfl _ rfl fa _ _ _ rfl rfl (SqL.of h8) (j1n hj) (x0d4a _ _ rfl rfl _ rfl ?_))
      refine ite2 (fun _ => ?_) (fun _ => ?_)
      · refine (x6f12 _ rfl _ rfl ?_)
        exact hN _ _ (x0a76 rfl j i (by simp only [e0]; rfl) hj hi' c2 c3)
      exact hN _ _ (x0a76 rfl i j (by simp only [e0]) hi' hj c1 c4)
    rintro σ3 H3 ⟨rfl, x, y, rfl, hx, hy, d1, d2⟩
    refine (x12fa _ rfl _ rfl fa _ _ _ rfl rfl (SqL.of h8) (j1n hx) (x7584 _ rfl _ _ rfl rfl ?_))
    refine (x12fa _ rfl _ rfl fa _ _ x rfl rfl h8 (j5h hx) ?_)
    rw [j32]
    have hy2 : y < (fs.set x (fs.getD x 0 - am)).length := by simpa using hy
    refine (x12fa _ rfl _ rfl fa _ _ _ rfl rfl (SqL.of j04) (j1n hy2) (x7584 _ rfl _ _ rfl rfl ?_))
    refine (x12fa _ rfl _ rfl fa _ _ y rfl rfl j04 (j5h hy2) ?_)
    rw [j32, j2u]
    refine (x5b0f ((fs.set x (fs.getD x 0 - am)).set y ((fs.set x (fs.getD x 0 - am)).getD y 0 + am)) _ _ _ _ _ rfl j04 (by simpa using fl) ?_ ?_ (j18 s8 hfa))
    · refine j6i (j6i fb d1) ?_
      by_cases e : x = y
      · subst e
        rw [j0x hx]
        have := j3j fb hx
        exact o9c61e this
      rw [j0h e]; exact d2
    rw [j28 _ _ _ hy2, j28 _ _ _ hx]
    exact o69602 fsum
  rintro σ H4 ⟨fs, v4, v5, v6, v7, v8, rfl, h4, fl, fb, fsum, s4⟩
  refine (xf719 _ rfl _ _ rfl rfl (by decide : (0 : Int) < 2) _ rfl ?_)
  refine ite2 (fun _ => ?_) (fun _ => ?_)
  · refine (x2128 _ rfl fa _ rfl (x5ff7 1 rfl rfl (SqL.of h4) (fun r hr' => ?_)))
    refine q fs.reverse r _ (by simpa using fl) (fun x hx => fb x (List.mem_reverse.mp hx)) (by rw [j1t]; exact of6593 fsum) (by rw [j1t]; exact o8e290 fsum) (s4.free hr') (by rw [j04]; simp [iV]) (j18 s4 (s4.free hr'))
  exact (x9614 _ rfl (q fs fa H4 fl fb (by exact of6593 fsum) (by exact o8e290 fsum) hfa h4 s4))
end
end My
end
noncomputable section
namespace My
open PySem L2 L3
section
variable {P : Program} {w : World} {K : PySem.W.Frag} {mg : Str → Option Value} {base : Heap}
noncomputable def isI : V → Bool
  | .int _ => true
  | _ => false
inductive Kd (K : PySem.W.Frag) (H : Hp) : V → Value → Bool → Bool → Bool → Bool → Prop where
  | non : Kd K H .non (.type "NoneType") false false false false
  | bl (x : Bool) : Kd K H (.bl x) (.type "bool") true true false false
  | int (i : Int) : Kd K H (.int i) (.type "int") true false false false
  | str (x : Str) : Kd K H (.str x) (.type "str") false false false false
  | lst {a : Addr} {xs : List V} (e : H a = some (.lst xs)) : Kd K H (.ref a) (.type "list") false false true false
  | tup {a : Addr} {xs : List V} (e : H a = some (.tup xs)) : Kd K H (.ref a) (.type "tuple") false false false true
  | dK {a : Addr} {kvs : List (Key × V)} (e : H a = some (.dK kvs)) : Kd K H (.ref a) (.type "dict") false false false false
theorem Kd.ty {H : Hp} {x : V} {t : Value} {i b l u : Bool} (k : Kd K H x t i b l u) : TyOf K H x t := by
  cases k with
  | non => exact .non
  | bl x => exact .bl x
  | int i => exact .int i
  | str x => exact .str x
  | lst e => exact .lst e
  | tup e => exact .tup e
  | dK e => exact .dK e
theorem Kd.isInt {H : Hp} {x : V} {t : Value} {i b l u : Bool} (k : Kd K H x t i b l u) : PySem.W.kitOne K t (.type "int") = some i := by cases k <;> rfl
theorem Kd.isBool {H : Hp} {x : V} {t : Value} {i b l u : Bool} (k : Kd K H x t i b l u) : PySem.W.kitOne K t (.type "bool") = some b := by cases k <;> rfl
theorem Kd.isTuple {H : Hp} {x : V} {t : Value} {i b l u : Bool} (k : Kd K H x t i b l u) : PySem.W.kitOne K t (.type "tuple") = some u := by cases k <;> rfl
theorem Kd.whole {H : Hp} {x : V} {t : Value} {i b l u : Bool} (k : Kd K H x t i b l u) : (i && !b) = isI x := by cases k <;> rfl
noncomputable def Known (K : PySem.W.Frag) (H : Hp) (x : V) : Prop := ∃ t i b l u, Kd K H x t i b l u
abbrev s_whole : Stmt := tp 9
theorem j7d : FnScope ["value"] ["value"] (j0c s_whole) := ⟨rfl, rfl, rfl, by decide +kernel, rfl, by decide +kernel, by decide +kernel⟩
noncomputable def j48 (K : PySem.W.Frag) : Sp := fun vs H Q _ => ∃ x, vs = [x] ∧ Known K H x ∧ Q (.bl (isI x)) H
theorem ok_whole {f : Addr} {fd : FuncData} (F : Fun K "is_whole" "is_whole" s_whole f fd) (B : Bl mg) : FnOk P w K mg base CX0 1 f fd ["value"] (j48 K) := by
  refine F.ok j7d (fun vs H Q E h => ?_) (fun cdv A outer s H vs Q E hr h => ?_)
  · obtain ⟨x, rfl, _⟩ := h
    rfl
  obtain ⟨x, rfl, ⟨t, i, b, l, u, kd⟩, q⟩ := h
  refine (x9614 _ (j08 (j0r (j5p (j09 j1w rfl B.isinstance PyProof.Rows.boot_isinstance (j00 (pv 0) (j00 (j2f (v := .ty "int") rfl B.int j84 rfl) j02))) (j5o (j9d (j09 j1w rfl B.isinstance PyProof.Rows.boot_isinstance (j00 (pv 0) (j00 (j2f (v := .ty "bool") rfl B.bool j6b rfl) j02)))))))) ?_)
  have kw := kd.whole
  refine (xa386 _ rfl x _ _ t i rfl rfl kd.ty kd.isInt _ ⟨rfl, ?_⟩)
  cases i with
  | false =>
    refine iteF ?_
    rw [← kw] at q
    exact q
  | true =>
    refine iteT ?_
    refine (xa386 _ rfl x _ _ t b rfl rfl kd.ty kd.isBool _ ⟨rfl, ?_⟩)
    rw [← kw] at q
    exact q
noncomputable def plI (x : V) (n : Int) : Bool := match x with
  | .int i => decide (0 ≤ i) && decide (i < n)
  | _ => false
abbrev s_place : Stmt := tp 12
theorem j7e : FnScope ["value", "count"] ["value", "count"] (j0c s_place) := ⟨rfl, rfl, rfl, by decide +kernel, rfl, by decide +kernel, by decide +kernel⟩
noncomputable def jb4 (K : PySem.W.Frag) : Sp := fun vs H Q _ => ∃ x n, vs = [x, .int n] ∧ Known K H x ∧ Q (.bl (plI x n)) H
theorem ok_place {f : Addr} {fd : FuncData} (F : Fun K "is_place" "is_place" s_place f fd) (c_is_whole : Ok P w K mg base 1 "is_whole" ["value"] (j48 K)) : FnOk P w K mg base CX0 2 f fd ["value", "count"] (jb4 K) := by
  refine F.ok j7e (fun vs H Q E h => ?_) (fun cdv A outer s H vs Q E hr h => ?_)
  · obtain ⟨x, n, rfl, _⟩ := h
    rfl
  obtain ⟨x, n, rfl, kn, q⟩ := h
  refine (x9614 _ (j08 (j0r (j5p (j06 c_is_whole (hr.mono (by decide)) rfl (j00 (pv 0) j02)) (j5o (j7q op_le j6t j07 (pv 0) (pv 1)))))) ?_)
  refine (x7257 _ rfl x rfl kn _ rfl ?_)
  cases x with
  | int i =>
    refine iteT ?_
    refine (x5bbc _ rfl _ _ rfl rfl _ rfl ?_)
    refine ite2 (fun h => ?_) (fun h => ?_)
    · refine (x7584 _ rfl _ _ rfl rfl ?_)
      have e : plI (.int i) n = decide (i < n) := by show (decide (0 ≤ i) && decide (i < n)) = _; rw [h]; rfl
      rw [e] at q
      exact q
    have e : plI (.int i) n = false := by show (decide (0 ≤ i) && decide (i < n)) = _; rw [Bool.eq_false_iff.mpr h]; rfl
    rw [e] at q
    exact q
  | _ => exact iteF q
noncomputable def okE (x y z : V) : Bool := match x, y, z with
  | .int a, .int b, .int c => decide (a ≠ b) && decide (0 < c)
  | _, _, _ => false
noncomputable def okV (n : Int) (xs : List V) : Bool := match xs with
  | [x, y, z] => plI x n && plI y n && okE x y z
  | _ => false
theorem j2l (n : Int) (x y z : V) : okV n [x, y, z] = (plI x n && plI y n && okE x y z) := rfl
theorem okV_no (n : Int) (x y z : V) (hz : isI z = false) : okV n [x, y, z] = false := by
  have e : okE x y z = false := by
    unfold okE
    split
    · cases hz
    rfl
  rw [j2l, e, Bool.and_false]
abbrev s_gift : Stmt := tp 13
theorem j97 : FnScope ["value", "count"] ["value", "count"] (j0c s_gift) := ⟨rfl, rfl, rfl, by decide +kernel, rfl, by decide +kernel, by decide +kernel⟩
noncomputable def j7f (H : Hp) (n : Int) (x : V) : Bool := match x with
  | .ref p => (match H p with
    | some (.tup xs) => okV n xs
    | _ => false)
  | _ => false
theorem j6j {H : Hp} {n : Int} {p : Addr} {xs : List V} (e : H p = some (.tup xs)) : j7f H n (.ref p) = okV n xs := by
  unfold j7f
  simp only [e]
noncomputable def spGift (K : PySem.W.Frag) : Sp := fun vs H Q _ => ∃ x n, vs = [x, .int n] ∧ Known K H x ∧ (∀ p xs, x = .ref p → H p = some (.tup xs) → ∀ y ∈ xs, Known K H y) ∧
  Q (.bl (j7f H n x)) H
theorem ok_gift {f : Addr} {fd : FuncData} (F : Fun K "is_gift" "is_gift" s_gift f fd) (B : Bl mg) (c_is_whole : Ok P w K mg base 1 "is_whole" ["value"] (j48 K)) (c_is_place : Ok P w K mg base 2 "is_place" ["value", "count"] (jb4 K)) :
    FnOk P w K mg base CX0 3 f fd ["value", "count"] (spGift K) := by
  refine F.ok j97 (fun vs H Q E h => ?_) (fun cdv A outer s H vs Q E hr h => ?_)
  · obtain ⟨x, n, rfl, _⟩ := h
    rfl
  obtain ⟨x, n, rfl, ⟨t, i, b, l, u, kd⟩, kn, q⟩ := h
  refine (x9614 _ (j01 (j1b (PW.pt (j4k (j2c (j20 (j09 j1w rfl B.isinstance PyProof.Rows.boot_isinstance (j00 (pv 0) (j00 (j2f (v := .ty "tuple") rfl B.tuple j8u rfl) j02))))) (j2w (j0i j52 (j09 j0f rfl B.len PySem.boot_len (j00 (pv 0) j02)) j07 (j0p _))))) (j08 (j0r j50)) j0m)
    (j01 (j1b (PW.pt (j4k (j2c (j20 (j06 c_is_place (hr.mono (by decide)) rfl (j00 (j0y j1v (pv 0) j07 (fun _ _ => rfl)) (j00 (pv 1) j02))))) (j2w (j2c (j20 (j06 c_is_place (hr.mono (by decide)) rfl (j00 (j0y j1v (pv 0) j07 (fun _ _ => rfl)) (j00 (pv 1) j02)))))))) (j08 (j0r j50)) j0m)
    (j08 (j0r (j5p (j53 j52 (j0y j1v (pv 0) j07 (fun _ _ => rfl)) (j0y j1v (pv 0) j07 (fun _ _ => rfl)) (j0p _)) (j5p (j06 c_is_whole (hr.mono (by decide)) rfl (j00 (j0y j1v (pv 0) j07 (fun _ _ => rfl)) j02)) (j5o (j53 j5s (j0y j1v (pv 0) j07 (fun _ _ => rfl)) j07 (j0p _))))))))) ?_)
  refine (xa386 _ rfl x _ _ t u rfl rfl kd.ty kd.isTuple _ ⟨rfl, ?_⟩)
  cases kd with
  | @tup a xs e =>
    refine iteF ?_
    have q' : Q (.bl (okV n xs)) H := by
      rw [j6j e] at q
      exact q
    have kn' := kn a xs rfl e
    refine (xf719 _ rfl a _ rfl (.inr (SqT.of e)) rfl _ rfl ?_)
    refine ite2 (fun hlen => ?_) (fun hlen => ?_)
    · have e3 : okV n xs = false := by
        unfold okV
        split
        · simp at hlen
        rfl
      rw [e3] at q'
      exact q'
    obtain ⟨x0, x1, x2, rfl⟩ : ∃ x0 x1 x2, xs = [x0, x1, x2] := by
      have hl : xs.length = 3 := by
        have : ¬ ((!decide (V.int (xs.length : Int) = V.int 3)) = true) := hlen
        simp at this
        exact o67d44 this
      match xs, hl with
      | [x0, x1, x2], _ => exact (xe8d9 x0 x1 x2 rfl)
    have k0 := kn' x0 (by simp)
    have k1 := kn' x1 (by simp)
    have k2 := kn' x2 (by simp)
    refine (x4d9d _ rfl a _ _ x0 rfl rfl (SqT.of e) rfl _ rfl (x0d4a x0 n rfl k0 _ rfl ?_))
    cases p0 : plI x0 n with
    | false =>
      refine iteT ?_
      have e3 : okV n [x0, x1, x2] = false := by rw [j2l, p0]; rfl
      rw [e3] at q'
      exact q'
    | true =>
      refine iteF ?_
      refine (x4d9d _ rfl a _ _ x1 rfl rfl (SqT.of e) rfl _ rfl (x0d4a x1 n rfl k1 _ rfl ?_))
      cases p1 : plI x1 n with
      | false =>
        refine iteT ?_
        have e3 : okV n [x0, x1, x2] = false := by rw [j2l, p0, p1]; rfl
        rw [e3] at q'
        exact q'
      | true =>
        refine iteF ?_
        obtain ⟨i0, rfl⟩ : ∃ i, x0 = .int i := by
          cases x0 with
          | int i => exact ⟨i, rfl⟩
          | _ => cases p0
        obtain ⟨i1, rfl⟩ : ∃ i, x1 = .int i := by
          cases x1 with
          | int i => exact ⟨i, rfl⟩
          | _ => cases p1
        refine (x4d9d _ rfl a _ _ (V.int i0) rfl rfl (SqT.of e) rfl _ rfl (x3cc4 a _ _ (V.int i1) rfl rfl (SqT.of e) rfl rfl (x9614 _ rfl ?_)))
        have ed : decide (V.int i0 = V.int i1) = decide (i0 = i1) := by simp
        rw [ed]
        by_cases h01 : i0 = i1
        · have e3 : okV n [.int i0, .int i1, x2] = false := by
            rw [j2l, p0, p1]
            cases x2 <;> simp [okE, h01]
          rw [e3] at q'
          rw [decide_eq_true h01]
          exact q'
        rw [decide_eq_false h01]
        refine iteT ?_
        refine (x4d9d _ rfl a _ _ x2 rfl rfl (SqT.of e) rfl x2 rfl (x4c19 k2 _ rfl ?_))
        cases x2 with
        | int c =>
          refine iteT ?_
          refine (x9614 _ rfl (x59b7 a _ _ (V.int c) rfl rfl (SqT.of e) rfl (xeb27 _ _ rfl rfl ?_)))
          have e3 : okV n [.int i0, .int i1, .int c] = decide (0 < c) := by
            rw [j2l, p0, p1]
            simp [okE, h01]
          rw [e3] at q'
          exact q'
        | _ =>
          refine iteF ?_
          rw [okV_no n _ _ _ rfl] at q'
          exact q'
  | @lst a xs e =>
    have z : j7f H n (.ref a) = false := by unfold j7f; simp only [e]
    rw [z] at q
    exact iteT (iteT q)
  | @dK a kvs e =>
    have z : j7f H n (.ref a) = false := by unfold j7f; simp only [e]
    rw [z] at q
    exact iteT (iteT q)
  | _ => exact iteT (iteT q)
end
end My
end
noncomputable section
namespace My
open PySem L2 L3
theorem j33 {α : Type} {gs : List α} {i : Nat} {g : α} (h : gs[i]? = some g) : gs.take (i + 1) = gs.take i ++ [g] := by
  have hi : i < gs.length := (List.getElem?_eq_some_iff.mp h).1
  rw [List.take_succ_eq_append_getElem hi, (List.getElem?_eq_some_iff.mp h).2]
abbrev gV (g : G3) : List V := [.int g.1, .int g.2.1, .int g.2.2]
noncomputable def GR (H : Hp) (g : G3) (x : V) : Prop := ∃ t, x = .ref t ∧ H t = some (.tup (gV g))
noncomputable def GL (H : Hp) (p : Addr) (gs : List G3) : Prop := ∃ xs, H p = some (.lst xs) ∧ PySem.Paired (GR H) gs xs
theorem j12 {H H' : Hp} (s : Same H H') : ∀ {gs : List G3} {xs : List V}, PySem.Paired (GR H) gs xs → PySem.Paired (GR H') gs xs
  | _, _, .nil => .nil
  | _, _, .cons ⟨t, e, h⟩ r => .cons (x9614 t e (s _ _ h)) (j12 s r)
theorem j1q {H : Hp} {p : Addr} {o : HO} (n : ∀ xs, H p ≠ some (.tup xs)) : ∀ {gs : List G3} {xs : List V}, PySem.Paired (GR H) gs xs → PySem.Paired (GR (upd H p o)) gs xs
  | _, _, .nil => .nil
  | _, _, .cons ⟨t, e, h⟩ r => .cons (x9614 t e (by rw [j0a (fun z => n _ (z ▸ h))]; exact h)) (j1q n r)
theorem GL.same {H H' : Hp} {p : Addr} {gs : List G3} (g : GL H p gs) (s : Same H H') : GL H' p gs := let ⟨xs, h, q⟩ := g; (x9614 xs (s _ _ h) (j12 s q))
theorem GL.len {H : Hp} {xs : List V} {gs : List G3} (q : PySem.Paired (GR H) gs xs) : xs.length = gs.length := (PySem.Paired.length q).symm
theorem okV_ints (n : Nat) (g : G3) : okV n (gV g) = okG n g := by
  show (plI (.int g.1) n && plI (.int g.2.1) n && okE (.int g.1) (.int g.2.1) (.int g.2.2)) = _
  unfold okG plI okE
  simp only [Bool.decide_and, Bool.and_assoc]
noncomputable def showsG (os ts : List Int) (gs : List G3) : Bool := decide (os.length = ts.length) && decide (gs.length < os.length) && (match runG os gs with
  | some r => decide (srt r = srt ts)
  | none => false)
section
variable {P : Program} {w : World} {K : PySem.W.Frag} {mg : Str → Option Value} {base : Heap}
abbrev s_give : Stmt := tp 17
theorem sc_give : FnScope ["row", "gift"] ["row", "gift"] (j0c s_give) := ⟨rfl, rfl, rfl, by decide +kernel, rfl, by decide +kernel, by decide +kernel⟩
noncomputable def spGive : Sp := fun vs H Q _ => ∃ (p t : Addr) (rs : List Int) (g : G3) (i j : Nat), vs = [.ref p, .ref t] ∧ H p = some (.lst (iV rs)) ∧ H t = some (.tup (gV g)) ∧ g.1 = i ∧ g.2.1 = j ∧ i < rs.length ∧ j < rs.length ∧ Q .non (upd H p (.lst (iV (L3.give rs i j g.2.2))))
theorem ok_give {f : Addr} {fd : FuncData} (F : Fun K "give" "give" s_give f fd) : FnOk P w K mg base CX0 1 f fd ["row", "gift"] spGive := by
  refine F.ok sc_give (fun vs H Q E h => ?_) (fun cdv A outer s H vs Q E hr h => ?_)
  · obtain ⟨p, t, rs, g, i, j, rfl, _⟩ := h
    rfl
  obtain ⟨p, t, rs, ⟨g1, g2, a⟩, i, j, rfl, hp, ht, e1, e2, hi, hj, q⟩ := h
  dsimp only at e1 e2
  subst e1 e2
  have npt : t ≠ p := ne_of ht hp (by intro z; cases z)
  refine (x9614 _ (j01 (j6q (pv 0) (j0y j1v (pv 1) j07 (fun _ _ => rfl)) j5d (j0y j1v (pv 1) j07 (fun _ _ => rfl)) j9g j1k)
    (j08 (j6q (pv 0) (j0y j1v (pv 1) j07 (fun _ _ => rfl)) j5d (j0y j1v (pv 1) j07 (fun _ _ => rfl)) j9f j1k))) ?_)
  refine (x12fa _ rfl _ rfl t _ _ _ rfl rfl (SqT.of ht) rfl (x59b7 p _ _ _ rfl rfl (SqL.of hp) (j1n hi) (x9614 _ rfl (x59b7 t _ _ _ rfl rfl (SqT.of ht) rfl (xeb27 _ _ rfl rfl (x59b7 p _ _ i rfl rfl hp (j5h hi) ?_))))))
  rw [j32]
  have ht' : ∀ o, (upd H p o) t = some (.tup (gV ((i : Int), (j : Int), a))) := fun o => by rw [j0a npt]; exact ht
  have hj2 : j < (rs.set i (rs.getD i 0 - a)).length := by simpa using hj
  refine (x12fa _ rfl _ rfl t _ _ _ rfl rfl (SqT.of (ht' _)) rfl (x59b7 p _ _ _ rfl rfl (SqL.of j04) (j1n hj2) (x9614 _ rfl (x59b7 t _ _ _ rfl rfl (SqT.of (ht' _)) rfl (xeb27 _ _ rfl rfl (x59b7 p _ _ j rfl rfl j04 (j5h hj2) ?_))))))
  rw [j32, j2u]
  exact q
abbrev s_GI : Stmt := j6y (tp 21) 0
theorem j3e : FnScope ["self", "gifts"] ["self", "gifts"] (j0c s_GI) := ⟨rfl, rfl, rfl, by decide +kernel, rfl, by decide +kernel, by decide +kernel⟩
noncomputable def spGI (K : PySem.W.Frag) (C : Addr) : Sp := fun vs H Q _ => ∃ (x dx p : Addr) (xs : List V), vs = [.ref x, .ref p] ∧ H x = some (.ins C dx []) ∧ SqL K H p xs ∧ ∀ l, H l = none → Q .non (upd (upd H l (.lst xs)) x (.ins C dx (putF "gifts" (.ref l) [])))
theorem ok_GI {f C : Addr} {fd : FuncData} (F : Fun K "__init__" "Gifts.__init__" s_GI f fd) (B : Bl mg) (cl : Cls K C) (na : j2s K C "gifts") : FnOk P w K mg base CX0 1 f fd ["self", "gifts"] (spGI K C) := by
  refine F.ok j3e (fun vs H Q E h => ?_) (fun cdv A outer s H vs Q E hr h => ?_)
  · obtain ⟨x, dx, p, xs, rfl, _⟩ := h
    rfl
  obtain ⟨x, dx, p, xs, rfl, hx, hp, q⟩ := h
  refine (x9614 _ (j08 (j7r (pv 0) (j2i j1f rfl B.list j1h (j00 (pv 1) j02)) rfl)) ?_)
  refine (x7584 _ rfl p _ rfl (.inl hp) (fun l hl => ?_))
  refine (x9614 _ rfl (x3cc4 x C dx [] rfl ?_ cl na (by show 0 < 1000; decide) (q l hl)))
  rw [j0a (j0d hx hl)]; exact hx
end
end My
end
noncomputable section
namespace My
open PySem L2 L3
noncomputable def topB (os ts : List Int) (k : Int) : Bool := decide (os.length = ts.length) && decide (os.sum = ts.sum) && (decide (1 ≤ k) && decide (k ≤ os.length)) && decide (top k.toNat os < top k.toNat ts)
noncomputable def whB (os ts : List Int) (a b : Int) : Bool := decide (os.length = ts.length) && (decide (a = os.sum) && (decide (b = ts.sum) && !decide (a = b)))
section
variable {P : Program} {w : World} {K : PySem.W.Frag} {mg : Str → Option Value} {base : Heap}
abbrev s_TI : Stmt := j6y (tp 22) 0
theorem j49 : FnScope ["self", "many"] ["self", "many"] (j0c s_TI) := ⟨rfl, rfl, rfl, by decide +kernel, rfl, by decide +kernel, by decide +kernel⟩
noncomputable def spTI (C : Addr) : Sp := fun vs H Q _ => ∃ (x dx : Addr) (v : V), vs = [.ref x, v] ∧ H x = some (.ins C dx []) ∧ Q .non (upd H x (.ins C dx (putF "many" v [])))
theorem ok_TI {f C : Addr} {fd : FuncData} (F : Fun K "__init__" "Top.__init__" s_TI f fd) (cl : Cls K C) (na : j2s K C "many") : FnOk P w K mg base CX0 1 f fd ["self", "many"] (spTI C) := by
  refine F.ok j49 (fun vs H Q E h => ?_) (fun cdv A outer s H vs Q E hr h => ?_)
  · obtain ⟨x, dx, v, rfl, _⟩ := h
    rfl
  obtain ⟨x, dx, v, rfl, hx, q⟩ := h
  refine (x9614 _ (j08 (j7r (pv 0) (pv 1) rfl)) ?_)
  exact (x12fa _ rfl _ rfl x C dx [] rfl hx cl na ⟨by show 0 < 1000; decide, q⟩)
abbrev s_WI : Stmt := j6y (tp 23) 0
theorem j34 : FnScope ["self", "one", "other"] ["self", "one", "other"] (j0c s_WI) := ⟨rfl, rfl, rfl, by decide +kernel, rfl, by decide +kernel, by decide +kernel⟩
noncomputable def spWI (C : Addr) : Sp := fun vs H Q _ => ∃ (x dx : Addr) (v u : V), vs = [.ref x, v, u] ∧ H x = some (.ins C dx []) ∧ Q .non (upd H x (.ins C dx (putF "other" u (putF "one" v []))))
theorem ok_WI {f C : Addr} {fd : FuncData} (F : Fun K "__init__" "Wholes.__init__" s_WI f fd) (cl : Cls K C) (na : j2s K C "one") (nb : j2s K C "other") : FnOk P w K mg base CX0 1 f fd ["self", "one", "other"] (spWI C) := by
  refine F.ok j34 (fun vs H Q E h => ?_) (fun cdv A outer s H vs Q E hr h => ?_)
  · obtain ⟨x, dx, v, u, rfl, _⟩ := h
    rfl
  obtain ⟨x, dx, v, u, rfl, hx, q⟩ := h
  refine (x9614 _ (j01 (j7r (pv 0) (pv 1) rfl)
    (j08 (j7r (pv 0) (pv 2) rfl))) ?_)
  refine (x12fa _ rfl _ rfl x C dx [] rfl hx cl na ⟨by show 0 < 1000; decide, ?_⟩)
  refine (x12fa _ rfl _ rfl x C dx _ rfl j04 cl nb ⟨by show 1 < 1000; decide, ?_⟩)
  rw [j2u]
  exact q
end
end My
end
noncomputable section
namespace My
open PySem L2 L3
section
variable {P : Program} {w : World} {K : PySem.W.Frag} {mg : Str → Option Value} {base : Heap}
abbrev s_share : Stmt := tp 10
theorem j7g : FnScope ["value"] ["value"] (j0c s_share) := ⟨rfl, rfl, rfl, by decide +kernel, rfl, by decide +kernel, by decide +kernel⟩
noncomputable def j7h : Sp := fun vs H Q _ => ∃ n : Int, vs = [.int n] ∧ Q (.bl (decide (-1000000 ≤ n) && decide (n ≤ 1000000))) H
theorem ok_share {f : Addr} {fd : FuncData} {tB : Tok} (F : Fun K "is_share" "is_share" s_share f fd) (g_BOUND : mg "BOUND" = some (.int 1000000 tB)) (c_is_whole : Ok P w K mg base 1 "is_whole" ["value"] (j48 K)) : FnOk P w K mg base CX0 2 f fd ["value"] j7h := by
  refine F.ok j7g (fun vs H Q E h => ?_) (fun cdv A outer s H vs Q E hr h => ?_)
  · obtain ⟨n, rfl, _⟩ := h
    rfl
  obtain ⟨n, rfl, q⟩ := h
  refine (x9614 _ (j08 (j0r (j5p (j06 c_is_whole (hr.mono (by decide)) rfl (j00 (pv 0) j02)) (j5o (j7q op_le op_le (j6r j3v (j6p (v := .int 1000000) rfl g_BOUND ⟨_, rfl⟩)) (pv 0) (j6p (v := .int 1000000) rfl g_BOUND ⟨_, rfl⟩)))))) ?_)
  refine (x7257 _ rfl (.int n) rfl (xe085 _ _ _ _ _ (.int n)) _ rfl ?_)
  refine iteT ?_
  refine (x92ad _ rfl _ rfl _ _ rfl rfl _ rfl ?_)
  by_cases h1 : (-1000000 : Int) ≤ n
  · rw [decide_eq_true h1] at q ⊢
    exact (xeb27 _ _ rfl rfl q)
  rw [decide_eq_false h1] at q ⊢
  exact q
abbrev s_ckrow : Stmt := tp 11
theorem j3k : FnScope ["row", "share"] ["row"] (j0c s_ckrow) := ⟨rfl, rfl, rfl, by decide +kernel, rfl, by decide +kernel, by decide +kernel⟩
noncomputable def j4a : Sp := fun vs H Q _ => ∃ (p : Addr) (rs : List Int), vs = [.ref p] ∧ H p = some (.lst (iV rs)) ∧ rs ≠ [] ∧ Bd 1000000 rs ∧ Q .non H
theorem ok_ckrow {f : Addr} {fd : FuncData} (F : Fun K "check_row" "check_row" s_ckrow f fd) (B : Bl mg) (c_is_share : Ok P w K mg base 2 "is_share" ["value"] j7h) : FnOk P w K mg base CX0 3 f fd ["row"] j4a := by
  refine F.ok j3k (fun vs H Q E h => ?_) (fun cdv A outer s H vs Q E hr h => ?_)
  · obtain ⟨p, rs, rfl, _⟩ := h
    rfl
  obtain ⟨p, rs, rfl, hp, hne, hb, q⟩ := h
  refine (x9614 _ (j01 (j1b (PW.pt (j4k (j2c (j20 (j09 j1w rfl B.isinstance PyProof.Rows.boot_isinstance (j00 (pv 0) (j00 (j2f (v := .ty "list") rfl B.list j1h rfl) j02))))) (j2w (j0i j9p (j09 j0f rfl B.len PySem.boot_len (j00 (pv 0) j02)) j07 (j0p _))))) (j08 j25) j0m)
    (j08 (j21 PassesOwn.never rfl (j26 (pv 0)) (j1a (i := 1) j3k.nd rfl (Or.inl rfl))
    (j08 (j1b (j2c (j20 (j06 c_is_share (hr.mono (by decide)) rfl (j00 (pv 1) j02)))) (j08 j25) j0m))))) ?_)
  refine j0v (fun σ' H' => σ' = [some (.ref p), none] ∧ H' = H) ?_ ?_
  · intro N hN D'
    refine (xa386 _ rfl (.ref p) _ _ _ true rfl rfl (.lst hp) rfl _ ⟨rfl, ?_⟩)
    refine iteF ?_
    refine (xf719 _ rfl p _ rfl (.inl (SqL.of hp)) rfl _ rfl ?_)
    have e : decide (V.int ((iV rs).length : Int) = V.int 0) = false := decide_eq_false fun z => by
      injection z with z
      rw [j0e] at z
      exact hne (List.length_eq_zero_iff.mp (by exact od2022 z))
    rw [e]
    exact iteF (hN _ _ ⟨rfl, rfl⟩)
  rintro σ' H' ⟨rfl, rfl⟩
  refine (x9963 _ rfl p rfl ⟨_, SqL.of hp⟩ (j1u (K := K) (a := p) (xs := iV rs) (fun i σ H2 => ∃ v, σ = [some (.ref p), v] ∧ H2 = H') (x9614 none rfl rfl) (by rintro i σ H2 _ ⟨_, _, e⟩; rw [e]; exact SqL.of hp) ?_ ?_))
  · rintro i y σ H2 hi ⟨v, rfl, rfl⟩
    intro D'
    obtain ⟨n, hn, rfl⟩ : ∃ n, rs[i]? = some n ∧ y = V.int n := by
      rw [List.getElem?_map] at hi
      cases e : rs[i]? with
      | none => rw [e] at hi; cases hi
      | some n => rw [e] at hi; exact (x9614 n rfl ((Option.some.inj hi).symm))
    have bn := hb n (List.mem_of_getElem? hn)
    refine (x6f12 _ rfl n rfl ?_)
    rw [decide_eq_true bn.1, decide_eq_true bn.2]
    refine (x9614 _ rfl ?_)
    exact iteF (x9614 _ rfl rfl)
  rintro σ H2 ⟨v, rfl, rfl⟩
  exact q
abbrev s_ckpair : Stmt := tp 25
theorem j5i : FnScope ["one", "other"] ["one", "other"] (j0c s_ckpair) := ⟨rfl, rfl, rfl, by decide +kernel, rfl, by decide +kernel, by decide +kernel⟩
noncomputable def j8e : Sp := fun vs H Q _ => ∃ (p q : Addr) (rs qs : List Int), vs = [.ref p, .ref q] ∧ H p = some (.lst (iV rs)) ∧ H q = some (.lst (iV qs)) ∧ rs ≠ [] ∧ rs.length = qs.length ∧ Bd 1000000 rs ∧ Bd 1000000 qs ∧ Q .non H
theorem jb5 {f : Addr} {fd : FuncData} (F : Fun K "check_pair" "check_pair" s_ckpair f fd) (B : Bl mg) (c_check_row : Ok P w K mg base 3 "check_row" ["row"] j4a) : FnOk P w K mg base CX0 4 f fd ["one", "other"] j8e := by
  refine F.ok j5i (fun vs H Q E h => ?_) (fun cdv A outer s H vs Q E hr h => ?_)
  · obtain ⟨p, q, rs, qs, rfl, _⟩ := h
    rfl
  obtain ⟨p, q, rs, qs, rfl, hp, hq, hne, hl, b1, b2, k⟩ := h
  refine (x9614 _ (j01 (j10 (j06 c_check_row (hr.mono (by decide)) rfl (j00 (pv 0) j02)))
    (j01 (j10 (j06 c_check_row (hr.mono (by decide)) rfl (j00 (pv 1) j02)))
    (j08 (j1b (j0i j52 (j09 j0f rfl B.len PySem.boot_len (j00 (pv 0) j02)) (j09 j0f rfl B.len PySem.boot_len (j00 (pv 1) j02)) (j0p _)) (j08 j25) j0m)))) ?_)
  have qn : qs ≠ [] := fun z => by rw [z] at hl; exact hne (List.length_eq_zero_iff.mp hl)
  refine (x0494 _ rfl p rs rfl hp hne b1 ?_)
  refine (x0494 _ rfl q qs rfl hq qn b2 ?_)
  refine (xb90b _ rfl p _ rfl (.inl (SqL.of hp)) _ rfl q _ rfl (.inl (SqL.of hq)) (x4c19 rfl _ rfl ?_))
  have e : decide (V.int ((iV rs).length : Int) = V.int ((iV qs).length : Int)) = true := decide_eq_true (by rw [j0e, j0e, hl])
  rw [e]
  exact iteF k
abbrev s_fsums : Stmt := tp 26
theorem j13 : FnScope ["row", "sums", "so_far", "share"] ["row"] (j0c s_fsums) := ⟨rfl, rfl, rfl, by decide +kernel, rfl, by decide +kernel, by decide +kernel⟩
noncomputable def jb6 : Sp := fun vs H Q _ => ∃ (p : Addr) (rs : List Int), vs = [.ref p] ∧ H p = some (.lst (iV rs)) ∧ rs.length ≤ 1000 ∧ ∀ (q : Addr) (H' : Hp), H q = none → Same H H' → H' q = some (.lst (iV (tops rs))) → Q (.ref q) H'
theorem j4b {l : List Int} {i : Nat} {x : Int} (h : l[i]? = some x) : psum (l.take (i + 1)) = psum (l.take i) ++ [(l.take i).sum + x] := by
  rw [j33 h, jaf]
theorem j4c (l : List Int) (x : Int) : iV l ++ [V.int x] = iV (l ++ [x]) := by unfold iV; rw [List.map_append]; rfl
theorem ok_fsums {f : Addr} {fd : FuncData} (F : Fun K "falling_sums" "falling_sums" s_fsums f fd) (B : Bl mg) : FnOk P w K mg base CX0 1 f fd ["row"] jb6 := by
  refine F.ok j13 (fun vs H Q E h => ?_) (fun cdv A outer s H vs Q E hr h => ?_)
  · obtain ⟨p, rs, rfl, _⟩ := h
    rfl
  obtain ⟨p, rs, rfl, hp, hl, k⟩ := h
  refine (x9614 _ (j01 (j0k (i := 1) j13.nd rfl (Or.inl rfl) (j2d j02))
    (j01 (j0k (i := 2) j13.nd rfl (Or.inl rfl) j07)
    (j01 (j21 PassesOwn.never rfl (j26 (j4w rfl B.sorted (j00 (pv 0) j02))) (j1a (i := 3) j13.nd rfl (Or.inl rfl))
    (j01 (j9e (i := 2) j13.nd rfl (Or.inl rfl) (pv 3) j9f)
    (j08 (j10 (j4m PySem.F.plainAttrs_list PySem.F.slot_list_append PySem.F.type_list_append j11 (pv 1) (j00 (pv 2) j02))))))
    (j08 (j0r (pv 1)))))) ?_)
  refine ⟨Nat.zero_le _, fun b hb => ?_⟩
  have s1 := j05 (o := .lst []) hb
  refine (x7584 _ rfl p rs rfl (SqL.of (s1 _ _ hp)) (fun l hl2 => ?_))
  rw [if_pos rfl]
  have lb : l ≠ b := fun z => by rw [z, j04] at hl2; cases hl2
  have s2 := s1.trans (j05 (o := .lst (iV ((srt rs).reverse))) hl2)
  refine (x0c0c l rfl ⟨_, SqL.of j04⟩ (j1u (K := K) (a := l) (xs := iV ((srt rs).reverse)) (fun i σ H2 => ∃ v, σ = [some (.ref p), some (.ref b), some (.int (((srt rs).reverse.take i).sum)), v] ∧ Same H H2 ∧ H2 l = some (.lst (iV ((srt rs).reverse))) ∧ H2 b = some (.lst (iV (psum ((srt rs).reverse.take i)))))
    (x5ff7 none rfl s2 j04 (by rw [j0a (Ne.symm lb), j04]; rfl)) (by rintro i σ H2 _ ⟨_, _, _, e, _⟩; exact SqL.of e) ?_ ?_))
  · rintro i y σ H2 hi ⟨v, rfl, s3, h3, h4⟩
    intro D'
    obtain ⟨n, hn, rfl⟩ : ∃ n, (srt rs).reverse[i]? = some n ∧ y = V.int n := by
      rw [List.getElem?_map] at hi
      cases e : (srt rs).reverse[i]? with
      | none => rw [e] at hi; cases hi
      | some n => rw [e] at hi; exact (x9614 n rfl ((Option.some.inj hi).symm))
    have hil : i < (srt rs).reverse.length := (List.getElem?_eq_some_iff.mp hn).1
    rw [j1m] at hil
    refine (x5395 _ rfl _ rfl _ _ rfl rfl ?_)
    refine (x27ab _ rfl (.inl (xea8a rfl _ (SqL.of h4))) _ rfl b _ _ rfl rfl h4 ?_ ?_)
    · rw [j0e, j2z, List.length_take]; exact j0z (by exact o7827f hl hil)
    rw [j4c]
    refine (x5ff7 (some (.int n)) ?_ (fun c o e => ?_) ?_ ?_)
    · have e : ((srt rs).reverse.take (i + 1)).sum = ((srt rs).reverse.take i).sum + n := by rw [j33 hn, List.sum_append]; simp
      rw [e]
      rfl
    · rw [j0a (j0d e hb)]; exact s3 _ _ e
    · rw [j0a lb]; exact h3
    rw [j04, j4b hn]
  rintro σ H2 ⟨v, rfl, s3, h3, h4⟩
  refine (x9614 _ rfl (k b _ hb s3 ?_))
  rw [j0e, List.take_of_length_le (Nat.le_refl _)] at h4
  exact h4
abbrev s_tag : Stmt := tp 27
theorem j1d : FnScope ["one", "other", "ones", "others", "place"] ["one", "other"] (j0c s_tag) := ⟨rfl, rfl, rfl, by decide +kernel, rfl, by decide +kernel, by decide +kernel⟩
noncomputable def spTag : Sp := fun vs H Q _ => ∃ (p q : Addr) (rs qs : List Int), vs = [.ref p, .ref q] ∧ H p = some (.lst (iV rs)) ∧ H q = some (.lst (iV qs)) ∧ rs.length = qs.length ∧ rs.sum = qs.sum ∧ rs.length ≤ 1000 ∧ ∀ (k : Int) (H' : Hp), Agn rs qs k → Same H H' → Q (.int k) H'
theorem ok_tag {f : Addr} {fd : FuncData} (F : Fun K "top_against" "top_against" s_tag f fd) (B : Bl mg) (c_falling_sums : Ok P w K mg base 1 "falling_sums" ["row"] jb6) : FnOk P w K mg base CX0 2 f fd ["one", "other"] spTag := by
  refine F.ok j1d (fun vs H Q E h => ?_) (fun cdv A outer s H vs Q E hr h => ?_)
  · obtain ⟨p, q, rs, qs, rfl, _⟩ := h
    rfl
  obtain ⟨p, q, rs, qs, rfl, hp, hq, hl, hs, hn, k⟩ := h
  refine (x9614 _ (j01 (j0k (i := 2) j1d.nd rfl (Or.inl rfl) (j06 c_falling_sums (hr.mono (by decide)) rfl (j00 (pv 0) j02)))
    (j01 (j0k (i := 3) j1d.nd rfl (Or.inl rfl) (j06 c_falling_sums (hr.mono (by decide)) rfl (j00 (pv 1) j02)))
    (j01 (j21 PassesOwn.never rfl (j2g rfl B.range (j00 (j09 j0f rfl B.len PySem.boot_len (j00 (pv 2) j02)) j02)) (j1a (i := 4) j1d.nd rfl (Or.inl rfl))
    (j08 (j1b (j0i j5s (j0y j0q (pv 3) (pv 4) (fun _ _ => rfl)) (j0y j0q (pv 2) (pv 4) (fun _ _ => rfl)) (j0p _)) (j08 (j0r (j0t j1e (pv 4) j07))) j0m)))
    (j08 (j0r j07))))) ?_)
  refine (x34fc _ rfl p rs rfl hp hn (fun a H1 ha s1 h1 => ?_))
  refine (x34fc _ rfl q qs rfl (s1 _ _ hq) (by exact oc1792 hl hn) (fun b H2 hb s2 h2 => ?_))
  have h1' := s2 _ _ h1
  refine (xb699 _ rfl a _ rfl (.inl (SqL.of h1')) _ rfl (by omega) (by rw [j0e, j30]; omega) (j24 (n := ((iV (tops rs)).length : Int).toNat) (fun i σ H3 => ∃ v, σ = [some (.ref p), some (.ref q), some (.ref a), some (.ref b), v] ∧ H3 = H2 ∧ ∀ j, j ≤ i → top j qs ≤ top j rs)
    (x0c0c none rfl rfl (fun j hj => by rw [show j = 0 by exact oc6bb8 hj, j7z, j7z]; exact Int.le_refl _)) ?_ ?_))
  · rintro i σ H3 hi ⟨v, rfl, rfl, ih⟩
    intro D'
    rw [j0e, j30] at hi
    have hi' : i < rs.length := by exact o10f91 hi
    have e1 : (tops rs).getD i 0 = top (i + 1) rs := jag hi'
    have e2 : (tops qs).getD i 0 = top (i + 1) qs := jag (by exact o606e9 hl hi')
    refine (x12fa _ rfl _ rfl b _ _ _ rfl rfl (SqL.of h2) (by rw [Int.zero_add]; exact j1n (by rw [j30]; exact o606e9 hl hi')) (x12fa _ rfl _ rfl a _ _ _ rfl rfl (SqL.of h1') (by rw [Int.zero_add]; exact j1n (by rw [j30]; exact o14dc1 hi')) (x0d4a _ _ rfl rfl _ rfl ?_)))
    rw [e1, e2]
    refine ite2 (fun h3 => ?_) (fun h3 => ?_)
    · rw [decide_eq_true_eq] at h3
      refine (x7584 _ rfl _ _ rfl rfl (k _ _ (.inl (xf6a6 (by exact o66542) hl hs (by exact o66542) (by exact o7b205 hi') ?_)) (s1.trans s2)))
      have : ((0 : Int) + (i : Int) + 1).toNat = i + 1 := by exact obf900
      rw [this]
      exact h3
    rw [decide_eq_true_eq] at h3
    refine (x0c0c _ rfl rfl (fun j hj => ?_))
    by_cases z : j = i + 1
    · subst z; exact o00188 h3
    exact ih j (by exact o23eb5 hj z)
  rintro σ H3 ⟨v, rfl, rfl, ih⟩
  rw [j0e, j30] at ih
  exact k _ _ (.inr ⟨rfl, fun j hj => ih j (by exact o19440 hj)⟩) (s1.trans s2)
end
end My
end
noncomputable section
namespace My
open PySem L2 L3
noncomputable def lamX : Stmt → Expr
  | .Assign _ (.Call _ _ (k :: _) _) _ => k.value
  | _ => .Constant .none 0 ⟨0, 0, 0, 0⟩
noncomputable def lamScp : Expr → Scope
  | .Lambda _ _ s _ => s
  | _ => default
noncomputable def lamPos : Expr → Pos
  | .Lambda _ _ _ p => p
  | _ => ⟨0, 0, 0, 0⟩
abbrev s_gb : Stmt := tp 28
theorem j0g : FnScope ["one", "other", "places", "goals", "spare", "givers", "gifts", "place", "goal", "lack", "giver", "amount"] ["one", "other"] (j0c s_gb) := ⟨rfl, rfl, rfl, by decide +kernel, rfl, by decide +kernel, by decide +kernel⟩
abbrev lamE : Expr := lamX ((j1x s_gb).getD 0 (.Pass ⟨0, 0, 0, 0⟩))
abbrev lamP : Pos := lamPos lamE
abbrev lamQ : Str := ("gifts_between" : Str) ++ ".<locals>." ++ "<lambda>"
theorem lamS : LamSc (lamScp lamE) "place" "one" := ⟨rfl, rfl, rfl, by decide +kernel, rfl, rfl, by decide +kernel⟩
section
variable {P : Program} {w : World} {K : PySem.W.Frag} {mg : Str → Option Value} {base : Heap}
theorem _root_.L2.Fun.okC {x qual : Str} {st : Stmt} {f : Addr} {fd : FuncData} {N ps : List Str} {k : Nat} {sp : Sp} (F : Fun K x qual st f fd) (S : FnScope N ps (j0c st)) (len : ∀ vs H Q E, sp vs H Q E → vs.length = ps.length)
    (hbody : ∀ (cdv : Value) (A : Around) (outer : List Env) (s : Shared) (H : Hp) (vs : List V) (Q : VK) (E : XK), fd.code = cdv → Room k (A.deeper (PyProof.Rows.envOfC qual (j0c st) s.heap.objs.size f cdv)) → sp vs H Q E →
      ∃ t, PSs (cxOf CX0 P w K mg base N qual (j0c st) f cdv A outer s H E).nox (j1x st) t ∧ t { nx := fun _ H' => Q .non H', rt := Q } (start N vs) H) : FnOk P w K mg base CX0 (k + 1) f fd ps sp := by
  obtain ⟨oc, od, kV, doc, pm, an, cdv, ct, osl, rfl, lk, hcd⟩ := F.ex
  refine fn_of lk hcd S len fun A outer s H vs Q E hr hsp => ?_
  obtain ⟨t, h, q⟩ := hbody cdv A outer s H vs Q E rfl hr hsp
  exact (x9614 t h.nox q)
theorem j4d {H : Hp} {x : Addr} {xs : List V} (h : H x = some (.lst xs)) : (∀ ps, H x ≠ some (.tbl ps)) ∧ (∀ u v, H x ≠ some (.frz u v)) ∧ ∀ ys, H x ≠ some (.tup ys) := (x3b98 (fun ps z => by rw [h] at z; cases z) (fun u v z => by rw [h] at z; cases z) (fun ys z => by rw [h] at z; cases z))
theorem zeros (n : Nat) : (List.replicate n [V.int 0]).flatten = iV (List.replicate n 0) := by
  induction n with
  | zero => rfl
  | succ n ih => rw [List.replicate_succ, List.flatten_cons, ih, List.replicate_succ]; rfl
abbrev nV (js : List Nat) : List V := iV (js.map fun i : Nat => (i : Int))
theorem j35 (js : List Nat) : (nV js).length = js.length := by rw [j0e, List.length_map]
theorem nV_at {js : List Nat} {i : Nat} (h : i < js.length) : (nV js)[i]? = some (V.int (js.getD i 0 : Nat)) := by
  unfold nV iV
  rw [List.getElem?_map, List.getElem?_map, List.getElem?_eq_getElem h, List.getD_eq_getElem?_getD, List.getElem?_eq_getElem h]
  rfl
theorem j5j (js : List Nat) (k : Nat) : nV js ++ [V.int (k : Int)] = nV (js ++ [k]) := by unfold nV; rw [j4c, List.map_append]; rfl
theorem nV_last (js : List Nat) (k : Nat) : atI (nV (js ++ [k])) (-1) = some (V.int (k : Int)) := by
  unfold atI ixN
  rw [j35, List.length_append, List.length_singleton, if_neg (by exact o4a44f), if_pos (by exact o97271)]
  have e : ((-1 : Int) + ((js.length + 1 : Nat) : Int)).toNat = js.length := by exact oaf2df
  rw [e, ← j5j]
  show (nV js ++ [V.int (k : Int)])[js.length]? = _
  rw [List.getElem?_append_right (by rw [j35]; exact Nat.le_refl _), j35, Nat.sub_self]
  rfl
theorem nV_end (js : List Nat) (k : Nat) : (nV (js ++ [k]))[(nV (js ++ [k])).length - 1]? = some (V.int (k : Int)) := by
  rw [j35, List.length_append, List.length_singleton, ← j5j, List.getElem?_append_right (by rw [j35]; exact o0654b), j35]
  simp
theorem nV_pop (js : List Nat) (k : Nat) : (nV (js ++ [k])).dropLast = nV js := by rw [← j5j, List.dropLast_concat]
theorem GL.snoc {H : Hp} {gs : List G3} {xs : List V} {t : Addr} {g : G3} (q : PySem.Paired (GR H) gs xs) (h : H t = some (.tup (gV g))) : PySem.Paired (GR H) (gs ++ [g]) (xs ++ [.ref t]) := by
  induction q with
  | nil => exact .cons (x9614 t rfl h) .nil
  | cons r _ ih => exact .cons r ih
noncomputable def lackN (σ : L2.St) (_ : Hp) : Nat := match (σ[9]? : Option (Option V)) with
  | some (some (V.int k)) => k.toNat
  | _ => 0
structure St6 (Pt a b c : Addr) (Hb H : Hp) (sp : List Int) (gv : List Nat) (gs : List G3) : Prop where
  sb : j15 Pt Hb H
  tb : TbOk Pt lamP lamQ H
  ha : H a = some (.lst (iV sp))
  hb : H b = some (.lst (nV gv))
  hc : GL H c gs
theorem St6.new {Pt a b c T : Addr} {Hb H : Hp} {sp : List Int} {gv : List Nat} {gs : List G3} {o : HO} (S : St6 Pt a b c Hb H sp gv gs) (h : H T = none) : St6 Pt a b c Hb (upd H T o) sp gv gs :=
  ⟨S.sb.same (j05 h), S.tb.same (j05 h), j05 h _ _ S.ha, j05 h _ _ S.hb, S.hc.same (j05 h)⟩
theorem St6.setA {Pt a b c : Addr} {Hb H : Hp} {sp sp' : List Int} {gv : List Nat} {gs : List G3} (S : St6 Pt a b c Hb H sp gv gs) (n : Hb a = none) (ab : a ≠ b) (ac : a ≠ c) : St6 Pt a b c Hb (upd H a (.lst (iV sp'))) sp' gv gs := by
  obtain ⟨xs, h, q⟩ := S.hc
  have l := j4d S.ha
  exact ⟨S.sb.upd n, S.tb.upd l.1 l.2.1, j04, by rw [j0a (Ne.symm ab)]; exact S.hb, xs, by rw [j0a (Ne.symm ac)]; exact h, j1q l.2.2 q⟩
theorem St6.setB {Pt a b c : Addr} {Hb H : Hp} {sp : List Int} {gv gv' : List Nat} {gs : List G3} (S : St6 Pt a b c Hb H sp gv gs) (n : Hb b = none) (ab : a ≠ b) (bc : b ≠ c) : St6 Pt a b c Hb (upd H b (.lst (nV gv'))) sp gv' gs := by
  obtain ⟨xs, h, q⟩ := S.hc
  have l := j4d S.hb
  exact ⟨S.sb.upd n, S.tb.upd l.1 l.2.1, by rw [j0a ab]; exact S.ha, j04, xs, by rw [j0a (Ne.symm bc)]; exact h, j1q l.2.2 q⟩
theorem St6.setC {Pt a b c t : Addr} {Hb H : Hp} {sp : List Int} {gv : List Nat} {gs : List G3} {g : G3} {xs : List V} (S : St6 Pt a b c Hb H sp gv gs) (n : Hb c = none) (ac : a ≠ c) (bc : b ≠ c) (h : H c = some (.lst xs)) (q : PySem.Paired (GR H) gs xs) (ht : H t = some (.tup (gV g))) :
    St6 Pt a b c Hb (upd H c (.lst (xs ++ [.ref t]))) sp gv (gs ++ [g]) := by
  have l := j4d h
  refine ⟨S.sb.upd n, S.tb.upd l.1 l.2.1, by rw [j0a ac]; exact S.ha, by rw [j0a bc]; exact S.hb, _, j04, ?_⟩
  exact j1q l.2.2 (GL.snoc q ht)
noncomputable def spGB (Pt : Addr) : Sp := fun vs H Q _ => ∃ (p q : Addr) (rs qs : List Int), vs = [.ref p, .ref q] ∧ H p = some (.lst (iV rs)) ∧ H q = some (.lst (iV qs)) ∧ 1 ≤ rs.length ∧ rs.length ≤ 1000 ∧ rs.length = qs.length ∧ rs.sum = qs.sum ∧ (∀ k, k ≤ rs.length → top k qs ≤ top k rs) ∧ TbOk Pt lamP lamQ H ∧
  ∀ (l : Addr) (gs : List G3) (H' : Hp), H l = none → j15 Pt H H' → TbOk Pt lamP lamQ H' → GL H' l gs → jac rs qs gs → Q (.ref l) H'
theorem ok_gb {f c Pt : Addr} {fd : FuncData} (F : Fun K "gifts_between" "gifts_between" s_gb f fd) (B : Bl mg) (hzip : mg "zip" = none) (hcd : fd.code = .ref c) (C : PySem.W.CodeHd base c Pt) (hbm : base.BuiltinsAt mg Pt) : FnOk P w K mg base CX0 2 f fd ["one", "other"] (spGB Pt) := by
  refine F.okC j0g (fun vs H Q E h => ?_) (fun cdv A outer s H vs Q E hcd2 hr h => ?_)
  · obtain ⟨p, q, rs, qs, rfl, _⟩ := h
    rfl
  obtain ⟨p, q, rs, qs, rfl, hp, hq, h1, hn, hl, hs, ht, tb, k⟩ := h
  have hcdv : cdv = .ref c := hcd2.symm.trans hcd
  obtain ⟨cx, hcx0⟩ := j54 (sc := j0c s_gb) (n := s.heap.objs.size + 1) (x := "one") rfl
  have hcx : (PyProof.Rows.envOfC "gifts_between" (j0c s_gb) s.heap.objs.size f cdv).cells.lookup ("one" : Str) = some cx := hcx0
  have hcl : closureFor (lamScp lamE) (PyProof.Rows.envOfC "gifts_between" (j0c s_gb) s.heap.objs.size f cdv) = pure [(("one" : Str), cx)] := by
    rw [j4x fun n hn' => ?_]
    · show pure (clG _ [(("place" : Str), NameKind.local), (("one" : Str), NameKind.free)] []) = _
      simp [clG, hcx]
    have : n = "one" := by
      have := lamS.fr _ hn' rfl
      exact this
    rw [this]
    exact ⟨cx, hcx⟩
  refine (x9614 _ (j01 (j0k (i := 2) j0g.nd rfl (Or.inl rfl) (j8y (ix := 0) (qual := lamQ) (te := tOp (rIxL K) (tVar 1) (tVar 0)) rfl B.sorted (j00 (pe_rng1 rfl B.range (j00 (j09 j0f rfl B.len PySem.boot_len (j00 (pv 0) j02)) j02)) j02) hr.hd hr.depth lamS hcx rfl rfl rfl hcdv C hbm hcl rfl (fun _ _ _ _ => rfl) (fun _ _ _ _ _ _ _ => j0y j0q (pv 1) (pv 0) (fun _ _ => rfl))))
    (j01 (j0k (i := 3) j0g.nd rfl (Or.inl rfl) (j4w rfl B.sorted (j00 (pv 1) j02)))
    (j01 (j0k (i := 4) j0g.nd rfl (Or.inl rfl) (j0t op_rep (j2d (j00 j07 j02)) (j09 j0f rfl B.len PySem.boot_len (j00 (pv 0) j02))))
    (j01 (j0k (i := 5) j0g.nd rfl (Or.inl rfl) (j2d j02))
    (j01 (j0k (i := 6) j0g.nd rfl (Or.inl rfl) (j2d j02))
    (j01 (j21 PassesOwn.never rfl (pi_zip rfl hzip (j00 (pv 2) (j00 (pv 3) j02))) (pg_tup (n := 2) rfl (j7p (j1a (i := 7) j0g.nd rfl (Or.inl rfl)) (j7p (j1a (i := 8) j0g.nd rfl (Or.inl rfl)) pgs_nil)))
    (j01 (j0k (i := 9) j0g.nd rfl (Or.inl rfl) (j0t j2h (pv 8) (j0y j0q (pv 0) (pv 7) (fun _ _ => rfl))))
    (j01 (j1b (j0i j6t (pv 9) j07 (j0p _)) (j01 (j4r (j6r j3v (pv 9)) (j4q (pv 4) (pv 7) j1k))
    (j08 (j10 (j4m PySem.F.plainAttrs_list PySem.F.slot_list_append PySem.F.type_list_append j11 (pv 5) (j00 (pv 7) j02))))) j0m)
    (j08 (ps_while PassesOwn.never (j0i j5s (pv 9) j07 (j0p _))
    (j01 (j0k (i := 10) j0g.nd rfl (Or.inl rfl) (j0y j0q (pv 5) (j6r j3v j07) (fun _ _ => rfl)))
    (j01 (j0k (i := 11) j0g.nd rfl (Or.inl rfl) (j09 (j9r rfl) rfl B.min j5b (j00 (j0y j0q (pv 4) (pv 10) (fun _ _ => rfl)) (j00 (pv 9) j02))))
    (j01 (j10 (j4m PySem.F.plainAttrs_list PySem.F.slot_list_append PySem.F.type_list_append j11 (pv 6) (j00 (j7s (j00 (pv 10) (j00 (pv 7) (j00 (pv 11) j02)))) j02)))
    (j01 (j9e (i := 9) j0g.nd rfl (Or.inl rfl) (pv 11) j9g)
    (j01 (j6q (pv 4) (pv 10) j5d (pv 11) j9g j1k)
    (j08 (j1b (j0i j9p (j0y j0q (pv 4) (pv 10) (fun _ _ => rfl)) j07 (j0p _)) (j08 (j10 (pe_bm0 PySem.F.plainAttrs_list PySem.F.slot_list_pop PySem.F.type_list_pop mt_pop (pv 5)))) j0m))))))))))))
    (j08 (j0r (pv 6))))))))) ?_)
  refine (xb699 _ rfl p _ rfl (.inl (SqL.of hp)) _ rfl (by omega) (by rw [j0e]; omega) (fun r hr0 => ?_))
  have sr := j05 (o := .rng 0 ((iV rs).length : Int)) hr0
  refine (x1376 r rs.length (.ref p) (fun i => rs.getD i 0) rfl (by rw [j04, j0e]) (by omega) rfl (tb.same sr) (fun i H2 hi sb => ?_) (fun l js H2 sb2 tb2 hl2 perm pw => ?_))
  · have pP : p ≠ Pt := tb.ne hp
    exact (x12fa _ rfl _ rfl p _ _ _ rfl rfl (SqL.of (sb _ _ pP (sr _ _ hp))) (j1n hi) ⟨rfl, rfl⟩)
  have pP : p ≠ Pt := tb.ne hp
  have qP : q ≠ Pt := tb.ne hq
  have hp2 := sb2 _ _ pP (sr _ _ hp)
  have hq2 := sb2 _ _ qP (sr _ _ hq)
  have F := Fx.of perm pw hl ht
  have jl : js.length = rs.length := F.pl
  refine (x7584 _ rfl q qs rfl (SqL.of (j05 hl2 _ _ hq2)) (fun m hm => ?_))
  rw [if_pos rfl]
  generalize hB : upd (upd H2 l (.lst (nV js))) m (.lst (iV ((srt qs).reverse))) = Hb
  have s3 : Same H2 Hb := hB ▸ (j05 hl2).trans (j05 hm)
  have hlB : Hb l = some (.lst (nV js)) := by rw [← hB]; exact j05 hm _ _ j04
  have hmB : Hb m = some (.lst (iV ((srt qs).reverse))) := by rw [← hB]; exact j04
  have hpB := s3 _ _ hp2
  have tbB := tb2.same s3
  have sB : j15 Pt H Hb := ((j15.of sr).trans sb2).same s3
  refine ⟨by show 1 ≤ sizeLine; decide, fun z hz => ?_⟩
  refine (x7584 _ rfl p _ rfl (.inl (SqL.of (j05 hz _ _ hpB))) (xef7a z _ _ rfl rfl j04 (by omega) (by rw [j0e]; omega) ⟨?_, fun a ha => ?_⟩))
  · rw [j0e]; exact len64 (by simp; exact o7b908 hn)
  have e0 : (List.replicate ((iV rs).length : Int).toNat [V.int 0]).flatten = iV (List.replicate rs.length 0) := by rw [j0e]; exact zeros _
  rw [e0]
  refine ⟨Nat.zero_le _, fun b hb => ?_⟩
  refine ⟨Nat.zero_le _, fun c' hc => ?_⟩
  have s4 := ((j05 (o := .lst [V.int 0]) hz).trans (j05 (o := .lst (iV (List.replicate rs.length 0))) ha)).trans ((j05 (o := .lst []) hb).trans (j05 (o := .lst []) hc))
  have haB : Hb a = none := (j05 hz).free ha
  have hbB : Hb b = none := ((j05 hz).trans (j05 ha)).free hb
  have hcB : Hb c' = none := (((j05 hz).trans (j05 ha)).trans (j05 hb)).free hc
  have ab : a ≠ b := fun e => by rw [← e, j04] at hb; cases hb
  have bc : b ≠ c' := fun e => by rw [← e, j04] at hc; cases hc
  have ac : a ≠ c' := fun e => by rw [← e, j0a ab, j04] at hc; cases hc
  have S0 : St6 Pt a b c' Hb (upd (upd (upd (upd Hb z (.lst [V.int 0])) a (.lst (iV (List.replicate rs.length 0)))) b (.lst [])) c' (.lst [])) (List.replicate rs.length 0) [] [] :=
    ⟨j15.of s4, tbB.same s4, by rw [j0a ac, j0a ab, j04], by rw [j0a bc, j04]; rfl, [], j04, .nil⟩
  have lP : l ≠ Pt := tbB.ne hlB
  have mP : m ≠ Pt := tbB.ne hmB
  have pP2 := tbB.ne hpB
  refine (x2fac _ rfl _ rfl l m rfl ⟨_, SqL.of (s4 _ _ hlB)⟩ ⟨_, SqL.of (s4 _ _ hmB)⟩ (for_zipD (K := K) (a := l) (b := m) (xs := nV js) (ys := iV ((srt qs).reverse)) (n := rs.length) (fun i σ H3 => ∃ (sp : List Int) (gv : List Nat) (gs : List G3) (r : List Int) (v7 v8 v9 v10 v11 : Option V),
      σ = [some (.ref p), some (.ref q), some (.ref l), some (.ref m), some (.ref a), some (.ref b), some (.ref c'), v7, v8, v9, v10, v11] ∧ St6 Pt a b c' Hb H3 sp gv gs ∧ Mid rs js ((srt rs).reverse) ((srt qs).reverse) i sp gv gs r)
    (by rw [j35]; exact jl) (by rw [j0e, j1m]; exact o1a5ea hl) (xbc42 _ _ _ _ none none none none none rfl S0 Mid.start) (by rintro i σ H3 _ ⟨_, _, _, _, _, _, _, _, _, _, S, _⟩; exact ⟨SqL.of (S.sb _ _ lP hlB), SqL.of (S.sb _ _ mP hmB)⟩) ?_ ?_))
  · rintro i x y T σ H3 hx hy ⟨sp, gv, gs, r, v7, v8, v9, v10, v11, rfl, S, M⟩ hT
    intro D'
    have hi : i < rs.length := by
      have := (List.getElem?_eq_some_iff.mp hx).1
      rw [j35] at this
      exact o606e9 jl this
    rw [nV_at (by exact o18d53 jl hi)] at hx
    cases hx
    have hy2 : (iV ((srt qs).reverse))[i]? = some (V.int (((srt qs).reverse).getD i 0)) := by
      rw [List.getElem?_map, List.getElem?_eq_getElem (by rw [j1m]; exact o606e9 hl hi), List.getD_eq_getElem?_getD, List.getElem?_eq_getElem (by rw [j1m]; exact o606e9 hl hi)]
      rfl
    rw [hy2] at hy
    cases hy
    generalize hg : ((srt qs).reverse).getD i 0 = gl
    generalize hpl : js.getD i 0 = pl
    have S1 := S.new (o := .tup [V.int (pl : Int), V.int gl]) hT
    have plt : pl < rs.length := hpl ▸ F.lt hi
    have hpS := S1.sb _ _ pP2 hpB
    refine (x5fde T _ rfl (SqT.of j04) rfl (x90aa _ _ rfl (xeb27 _ _ rfl rfl ?_)))
    dsimp only
    refine (x6f12 _ rfl _ rfl (x9614 _ rfl (x59b7 p _ _ _ rfl rfl (SqL.of hpS) (j1n plt) (xeb27 _ _ rfl rfl ?_))))
    refine gN ?_
    dsimp only
    generalize hlk : gl - rs.getD pl 0 = lack
    have elk : lack = ((srt qs).reverse).getD i 0 - rs.getD (js.getD i 0) 0 := by rw [hg, hpl]; exact o274d9 hlk
    refine seq_join (fun σ' H' => ∃ (sp : List Int) (gv : List Nat) (gs : List G3) (r : List Int), σ' = [some (.ref p), some (.ref q), some (.ref l), some (.ref m), some (.ref a), some (.ref b), some (.ref c'), some (.int (pl : Int)), some (.int gl), some (.int lack), v10, v11] ∧ St6 Pt a b c' Hb H' sp gv gs ∧
        ((lack < 0 ∧ Mid rs js ((srt rs).reverse) ((srt qs).reverse) (i + 1) sp gv gs r) ∨ Inn rs js ((srt rs).reverse) ((srt qs).reverse) i lack sp gv gs r)) (fun N hN => ?_) ?_
    · refine (x5bbc _ rfl _ _ rfl rfl _ rfl ?_)
      refine ite2 (fun h0 => ?_) (fun h0 => ?_)
      · rw [decide_eq_true_eq] at h0
        have psp : pl < sp.length := by rw [M.spl]; exact plt
        refine (x6f12 _ rfl _ rfl (x12fa _ rfl _ rfl a _ _ pl rfl rfl S1.ha (j5h psp) ?_))
        rw [j32]
        have S2 := S1.setA (sp' := sp.set pl (-lack)) haB ab ac
        refine (x27ab _ rfl (.inl (xea8a rfl _ (SqL.of S2.hb))) _ rfl b _ _ rfl rfl S2.hb ?_ ?_)
        · rw [j35]
          have := M.n1
          exact j0z (by exact o1aafe hn hi this)
        rw [j5j]
        refine hN _ _ (x5750 _ _ _ r rfl (S2.setB (gv' := gv ++ [pl]) hbB ab bc) (.inl ⟨h0, ?_⟩))
        have := M.push F hi (by exact o7eab1 elk h0)
        rw [← elk, hpl] at this
        exact this
      rw [decide_eq_true_eq] at h0
      refine hN _ _ (x5750 _ _ _ r rfl S1 (.inr ?_))
      have := M.inn F hi (by exact ob8af0 elk h0)
      rw [← elk] at this
      exact this
    rintro σ' H' ⟨sp, gv, gs, r, rfl, S2, h2⟩
    refine jao (fun σ'' H'' => ∃ (lk : Int) (sp : List Int) (gv : List Nat) (gs : List G3) (r : List Int) (v10 v11 : Option V), σ'' = [some (.ref p), some (.ref q), some (.ref l), some (.ref m), some (.ref a), some (.ref b), some (.ref c'), some (.int (pl : Int)), some (.int gl), some (.int lk), v10, v11] ∧ St6 Pt a b c' Hb H'' sp gv gs ∧
      ((lk < 0 ∧ Mid rs js ((srt rs).reverse) ((srt qs).reverse) (i + 1) sp gv gs r) ∨ Inn rs js ((srt rs).reverse) ((srt qs).reverse) i lk sp gv gs r))
      lackN (x4b75 _ _ _ _ _ _ _ rfl S2 h2) ?_ ?_
    · rintro σ3 H3 ⟨lk, sp, gv, gs, r, v10, v11, rfl, S3, h3⟩
      intro D'
      refine (x5bbc _ rfl _ _ rfl rfl _ rfl ?_)
      refine ite2 (fun h0 => ?_) (fun h0 => ?_)
      · rw [decide_eq_true_eq] at h0
        rcases h3 with ⟨z, _⟩ | I
        · omega
        obtain ⟨gv0, gg, rfl⟩ : ∃ gv0 gg, gv = gv0 ++ [gg] := by
          have := I.some F h0
          exact (xa57b gv.dropLast (gv.getLast this) ((List.dropLast_concat_getLast this).symm))
        have st := I.step F h0 (if lk < sp.getD gg 0 then lk else sp.getD gg 0) (by split <;> split <;> omega)
        generalize ham : (if lk < sp.getD gg 0 then lk else sp.getD gg 0) = am at st
        obtain ⟨st1, st2, st3, st4⟩ := st
        have gsp : gg < sp.length := by rw [I.spl]; exact st2
        refine (x12fa _ rfl _ rfl b _ _ _ rfl rfl (SqL.of S3.hb) (nV_last _ _) ?_)
        refine gN ?_
        dsimp only
        refine (x12fa _ rfl _ rfl a _ _ _ rfl rfl (SqL.of S3.ha) (j1n gsp) (x2128 _ rfl _ _ rfl ?_))
        rw [ham]
        refine gN ?_
        dsimp only
        obtain ⟨xs, hxs, pr⟩ := id S3.hc
        refine (x6ef4 _ rfl (.inl (xea8a rfl _ (SqL.of hxs))) _ (x4c19 rfl _ rfl (x0c0c _ rfl (by show 3 ≤ sizeLine; decide) (fun t ht => ?_))))
        have S4 := S3.new (o := .tup (gV ((gg : Int), (pl : Int), am))) ht
        have sn := j05 (o := .tup (gV ((gg : Int), (pl : Int), am))) ht
        refine (xac60 c' _ _ rfl rfl (sn _ _ hxs) ?_ ?_)
        · rw [GL.len pr]
          have := I.n1
          exact j0z (by exact o166fe hn hi this)
        have S5 := S4.setC (t := t) (g := ((gg : Int), (pl : Int), am)) hcB ac bc (sn _ _ hxs) (j12 sn pr) j04
        refine (x5395 _ rfl _ rfl _ _ rfl rfl ?_)
        dsimp only
        refine (x12fa _ rfl _ rfl a _ _ _ rfl rfl (SqL.of S5.ha) (j1n gsp) (x7584 _ rfl _ _ rfl rfl (x59b7 a _ _ gg rfl rfl S5.ha (j5h gsp) ?_)))
        rw [j32]
        have S6 := S5.setA (sp' := sp.set gg (sp.getD gg 0 - am)) haB ab ac
        have g2 : gg < (sp.set gg (sp.getD gg 0 - am)).length := by simpa using gsp
        refine (x12fa _ rfl _ rfl a _ _ _ rfl rfl (SqL.of S6.ha) (j1n g2) (x4c19 rfl _ rfl ?_))
        rw [j0x gsp]
        have dec : (lk - am).toNat < lk.toNat := by
          have : 0 < am := by rw [← ham]; split <;> omega
          exact ob34f2 st3 this
        have hpl' : js.getD i 0 = pl := hpl
        rw [hpl'] at st4
        refine ite2 (fun h5 => ?_) (fun h5 => ?_)
        · have z5 : sp.getD gg 0 - am = 0 := by simpa using h5
          rw [if_pos z5] at st4
          refine (x6ef4 _ rfl (.inl (xea8a rfl _ (SqL.of S6.hb))) b (x6c4f _ _ rfl rfl S6.hb (nV_end _ _) ?_))
          rw [nV_pop]
          exact ⟨(x4b75 _ _ _ _ _ _ _ rfl (S6.setB hbB ab bc) (.inr st4)), dec⟩
        have z5 : ¬ sp.getD gg 0 - am = 0 := by simpa using h5
        rw [if_neg z5] at st4
        exact ⟨(x4b75 _ _ _ _ _ _ _ rfl S6 (.inr st4)), dec⟩
      rw [decide_eq_true_eq] at h0
      rcases h3 with ⟨_, M'⟩ | I
      · exact (xbc42 _ _ _ _ _ _ _ _ _ rfl S3 M')
      have z : lk = 0 := by have := I.here.2.2; exact o2a0a9 h0 this
      subst z
      exact (xbc42 _ _ _ _ _ _ _ _ _ rfl S3 I.out)
    rintro σ H Q Q' hq ⟨v, e, i, j, e1, e2, z, e3, h⟩
    exact (x5bbc v e i j e1 e2 z e3 (hq _ _ h))
  rintro σ H3 ⟨sp, gv, gs, r, v7, v8, v9, v10, v11, rfl, S, M⟩
  refine (x9614 _ rfl ?_)
  refine k c' gs H3 ?_ (sB.trans S.sb) S.tb S.hc (M.leads F h1 (j2k qs) ?_)
  · exact sB.free tbB hcB
  rw [j3o (j2k rs), j3o (j2k qs), hs]
end
end My
end
noncomputable section
namespace My
open PySem L2 L3
section
variable {P : Program} {w : World} {K : PySem.W.Frag} {mg : Str → Option Value} {base : Heap}
abbrev s_cmp : Stmt := tp 29
theorem j4e : FnScope ["one", "other", "many"] ["one", "other"] (j0c s_cmp) := ⟨rfl, rfl, rfl, by decide +kernel, rfl, by decide +kernel, by decide +kernel⟩
inductive Told (CG CT CW : Addr) (rs qs : List Int) (H H' : Hp) (x dx : Addr) : Prop where
  | wholes (hs : rs.sum ≠ qs.sum) (hx : H' x = some (.ins CW dx (putF "other" (.int qs.sum) (putF "one" (.int rs.sum) []))))
  | top (hs : rs.sum = qs.sum) (k : Int) (ht : Tops rs qs k) (hx : H' x = some (.ins CT dx (putF "many" (.int k) [])))
  | gifts (hs : rs.sum = qs.sum) (l : Addr) (gs : List G3) (hl : jac rs qs gs) (hn : H l = none) (gl : GL H' l gs) (hx : H' x = some (.ins CG dx (putF "gifts" (.ref l) [])))
noncomputable def spCmp (Pt CG CT CW : Addr) : Sp := fun vs H Q _ => ∃ (p q : Addr) (rs qs : List Int), vs = [.ref p, .ref q] ∧ H p = some (.lst (iV rs)) ∧ H q = some (.lst (iV qs)) ∧ rs ≠ [] ∧ rs.length ≤ 1000 ∧ rs.length = qs.length ∧ Bd 1000000 rs ∧ Bd 1000000 qs ∧ TbOk Pt lamP lamQ H ∧
  ∀ (x dx : Addr) (H' : Hp), H x = none → j15 Pt H H' → TbOk Pt lamP lamQ H' → Told CG CT CW rs qs H H' x dx → Q (.ref x) H'
theorem ok_cmp {f Pt CG CT CW : Addr} {fd : FuncData} (F : Fun K "compared" "compared" s_cmp f fd) (B : Bl mg) (c_check_pair : Ok P w K mg base 4 "check_pair" ["one", "other"] j8e) (c_top_against : Ok P w K mg base 2 "top_against" ["one", "other"] spTag)
    (c_gifts_between : Ok P w K mg base 2 "gifts_between" ["one", "other"] (spGB Pt)) (c_Gifts : OkC P w K mg base 1 "Gifts" CG ["self", "gifts"] (spGI K CG)) (c_Top : OkC P w K mg base 1 "Top" CT ["self", "many"] (spTI CT)) (c_Wholes : OkC P w K mg base 1 "Wholes" CW ["self", "one", "other"] (spWI CW)) :
    FnOk P w K mg base CX0 5 f fd ["one", "other"] (spCmp Pt CG CT CW) := by
  refine F.ok j4e (fun vs H Q E h => ?_) (fun cdv A outer s H vs Q E hr h => ?_)
  · obtain ⟨p, q, rs, qs, rfl, _⟩ := h
    rfl
  obtain ⟨p, q, rs, qs, rfl, hp, hq, hne, hn, hl, b1, b2, tb, k⟩ := h
  refine (x9614 _ (j01 (j10 (j06 c_check_pair (hr.mono (by decide)) rfl (j00 (pv 0) (j00 (pv 1) j02))))
    (j01 (j1b (j0i j52 (j09 (j29 rfl) rfl B.sum j2a (j00 (pv 0) j02)) (j09 (j29 rfl) rfl B.sum j2a (j00 (pv 1) j02)) (j0p _)) (j08 (j0r (j5c c_Wholes (hr.mono (by decide)) rfl (j00 (j09 (j29 rfl) rfl B.sum j2a (j00 (pv 0) j02)) (j00 (j09 (j29 rfl) rfl B.sum j2a (j00 (pv 1) j02)) j02))))) j0m)
    (j01 (j0k (i := 2) j4e.nd rfl (Or.inl rfl) (j06 c_top_against (hr.mono (by decide)) rfl (j00 (pv 0) (j00 (pv 1) j02))))
    (j01 (j1b (j0i j5s (pv 2) j07 (j0p _)) (j08 (j0r (j5c c_Top (hr.mono (by decide)) rfl (j00 (pv 2) j02)))) j0m)
    (j08 (j0r (j5c c_Gifts (hr.mono (by decide)) rfl (j00 (j06 c_gifts_between (hr.mono (by decide)) rfl (j00 (pv 0) (j00 (pv 1) j02))) j02)))))))) ?_)
  have l1 : 1 ≤ rs.length := by cases rs with | nil => exact absurd rfl hne | cons _ _ => simp
  refine (x12fa _ rfl _ rfl p q rs qs rfl hp hq hne (xe1fa hl b1 b2 ?_))
  refine (xb90b _ rfl p _ rfl (SqL.of hp) _ rfl q _ rfl (SqL.of hq) (x4c19 rfl _ rfl ?_))
  refine ite2 (fun h1 => ?_) (fun h1 => ?_)
  · have e : rs.sum ≠ qs.sum := fun z => by simp [z] at h1
    refine (xb90b _ rfl p _ rfl (SqL.of hp) _ rfl q _ rfl (SqL.of hq) (fun x dx hx hdx nx => ?_))
    refine (x6f71 x dx _ _ rfl j04 rfl ?_)
    have s1 : Same H (upd (upd H dx (.own x)) x (.ins CW dx (putF "other" (.int qs.sum) (putF "one" (.int rs.sum) [])))) := (j05 hdx).trans (j05 (by rw [j0a (Ne.symm nx)]; exact hx))
    rw [j2u]
    exact k x dx _ hx (j15.of s1) (tb.same s1) (.wholes e j04)
  have e : rs.sum = qs.sum := by simpa using h1
  refine (x12fa _ rfl _ rfl p q rs qs rfl hp hq hl (x3b98 e hn (fun m H1 ag s1 => ?_)))
  refine gN ?_
  dsimp only
  refine (x5bbc _ rfl _ _ rfl rfl _ rfl ?_)
  refine ite2 (fun h2 => ?_) (fun h2 => ?_)
  · rw [decide_eq_true_eq] at h2
    rcases ag with ⟨_, tp⟩ | ⟨z, _⟩
    · refine (x9614 _ rfl (fun x dx hx hdx nx => ?_))
      refine (x18c7 x dx _ rfl j04 rfl ?_)
      have s2 : Same H1 (upd (upd H1 dx (.own x)) x (.ins CT dx (putF "many" (.int m) []))) := (j05 hdx).trans (j05 (by rw [j0a (Ne.symm nx)]; exact hx))
      rw [j2u]
      exact k x dx _ (s1.free hx) (j15.of (s1.trans s2)) (tb.same (s1.trans s2)) (.top e m tp j04)
    omega
  rw [decide_eq_true_eq] at h2
  rcases ag with ⟨z, _⟩ | ⟨_, nt⟩
  · omega
  refine (x12fa _ rfl _ rfl p q rs qs rfl (s1 _ _ hp) (s1 _ _ hq) l1 (xf6a6 hn hl e nt (tb.same s1) (fun g gs H2 hg s2 tb2 gl ld => ?_)))
  intro x dx hx hdx nx
  obtain ⟨xs, hxs, pr⟩ := gl
  have s3 : Same H2 (upd (upd H2 dx (.own x)) x (.ins CG dx [])) := (j05 hdx).trans (j05 (by rw [j0a (Ne.symm nx)]; exact hx))
  refine (x6f71 x dx g xs rfl j04 (SqL.of (s3 _ _ hxs)) (fun y hy => ⟨rfl, ?_⟩))
  have yx : y ≠ x := fun z => by rw [z, j04] at hy; cases hy
  have Hx : H x = none := s1.free (s2.free tb2 hx)
  have Hy : H y = none := s1.free (s2.free tb2 (s3.free hy))
  have s4 : Same H2 (upd (upd (upd (upd H2 dx (.own x)) x (.ins CG dx [])) y (.lst xs)) x (.ins CG dx (putF "gifts" (.ref y) []))) := fun c o e2 => by
    rw [j0a (j0d e2 hx)]
    exact (s3.trans (j05 hy)) _ _ e2
  have sb : j15 Pt H (upd (upd (upd (upd H2 dx (.own x)) x (.ins CG dx [])) y (.lst xs)) x (.ins CG dx (putF "gifts" (.ref y) []))) := (j15.of s1).trans (s2.same s4)
  refine k x dx _ Hx sb (tb2.same s4) (.gifts e y gs ld Hy (x9614 xs (by rw [j0a yx, j04]) (j12 s4 pr)) j04)
end
end My
end
noncomputable section
namespace My
open PySem L2 L3
theorem nxt {D : Ends} {σ : L2.St} {H : Hp} (h : D.nx σ H) : tNext D σ H := h
theorem rn1 {R : List V → Hp → VK → Prop} {te : TE} {D : Ends} {σ : L2.St} {H : Hp} (h : te σ H fun x H1 => R [x] H1 fun v H2 => tNotV (fun _ H Q => Q v H) σ H2 D.rt) : tRet (tNotV (tCB R (j6u te tNil))) D σ H := h
theorem rs1 {R : List V → Hp → VK → Prop} {te : TE} {D : Ends} {σ : L2.St} {H : Hp} (h : te σ H fun x H1 => R [x] H1 D.rt) : tRet (tCB R (j6u te tNil)) D σ H := h
theorem cset {i : Nat} {v : V} {U : TS} {D : Ends} {σ : L2.St} {H : Hp} (h : U D (σ.set i (some v)) H) : tSeq (tAsg (tC v) (gName i)) U D σ H := h
theorem fm_no (ns : List Int) : ns.filterMap (fun _ => some (V.bl false)) = bV (ns.map fun _ => false) := by
  induction ns with
  | nil => rfl
  | cons x t ih => exact congrArg (V.bl false :: ·) ih
theorem any_no (ns : List Int) : ((ns.map fun _ => false).any id) = false := by
  induction ns with
  | nil => rfl
  | cons x t ih => rw [List.map_cons, List.any_cons, ih]; rfl
noncomputable def runD : List Int → List G3 → List Int
  | row, [] => row
  | row, g :: gs => runD (L3.give row g.1.toNat g.2.1.toNat g.2.2) gs
noncomputable def j4f : List Int → List G3 → Prop
  | _, [] => True
  | row, g :: gs => okG row.length g = true ∧ Bd 1000000 (L3.give row g.1.toNat g.2.1.toNat g.2.2) ∧ j4f (L3.give row g.1.toNat g.2.1.toNat g.2.2) gs
theorem j3t : ∀ (gs : List G3) (row : List Int), (runD row gs).length = row.length
  | [], _ => rfl
  | g :: gs, row => by rw [runD, j3t gs, j2q]
theorem j4g : ∀ (gs : List G3) (row : List Int) (g : G3), runD row (gs ++ [g]) = L3.give (runD row gs) g.1.toNat g.2.1.toNat g.2.2
  | [], _, _ => rfl
  | h :: gs, row, g => j4g gs _ g
theorem j6k : ∀ {gs : List G3} {row : List Int} {i : Nat} {g : G3}, j4f row gs → gs[i]? = some g → okG row.length g = true ∧ Bd 1000000 (L3.give (runD row (gs.take i)) g.1.toNat g.2.1.toNat g.2.2)
  | [], _, _, _, _, h => by simp at h
  | h :: gs, row, 0, g, ok, e => by
    cases e
    exact ⟨ok.1, ok.2.1⟩
  | h :: gs, row, i + 1, g, ok, e => by
    have := j6k ok.2.2 (i := i) (g := g) (by simpa using e)
    rw [j2q] at this
    exact this
theorem abv_fm (m : Int) : ∀ ns : List Int, (ns.filterMap fun n => if m < n then some (n - m) else none).sum = abv ns m
  | [] => rfl
  | x :: t => by
    have ih := abv_fm m t
    unfold abv at ih ⊢
    by_cases h : m < x
    · rw [List.filterMap_cons, if_pos h]
      simp [ab1, ih]
      omega
    rw [List.filterMap_cons, if_neg h]
    simp [ab1, ih]
    omega
section
variable {P : Program} {w : World} {K : PySem.W.Frag} {mg : Str → Option Value} {base : Heap}
abbrev s_numbers : Stmt := tp 35
theorem j4h : FnScope ["_law_found", "_law_many"] ["_law_found", "_law_many"] (j0c s_numbers) := ⟨rfl, rfl, rfl, by decide +kernel, rfl, by decide +kernel, by decide +kernel⟩
noncomputable def spNum : Sp := fun vs H Q _ => ∃ (p : Addr) (rs : List Int) (m : Int), vs = [.ref p, .int m] ∧ H p = some (.lst (iV rs)) ∧ m = rs.length ∧ rs.length ≤ 1000 ∧ ∀ H', Same H H' → Q (.bl true) H'
theorem j98 {f : Addr} {fd : FuncData} (F : Fun K "_law_numbers" "_law_numbers" s_numbers f fd) (B : Bl mg) : FnOk P w K mg base CX0 1 f fd ["_law_found", "_law_many"] spNum := by
  refine F.ok j4h (fun vs H Q E h => ?_) (fun cdv A outer s H vs Q E hr h => ?_)
  · obtain ⟨p, rs, m, rfl, _⟩ := h
    rfl
  obtain ⟨p, rs, m, rfl, hp, rfl, hl, k⟩ := h
  refine (x9614 _ (j01 (j1b (PW.pt (j4k (j2c (j20 (j09 j1w rfl B.isinstance PyProof.Rows.boot_isinstance (j00 (pv 0) (j00 (j2f (v := .ty "list") rfl B.list j1h rfl) j02))))) (j2w (j0i j52 (j09 j0f rfl B.len PySem.boot_len (j00 (pv 0) j02)) (pv 1) (j0p _))))) (j08 (j0r j50)) j0m)
    (j08 (j0r (j9d (j09 (jak rfl) rfl B.any boot_any (j00 (jaj rfl rfl (j6c (sc0 := j0c s_numbers) (N := ["_law_found", "_law_many"]) (caps := []) (idx := []) rfl rfl (by decide +kernel)) (j26 (pv 0)) (fun _ _ _ _ _ => pts_nil) (fun _ _ _ _ _ => (pe_or (j09 (j6e (K := K) rfl) rfl B.isinstance PyProof.Rows.boot_isinstance (j00 (pv 0) (j00 (j2f (v := .ty "bool") rfl B.bool j6b rfl) j02))) (j5o (j9d (j09 (j6e (K := K) rfl) rfl B.isinstance PyProof.Rows.boot_isinstance (j00 (pv 0) (j00 (j2f (v := .ty "int") rfl B.int j84 rfl) j02)))))))) j02)))))) ?_)
  refine (xa386 _ rfl (.ref p) _ _ _ true rfl rfl (.lst hp) rfl _ ⟨rfl, ?_⟩)
  refine iteF ?_
  refine (x5bbc _ rfl p _ rfl (.inl (SqL.of hp)) _ rfl (x4c19 rfl _ rfl ?_))
  have e : decide (V.int ((iV rs).length : Int) = V.int (rs.length : Int)) = true := decide_eq_true (by rw [j0e])
  rw [e]
  refine iteF ?_
  refine nxt ?_
  dsimp only
  refine rn1 ?_
  refine jar (a := p) (fun _ => some (.bl false)) (fun R r => (x9614 _ rfl r)) (SqL.of hp) hl (fun n _ H' R r => r) (fun n _ v e H' R r => ?_) (fun D hD => ?_)
  · cases e
    refine (xa386 _ rfl (.int n) _ _ _ false rfl rfl (.int n) rfl _ ⟨rfl, ?_⟩)
    refine iteF ?_
    exact (xa386 _ rfl (.int n) _ _ _ true rfl rfl (.int n) rfl _ ⟨rfl, r⟩)
  rw [fm_no]
  refine (xeb27 D _ rfl (SqL.of j04) ?_)
  rw [any_no]
  exact (x9614 _ rfl (k _ (j05 hD)))
abbrev s_rsums : Stmt := tp 15
theorem j17 : FnScope ["row", "sums", "so_far", "share"] ["row"] (j0c s_rsums) := ⟨rfl, rfl, rfl, by decide +kernel, rfl, by decide +kernel, by decide +kernel⟩
noncomputable def jb7 : Sp := fun vs H Q _ => ∃ (p : Addr) (rs : List Int), vs = [.ref p] ∧ H p = some (.lst (iV rs)) ∧ rs ≠ [] ∧ Bd 1000000 rs ∧ rs.length ≤ 1000 ∧ ∀ (q : Addr) (H' : Hp), H q = none → Same H H' → H' q = some (.lst (iV (psum (srt rs)))) → Q (.ref q) H'
theorem ok_rsums {f : Addr} {fd : FuncData} (F : Fun K "rising_sums" "rising_sums" s_rsums f fd) (B : Bl mg) (c_check_row : Ok P w K mg base 3 "check_row" ["row"] j4a) : FnOk P w K mg base CX0 4 f fd ["row"] jb7 := by
  refine F.ok j17 (fun vs H Q E h => ?_) (fun cdv A outer s H vs Q E hr h => ?_)
  · obtain ⟨p, rs, rfl, _⟩ := h
    rfl
  obtain ⟨p, rs, rfl, hp, hne, hb6, hl, k⟩ := h
  refine (x9614 _ (j01 (j10 (j06 c_check_row (hr.mono (by decide)) rfl (j00 (pv 0) j02)))
    (j01 (j0k (i := 1) j17.nd rfl (Or.inl rfl) (j2d j02))
    (j01 (j0k (i := 2) j17.nd rfl (Or.inl rfl) j07)
    (j01 (j21 PassesOwn.never rfl (j26 (j09 j43 rfl B.sorted PyProof.Rows.boot_sorted (j00 (pv 0) j02))) (j1a (i := 3) j17.nd rfl (Or.inl rfl))
    (j01 (j9e (i := 2) j17.nd rfl (Or.inl rfl) (pv 3) j9f)
    (j08 (j10 (j4m PySem.F.plainAttrs_list PySem.F.slot_list_append PySem.F.type_list_append j11 (pv 1) (j00 (pv 2) j02))))))
    (j08 (j0r (pv 1))))))) ?_)
  dsimp only [cxOf, Cx.nox, Cx.wish]
  refine (x0494 _ rfl p rs rfl hp hne hb6 ?_)
  refine ⟨Nat.zero_le _, fun b hb => ?_⟩
  have s1 := j05 (o := .lst []) hb
  refine gN ?_
  try dsimp only
  refine cset ?_
  refine (x7584 _ rfl p rs rfl (SqL.of (s1 _ _ hp)) (fun l hl2 => ?_))
  have lb : l ≠ b := fun z => by rw [z, j04] at hl2; cases hl2
  have s2 := s1.trans (j05 (o := .lst (iV (srt rs))) hl2)
  refine (x0c0c l rfl ⟨_, SqL.of j04⟩ (j1u (K := K) (a := l) (xs := iV (srt rs)) (fun i σ H2 => ∃ v, σ = [some (.ref p), some (.ref b), some (.int (((srt rs).take i).sum)), v] ∧ Same H H2 ∧ H2 l = some (.lst (iV (srt rs))) ∧ H2 b = some (.lst (iV (psum ((srt rs).take i)))))
    (x5ff7 none rfl s2 j04 (by rw [j0a (Ne.symm lb), j04]; rfl)) (by rintro i σ H2 _ ⟨_, _, _, e, _⟩; exact SqL.of e) ?_ ?_))
  · rintro i y σ H2 hi ⟨v, rfl, s3, h3, h4⟩
    intro D'
    obtain ⟨n, hn, rfl⟩ := j6d hi
    have hil : i < (srt rs).length := (List.getElem?_eq_some_iff.mp hn).1
    rw [j1s] at hil
    refine (x5395 _ rfl _ rfl _ _ rfl rfl ?_)
    try dsimp only
    refine (x27ab _ rfl (.inl (xea8a rfl _ (SqL.of h4))) _ rfl b _ _ rfl rfl h4 ?_ ?_)
    · rw [j0e, j2z, List.length_take]; exact j0z (by exact o7827f hl hil)
    rw [j4c]
    refine (x5ff7 (some (.int n)) ?_ (fun c o e => ?_) ?_ ?_)
    · have e : ((srt rs).take (i + 1)).sum = ((srt rs).take i).sum + n := by rw [j33 hn, List.sum_append]; simp
      rw [e]
      rfl
    · rw [j0a (j0d e hb)]; exact s3 _ _ e
    · rw [j0a lb]; exact h3
    rw [j04, j4b hn]
  rintro σ H2 ⟨v, rfl, s3, h3, h4⟩
  refine (x9614 _ rfl (k b _ hb s3 ?_))
  rw [j0e, List.take_of_length_le (Nat.le_refl _)] at h4
  exact h4
abbrev s_abve : Stmt := tp 16
theorem sc_above : FnScope ["row", "mark"] ["row", "mark"] (j0c s_abve) := ⟨rfl, rfl, rfl, by decide +kernel, rfl, by decide +kernel, by decide +kernel⟩
noncomputable def jb8 : Sp := fun vs H Q _ => ∃ (p : Addr) (rs : List Int) (m : Int), vs = [.ref p, .int m] ∧ H p = some (.lst (iV rs)) ∧ rs ≠ [] ∧ Bd 1000000 rs ∧ rs.length ≤ 1000 ∧ ∀ H' : Hp, Same H H' → Q (.int (abv rs m)) H'
theorem ok_abve {f : Addr} {fd : FuncData} (F : Fun K "above" "above" s_abve f fd) (B : Bl mg) (c_check_row : Ok P w K mg base 3 "check_row" ["row"] j4a) (c_is_whole : Ok P w K mg base 1 "is_whole" ["value"] (j48 K)) : FnOk P w K mg base CX0 4 f fd ["row", "mark"] jb8 := by
  refine F.ok sc_above (fun vs H Q E h => ?_) (fun cdv A outer s H vs Q E hr h => ?_)
  · obtain ⟨p, rs, m, rfl, _⟩ := h
    rfl
  obtain ⟨p, rs, m, rfl, hp, hne, hb6, hl, k⟩ := h
  refine (x9614 _ (j01 (j10 (j06 c_check_row (hr.mono (by decide)) rfl (j00 (pv 0) j02)))
    (j01 (j1b (j2c (j20 (j06 c_is_whole (hr.mono (by decide)) rfl (j00 (pv 1) j02)))) (j08 j25) j0m)
    (j08 (j0r (j09 (j29 rfl) rfl B.sum j2a (j00 (jaj rfl rfl (j6c (sc0 := j0c s_abve) (N := ["row", "mark"]) (caps := ["mark"]) (idx := [1]) rfl rfl (by decide +kernel)) (j26 (pv 0)) (fun _ _ _ _ _ => (pts_one (j0i j5s (pv 0) (pv 1) (j0p _)))) (fun _ _ _ _ _ => (j0t j2h (pv 0) (pv 1)))) j02)))))) ?_)
  dsimp only [cxOf, Cx.nox, Cx.wish]
  refine (x0494 _ rfl p rs rfl hp hne hb6 ?_)
  refine (x7257 _ rfl (.int m) rfl (xe085 _ _ _ _ _ (.int m)) _ rfl ?_)
  refine iteF ?_
  refine nxt ?_
  try dsimp only
  refine rs1 ?_
  refine jar (a := p) (fun n => (if m < n then some (n - m) else none).map V.int) (fun R r => (x9614 _ rfl r)) (SqL.of hp) hl (fun n _ H' R r => ?_) (fun n _ v e H' R r => ?_) (fun D hD => ?_)
  · refine (x92ad _ rfl _ rfl _ _ rfl rfl _ rfl ?_)
    by_cases c : m < n
    · rw [if_pos c] at r
      rw [decide_eq_true c]
      exact r
    rw [if_neg c] at r
    rw [decide_eq_false c]
    exact r
  · by_cases c : m < n
    · rw [if_pos c] at e
      cases e
      exact (x5395 _ rfl _ rfl _ _ rfl rfl r)
    rw [if_neg c] at e
    cases e
  rw [fm_ints]
  refine (xeb27 D _ rfl (SqL.of j04) ?_)
  rw [abv_fm]
  exact k _ (j05 hD)
abbrev s_labv : Stmt := tp 36
theorem j1o : FnScope ["_law_row_here", "_law_mark", "_law_total", "_law_share"] ["_law_row_here", "_law_mark"] (j0c s_labv) := ⟨rfl, rfl, rfl, by decide +kernel, rfl, by decide +kernel, by decide +kernel⟩
noncomputable def spLAbv : Sp := fun vs H Q _ => ∃ (p : Addr) (rs : List Int) (m : Int), vs = [.ref p, .int m] ∧ H p = some (.lst (iV rs)) ∧ Q (.int (abv rs m)) H
theorem j8f (m : Int) (l : List Int) (x : Int) : abv (l ++ [x]) m = abv l m + ab1 m x := by unfold abv; simp
theorem ok_labv {f : Addr} {fd : FuncData} (F : Fun K "_law_above" "_law_above" s_labv f fd) (B : Bl mg) : FnOk P w K mg base CX0 1 f fd ["_law_row_here", "_law_mark"] spLAbv := by
  refine F.ok j1o (fun vs H Q E h => ?_) (fun cdv A outer s H vs Q E hr h => ?_)
  · obtain ⟨p, rs, m, rfl, _⟩ := h
    rfl
  obtain ⟨p, rs, m, rfl, hp, k⟩ := h
  refine (x9614 _ (j01 (j0k (i := 2) j1o.nd rfl (Or.inl rfl) j07)
    (j01 (j21 PassesOwn.never rfl (j26 (pv 0)) (j1a (i := 3) j1o.nd rfl (Or.inl rfl))
    (j08 (j1b (j0i j5s (pv 3) (pv 1) (j0p _)) (j08 (j0k (i := 2) j1o.nd rfl (Or.inl rfl) (j0t j2h (j0t j1e (pv 2) (pv 3)) (pv 1)))) j0m)))
    (j08 (j0r (pv 2))))) ?_)
  dsimp only [cxOf, Cx.nox, Cx.wish]
  refine cset ?_
  refine (x9963 _ rfl p rfl ⟨_, SqL.of hp⟩ (j1u (K := K) (a := p) (xs := iV rs) (fun i σ H2 => ∃ v, σ = [some (.ref p), some (.int m), some (.int (abv (rs.take i) m)), v] ∧ H2 = H) (x9614 none rfl rfl) (by rintro i σ H2 _ ⟨_, _, e⟩; rw [e]; exact SqL.of hp) ?_ ?_))
  · rintro i y σ H2 hi ⟨v, rfl, rfl⟩
    intro D'
    obtain ⟨n, hn, rfl⟩ := j6d hi
    have et := j79 hn
    refine (x92ad _ rfl _ rfl _ _ rfl rfl _ rfl ?_)
    refine ite2 (fun h1 => ?_) (fun h1 => ?_)
    · rw [decide_eq_true_eq] at h1
      refine (x92ad _ rfl _ rfl _ _ rfl rfl _ rfl (xeb27 _ _ rfl rfl ?_))
      refine (x9614 (some (.int n)) ?_ rfl)
      rw [et, j8f]
      have e : abv (rs.take i) m + ab1 m n = abv (rs.take i) m + n - m := by unfold ab1; omega
      rw [e]
      rfl
    rw [decide_eq_true_eq] at h1
    refine (x9614 (some (.int n)) ?_ rfl)
    rw [et, j8f]
    have e : abv (rs.take i) m + ab1 m n = abv (rs.take i) m := by unfold ab1; omega
    rw [e]
    rfl
  rintro σ H2 ⟨v, rfl, rfl⟩
  refine (x9614 _ rfl ?_)
  rw [j0e, List.take_of_length_le (Nat.le_refl _)]
  exact k
abbrev s_dn : Stmt := tp 18
theorem j7i : FnScope ["row", "gifts", "behind", "gift"] ["row", "gifts"] (j0c s_dn) := ⟨rfl, rfl, rfl, by decide +kernel, rfl, by decide +kernel, by decide +kernel⟩
noncomputable def spDone : Sp := fun vs H Q _ => ∃ (p l : Addr) (rs : List Int) (gs : List G3), vs = [.ref p, .ref l] ∧ H p = some (.lst (iV rs)) ∧ GL H l gs ∧ rs ≠ [] ∧ Bd 1000000 rs ∧ j4f rs gs ∧ ∀ (q : Addr) (H' : Hp), H q = none → Same H H' → H' q = some (.lst (iV (runD rs gs))) → Q (.ref q) H'
theorem ok_dn {f : Addr} {fd : FuncData} (F : Fun K "done" "done" s_dn f fd) (B : Bl mg) (c_check_row : Ok P w K mg base 3 "check_row" ["row"] j4a) (c_is_gift : Ok P w K mg base 3 "is_gift" ["value", "count"] (spGift K)) (c_give : Ok P w K mg base 1 "give" ["row", "gift"] spGive) (c_is_share : Ok P w K mg base 2 "is_share" ["value"] j7h) :
    FnOk P w K mg base CX0 4 f fd ["row", "gifts"] spDone := by
  refine F.ok j7i (fun vs H Q E h => ?_) (fun cdv A outer s H vs Q E hr h => ?_)
  · obtain ⟨p, l, rs, gs, rfl, _⟩ := h
    rfl
  obtain ⟨p, l, rs, gs, rfl, hp, ⟨xs, hl, pr⟩, hne, hb6, ok, k⟩ := h
  have lx := GL.len pr
  refine (x9614 _ (j01 (j10 (j06 c_check_row (hr.mono (by decide)) rfl (j00 (pv 0) j02)))
    (j01 (j1b (j2c (j20 (j09 j1w rfl B.isinstance PyProof.Rows.boot_isinstance (j00 (pv 1) (j00 (j2f (v := .ty "list") rfl B.list j1h rfl) j02))))) (j08 j25) j0m)
    (j01 (j0k (i := 2) j7i.nd rfl (Or.inl rfl) (j2i j1f rfl B.list j1h (j00 (pv 0) j02)))
    (j01 (j21 PassesOwn.never rfl (j26 (pv 1)) (j1a (i := 3) j7i.nd rfl (Or.inl rfl))
    (j01 (j1b (j2c (j20 (j06 c_is_gift (hr.mono (by decide)) rfl (j00 (pv 3) (j00 (j09 j0f rfl B.len PySem.boot_len (j00 (pv 2) j02)) j02))))) (j08 j25) j0m)
    (j01 (j10 (j06 c_give (hr.mono (by decide)) rfl (j00 (pv 2) (j00 (pv 3) j02))))
    (j08 (j1b (PW.pt (j4k (j2c (j20 (j06 c_is_share (hr.mono (by decide)) rfl (j00 (j0y j0q (pv 2) (j0y j1v (pv 3) j07 (fun _ _ => rfl)) (fun _ _ => rfl)) j02)))) (j2w (j2c (j20 (j06 c_is_share (hr.mono (by decide)) rfl (j00 (j0y j0q (pv 2) (j0y j1v (pv 3) j07 (fun _ _ => rfl)) (fun _ _ => rfl)) j02))))))) (j08 j25) j0m)))))
    (j08 (j0r (pv 2))))))) ?_)
  dsimp only [cxOf, Cx.nox, Cx.wish]
  refine (x0494 _ rfl p rs rfl hp hne hb6 ?_)
  refine (xa386 _ rfl (.ref l) _ _ _ true rfl rfl (.lst hl) rfl _ ⟨rfl, ?_⟩)
  refine iteF ?_
  refine nxt ?_
  try dsimp only
  refine (x7584 _ rfl p _ rfl (.inl (SqL.of hp)) (fun b hb => ?_))
  have s1 := j05 (o := .lst (iV rs)) hb
  refine gN ?_
  try dsimp only
  refine (x9963 _ rfl l rfl ⟨_, SqL.of (s1 _ _ hl)⟩ (j1u (K := K) (a := l) (xs := xs) (fun i σ H2 => ∃ v : Option V, σ = [some (.ref p), some (.ref l), some (.ref b), v] ∧ Same H H2 ∧ H2 b = some (.lst (iV (runD rs (gs.take i)))))
    (x0c0c none rfl s1 j04) (by rintro i σ H2 _ ⟨_, _, s2, _⟩; exact SqL.of (s2 _ _ hl)) ?_ ?_))
  · rintro i y σ H2 hi ⟨v, rfl, s2, h2⟩
    intro D'
    obtain ⟨g, hg, t, rfl, ht⟩ := Paired.at pr hi
    have ht2 := s2 _ _ ht
    have bn : b ≠ t := ne_of h2 ht2 (by intro z; cases z)
    obtain ⟨ok1, ok2⟩ := j6k ok hg
    have bl : (runD rs (gs.take i)).length = rs.length := j3t _ _
    have et : runD rs (gs.take (i + 1)) = L3.give (runD rs (gs.take i)) g.1.toNat g.2.1.toNat g.2.2 := by rw [j79 hg, j4g]
    generalize runD rs (gs.take i) = bs at h2 ok2 bl et
    refine (xcabc _ rfl _ rfl b _ rfl (.inl (SqL.of h2)) _ _ rfl (xe085 _ _ _ _ _ (Kd.tup ht2)) (x4c19 ?_ _ rfl ?_))
    · intro p' ys e1 e2 y hy
      cases e1
      rw [ht2] at e2
      have e3 : gV g = ys := by
        have := Option.some.inj e2
        injection this
      subst e3
      have hy' : y = .int g.1 ∨ y = .int g.2.1 ∨ y = .int g.2.2 := by simpa [gV] using hy
      rcases hy' with rfl | rfl | rfl <;> exact (xe085 _ _ _ _ _ (Kd.int _))
    rw [j6j ht2, j0e, okV_ints, bl, ok1]
    refine iteF ?_
    refine nxt ?_
    try dsimp only
    have okp := ok1
    unfold okG at okp
    simp only [Bool.and_eq_true, decide_eq_true_eq] at okp
    obtain ⟨⟨⟨o1, o2⟩, o3⟩, o4⟩ := okp
    have i1 : g.1 = (g.1.toNat : Int) := by exact oc6922 o1
    have i2 : g.2.1 = (g.2.1.toNat : Int) := by exact oc6922 o2
    have l1 : g.1.toNat < bs.length := by exact oab94c bl o1
    have l2 : g.2.1.toNat < bs.length := by exact oab94c bl o2
    refine (x6f12 _ rfl _ rfl (xb3a1 b t bs g g.1.toNat g.2.1.toNat rfl h2 ht2 i1 i2 l1 ⟨l2, ?_⟩))
    have h3 : ∀ o, (upd H2 b o) t = some (.tup (gV g)) := fun o => by rw [j0a (Ne.symm bn)]; exact ht2
    have s3 : ∀ o, Same H (upd H2 b o) := fun o => j18 s2 hb
    have l1' : g.1.toNat < (L3.give bs g.1.toNat g.2.1.toNat g.2.2).length := by rw [j2q]; exact l1
    have l2' : g.2.1.toNat < (L3.give bs g.1.toNat g.2.1.toNat g.2.2).length := by rw [j2q]; exact l2
    have q1 := j1n l1'
    have q2 := j1n l2'
    have b1 := j3j ok2 l1'
    have b2 := j3j ok2 l2'
    rw [← i1] at q1
    rw [← i2] at q2
    try dsimp only
    refine (x12fa _ rfl _ rfl t _ _ _ rfl rfl (SqT.of (h3 _)) rfl (x59b7 b _ _ _ rfl rfl (SqL.of j04) q1 (x6f12 _ rfl _ rfl ?_)))
    rw [decide_eq_true b1.1, decide_eq_true b1.2]
    refine iteF ?_
    refine (x12fa _ rfl _ rfl t _ _ _ rfl rfl (SqT.of (h3 _)) rfl (x59b7 b _ _ _ rfl rfl (SqL.of j04) q2 (x6f12 _ rfl _ rfl ?_)))
    rw [decide_eq_true b2.1, decide_eq_true b2.2]
    refine iteF ?_
    exact (x0c0c _ rfl (s3 _) (by rw [j04, et]))
  rintro σ H2 ⟨v, rfl, s2, h2⟩
  rw [lx, List.take_length] at h2
  exact (x9614 _ rfl (k b _ hb s2 h2))
end
end My
end
noncomputable section
namespace My
open PySem L2 L3
theorem j5k {α : Type} [DecidableEq α] (x : α) : (if true = true then !decide (x = x) else decide (x = x)) = false := by simp
theorem eq_self {α : Type} [DecidableEq α] (x : α) : (if false = true then !decide (x = x) else decide (x = x)) = true := by simp
noncomputable def gI (g : G3) : List Int := [g.1, g.2.1, g.2.2]
theorem j5l {K : PySem.W.Frag} {H : Hp} : ∀ {gs : List G3} {xs : List V}, PySem.Paired (GR H) gs xs → PySem.Paired (IsT K rInt H) (gs.map gI) xs
  | _, _, .nil => .nil
  | _, _, .cons ⟨t, e, z⟩ r => .cons (xeb27 t _ e (SqT.of z) (.cons rfl (.cons rfl (.cons rfl .nil)))) (j5l r)
theorem j4i : ∀ {gs : List G3} {row : List Int} {g : G3}, j4f row gs → okG row.length g = true → Bd 1000000 (L3.give (runD row gs) g.1.toNat g.2.1.toNat g.2.2) → j4f row (gs ++ [g])
  | [], _, _, _, h1, h2 => (x3b98 h1 h2 trivial)
  | _ :: _, _, _, ok, h1, h2 => (x3b98 ok.1 ok.2.1 (j4i ok.2.2 (by rw [j2q]; exact h1) h2))
theorem give_bd {row : List Int} {g t : Nat} {a : Int} (h : Bd 900010 row) (hne : g ≠ t) (hg : g < row.length) (ht : t < row.length) (a1 : 1 ≤ a) (a9 : a ≤ 9) (hgv : -900000 < row.getD g 0) (htk : row.getD t 0 < 900000) : Bd 900010 (L3.give row g t a) := by
  have b1 := j3j h hg
  have b2 := j3j h ht
  unfold L3.give
  refine j6i (j6i h (by exact o3d733 a1 a9 hgv b1)) ?_
  rw [j0h hne]
  exact o50f42 a1 a9 htk b2
end My
end
noncomputable section
namespace My
open PySem L2 L3
section
variable {P : Program} {w : World} {K : PySem.W.Frag} {mg : Str → Option Value} {base : Heap}
abbrev s_law : Stmt := tp 37
theorem j19 : FnScope ["_law_script", "_law_row_here", "_law_other_here", "_law_due", "_law_total", "_law_share", "_law_again", "_law_found", "_law_marks", "_law_few", "_law_more", "_law_mark", "_law_here", "_law_there", "_law_led", "_law_gifts", "_law_now", "_law_k", "_law_giver", "_law_amount", "_law_taker", "_law_handed"] ["_law_script"] (j0c s_law) := ⟨rfl, rfl, rfl, by decide +kernel, rfl, by decide +kernel, by decide +kernel⟩
noncomputable def spLaw (K : PySem.W.Frag) (Pt : Addr) : Sp := fun vs H Q _ => ∃ (a : Addr) (ns : List Int), vs = [.ref a] ∧ SqL K H a (iV ns) ∧ ns.length ≤ 63 ∧ H Pt = some (.tbl #[]) ∧ ∀ H', Q (.bl true) H'
structure Tx (P : Program) (w : World) (K : PySem.W.Frag) (mg : Str → Option Value) (base : Heap) (Pt CG CT CW : Addr) : Prop where
  B : Bl mg
  hset : mg "set" = none
  gGifts : mg "Gifts" = some (.ref CG)
  cG : CF K CG
  cT : CF K CT
  iGG : PySem.W.kitOne K (.ref CG) (.ref CG) = some true
  iTG : PySem.W.kitOne K (.ref CT) (.ref CG) = some false
  c_cell_at : Ok P w K mg base 1 "_law_cell_at" ["_law_script", "_law_k"] (j8c K)
  c_draw : Ok P w K mg base 1 "_law_draw" ["_law_cell", "_law_k", "_law_many"] j8d
  c_row : Ok P w K mg base 2 "_law_row" ["_law_script"] (spRow K)
  c_other : Ok P w K mg base 2 "_law_other" ["_law_script", "_law_row_here"] (jb3 K)
  c_numbers : Ok P w K mg base 1 "_law_numbers" ["_law_found", "_law_many"] spNum
  c_rising_sums : Ok P w K mg base 4 "rising_sums" ["row"] jb7
  c_above : Ok P w K mg base 4 "above" ["row", "mark"] jb8
  c_l_above : Ok P w K mg base 1 "_law_above" ["_law_row_here", "_law_mark"] spLAbv
  c_compared : Ok P w K mg base 5 "compared" ["one", "other"] (spCmp Pt CG CT CW)
  c_done : Ok P w K mg base 4 "done" ["row", "gifts"] spDone
theorem ok_law {f Pt CG CT CW : Addr} {fd : FuncData} (F : Fun K "law" "law" s_law f fd) (T : Tx P w K mg base Pt CG CT CW) : FnOk P w K mg base CX0 6 f fd ["_law_script"] (spLaw K Pt) := by
  refine F.ok j19 (fun vs H Q E h => ?_) (fun cdv A outer s H vs Q E hr h => ?_)
  · obtain ⟨a, ns, rfl, _⟩ := h
    rfl
  obtain ⟨a, ns, rfl, hS, hl, tb, ret⟩ := h
  obtain ⟨B, hset, gGifts, cG, cT, iGG, iTG, c_cell_at, c_draw, c_row, c_other, c_numbers, c_rising_sums, c_above, c_l_above, c_compared, c_done⟩ := id T
  have hu := hr.units0
  have hu1 := hu_of hr
  have sz : ∀ n : Nat, n ≤ 1000 → n ≤ sizeLine := fun n h => len64 h
  refine (x9614 _ (j01 (j0k (i := 1) j19.nd rfl (Or.inl rfl) (j06 c_row (hr.mono (by decide)) rfl (j00 (pv 0) j02)))
    (j01 (j0k (i := 2) j19.nd rfl (Or.inl rfl) (j06 c_other (hr.mono (by decide)) rfl (j00 (pv 0) (j00 (pv 1) j02))))
    (j01 (j5q rfl j19.nd (i := 3) (j := 4) rfl rfl (by decide) rfl rfl (j00 (j2d j02) (j00 j07 j02)) rfl)
    (j01 (j21 PassesOwn.never rfl (j26 (j09 j43 rfl B.sorted PyProof.Rows.boot_sorted (j00 (pv 1) j02))) (j1a (i := 5) j19.nd rfl (Or.inl rfl))
    (j01 (j0k (i := 4) j19.nd rfl (Or.inl rfl) (j0t j1e (pv 4) (pv 5)))
    (j08 (j10 (j4m PySem.F.plainAttrs_list PySem.F.slot_list_append PySem.F.type_list_append j11 (pv 3) (j00 (pv 4) j02))))))
    (j01 (j21 PassesOwn.never rfl (j2g rfl B.range (j00 j07 j02)) (j1a (i := 6) j19.nd rfl (Or.inl rfl))
    (j01 (j0k (i := 7) j19.nd rfl (Or.inl rfl) (j06 c_rising_sums (hr.mono (by decide)) rfl (j00 (pv 1) j02)))
    (j01 (j1b (PW.pt (j4k (j2c (j20 (j06 c_numbers (hr.mono (by decide)) rfl (j00 (pv 7) (j00 (j09 j0f rfl B.len PySem.boot_len (j00 (pv 1) j02)) j02))))) (j2w (j0i (j83 hu j3a) (pv 7) (pv 3) (j0p _))))) (j08 (j0r j50)) j0m)
    (j08 (j10 (j4m PySem.F.plainAttrs_list PySem.F.slot_list_append PySem.F.type_list_append j11 (pv 7) (j00 j07 j02)))))))
    (j01 (j0k (i := 8) j19.nd rfl (Or.inl rfl) (j6h rfl rfl B.sorted rfl hset (j00 (j0t op_cat (j0t op_cat (pv 1) (pv 2)) (j2d (j00 (j06 c_cell_at (hr.mono (by decide)) rfl (j00 (pv 0) (j00 j07 j02))) j02))) j02)))
    (j01 (j0k (i := 9) j19.nd rfl (Or.inl rfl) (j7o (j0i j6t (j09 j0f rfl B.len PySem.boot_len (j00 (pv 8) j02)) j07 (j0p _)) (pv 8) (jb2 (pv 8) (j0t j6s (j09 j0f rfl B.len PySem.boot_len (j00 (pv 8) j02)) j07))))
    (j01 (j0k (i := 10) j19.nd rfl (Or.inl rfl) (j2d j02))
    (j01 (j21 PassesOwn.never rfl (j26 (pv 9)) (j1a (i := 11) j19.nd rfl (Or.inl rfl))
    (j01 (j5q rfl j19.nd (i := 12) (j := 13) rfl rfl (by decide) rfl rfl (j00 (j06 c_above (hr.mono (by decide)) rfl (j00 (pv 1) (j00 (pv 11) j02))) (j00 (j06 c_above (hr.mono (by decide)) rfl (j00 (pv 2) (j00 (pv 11) j02))) j02)) rfl)
    (j01 (j1b (PW.pt (j4k (j0i j52 (pv 12) (j06 c_l_above (hr.mono (by decide)) rfl (j00 (pv 1) (j00 (pv 11) j02))) (j0p _)) (j2w (j0i j52 (pv 13) (j06 c_l_above (hr.mono (by decide)) rfl (j00 (pv 2) (j00 (pv 11) j02))) (j0p _))))) (j08 (j0r j50)) j0m)
    (j08 (j10 (j4m PySem.F.plainAttrs_list PySem.F.slot_list_append PySem.F.type_list_append j11 (pv 10) (j00 (j0t j2h (pv 12) (pv 13)) j02)))))))
    (j01 (j1b (j0i j9p (j09 (j29 rfl) rfl B.sum j2a (j00 (pv 1) j02)) (j09 (j29 rfl) rfl B.sum j2a (j00 (pv 2) j02)) (j0p _)) (j01 (j0k (i := 14) j19.nd rfl (Or.inl rfl) (j09 j1w rfl B.isinstance PyProof.Rows.boot_isinstance (j00 (j06 c_compared (hr.mono (by decide)) rfl (j00 (pv 1) (j00 (pv 2) j02))) (j00 (j6p (v := .ref _) rfl gGifts rfl) j02))))
    (j08 (j1b (PW.pt (j4k (PW.pt (j5n (j20 (pv 14)) (j51 (j0i j6t (j09 (j69 rfl) rfl B.min j5b (j00 (pv 10) j02)) j07 (j0p _))))) (j2w (PW.pt (j5n (j0i (op_eqL hu j3a) (pv 9) (pv 8) (j0p _)) (j51 (j0i j52 (pv 14) (j53 op_ge (j09 (j69 rfl) rfl B.min j5b (j00 (pv 10) j02)) j07 (j0p _)) (j0p _)))))))) (j08 (j0r j50)) j0m))) j0m)
    (j01 (j5q rfl j19.nd (i := 15) (j := 16) rfl rfl (by decide) rfl rfl (j00 (j2d j02) (j00 (j2i j1f rfl B.list j1h (j00 (pv 1) j02)) j02)) rfl)
    (j01 (j21 PassesOwn.never rfl (j2g rfl B.range (j00 (j0t j2h (j09 j0f rfl B.len PySem.boot_len (j00 (pv 1) j02)) j07) j02)) (j1a (i := 17) j19.nd rfl (Or.inl rfl))
    (j01 (j0k (i := 18) j19.nd rfl (Or.inl rfl) (j06 c_draw (hr.mono (by decide)) rfl (j00 (j06 c_cell_at (hr.mono (by decide)) rfl (j00 (pv 0) (j00 (pv 17) j02))) (j00 j07 (j00 (j09 j0f rfl B.len PySem.boot_len (j00 (pv 1) j02)) j02)))))
    (j01 (j0k (i := 19) j19.nd rfl (Or.inl rfl) (j0t j1e j07 (j06 c_draw (hr.mono (by decide)) rfl (j00 (j06 c_cell_at (hr.mono (by decide)) rfl (j00 (pv 0) (j00 (pv 17) j02))) (j00 j07 (j00 j07 j02))))))
    (j01 (j0k (i := 20) j19.nd rfl (Or.inl rfl) (j0t j3u (j0t j1e (j0t j1e (pv 18) j07) (pv 17)) (j09 j0f rfl B.len PySem.boot_len (j00 (pv 1) j02))))
    (j08 (j1b (PW.pt (j5n (j0i j52 (pv 18) (pv 20) (j0p _)) (j5n (j0i j5s (j0y j0q (pv 16) (pv 18) (fun _ _ => rfl)) (j6r j3v j07) (j0p _)) (j51 (j0i j6t (j0y j0q (pv 16) (pv 20) (fun _ _ => rfl)) j07 (j0p _)))))) (j01 (j10 (j4m PySem.F.plainAttrs_list PySem.F.slot_list_append PySem.F.type_list_append j11 (pv 15) (j00 (j7s (j00 (pv 18) (j00 (pv 20) (j00 (pv 19) j02)))) j02)))
    (j01 (j4r (j0t j2h (j0y j0q (pv 16) (pv 18) (fun _ _ => rfl)) (pv 19)) (j4q (pv 16) (pv 18) j1k))
    (j08 (j4r (j0t j1e (j0y j0q (pv 16) (pv 20) (fun _ _ => rfl)) (pv 19)) (j4q (pv 16) (pv 20) j1k))))) j0m))))))
    (j01 (j0k (i := 21) j19.nd rfl (Or.inl rfl) (j2i j1f rfl B.list j1h (j00 (pv 15) j02)))
    (j01 (j1b (PW.pt (j4k (j0i (j83 hu j3a) (j06 c_done (hr.mono (by decide)) rfl (j00 (pv 1) (j00 (pv 21) j02))) (pv 16) (j0p _)) (j4k (j0i (j83 hu (itemT hu1 j3a)) (pv 21) (pv 15) (j0p _)) (j2w (j0i (j83 hu j3a) (j06 c_done (hr.mono (by decide)) rfl (j00 (pv 1) (j00 (j2d j02) j02))) (pv 1) (j0p _)))))) (j08 (j0r j50)) j0m)
    (j01 (j10 (j4m PySem.F.plainAttrs_list PySem.F.slot_list_append PySem.F.type_list_append j11 (j06 c_done (hr.mono (by decide)) rfl (j00 (pv 1) (j00 (j2d j02) j02))) (j00 j07 j02)))
    (j08 (j0r (j53 (op_eqL hu j3a) (j06 c_rising_sums (hr.mono (by decide)) rfl (j00 (pv 1) j02)) (pv 3) (j0p _))))))))))))))))))) ?_)
  dsimp only [cxOf, Cx.nox, Cx.wish]
  refine (x34fc _ rfl a ns rfl hS hl (fun rs p H1 rl rb hp hp1 s1 => ?_))
  refine (x12fa _ rfl _ rfl a p ns rs rfl (s1.seq hS) hp1 (by exact ofbaee rl) (x3b98 (by exact o4bdb4 hl rl) rb (fun os q H2 ol ob lo hi hq hq2 s2 => ?_)))
  have hp2 := s2 _ _ hp1
  have s12 := s1.trans s2
  have tbH : H2 Pt = some (.tbl #[]) := s12 _ _ tb
  have hS2 : SqL K H2 a (iV ns) := s12.seq hS
  refine gN ?_
  try dsimp only
  have rb6 : Bd 1000000 rs := j3d rb (by decide)
  have ob6 : Bd 1000000 os := j3d ob (by decide)
  have rne : rs ≠ [] := fun z => by rw [z] at rl; simp at rl
  have sl : (srt rs).length = rs.length := j1s rs
  clear lo hi hq hp1 s2 s1 s12 hp tb hS
  refine ⟨Nat.zero_le _, fun b hb => ?_⟩
  have e1 := j05 (o := .lst []) hb
  refine (x90aa _ _ rfl ?_)
  try dsimp only
  refine j0v (fun σ' H' => ∃ v4 v5 : Option V, σ' = [some (.ref a), some (.ref p), some (.ref q), some (.ref b), v4, v5, none, none, none, none, none, none, none, none, none, none, none, none, none, none, none, none] ∧ Same H2 H' ∧ H' b = some (.lst (iV (psum (srt rs))))) ?_ ?_
  · intro N hN D'
    refine (x7584 _ rfl p rs rfl (SqL.of (e1 _ _ hp2)) (fun l hl2 => ?_))
    have lb : l ≠ b := fun z => by rw [z, j04] at hl2; cases hl2
    have e2 := e1.trans (j05 (o := .lst (iV (srt rs))) hl2)
    refine (x0c0c l rfl ⟨_, SqL.of j04⟩ (j1u (K := K) (a := l) (xs := iV (srt rs)) (fun i σ H3 => ∃ v, σ = [some (.ref a), some (.ref p), some (.ref q), some (.ref b), some (.int (((srt rs).take i).sum)), v, none, none, none, none, none, none, none, none, none, none, none, none, none, none, none, none] ∧ Same H2 H3 ∧ H3 l = some (.lst (iV (srt rs))) ∧ H3 b = some (.lst (iV (psum ((srt rs).take i)))))
      (x5ff7 none rfl e2 j04 (by rw [j0a (Ne.symm lb), j04]; rfl)) (by rintro i σ H3 _ ⟨_, _, _, e, _⟩; exact SqL.of e) ?_ ?_))
    · rintro i y σ H3 hi ⟨v, rfl, s3, h3, h4⟩
      intro D2
      obtain ⟨n, hn, rfl⟩ := j6d hi
      have hil : i < (srt rs).length := (List.getElem?_eq_some_iff.mp hn).1
      refine gN ?_
      try dsimp only
      refine (x5395 _ rfl _ rfl _ _ rfl rfl ?_)
      refine gN ?_
      try dsimp only
      refine (x27ab _ rfl (.inl (xea8a rfl _ (SqL.of h4))) _ rfl b _ _ rfl rfl h4 (j0z (by rw [j0e, j2z, List.length_take]; exact o15ead hl rl sl)) ?_)
      rw [j4c]
      refine (x5ff7 (some (.int n)) ?_ (j18 s3 hb) (by rw [j0a lb]; exact h3) (by rw [j04, j4b hn]))
      have e : ((srt rs).take (i + 1)).sum = ((srt rs).take i).sum + n := by rw [j33 hn, List.sum_append]; simp
      rw [e]
      rfl
    rintro σ H3 ⟨v, rfl, s3, h3, h4⟩
    rw [j0e, List.take_of_length_le (Nat.le_refl _)] at h4
    exact hN _ _ (xeb27 _ _ rfl s3 h4)
  rintro σ' H3 ⟨v4, v5, rfl, s3, hb3⟩
  have hp3 := s3 _ _ hp2
  have hq3 := s3 _ _ hq2
  have hS3 : SqL K H3 a (iV ns) := s3.seq hS2
  have tb3 : TbOk Pt lamP lamQ H3 := .inl (s3 _ _ tbH)
  have tbH3 := s3 _ _ tbH
  clear s3 hp2 hq2 hS2 tbH e1 hb
  refine j0v (fun σ' H' => ∃ v6 v7 : Option V, σ' = [some (.ref a), some (.ref p), some (.ref q), some (.ref b), v4, v5, v6, v7, none, none, none, none, none, none, none, none, none, none, none, none, none, none] ∧ Same H3 H') ?_ ?_
  · intro N hN D'
    refine (x5ff7 _ rfl (by decide) (by decide) (j24 (n := 2) (fun i σ H4 => ∃ v6 v7 : Option V, σ = [some (.ref a), some (.ref p), some (.ref q), some (.ref b), v4, v5, v6, v7, none, none, none, none, none, none, none, none, none, none, none, none, none, none] ∧ Same H3 H4) (x90aa _ _ rfl (Same.refl _)) ?_ (fun σ H4 z => hN _ _ z)))
    rintro i σ H4 _ ⟨v6, v7, rfl, s4⟩
    intro D2
    refine gN ?_
    try dsimp only
    refine (x0494 _ rfl p rs rfl (s4 _ _ hp3) rne rb6 ⟨by exact o1f4e7 hl rl, fun e H5 he s5 he5 => ?_⟩)
    refine gN ?_
    try dsimp only
    have pl : (psum (srt rs)).length = rs.length := by rw [j2z, sl]
    refine j0v (fun σ' H' => σ' = [some (.ref a), some (.ref p), some (.ref q), some (.ref b), v4, v5, some (.int (0 + (i : Int))), some (.ref e), none, none, none, none, none, none, none, none, none, none, none, none, none, none] ∧ Same H5 H') ?_ ?_
    · intro N hN D'
      refine (xc932 _ rfl _ rfl p _ rfl (.inl (SqL.of (s5 _ _ (s4 _ _ hp3)))) e _ _ rfl (xe1fa he5 (by rw [j0e, pl]) (by exact o49cb0 hl rl pl) (fun H6 s6 => (x9614 _ rfl ?_))))
      refine iteF ?_
      refine (x92ad _ rfl _ rfl (psum (srt rs)) (psum (srt rs)) (xeb27 e _ rfl (SqL.of (s6 _ _ he5)) (j0n _ _)) (xeb27 b _ rfl (SqL.of (s6 _ _ (s5 _ _ (s4 _ _ hb3)))) (j0n _ _)) _ rfl ?_)
      rw [j5k]
      exact iteF (hN _ _ ⟨rfl, s6⟩)
    rintro σ' H6 ⟨rfl, s6⟩
    have he6 := s6 _ _ he5
    refine (x6ef4 _ rfl (.inl (xea8a rfl _ (SqL.of he6))) e (x6c4f _ _ rfl rfl he6 (j0z (by rw [j0e, pl]; exact o1f4e7 hl rl)) ?_))
    exact (x90aa _ _ rfl (j18 ((s4.trans s5).trans s6) (s4.free he)))
  rintro σ' H4 ⟨v6, v7, rfl, s4⟩
  refine (x12fa _ rfl _ rfl p q _ _ rfl rfl (s4 _ _ hp3) (s4 _ _ hq3) ⟨sz _ (by rw [j0e, j0e]; exact o08118 hl rl ol), fun c hc => ?_⟩)
  have e1 := s4.trans (j05 (o := .lst (iV rs ++ iV os)) hc)
  refine (xf1da _ rfl a ns 1 rfl (e1.seq hS3) (by decide) (fun c1 => ⟨sz 1 (by decide), fun d hd => ?_⟩))
  have e2 := e1.trans (j05 (o := .lst [V.int c1]) hd)
  refine (x3cc4 c d _ _ rfl rfl (j05 hd _ _ j04) j04 (sz _ (by simp only [List.length_append, j0e, List.length_cons, List.length_nil]; exact od667f hl rl ol)) (fun e he => ?_))
  have e3 := e2.trans (j05 (o := .lst (iV rs ++ iV os ++ [V.int c1])) he)
  refine (x5fde e (rs ++ os ++ [c1]) rfl (SqL.of (by rw [j04, iV_app, iV_sn])) (by simp only [List.length_append, List.length_cons, List.length_nil]; exact od667f hl rl ol) (fun l hl2 => ?_))
  have s5 := e3.trans (j05 (o := .lst (iV (srt (Stb.dd (rs ++ os ++ [c1]))))) hl2)
  have mem : ∀ x ∈ rs, x ∈ srt (Stb.dd (rs ++ os ++ [c1])) := fun x hx => (j1c _).mem_iff.mpr (Stb.dd_mem.mpr (by simp [hx]))
  have ml : (srt (Stb.dd (rs ++ os ++ [c1]))).length ≤ 129 := by
    have := Stb.jau (rs ++ os ++ [c1])
    rw [j1s]
    simp only [List.length_append, List.length_cons, List.length_nil] at this
    exact o35bae hl rl ol this
  have hm5 : (upd (upd (upd (upd H4 c (.lst (iV rs ++ iV os))) d (.lst [V.int c1])) e (.lst (iV rs ++ iV os ++ [V.int c1]))) l (.lst (iV (srt (Stb.dd (rs ++ os ++ [c1])))))) l = some (.lst (iV (srt (Stb.dd (rs ++ os ++ [c1]))))) := j04
  generalize upd (upd (upd (upd H4 c (.lst (iV rs ++ iV os))) d (.lst [V.int c1])) e (.lst (iV rs ++ iV os ++ [V.int c1]))) l (.lst (iV (srt (Stb.dd (rs ++ os ++ [c1]))))) = H5 at s5 hm5
  generalize srt (Stb.dd (rs ++ os ++ [c1])) = mk at mem ml hm5
  have mne : mk ≠ [] := fun z => by
    have := mem (rs.getD 0 0) (by rw [List.getD_eq_getElem?_getD, List.getElem?_eq_getElem (by exact o4d1a2 rl)]; exact List.getElem_mem _)
    rw [z] at this
    cases this
  refine gN ?_
  try dsimp only
  clear e1 e2 e3 hc hd he hl2
  refine j0v (fun σ' H' => ∃ (f : Addr) (fw : List Int), σ' = [some (.ref a), some (.ref p), some (.ref q), some (.ref b), v4, v5, v6, v7, some (.ref l), some (.ref f), none, none, none, none, none, none, none, none, none, none, none, none] ∧ Same H5 H' ∧ H' f = some (.lst (iV fw)) ∧ fw ≠ [] ∧ fw.length ≤ 129) ?_ ?_
  · intro N hN D'
    refine (x7584 _ rfl l _ rfl (.inl (SqL.of hm5)) (x0d4a _ _ rfl rfl _ rfl ?_))
    refine ite2 (fun _ => ?_) (fun h50 => ?_)
    · exact (x9614 _ rfl (hN _ _ (x6c4f l mk rfl (Same.refl _) hm5 mne ml)))
    rw [decide_eq_true_eq, j0e] at h50
    have k1 : (1 : Int) ≤ ((iV mk).length : Int) / 25 := by rw [j0e]; exact oe7072 h50
    refine (x2128 _ rfl l mk rfl (x7584 _ rfl l _ rfl (.inl (SqL.of hm5)) (x5fde _ _ rfl rfl ⟨by decide, by decide⟩ (x5ff7 _ rfl k1 (SqL.of hm5) (fun f hf => ?_)))))
    exact hN _ _ (x6c4f f _ rfl (j05 hf) j04 (strd_ne k1 mne) (Nat.le_trans (j8b k1) ml))
  rintro σ' H6 ⟨f, fw, rfl, s6, hf6, fne, fl⟩
  have s56 := s4
  have hp6 := s6 _ _ (s5 _ _ hp3)
  have hq6 := s6 _ _ (s5 _ _ hq3)
  have hb6 := s6 _ _ (s5 _ _ hb3)
  have hm6 := s6 _ _ hm5
  have hS6 : SqL K H6 a (iV ns) := s6.seq (s5.seq hS3)
  have tbH6 := s6 _ _ (s5 _ _ tbH3)
  clear s56 s6 s5 s4 hm5 hp3 hq3 hb3 hS3 tb3 tbH3
  refine ⟨Nat.zero_le _, fun g hg => ?_⟩
  have e1 := j05 (o := .lst []) hg
  refine gN ?_
  try dsimp only
  refine j0v (fun σ' H' => ∃ v11 v12 v13 : Option V, σ' = [some (.ref a), some (.ref p), some (.ref q), some (.ref b), v4, v5, v6, v7, some (.ref l), some (.ref f), some (.ref g), v11, v12, v13, none, none, none, none, none, none, none, none] ∧ Same H6 H' ∧ H' g = some (.lst (iV (fw.map fun m => abv rs m - abv os m)))) ?_ ?_
  · intro N hN D'
    refine (x9963 _ rfl f rfl ⟨_, SqL.of (e1 _ _ hf6)⟩ (j1u (K := K) (a := f) (xs := iV fw) (fun i σ H7 => ∃ v11 v12 v13 : Option V, σ = [some (.ref a), some (.ref p), some (.ref q), some (.ref b), v4, v5, v6, v7, some (.ref l), some (.ref f), some (.ref g), v11, v12, v13, none, none, none, none, none, none, none, none] ∧ Same H6 H7 ∧ H7 g = some (.lst (iV ((fw.take i).map fun m => abv rs m - abv os m))))
      (x0c51 _ _ _ rfl e1 j04) (by rintro i σ H7 _ ⟨_, _, _, _, e, _⟩; exact SqL.of (e _ _ hf6)) ?_ ?_))
    · rintro i y σ H7 hi ⟨v11, v12, v13, rfl, s7, hg7⟩
      intro D2
      obtain ⟨m, hm, rfl⟩ := j6d hi
      refine gN ?_
      try dsimp only
      refine (x6f12 _ rfl _ rfl (xef7a p rs m rfl (s7 _ _ hp6) rne rb6 (by exact o1f4e7 hl rl) (fun H8 s8 => ?_)))
      refine (x6f12 _ rfl _ rfl (xef7a q os m rfl (s8 _ _ (s7 _ _ hq6)) (fun z => by rw [z] at ol; simp at ol; exact o2e4c0 rl ol) ob6 (by exact o49cb0 hl rl ol) (fun H9 s9 => ?_)))
      refine (x90aa _ _ rfl ?_)
      try dsimp only
      have s79 := (s7.trans s8).trans s9
      refine j0v (fun σ' H' => σ' = [some (.ref a), some (.ref p), some (.ref q), some (.ref b), v4, v5, v6, v7, some (.ref l), some (.ref f), some (.ref g), some (.int m), some (.int (abv rs m)), some (.int (abv os m)), none, none, none, none, none, none, none, none] ∧ H' = H9) ?_ ?_
      · intro N hN D'
        refine (x2e55 _ rfl _ rfl _ rfl p rs m rfl (s79 _ _ hp6) rfl (x9614 _ rfl ?_))
        rw [decide_eq_true rfl]
        refine iteF ?_
        refine (x2e55 _ rfl _ rfl _ rfl q os m rfl (s79 _ _ hq6) rfl (x9614 _ rfl ?_))
        rw [decide_eq_true rfl]
        exact iteF (hN _ _ ⟨rfl, rfl⟩)
      rintro σ' H' ⟨rfl, rfl⟩
      have hg9 := s9 _ _ (s8 _ _ hg7)
      refine (x6ef4 _ rfl (.inl (xea8a rfl _ (SqL.of hg9))) _ (x4c19 rfl _ rfl (xeb27 _ _ rfl rfl (xac60 g _ _ rfl rfl hg9 (j0z (by rw [j0e, List.length_map, List.length_take]; exact o2ba4d fl)) ?_))))
      rw [j4c]
      exact (x0c51 _ _ _ rfl (j18 s79 hg) (by rw [j04, j79 hm, List.map_append]; rfl))
    rintro σ H7 ⟨v11, v12, v13, rfl, s7, hg7⟩
    rw [j0e, List.take_of_length_le (Nat.le_refl _)] at hg7
    exact hN _ _ (x0c51 _ _ _ rfl s7 hg7)
  rintro σ' H7 ⟨v11, v12, v13, rfl, s7, hg7⟩
  have hp7 := s7 _ _ hp6
  have hq7 := s7 _ _ hq6
  have hb7 := s7 _ _ hb6
  have hm7 := s7 _ _ hm6
  have hf7 := s7 _ _ hf6
  have hS7 : SqL K H7 a (iV ns) := s7.seq hS6
  have tbH7 := s7 _ _ tbH6
  have tb7 : TbOk Pt lamP lamQ H7 := .inl tbH7
  have gne : (fw.map fun m => abv rs m - abv os m) ≠ [] := fun z => fne (List.map_eq_nil_iff.mp z)
  clear s7 hp6 hq6 hb6 hm6 hf6 hS6 tbH6 e1 hg
  refine j0v (fun σ' H' => ∃ v14 : Option V, σ' = [some (.ref a), some (.ref p), some (.ref q), some (.ref b), v4, v5, v6, v7, some (.ref l), some (.ref f), some (.ref g), v11, v12, v13, v14, none, none, none, none, none, none, none] ∧ j15 Pt H7 H') ?_ ?_
  · intro N hN D'
    refine (xb90b _ rfl p rs rfl (SqL.of hp7) _ rfl q os rfl (SqL.of hq7) (x4c19 rfl _ rfl ?_))
    refine ite2 (fun hs => ?_) (fun _ => hN _ _ (x9614 _ rfl (j15.of (Same.refl _))))
    have hs' : rs.sum = os.sum := by simpa using hs
    refine (x12fa _ rfl _ rfl p q rs os rfl hp7 hq7 rne (xf6a6 (by exact o1f4e7 hl rl) ol.symm rb6 ob6 tb7 (fun x dx H8 hx s8 tb8 told => ?_)))
    have hg8 := s8 _ _ (tb7.ne hg7) hg7
    have hf8 := s8 _ _ (tb7.ne hf7) hf7
    have hm8 := s8 _ _ (tb7.ne hm7) hm7
    cases told with
    | wholes h _ => exact absurd hs' h
    | top _ k ht hx8 =>
      refine (x2633 (.ref x) _ _ _ false rfl rfl (cT.ty hx8) iTG ?_)
      refine gN ?_
      try dsimp only
      refine (x6f12 _ rfl _ rfl ?_)
      refine iteF ?_
      refine (x92ad _ rfl _ rfl fw mk (xeb27 f _ rfl (SqL.of hf8) (j0n _ _)) (xeb27 l _ rfl (SqL.of hm8) (j0n _ _)) _ rfl ?_)
      by_cases c : fw = mk
      · rw [if_neg Bool.false_ne_true, decide_eq_true c]
        refine iteT ?_
        obtain ⟨m, hm, lt⟩ := Tops.abv ht
        refine (x2fac _ rfl _ rfl g _ rfl (SqL.of hg8) gne (fun M m1 m2 => (x5fde _ _ rfl rfl rfl (x9614 _ rfl ?_))))
        have hM := m2 _ (List.mem_map.mpr (x9614 m (c ▸ mem m hm) rfl))
        dsimp only
        rw [decide_eq_true (p := V.bl false = V.bl (decide ((0 : Int) ≤ M))) (by rw [decide_eq_false (p := (0 : Int) ≤ M) (by exact o8a963 lt hM)])]
        exact iteF (hN _ _ (x9614 _ rfl s8))
      rw [if_neg Bool.false_ne_true, decide_eq_false c]
      refine iteF ?_
      exact iteF (hN _ _ (x9614 _ rfl s8))
    | gifts _ l2 gs ld hln gl hx8 =>
      refine (x2633 (.ref x) _ _ _ true rfl rfl (cG.ty hx8) iGG ?_)
      refine gN ?_
      try dsimp only
      refine (x6f12 _ rfl _ rfl ?_)
      refine iteT ?_
      have nn : ∀ y ∈ fw.map fun m => abv rs m - abv os m, 0 ≤ y := fun y hy => by
        obtain ⟨m, _, rfl⟩ := List.mem_map.mp hy
        have := ld.abv m
        exact ob9481 this
      refine (x34fc _ rfl g _ rfl (SqL.of hg8) gne (fun M m1 _ => (x0d4a _ _ rfl rfl _ rfl ?_)))
      have hM := nn M m1
      rw [decide_eq_false (p := M < (0 : Int)) (by exact oe3138 hM)]
      refine iteF ?_
      refine (x92ad _ rfl _ rfl fw mk (xeb27 f _ rfl (SqL.of hf8) (j0n _ _)) (xeb27 l _ rfl (SqL.of hm8) (j0n _ _)) _ rfl ?_)
      refine ite2 (fun _ => ?_) (fun _ => ?_)
      · refine (x2fac _ rfl _ rfl g _ rfl (SqL.of hg8) gne (fun M' m1' _ => (x5fde _ _ rfl rfl rfl (x9614 _ rfl ?_))))
        dsimp only
        rw [decide_eq_true (p := V.bl true = V.bl (decide ((0 : Int) ≤ M'))) (by rw [decide_eq_true (p := (0 : Int) ≤ M') (nn M' m1')])]
        exact iteF (hN _ _ (x9614 _ rfl s8))
      refine iteF ?_
      exact hN _ _ (x9614 _ rfl s8)
  rintro σ' H8 ⟨v14, rfl, s8⟩
  have hp8 := s8 _ _ (tb7.ne hp7) hp7
  have hb8 := s8 _ _ (tb7.ne hb7) hb7
  have hS8 : SqL K H8 a (iV ns) := s8.seq tbH7 hS7
  clear s8 hp7 hq7 hb7 hm7 hf7 hS7 hg7 tbH7 tb7
  refine ⟨Nat.zero_le _, fun gf hgf => ?_⟩
  have e1 := j05 (o := .lst []) hgf
  refine (x7584 _ rfl p _ rfl (.inl (SqL.of (e1 _ _ hp8))) (fun nw hnw => ?_))
  have e2 := e1.trans (j05 (o := .lst (iV rs)) hnw)
  have gn : gf ≠ nw := fun z => by rw [← z, j04] at hnw; cases hnw
  have nw8 : H8 nw = none := e1.free hnw
  refine (x90aa _ _ rfl ?_)
  try dsimp only
  refine j0v (fun σ' H' => ∃ (v17 v18 v19 v20 : Option V) (gs : List G3) (xs : List V), σ' = [some (.ref a), some (.ref p), some (.ref q), some (.ref b), v4, v5, v6, v7, some (.ref l), some (.ref f), some (.ref g), v11, v12, v13, v14, some (.ref gf), some (.ref nw), v17, v18, v19, v20, none] ∧ Same H8 H' ∧ H' gf = some (.lst xs) ∧ PySem.Paired (GR H') gs xs ∧ H' nw = some (.lst (iV (runD rs gs))) ∧ j4f rs gs ∧ gs.length ≤ 64) ?_ ?_
  · intro N hN D'
    refine (x7584 _ rfl p _ rfl (.inl (SqL.of (e2 _ _ hp8))) (x0d4a _ _ rfl rfl _ rfl (x3b98 (by omega) (by rw [j0e]; omega) (j24 (n := (((iV rs).length : Int) - 1).toNat) (fun i σ H9 => ∃ (v17 v18 v19 v20 : Option V) (gs : List G3) (xs : List V), σ = [some (.ref a), some (.ref p), some (.ref q), some (.ref b), v4, v5, v6, v7, some (.ref l), some (.ref f), some (.ref g), v11, v12, v13, v14, some (.ref gf), some (.ref nw), v17, v18, v19, v20, none] ∧ Same H8 H9 ∧ H9 gf = some (.lst xs) ∧ PySem.Paired (GR H9) gs xs ∧ H9 nw = some (.lst (iV (runD rs gs))) ∧ j4f rs gs ∧ Bd 900010 (runD rs gs) ∧ gs.length ≤ i)
      (xb3a1 _ _ _ _ [] [] rfl e2 (j05 hnw _ _ j04) (.nil) j04 trivial ⟨j3d rb (by decide), Nat.zero_le _⟩) ?_ ?_))))
    · rintro i σ H9 hi ⟨v17, v18, v19, v20, gs, xs, rfl, s9, hg9, pr9, hn9, ok9, bd9, gl9⟩
      intro D2
      rw [j0e] at hi
      have ln : (runD rs gs).length = rs.length := j3t _ _
      refine gN ?_
      try dsimp only
      refine (x6f12 _ rfl _ rfl (x18c7 a ns _ rfl (s9.seq hS8) (by exact od02e9) (fun c1 => ?_)))
      refine (x7584 _ rfl p _ rfl (.inl (SqL.of (s9 _ _ hp8))) (x18c7 _ _ _ rfl (by decide) (by rw [j0e]; exact od94ce hi) (fun gv Ha g0 g1 sa => ?_)))
      rw [j0e] at g1
      refine gN ?_
      try dsimp only
      refine (x6f12 _ rfl _ rfl (x18c7 a ns _ rfl (sa.seq (s9.seq hS8)) (by exact od02e9) (fun c2 => ?_)))
      refine (x18c7 _ _ _ rfl (by decide) (by decide) (fun am Hb a0 a1 sb => (xeb27 _ _ rfl rfl ?_)))
      refine gN ?_
      try dsimp only
      have sab := sa.trans sb
      have s9b := s9.trans sab
      refine (xb90b _ rfl _ _ rfl rfl _ rfl _ _ rfl rfl (x7584 _ rfl p _ rfl (.inl (SqL.of (s9b _ _ hp8))) (x5fde _ _ rfl rfl (by rw [j0e]; omega) ?_)))
      refine gN ?_
      try dsimp only
      generalize htk : (gv + 1 + (0 + (i : Int))) % ((iV rs).length : Int) = tk
      have t0 : 0 ≤ tk := by rw [← htk]; exact Int.emod_nonneg _ (by rw [j0e]; exact ocabbb g0 g1)
      have t1 : tk < rs.length := by
        have := Int.emod_lt_of_pos (gv + 1 + (0 + (i : Int))) (b := ((iV rs).length : Int)) (by rw [j0e]; exact o4e018 g0 g1)
        rw [htk, j0e] at this
        exact this
      clear htk
      obtain ⟨j, rfl⟩ : ∃ j : Nat, gv = j := ⟨gv.toNat, by exact ob7bfc g0⟩
      obtain ⟨t, rfl⟩ : ∃ t : Nat, tk = t := ⟨tk.toNat, by exact ob7bfc t0⟩
      have hg9' := sab _ _ hg9
      have hn9' := sab _ _ hn9
      have pr9' := j12 sab pr9
      refine (x7257 _ rfl _ rfl rfl _ rfl ?_)
      refine ite2 (fun hne => ?_) (fun _ => by refine iteF ?_; exact (xb3a1 _ _ _ _ gs xs rfl s9b hg9' pr9' hn9' ok9 ⟨bd9, by exact o6129f gl9⟩))
      have hne' : j ≠ t := fun z => by rw [z] at hne; simp at hne
      refine (x12fa _ rfl _ rfl nw _ _ _ rfl rfl (SqL.of hn9') (j1n (by exact o753c3 ln g1)) (x5bbc _ rfl _ _ rfl rfl _ rfl ?_))
      refine ite2 (fun h1 => ?_) (fun _ => by refine iteF ?_; exact (xb3a1 _ _ _ _ gs xs rfl s9b hg9' pr9' hn9' ok9 ⟨bd9, by exact o6129f gl9⟩))
      refine (x12fa _ rfl _ rfl nw _ _ _ rfl rfl (SqL.of hn9') (j1n (by exact o753c3 ln t1)) (x0d4a _ _ rfl rfl _ rfl ?_))
      refine ite2 (fun h2 => ?_) (fun _ => by refine nxt ?_; exact (xb3a1 _ _ _ _ gs xs rfl s9b hg9' pr9' hn9' ok9 ⟨bd9, by exact o6129f gl9⟩))
      rw [decide_eq_true_eq] at h1 h2
      refine (x6ef4 _ rfl (.inl (xea8a rfl _ (SqL.of hg9'))) _ (x4c19 rfl _ rfl (x0c0c _ rfl (sz 3 (by decide)) (fun T hT => ?_))))
      refine (xac60 gf _ _ rfl rfl (j05 hT _ _ hg9') (j0z (by rw [GL.len pr9']; exact o41bf1 hl rl hi gl9)) ?_)
      try dsimp only
      have ng : gf ≠ T := j0d hg9' hT
      have nT : nw ≠ T := j0d hn9' hT
      have sT : Same H8 (upd (upd Hb T (.tup [V.int (j : Int), V.int (t : Int), V.int (1 + am)])) gf (.lst (xs ++ [V.ref T]))) := j18 (s9b.trans (j05 hT)) hgf
      have lg := j4d (j05 (o := .tup [V.int (j : Int), V.int (t : Int), V.int (1 + am)]) hT _ _ hg9')
      have prT : PySem.Paired (GR (upd (upd Hb T (.tup [V.int (j : Int), V.int (t : Int), V.int (1 + am)])) gf (.lst (xs ++ [V.ref T])))) (gs ++ [((j : Int), (t : Int), 1 + am)]) (xs ++ [V.ref T]) := j1q lg.2.2 (GL.snoc (j12 (j05 hT) pr9') j04)
      have hgT : (upd (upd Hb T (.tup [V.int (j : Int), V.int (t : Int), V.int (1 + am)])) gf (.lst (xs ++ [V.ref T]))) gf = some (.lst (xs ++ [V.ref T])) := j04
      have hnT : (upd (upd Hb T (.tup [V.int (j : Int), V.int (t : Int), V.int (1 + am)])) gf (.lst (xs ++ [V.ref T]))) nw = some (.lst (iV (runD rs gs))) := by rw [j0a (Ne.symm gn), j0a nT]; exact hn9'
      generalize upd (upd Hb T (.tup [V.int (j : Int), V.int (t : Int), V.int (1 + am)])) gf (.lst (xs ++ [V.ref T])) = He at sT prT hgT hnT
      refine (x12fa _ rfl _ rfl nw _ _ _ rfl rfl (SqL.of hnT) (j1n (by exact o753c3 ln g1)) (x5bbc _ rfl _ _ rfl rfl _ rfl (x9614 _ rfl (x59b7 nw _ _ j rfl rfl hnT (j5h (by exact o753c3 ln g1)) ?_))))
      rw [j32]
      try dsimp only
      have ln2 : ((runD rs gs).set j ((runD rs gs).getD j 0 - (1 + am))).length = rs.length := by rw [List.length_set, ln]
      have lw := j4d hnT
      refine (x12fa _ rfl _ rfl nw _ _ _ rfl rfl (SqL.of j04) (j1n (by exact o839bf t1 ln2)) (x5bbc _ rfl _ _ rfl rfl _ rfl (x9614 _ rfl (x59b7 nw _ _ t rfl rfl j04 (j5h (by exact o839bf t1 ln2)) ?_))))
      rw [j32, j2u]
      have bn := give_bd bd9 hne' (by exact o753c3 ln g1) (by exact o753c3 ln t1) (a := 1 + am) (by exact o29ffd a0) (by exact ob0094 a1) h1 h2
      have er : runD rs (gs ++ [((j : Int), (t : Int), 1 + am)]) = L3.give (runD rs gs) j t (1 + am) := j4g gs rs _
      refine (xb3a1 _ _ _ _ (gs ++ [((j : Int), (t : Int), 1 + am)]) (xs ++ [V.ref T]) rfl (j18 sT nw8) (by rw [j0a gn]; exact hgT) (j1q lw.2.2 prT) ?_ ?_ ⟨by rw [er]; exact bn, by simp; exact o12bb4 gl9⟩)
      · rw [j04, er]
        rfl
      refine j4i ok9 ?_ (j3d bn (by decide))
      unfold okG
      simp only [Bool.and_eq_true, decide_eq_true_eq]
      exact ⟨⟨(x3b98 ⟨by exact o29297, by exact oc4216 g1⟩ (by exact o29297) (by exact oc4216 t1)), fun z => hne' (by exact ob66f0 z)⟩, by exact oe5b2a a0⟩
    rintro σ H9 ⟨v17, v18, v19, v20, gs, xs, rfl, s9, hg9, pr9, hn9, ok9, bd9, gl9⟩
    exact hN _ _ (xb3a1 _ _ _ _ gs xs rfl s9 hg9 pr9 hn9 ok9 (by rw [j0e] at gl9; exact o09a59 hl rl gl9))
  rintro σ' H9 ⟨v17, v18, v19, v20, gs, xs, rfl, s9, hg9, pr9, hn9, ok9, gl9⟩
  have hp9 := s9 _ _ hp8
  have hb9 := s9 _ _ hb8
  refine (x7584 _ rfl gf _ rfl (.inl (SqL.of hg9)) (fun hd hhd => ?_))
  have e3 := j05 (o := .lst xs) hhd
  refine gN ?_
  try dsimp only
  have hd0 : (upd H9 hd (.lst xs)) hd = some (.lst xs) := j04
  have pr0 := j12 e3 pr9
  have hp0 := e3 _ _ hp9
  have hb0 := e3 _ _ hb9
  have hg0 := e3 _ _ hg9
  have hn0 := e3 _ _ hn9
  generalize upd H9 hd (.lst xs) = H0 at hd0 pr0 hp0 hb0 hg0 hn0
  refine j0v (fun σ' H' => σ' = [some (.ref a), some (.ref p), some (.ref q), some (.ref b), v4, v5, v6, v7, some (.ref l), some (.ref f), some (.ref g), v11, v12, v13, v14, some (.ref gf), some (.ref nw), v17, v18, v19, v20, some (.ref hd)] ∧ Same H0 H') ?_ ?_
  · intro N hN D'
    refine (x12fa _ rfl _ rfl p hd rs gs rfl hp0 (x9614 xs hd0 pr0) rne (x3b98 rb6 ok9 (fun x Ha hx sa hxa => ?_)))
    refine (x5bbc _ rfl (runD rs gs) (runD rs gs) (xeb27 x _ rfl (SqL.of hxa) (j0n _ _)) (xeb27 nw _ rfl (SqL.of (sa _ _ hn0)) (j0n _ _)) _ rfl ?_)
    rw [j5k]
    refine iteF ?_
    have pra := j12 sa pr0
    refine (x92ad _ rfl _ rfl (gs.map gI) (gs.map gI) (xeb27 hd _ rfl (SqL.of (sa _ _ hd0)) (j5l pra)) (xeb27 gf _ rfl (SqL.of (sa _ _ hg0)) (j5l pra)) _ rfl ?_)
    rw [j5k]
    refine iteF ?_
    refine (x0c0c _ rfl (Nat.zero_le _) (fun y hy => ?_))
    have sy := j05 (o := .lst []) hy
    have say := sa.trans sy
    refine (x1376 p y rs [] rfl (say _ _ hp0) (x9614 [] j04 (.nil)) rne rb6 trivial (fun z Hb hz sb hzb => ?_))
    refine (x5bbc _ rfl rs rs (xeb27 z _ rfl (SqL.of hzb) (j0n _ _)) (xeb27 p _ rfl (SqL.of (sb _ _ (say _ _ hp0))) (j0n _ _)) _ rfl ?_)
    rw [j5k]
    exact iteF (hN _ _ ⟨rfl, say.trans sb⟩)
  rintro σ' Ha ⟨rfl, sa⟩
  refine (x0c0c _ rfl (Nat.zero_le _) (fun y hy => ?_))
  have sy := j05 (o := .lst []) hy
  have say := sa.trans sy
  refine (x1376 p y rs [] rfl (say _ _ hp0) (x9614 [] j04 (.nil)) rne rb6 trivial (fun z Hb hz sb hzb => ?_))
  have sab := say.trans sb
  refine (xea8a (.inl (xea8a rfl _ (SqL.of hzb))) z (x6c4f _ _ rfl rfl hzb (j0z (by rw [j0e, j3t]; exact o1f4e7 hl rl)) ?_))
  have sc : Same H0 (upd Hb z (.lst (iV rs ++ [V.int 0]))) := j18 sab (say.free hz)
  refine (x0494 _ rfl p rs rfl (sc _ _ hp0) rne rb6 ⟨by exact o1f4e7 hl rl, fun e Hd he sd hed => ?_⟩)
  refine (x7584 _ rfl (psum (srt rs)) (psum (srt rs)) (xeb27 e _ rfl (SqL.of hed) (j0n _ _)) (xeb27 b _ rfl (SqL.of (sd _ _ (sc _ _ hb0))) (j0n _ _)) ?_)
  rw [eq_self]
  exact ret _
end
end My
end
noncomputable section
namespace My
open PySem L2 L3
theorem len1 {α : Type} {p : List α → Prop} (h : ∀ a, p [a]) : ∀ l : List α, l.length = 1 → p l
  | [a], _ => h a
theorem len2 {α : Type} {p : List α → Prop} (h : ∀ a b, p [a, b]) : ∀ l : List α, l.length = 2 → p l
  | [a, b], _ => h a b
theorem len3 {α : Type} {p : List α → Prop} (h : ∀ a b c, p [a, b, c]) : ∀ l : List α, l.length = 3 → p l
  | [a, b, c], _ => h a b c
theorem all_mk {l : PySem.W.OpenLaw} {w : World} {K : PySem.W.Frag} {h : Heap} {mg : Str → Option Value} {fa CG CT CW : Addr} {tBOUND : Tok} (X : K.In h) (G : h.Ns mainGlobals mg) (hfa : mg "law" = some (.ref fa))
    (aCG : PySem.W.nsIn K mainGlobals "Gifts" = some (some (.ref CG)))
    (aCT : PySem.W.nsIn K mainGlobals "Top" = some (some (.ref CT)))
    (aCW : PySem.W.nsIn K mainGlobals "Wholes" = some (some (.ref CW)))
    (cG : CF K CG)
    (mkG : PySem.W.makesIn K CG = true)
    (kcG : PySem.W.keepIn K (.ref CG) = true)
    (cT : CF K CT)
    (mkT : PySem.W.makesIn K CT = true)
    (kcT : PySem.W.keepIn K (.ref CT) = true)
    (cW : CF K CW)
    (mkW : PySem.W.makesIn K CW = true)
    (kcW : PySem.W.keepIn K (.ref CW) = true)
    (nG : PySem.W.findIn K (.ref CG) "gifts" = some none)
    (nT : PySem.W.findIn K (.ref CT) "many" = some none)
    (nW1 : PySem.W.findIn K (.ref CW) "one" = some none)
    (nW2 : PySem.W.findIn K (.ref CW) "other" = some none)
    (iGG : PySem.W.kitOne K (.ref CG) (.ref CG) = some true)
    (iTG : PySem.W.kitOne K (.ref CT) (.ref CG) = some false)
    (tis_whole : TopF K "is_whole" "is_whole" s_whole)
    (tis_place : TopF K "is_place" "is_place" s_place)
    (tis_gift : TopF K "is_gift" "is_gift" s_gift)
    (tgive : TopF K "give" "give" s_give)
    (tis_share : TopF K "is_share" "is_share" s_share)
    (tcheck_row : TopF K "check_row" "check_row" s_ckrow)
    (tcheck_pair : TopF K "check_pair" "check_pair" s_ckpair)
    (tfalling_sums : TopF K "falling_sums" "falling_sums" s_fsums)
    (ttop_against : TopF K "top_against" "top_against" s_tag)
    (t_law_cell_at : TopF K "_law_cell_at" "_law_cell_at" s_cell)
    (t_law_draw : TopF K "_law_draw" "_law_draw" s_draw)
    (t_law_row : TopF K "_law_row" "_law_row" s_row)
    (t_law_other : TopF K "_law_other" "_law_other" s_other)
    (mGI : MthF K CG "__init__" "Gifts.__init__" s_GI)
    (mTI : MthF K CT "__init__" "Top.__init__" s_TI)
    (mWI : MthF K CW "__init__" "Wholes.__init__" s_WI)
    (tgifts_between : TopF K "gifts_between" "gifts_between" s_gb)
    (tcompared : TopF K "compared" "compared" s_cmp)
    (t_law_numbers : TopF K "_law_numbers" "_law_numbers" s_numbers)
    (trising_sums : TopF K "rising_sums" "rising_sums" s_rsums)
    (tabove : TopF K "above" "above" s_abve)
    (tdone : TopF K "done" "done" s_dn)
    (t_law_above : TopF K "_law_above" "_law_above" s_labv)
    (tlaw : TopF K "law" "law" s_law)
    (zzip : PySem.W.nsIn K mainGlobals "zip" = some none)
    (zset : PySem.W.nsIn K mainGlobals "set" = some none)
    (z0 : PySem.W.nsIn K mainGlobals "len" = some none)
    (z1 : PySem.W.nsIn K mainGlobals "range" = some none)
    (z2 : PySem.W.nsIn K mainGlobals "list" = some none)
    (z3 : PySem.W.nsIn K mainGlobals "tuple" = some none)
    (z4 : PySem.W.nsIn K mainGlobals "int" = some none)
    (z5 : PySem.W.nsIn K mainGlobals "bool" = some none)
    (z6 : PySem.W.nsIn K mainGlobals "str" = some none)
    (z7 : PySem.W.nsIn K mainGlobals "isinstance" = some none)
    (z8 : PySem.W.nsIn K mainGlobals "sum" = some none)
    (z9 : PySem.W.nsIn K mainGlobals "sorted" = some none)
    (z10 : PySem.W.nsIn K mainGlobals "any" = some none)
    (z11 : PySem.W.nsIn K mainGlobals "all" = some none)
    (z12 : PySem.W.nsIn K mainGlobals "abs" = some none)
    (z13 : PySem.W.nsIn K mainGlobals "max" = some none)
    (z14 : PySem.W.nsIn K mainGlobals "min" = some none)
    (aBOUND : PySem.W.nsIn K mainGlobals "BOUND" = some (some (.int 1000000 tBOUND)))
    (ft c Pt : Addr) (ot : Obj) (fdt : FuncData) (h1 : mg "gifts_between" = some (.ref ft)) (h2 : h.get? ft = some ot) (h3 : ot.data = .func fdt) (h4 : fdt.code = .ref c) :
    ∃ fd : FuncData, (∀ (s : Shared) (v : Value), BindsTo s fd ⟨[v], []⟩ [("_law_script", v)]) ∧ ∀ base : Heap, K.In base → base.Ns mainGlobals mg → PySem.W.CodeHd base c Pt → base.BuiltinsAt mg Pt → FnOk l.prog w K mg base CX0 6 fa fd ["_law_script"] (spLaw K Pt) := by
  obtain ⟨f, fd, a, F⟩ := tlaw.ex
  have e := hfa.symm.trans (PySem.W.mg_of X G a)
  cases e
  have B : Bl mg := Bl.of X G z0 z1 z2 z3 z4 z5 z6 z7 z8 z9 z10 z11 z12 z13 z14
  have hzip := PySem.W.mg_none_of X G zzip
  have hset := PySem.W.mg_none_of X G zset
  have gBOUND := PySem.W.mg_of X G aBOUND
  refine (x9614 fd (fun s v => ?_) (fun base kb nb C hbm => ok_law (CG := CG) (CT := CT) (CW := CW) F ?_))
  · obtain ⟨oc, od, kV, doc, pm, an, cdv, ct, osl, rfl, lk, hcd⟩ := F.ex
    exact .of_eq rfl
  have c_is_whole := Ok.of (P := l.prog) (w := w) (base := base) (ps := ["value"]) tis_whole X G (fun _ _ _ _ _ _ => len1 fun _  => rfl) fun f fd F => ok_whole F B
  have c_is_place := Ok.of (P := l.prog) (w := w) (base := base) (ps := ["value", "count"]) tis_place X G (fun _ _ _ _ _ _ => len2 fun _ _  => rfl) fun f fd F => ok_place F c_is_whole
  have c_is_gift := Ok.of (P := l.prog) (w := w) (base := base) (ps := ["value", "count"]) tis_gift X G (fun _ _ _ _ _ _ => len2 fun _ _  => rfl) fun f fd F => ok_gift F B c_is_whole c_is_place
  have c_give := Ok.of (P := l.prog) (w := w) (base := base) (ps := ["row", "gift"]) tgive X G (fun _ _ _ _ _ _ => len2 fun _ _  => rfl) fun f fd F => ok_give F
  have c_is_share := Ok.of (P := l.prog) (w := w) (base := base) (ps := ["value"]) tis_share X G (fun _ _ _ _ _ _ => len1 fun _  => rfl) fun f fd F => ok_share F gBOUND c_is_whole
  have c_check_row := Ok.of (P := l.prog) (w := w) (base := base) (ps := ["row"]) tcheck_row X G (fun _ _ _ _ _ _ => len1 fun _  => rfl) fun f fd F => ok_ckrow F B c_is_share
  have c_check_pair := Ok.of (P := l.prog) (w := w) (base := base) (ps := ["one", "other"]) tcheck_pair X G (fun _ _ _ _ _ _ => len2 fun _ _  => rfl) fun f fd F => jb5 F B c_check_row
  have c_falling_sums := Ok.of (P := l.prog) (w := w) (base := base) (ps := ["row"]) tfalling_sums X G (fun _ _ _ _ _ _ => len1 fun _  => rfl) fun f fd F => ok_fsums F B
  have c_top_against := Ok.of (P := l.prog) (w := w) (base := base) (ps := ["one", "other"]) ttop_against X G (fun _ _ _ _ _ _ => len2 fun _ _  => rfl) fun f fd F => ok_tag F B c_falling_sums
  have c_cell_at := Ok.of (P := l.prog) (w := w) (base := base) (ps := ["_law_script", "_law_k"]) t_law_cell_at X G (fun _ _ _ _ _ _ => len2 fun _ _  => rfl) fun f fd F => ok_cell F B
  have c_draw := Ok.of (P := l.prog) (w := w) (base := base) (ps := ["_law_cell", "_law_k", "_law_many"]) t_law_draw X G (fun _ _ _ _ _ _ => len3 fun _ _ _  => rfl) fun f fd F => ok_draw F B
  have c_row := Ok.of (P := l.prog) (w := w) (base := base) (ps := ["_law_script"]) t_law_row X G (fun _ _ _ _ _ _ => len1 fun _  => rfl) fun f fd F => ok_row F B c_cell_at c_draw
  have c_other := Ok.of (P := l.prog) (w := w) (base := base) (ps := ["_law_script", "_law_row_here"]) t_law_other X G (fun _ _ _ _ _ _ => len2 fun _ _  => rfl) fun f fd F => ok_other F B c_cell_at c_draw
  have c_Gifts := OkC.of (P := l.prog) (w := w) (base := base) (ps := ["self", "gifts"]) mGI X G aCG mkG kcG (fun _ _ _ _ _ _ => len2 fun _ _  => rfl) fun f fd F => ok_GI F B cG.cl nG
  have c_Top := OkC.of (P := l.prog) (w := w) (base := base) (ps := ["self", "many"]) mTI X G aCT mkT kcT (fun _ _ _ _ _ _ => len2 fun _ _  => rfl) fun f fd F => ok_TI F cT.cl nT
  have c_Wholes := OkC.of (P := l.prog) (w := w) (base := base) (ps := ["self", "one", "other"]) mWI X G aCW mkW kcW (fun _ _ _ _ _ _ => len3 fun _ _ _  => rfl) fun f fd F => ok_WI F cW.cl nW1 nW2
  have c_gifts_between := Ok.ofC (P := l.prog) (w := w) (base := base) (ps := ["one", "other"]) tgifts_between X G h1 h2 h3 h4 (fun _ _ _ _ _ _ => len2 fun _ _  => rfl) fun f fd F hc => ok_gb F B hzip hc C hbm
  have c_compared := Ok.of (P := l.prog) (w := w) (base := base) (ps := ["one", "other"]) tcompared X G (fun _ _ _ _ _ _ => len2 fun _ _  => rfl) fun f fd F => ok_cmp F B c_check_pair c_top_against c_gifts_between c_Gifts c_Top c_Wholes
  have c_numbers := Ok.of (P := l.prog) (w := w) (base := base) (ps := ["_law_found", "_law_many"]) t_law_numbers X G (fun _ _ _ _ _ _ => len2 fun _ _  => rfl) fun f fd F => j98 F B
  have c_rising_sums := Ok.of (P := l.prog) (w := w) (base := base) (ps := ["row"]) trising_sums X G (fun _ _ _ _ _ _ => len1 fun _  => rfl) fun f fd F => ok_rsums F B c_check_row
  have c_above := Ok.of (P := l.prog) (w := w) (base := base) (ps := ["row", "mark"]) tabove X G (fun _ _ _ _ _ _ => len2 fun _ _  => rfl) fun f fd F => ok_abve F B c_check_row c_is_whole
  have c_done := Ok.of (P := l.prog) (w := w) (base := base) (ps := ["row", "gifts"]) tdone X G (fun _ _ _ _ _ _ => len2 fun _ _  => rfl) fun f fd F => ok_dn F B c_check_row c_is_gift c_give c_is_share
  have c_l_above := Ok.of (P := l.prog) (w := w) (base := base) (ps := ["_law_row_here", "_law_mark"]) t_law_above X G (fun _ _ _ _ _ _ => len2 fun _ _  => rfl) fun f fd F => ok_labv F B
  exact ⟨B, hset, PySem.W.mg_of X G aCG, cG, cT, iGG, iTG, c_cell_at, c_draw, c_row, c_other, c_numbers, c_rising_sums, c_above, c_l_above, c_compared, c_done⟩
theorem walk {l : PySem.W.OpenLaw} {q : Program} {loose : List Str} {XP : (Str → Option Value) → Heap → Prop} {YP : World → Heap → Prop} {d : DefRec} {K : Params → PySem.W.Frag} (hn : l.most = some 63) (hdf : d.params.defaults = [])
    (hY : ∀ (w : World) (h : Heap), YP w h → (K w.params).In h) (hdt : ((PyProof.Rows.recsOf q).find? fun e => e.name == ("gifts_between" : Str)).isSome = true) (hKt : ∀ p : Params, PySem.W.noTabs (K p) = true)
    (F : ∀ (w : World) (mg : Str → Option Value) (fa : Addr) (h : Heap), (K w.params).In h → h.Ns mainGlobals mg → mg d.name = some (.ref fa) → ∀ (ft c Pt : Addr) (ot : Obj) (fdt : FuncData), mg "gifts_between" = some (.ref ft) → h.get? ft = some ot → ot.data = .func fdt → fdt.code = .ref c →
      ∃ fd : FuncData, (∀ (s : Shared) (u : Value), BindsTo s fd ⟨[u], []⟩ [("_law_script", u)]) ∧
        ∀ base : Heap, (K w.params).In base → base.Ns mainGlobals mg → PySem.W.CodeHd base c Pt → base.BuiltinsAt mg Pt → FnOk l.prog w (K w.params) mg base CX0 6 fa fd ["_law_script"] (spLaw (K w.params) Pt)) :
    PySem.W.WalkO q loose XP YP l.row.toRowW d [] (fun f vs => PySem.call f vs) :=
  walk_T (n := 63) (k := 6) (x := "_law_script") (tN := "gifts_between") (sp := fun w Pt => spLaw (K w.params) Pt) hn (by decide) hdf ⟨rfl, by decide, by decide⟩ hY hdt hKt F fun w Pt H a ns hl tb hS => (x6c4f a ns rfl hS hl tb (fun _ => rfl))
end My
end
noncomputable section
open PySem PySem.W PyProof.Rows
set_option maxRecDepth 100000 in
set_option maxHeartbeats 0 in
theorem PySem.Challenge.cw_evenhand_k04_sums_and_marks_holds : PySem.Challenge.rw_evenhand_k04_sums_and_marks.Holds := by
  w_on; o_law; k_head; (case hw => w_witness2)
  k_fill
  refine My.walk (l := PySem.Challenge.rw_evenhand_k04_sums_and_marks) rfl rfl (fun w h Y => PySem.W.km_in_of Y) ?hT1 ?hN1 ?hF1
  case hT1 => kernel_rfl
  case hN1 => intro p; kernel_rfl
  case hF1 =>
    intro w mg fa h KX G hmg
    refine' My.all_mk KX G hmg ?aCG ?aCT ?aCW ?cG ?mkG ?kcG ?cT ?mkT ?kcT ?cW ?mkW ?kcW ?nG ?nT ?nW1 ?nW2 ?iGG ?iTG ?tis_whole ?tis_place ?tis_gift ?tgive ?tis_share ?tcheck_row ?tcheck_pair ?tfalling_sums ?ttop_against ?t_law_cell_at ?t_law_draw ?t_law_row ?t_law_other ?mGI ?mTI ?mWI ?tgifts_between ?tcompared ?t_law_numbers ?trising_sums ?tabove ?tdone ?t_law_above ?tlaw ?zzip ?zset ?z0 ?z1 ?z2 ?z3 ?z4 ?z5 ?z6 ?z7 ?z8 ?z9 ?z10 ?z11 ?z12 ?z13 ?z14 ?aBOUND
    (case aCG => k_is)
    (case aCT => k_is)
    (case aCW => k_is)
    (case cG => (refine' L3.cf_mk ?p1 ?p2 ?p3 ?p4 ?p5 ?p6 ?p7 ?p8; (case p1 => k_is); (case p2 => k_is); (case p3 => k_is); (case p4 => k_is); (case p5 => k_is); (case p6 => k_is); (case p7 => k_is); (case p8 => k_is)))
    (case mkG => k_is)
    (case kcG => k_is)
    (case cT => (refine' L3.cf_mk ?p1 ?p2 ?p3 ?p4 ?p5 ?p6 ?p7 ?p8; (case p1 => k_is); (case p2 => k_is); (case p3 => k_is); (case p4 => k_is); (case p5 => k_is); (case p6 => k_is); (case p7 => k_is); (case p8 => k_is)))
    (case mkT => k_is)
    (case kcT => k_is)
    (case cW => (refine' L3.cf_mk ?p1 ?p2 ?p3 ?p4 ?p5 ?p6 ?p7 ?p8; (case p1 => k_is); (case p2 => k_is); (case p3 => k_is); (case p4 => k_is); (case p5 => k_is); (case p6 => k_is); (case p7 => k_is); (case p8 => k_is)))
    (case mkW => k_is)
    (case kcW => k_is)
    (case nG => k_is)
    (case nT => k_is)
    (case nW1 => k_is)
    (case nW2 => k_is)
    (case iGG => kernel_rfl)
    (case iTG => kernel_rfl)
    (case tis_whole => (refine' L3.j0u ?p1 ?p2 ?p3 ?p4; (case p1 => k_is); (case p2 => k_is); (case p3 => k_is); (case p4 => k_is)))
    (case tis_place => (refine' L3.j0u ?p1 ?p2 ?p3 ?p4; (case p1 => k_is); (case p2 => k_is); (case p3 => k_is); (case p4 => k_is)))
    (case tis_gift => (refine' L3.j0u ?p1 ?p2 ?p3 ?p4; (case p1 => k_is); (case p2 => k_is); (case p3 => k_is); (case p4 => k_is)))
    (case tgive => (refine' L3.j0u ?p1 ?p2 ?p3 ?p4; (case p1 => k_is); (case p2 => k_is); (case p3 => k_is); (case p4 => k_is)))
    (case tis_share => (refine' L3.j0u ?p1 ?p2 ?p3 ?p4; (case p1 => k_is); (case p2 => k_is); (case p3 => k_is); (case p4 => k_is)))
    (case tcheck_row => (refine' L3.j0u ?p1 ?p2 ?p3 ?p4; (case p1 => k_is); (case p2 => k_is); (case p3 => k_is); (case p4 => k_is)))
    (case tcheck_pair => (refine' L3.j0u ?p1 ?p2 ?p3 ?p4; (case p1 => k_is); (case p2 => k_is); (case p3 => k_is); (case p4 => k_is)))
    (case tfalling_sums => (refine' L3.j0u ?p1 ?p2 ?p3 ?p4; (case p1 => k_is); (case p2 => k_is); (case p3 => k_is); (case p4 => k_is)))
    (case ttop_against => (refine' L3.j0u ?p1 ?p2 ?p3 ?p4; (case p1 => k_is); (case p2 => k_is); (case p3 => k_is); (case p4 => k_is)))
    (case t_law_cell_at => (refine' L3.j0u ?p1 ?p2 ?p3 ?p4; (case p1 => k_is); (case p2 => k_is); (case p3 => k_is); (case p4 => k_is)))
    (case t_law_draw => (refine' L3.j0u ?p1 ?p2 ?p3 ?p4; (case p1 => k_is); (case p2 => k_is); (case p3 => k_is); (case p4 => k_is)))
    (case t_law_row => (refine' L3.j0u ?p1 ?p2 ?p3 ?p4; (case p1 => k_is); (case p2 => k_is); (case p3 => k_is); (case p4 => k_is)))
    (case t_law_other => (refine' L3.j0u ?p1 ?p2 ?p3 ?p4; (case p1 => k_is); (case p2 => k_is); (case p3 => k_is); (case p4 => k_is)))
    (case mGI => (refine' L3.j78 ?p1 ?p2 ?p3 ?p4 ?p5; (case p1 => k_is); (case p2 => k_is); (case p3 => k_is); (case p4 => k_is); (case p5 => k_is)))
    (case mTI => (refine' L3.j78 ?p1 ?p2 ?p3 ?p4 ?p5; (case p1 => k_is); (case p2 => k_is); (case p3 => k_is); (case p4 => k_is); (case p5 => k_is)))
    (case mWI => (refine' L3.j78 ?p1 ?p2 ?p3 ?p4 ?p5; (case p1 => k_is); (case p2 => k_is); (case p3 => k_is); (case p4 => k_is); (case p5 => k_is)))
    (case tgifts_between => (refine' L3.j0u ?p1 ?p2 ?p3 ?p4; (case p1 => k_is); (case p2 => k_is); (case p3 => k_is); (case p4 => k_is)))
    (case tcompared => (refine' L3.j0u ?p1 ?p2 ?p3 ?p4; (case p1 => k_is); (case p2 => k_is); (case p3 => k_is); (case p4 => k_is)))
    (case t_law_numbers => (refine' L3.j0u ?p1 ?p2 ?p3 ?p4; (case p1 => k_is); (case p2 => k_is); (case p3 => k_is); (case p4 => k_is)))
    (case trising_sums => (refine' L3.j0u ?p1 ?p2 ?p3 ?p4; (case p1 => k_is); (case p2 => k_is); (case p3 => k_is); (case p4 => k_is)))
    (case tabove => (refine' L3.j0u ?p1 ?p2 ?p3 ?p4; (case p1 => k_is); (case p2 => k_is); (case p3 => k_is); (case p4 => k_is)))
    (case tdone => (refine' L3.j0u ?p1 ?p2 ?p3 ?p4; (case p1 => k_is); (case p2 => k_is); (case p3 => k_is); (case p4 => k_is)))
    (case t_law_above => (refine' L3.j0u ?p1 ?p2 ?p3 ?p4; (case p1 => k_is); (case p2 => k_is); (case p3 => k_is); (case p4 => k_is)))
    (case tlaw => (refine' L3.j0u ?p1 ?p2 ?p3 ?p4; (case p1 => k_is); (case p2 => k_is); (case p3 => k_is); (case p4 => k_is)))
    (case zzip => k_is)
    (case zset => k_is)
    (case z0 => k_is)
    (case z1 => k_is)
    (case z2 => k_is)
    (case z3 => k_is)
    (case z4 => k_is)
    (case z5 => k_is)
    (case z6 => k_is)
    (case z7 => k_is)
    (case z8 => k_is)
    (case z9 => k_is)
    (case z10 => k_is)
    (case z11 => k_is)
    (case z12 => k_is)
    (case z13 => k_is)
    (case z14 => k_is)
    (case aBOUND => k_is)
end

/- The longest rows of pairs that two rows have in common: lists alone. -/
import Derived.Test.YtkenckolkpgebaaGreatDoorPlain
namespace Go.Proofs.YtkenckolkpgebaaGreatDoor
open Go.RowKit

/-- Frames are alike. -/
def alk (x y : Fr) : Bool := decide (x.m = y.m) && decide (x.f = y.f) && decide (x.i = y.i)
/-- The most pairs of alike elements of two rows. -/
def lcs : List Fr → List Fr → Nat
  | [], _ => 0
  | _ :: _, [] => 0
  | x :: a, y :: b => if alk x y = true then 1 + lcs a b else max (lcs a (y :: b)) (lcs (x :: a) b)
termination_by a b => a.length + b.length

theorem lcs_nil (b : List Fr) : lcs [] b = 0 := by rw [lcs]
theorem lcs_nil' : ∀ a : List Fr, lcs a [] = 0
  | [] => by rw [lcs]
  | _ :: _ => by rw [lcs]
theorem lcs_hit {x y : Fr} {a b : List Fr} (h : alk x y = true) : lcs (x :: a) (y :: b) = 1 + lcs a b := by rw [lcs, if_pos h]
theorem lcs_miss {x y : Fr} {a b : List Fr} (h : alk x y = false) : lcs (x :: a) (y :: b) = max (lcs a (y :: b)) (lcs (x :: a) b) := by rw [lcs, if_neg (by simp [h])]

/-- One element more on either side: no less, and at most one more. -/
theorem lcs_step : ∀ (n : Nat) (a b : List Fr), a.length + b.length ≤ n →
    (∀ x, lcs a b ≤ lcs (x :: a) b ∧ lcs (x :: a) b ≤ 1 + lcs a b) ∧ (∀ y, lcs a b ≤ lcs a (y :: b) ∧ lcs a (y :: b) ≤ 1 + lcs a b)
  | 0, a, b, h => by
    obtain rfl : a = [] := List.length_eq_zero_iff.1 (by omega)
    obtain rfl : b = [] := List.length_eq_zero_iff.1 (by omega)
    simp [lcs_nil, lcs_nil']
  | n + 1, a, b, h => by
    constructor
    · intro x
      cases b with
      | nil => simp [lcs_nil']
      | cons y b =>
        have i1 := (lcs_step n a b (by simp at h; omega)).2 y
        rcases hx : alk x y with _ | _
        · rw [lcs_miss hx]
          have i2 := (lcs_step n a b (by simp at h; omega)).1 x
          omega
        · rw [lcs_hit hx]; omega
    · intro y
      cases a with
      | nil => simp [lcs_nil]
      | cons x a =>
        have i1 := (lcs_step n a b (by simp at h; omega)).1 x
        rcases hx : alk x y with _ | _
        · rw [lcs_miss hx]
          have i2 := (lcs_step n a b (by simp at h; omega)).2 y
          omega
        · rw [lcs_hit hx]; omega
theorem lcs_left (x : Fr) (a b : List Fr) : lcs a b ≤ lcs (x :: a) b ∧ lcs (x :: a) b ≤ 1 + lcs a b := (lcs_step _ a b (Nat.le_refl _)).1 x
theorem lcs_right (y : Fr) (a b : List Fr) : lcs a b ≤ lcs a (y :: b) ∧ lcs a (y :: b) ≤ 1 + lcs a b := (lcs_step _ a b (Nat.le_refl _)).2 y
theorem lcs_drop (a : List Fr) : ∀ (n : Nat) (b : List Fr), lcs a (b.drop n) ≤ lcs a b
  | 0, b => by simp
  | n + 1, [] => by simp
  | n + 1, y :: b => by
    rw [List.drop_succ_cons]
    exact Nat.le_trans (lcs_drop a n b) (lcs_right y a b).1

/-- The table. -/
def T (a b : List Fr) (i j : Nat) : Nat := lcs (a.drop i) (b.drop j)
theorem T_a (a b : List Fr) {i : Nat} (j : Nat) (h : a.length ≤ i) : T a b i j = 0 := by unfold T; rw [List.drop_of_length_le h, lcs_nil]
theorem T_b (a b : List Fr) (i : Nat) {j : Nat} (h : b.length ≤ j) : T a b i j = 0 := by unfold T; rw [List.drop_of_length_le h, lcs_nil']
theorem T_hit {a b : List Fr} {i j : Nat} (hi : i < a.length) (hj : j < b.length) (h : alk a[i] b[j] = true) : T a b i j = 1 + T a b (i + 1) (j + 1) := by
  unfold T; rw [List.drop_eq_getElem_cons hi, List.drop_eq_getElem_cons hj, lcs_hit h]
theorem T_miss {a b : List Fr} {i j : Nat} (hi : i < a.length) (hj : j < b.length) (h : alk a[i] b[j] = false) : T a b i j = max (T a b (i + 1) j) (T a b i (j + 1)) := by
  unfold T; rw [List.drop_eq_getElem_cons hi, List.drop_eq_getElem_cons hj, lcs_miss h]
theorem T_i {a b : List Fr} {i j : Nat} : T a b (i + 1) j ≤ T a b i j ∧ T a b i j ≤ 1 + T a b (i + 1) j := by
  by_cases hi : i < a.length
  · unfold T; rw [List.drop_eq_getElem_cons hi]; exact lcs_left _ _ _
  · rw [T_a a b j (by omega), T_a a b j (by omega)]; omega
theorem T_j {a b : List Fr} {i j : Nat} : T a b i (j + 1) ≤ T a b i j ∧ T a b i j ≤ 1 + T a b i (j + 1) := by
  by_cases hj : j < b.length
  · unfold T; rw [List.drop_eq_getElem_cons hj]; exact lcs_right _ _ _
  · rw [T_b a b i (by omega), T_b a b i (by omega)]; omega
theorem T_jle {a b : List Fr} {i j : Nat} (k : Nat) : T a b i (j + k) ≤ T a b i j := by
  induction k with
  | zero => exact Nat.le_refl _
  | succ k ih => exact Nat.le_trans (T_j (a := a) (b := b) (i := i) (j := j + k)).1 ih
theorem T_mono {a b : List Fr} {i j k : Nat} (h : j ≤ k) : T a b i k ≤ T a b i j := by
  have := T_jle (a := a) (b := b) (i := i) (j := j) (k - j)
  rwa [show j + (k - j) = k by omega] at this
/-- The reference's step at a pair that is alike. -/
theorem T_hit' {a b : List Fr} {i j : Nat} (hi : i < a.length) (hj : j < b.length) (h : alk a[i] b[j] = true) : T a b i j = max (max (T a b (i + 1) j) (T a b i (j + 1))) (T a b (i + 1) (j + 1) + 1) := by
  have h1 := T_hit hi hj h
  have h2 := T_i (a := a) (b := b) (i := i) (j := j + 1)
  have h3 := T_j (a := a) (b := b) (i := i + 1) (j := j)
  omega
theorem T_le (a b : List Fr) : ∀ (n i j : Nat), a.length ≤ n + i → T a b i j ≤ n
  | 0, i, j, h => by rw [T_a a b j (by omega)]; exact Nat.le_refl 0
  | n + 1, i, j, h => by
    have h1 := T_le a b n (i + 1) j (by omega)
    have h2 := T_i (a := a) (b := b) (i := i) (j := j)
    omega

/-- The first alike element from a place on. -/
def fstA (x : Fr) (b : List Fr) (j : Nat) : Nat := if h : j < b.length then if alk x b[j] = true then j else fstA x b (j + 1) else b.length
termination_by b.length - j
theorem fstA_hit {x : Fr} {b : List Fr} {j : Nat} (h : j < b.length) (ha : alk x b[j] = true) : fstA x b j = j := by rw [fstA, dif_pos h, if_pos ha]
theorem fstA_miss {x : Fr} {b : List Fr} {j : Nat} (h : j < b.length) (ha : alk x b[j] = false) : fstA x b j = fstA x b (j + 1) := by rw [fstA, dif_pos h, if_neg (by simp [ha])]
theorem fstA_end {x : Fr} {b : List Fr} {j : Nat} (h : b.length ≤ j) : fstA x b j = b.length := by rw [fstA, dif_neg (by omega)]
theorem fstA_prop (x : Fr) (b : List Fr) : ∀ (n j : Nat), b.length ≤ n + j → fstA x b j ≤ b.length ∧ (j ≤ b.length → j ≤ fstA x b j) ∧ (∀ k (h : k < b.length), j ≤ k → k < fstA x b j → alk x b[k] = false) ∧ (∀ h : fstA x b j < b.length, alk x b[fstA x b j] = true)
  | 0, j, h => by rw [fstA_end (by omega)]; exact ⟨Nat.le_refl _, fun h => h, fun k hk h1 => by omega, fun h => by omega⟩
  | n + 1, j, h => by
    by_cases hj : j < b.length
    · rcases hx : alk x b[j] with _ | _
      · obtain ⟨h1, h2, h3, h4⟩ := fstA_prop x b n (j + 1) (by omega)
        have he := fstA_miss hj hx
        rw [he]
        refine ⟨h1, fun _ => by have := h2 (by omega); omega, ?_, ?_⟩
        · intro k hk hjk hlt
          by_cases hkj : k = j
          · subst hkj; exact hx
          · exact h3 k hk (by omega) hlt
        · exact fun h => h4 h
      · have he := fstA_hit hj hx
        rw [he]
        exact ⟨by omega, fun _ => Nat.le_refl _, fun k hk h1 h2 => by omega, fun _ => hx⟩
    · rw [fstA_end (by omega)]; exact ⟨Nat.le_refl _, fun h => h, fun k hk h1 => by omega, fun h => by omega⟩

/-- The pairs that Align finds, from an element of a on, where j is the first free place in b. -/
def prg (a b : List Fr) : Nat → Nat → Nat → List (Nat × Nat)
  | 0, _, _ => []
  | n + 1, i, j =>
    if hi : i < a.length then
      let k := fstA a[i] b j
      if k < b.length ∧ 1 + T a b (i + 1) (k + 1) = T a b i j then (i, k) :: prg a b n (i + 1) (k + 1) else prg a b n (i + 1) j
    else []
/-- The row's best pair is that of the first alike element. -/
theorem T_row {a b : List Fr} {i : Nat} (hi : i < a.length) : ∀ (n j : Nat), b.length ≤ n + j → T a b i j = if fstA a[i] b j < b.length then max (T a b (i + 1) j) (1 + T a b (i + 1) (fstA a[i] b j + 1)) else T a b (i + 1) j
  | 0, j, h => by rw [fstA_end (by omega), if_neg (by omega), T_b a b _ (by omega), T_b a b _ (by omega)]
  | n + 1, j, h => by
    by_cases hj : j < b.length
    · rcases hx : alk a[i] b[j] with _ | _
      · rw [fstA_miss hj hx, T_miss hi hj hx, T_row hi n (j + 1) (by omega)]
        have := T_j (a := a) (b := b) (i := i + 1) (j := j)
        split <;> omega
      · rw [fstA_hit hj hx, if_pos hj, T_hit hi hj hx]
        have := T_j (a := a) (b := b) (i := i + 1) (j := j)
        omega
    · rw [fstA_end (by omega), if_neg (by omega), T_b a b _ (by omega), T_b a b _ (by omega)]
/-- A row that is left out leaves what there is. -/
theorem T_skip {a b : List Fr} {i j : Nat} (hi : i < a.length) (h : ¬ (fstA a[i] b j < b.length ∧ 1 + T a b (i + 1) (fstA a[i] b j + 1) = T a b i j)) : T a b (i + 1) j = T a b i j := by
  have h1 := T_row (a := a) (b := b) hi b.length j (by omega)
  split at h1
  · rename_i hk
    have h2 : ¬ 1 + T a b (i + 1) (fstA a[i] b j + 1) = T a b i j := fun he => h ⟨hk, he⟩
    omega
  · exact h1.symm
/-- The first alike element is the best of its row. -/
theorem T_first {a b : List Fr} {i j y : Nat} (hi : i < a.length) (hy : y < b.length) (hj : j ≤ y) (hal : alk a[i] b[y] = true) : fstA a[i] b j ≤ y ∧ T a b (i + 1) (y + 1) ≤ T a b (i + 1) (fstA a[i] b j + 1) := by
  obtain ⟨h1, h2, h3, h4⟩ := fstA_prop a[i] b b.length j (by omega)
  have : fstA a[i] b j ≤ y := by
    apply Classical.byContradiction
    intro hn
    have := h3 y hy hj (by omega)
    rw [hal] at this; cases this
  exact ⟨this, T_mono (by omega)⟩
theorem T_pair {a b : List Fr} {i j y : Nat} (hi : i < a.length) (hy : y < b.length) (hj : j ≤ y) (hal : alk a[i] b[y] = true) : 1 + T a b (i + 1) (y + 1) ≤ T a b i j := by
  have h1 := T_hit hi hy hal
  have h2 := T_mono (a := a) (b := b) (i := i) hj
  omega
theorem prg_skip {a b : List Fr} {n i j : Nat} (hi : i < a.length) (h : ¬ (fstA a[i] b j < b.length ∧ 1 + T a b (i + 1) (fstA a[i] b j + 1) = T a b i j)) : prg a b (n + 1) i j = prg a b n (i + 1) j := by
  rw [prg, dif_pos hi]; simp only; rw [if_neg h]
theorem prg_take {a b : List Fr} {n i j : Nat} (hi : i < a.length) (h1 : fstA a[i] b j < b.length) (h2 : 1 + T a b (i + 1) (fstA a[i] b j + 1) = T a b i j) : prg a b (n + 1) i j = (i, fstA a[i] b j) :: prg a b n (i + 1) (fstA a[i] b j + 1) := by
  rw [prg, dif_pos hi]; simp only; rw [if_pos ⟨h1, h2⟩]
theorem prg_end {a b : List Fr} {n i j : Nat} (hi : a.length ≤ i) : prg a b n i j = [] := by
  cases n with
  | zero => rfl
  | succ n => rw [prg, dif_neg (by omega)]
theorem prg_zero {a b : List Fr} : ∀ {n i j : Nat}, T a b i j = 0 → prg a b n i j = []
  | 0, _, _, _ => rfl
  | n + 1, i, j, h => by
    by_cases hi : i < a.length
    · have hn : ¬ (fstA a[i] b j < b.length ∧ 1 + T a b (i + 1) (fstA a[i] b j + 1) = T a b i j) := by omega
      rw [prg_skip hi hn]
      exact prg_zero (by rw [T_skip hi hn]; exact h)
    · exact prg_end (by omega)
/-- The reference's search: where a pair stands first, it is the program's. -/
theorem prg_found {a b : List Fr} {n x k y t : Nat} (hx : x < a.length) (hy : y < b.length) (hk : k ≤ y) (ht : T a b x k = t) (hal : alk a[x] b[y] = true) (he : T a b (x + 1) (y + 1) + 1 = t)
    (hno : ∀ z (hz : z < b.length), k ≤ z → z < y → ¬ (alk a[x] b[z] = true ∧ T a b (x + 1) (z + 1) + 1 = t)) : prg a b (n + 1) x k = (x, y) :: prg a b n (x + 1) (y + 1) := by
  obtain ⟨h1, h2, h3, h4⟩ := fstA_prop a[x] b b.length k (by omega)
  obtain ⟨f1, f2⟩ := T_first hx hy hk hal
  have hf : fstA a[x] b k < b.length := by omega
  have hfa := h4 hf
  have hfp := T_pair hx hf (h2 (by omega)) hfa
  have heq : fstA a[x] b k = y := by
    apply Classical.byContradiction
    intro hn
    exact hno (fstA a[x] b k) hf (h2 (by omega)) (by omega) ⟨hfa, by omega⟩
  have := prg_take (n := n) hx hf (by omega)
  rw [heq] at this
  exact this
/-- Where a row has no such pair, it is left out. -/
theorem prg_pass {a b : List Fr} {n x k t : Nat} (hx : x < a.length) (ht : T a b x k = t)
    (hno : ∀ z (hz : z < b.length), k ≤ z → ¬ (alk a[x] b[z] = true ∧ T a b (x + 1) (z + 1) + 1 = t)) : prg a b (n + 1) x k = prg a b n (x + 1) k ∧ T a b (x + 1) k = t := by
  obtain ⟨h1, h2, h3, h4⟩ := fstA_prop a[x] b b.length k (by omega)
  have hn : ¬ (fstA a[x] b k < b.length ∧ 1 + T a b (x + 1) (fstA a[x] b k + 1) = T a b x k) := by
    rintro ⟨hf, he⟩
    by_cases hk : k ≤ b.length
    · exact hno _ hf (h2 hk) ⟨h4 hf, by omega⟩
    · rw [fstA_end (by omega)] at hf; omega
  exact ⟨prg_skip hx hn, by rw [T_skip hx hn, ht]⟩
theorem prg_length {a b : List Fr} : ∀ (n i j : Nat), (prg a b n i j).length ≤ n
  | 0, _, _ => Nat.le_refl 0
  | n + 1, i, j => by
    rw [prg]
    split
    · simp only
      split
      · rw [List.length_cons]; have := prg_length (a := a) (b := b) n (i + 1) (fstA a[i] b j + 1); omega
      · have := prg_length (a := a) (b := b) n (i + 1) j; omega
    · simp
/-- There are as many pairs as the table says. -/
theorem prg_count {a b : List Fr} : ∀ (n i j : Nat), a.length ≤ n + i → (prg a b n i j).length = T a b i j
  | 0, i, j, h => by rw [T_a a b j (by omega)]; rfl
  | n + 1, i, j, h => by
    by_cases hi : i < a.length
    · by_cases hc : fstA a[i] b j < b.length ∧ 1 + T a b (i + 1) (fstA a[i] b j + 1) = T a b i j
      · rw [prg_take hi hc.1 hc.2, List.length_cons, prg_count n (i + 1) _ (by omega)]; omega
      · rw [prg_skip hi hc, prg_count n (i + 1) j (by omega), T_skip hi hc]
    · rw [prg_end (by omega), T_a a b j (by omega)]; rfl
end Go.Proofs.YtkenckolkpgebaaGreatDoor

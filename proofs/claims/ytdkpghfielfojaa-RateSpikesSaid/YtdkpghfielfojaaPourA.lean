/- Buckets that fill, and how long one waits, as numbers. -/
namespace Go.Proofs.Ytdkpghfielfojaa

/-- What comes in two steps comes in one. -/
theorem pour_two {S A E has rest at0 at1 at2 : Int} (hE : 1 ≤ E) (hA : 1 ≤ A) (h1 : at1 ≤ at2) :
    min S (min S (has + (at1 - at0 + rest) / E * A) + (at2 - at1 + (at1 - at0 + rest) % E) / E * A) = min S (has + (at2 - at0 + rest) / E * A) ∧
    (at2 - at1 + (at1 - at0 + rest) % E) % E = (at2 - at0 + rest) % E := by
  have hd := Int.mul_ediv_add_emod (at1 - at0 + rest) E
  generalize (at1 - at0 + rest) % E = r at *
  generalize hk : (at1 - at0 + rest) / E = k at *
  have e : at2 - at0 + rest = (at2 - at1 + r) + E * k := by omega
  have e1 : (at2 - at0 + rest) / E = (at2 - at1 + r) / E + k := by rw [e, Int.add_mul_ediv_left _ _ (by omega)]
  have e2 : (at2 - at0 + rest) % E = (at2 - at1 + r) % E := by rw [e, Int.add_mul_emod_self_left]
  refine ⟨?_, e2.symm⟩
  rw [e1, Int.add_mul]
  have hm : 0 ≤ r := by
    have := Int.emod_nonneg (at1 - at0 + rest) (show E ≠ 0 by omega)
    have hx : (at1 - at0 + rest) % E = at1 - at0 + rest - E * k := by rw [← hk, Int.emod_def]
    omega
  have hq : 0 ≤ (at2 - at1 + r) / E * A := Int.mul_nonneg (Int.ediv_nonneg (by omega) (by omega)) (by omega)
  generalize (at2 - at1 + r) / E * A = u at *
  generalize k * A = v at *
  omega

/-- After the wait there is enough. -/
theorem wait_enough {S A E has rest n : Int} (hE : 1 ≤ E) (hA : 1 ≤ A) (hS : n ≤ S) :
    n ≤ min S (has + ((n - has + A - 1) / A * E - rest + rest) / E * A) := by
  have h1 : (n - has + A - 1) / A * E - rest + rest = (n - has + A - 1) / A * E := by omega
  rw [h1, Int.mul_ediv_cancel _ (by omega)]
  have hd := Int.mul_ediv_add_emod (n - has + A - 1) A
  have hm := Int.emod_lt_of_pos (n - has + A - 1) (show 0 < A by omega)
  rw [Int.mul_comm] at hd
  generalize (n - has + A - 1) / A * A = u at *
  omega
/-- A second earlier there is not. -/
theorem wait_early {S A E has rest n : Int} (hE : 1 ≤ E) (hA : 1 ≤ A) :
    min S (has + ((n - has + A - 1) / A * E - rest - 1 + rest) / E * A) < n := by
  have h1 : (n - has + A - 1) / A * E - rest - 1 + rest = (E - 1) + E * ((n - has + A - 1) / A - 1) := by
    rw [Int.mul_sub, Int.mul_comm E]; omega
  rw [h1, Int.add_mul_ediv_left _ _ (by omega), Int.ediv_eq_zero_of_lt (by omega) (by omega), Int.zero_add]
  have hd := Int.mul_ediv_add_emod (n - has + A - 1) A
  have hm := Int.emod_nonneg (n - has + A - 1) (show A ≠ 0 by omega)
  rw [Int.sub_mul, Int.one_mul]
  rw [Int.mul_comm] at hd
  generalize (n - has + A - 1) / A * A = u at *
  omega
/-- How long one waits. -/
theorem wait_pos {A E has rest n : Int} (hE : 1 ≤ E) (hA : 1 ≤ A) (hn : has < n) (hr : rest ≤ E - 1) : 1 ≤ (n - has + A - 1) / A * E - rest ∧ 1 ≤ (n - has + A - 1) / A := by
  have hk : 1 ≤ (n - has + A - 1) / A := by
    have := Int.le_ediv_of_mul_le (show 0 < A by omega) (show 1 * A ≤ n - has + A - 1 by omega)
    exact this
  have : 1 * E ≤ (n - has + A - 1) / A * E := Int.mul_le_mul_of_nonneg_right hk (by omega)
  generalize (n - has + A - 1) / A * E = u at *
  omega
/-- What is there already. -/
theorem pour_none {S A E has rest : Int} (at0 : Int) (h0 : has ≤ S) (hr : 0 ≤ rest) (hr2 : rest ≤ E - 1) : min S (has + (at0 - at0 + rest) / E * A) = has := by
  rw [Int.sub_self, Int.zero_add, Int.ediv_eq_zero_of_lt hr (by omega), Int.zero_mul]
  omega
/-- Products that fit. -/
theorem prod_le {a b c d : Int} (h0 : 0 ≤ a) (h1 : a ≤ c) (h2 : 0 ≤ b) (h3 : b ≤ d) : 0 ≤ a * b ∧ a * b ≤ c * d :=
  ⟨Int.mul_nonneg h0 h2, Int.mul_le_mul h1 h3 h2 (by omega)⟩
end Go.Proofs.Ytdkpghfielfojaa

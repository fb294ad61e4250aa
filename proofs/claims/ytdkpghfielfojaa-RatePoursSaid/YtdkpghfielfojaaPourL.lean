/- The law RatePours, walked. -/
import Derived.Test.YtdkpghfielfojaaPourF
import Derived.Test.YtdkpghfielfojaaPourG
namespace Go.Proofs.Ytdkpghfielfojaa
open Go.RowKit Go.Lib

theorem eqlZ (a b c : Int) (w : World) : (binOp .eql 46 (.agg #[.int .i64 a, .int .i64 b, .int .i64 c]) (.agg #[.int .i64 0, .int .i64 0, .int .i64 0])).run Try.prog w = .ok (.bool (decide (a = 0 ∧ b = 0 ∧ c = 0))) w := by
  have hS : Try.prog.underlying 46 = some (.struct (Try.prog.fieldsOf 46)) := by kernel_rfl
  have hp : Try.prog.stoodInHeld 46 = false := by kernel_rfl
  have u3 := Try.underlying3
  rw [run_eql_struct, show (10000 : Nat) = 9999 + 1 from rfl, run_equalIn_agg w 9999 46 _ _ hS hp]
  simp only [Program.fieldsOf, Try.underlying46]
  go_simp
  by_cases h1 : a = 0 <;> by_cases h2 : b = 0 <;> by_cases h3 : c = 0 <;> simp [h1, h2, h3]

/-- Pour in two steps: the second step's errors and level are those of one step. -/
theorem two_steps {S A E h t r n m : Int} (h1 : pourErr S A E h t r n = 0) (h2 : pourErr S A E (pourH S A E h t r n) n (pourR E t r n) m = 0) :
    pourErr S A E h t r m = 0 ∧ pourV S A E (pourH S A E h t r n) n (pourR E t r n) m = pourV S A E h t r m := by
  obtain ⟨k1, ⟨k2, k3⟩, k4⟩ := pour_ok h1
  obtain ⟨l1, ⟨l2, l3⟩, l4⟩ := pour_ok h2
  obtain ⟨⟨⟨s1, s2⟩, ⟨a1, a2⟩, ⟨e1, e2⟩⟩, ⟨q1, q2⟩, ⟨t1, t2⟩, ⟨r1, r2⟩⟩ := lvl_ok k1
  have h3 : pourErr S A E h t r m = 0 := by
    unfold pourErr
    rw [if_pos k1, if_pos (by unfold wi; exact decide_eq_true ⟨l2, l3⟩), if_neg (by omega)]
  refine ⟨h3, ?_⟩
  unfold pourV
  rw [if_pos h2, if_pos h3]
  obtain ⟨p1, p2⟩ := pour_two (S := S) (A := A) (has := h) (rest := r) (at0 := t) (at1 := n) (at2 := m) e1 a1 l4
  have e1 : pourH S A E (pourH S A E h t r n) n (pourR E t r n) m = pourH S A E h t r m := p1
  have e2 : pourR E n (pourR E t r n) m = pourR E t r m := p2
  rw [e1, e2]
theorem wait_ok {S A E h t r n : Int} (hw : waitErr S A E h t r n = 0) : lvlErr S A E h t r = 0 ∧ wi n 0 1000000000 = true ∧ n ≤ S ∧ waitV A E h r n ≤ 3155759999 - t := by
  unfold waitErr at hw
  split at hw
  · rename_i h1
    split at hw
    · rename_i h2
      split at hw
      · cases hw
      split at hw
      · cases hw
      exact ⟨h1, h2, by omega, by omega⟩
    · cases hw
  · rename_i h1; exact absurd hw h1
theorem waitV_nonneg {S A E h t r n : Int} (hl : lvlErr S A E h t r = 0) : 0 ≤ waitV A E h r n := by
  obtain ⟨⟨⟨s1, s2⟩, ⟨a1, a2⟩, ⟨e1, e2⟩⟩, ⟨q1, q2⟩, ⟨t1, t2⟩, ⟨r1, r2⟩⟩ := lvl_ok hl
  unfold waitV
  split
  · exact Int.le_refl _
  · have := (wait_pos (n := n) (has := h) (rest := r) e1 a1 (by omega) r2).1
    omega
/-- After the wait Take takes. -/
theorem wait_takes {S A E h t r n : Int} (hw : waitErr S A E h t r n = 0) : takeErr S A E h t r (t + waitV A E h r n) n = 0 ∧ takeIs S A E h t r (t + waitV A E h r n) n = true := by
  obtain ⟨k1, k2, k3, k4⟩ := wait_ok hw
  have hv := waitV_nonneg (n := n) k1
  obtain ⟨⟨⟨s1, s2⟩, ⟨a1, a2⟩, ⟨e1, e2⟩⟩, ⟨q1, q2⟩, ⟨t1, t2⟩, ⟨r1, r2⟩⟩ := lvl_ok k1
  have hp : pourErr S A E h t r (t + waitV A E h r n) = 0 := by
    unfold pourErr
    rw [if_pos k1, if_pos (by unfold wi; exact decide_eq_true ⟨by omega, by omega⟩), if_neg (by omega)]
  have he : takeErr S A E h t r (t + waitV A E h r n) n = 0 := by unfold takeErr; rw [if_pos hp, if_pos k2]
  refine ⟨he, ?_⟩
  unfold takeIs
  rw [if_pos he]
  refine decide_eq_true ?_
  unfold pourH waitV
  split
  · have := pour_none (S := S) (A := A) (E := E) (has := h) (rest := r) t q2 r1 r2
    rw [show t + 0 - t + r = t - t + r by omega, this]; omega
  · have := wait_enough (S := S) (A := A) (E := E) (has := h) (rest := r) (n := n) e1 a1 k3
    rwa [show t + ((n - h + A - 1) / A * E - r) - t + r = (n - h + A - 1) / A * E - r + r by omega]
/-- A second earlier it does not. -/
theorem early_not {S A E h t r n : Int} (hw : waitErr S A E h t r n = 0) (h0 : 0 < waitV A E h r n) : takeErr S A E h t r (t + waitV A E h r n - 1) n = 0 ∧ takeIs S A E h t r (t + waitV A E h r n - 1) n = false := by
  obtain ⟨k1, k2, k3, k4⟩ := wait_ok hw
  obtain ⟨⟨⟨s1, s2⟩, ⟨a1, a2⟩, ⟨e1, e2⟩⟩, ⟨q1, q2⟩, ⟨t1, t2⟩, ⟨r1, r2⟩⟩ := lvl_ok k1
  have hp : pourErr S A E h t r (t + waitV A E h r n - 1) = 0 := by
    unfold pourErr
    rw [if_pos k1, if_pos (by unfold wi; exact decide_eq_true ⟨by omega, by omega⟩), if_neg (by omega)]
  have he : takeErr S A E h t r (t + waitV A E h r n - 1) n = 0 := by unfold takeErr; rw [if_pos hp, if_pos k2]
  refine ⟨he, ?_⟩
  unfold takeIs
  rw [if_pos he]
  refine decide_eq_false ?_
  unfold pourH
  unfold waitV at h0 ⊢
  split at h0
  · omega
  · rename_i hne
    rw [if_neg hne]
    have := wait_early (S := S) (A := A) (E := E) (has := h) (rest := r) (n := n) e1 a1
    rw [show t + ((n - h + A - 1) / A * E - r) - 1 - t + r = (n - h + A - 1) / A * E - r - 1 + r by omega]
    omega
end Go.Proofs.Ytdkpghfielfojaa

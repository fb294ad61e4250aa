/- The law StackUnfolds, walked. -/
import Derived.Test.YtihnpbhcddapdaaUnfolded
import Derived.Test.YtihnpbhcddapdaaEqual
namespace Go.Proofs.Ytihnpbhcddapdaa
open Go.RowKit

set_option maxHeartbeats 1000000 in
set_option maxRecDepth 100000 in
theorem lawUnfolds_A (v1 v2 : Value) (l : List Fr) (rs : List Rn) (w : World) (h1 : SlF w v1 l) (h2 : SlR w v2 rs) (he : frsErr l ≠ 0) :
    Calls Try.prog 5 #[v1, v2] w fun e w' => e = .returned (.bool true) ∧ Below w.heap.size w w' := by
  have hu : unfErr l rs = frsErr l := by unfold unfErr; rw [if_pos he]
  have HB := Lib.hid (unfold_bad v1 v2 l rs w h1 h2 (by rw [hu]; exact he))
  rw [hu] at HB
  have hq : (frsErr l != 0) = true := by simpa using he
  clear hu he
  go_enter Try.func5, Try.ntmps5
  go_wp2_with (first
    | (go_at_call 26; refine HB.out.mono ?_; rintro e w1 ⟨rfl, hb1⟩)
    | (go_at_call 21; refine (framesError_any _ l _ (h1.below (Nat.le_refl _) (by assumption))).mono ?_; rintro e w2 ⟨rfl, hb2⟩))
  go_ret
  exact ⟨rfl, below_call hb1 hb1.size hb2⟩

set_option maxHeartbeats 1000000 in
set_option maxRecDepth 100000 in
theorem lawUnfolds_B (v1 v2 : Value) (l : List Fr) (rs : List Rn) (w : World) (h1 : SlF w v1 l) (h2 : SlR w v2 rs) (he : frsErr l = 0) (hr : runsErr rs l.length ≠ 0) :
    Calls Try.prog 5 #[v1, v2] w fun e w' => e = .returned (.bool true) ∧ Below w.heap.size w w' := by
  have hu : unfErr l rs = runsErr rs l.length := by unfold unfErr; rw [if_neg (by omega)]
  have HB := Lib.hid (unfold_bad v1 v2 l rs w h1 h2 (by rw [hu]; exact hr))
  rw [hu] at HB
  have hl200 := frsErr_zero he
  have HF := Lib.hid he
  have HR := Lib.hid hr
  clear hu he hr
  go_enter Try.func5, Try.ntmps5
  go_wp2_with (first
    | (go_at_call 26; refine HB.out.mono ?_; rintro e w1 ⟨rfl, hb1⟩)
    | (go_at_call 21; refine (framesError_any _ l _ (h1.below (Nat.le_refl _) (by assumption))).mono ?_; rintro e w2 ⟨rfl, hb2⟩; rw [HF.out])
    | (go_at_call 27; refine (unfolded_any _ _ l rs _ ((h1.below (Nat.le_refl _) hb1).below (Nat.le_refl _) hb2) ((h2.below (Nat.le_refl _) hb1).below (Nat.le_refl _) hb2) hl200).mono ?_; rintro e w3 ⟨v, rfl, hv, _, hb3⟩; obtain rfl := hv HR.out)
    | (go_at_call 25; refine (equal_none _ _ _ _ _).mono ?_; rintro e w4 ⟨rfl, hb4⟩))
  go_ret
  exact ⟨rfl, below_call (below_call (below_call hb1 hb1.size hb2) (by have := hb1.size; have := hb2.size; omega) hb3) (by have := hb1.size; have := hb2.size; have := hb3.size; omega) hb4⟩

set_option maxHeartbeats 1000000 in
set_option maxRecDepth 100000 in
theorem lawUnfolds_C (v1 v2 : Value) (l : List Fr) (rs : List Rn) (w : World) (h1 : SlF w v1 l) (h2 : SlR w v2 rs) (he : frsErr l = 0) (hr : runsErr rs l.length = 0) :
    Calls Try.prog 5 #[v1, v2] w fun e w' => e = .returned (.bool true) ∧ Below w.heap.size w w' := by
  have hu : unfErr l rs = 0 := by unfold unfErr; rw [if_neg (by omega)]; exact hr
  have HB := Lib.hid (unfold_good v1 v2 l rs w h1 h2 hu)
  have hl200 := frsErr_zero he
  have HF := Lib.hid he
  have HR := Lib.hid hr
  have hfit : ∀ x ∈ unf l rs, x.fit := fun x hx => by obtain ⟨_, _, _, _, _, hf, _⟩ := h1; exact hf x (mem_unf hx)
  clear hu he hr
  go_enter Try.func5, Try.ntmps5
  go_wp2_with (first
    | (go_at_call 26; refine HB.out.mono ?_; rintro e w1 ⟨v, rfl, ho, hb1⟩)
    | (go_at_call 21; refine (framesError_any _ l _ (h1.below (Nat.le_refl _) (by assumption))).mono ?_; rintro e w2 ⟨rfl, hb2⟩; rw [HF.out])
    | (go_at_call 27; refine (unfolded_any _ _ l rs _ ((h1.below (Nat.le_refl _) hb1).below (Nat.le_refl _) hb2) ((h2.below (Nat.le_refl _) hb1).below (Nat.le_refl _) hb2) hl200).mono ?_; rintro e w3 ⟨v', rfl, _, ho', hb3⟩; rw [HR.out])
    | (go_at_call 25; refine (equal_any _ _ (unf l rs) (unf l rs) _ (((slF_of_owns ho hfit).below (Nat.le_refl _) hb2).below (Nat.le_refl _) hb3) (slF_of_owns (ho' HR.out) hfit)).mono ?_; rintro e w4 ⟨rfl, hb4⟩))
  go_ret
  exact ⟨by simp, below_call (below_call (below_call hb1 hb1.size hb2) (by have := hb1.size; have := hb2.size; omega) hb3) (by have := hb1.size; have := hb2.size; have := hb3.size; omega) hb4⟩

theorem lawUnfolds (v1 v2 : Value) (l : List Fr) (rs : List Rn) (w : World) (h1 : SlF w v1 l) (h2 : SlR w v2 rs) :
    Calls Try.prog 5 #[v1, v2] w fun e w' => e = .returned (.bool true) ∧ Below w.heap.size w w' := by
  by_cases he : frsErr l = 0
  · by_cases hr : runsErr rs l.length = 0
    · exact lawUnfolds_C v1 v2 l rs w h1 h2 he hr
    · exact lawUnfolds_B v1 v2 l rs w h1 h2 he hr
  · exact lawUnfolds_A v1 v2 l rs w h1 h2 he
end Go.Proofs.Ytihnpbhcddapdaa

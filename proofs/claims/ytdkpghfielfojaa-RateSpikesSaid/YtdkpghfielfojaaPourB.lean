/- The small checks of package rate: what they answer. -/
import Derived.Test.YtdkpghfielfojaaChecked
import Derived.Test.YtdkpghfielfojaaPourA
import Derived.WalkKit
import Derived.Lib.Hide
import Derived.BigQuiet
namespace Go.Proofs.Ytdkpghfielfojaa
open Go.RowKit Go.Lib

theorem ret_bool {a b : Bool} (h : a = b) : Ending.returned (.bool a) = .returned (.bool b) := by rw [h]
theorem ret_int {a b : Int} (h : a = b) : Ending.returned (.int .i64 a) = .returned (.int .i64 b) := by rw [h]
def wi (n a b : Int) : Bool := decide (a ≤ n ∧ n ≤ b)
set_option maxHeartbeats 1000000 in
theorem within_any (n a b : Int) (w : World) : Calls Try.prog 22 #[.int .i64 n, .int .i64 a, .int .i64 b] w fun e w' => e = .returned (.bool (wi n a b)) ∧ w' = w := by
  go_enter Try.func22, Try.ntmps22
  go_wp2_with fail
  all_goals (go_ret; refine ⟨ret_bool ?_, rfl⟩; unfold wi; simp; try omega)
set_option maxHeartbeats 1000000 in
theorem isMoment_any (n : Int) (w : World) : Calls Try.prog 46 #[.int .i64 n] w fun e w' => e = .returned (.bool (wi n 0 3155759999)) ∧ w' = w := by
  have HW := Lib.hid (fun W => within_any n 0 3155759999 W)
  go_enter Try.func46, Try.ntmps46
  go_wp2_with (go_at_call 22; refine (HW.out _).mono ?_; rintro e w1 ⟨rfl, rfl⟩)
  go_ret
  exact ⟨rfl, rfl⟩
set_option maxHeartbeats 1000000 in
theorem limited_any (n m : Int) (w : World) : Calls Try.prog 48 #[.int .i64 n, .int .i64 m] w fun e w' => e = .returned (.int .i64 (max 0 (min n m))) ∧ w' = w := by
  go_enter Try.func48, Try.ntmps48
  go_wp2_with fail
  all_goals
    rename_i hq
    go_ret
    exact ⟨ret_int (by split at hq <;> omega), rfl⟩

def bktErr (S A E : Int) : Int := if wi S 1 1000000000 && (wi A 1 1000000000 && wi E 1 86400) then 0 else 2
def bkV (S A E : Int) : Value := .agg #[.int .i64 S, .int .i64 A, .int .i64 E]
set_option maxHeartbeats 1000000 in
set_option maxRecDepth 100000 in
theorem CheckBucket_any (S A E : Int) (w : World) : Calls Try.prog 47 #[.agg #[.int .i64 S, .int .i64 A, .int .i64 E]] w fun e w' => e = .returned (.int .i64 (bktErr S A E)) ∧ Below w.heap.size w w' := by
  have HS := Lib.hid (fun W => within_any S 1 1000000000 W)
  have HA := Lib.hid (fun W => within_any A 1 1000000000 W)
  have HE := Lib.hid (fun W => within_any E 1 86400 W)
  unfold bktErr
  generalize wi S 1 1000000000 = a at *
  generalize wi A 1 1000000000 = b at *
  generalize wi E 1 86400 = c at *
  cases a
  · go_enter Try.func47, Try.ntmps47
    go_wp2_with (go_at_call 22; (with_reducible refine (HS.out _).mono ?_); rintro e w1 ⟨rfl, rfl⟩)
    go_ret
    exact ⟨rfl, (Below.refl _ _).alloc (Nat.le_refl _) _⟩
  cases b
  · go_enter Try.func47, Try.ntmps47
    go_wp2_with (first | (go_at_call 22; (with_reducible refine (HS.out _).mono ?_); rintro e w1 ⟨rfl, rfl⟩) | (go_at_call 22; (with_reducible refine (HA.out _).mono ?_); rintro e w2 ⟨rfl, rfl⟩))
    go_ret
    exact ⟨rfl, (Below.refl _ _).alloc (Nat.le_refl _) _⟩
  cases c
  all_goals
    go_enter Try.func47, Try.ntmps47
    go_wp2_with (first | (go_at_call 22; (with_reducible refine (HS.out _).mono ?_); rintro e w1 ⟨rfl, rfl⟩) | (go_at_call 22; (with_reducible refine (HA.out _).mono ?_); rintro e w2 ⟨rfl, rfl⟩) | (go_at_call 22; (with_reducible refine (HE.out _).mono ?_); rintro e w3 ⟨rfl, rfl⟩))
    go_ret
    exact ⟨rfl, (Below.refl _ _).alloc (Nat.le_refl _) _⟩
end Go.Proofs.Ytdkpghfielfojaa

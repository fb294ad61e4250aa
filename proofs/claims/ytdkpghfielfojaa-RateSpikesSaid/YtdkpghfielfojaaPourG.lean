/- The package is awake. -/
import Derived.Test.YtdkpghfielfojaaPourB
import Derived.Test.YtdkpghfielfojaaPourH
namespace Go.Proofs.Ytdkpghfielfojaa
open Go.RowKit Go.Lib

set_option maxHeartbeats 1000000 in
set_option maxRecDepth 100000 in
theorem checkOne (b : Nat) (w : World) (h : w.cell? ⟨b, 0, none⟩ = some (.int .i64 1000000)) : Calls Try.prog 25 #[.slice (some ⟨b, 0, none⟩) 1 1, .int .i64 1, .int .i64 1000000] w fun e w' => e = .returned (.int .i64 0) ∧ w' = w := by
  have HW := Lib.hid (fun W => within_any 1000000 1 1000000 W)
  rw [show wi 1000000 1 1000000 = true from rfl] at HW
  go_enter Try.func25, Try.ntmps25
  go_wp2_with fail
  go_loopw [14] (fun v wr => ∃ k : Nat, v = .int .i64 k ∧ k ≤ 1 ∧ wr = w) (fun v _ => 1 - (RowKit.intOf v).toNat)
  case atStart => exact ⟨0, rfl, by omega, rfl⟩
  case round =>
    obtain ⟨k, rfl, hk, rfl⟩ := hrel
    obtain rfl | rfl : k = 0 ∨ k = 1 := by omega
    · go_wp2_with (go_at_call 22; (with_reducible refine (HW.out _).mono ?_); rintro e w1 ⟨rfl, rfl⟩)
      exact ⟨⟨1, by go_num, by omega, trivial⟩, by simp [RowKit.intOf]⟩
    · go_wp2_with fail
      go_ret
      exact ⟨rfl, rfl⟩
set_option maxHeartbeats 1000000 in
theorem standsOne (w : World) : Calls Try.prog 26 #[.int .i64 1000000] w fun e w' => e = .returned (.int .i64 1000000) ∧ w' = w := by
  go_enter Try.func26, Try.ntmps26
  go_wp2_with fail
  go_ret
  exact ⟨rfl, rfl⟩
set_option maxHeartbeats 1000000 in
set_option maxRecDepth 100000 in
theorem StandsOne (b : Nat) (w : World) (h : w.cell? ⟨b, 0, none⟩ = some (.int .i64 1000000)) : Calls Try.prog 8 #[.slice (some ⟨b, 0, none⟩) 1 1] w fun e w' => e = .returned (.tuple #[.int .i64 1, .int .i64 0]) ∧ w' = w := by
  have HC := Lib.hid (fun W h => checkOne b W h)
  have HS := Lib.hid (fun W => standsOne W)
  go_enter Try.func8, Try.ntmps8
  go_wp2_with (go_at_call 25; (with_reducible refine (HC.out _ h).mono ?_); rintro e w1 ⟨rfl, rfl⟩)
  go_loopw [5, 15] (fun u v wr => ∃ k : Nat, v = .int .i64 k ∧ k ≤ 1 ∧ u = .int .i64 (k * 1000000) ∧ wr = w1) (fun _ v _ => 1 - (RowKit.intOf v).toNat)
  case atStart => exact ⟨0, rfl, by omega, rfl, rfl⟩
  case round =>
    obtain ⟨k, rfl, hk, rfl, rfl⟩ := hrel
    obtain rfl | rfl : k = 0 ∨ k = 1 := by omega
    · go_wp2_with (go_at_call 26; (with_reducible refine (HS.out _).mono ?_); rintro e w1 ⟨rfl, rfl⟩)
      exact ⟨⟨1, by go_num, by omega, by go_num, trivial⟩, by simp [RowKit.intOf]⟩
    · go_wp2_with fail
      go_ret2
      exact ⟨rfl, rfl⟩
set_option maxHeartbeats 1000000 in
set_option maxRecDepth 100000 in
theorem awakeRate_any (w : World) : Calls Try.prog 16 #[] w fun e w' => e = .returned (.bool true) ∧ Below w.heap.size w w' := by
  have HS := Lib.hid (fun b W h => StandsOne b W h)
  go_enter Try.func16, Try.ntmps16
  go_wp2_with (go_at_call 8; (with_reducible refine (HS.out _ _ (by go_simp)).mono ?_); rintro e w1 ⟨rfl, rfl⟩)
  go_ret
  exact ⟨rfl, (Below.refl _ _).alloc (Nat.le_refl _) _⟩
end Go.Proofs.Ytdkpghfielfojaa

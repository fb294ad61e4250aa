/- The leaves: what the checks of bytes answer. Conditions: a string is no longer than the largest int. -/
import Derived.Test.YtmoofdcoodaaiaaGreatDoorChecked
import Derived.Test.YtmoofdcoodaaiaaGreatDoorPlain
import Derived.WalkKit
import Derived.Outline
import Derived.Lib.Strings
import Derived.Lib.Bytealg
import Derived.Lib.Hide
import Derived.BigQuiet
import Derived.Deep.QuietTactic
namespace Go.Proofs.YtmoofdcoodaaiaaGreatDoor
open Go.RowKit

set_option maxHeartbeats 1000000 in
set_option maxRecDepth 100000 in
theorem ixLite (s : ByteArray) (c : Int) (w : World) :
    Calls Tryz.prog 86 #[.string s, .int .u8 c] w fun e w' => e = .returned (.int .i64 (Lib.indexByte s.data.toList c.toNat.toUInt8)) ∧ w = w' := by
  go_enter Tryz.func86, Tryz.ntmps86
  go_wp2
  rw [run_callFunc_extern Tryz.func100 (by kernel_rfl) (by kernel_rfl) (by kernel_rfl) (e := Extern.BytealgIndexByte.indexByte) (by kernel_rfl), Lib.run_indexByteString]
  simp only [Result.andThen]
  rw [Oper.upon_value]
  go_wp2
  go_ret
  exact ⟨rfl, rfl⟩

theorem ix (s : ByteArray) (c : Int) (w : World) :
    Calls Tryz.prog 67 #[.string s, .int .u8 c] w fun e w' => e = .returned (.int .i64 (Lib.indexByte s.data.toList c.toNat.toUInt8)) ∧ w = w' := by
  go_enter Tryz.func67, Tryz.ntmps67
  go_wp2_with (go_at_call 86; refine (ixLite _ _ _).mono ?_; rintro e w' ⟨rfl, rfl⟩)
  go_ret
  exact ⟨rfl, rfl⟩

theorem ixb (s : ByteArray) (c : UInt8) (w : World) :
    Calls Tryz.prog 67 #[.string s, .int .u8 (c.toNat : Int)] w fun e w' => e = .returned (.int .i64 (Lib.indexByte s.data.toList c)) ∧ w = w' :=
  (ix s c.toNat w).mono fun e w' ⟨h, h'⟩ => ⟨by rw [h]; simp, h'⟩

theorem visible_any (s t : ByteArray) (w : World) (hs : s.size ≤ maxLen) :
    Calls Tryz.prog 46 #[.string s, .string t] w fun e w' => e = .returned (.bool (okB 33 t.data.toList s.data.toList)) ∧ w = w' := by
  unfold maxLen at hs
  go_enter Tryz.func46, Tryz.ntmps46
  go_wp2_with fail
  go_loop [8] (fun i => ∃ k : Nat, k ≤ s.size ∧ (s.data.toList.take k).all (okC 33 t.data.toList) = true ∧ i = .int .i64 k) (fun i => s.size - (intOf i).toNat)
  case atStart => exact ⟨0, Nat.zero_le _, rfl, rfl⟩
  case round =>
    obtain ⟨k, hk, hall, rfl⟩ := hrel
    have HA := Lib.hid hall
    clear hall
    by_cases hlt : k < s.size
    · go_wp2_with (go_at_call 67; refine (ixb _ _ _).mono ?_; rintro e w' ⟨rfl, rfl⟩)
      case roundEnd => exact ⟨⟨k + 1, by omega, okB_step hlt HA.out (by omega) (by omega) (by omega), by go_num⟩, by simp [intOf]; omega⟩
      all_goals (go_ret; exact ⟨ret_bool (okB_not hlt (by omega)).symm, rfl⟩)
    · go_wp2_with fail
      go_ret
      exact ⟨ret_bool (okB_end hlt HA.out).symm, rfl⟩

theorem bytesIn_any (s t : ByteArray) (w : World) (hs : s.size ≤ maxLen) :
    Calls Tryz.prog 39 #[.string s, .int .u8 33, .string t] w fun e w' => e = .returned (.bool (okB 33 t.data.toList s.data.toList)) ∧ w = w' := by
  unfold maxLen at hs
  go_enter Tryz.func39, Tryz.ntmps39
  go_wp2_with fail
  go_loop [10] (fun i => ∃ k : Nat, k ≤ s.size ∧ (s.data.toList.take k).all (okC 33 t.data.toList) = true ∧ i = .int .i64 k) (fun i => s.size - (intOf i).toNat)
  case atStart => exact ⟨0, Nat.zero_le _, rfl, rfl⟩
  case round =>
    obtain ⟨k, hk, hall, rfl⟩ := hrel
    have HA := Lib.hid hall
    clear hall
    by_cases hlt : k < s.size
    · go_wp2_with (go_at_call 67; refine (ixb _ _ _).mono ?_; rintro e w' ⟨rfl, rfl⟩)
      case roundEnd => exact ⟨⟨k + 1, by omega, okB_step hlt HA.out (by omega) (by omega) (by omega), by go_num⟩, by simp [intOf]; omega⟩
      all_goals (go_ret; exact ⟨ret_bool (okB_not hlt (by omega)).symm, rfl⟩)
    · go_wp2_with fail
      go_ret
      exact ⟨ret_bool (okB_end hlt HA.out).symm, rfl⟩

theorem in_any (n a b : Int) (w : World) :
    Calls Tryz.prog 87 #[.int .i64 n, .int .i64 a, .int .i64 b] w fun e w' => e = .returned (.bool (decide (a ≤ n) && decide (n ≤ b))) ∧ w = w' := by
  go_enter Tryz.func87, Tryz.ntmps87
  go_wp2_with fail
  all_goals (go_ret; exact ⟨ret_bool (by simp; omega), rfl⟩)

theorem visF (s : ByteArray) (w : World) (hs : s.size ≤ maxLen) :
    Calls Tryz.prog 46 #[.string s, .string ⟨#[40, 41, 58, 44]⟩] w fun e w' => e = .returned (.bool (okF s)) ∧ w = w' := visible_any s _ w hs
theorem visK (s : ByteArray) (w : World) (hs : s.size ≤ maxLen) :
    Calls Tryz.prog 46 #[.string s, .string ⟨#[58]⟩] w fun e w' => e = .returned (.bool (okK s)) ∧ w = w' := visible_any s _ w hs
theorem bytF (s : ByteArray) (w : World) (hs : s.size ≤ maxLen) :
    Calls Tryz.prog 39 #[.string s, .int .u8 33, .string ⟨#[40, 41, 58, 44]⟩] w fun e w' => e = .returned (.bool (okF s)) ∧ w = w' := bytesIn_any s _ w hs
theorem bytK (s : ByteArray) (w : World) (hs : s.size ≤ maxLen) :
    Calls Tryz.prog 39 #[.string s, .int .u8 33, .string ⟨#[58]⟩] w fun e w' => e = .returned (.bool (okK s)) ∧ w = w' := bytesIn_any s _ w hs
end Go.Proofs.YtmoofdcoodaaiaaGreatDoor

/- find over strings, at a reader's skip. -/
import Derived.Test.YtooilpblbkgloaaGreatDoorReadA
import Derived.Test.YtooilpblbkgloaaGreatDoorRuleD
namespace Go.Proofs.YtooilpblbkgloaaGreatDoor
open Go.RowKit Go.Lib

set_option maxHeartbeats 1000000 in
set_option maxRecDepth 100000 in
theorem find_hit (B b n i : Nat) (ws : Nat → List UInt8) (l : List UInt8) (w : World) (hn : (n : Int) ≤ 9223372036854775807) (hi : i < n)
    (hw : ∀ j, j < n → w.cell? ⟨B, j, none⟩ = some (.string (bs (ws j)))) (hR : RdC w b (bs (ws i ++ l))) (hm : ∀ j, j < i → Lib.hasPrefix (ws i ++ l) (ws j) = false) :
    Calls Tryz.prog 45 #[.slice (some ⟨B, 0, none⟩) n n, .func (.func 25) #[.pointer (some ⟨b, 0, none⟩)] #[]] w fun e w' => e = .returned (.tuple #[.int .i64 i, .bool true]) ∧ RdC w' b (bs l) ∧ w.grownBy w' (some b) := by
  have HW := Lib.hid hw
  have HR := Lib.hid hR
  have HM := Lib.hid hm
  clear hw hR hm
  go_enter Tryz.func45, Tryz.ntmps45
  go_wp2_with fail
  go_loop [10] (fun v => ∃ k : Nat, v = .int .i64 k ∧ k ≤ i) (fun v => i + 1 - (RowKit.intOf v).toNat)
  case atStart => exact ⟨0, rfl, Nat.zero_le _⟩
  case round =>
    obtain ⟨k, rfl, hk⟩ := hrel
    have hwk := HW.out k (by omega)
    have hkn : k < n := by omega
    by_cases hlt : k < i
    · have HP := Lib.hid (HM.out k hlt)
      go_wp2_with (go_at_call 25; refine (skip_miss b (bs (ws k)) _ w HR.out HP.out).mono ?_; rintro e w' ⟨rfl, rfl⟩)
      exact ⟨⟨k + 1, rfl, by omega⟩, by simp [RowKit.intOf]; omega⟩
    · obtain rfl : k = i := by omega
      go_wp2_with (go_at_call 25; refine (skip_hit b (ws k) l w HR.out).mono ?_; rintro e w' ⟨rfl, hR', hg'⟩)
      go_ret2
      exact ⟨rfl, hR', hg'⟩
end Go.Proofs.YtooilpblbkgloaaGreatDoor

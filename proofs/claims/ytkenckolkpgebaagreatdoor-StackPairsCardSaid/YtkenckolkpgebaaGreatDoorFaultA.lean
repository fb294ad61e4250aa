/- What the two checks of a fault answer. -/
import Derived.Test.YtkenckolkpgebaaGreatDoorFaultPlain
import Derived.Test.YtkenckolkpgebaaGreatDoorFrames
namespace Go.Proofs.YtkenckolkpgebaaGreatDoor
open Go.RowKit

set_option maxHeartbeats 1000000 in
set_option maxRecDepth 100000 in
theorem printable_any (s : ByteArray) (w : World) (hs : s.size ≤ maxLen) :
    Calls Tryz.prog 32 #[.string s] w fun e w' => e = .returned (.bool (okT s)) ∧ w = w' := by
  unfold maxLen at hs
  go_enter Tryz.func32, Tryz.ntmps32
  go_wp2_with fail
  go_loop [6] (fun i => ∃ k : Nat, k ≤ s.size ∧ (s.data.toList.take k).all okTC = true ∧ i = .int .i64 k) (fun i => s.size - (intOf i).toNat)
  case atStart => exact ⟨0, Nat.zero_le _, rfl, rfl⟩
  case round =>
    obtain ⟨k, hk, hall, rfl⟩ := hrel
    have HA := Lib.hid hall
    clear hall
    by_cases hlt : k < s.size
    · go_wp2_with fail
      case roundEnd =>
        have hq : 32 ≤ (s[k].toNat : Int) ∧ ((s[k].toNat : Int) == 127) = false := by assumption
        have hq2 : ¬ (s[k].toNat : Int) = 127 := by simpa using hq.2
        exact ⟨⟨k + 1, by omega, okT_step hlt HA.out hq.1 hq2, by go_num⟩, by simp [intOf]; omega⟩
      · have hq : (s[k].toNat : Int) < 32 ∨ ((s[k].toNat : Int) == 127) = true := by assumption
        go_ret; exact ⟨ret_bool (okT_not hlt (by simpa using hq)).symm, rfl⟩
      · go_ret; exact ⟨ret_bool (okT_not hlt (by omega)).symm, rfl⟩
    · go_wp2_with fail
      go_ret
      exact ⟨ret_bool (okT_end hlt HA.out).symm, rfl⟩

set_option maxHeartbeats 1000000 in
set_option maxRecDepth 100000 in
theorem checkFault_v (x : Fa) (w : World) (h : x.ok w) :
    Calls Tryz.prog 19 #[.agg #[.string x.kind, .string x.text, x.fv]] w fun e w' => e = .returned (.int .i64 x.err) ∧ Below w.heap.size w w' := by
  obtain ⟨k, t, fv, fr⟩ := x
  obtain ⟨h1, h2, h3⟩ := h
  simp only at h1 h2 h3 ⊢
  have h3' : SlF (w.alloc (.cells #[.string k, .string t, fv] 37)) fv fr := h3.below (Nat.le_refl _) ((Below.refl _ _).alloc (Nat.le_refl _) _)
  have HE := Lib.hid (show (⟨k, t, fv, fr⟩ : Fa).err = faErr k t fr from rfl)
  go_enter Tryz.func19, Tryz.ntmps19
  go_wp2_with (first
    | (go_at_call 31; refine (visK _ _ h1).mono ?_; rintro e w' ⟨rfl, rfl⟩)
    | (go_at_call 32; refine (printable_any _ _ h2).mono ?_; rintro e w' ⟨rfl, rfl⟩)
    | (go_at_call 17; refine (checkFrames_any _ fr _ h3').mono ?_; rintro e w' ⟨rfl, hb1⟩))
  all_goals (go_ret; refine ⟨ret_int ?_, by first | exact below_a1 (Below.refl _ _) (Nat.le_refl _) (by assumption) | exact (Below.refl _ _).alloc (Nat.le_refl _) _⟩; rw [HE.out])
  all_goals (try simp only [emp, Bool.not_eq_true', Bool.not_eq_false', decide_eq_true_eq, decide_eq_false_iff_not] at *)
  all_goals (clear HE; unfold faErr)
  all_goals (repeat' split)
  all_goals first | rfl | omega | simp_all

end Go.Proofs.YtkenckolkpgebaaGreatDoor

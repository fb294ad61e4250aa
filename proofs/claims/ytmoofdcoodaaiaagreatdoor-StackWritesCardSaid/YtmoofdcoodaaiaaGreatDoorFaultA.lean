/- What the two checks of a fault answer. -/
import Derived.Test.YtmoofdcoodaaiaaGreatDoorFaultPlain
import Derived.Test.YtmoofdcoodaaiaaGreatDoorFrames
namespace Go.Proofs.YtmoofdcoodaaiaaGreatDoor
open Go.RowKit

set_option maxHeartbeats 1000000 in
set_option maxRecDepth 100000 in
theorem printable_any (s : ByteArray) (w : World) (hs : s.size ≤ maxLen) :
    Calls Tryz.prog 47 #[.string s] w fun e w' => e = .returned (.bool (okT s)) ∧ w = w' := by
  unfold maxLen at hs
  go_enter Tryz.func47, Tryz.ntmps47
  go_wp2_with fail
  go_loop [6] (fun i => ∃ k : Nat, k ≤ s.size ∧ (s.data.toList.take k).all okTC = true ∧ i = .int .i64 k) (fun i => s.size - (intOf i).toNat)
  case atStart => exact ⟨0, Nat.zero_le _, rfl, rfl⟩
  case round =>
    obtain ⟨k, hk, hall, rfl⟩ := hrel
    have HA := Lib.hid hall
    clear hall
    by_cases hlt : k < s.size
    · go_wp2_with fail
      case roundEnd =>
        have hq : 32 ≤ (s[k].toNat : Int) ∧ ((s[k].toNat : Int) == 127) = false := by assumption
        have hq2 : ¬ (s[k].toNat : Int) = 127 := by simpa using hq.2
        exact ⟨⟨k + 1, by omega, okT_step hlt HA.out hq.1 hq2, by go_num⟩, by simp [intOf]; omega⟩
      · have hq : (s[k].toNat : Int) < 32 ∨ ((s[k].toNat : Int) == 127) = true := by assumption
        go_ret; exact ⟨ret_bool (okT_not hlt (by simpa using hq)).symm, rfl⟩
      · go_ret; exact ⟨ret_bool (okT_not hlt (by omega)).symm, rfl⟩
    · go_wp2_with fail
      go_ret
      exact ⟨ret_bool (okT_end hlt HA.out).symm, rfl⟩

set_option maxHeartbeats 1000000 in
set_option maxRecDepth 100000 in
theorem checkFault_v (x : Fa) (w : World) (h : x.ok w) :
    Calls Tryz.prog 29 #[.agg #[.string x.kind, .string x.text, x.fv]] w fun e w' => e = .returned (.int .i64 x.err) ∧ Below w.heap.size w w' := by
  obtain ⟨k, t, fv, fr⟩ := x
  obtain ⟨h1, h2, h3⟩ := h
  simp only at h1 h2 h3 ⊢
  have h3' : SlF (w.alloc (.cells #[.string k, .string t, fv] 44)) fv fr := h3.below (Nat.le_refl _) ((Below.refl _ _).alloc (Nat.le_refl _) _)
  have HE := Lib.hid (show (⟨k, t, fv, fr⟩ : Fa).err = faErr k t fr from rfl)
  go_enter Tryz.func29, Tryz.ntmps29
  go_wp2_with (first
    | (go_at_call 46; refine (visK _ _ h1).mono ?_; rintro e w' ⟨rfl, rfl⟩)
    | (go_at_call 47; refine (printable_any _ _ h2).mono ?_; rintro e w' ⟨rfl, rfl⟩)
    | (go_at_call 48; refine (checkFrames_any _ fr _ h3').mono ?_; rintro e w' ⟨rfl, hb1⟩))
  all_goals (go_ret; refine ⟨ret_int ?_, by first | exact below_a1 (Below.refl _ _) (Nat.le_refl _) (by assumption) | exact (Below.refl _ _).alloc (Nat.le_refl _) _⟩; rw [HE.out])
  all_goals (try simp only [emp, Bool.not_eq_true', Bool.not_eq_false', decide_eq_true_eq, decide_eq_false_iff_not] at *)
  all_goals (clear HE; unfold faErr)
  all_goals (repeat' split)
  all_goals first | rfl | omega | simp_all

set_option maxHeartbeats 1000000 in
set_option maxRecDepth 100000 in
theorem faultError_v (x : Fa) (w : World) (h : x.ok w) :
    Calls Tryz.prog 18 #[.agg #[.string x.kind, .string x.text, x.fv]] w fun e w' => e = .returned (.int .i64 x.err) ∧ Below w.heap.size w w' := by
  obtain ⟨k, t, fv, fr⟩ := x
  obtain ⟨h1, h2, h3⟩ := h
  simp only at h1 h2 h3 ⊢
  have h3' : SlF (w.alloc (.cells #[.string k, .string t, fv] 44)) fv fr := h3.below (Nat.le_refl _) ((Below.refl _ _).alloc (Nat.le_refl _) _)
  have HE := Lib.hid (show (⟨k, t, fv, fr⟩ : Fa).err = faErr k t fr from rfl)
  have HM := Lib.hid h2
  go_enter Tryz.func18, Tryz.ntmps18
  go_wp2_with (go_at_call 39; refine (bytK _ _ h1).mono ?_; rintro e w' ⟨rfl, rfl⟩)
  · go_ret; exact ⟨ret_int (by rw [HE.out]; unfold faErr; rw [if_pos ‹_›]), (Below.refl _ _).alloc (Nat.le_refl _) _⟩
  · go_ret; refine ⟨ret_int ?_, (Below.refl _ _).alloc (Nat.le_refl _) _⟩
    have q2 : (!okK k) = true := by assumption
    rw [HE.out]; unfold faErr; rw [if_neg (by omega), if_pos (by simpa using q2)]
  · go_ret; refine ⟨ret_int ?_, (Below.refl _ _).alloc (Nat.le_refl _) _⟩
    have q2 : (!okK k) = false := by assumption
    have q3 : k.toList.isEmpty = true := by assumption
    rw [HE.out]; unfold faErr; rw [if_neg (by omega), if_neg (by simp at q2; simp [q2]), if_pos (by simpa [emp] using q3)]
  · go_ret; refine ⟨ret_int ?_, (Below.refl _ _).alloc (Nat.le_refl _) _⟩
    have q2 : (!okK k) = false := by assumption
    have q3 : k.toList.isEmpty = false := by assumption
    rw [HE.out]; unfold faErr; rw [if_neg (by omega), if_neg (by simp at q2; simp [q2]), if_neg (by simpa [emp] using q3), if_pos ‹_›]
  have g1 : (k.size : Int) ≤ 200 := by assumption
  have g2 : (!okK k) = false := by assumption
  have g3 : k.toList.isEmpty = false := by assumption
  have g4 : (t.size : Int) ≤ 2000 := by assumption
  have HT := Lib.hid (faErr_tail (k := k) (t := t) (l := fr) g1 (by simpa using g2) (by simpa [emp] using g3) g4)
  clear g1 g2 g3 g4
  go_loop [26] (fun i => ∃ k : Nat, k ≤ t.size ∧ (t.data.toList.take k).all okTC = true ∧ i = .int .i64 k) (fun i => t.size - (intOf i).toNat)
  case atStart => exact ⟨0, Nat.zero_le _, rfl, rfl⟩
  case round =>
    obtain ⟨j, hj, hall, rfl⟩ := hrel
    have HA := Lib.hid hall
    clear hall
    unfold maxLen at h2
    by_cases hlt : j < t.size
    · go_wp2_with fail
      · have hq : (t[j].toNat : Int) < 32 ∨ ((t[j].toNat : Int) == 127) = true := by assumption
        go_ret; exact ⟨ret_int (by rw [HE.out, HT.out, okT_not hlt (by simpa using hq), if_pos rfl]), (Below.refl _ _).alloc (Nat.le_refl _) _⟩
      · have hq : 32 ≤ (t[j].toNat : Int) ∧ ((t[j].toNat : Int) == 127) = false := by assumption
        have hq2 : ¬ (t[j].toNat : Int) = 127 := by simpa using hq.2
        exact ⟨⟨_, _, _, ⟨j + 1, by omega, List.all_eq_true.1 (okT_step hlt HA.out hq.1 hq2), by go_num⟩, rfl, rfl, rfl⟩, by simp [intOf]; omega⟩
      · go_ret; exact ⟨ret_int (by rw [HE.out, HT.out, okT_not hlt (by omega), if_pos rfl]), (Below.refl _ _).alloc (Nat.le_refl _) _⟩
    · go_wp2_with (go_at_call 40; refine (framesError_any _ fr _ h3').mono ?_; rintro e w' ⟨rfl, hb1⟩)
      go_ret
      exact ⟨ret_int (by rw [HE.out, HT.out, okT_end hlt HA.out]; rfl), below_a1 (Below.refl _ _) (Nat.le_refl _) hb1⟩
end Go.Proofs.YtmoofdcoodaaiaaGreatDoor

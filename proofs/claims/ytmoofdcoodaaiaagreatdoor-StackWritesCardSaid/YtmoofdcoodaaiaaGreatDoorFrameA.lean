/- What the two checks of a frame answer. -/
import Derived.Test.YtmoofdcoodaaiaaGreatDoorLeaf
namespace Go.Proofs.YtmoofdcoodaaiaaGreatDoor
open Go.RowKit

set_option maxHeartbeats 1000000 in
set_option maxRecDepth 100000 in
theorem checkFrame_any (x : Fr) (w : World) (h1 : x.m.size ≤ maxLen) (h2 : x.f.size ≤ maxLen) (h3 : x.i.size ≤ maxLen) :
    Calls Tryz.prog 72 #[x.val] w fun e w' => e = .returned (.int .i64 (frErr x)) ∧ Below w.heap.size w w' := by
  obtain ⟨m, f, i, l, a, o⟩ := x
  unfold Fr.val
  simp only at h1 h2 h3 ⊢
  go_enter Tryz.func72, Tryz.ntmps72
  go_wp2_with (go_at_call 46; refine (visF _ _ (by assumption)).mono ?_; rintro e w' ⟨rfl, rfl⟩)
  all_goals (go_ret; refine ⟨ret_int ?_, (Below.refl _ _).alloc (Nat.le_refl _) _⟩)
  all_goals (try simp only [emp, Bool.not_eq_true', Bool.not_eq_false', decide_eq_true_eq, decide_eq_false_iff_not, bne_iff_ne, ne_eq, bne_eq_false_iff_eq] at *)
  all_goals first | (exfalso; simp_all; done) | (exfalso; omega) | (unfold frErr; simp_all; done) | (unfold frErr; simp_all; omega) | (unfold frErr; split <;> first | rfl | omega | simp_all; split <;> first | rfl | omega | simp_all; split <;> first | rfl | omega | simp_all; split <;> first | rfl | omega | simp_all; split <;> first | rfl | omega | simp_all)

/-- The reference's check: the words lie in a slice of the call's own. -/
theorem frameError_any (x : Fr) (w : World) (h1 : x.m.size ≤ maxLen) (h2 : x.f.size ≤ maxLen) (h3 : x.i.size ≤ maxLen) :
    Calls Tryz.prog 68 #[x.val] w fun e w' => e = .returned (.int .i64 (frErr x)) ∧ Below w.heap.size w w' := by
  obtain ⟨m, f, i, l, a, o⟩ := x
  unfold Fr.val
  simp only at h1 h2 h3 ⊢
  go_enter Tryz.func68, Tryz.ntmps68
  go_wp2_with fail
  go_loop [17] (fun v => ∃ k : Nat, k ≤ 3 ∧ (0 < k → (m.size : Int) ≤ 200) ∧ (1 < k → (f.size : Int) ≤ 200) ∧ (2 < k → (i.size : Int) ≤ 200) ∧ v = .int .i64 k) (fun v => 3 - (intOf v).toNat)
  case atStart => exact ⟨0, by omega, by omega, by omega, by omega, rfl⟩
  case round =>
    obtain ⟨k, hk, hm, hf, hi, rfl⟩ := hrel
    obtain rfl | rfl | rfl | rfl : k = 0 ∨ k = 1 ∨ k = 2 ∨ k = 3 := by omega
    · go_wp2_with fail
      case roundEnd => exact ⟨⟨1, by omega, by omega, by omega, by omega, rfl⟩, by simp [intOf]⟩
      go_ret; exact ⟨ret_int (by unfold frErr; rw [if_pos (by simp only; omega)]), ((Below.refl _ _).alloc (Nat.le_refl _) _).alloc (by simp) _⟩
    · go_wp2_with fail
      case roundEnd => exact ⟨⟨2, by omega, by omega, by omega, by omega, rfl⟩, by simp [intOf]⟩
      go_ret; exact ⟨ret_int (by unfold frErr; rw [if_pos (by simp only; omega)]), ((Below.refl _ _).alloc (Nat.le_refl _) _).alloc (by simp) _⟩
    · go_wp2_with fail
      case roundEnd => exact ⟨⟨3, by omega, by omega, by omega, by omega, rfl⟩, by simp [intOf]⟩
      go_ret; exact ⟨ret_int (by unfold frErr; rw [if_pos (by simp only; omega)]), ((Below.refl _ _).alloc (Nat.le_refl _) _).alloc (by simp) _⟩
    have km := hm (by omega)
    have kf := hf (by omega)
    have ki := hi (by omega)
    clear hm hf hi
    go_wp2_with fail
    go_loop [27] (fun v => ∃ k : Nat, k ≤ 3 ∧ (0 < k → okF m = true) ∧ (1 < k → okF f = true) ∧ (2 < k → okF i = true) ∧ v = .int .i64 k) (fun v => 3 - (intOf v).toNat)
    case atStart => exact ⟨0, by omega, by omega, by omega, by omega, rfl⟩
    obtain ⟨k, hk, hm, hf, hi, rfl⟩ := hrel
    obtain rfl | rfl | rfl | rfl : k = 0 ∨ k = 1 ∨ k = 2 ∨ k = 3 := by omega
    · go_wp2_with (go_at_call 39; refine (bytF _ _ (by assumption)).mono ?_; rintro e w' ⟨rfl, rfl⟩)
      case roundEnd =>
        have hb : okF m = true := by simp_all
        exact ⟨⟨1, by omega, fun _ => hb, by omega, by omega, by simp⟩, by simp [intOf]⟩
      go_ret; exact ⟨ret_int (frErr_byte km kf ki (by simp_all)).symm, ((Below.refl _ _).alloc (Nat.le_refl _) _).alloc (by simp) _⟩
    · go_wp2_with (go_at_call 39; refine (bytF _ _ (by assumption)).mono ?_; rintro e w' ⟨rfl, rfl⟩)
      case roundEnd =>
        have hb : okF f = true := by simp_all
        exact ⟨⟨2, by omega, fun _ => hm (by omega), fun _ => hb, by omega, by simp⟩, by simp [intOf]⟩
      go_ret; exact ⟨ret_int (frErr_byte km kf ki (by simp_all)).symm, ((Below.refl _ _).alloc (Nat.le_refl _) _).alloc (by simp) _⟩
    · go_wp2_with (go_at_call 39; refine (bytF _ _ (by assumption)).mono ?_; rintro e w' ⟨rfl, rfl⟩)
      case roundEnd =>
        have hb : okF i = true := by simp_all
        exact ⟨⟨3, by omega, fun _ => hm (by omega), fun _ => hf (by omega), fun _ => hb, by simp⟩, by simp [intOf]⟩
      go_ret; exact ⟨ret_int (frErr_byte km kf ki (by simp_all)).symm, ((Below.refl _ _).alloc (Nat.le_refl _) _).alloc (by simp) _⟩
    have cm := hm (by omega)
    have cf := hf (by omega)
    have ci := hi (by omega)
    clear hm hf hi
    have HT := Lib.hid (frErr_tail (x := ⟨m, f, i, l, a, o⟩) km kf ki cm cf ci)
    go_wp2_with (go_at_call 87; refine (in_any _ _ _ _).mono ?_; rintro e w' ⟨rfl, rfl⟩)
    all_goals (go_ret; refine ⟨ret_int ?_, ((Below.refl _ _).alloc (Nat.le_refl _) _).alloc (by simp) _⟩; rw [HT.out])
    all_goals (clear HT; simp only [emp, Bool.not_eq_true', Bool.not_eq_false', decide_eq_true_eq, decide_eq_false_iff_not, bne_iff_ne, ne_eq, bne_eq_false_iff_eq] at *)
    all_goals (repeat' split)
    all_goals first | rfl | omega
end Go.Proofs.YtmoofdcoodaaiaaGreatDoor

/- What the checks of faults answer. -/
import Derived.Test.YtmoofdcoodaaiaaGreatDoorFaultA
namespace Go.Proofs.YtmoofdcoodaaiaaGreatDoor
open Go.RowKit

theorem fasErr_none : fasErr [] = 7 := rfl
theorem fasErr_large {l : List Fa} (h : 10 < l.length) : fasErr l = 4 := by unfold fasErr; rw [if_neg (by omega), if_pos h]
theorem fasErr_some {l : List Fa} (h0 : l.length ≠ 0) (h : l.length ≤ 10) : fasErr l = firstErr Fa.err l := by unfold fasErr; rw [if_neg h0, if_neg (by omega)]

set_option maxHeartbeats 1000000 in
set_option maxRecDepth 100000 in
theorem check_some (b off cap : Nat) (l : List Fa) (w : World) (hb : b < w.heap.size) (h0 : l.length ≠ 0) (h2 : l.length ≤ 10)
    (hcell : FasAt w b off l) (hok : ∀ x ∈ l, x.ok w) :
    Calls Tryz.prog 12 #[.slice (some ⟨b, off, none⟩) l.length cap] w fun e w' => e = .returned (.int .i64 (firstErr Fa.err l)) ∧ Below w.heap.size w w' := by
  have hd : decide (10 < (l.length : Int)) = false := by simp; omega
  have hd0 : ((l.length : Int) == 0) = false := by rw [beq_eq_false_iff_ne]; omega
  go_enter Tryz.func12, Tryz.ntmps12
  go_wp2_with fail
  go_loopw [14] (fun v wr => ∃ k : Nat, k ≤ l.length ∧ (∀ x ∈ l.take k, x.err = 0) ∧ v = .int .i64 k ∧ Below w.heap.size w wr) (fun v _ => l.length - (intOf v).toNat)
  case atStart => exact ⟨0, Nat.zero_le _, by simp, rfl, Below.refl _ _⟩
  case round =>
    obtain ⟨k, hk, hz, rfl, hbw⟩ := hrel
    have HZ := Lib.hid hz
    clear hz
    by_cases hlt : k < l.length
    · obtain ⟨c0, c1, c2⟩ := (hcell k hlt).below hb hbw
      have hx := (hok l[k] (List.getElem_mem hlt)).below (Nat.le_refl _) hbw
      have HA := Lib.hid (allz_succ (p := fun x : Fa => x.err = 0) hlt HZ.out)
      have HN := Lib.hid (firstErr_at (f := Fa.err) hlt HZ.out)
      generalize l[k] = x at *
      have HV := Lib.hid (fun w' h => checkFault_v x w' h)
      obtain ⟨kd, tx, fv, fr⟩ := x
      have hfv : SlF wr fv fr := hx.2.2
      simp only at c0 c1 c2 HV
      obtain ⟨p', c', rfl, _⟩ := hfv
      go_wp2_with (go_at_call 29; refine (HV.out _ (hx.below (Nat.le_refl _) ((Below.refl _ _).alloc (Nat.le_refl _) _))).mono ?_; rintro e w' ⟨rfl, hb1⟩)
      case roundEnd =>
        exact ⟨⟨k + 1, by omega, HA.out (bne_eq_false_iff_eq.1 (by assumption)), by go_num, below_a1 hbw hbw.size hb1⟩, by simp [intOf]; omega⟩
      go_ret
      exact ⟨ret_int (HN.out (bne_iff_ne.1 (by assumption))).symm, below_a1 hbw hbw.size hb1⟩
    · go_wp2_with fail
      go_ret
      exact ⟨ret_int (firstErr_take (by omega) HZ.out).symm, hbw⟩

theorem check_none (p : Option Addr) (cap : Nat) (w : World) :
    Calls Tryz.prog 12 #[.slice p 0 cap] w fun e w' => e = .returned (.int .i64 7) ∧ Below w.heap.size w w' := by
  go_enter Tryz.func12, Tryz.ntmps12
  go_wp2_with fail
  go_ret
  exact ⟨rfl, Below.refl _ _⟩

theorem check_large (p : Option Addr) (n cap : Nat) (w : World) (h : 10 < n) :
    Calls Tryz.prog 12 #[.slice p n cap] w fun e w' => e = .returned (.int .i64 4) ∧ Below w.heap.size w w' := by
  have hd0 : ((n : Int) == 0) = false := by rw [beq_eq_false_iff_ne]; omega
  go_enter Tryz.func12, Tryz.ntmps12
  go_wp2_with fail
  go_ret
  exact ⟨rfl, Below.refl _ _⟩

theorem check_any (v : Value) (l : List Fa) (w : World) (hv : SlA w v l) :
    Calls Tryz.prog 12 #[v] w fun e w' => e = .returned (.int .i64 (fasErr l)) ∧ Below w.heap.size w w' := by
  obtain ⟨p, cap, rfl, h1, h2, h3, h4⟩ := hv
  by_cases hl : 10 < l.length
  · rw [fasErr_large hl]; exact check_large p _ cap w hl
  · rcases h4 with rfl | ⟨b, off, rfl, hb, hc⟩
    · exact check_none p cap w
    · by_cases h0 : l.length = 0
      · rw [List.length_eq_zero_iff.1 h0]; exact check_none _ cap w
      · rw [fasErr_some h0 (by omega)]
        exact check_some b off cap l w hb h0 (by omega) hc h3

set_option maxHeartbeats 1000000 in
set_option maxRecDepth 100000 in
theorem faultsError_some (b off cap : Nat) (l : List Fa) (w : World) (hb : b < w.heap.size) (h0 : l.length ≠ 0) (h2 : l.length ≤ 10)
    (hcell : FasAt w b off l) (hok : ∀ x ∈ l, x.ok w) :
    Calls Tryz.prog 6 #[.slice (some ⟨b, off, none⟩) l.length cap] w fun e w' => e = .returned (.int .i64 (firstErr Fa.err l)) ∧ Below w.heap.size w w' := by
  have hd : decide (10 < (l.length : Int)) = false := by simp; omega
  have hd0 : ((l.length : Int) == 0) = false := by rw [beq_eq_false_iff_ne]; omega
  go_enter Tryz.func6, Tryz.ntmps6
  go_wp2_with fail
  go_loopw [14] (fun v wr => ∃ k : Nat, k ≤ l.length ∧ (∀ x ∈ l.take k, x.err = 0) ∧ v = .int .i64 k ∧ Below w.heap.size w wr) (fun v _ => l.length - (intOf v).toNat)
  case atStart => exact ⟨0, Nat.zero_le _, by simp, rfl, Below.refl _ _⟩
  case round =>
    obtain ⟨k, hk, hz, rfl, hbw⟩ := hrel
    have HZ := Lib.hid hz
    clear hz
    by_cases hlt : k < l.length
    · obtain ⟨c0, c1, c2⟩ := (hcell k hlt).below hb hbw
      have hx := (hok l[k] (List.getElem_mem hlt)).below (Nat.le_refl _) hbw
      have HA := Lib.hid (allz_succ (p := fun x : Fa => x.err = 0) hlt HZ.out)
      have HN := Lib.hid (firstErr_at (f := Fa.err) hlt HZ.out)
      generalize l[k] = x at *
      have HV := Lib.hid (fun w' h => faultError_v x w' h)
      obtain ⟨kd, tx, fv, fr⟩ := x
      have hfv : SlF wr fv fr := hx.2.2
      simp only at c0 c1 c2 HV
      obtain ⟨p', c', rfl, _⟩ := hfv
      go_wp2_with (go_at_call 18; refine (HV.out _ (hx.below (Nat.le_refl _) ((Below.refl _ _).alloc (Nat.le_refl _) _))).mono ?_; rintro e w' ⟨rfl, hb1⟩)
      case roundEnd =>
        exact ⟨⟨k + 1, by omega, HA.out (bne_eq_false_iff_eq.1 (by assumption)), by go_num, below_a1 hbw hbw.size hb1⟩, by simp [intOf]; omega⟩
      go_ret
      exact ⟨ret_int (HN.out (bne_iff_ne.1 (by assumption))).symm, below_a1 hbw hbw.size hb1⟩
    · go_wp2_with fail
      go_ret
      exact ⟨ret_int (firstErr_take (by omega) HZ.out).symm, hbw⟩

theorem faultsError_none (p : Option Addr) (cap : Nat) (w : World) :
    Calls Tryz.prog 6 #[.slice p 0 cap] w fun e w' => e = .returned (.int .i64 7) ∧ Below w.heap.size w w' := by
  go_enter Tryz.func6, Tryz.ntmps6
  go_wp2_with fail
  go_ret
  exact ⟨rfl, Below.refl _ _⟩

theorem faultsError_large (p : Option Addr) (n cap : Nat) (w : World) (h : 10 < n) :
    Calls Tryz.prog 6 #[.slice p n cap] w fun e w' => e = .returned (.int .i64 4) ∧ Below w.heap.size w w' := by
  have hd0 : ((n : Int) == 0) = false := by rw [beq_eq_false_iff_ne]; omega
  go_enter Tryz.func6, Tryz.ntmps6
  go_wp2_with fail
  go_ret
  exact ⟨rfl, Below.refl _ _⟩

theorem faultsError_any (v : Value) (l : List Fa) (w : World) (hv : SlA w v l) :
    Calls Tryz.prog 6 #[v] w fun e w' => e = .returned (.int .i64 (fasErr l)) ∧ Below w.heap.size w w' := by
  obtain ⟨p, cap, rfl, h1, h2, h3, h4⟩ := hv
  by_cases hl : 10 < l.length
  · rw [fasErr_large hl]; exact faultsError_large p _ cap w hl
  · rcases h4 with rfl | ⟨b, off, rfl, hb, hc⟩
    · exact faultsError_none p cap w
    · by_cases h0 : l.length = 0
      · rw [List.length_eq_zero_iff.1 h0]; exact faultsError_none _ cap w
      · rw [fasErr_some h0 (by omega)]
        exact faultsError_some b off cap l w hb h0 (by omega) hc h3
end Go.Proofs.YtmoofdcoodaaiaaGreatDoor

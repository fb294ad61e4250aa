/- The reference's error of a frame of which three words alone are set, and of a name. -/
import Derived.Test.YtcdaalnjanncmaaDoorSymA
namespace Go.Proofs.YtcdaalnjanncmaaDoor
open Go.RowKit

set_option maxHeartbeats 4000000 in
set_option maxRecDepth 100000 in
theorem frameFault_any (m f i : ByteArray) (w : World) (h1 : fitS m) (h2 : fitS f) (h3 : fitS i) :
    Calls Tryd.prog 47 #[.string m, .string f, .string i] w fun e w' => e = .returned (.int .i64 (frErr ⟨m, f, i, 0, -1, false⟩)) ∧ Below w.heap.size w w' := by
  unfold fitS at h1 h2 h3
  go_enter Tryd.func47, Tryd.ntmps47
  go_wp2_with fail
  go_loop [17] (fun v => ∃ k : Nat, k ≤ 3 ∧ (0 < k → (m.size : Int) ≤ 200) ∧ (1 < k → (f.size : Int) ≤ 200) ∧ (2 < k → (i.size : Int) ≤ 200) ∧ v = .int .i64 k) (fun v => 3 - (RowKit.intOf v).toNat)
  case atStart => exact ⟨0, by omega, by omega, by omega, by omega, rfl⟩
  case round =>
    obtain ⟨k, hk, hm, hf, hi, rfl⟩ := hrel
    obtain rfl | rfl | rfl | rfl : k = 0 ∨ k = 1 ∨ k = 2 ∨ k = 3 := by omega
    · go_wp2_with fail
      case roundEnd => exact ⟨⟨1, by omega, by omega, by omega, by omega, rfl⟩, by simp [RowKit.intOf]⟩
      go_ret; exact ⟨ret_int (by unfold frErr; rw [if_pos (by simp only; omega)]), (Below.refl _ _).alloc (Nat.le_refl _) _⟩
    · go_wp2_with fail
      case roundEnd => exact ⟨⟨2, by omega, by omega, by omega, by omega, rfl⟩, by simp [RowKit.intOf]⟩
      go_ret; exact ⟨ret_int (by unfold frErr; rw [if_pos (by simp only; omega)]), (Below.refl _ _).alloc (Nat.le_refl _) _⟩
    · go_wp2_with fail
      case roundEnd => exact ⟨⟨3, by omega, by omega, by omega, by omega, rfl⟩, by simp [RowKit.intOf]⟩
      go_ret; exact ⟨ret_int (by unfold frErr; rw [if_pos (by simp only; omega)]), (Below.refl _ _).alloc (Nat.le_refl _) _⟩
    have km := hm (by omega)
    have kf := hf (by omega)
    have ki := hi (by omega)
    clear hm hf hi
    go_wp2_with fail
    go_loop [30] (fun v => ∃ k : Nat, k ≤ 3 ∧ (0 < k → okF m = true) ∧ (1 < k → okF f = true) ∧ (2 < k → okF i = true) ∧ v = .int .i64 k) (fun v => 3 - (RowKit.intOf v).toNat)
    case atStart => exact ⟨0, by omega, by omega, by omega, by omega, rfl⟩
    obtain ⟨k, hk, hm, hf, hi, rfl⟩ := hrel
    obtain rfl | rfl | rfl | rfl : k = 0 ∨ k = 1 ∨ k = 2 ∨ k = 3 := by omega
    · go_wp2_with fail
      go_loop [36] (fun v => ∃ q : Nat, q ≤ m.size ∧ (m.data.toList.take q).all (okC 33 [40, 41, 58, 44]) = true ∧ v = .int .i64 q) (fun v => m.size - (RowKit.intOf v).toNat)
      case atStart => exact ⟨0, Nat.zero_le _, rfl, rfl⟩
      obtain ⟨q, hq, hall, rfl⟩ := hrel
      have HA := Lib.hid hall
      clear hall
      by_cases hlt : q < m.size
      · go_wp2_with (go_at_call 72; refine (ixb _ _ _).mono ?_; rintro e w' ⟨rfl, rfl⟩)
        case roundEnd => exact ⟨⟨q + 1, by omega, okB_step hlt HA.out (by omega) (by omega) (by omega), by go_num⟩, by simp [RowKit.intOf]; omega⟩
        all_goals (go_ret; exact ⟨ret_int (frErr_byte km kf ki (by have hn : okF m = false := okB_not hlt (by omega); simp [hn])).symm, ((Below.refl _ _).alloc (Nat.le_refl _) _).alloc (by simp) _⟩)
      · have hb : okF m = true := okB_end hlt HA.out
        go_wp2_with fail
        exact ⟨⟨1, by omega, fun _ => hb, by omega, by omega, rfl⟩, by simp [RowKit.intOf]⟩
    · go_wp2_with fail
      go_loop [36] (fun v => ∃ q : Nat, q ≤ f.size ∧ (f.data.toList.take q).all (okC 33 [40, 41, 58, 44]) = true ∧ v = .int .i64 q) (fun v => f.size - (RowKit.intOf v).toNat)
      case atStart => exact ⟨0, Nat.zero_le _, rfl, rfl⟩
      obtain ⟨q, hq, hall, rfl⟩ := hrel
      have HA := Lib.hid hall
      clear hall
      by_cases hlt : q < f.size
      · go_wp2_with (go_at_call 72; refine (ixb _ _ _).mono ?_; rintro e w' ⟨rfl, rfl⟩)
        case roundEnd => exact ⟨⟨q + 1, by omega, okB_step hlt HA.out (by omega) (by omega) (by omega), by go_num⟩, by simp [RowKit.intOf]; omega⟩
        all_goals (go_ret; exact ⟨ret_int (frErr_byte km kf ki (by have hn : okF f = false := okB_not hlt (by omega); simp [hn])).symm, ((Below.refl _ _).alloc (Nat.le_refl _) _).alloc (by simp) _⟩)
      · have hb : okF f = true := okB_end hlt HA.out
        go_wp2_with fail
        exact ⟨⟨2, by omega, fun _ => hm (by omega), fun _ => hb, by omega, rfl⟩, by simp [RowKit.intOf]⟩
    · go_wp2_with fail
      go_loop [36] (fun v => ∃ q : Nat, q ≤ i.size ∧ (i.data.toList.take q).all (okC 33 [40, 41, 58, 44]) = true ∧ v = .int .i64 q) (fun v => i.size - (RowKit.intOf v).toNat)
      case atStart => exact ⟨0, Nat.zero_le _, rfl, rfl⟩
      obtain ⟨q, hq, hall, rfl⟩ := hrel
      have HA := Lib.hid hall
      clear hall
      by_cases hlt : q < i.size
      · go_wp2_with (go_at_call 72; refine (ixb _ _ _).mono ?_; rintro e w' ⟨rfl, rfl⟩)
        case roundEnd => exact ⟨⟨q + 1, by omega, okB_step hlt HA.out (by omega) (by omega) (by omega), by go_num⟩, by simp [RowKit.intOf]; omega⟩
        all_goals (go_ret; exact ⟨ret_int (frErr_byte km kf ki (by have hn : okF i = false := okB_not hlt (by omega); simp [hn])).symm, ((Below.refl _ _).alloc (Nat.le_refl _) _).alloc (by simp) _⟩)
      · have hb : okF i = true := okB_end hlt HA.out
        go_wp2_with fail
        exact ⟨⟨3, by omega, fun _ => hm (by omega), fun _ => hf (by omega), fun _ => hb, rfl⟩, by simp [RowKit.intOf]⟩
    · have HT := Lib.hid (frErr_tail (x := ⟨m, f, i, 0, -1, false⟩) km kf ki (hm (by omega)) (hf (by omega)) (hi (by omega)))
      go_wp2_with fail
      all_goals (go_ret; refine ⟨ret_int ?_, ((Below.refl _ _).alloc (Nat.le_refl _) _).alloc (by simp) _⟩; rw [HT.out])
      all_goals (clear HT; simp_all [emp])
end Go.Proofs.YtcdaalnjanncmaaDoor

/- What Number and NumberOf answer. -/
import Derived.Test.YtcmieoilhbjgiaaDoorNumA
namespace Go.Proofs.YtcmieoilhbjgiaaDoor
open Go.RowKit Go.Lib

theorem conv_own {B : Nat} {v : Value} {n : Nat} {l : List UInt8} {w : World} (h : w.ownsRow B 5 1 v n (byteCells l)) : (convert 104 9 v).run Tryd.prog w = .ok (.string (strOf l)) w := by
  obtain ⟨hlen, h⟩ := h
  have hn : n = l.length := by simpa [byteCells] using hlen.symm
  rcases h with ⟨rfl, h0⟩ | ⟨g, cap, cur, rfl, _, hg, hnc, hc, hsz, htk⟩
  · rw [run_convert_bytes_nil w 104 5 Tryd.underlying104 Tryd.underlying5 0 0 9 Tryd.underlying9]
    have : l = [] := List.length_eq_zero_iff.1 (by omega)
    rw [this]; rfl
  · have hcell : ∀ i, i < n → w.cell? ⟨g, 0 + i, none⟩ = some (.int .u8 ((l.map fun b => (b.toNat : Int)).getD i 0)) := fun i hi => by
      have h1 : (byteCells l)[i]? = some (.int .u8 ((l.map fun b => (b.toNat : Int)).getD i 0)) := by
        have hil : i < l.length := by omega
        simp [byteCells, List.getD, List.getElem?_eq_getElem hil]
      rw [← h1, ← htk, Nat.zero_add]
      simp only [World.cell?, hg]
      rw [List.getElem?_take_of_lt (by omega)]
      simp
    rw [run_convert_bytes_arg w 104 5 Tryd.underlying104 Tryd.underlying5 g 0 n cap (l.map fun b => (b.toNat : Int)) (by simp [hn]) hcell 9 Tryd.underlying9]
    congr 2
    unfold strOfNums strOf
    congr 2
    rw [List.map_map]
    conv => rhs; rw [← List.map_id l]
    apply List.map_congr_left
    intro b _
    simp

set_option maxHeartbeats 1000000 in
set_option maxRecDepth 100000 in
theorem number_P (n : Int) (w : World) (h0 : 0 ≤ n) (h1 : n ≤ 281474976710656) :
    Calls Tryd.prog 34 #[.int .i64 n] w fun e w' => e = .returned (.tuple #[.string (strOf (num n.toNat)), .int .i64 0]) ∧ Below w.heap.size w w' := by
  obtain ⟨m, rfl⟩ := Int.eq_ofNat_of_zero_le h0
  simp only [Int.toNat_natCast]
  have HC := Lib.hid (appN (.slice none 0 0) w.heap.size 0 [] m w ⟨rfl, .inl ⟨rfl, rfl⟩⟩ (Nat.le_refl _) (by omega) (by omega))
  go_enter Tryd.func34, Tryd.ntmps34
  go_wp2_with (go_at_call 60; refine HC.out.mono ?_; rintro e w1 ⟨v', rfl, hown, hb⟩; have hcv := conv_own hown)
  go_ret2
  exact ⟨rfl, hb⟩

set_option maxHeartbeats 1000000 in
set_option maxRecDepth 100000 in
theorem number_bad (n : Int) (w : World) (h0 : n < 0 ∨ 281474976710656 < n) :
    Calls Tryd.prog 34 #[.int .i64 n] w fun e w' => e = .returned (.tuple #[.string ⟨#[]⟩, .int .i64 2]) ∧ Below w.heap.size w w' := by
  rcases h0 with h0 | h0
  · go_enter Tryd.func34, Tryd.ntmps34
    go_wp2_with fail
    go_ret2
    exact ⟨rfl, Below.refl _ _⟩
  · have h00 : ¬ n < 0 := by omega
    go_enter Tryd.func34, Tryd.ntmps34
    go_wp2_with fail
    go_ret2
    exact ⟨rfl, Below.refl _ _⟩

set_option maxHeartbeats 1000000 in
set_option maxRecDepth 100000 in
theorem out_any (n a b : Int) (w : World) :
    Calls Tryd.prog 48 #[.int .i64 n, .int .i64 a, .int .i64 b] w fun e w' => e = .returned (.bool (decide (n < a) || decide (b < n))) ∧ w' = w := by
  go_enter Tryd.func48, Tryd.ntmps48
  go_wp2_with fail
  all_goals (go_ret; exact ⟨ret_bool (by simp), rfl⟩)

end Go.Proofs.YtcmieoilhbjgiaaDoor

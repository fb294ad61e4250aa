/- The law SymbolNumbers, walked. -/
import Derived.Test.YtffjnomaebjbdacReadQ
import Derived.Test.YtffjnomaebjbdacReadR
namespace Go.Proofs.Ytffjnomaebjbdac
open Go.RowKit Go.Lib

theorem read_P (s : ByteArray) (w : World) (hs : s.size ≤ 281474976710656) :
    Calls Try.prog 7 #[.string s] w fun e w' => e = .returned (rdVal (rdN 0 0 s.data.toList)) ∧ w' = w := by
  by_cases h : s.size ≤ 7
  · exact read_small s w hs h
  · exact read_large s w hs (by omega)

set_option maxHeartbeats 1000000 in
set_option maxRecDepth 100000 in
theorem numberOf_good (n : Int) (w : World) (h0 : 0 ≤ n) (h1 : n ≤ 281474976710656) :
    Calls Try.prog 5 #[.int .i64 n] w fun e w' => e = .returned (.tuple #[.string (strOf (num n.toNat)), .int .i64 0]) ∧ Below w.heap.size w w' := by
  obtain ⟨m, rfl⟩ := Int.eq_ofNat_of_zero_le h0
  simp only [Int.toNat_natCast]
  have HC := Lib.hid (number_R m w (by omega))
  have HO := Lib.hid (fun W => out_any (m : Int) 0 281474976710656 W)
  rw [show (decide ((m : Int) < 0) || decide (281474976710656 < (m : Int))) = false by simp; omega] at HO
  go_enter Try.func5, Try.ntmps5
  go_wp2_with (first
    | (go_at_call 10; refine (HO.out _).mono ?_; rintro e w1 ⟨rfl, rfl⟩)
    | (go_at_call 11; refine HC.out.mono ?_; rintro e w1 ⟨rfl, hb⟩))
  go_ret2
  exact ⟨rfl, hb⟩

set_option maxHeartbeats 1000000 in
set_option maxRecDepth 100000 in
theorem numberOf_bad (n : Int) (w : World) (h0 : n < 0 ∨ 281474976710656 < n) :
    Calls Try.prog 5 #[.int .i64 n] w fun e w' => e = .returned (.tuple #[.string ⟨#[]⟩, .int .i64 2]) ∧ Below w.heap.size w w' := by
  have HO := Lib.hid (fun W => out_any n 0 281474976710656 W)
  rw [show (decide (n < 0) || decide (281474976710656 < n)) = true by simp; omega] at HO
  clear h0
  go_enter Try.func5, Try.ntmps5
  go_wp2_with (go_at_call 10; refine (HO.out _).mono ?_; rintro e w1 ⟨rfl, rfl⟩)
  go_ret2
  exact ⟨rfl, Below.refl _ _⟩

set_option maxHeartbeats 1000000 in
set_option maxRecDepth 100000 in
theorem told_good (v : ByteArray) (w : World) :
    Calls Try.prog 6 #[.string v, .int .i64 0, .string v, .int .i64 0] w fun e w' => e = .returned (.bool true) ∧ w' = w := by
  go_enter Try.func6, Try.ntmps6
  go_wp2_with fail
  go_ret
  exact ⟨by simp, rfl⟩
set_option maxHeartbeats 1000000 in
set_option maxRecDepth 100000 in
theorem told_bad (w : World) :
    Calls Try.prog 6 #[.string ⟨#[]⟩, .int .i64 2, .string ⟨#[]⟩, .int .i64 2] w fun e w' => e = .returned (.bool true) ∧ w' = w := by
  go_enter Try.func6, Try.ntmps6
  go_wp2_with fail
  go_ret
  exact ⟨by simp, rfl⟩

/-- What Number writes, where it writes. -/
theorem numbers_case (n : Int) : (0 ≤ n ∧ n ≤ 281474976710656) ∨ (n < 0 ∨ 281474976710656 < n) := by omega

set_option maxHeartbeats 2000000 in
set_option maxRecDepth 100000 in
theorem law_any (n : Int) (s u : ByteArray) (ec : Int) (w : World) (hs : s.size ≤ 140737488355328) (hu : u.size ≤ 7)
    (H4 : ∀ W, Calls Try.prog 4 #[.int .i64 n] W fun e w' => e = .returned (.tuple #[.string u, .int .i64 ec]) ∧ Below W.heap.size W w')
    (H5 : ∀ W, Calls Try.prog 5 #[.int .i64 n] W fun e w' => e = .returned (.tuple #[.string u, .int .i64 ec]) ∧ Below W.heap.size W w')
    (H6 : ∀ W, Calls Try.prog 6 #[.string u, .int .i64 ec, .string u, .int .i64 ec] W fun e w' => e = .returned (.bool true) ∧ w' = W) :
    Calls Try.prog 3 #[.int .i64 n, .string s] w fun e w' => e = .returned (.bool true) ∧ Below w.heap.size w w' := by
  have H4 := Lib.hid H4
  have H5 := Lib.hid H5
  have H6 := Lib.hid H6
  have hus : (u ++ s).size = u.size + s.size := ByteArray.size_append
  have HP1 := Lib.hid (fun W => read_P s W (by omega))
  have HR1 := Lib.hid (fun W => read_R s W (by omega))
  have HP2 := Lib.hid (fun W => read_P (u ++ s) W (by omega))
  have HR2 := Lib.hid (fun W => read_R (u ++ s) W (by omega))
  clear hus
  generalize hus : u ++ s = us at *
  go_enter Try.func3, Try.ntmps3
  go_wp2_with (first
    | (go_at_call 4; refine (H4.out _).mono ?_; rintro e w1 ⟨rfl, hb1⟩)
    | (go_at_call 5; refine (H5.out _).mono ?_; rintro e w2 ⟨rfl, hb2⟩; have hb12 := (hb1.trans (hb2.mono hb1.size)))
    | (go_at_call 6; refine (H6.out _).mono ?_; rintro e w3 ⟨rfl, rfl⟩))
  clear H4 H5 H6
  go_loop [39] (fun v => ∃ k : Nat, k ≤ 2 ∧ v = .int .i64 k) (fun v => 2 - (intOf v).toNat)
  case atStart => exact ⟨0, by omega, rfl⟩
  case round =>
    obtain ⟨k, hk, rfl⟩ := hrel
    obtain rfl | rfl | rfl : k = 0 ∨ k = 1 ∨ k = 2 := by omega
    · clear HP2 HR2
      rcases hX : rdN 0 0 s.data.toList with _ | ⟨a, b⟩
      · rw [hX] at HP1 HR1
        simp only [rdVal] at HP1 HR1
        clear hX
        go_wp2_with (first
          | (go_at_call 7; refine (HP1.out _).mono ?_; rintro e w3 ⟨rfl, rfl⟩)
          | (go_at_call 8; refine (HR1.out _).mono ?_; rintro e w4 ⟨rfl, rfl⟩))
        exact ⟨⟨1, by omega, rfl⟩, by simp [intOf]⟩
      · rw [hX] at HP1 HR1
        simp only [rdVal] at HP1 HR1
        clear hX
        go_wp2_with (first
          | (go_at_call 7; refine (HP1.out _).mono ?_; rintro e w3 ⟨rfl, rfl⟩)
          | (go_at_call 8; refine (HR1.out _).mono ?_; rintro e w4 ⟨rfl, rfl⟩))
        exact ⟨⟨1, by omega, rfl⟩, by simp [intOf]⟩
    · clear HP1 HR1
      rcases hX : rdN 0 0 us.data.toList with _ | ⟨a, b⟩
      · rw [hX] at HP2 HR2
        simp only [rdVal] at HP2 HR2
        clear hX
        go_wp2_with (first
          | (go_at_call 7; refine (HP2.out _).mono ?_; rintro e w3 ⟨rfl, rfl⟩)
          | (go_at_call 8; refine (HR2.out _).mono ?_; rintro e w4 ⟨rfl, rfl⟩))
        exact ⟨⟨2, by omega, rfl⟩, by simp [intOf]⟩
      · rw [hX] at HP2 HR2
        simp only [rdVal] at HP2 HR2
        clear hX
        go_wp2_with (first
          | (go_at_call 7; refine (HP2.out _).mono ?_; rintro e w3 ⟨rfl, rfl⟩)
          | (go_at_call 8; refine (HR2.out _).mono ?_; rintro e w4 ⟨rfl, rfl⟩))
        exact ⟨⟨2, by omega, rfl⟩, by simp [intOf]⟩
    · go_wp2_with fail
      go_ret
      exact ⟨rfl, hb12.alloc hb12.size _⟩

theorem law (n : Int) (s : ByteArray) (w : World) (hs : s.size ≤ 140737488355328) :
    Calls Try.prog 3 #[.int .i64 n, .string s] w fun e w' => e = .returned (.bool true) ∧ Below w.heap.size w w' := by
  rcases numbers_case n with ⟨h0, h1⟩ | h
  · refine law_any n s (strOf (num n.toNat)) 0 w hs ?_ (fun W => number_P n W h0 h1) (fun W => numberOf_good n W h0 h1) (fun W => told_good _ W)
    rw [strOf_size]
    exact num_len7 (by omega)
  · exact law_any n s ⟨#[]⟩ 2 w hs (by decide) (fun W => number_bad n W h) (fun W => numberOf_bad n W h) (fun W => told_bad W)
end Go.Proofs.Ytffjnomaebjbdac

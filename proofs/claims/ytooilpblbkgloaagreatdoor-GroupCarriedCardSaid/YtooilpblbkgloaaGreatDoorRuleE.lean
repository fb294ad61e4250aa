/- What actText answers. -/
import Derived.Test.YtooilpblbkgloaaGreatDoorRuleD
import Derived.Lib.AppendIntMem
namespace Go.Proofs.YtooilpblbkgloaaGreatDoor
open Go.RowKit Go.Lib Go.Deep

def DeedAt (j : Nat) (w : World) (e : Ending) (w' : World) : Prop := ∃ B, e = .returned (.slice (some ⟨B, 0, none⟩) 6 6) ∧ w'.cell? ⟨B, j * 2, none⟩ = some (.string (bs (aWord ((j : Int) + 1)))) ∧ Below w.heap.size w w'
theorem deed_at (j : Nat) (hj : j < 6) (w : World) : Calls Tryz.prog 50 #[] w (DeedAt j w) := by
  refine (deeds_any w).mono ?_
  rintro e w' ⟨B, he, ⟨x0, x1, x2, x3, x4, x5⟩, hb⟩
  refine ⟨B, he, ?_, hb⟩
  obtain rfl | rfl | rfl | rfl | rfl | rfl : j = 0 ∨ j = 1 ∨ j = 2 ∨ j = 3 ∨ j = 4 ∨ j = 5 := by omega
  · exact x0
  · exact x1
  · exact x2
  · exact x3
  · exact x4
  · exact x5
theorem aWord_len (d : Int) : (aWord d).length ≤ 5 := by
  unfold aWord
  (repeat' split) <;> simp
theorem itoa_digs {n : Int} (h : 0 ≤ n) : Lib.itoa n = digs n := by unfold Lib.itoa digs; rw [if_neg (by omega)]
theorem digs_len {n : Int} (h0 : 0 ≤ n) (h : n ≤ 200) : (digs n).length ≤ 3 := by
  have : ∀ k, k ≤ 200 → (Lib.decDigits k).length ≤ 3 := by
    intro k hk
    rw [Lib.decDigits]; split
    · simp
    · rw [Lib.decDigits]; split
      · simp
      · rw [Lib.decDigits]; split
        · simp
        · omega
  exact this n.toNat (by omega)
theorem Env.keep {w w' : World} (h : Env w) (hb : Below w.heap.size w w') : Env w' := by
  obtain ⟨⟨m, hm⟩, ht⟩ := h
  exact ⟨⟨m, cell_keep hm hb⟩, Lib.tabBelow_of_tabIs ht _ hb⟩
theorem itoa_any (n : Int) (w : World) (h0 : 0 ≤ n) (h1 : n ≤ 200) (he : Env w) :
    Calls Tryz.prog 67 #[.int .i64 n] w fun e w' => e = .returned (.string (bs (digs n))) ∧ Below w.heap.size w w' := by
  refine (Tryz.strconv_Itoa n (by omega) (by omega) w he.2).mono ?_
  rintro e w' ⟨rfl, k, os, rfl⟩
  exact ⟨by rw [itoa_digs h0]; rfl, Lib.below_grow _ w (Nat.le_refl _) k os⟩

set_option maxHeartbeats 2000000 in
set_option maxRecDepth 100000 in
theorem actText_at (j : Nat) (hj : j < 6) (n : Int) (t : ByteArray) (w : World) (ht : t.size ≤ 100) (hn : j = 4 → 1 ≤ n ∧ n ≤ 200) (henv : Env w) :
    Calls Tryz.prog 42 #[.agg #[.int .i64 ((j : Int) + 1), .int .i64 n, .string t]] w fun e w' => e = .returned (.string (bs (aText ⟨(j : Int) + 1, n, t⟩))) ∧ Below w.heap.size w w' := by
  obtain ⟨T, hT⟩ : ∃ T, T = bs (aText ⟨(j : Int) + 1, n, t⟩) := ⟨_, rfl⟩
  have HT := Lib.hid (show (j ≠ 4 → j ≠ 5 → bs (aWord ((j : Int) + 1)) = T) ∧ (j = 4 → bs (aWord ((j : Int) + 1)) ++ bs (digs n) = T) ∧ (j = 5 → bs (aWord ((j : Int) + 1)) ++ bs (qt t) = T) from by
    rw [hT]
    unfold aText
    refine ⟨fun h1 h2 => ?_, fun h1 => ?_, fun h1 => ?_⟩
    · simp only; rw [if_neg (by omega), if_neg (by omega), List.append_nil]
    · simp only; rw [if_pos (by omega), app_bs]
    · simp only; rw [if_neg (by omega), if_pos (by omega), app_bs])
  rw [← hT]
  clear hT
  have HQ := Lib.hid (fun (W : World) (hb : Below w.heap.size w W) => quote_any t _ W (by omega) (cell_keep henv.1.choose_spec hb))
  have HI := Lib.hid (fun (h : j = 4) (W : World) (hb : Below w.heap.size w W) => itoa_any n W (by have := hn h; omega) (by have := hn h; omega) (henv.keep hb))
  have HZ := Lib.hid (show j = 4 → (bs (digs n)).size ≤ 3 from fun h => by rw [bs_size]; have := hn h; exact digs_len (by omega) (by omega))
  have HW := Lib.hid (fun (W : World) => deed_at j hj W)
  have hzw : (bs (aWord ((j : Int) + 1))).size ≤ 5 := by rw [bs_size]; exact aWord_len _
  have hzq : (bs (qt t)).size ≤ 202 := by rw [bs_size]; have := qt_len t; omega
  have hj1 : (j : Int) < 6 := by omega
  have hw1 : IntKind.i64.wrap ((j : Int) + 1 - 1) = (j : Int) := by rw [show (j : Int) + 1 - 1 = (j : Int) by omega]; exact IntWalk.i64_in _ (by omega)
  have hw2 : IntKind.i64.wrap (j : Int) = (j : Int) := IntWalk.i64_in _ (by omega)
  have hj0 : (0 : Int) ≤ (j : Int) := by omega
  have h5 : (((j : Int) + 1 == 5)) = decide (j = 4) := by rw [Bool.eq_iff_iff]; simp; omega
  have h6 : (((j : Int) + 1 == 6)) = decide (j = 5) := by rw [Bool.eq_iff_iff]; simp; omega
  have c0 : (w.alloc (.cells #[.int .i64 ((j : Int) + 1), .int .i64 n, .string t] 49)).cell? ⟨w.heap.size, 0, none⟩ = some (.int .i64 ((j : Int) + 1)) := by go_simp
  have c1 : (w.alloc (.cells #[.int .i64 ((j : Int) + 1), .int .i64 n, .string t] 49)).cell? ⟨w.heap.size, 1, none⟩ = some (.int .i64 n) := by go_simp
  have c2 : (w.alloc (.cells #[.int .i64 ((j : Int) + 1), .int .i64 n, .string t] 49)).cell? ⟨w.heap.size, 2, none⟩ = some (.string t) := by go_simp
  have hb0 : Below w.heap.size w (w.alloc (.cells #[.int .i64 ((j : Int) + 1), .int .i64 n, .string t] 49)) := (Below.refl _ _).alloc (Nat.le_refl _) _
  clear hn henv
  cases d5 : decide (j = 4)
  all_goals
    rw [d5] at h5
    have D5 := Lib.hid d5
    clear d5
    cases d6 : decide (j = 5)
    all_goals
      rw [d6] at h6
      have D6 := Lib.hid d6
      clear d6
      go_enter Tryz.func42, Tryz.ntmps42
      go_wp2_with fail
      go_region_with (first | (go_at_call 50; (with_reducible refine (HW.out _).mono ?_); rintro e wX ⟨B, rfl, x0, hbX⟩; have y0 : World.cell? _ ⟨w.heap.size, 0, none⟩ = some (.int .i64 ((j : Int) + 1)) := cell_keep (by first | assumption | exact cell_drew (by assumption)) hbX; have y1 : World.cell? _ ⟨w.heap.size, 1, none⟩ = some (.int .i64 n) := cell_keep (by first | assumption | exact cell_drew (by assumption)) hbX; have y2 : World.cell? _ ⟨w.heap.size, 2, none⟩ = some (.string t) := cell_keep (by first | assumption | exact cell_drew (by assumption)) hbX; have hbN : Below w.heap.size w _ := below_keep (by first | assumption | exact Below.drew (by assumption)) (Nat.le_refl _) hbX))
      all_goals
        clear hbX c0 c1 c2
        first
          | (exfalso; have e5 := D5.out; have e6 := D6.out; simp only [decide_eq_true_eq] at e5 e6; omega)
          | (go_wp2_with (first
               | (go_at_call 67; refine (HI.out (by have := D5.out; simpa using this) _ hbN).mono ?_; rintro e wY ⟨rfl, hbY⟩)
               | (go_at_call 66; refine (HQ.out _ hbN).mono ?_; rintro e wY ⟨rfl, hbY⟩))
             all_goals first
               | (go_ret
                  have e5 := D5.out
                  have e6 := D6.out
                  simp only [decide_eq_true_eq, decide_eq_false_iff_not] at e5 e6
                  first
                    | exact ⟨congrArg (fun x => Ending.returned (Value.string x)) (HT.out.1 e5 e6), hbN⟩
                    | exact ⟨congrArg (fun x => Ending.returned (Value.string x)) (HT.out.2.1 e5), below_keep hbN (Nat.le_refl _) hbY⟩
                    | exact ⟨congrArg (fun x => Ending.returned (Value.string x)) (HT.out.2.2 e6), below_keep hbN (Nat.le_refl _) hbY⟩)
               | (exfalso; have e5 := D5.out; simp only [decide_eq_true_eq] at e5; (try have := HZ.out e5); omega))
theorem actText_any (a : Ac) (w : World) (hf : aErr a = 0) (henv : Env w) :
    Calls Tryz.prog 42 #[aVal a] w fun e w' => e = .returned (.string (bs (aText a))) ∧ Below w.heap.size w w' := by
  obtain ⟨h1, h2, h3, h4⟩ := aErr_fit hf
  clear hf
  obtain ⟨d, n, t⟩ := a
  simp only at h1 h2 h3 h4
  have := actText_at (d - 1).toNat (by omega) n t w h3 (fun h => h4 (by omega)) henv
  rw [show ((d - 1).toNat : Int) + 1 = d by omega] at this
  exact this
end Go.Proofs.YtooilpblbkgloaaGreatDoor

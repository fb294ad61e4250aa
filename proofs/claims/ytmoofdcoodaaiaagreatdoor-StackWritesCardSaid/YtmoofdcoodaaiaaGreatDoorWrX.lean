/- The law StackWrites. -/
import Derived.Test.YtmoofdcoodaaiaaGreatDoorWrW
import Derived.Test.YtmoofdcoodaaiaaGreatDoorWrV1
import Derived.Test.YtmoofdcoodaaiaaGreatDoorWrV2
import Derived.Test.YtmoofdcoodaaiaaGreatDoorWrV3
namespace Go.Proofs.YtmoofdcoodaaiaaGreatDoor
open Go.RowKit Go.Lib

def wtTx (l : List Fa) (form : Int) : ByteArray := if ambs l = true then ⟨#[]⟩ else bs (tx (lines l form))
theorem written_any (v : Value) (l : List Fa) (form : Int) (w : World) (hv : SlA w v l) (hok : fasErr l = 0) (h1 : 1 ≤ form) (h3 : form ≤ 3) :
    Calls Tryz.prog 7 #[v, .int .i64 form] w fun e w' => e = .returned (.tuple #[.string (wtTx l form), .bool (!ambs l)]) ∧ Below w.heap.size w w' := by
  unfold wtTx
  cases ha : ambs l
  · rw [if_neg (by simp)]
    obtain rfl | rfl | rfl : form = 1 ∨ form = 2 ∨ form = 3 := by omega
    · exact written1 v l w hv hok ha
    · exact written2 v l w hv hok ha
    · exact written3 v l w hv hok ha
  · rw [if_pos rfl]
    exact written_amb v l form w hv hok ha

set_option maxHeartbeats 4000000 in
set_option maxRecDepth 100000 in
theorem writes_law (v : Value) (l : List Fa) (form : Int) (w : World) (hv : SlA w v l) (he : EnvW w) :
    Calls Tryz.prog 3 #[v, .int .i64 form] w fun e w' => e = .returned (.bool true) ∧ Below w.heap.size w w' := by
  have HW := Lib.hid (write_any v l form w hv he)
  have HF := Lib.hid (fun (W : World) (hW : Below w.heap.size w W) => faultsError_any v l W (hv.below (Nat.le_refl _) hW))
  by_cases hE : fasErr l = 0
  · rw [hE] at HF
    by_cases hf : form < 1 ∨ 3 < form
    · have hx : wrErr l form = 10 := by unfold wrErr; rw [if_neg (by simp [hE]), if_pos hf]
      have ht : wrTx l form = ⟨#[]⟩ := by unfold wrTx; rw [if_neg (by rw [hx]; decide)]
      rw [hx, ht] at HW
      clear hx ht hE
      obtain ⟨p, cap, rfl, -⟩ := hv
      by_cases h1 : form < 1
      · have d1 : decide (form < 1) = true := by simpa using h1
        go_enter Tryz.func3, Tryz.ntmps3
        go_wp2_with (first
          | (go_at_call 5; (with_reducible refine HW.out.mono ?_); rintro e w1 ⟨rfl, hb1⟩; have hs1 := hb1.size)
          | (go_at_call 6; (with_reducible refine (HF.out _ hb1).mono ?_); rintro e w2 ⟨rfl, hb2⟩; have hb3 : Below w.heap.size w w2 := below_call hb1 hs1 hb2))
        go_ret
        exact ⟨rfl, hb3⟩
      · have d1 : decide (form < 1) = false := by simpa using h1
        have d2 : decide (3 < form) = true := by simp; omega
        have h3 : 3 < form := by omega
        go_enter Tryz.func3, Tryz.ntmps3
        go_wp2_with (first
          | (go_at_call 5; (with_reducible refine HW.out.mono ?_); rintro e w1 ⟨rfl, hb1⟩; have hs1 := hb1.size)
          | (go_at_call 6; (with_reducible refine (HF.out _ hb1).mono ?_); rintro e w2 ⟨rfl, hb2⟩; have hb3 : Below w.heap.size w w2 := below_call hb1 hs1 hb2))
        go_ret
        exact ⟨rfl, hb3⟩
    · have h1 : 1 ≤ form := by omega
      have h3 : form ≤ 3 := by omega
      have d1 : decide (form < 1) = false := by simp; omega
      have d2 : decide (3 < form) = false := by simp; omega
      have HT := Lib.hid (fun (W : World) (hW : Below w.heap.size w W) => written_any v l form W (hv.below (Nat.le_refl _) hW) hE h1 h3)
      have hx : wrErr l form = if ambs l = true then 9 else if 1000000 < (tx (lines l form)).length then 4 else 0 := by unfold wrErr; rw [if_neg (by simp [hE]), if_neg hf]
      have ht : wrTx l form = if wrErr l form = 0 then bs (tx (lines l form)) else ⟨#[]⟩ := rfl
      unfold wtTx at HT
      rw [ht, hx] at HW
      clear hx ht hE hf
      have hbz := bs_size (tx (lines l form))
      cases ha : ambs l
      · rw [ha] at HW HT
        simp only [Bool.false_eq_true, if_false, Bool.not_false] at HW HT
        by_cases hL : 1000000 < (tx (lines l form)).length
        · rw [if_pos hL, if_neg (by decide)] at HW
          rw [← hbz] at hL
          clear hbz
          generalize bs (tx (lines l form)) = X at *
          have hgt : (1000000 : Int) < (X.size : Int) := by omega
          obtain ⟨p, cap, rfl, -⟩ := hv
          go_enter Tryz.func3, Tryz.ntmps3
          go_wp2_with (first
            | (go_at_call 5; (with_reducible refine HW.out.mono ?_); rintro e w1 ⟨rfl, hb1⟩; have hs1 := hb1.size)
            | (go_at_call 6; (with_reducible refine (HF.out _ hb1).mono ?_); rintro e w2 ⟨rfl, hb2⟩; have hb3 : Below w.heap.size w w2 := below_call hb1 hs1 hb2; have hs3 := hb3.size)
            | (go_at_call 7; (with_reducible refine (HT.out _ hb3).mono ?_); rintro e w4 ⟨rfl, hb4⟩; have hb5 : Below w.heap.size w w4 := below_call hb3 hs3 hb4))
          go_ret
          exact ⟨rfl, hb5⟩
        · rw [if_neg hL, if_pos rfl] at HW
          rw [← hbz] at hL
          clear hbz
          generalize bs (tx (lines l form)) = X at *
          have hgt : ¬ (1000000 : Int) < (X.size : Int) := by omega
          obtain ⟨p, cap, rfl, -⟩ := hv
          go_enter Tryz.func3, Tryz.ntmps3
          go_wp2_with (first
            | (go_at_call 5; (with_reducible refine HW.out.mono ?_); rintro e w1 ⟨rfl, hb1⟩; have hs1 := hb1.size)
            | (go_at_call 6; (with_reducible refine (HF.out _ hb1).mono ?_); rintro e w2 ⟨rfl, hb2⟩; have hb3 : Below w.heap.size w w2 := below_call hb1 hs1 hb2; have hs3 := hb3.size)
            | (go_at_call 7; (with_reducible refine (HT.out _ hb3).mono ?_); rintro e w4 ⟨rfl, hb4⟩; have hb5 : Below w.heap.size w w4 := below_call hb3 hs3 hb4))
          go_ret
          exact ⟨rfl, hb5⟩
      · rw [ha] at HW HT
        simp only [if_true, Bool.not_true] at HW HT
        rw [if_neg (by decide)] at HW
        clear hbz
        obtain ⟨p, cap, rfl, -⟩ := hv
        go_enter Tryz.func3, Tryz.ntmps3
        go_wp2_with (first
          | (go_at_call 5; (with_reducible refine HW.out.mono ?_); rintro e w1 ⟨rfl, hb1⟩; have hs1 := hb1.size)
          | (go_at_call 6; (with_reducible refine (HF.out _ hb1).mono ?_); rintro e w2 ⟨rfl, hb2⟩; have hb3 : Below w.heap.size w w2 := below_call hb1 hs1 hb2; have hs3 := hb3.size)
          | (go_at_call 7; (with_reducible refine (HT.out _ hb3).mono ?_); rintro e w4 ⟨rfl, hb4⟩; have hb5 : Below w.heap.size w w4 := below_call hb3 hs3 hb4))
        go_ret
        exact ⟨rfl, hb5⟩
  · have hx : wrErr l form = fasErr l := by unfold wrErr; rw [if_pos hE]
    have ht : wrTx l form = ⟨#[]⟩ := by unfold wrTx; rw [if_neg (by rw [hx]; exact hE)]
    rw [hx, ht] at HW
    have hne : (fasErr l != 0) = true := by rw [bne_iff_ne]; exact hE
    have hne2 : (fasErr l == 0) = false := by rw [beq_eq_false_iff_ne]; exact hE
    clear hx ht hE
    generalize fasErr l = E at *
    obtain ⟨p, cap, rfl, -⟩ := hv
    go_enter Tryz.func3, Tryz.ntmps3
    go_wp2_with (first
      | (go_at_call 5; (with_reducible refine HW.out.mono ?_); rintro e w1 ⟨rfl, hb1⟩; have hs1 := hb1.size)
      | (go_at_call 6; (with_reducible refine (HF.out _ hb1).mono ?_); rintro e w2 ⟨rfl, hb2⟩; have hb3 : Below w.heap.size w w2 := below_call hb1 hs1 hb2))
    go_ret
    exact ⟨rfl, hb3⟩
end Go.Proofs.YtmoofdcoodaaiaaGreatDoor

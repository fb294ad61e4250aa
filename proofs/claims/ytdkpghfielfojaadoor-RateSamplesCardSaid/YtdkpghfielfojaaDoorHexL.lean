/- The laws RateSamples and RateNested, walked. -/
import Derived.Test.YtdkpghfielfojaaDoorHexE
import Derived.Test.YtdkpghfielfojaaDoorHexG
namespace Go.Proofs.YtdkpghfielfojaaDoor
open Go.RowKit Go.Lib

set_option maxHeartbeats 4000000 in
set_option maxRecDepth 100000 in
theorem samples_law (s : ByteArray) (r : Int) (w : World) (h : EnvH w) : Calls Tryd.prog 3 #[.string s, .int .i64 r] w fun e w' => e = .returned (.bool true) ∧ Below w.heap.size w w' := by
  have HS := Lib.hid (Sample_any s r w h)
  by_cases hs : 200 < s.size
  · have e1 : smpErr s r = 4 := by unfold smpErr; rw [if_pos hs]
    have e2 : smpIs s r = false := by unfold smpIs; rw [e1]; rfl
    rw [e1, e2] at HS
    have hs' : (200 : Int) < (s.size : Int) := by omega
    clear hs e1 e2
    go_enter Tryd.func3, Tryd.ntmps3
    go_wp2_with (go_at_call 5; (with_reducible refine HS.out.mono ?_); rintro e w1 ⟨rfl, hb1⟩)
    go_ret
    exact ⟨rfl, hb1⟩
  · have hs' : ¬ (200 : Int) < (s.size : Int) := by omega
    by_cases hr : wi r 0 1000000 = true
    · have hr2 : 0 ≤ r ∧ r ≤ 1000000 := by unfold wi at hr; exact of_decide_eq_true hr
      have e1 : smpErr s r = 0 := by unfold smpErr; rw [if_neg hs, if_pos hr]
      have e2 : smpIs s r = smp s r := by unfold smpIs; rw [e1]; rfl
      rw [e1, e2] at HS
      have HA := Lib.hid (fun W => SampledAt_any s r W (by omega) hr2.1 hr2.2)
      obtain ⟨r0, r1⟩ := hr2
      have r2 : ¬ r < 0 := by omega
      have r3 : ¬ 1000000 < r := by omega
      generalize smp s r = b at *
      clear hs e1 e2 hr
      cases b
      all_goals
        go_enter Tryd.func3, Tryd.ntmps3
        go_wp2_with (first
          | (go_at_call 5; (with_reducible refine HS.out.mono ?_); rintro e w1 ⟨rfl, hb1⟩)
          | (go_at_call 6; (with_reducible refine (HA.out _).mono ?_); rintro e w2 ⟨rfl, rfl⟩))
        go_ret
        exact ⟨rfl, hb1⟩
    · have e1 : smpErr s r = 2 := by unfold smpErr; rw [if_neg hs, if_neg hr]
      have e2 : smpIs s r = false := by unfold smpIs; rw [e1]; rfl
      rw [e1, e2] at HS
      have hr2 : ¬ (0 ≤ r ∧ r ≤ 1000000) := fun k => hr (by unfold wi; exact decide_eq_true k)
      clear hs e1 e2 hr
      by_cases r0 : r < 0
      · clear hr2
        go_enter Tryd.func3, Tryd.ntmps3
        go_wp2_with (go_at_call 5; (with_reducible refine HS.out.mono ?_); rintro e w1 ⟨rfl, hb1⟩)
        go_ret
        exact ⟨rfl, hb1⟩
      · have r1 : 1000000 < r := by omega
        clear hr2
        go_enter Tryd.func3, Tryd.ntmps3
        go_wp2_with (go_at_call 5; (with_reducible refine HS.out.mono ?_); rintro e w1 ⟨rfl, hb1⟩)
        go_ret
        exact ⟨rfl, hb1⟩

theorem smp_mono (s : ByteArray) {a b : Int} (h : a ≤ b) (ha : smp s a = true) : smp s b = true := by
  unfold smp at *
  have := of_decide_eq_true ha
  exact decide_eq_true (by omega)
theorem smp_zero (s : ByteArray) : smp s 0 = false := by
  unfold smp; exact decide_eq_false (by omega)
theorem smp_all (s : ByteArray) : smp s 1000000 = true := by
  have := upN_lt s
  unfold smp; exact decide_eq_true (by omega)
theorem ok_is {s : ByteArray} {r : Int} (h : smpErr s r = 0) : smpIs s r = smp s r := by unfold smpIs; rw [if_pos h]
theorem bad_is {s : ByteArray} {r : Int} (h : smpErr s r ≠ 0) : smpIs s r = false := by unfold smpIs; rw [if_neg h]

set_option maxHeartbeats 4000000 in
set_option maxRecDepth 100000 in
theorem nested_law (s : ByteArray) (a b : Int) (w : World) (h : EnvH w) : Calls Tryd.prog 4 #[.string s, .int .i64 a, .int .i64 b] w fun e w' => e = .returned (.bool true) ∧ Below w.heap.size w w' := by
  have HA := Lib.hid (fun W => awakeRate_any W)
  have H1 := Lib.hid (fun W h => Sample_any s a W h)
  have H2 := Lib.hid (fun W h => Sample_any s b W h)
  have HH := Lib.hid h
  by_cases h1 : smpErr s a = 0
  · by_cases h2 : smpErr s b = 0
    · rw [ok_is h1, h1] at H1
      rw [ok_is h2, h2] at H2
      have m1 := @smp_mono s a b
      have m2 : a = 0 → smp s a = false := fun k => by rw [k]; exact smp_zero s
      have m3 : a = 1000000 → smp s a = true := fun k => by rw [k]; exact smp_all s
      generalize smp s a = x at *
      generalize smp s b = y at *
      clear h1 h2
      by_cases h0 : a = 0
      · have ex := m2 h0
        subst h0
        subst ex
        clear m1 m2 m3
        by_cases hle : (0 : Int) ≤ b
        all_goals
          go_enter Tryd.func4, Tryd.ntmps4
          go_wp2_with (first
            | (go_at_call 7; (with_reducible refine (HA.out _).mono ?_); rintro e w1 ⟨rfl, hb1⟩)
            | (go_at_call 5; (with_reducible refine (H1.out _ (HH.out.keep hb1)).mono ?_); rintro e w2 ⟨rfl, hb2⟩; have hb12 := below_call hb1 hb1.size hb2)
            | (go_at_call 5; (with_reducible refine (H2.out _ (HH.out.keep hb12)).mono ?_); rintro e w3 ⟨rfl, hb3⟩; have hb13 := below_call hb12 hb12.size hb3))
          go_ret
          exact ⟨rfl, hb13⟩
      · have h00 : (a == 0) = false := by rw [beq_eq_false_iff_ne]; exact h0
        by_cases hm : a = 1000000
        · have ex := m3 hm
          subst ex
          by_cases hle : a ≤ b
          · have ey := m1 hle rfl
            subst ey
            clear m1 m2 m3
            subst hm
            go_enter Tryd.func4, Tryd.ntmps4
            go_wp2_with (first
              | (go_at_call 7; (with_reducible refine (HA.out _).mono ?_); rintro e w1 ⟨rfl, hb1⟩)
              | (go_at_call 5; (with_reducible refine (H1.out _ (HH.out.keep hb1)).mono ?_); rintro e w2 ⟨rfl, hb2⟩; have hb12 := below_call hb1 hb1.size hb2)
              | (go_at_call 5; (with_reducible refine (H2.out _ (HH.out.keep hb12)).mono ?_); rintro e w3 ⟨rfl, hb3⟩; have hb13 := below_call hb12 hb12.size hb3))
            go_ret
            exact ⟨rfl, hb13⟩
          · clear m1 m2 m3
            subst hm
            go_enter Tryd.func4, Tryd.ntmps4
            go_wp2_with (first
              | (go_at_call 7; (with_reducible refine (HA.out _).mono ?_); rintro e w1 ⟨rfl, hb1⟩)
              | (go_at_call 5; (with_reducible refine (H1.out _ (HH.out.keep hb1)).mono ?_); rintro e w2 ⟨rfl, hb2⟩; have hb12 := below_call hb1 hb1.size hb2)
              | (go_at_call 5; (with_reducible refine (H2.out _ (HH.out.keep hb12)).mono ?_); rintro e w3 ⟨rfl, hb3⟩; have hb13 := below_call hb12 hb12.size hb3))
            go_ret
            exact ⟨rfl, hb13⟩
        · have hmm : (a == 1000000) = false := by rw [beq_eq_false_iff_ne]; exact hm
          by_cases hle : a ≤ b
          · cases x
            · clear m1 m2 m3
              go_enter Tryd.func4, Tryd.ntmps4
              go_wp2_with (first
                | (go_at_call 7; (with_reducible refine (HA.out _).mono ?_); rintro e w1 ⟨rfl, hb1⟩)
                | (go_at_call 5; (with_reducible refine (H1.out _ (HH.out.keep hb1)).mono ?_); rintro e w2 ⟨rfl, hb2⟩; have hb12 := below_call hb1 hb1.size hb2)
                | (go_at_call 5; (with_reducible refine (H2.out _ (HH.out.keep hb12)).mono ?_); rintro e w3 ⟨rfl, hb3⟩; have hb13 := below_call hb12 hb12.size hb3))
              go_ret
              exact ⟨rfl, hb13⟩
            · have ey := m1 hle rfl
              subst ey
              clear m1 m2 m3
              go_enter Tryd.func4, Tryd.ntmps4
              go_wp2_with (first
                | (go_at_call 7; (with_reducible refine (HA.out _).mono ?_); rintro e w1 ⟨rfl, hb1⟩)
                | (go_at_call 5; (with_reducible refine (H1.out _ (HH.out.keep hb1)).mono ?_); rintro e w2 ⟨rfl, hb2⟩; have hb12 := below_call hb1 hb1.size hb2)
                | (go_at_call 5; (with_reducible refine (H2.out _ (HH.out.keep hb12)).mono ?_); rintro e w3 ⟨rfl, hb3⟩; have hb13 := below_call hb12 hb12.size hb3))
              go_ret
              exact ⟨rfl, hb13⟩
          · clear m1 m2 m3
            cases x
            all_goals
              go_enter Tryd.func4, Tryd.ntmps4
              go_wp2_with (first
                | (go_at_call 7; (with_reducible refine (HA.out _).mono ?_); rintro e w1 ⟨rfl, hb1⟩)
                | (go_at_call 5; (with_reducible refine (H1.out _ (HH.out.keep hb1)).mono ?_); rintro e w2 ⟨rfl, hb2⟩; have hb12 := below_call hb1 hb1.size hb2)
                | (go_at_call 5; (with_reducible refine (H2.out _ (HH.out.keep hb12)).mono ?_); rintro e w3 ⟨rfl, hb3⟩; have hb13 := below_call hb12 hb12.size hb3))
              go_ret
              exact ⟨rfl, hb13⟩
    · rw [ok_is h1, h1] at H1
      rw [bad_is h2] at H2
      have hq : (smpErr s b == 0) = false := by rw [beq_eq_false_iff_ne]; exact h2
      generalize smp s a = x at *
      generalize smpErr s b = g at *
      clear h1
      cases x
      all_goals
        go_enter Tryd.func4, Tryd.ntmps4
        go_wp2_with (first
          | (go_at_call 7; (with_reducible refine (HA.out _).mono ?_); rintro e w1 ⟨rfl, hb1⟩)
          | (go_at_call 5; (with_reducible refine (H1.out _ (HH.out.keep hb1)).mono ?_); rintro e w2 ⟨rfl, hb2⟩; have hb12 := below_call hb1 hb1.size hb2)
          | (go_at_call 5; (with_reducible refine (H2.out _ (HH.out.keep hb12)).mono ?_); rintro e w3 ⟨rfl, hb3⟩; have hb13 := below_call hb12 hb12.size hb3))
        go_ret
        exact ⟨rfl, hb13⟩
  · rw [bad_is h1] at H1
    have hq : (smpErr s a == 0) = false := by rw [beq_eq_false_iff_ne]; exact h1
    generalize smpErr s a = g at *
    generalize smpErr s b = f at *
    generalize smpIs s b = y at *
    go_enter Tryd.func4, Tryd.ntmps4
    go_wp2_with (first
      | (go_at_call 7; (with_reducible refine (HA.out _).mono ?_); rintro e w1 ⟨rfl, hb1⟩)
      | (go_at_call 5; (with_reducible refine (H1.out _ (HH.out.keep hb1)).mono ?_); rintro e w2 ⟨rfl, hb2⟩; have hb12 := below_call hb1 hb1.size hb2)
      | (go_at_call 5; (with_reducible refine (H2.out _ (HH.out.keep hb12)).mono ?_); rintro e w3 ⟨rfl, hb3⟩; have hb13 := below_call hb12 hb12.size hb3))
    go_ret
    exact ⟨rfl, hb13⟩
end Go.Proofs.YtdkpghfielfojaaDoor

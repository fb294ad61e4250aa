/- What the checks before pouring answer; how long one waits. -/
import Derived.Test.YtdkpghfielfojaaPourC
namespace Go.Proofs.Ytdkpghfielfojaa
open Go.RowKit Go.Lib

def pourErr (S A E h t r at0 : Int) : Int := if lvlErr S A E h t r = 0 then (if wi at0 0 3155759999 then (if at0 < t then 5 else 0) else 2) else lvlErr S A E h t r
theorem lvl_ok {S A E h t r : Int} (hl : lvlErr S A E h t r = 0) : ((1 ≤ S ∧ S ≤ 1000000000) ∧ (1 ≤ A ∧ A ≤ 1000000000) ∧ (1 ≤ E ∧ E ≤ 86400)) ∧ (0 ≤ h ∧ h ≤ S) ∧ (0 ≤ t ∧ t ≤ 3155759999) ∧ (0 ≤ r ∧ r ≤ E - 1) := by
  unfold lvlErr at hl
  split at hl
  · rename_i hb
    refine ⟨bkt_ok hb, ?_⟩
    split at hl
    · rename_i h1; unfold wi at h1; simpa using h1
    · cases hl
  · rename_i hb; exact absurd hl hb

set_option maxHeartbeats 1000000 in
set_option maxRecDepth 100000 in
theorem checkPour_any (S A E h t r n : Int) (w : World) : Calls Try.prog 33 #[.agg #[.int .i64 S, .int .i64 A, .int .i64 E], .agg #[.int .i64 h, .int .i64 t, .int .i64 r], .int .i64 n] w fun e w' => e = .returned (.int .i64 (pourErr S A E h t r n)) ∧ Below w.heap.size w w' := by
  have HL := Lib.hid (fun W => checkLevel_any S A E h t r W)
  have HM := Lib.hid (fun W => isMoment_any n W)
  have HT := Lib.hid (Two.new w S A E h t r)
  unfold pourErr
  generalize wi n 0 3155759999 = m at *
  by_cases hb : lvlErr S A E h t r = 0
  · rw [if_pos hb]
    rw [hb] at HL
    clear hb
    cases m
    · go_enter Try.func33, Try.ntmps33
      go_wp2_with (first
        | (go_at_call 35; (with_reducible refine (HL.out _).mono ?_); rintro e w1 ⟨rfl, hb1⟩; have HT1 := Lib.hid (HT.out.below hb1); have l1 := HT1.out.l.c1)
        | (go_at_call 46; (with_reducible refine (HM.out _).mono ?_); rintro e w2 ⟨rfl, rfl⟩))
      go_ret
      exact ⟨rfl, HT1.out.bw⟩
    · by_cases hlt : n < t
      · rw [if_pos rfl, if_pos hlt]
        go_enter Try.func33, Try.ntmps33
        go_wp2_with (first
          | (go_at_call 35; (with_reducible refine (HL.out _).mono ?_); rintro e w1 ⟨rfl, hb1⟩; have HT1 := Lib.hid (HT.out.below hb1); have l1 := HT1.out.l.c1)
          | (go_at_call 46; (with_reducible refine (HM.out _).mono ?_); rintro e w2 ⟨rfl, rfl⟩))
        go_ret
        exact ⟨rfl, HT1.out.bw⟩
      · rw [if_pos rfl, if_neg hlt]
        go_enter Try.func33, Try.ntmps33
        go_wp2_with (first
          | (go_at_call 35; (with_reducible refine (HL.out _).mono ?_); rintro e w1 ⟨rfl, hb1⟩; have HT1 := Lib.hid (HT.out.below hb1); have l1 := HT1.out.l.c1)
          | (go_at_call 46; (with_reducible refine (HM.out _).mono ?_); rintro e w2 ⟨rfl, rfl⟩))
        go_ret
        exact ⟨rfl, HT1.out.bw⟩
  · rw [if_neg hb]
    generalize lvlErr S A E h t r = b at *
    go_enter Try.func33, Try.ntmps33
    go_wp2_with (go_at_call 35; (with_reducible refine (HL.out _).mono ?_); rintro e w1 ⟨rfl, hb1⟩; have HT1 := Lib.hid (HT.out.below hb1))
    go_ret
    exact ⟨rfl, HT1.out.bw⟩

def waitV (A E h r n : Int) : Int := if n ≤ h then 0 else (n - h + A - 1) / A * E - r
set_option maxHeartbeats 1000000 in
set_option maxRecDepth 100000 in
theorem wait_any (S A E h t r n : Int) (w : World) (hl : lvlErr S A E h t r = 0) (hn : n ≤ S) : Calls Try.prog 36 #[.agg #[.int .i64 S, .int .i64 A, .int .i64 E], .agg #[.int .i64 h, .int .i64 t, .int .i64 r], .int .i64 n] w fun e w' => e = .returned (.int .i64 (waitV A E h r n)) ∧ Below w.heap.size w w' := by
  obtain ⟨⟨⟨s1, s2⟩, ⟨a1, a2⟩, ⟨e1, e2⟩⟩, ⟨h1, h2⟩, ⟨t1, t2⟩, ⟨r1, r2⟩⟩ := lvl_ok hl
  have HT := Lib.hid (Two.new w S A E h t r)
  unfold waitV
  by_cases hle : n ≤ h
  · rw [if_pos hle]
    go_enter Try.func36, Try.ntmps36
    go_wp2_with fail
    go_ret
    exact ⟨rfl, HT.out.bw⟩
  · rw [if_neg hle]
    have hw1 : IntKind.i64.wrap (n - h) = n - h := IntWalk.i64_in _ ⟨by omega, by omega⟩
    have hw2 : IntKind.i64.wrap (n - h + A) = n - h + A := IntWalk.i64_in _ ⟨by omega, by omega⟩
    have hw3 : IntKind.i64.wrap (n - h + A - 1) = n - h + A - 1 := IntWalk.i64_in _ ⟨by omega, by omega⟩
    have hq : (n - h + A - 1).tdiv A = (n - h + A - 1) / A := Int.tdiv_eq_ediv_of_nonneg (by omega)
    have hq0 : 0 ≤ (n - h + A - 1) / A := Int.ediv_nonneg (by omega) (by omega)
    have hq1 : (n - h + A - 1) / A ≤ n - h + A - 1 := Int.ediv_le_self _ (by omega)
    have hw4 : IntKind.i64.wrap ((n - h + A - 1) / A) = (n - h + A - 1) / A := IntWalk.i64_in _ ⟨by omega, by omega⟩
    obtain ⟨hp0, hp1⟩ := prod_le hq0 (show (n - h + A - 1) / A ≤ 2000000000 by omega) (show 0 ≤ E by omega) e2
    have hw5 : IntKind.i64.wrap ((n - h + A - 1) / A * E) = (n - h + A - 1) / A * E := IntWalk.i64_in _ ⟨by omega, by omega⟩
    have hw6 : IntKind.i64.wrap ((n - h + A - 1) / A * E - r) = (n - h + A - 1) / A * E - r := IntWalk.i64_in _ ⟨by omega, by omega⟩
    have ha0 : (A == 0) = false := by rw [beq_eq_false_iff_ne]; omega
    have ha1 : A ≠ 0 := by omega
    go_enter Try.func36, Try.ntmps36
    go_wp2_with fail
    go_ret
    exact ⟨rfl, HT.out.bw⟩
end Go.Proofs.Ytdkpghfielfojaa

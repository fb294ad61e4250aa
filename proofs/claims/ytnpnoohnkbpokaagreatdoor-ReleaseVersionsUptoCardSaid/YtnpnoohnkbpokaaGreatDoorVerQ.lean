/- What Text answers, whole; what the reference's VersionText answers to what can't be written. -/
import Derived.Test.YtnpnoohnkbpokaaGreatDoorVerN
import Derived.Test.YtnpnoohnkbpokaaGreatDoorVerH
namespace Go.Proofs.YtnpnoohnkbpokaaGreatDoor
open Go.RowKit Go.Lib

theorem txtErr_good {x : Vr} (hP : projB x.pj.data.toList = true) (h0 : ¬ minV x < 0) (h1 : ¬ 999999 < maxV x) (h5 : ¬ 5 < x.pre.length) (hA : anyBad x.pre = false) :
    txtErr x = if 40 < (txtF x).size then 4 else 0 := by
  unfold txtErr
  rw [if_neg (by rw [hP]; decide), if_neg (by rintro (h | h) <;> contradiction), if_neg h5, if_neg (by rw [hA]; decide)]
theorem txtErr_bad {x : Vr} (h : projB x.pj.data.toList = false ∨ minV x < 0 ∨ 999999 < maxV x ∨ 5 < x.pre.length ∨ anyBad x.pre = true) : txtErr x ≠ 0 := by
  unfold txtErr
  split
  · decide
  split
  · decide
  split
  · decide
  split
  · decide
  · rename_i a b c d
    exfalso
    rcases h with h | h | h | h | h
    · exact a h
    · exact b (Or.inl h)
    · exact b (Or.inr h)
    · exact c h
    · exact d h
/-- What Text answers. -/
def TxtPost (x : Vr) (w : World) (e : Ending) (w' : World) : Prop := e = .returned (.tuple #[.string (txtOf x), .int .i64 (txtErr x)]) ∧ Below w.heap.size w w'
theorem txt_cases (x : Vr) : (projB x.pj.data.toList = false ∨ minV x < 0 ∨ 999999 < maxV x ∨ 5 < x.pre.length ∨ anyBad x.pre = true) ∨
    (projB x.pj.data.toList = true ∧ ¬ minV x < 0 ∧ ¬ 999999 < maxV x ∧ ¬ 5 < x.pre.length ∧ anyBad x.pre = false) := by
  by_cases h : projB x.pj.data.toList = false ∨ minV x < 0 ∨ 999999 < maxV x ∨ 5 < x.pre.length ∨ anyBad x.pre = true
  · exact Or.inl h
  · refine Or.inr ⟨?_, fun a => h (Or.inr (Or.inl a)), fun a => h (Or.inr (Or.inr (Or.inl a))), fun a => h (Or.inr (Or.inr (Or.inr (Or.inl a)))), ?_⟩
    · cases hp : projB x.pj.data.toList
      · exact absurd (Or.inl hp) h
      · rfl
    · cases hp : anyBad x.pre
      · rfl
      · exact absurd (Or.inr (Or.inr (Or.inr (Or.inr hp)))) h
theorem good_ret {x : Vr} (h : txtErr x = if 40 < (txtF x).size then 4 else 0) : (if 40 < (txtF x).size then (⟨#[]⟩ : ByteArray) else txtF x) = txtOf x := by
  unfold txtOf
  rw [h]
  split
  · rw [if_neg (by decide)]
  · rw [if_pos rfl]
theorem Text_any (v : Value) (x : Vr) (w : World) (h : VrV w v x) (he : Env w) (hz : x.pj.size ≤ 1048576) : Calls Tryz.prog 4 #[v] w (TxtPost x w) := by
  rcases txt_cases x with hb | ⟨hP, h0, h1, h5, hA⟩
  · refine (Text_bad v x w h hz hb).mono ?_
    rintro e w' ⟨rfl, hw⟩
    exact ⟨by unfold txtOf; rw [if_neg (txtErr_bad hb)], hw⟩
  · refine (Text_good v x w h he hz hP h0 h1 h5 hA).mono ?_
    rintro e w' ⟨rfl, hw⟩
    have hg := txtErr_good hP h0 h1 h5 hA
    exact ⟨by rw [good_ret hg, hg], hw⟩

theorem rng_iff (a b c : Int) : (Lib.minOf [a, b, c] < 0 ∨ 999999 < Lib.maxOf [a, b, c]) ↔ ((a < 0 ∨ 999999 < a) ∨ (b < 0 ∨ 999999 < b) ∨ (c < 0 ∨ 999999 < c)) := by
  simp only [Lib.minOf, Lib.maxOf, List.foldl, List.headD]
  omega

set_option maxHeartbeats 4000000 in
set_option maxRecDepth 100000 in
theorem VText_bad (v : Value) (x : Vr) (w : World) (h : VrV w v x) (hz : x.pj.size ≤ 1048576) (hE : projB x.pj.data.toList = false ∨ minV x < 0 ∨ 999999 < maxV x ∨ 5 < x.pre.length ∨ anyBad x.pre = true) :
    Calls Tryz.prog 5 #[v] w fun e w' => e = .returned (.tuple #[.string ⟨#[]⟩, .int .i64 (txtErr x)]) ∧ Below w.heap.size w w' := by
  obtain ⟨p, rfl, hsl⟩ := h
  obtain ⟨a, cap, rfl, hl1, hl2, _⟩ := id hsl
  have HSL := Lib.hid hsl
  obtain ⟨pj, ma, mi, pa, pre⟩ := x
  simp only at hsl hl1 hl2 hz ⊢
  unfold maxLen at hl2
  clear hsl
  have HI := Lib.hid (fun W => projectOk_any pj W hz)
  have HR := rng_iff ma mi pa
  have HT := Lib.hid (show txtErr ⟨pj, ma, mi, pa, pre⟩ = if projB pj.data.toList = false then 3 else if Lib.minOf [ma, mi, pa] < 0 ∨ 999999 < Lib.maxOf [ma, mi, pa] then 2 else if 5 < pre.length then 4 else if anyBad pre = true then 8 else if 40 < (txtF ⟨pj, ma, mi, pa, pre⟩).size then 4 else 0 from rfl)
  have HEE := Lib.hid (show projB pj.data.toList = false ∨ (Lib.minOf [ma, mi, pa] < 0 ∨ 999999 < Lib.maxOf [ma, mi, pa]) ∨ 5 < pre.length ∨ anyBad pre = true from by
    rcases hE with h | h | h | h | h
    · exact Or.inl h
    · exact Or.inr (Or.inl (Or.inl h))
    · exact Or.inr (Or.inl (Or.inr h))
    · exact Or.inr (Or.inr (Or.inl h))
    · exact Or.inr (Or.inr (Or.inr h)))
  clear hE
  rw [HT.out]
  have HO1 := Lib.hid (fun W => out_any ma 0 999999 W)
  have HO2 := Lib.hid (fun W => out_any mi 0 999999 W)
  have HO3 := Lib.hid (fun W => out_any pa 0 999999 W)
  have HRX := Lib.hid (show decide (Lib.minOf [ma, mi, pa] < 0 ∨ 999999 < Lib.maxOf [ma, mi, pa]) = (decide (ma < 0 ∨ 999999 < ma) || (decide (mi < 0 ∨ 999999 < mi) || decide (pa < 0 ∨ 999999 < pa))) by
    rw [Bool.eq_iff_iff]; simp only [decide_eq_true_eq, Bool.or_eq_true]; exact HR)
  clear HT HR
  obtain ⟨rg, hrg⟩ : ∃ r : Prop, r = (Lib.minOf [ma, mi, pa] < 0 ∨ 999999 < Lib.maxOf [ma, mi, pa]) := ⟨_, rfl⟩
  have HC := Lib.hid (fun (W : World) (hW : Below w.heap.size w W) => containsF21 (.slice a pre.length cap) pre W (HSL.out.below (Nat.le_refl _) hW))
  have HBX := Lib.hid (bx5_new w (.string pj) (.int .i64 ma) (.int .i64 mi) (.int .i64 pa) (.slice a pre.length cap) 24)
  have HB1 := Lib.hid ((Below.refl w.heap.size w).alloc (Nat.le_refl _) (.cells #[.string pj, .int .i64 ma, .int .i64 mi, .int .i64 pa, .slice a pre.length cap] 24))
  clear hrg rg
  cases hp : projB pj.data.toList
  · rw [hp] at HI
    clear hp HEE
    go_enter Tryz.func5, Tryz.ntmps5
    go_wp2_with (go_at_call 19; refine (HI.out _).mono ?_; rintro e w1 ⟨rfl, hb1⟩)
    go_ret2
    exact ⟨rfl, below_call HB1.out HB1.out.size hb1⟩
  · rw [hp] at HI HEE
    rw [if_neg (by decide)]
    clear hp
    by_cases hr : Lib.minOf [ma, mi, pa] < 0 ∨ 999999 < Lib.maxOf [ma, mi, pa]
    · rw [if_pos hr]
      have HRT := Lib.hid (HRX.out.symm.trans (decide_eq_true hr))
      clear hr HEE HRX
      generalize decide (ma < 0 ∨ 999999 < ma) = b1 at *
      generalize decide (mi < 0 ∨ 999999 < mi) = b2 at *
      generalize decide (pa < 0 ∨ 999999 < pa) = b3 at *
      cases b1 <;> cases b2 <;> cases b3
      · exact absurd HRT.out (by decide)
      all_goals
        go_enter Tryz.func5, Tryz.ntmps5
        go_wp2_with (first
          | (go_at_call 19; refine (HI.out _).mono ?_; rintro e w1 ⟨rfl, hb1⟩; have n1 := (HBX.out.below hb1).c1; have n2 := (HBX.out.below hb1).c2; have n3 := (HBX.out.below hb1).c3; have n4 := (HBX.out.below hb1).c4)
          | (go_at_call 20; (with_reducible refine (HO1.out _).mono ?_); rintro e w2 ⟨rfl, rfl⟩)
          | (go_at_call 20; (with_reducible refine (HO2.out _).mono ?_); rintro e w2 ⟨rfl, rfl⟩)
          | (go_at_call 20; (with_reducible refine (HO3.out _).mono ?_); rintro e w2 ⟨rfl, rfl⟩))
        go_ret2
        exact ⟨rfl, below_call HB1.out HB1.out.size hb1⟩
    · rw [if_neg hr]
      have HRT := HRX.out.symm.trans (decide_eq_false hr)
      simp only [Bool.or_eq_false_iff] at HRT
      obtain ⟨e1, e2, e3⟩ := HRT
      rw [e1] at HO1
      rw [e2] at HO2
      rw [e3] at HO3
      clear e1 e2 e3 HRX
      by_cases h5 : 5 < pre.length
      · have d3 : decide ((5 : Int) < (pre.length : Int)) = true := by simp; omega
        rw [if_pos h5]
        clear hr h5 HEE
        go_enter Tryz.func5, Tryz.ntmps5
        go_wp2_with (first
          | (go_at_call 19; refine (HI.out _).mono ?_; rintro e w1 ⟨rfl, hb1⟩; have n1 := (HBX.out.below hb1).c1; have n2 := (HBX.out.below hb1).c2; have n3 := (HBX.out.below hb1).c3; have n4 := (HBX.out.below hb1).c4)
          | (go_at_call 20; (with_reducible refine (HO1.out _).mono ?_); rintro e w2 ⟨rfl, rfl⟩)
          | (go_at_call 20; (with_reducible refine (HO2.out _).mono ?_); rintro e w2 ⟨rfl, rfl⟩)
          | (go_at_call 20; (with_reducible refine (HO3.out _).mono ?_); rintro e w2 ⟨rfl, rfl⟩))
        go_ret2
        exact ⟨rfl, below_call HB1.out HB1.out.size hb1⟩
      · have d3 : decide ((5 : Int) < (pre.length : Int)) = false := by simp; omega
        have hab : anyBad pre = true := by
          rcases HEE.out with h | h | h | h
          · cases h
          · exact absurd h hr
          · exact absurd h h5
          · exact h
        rw [if_neg h5, if_pos hab]
        rw [hab] at HC
        clear hr h5 HEE hab
        go_enter Tryz.func5, Tryz.ntmps5
        go_wp2_with (first
          | (go_at_call 19; refine (HI.out _).mono ?_; rintro e w1 ⟨rfl, hb1⟩; have n1 := (HBX.out.below hb1).c1; have n2 := (HBX.out.below hb1).c2; have n3 := (HBX.out.below hb1).c3; have n4 := (HBX.out.below hb1).c4; have hbN := below_call HB1.out HB1.out.size hb1)
          | (go_at_call 20; (with_reducible refine (HO1.out _).mono ?_); rintro e w2 ⟨rfl, rfl⟩)
          | (go_at_call 20; (with_reducible refine (HO2.out _).mono ?_); rintro e w2 ⟨rfl, rfl⟩)
          | (go_at_call 20; (with_reducible refine (HO3.out _).mono ?_); rintro e w2 ⟨rfl, rfl⟩)
          | (go_at_call 15; (with_reducible refine (HC.out _ hbN).mono ?_); rintro e w3 ⟨rfl, hbc⟩))
        go_ret2
        exact ⟨rfl, below_call hbN hbN.size hbc⟩
end Go.Proofs.YtnpnoohnkbpokaaGreatDoor

/- What Text answers: the walk. -/
import Derived.Test.YtnpnoohnkbpokaaDoorVerL
namespace Go.Proofs.YtnpnoohnkbpokaaDoor
open Go.RowKit Go.Lib

theorem projB_size {l : List UInt8} (h : projB l = true) : l.length ≤ 40 := by
  unfold projB nameB at h
  simp only [Bool.and_eq_true, decide_eq_true_eq] at h
  exact h.1.1.1.2

set_option maxHeartbeats 4000000 in
set_option maxRecDepth 100000 in
theorem Text_bad (v : Value) (x : Vr) (w : World) (h : VrV w v x) (hz : x.pj.size ≤ 1048576) (hE : projB x.pj.data.toList = false ∨ minV x < 0 ∨ 999999 < maxV x ∨ 5 < x.pre.length ∨ anyBad x.pre = true) :
    Calls Tryd.prog 22 #[v] w fun e w' => e = .returned (.tuple #[.string ⟨#[]⟩, .int .i64 (txtErr x)]) ∧ Below w.heap.size w w' := by
  obtain ⟨p, rfl, hsl⟩ := h
  obtain ⟨a, cap, rfl, hl1, hl2, _⟩ := id hsl
  have HSL := Lib.hid hsl
  obtain ⟨pj, ma, mi, pa, pre⟩ := x
  simp only at hsl hl1 hl2 hz ⊢
  unfold maxLen at hl2
  clear hsl
  have HI := Lib.hid (fun W => isProject_any pj W (by omega))
  have HT := Lib.hid (show txtErr ⟨pj, ma, mi, pa, pre⟩ = if projB pj.data.toList = false then 3 else if Lib.minOf [ma, mi, pa] < 0 ∨ 999999 < Lib.maxOf [ma, mi, pa] then 2 else if 5 < pre.length then 4 else if anyBad pre = true then 8 else if 40 < (txtF ⟨pj, ma, mi, pa, pre⟩).size then 4 else 0 from rfl)
  have HEE := Lib.hid (show projB pj.data.toList = false ∨ Lib.minOf [ma, mi, pa] < 0 ∨ 999999 < Lib.maxOf [ma, mi, pa] ∨ 5 < pre.length ∨ anyBad pre = true from hE)
  clear hE
  rw [HT.out]
  obtain ⟨mn, hmn⟩ : ∃ m, m = Lib.minOf [ma, mi, pa] := ⟨_, rfl⟩
  obtain ⟨mx, hmx⟩ : ∃ m, m = Lib.maxOf [ma, mi, pa] := ⟨_, rfl⟩
  have h3 := three (w.alloc (.cells #[.string pj, .int .i64 ma, .int .i64 mi, .int .i64 pa, .slice a pre.length cap] 43)) ma mi pa 3
  rw [World.size_alloc] at h3
  have HMn := Lib.hid (Tryd.slices_Min_int (w.heap.size + 1) 0 3 3 [ma, mi, pa] _ (by decide) (Nat.le_refl _) (by decide) h3)
  have HMx := Lib.hid (Tryd.slices_Max_int (w.heap.size + 1) 0 3 3 [ma, mi, pa] _ (by decide) (Nat.le_refl _) (by decide) h3)
  rw [show [ma, mi, pa].take 3 = [ma, mi, pa] from rfl, ← hmn] at HMn
  rw [show [ma, mi, pa].take 3 = [ma, mi, pa] from rfl, ← hmx] at HMx
  rw [← hmn, ← hmx] at HEE ⊢
  have HC := Lib.hid (fun (W : World) (hW : Below w.heap.size w W) => containsF16 (.slice a pre.length cap) pre W (HSL.out.below (Nat.le_refl _) hW))
  have hb2 : Below w.heap.size w ((w.alloc (.cells #[.string pj, .int .i64 ma, .int .i64 mi, .int .i64 pa, .slice a pre.length cap] 43)).alloc (.cells #[.int .i64 ma, .int .i64 mi, .int .i64 pa] 3)) := ((Below.refl _ _).alloc (Nat.le_refl _) _).alloc (by simp) _
  have HB2 := Lib.hid hb2
  clear h3 hmn hmx HT hb2
  cases hp : projB pj.data.toList
  · rw [hp] at HI
    clear hp HEE
    go_enter Tryd.func22, Tryd.ntmps22
    go_wp2_with (go_at_call 52; refine (HI.out _).mono ?_; rintro e w1 ⟨rfl, rfl⟩)
    go_ret2
    exact ⟨rfl, HB2.out⟩
  · rw [hp] at HI HEE
    rw [if_neg (by decide)]
    clear hp
    by_cases hn : mn < 0
    · have d1 : decide (mn < 0) = true := decide_eq_true hn
      rw [if_pos (Or.inl hn)]
      clear hn HEE
      go_enter Tryd.func22, Tryd.ntmps22
      go_wp2_with (first
        | (go_at_call 52; refine (HI.out _).mono ?_; rintro e w1 ⟨rfl, rfl⟩)
        | (go_at_call 53; (with_reducible refine HMn.out.mono ?_); rintro e w1 ⟨rfl, rfl⟩)
        | (go_at_call 54; (with_reducible refine HMx.out.mono ?_); rintro e w1 ⟨rfl, rfl⟩))
      go_ret2
      exact ⟨rfl, HB2.out⟩
    · have d1 : decide (mn < 0) = false := decide_eq_false hn
      by_cases hx : 999999 < mx
      · have d2 : decide (999999 < mx) = true := decide_eq_true hx
        rw [if_pos (Or.inr hx)]
        clear hn hx HEE
        go_enter Tryd.func22, Tryd.ntmps22
        go_wp2_with (first
          | (go_at_call 52; refine (HI.out _).mono ?_; rintro e w1 ⟨rfl, rfl⟩)
          | (go_at_call 53; (with_reducible refine HMn.out.mono ?_); rintro e w1 ⟨rfl, rfl⟩)
          | (go_at_call 54; (with_reducible refine HMx.out.mono ?_); rintro e w1 ⟨rfl, rfl⟩))
        go_ret2
        exact ⟨rfl, HB2.out⟩
      · have d2 : decide (999999 < mx) = false := decide_eq_false hx
        rw [if_neg (by omega)]
        by_cases h5 : 5 < pre.length
        · have d3 : decide ((5 : Int) < (pre.length : Int)) = true := by simp; omega
          rw [if_pos h5]
          clear hn hx h5 HEE
          go_enter Tryd.func22, Tryd.ntmps22
          go_wp2_with (first
            | (go_at_call 52; refine (HI.out _).mono ?_; rintro e w1 ⟨rfl, rfl⟩)
            | (go_at_call 53; (with_reducible refine HMn.out.mono ?_); rintro e w1 ⟨rfl, rfl⟩)
            | (go_at_call 54; (with_reducible refine HMx.out.mono ?_); rintro e w1 ⟨rfl, rfl⟩))
          go_ret2
          exact ⟨rfl, HB2.out⟩
        · have d3 : decide ((5 : Int) < (pre.length : Int)) = false := by simp; omega
          have hab : anyBad pre = true := by
            rcases HEE.out with h | h | h | h | h
            · cases h
            · exact absurd h hn
            · exact absurd h hx
            · exact absurd h h5
            · exact h
          rw [if_neg h5, if_pos hab]
          rw [hab] at HC
          clear hn hx h5 HEE hab
          go_enter Tryd.func22, Tryd.ntmps22
          go_wp2_with (first
            | (go_at_call 52; refine (HI.out _).mono ?_; rintro e w1 ⟨rfl, rfl⟩)
            | (go_at_call 53; (with_reducible refine HMn.out.mono ?_); rintro e w1 ⟨rfl, rfl⟩)
            | (go_at_call 54; (with_reducible refine HMx.out.mono ?_); rintro e w1 ⟨rfl, rfl⟩)
            | (go_at_call 55; (with_reducible refine (HC.out _ HB2.out).mono ?_); rintro e w2 ⟨rfl, hbc⟩))
          go_ret2
          exact ⟨rfl, below_call HB2.out HB2.out.size hbc⟩
end Go.Proofs.YtnpnoohnkbpokaaDoor

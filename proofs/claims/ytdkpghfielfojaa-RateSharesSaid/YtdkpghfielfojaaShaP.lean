/- Rates of shares, as numbers. -/
import Derived.Test.YtdkpghfielfojaaShaE
namespace Go.Proofs.Ytdkpghfielfojaa
open Go.RowKit Go.Lib

theorem keep_range {came L : Int} (h0 : 0 ≤ L) : 0 ≤ keepV came L ∧ keepV came L ≤ 1000000 := by
  unfold keepV
  split
  · omega
  · rename_i h
    refine ⟨Int.ediv_nonneg (by omega) (by omega), ?_⟩
    have h1 : L * 1000000 ≤ 1000000 * came := by omega
    exact Int.ediv_le_of_le_mul (by omega) h1
theorem keep_mono {a b L : Int} (h0 : 0 ≤ L) (h : a ≤ b) : keepV b L ≤ keepV a L := by
  have hr := keep_range (came := b) h0
  unfold keepV at *
  by_cases ha : a ≤ L
  · rw [if_pos ha]; exact hr.2
  · rw [if_neg ha, if_neg (by omega)]
    have hq := Int.mul_ediv_self_le (x := L * 1000000) (k := b) (by omega)
    have hq0 : 0 ≤ L * 1000000 / b := Int.ediv_nonneg (by omega) (by omega)
    apply Int.le_ediv_of_mul_le (by omega)
    have : L * 1000000 / b * a ≤ L * 1000000 / b * b := Int.mul_le_mul_of_nonneg_left h hq0
    rw [Int.mul_comm (L * 1000000 / b) b] at this
    omega
theorem keep_sum {came L : Int} (h0 : 0 ≤ L) (h1 : 0 ≤ came) : 0 ≤ came * keepV came L / 1000000 ∧ came * keepV came L / 1000000 ≤ min came L := by
  have hk := keep_range (came := came) h0
  refine ⟨Int.ediv_nonneg (Int.mul_nonneg h1 hk.1) (by omega), ?_⟩
  unfold keepV
  split
  · rename_i h
    rw [Int.mul_ediv_cancel _ (by omega)]; omega
  · rename_i h
    have hq := Int.mul_ediv_self_le (x := L * 1000000) (k := came) (by omega)
    have : came * (L * 1000000 / came) / 1000000 ≤ L := by
      apply Int.ediv_le_of_le_mul (by omega)
      omega
    omega
theorem cellsR_at (line : Int) : ∀ (l : List Sh) (i : Nat) (h : i < l.length), (cellsR line l)[i * 2]? = some (.string l[i].key) ∧ (cellsR line l)[i * 2 + 1]? = some (.int .i64 (keepV l[i].came line))
  | x :: l, 0, _ => ⟨rfl, rfl⟩
  | x :: l, i + 1, h => by
    have := cellsR_at line l i (by simpa using h)
    rw [show (i + 1) * 2 = i * 2 + 2 by omega]
    exact this
theorem own_row {w : World} {base e n : Nat} {v : Value} {xs : List Value} (h : w.ownsRow base e 2 v n xs) (hn : 0 < n) : ∃ g cap, v = .slice (some ⟨g, 0, none⟩) n cap ∧ n ≤ cap ∧ cap ≤ 9223372036854775807 ∧ g < w.heap.size ∧ ∀ q x, xs[q]? = some x → w.cell? ⟨g, q, none⟩ = some x := by
  obtain ⟨hlen, h⟩ := h
  rcases h with ⟨rfl, h0⟩ | ⟨g, cap, cur, rfl, _, hg, hn2, hc, hsz, htk⟩
  · rw [h0] at hlen; simp at hlen; omega
  · refine ⟨g, cap, rfl, hn2, by unfold maxLen at hc; omega, (Array.getElem?_eq_some_iff.1 hg).1, fun q x hq => ?_⟩
    have hql : q < xs.length := (List.getElem?_eq_some_iff.1 hq).1
    rw [← htk] at hq
    simp only [World.cell?, hg]
    rw [List.getElem?_take_of_lt (by omega)] at hq
    simpa using hq
end Go.Proofs.Ytdkpghfielfojaa

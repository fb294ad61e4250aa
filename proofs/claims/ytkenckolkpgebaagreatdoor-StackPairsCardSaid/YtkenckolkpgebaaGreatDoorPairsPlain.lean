/- The pairs of two rows: they rise and are of frames that are alike, and there are as many the other way round: lists alone. -/
import Derived.Test.YtkenckolkpgebaaGreatDoorAlignPlain
namespace Go.Proofs.YtkenckolkpgebaaGreatDoor
open Go.RowKit

theorem alk_symm (x y : Fr) : alk x y = alk y x := by
  unfold alk
  rw [decide_eq_decide.2 (eq_comm (a := x.m)), decide_eq_decide.2 (eq_comm (a := x.f)), decide_eq_decide.2 (eq_comm (a := x.i))]
theorem alk_self (x : Fr) : alk x x = true := by simp [alk]
theorem lcs_symm : ∀ (n : Nat) (a b : List Fr), a.length + b.length ≤ n → lcs a b = lcs b a
  | _, [], b, _ => by rw [lcs_nil, lcs_nil']
  | _, _ :: _, [], _ => by rw [lcs_nil, lcs_nil']
  | 0, _ :: _, _ :: _, h => by simp at h
  | n + 1, x :: a, y :: b, h => by
    simp only [List.length_cons] at h
    rcases hx : alk x y with _ | _
    · rw [lcs_miss hx, lcs_miss (by rw [alk_symm]; exact hx), lcs_symm n a (y :: b) (by simp; omega), lcs_symm n (x :: a) b (by simp; omega)]
      exact Nat.max_comm _ _
    · rw [lcs_hit hx, lcs_hit (by rw [alk_symm]; exact hx), lcs_symm n a b (by omega)]
theorem lcs_self : ∀ a : List Fr, lcs a a = a.length
  | [] => by rw [lcs_nil]; rfl
  | x :: a => by rw [lcs_hit (alk_self x), lcs_self a, List.length_cons]; omega
theorem prg_len (a b : List Fr) : (prg a b a.length 0 0).length = lcs a b := by
  rw [prg_count a.length 0 0 (by omega)]; simp [T]
theorem prg_len_symm (a b : List Fr) : (prg b a b.length 0 0).length = (prg a b a.length 0 0).length := by
  rw [prg_len, prg_len, lcs_symm _ b a (Nat.le_refl _)]
theorem prg_len_le (a b : List Fr) : (prg a b a.length 0 0).length ≤ a.length ∧ (prg a b a.length 0 0).length ≤ b.length :=
  ⟨prg_length _ _ _, by rw [prg_len_symm b a]; exact prg_length _ _ _⟩
theorem prg_len_self (a : List Fr) : (prg a a a.length 0 0).length = a.length := by rw [prg_len, lcs_self]

theorem prg_all {a b : List Fr} : ∀ (n i j : Nat) (p : Nat × Nat), p ∈ prg a b n i j → i ≤ p.1 ∧ j ≤ p.2 ∧ ∃ (h1 : p.1 < a.length) (h2 : p.2 < b.length), alk a[p.1] b[p.2] = true
  | 0, _, _, p, h => by cases h
  | n + 1, i, j, p, h => by
    by_cases hi : i < a.length
    · obtain ⟨_, f2, _, f4⟩ := fstA_prop a[i] b b.length j (by omega)
      by_cases hc : fstA a[i] b j < b.length ∧ 1 + T a b (i + 1) (fstA a[i] b j + 1) = T a b i j
      · have hj : j ≤ b.length := by
          apply Classical.byContradiction
          intro hn
          rw [fstA_end (by omega)] at hc
          omega
        rw [prg_take hi hc.1 hc.2, List.mem_cons] at h
        rcases h with rfl | h
        · exact ⟨Nat.le_refl _, f2 hj, hi, hc.1, f4 hc.1⟩
        · obtain ⟨h1, h2, h3⟩ := prg_all n _ _ p h
          have := f2 hj
          exact ⟨by omega, by omega, h3⟩
      · rw [prg_skip hi hc] at h
        obtain ⟨h1, h2, h3⟩ := prg_all n _ _ p h
        exact ⟨by omega, h2, h3⟩
    · rw [prg_end (by omega)] at h; cases h
theorem prg_pw {a b : List Fr} : ∀ (n i j : Nat), (prg a b n i j).Pairwise fun p q => p.1 < q.1 ∧ p.2 < q.2
  | 0, _, _ => List.Pairwise.nil
  | n + 1, i, j => by
    by_cases hi : i < a.length
    · by_cases hc : fstA a[i] b j < b.length ∧ 1 + T a b (i + 1) (fstA a[i] b j + 1) = T a b i j
      · rw [prg_take hi hc.1 hc.2, List.pairwise_cons]
        refine ⟨fun q hq => ?_, prg_pw n _ _⟩
        obtain ⟨h1, h2, _⟩ := prg_all n _ _ q hq
        exact ⟨by show i < q.1; omega, by show fstA a[i] b j < q.2; omega⟩
      · rw [prg_skip hi hc]; exact prg_pw n _ _
    · rw [prg_end (by omega)]; exact List.Pairwise.nil
theorem prg_at {a b : List Fr} {n k : Nat} (h : k < (prg a b n 0 0).length) : ∃ (h1 : (prg a b n 0 0)[k].1 < a.length) (h2 : (prg a b n 0 0)[k].2 < b.length), alk a[(prg a b n 0 0)[k].1] b[(prg a b n 0 0)[k].2] = true :=
  (prg_all n 0 0 _ (List.getElem_mem h)).2.2
theorem prg_rise {a b : List Fr} {n k : Nat} (h : k + 1 < (prg a b n 0 0).length) : (prg a b n 0 0)[k].1 < (prg a b n 0 0)[k + 1].1 ∧ (prg a b n 0 0)[k].2 < (prg a b n 0 0)[k + 1].2 :=
  List.pairwise_iff_getElem.1 (prg_pw n 0 0) k (k + 1) (by omega) h (by omega)
end Go.Proofs.YtkenckolkpgebaaGreatDoor

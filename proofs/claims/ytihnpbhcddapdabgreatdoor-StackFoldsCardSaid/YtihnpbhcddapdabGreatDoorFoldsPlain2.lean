/- What is folded unfolds: the checks of the runs, of lists alone. -/
import Derived.Test.YtihnpbhcddapdabGreatDoorFoldsPlain
namespace Go.Proofs.YtihnpbhcddapdabGreatDoor
open Go.RowKit

theorem okRuns_tot {l : List Fr} : ∀ {rs : List Rn} {a i : Nat}, okRuns l rs a i → (a : Int) + totL rs = i
  | [], a, i, h => by rw [okRuns] at h; subst h; simp [totL]
  | r :: rs, a, i, h => by
    obtain ⟨lo, t, rfl, _, _, _, _, h6⟩ := h
    have := okRuns_tot h6
    rw [totL]
    simp only
    rw [← this]
    push_cast
    omega
theorem onceOf_append (l : List Fr) (a b : List Rn) : onceOf l (a ++ b) = onceOf l a ++ onceOf l b := by
  induction a with
  | nil => rfl
  | cons x a ih => rw [List.cons_append, onceOf, onceOf, ih, List.append_assoc]
theorem okRuns_sum {l : List Fr} : ∀ {rs : List Rn} {a i : Nat}, okRuns l rs a i → sumL rs = (onceOf l rs).length
  | [], _, _, _ => rfl
  | r :: rs, a, i, h => by
    obtain ⟨lo, t, rfl, h2, h3, h4, _, h6⟩ := h
    have hlo := lo_le (lo := lo) h3
    rw [sumL, okRuns_sum h6, onceOf, List.length_append, List.length_take, List.length_drop]
    simp only [Int.toNat_natCast]
    omega
theorem okRuns_at {l : List Fr} {rs : List Rn} {a i k : Nat} (h : okRuns l rs a i) (hk : k < rs.length) :
    ∃ p lo t : Nat, rs[k] = ⟨p, lo, t⟩ ∧ 1 ≤ lo ∧ 1 ≤ t ∧ p + lo * t ≤ l.length ∧ okRuns l (rs.take k) a p ∧ okRuns l (rs.take (k + 1)) a (p + lo * t) := by
  have e : rs = rs.take k ++ rs[k] :: rs.drop (k + 1) := by simp
  rw [e] at h
  obtain ⟨p, h1, h2⟩ := okRuns_split h
  obtain ⟨lo, t, h3, h4, h5, h6, h7, h8⟩ := h2
  refine ⟨p, lo, t, h3, h4, h5, h6, h1, ?_⟩
  rw [List.take_succ_eq_append_getElem hk]
  exact okRuns_append h1 ⟨lo, t, h3, h4, h5, h6, h7, rfl⟩
theorem okRuns_ok {l : List Fr} (hl : l.length ≤ 200) {rs : List Rn} {a i : Nat} (h : okRuns l rs a i) : ∀ x ∈ rs, x.ok = true := by
  intro x hx
  obtain ⟨k, hk, rfl⟩ := List.mem_iff_getElem.1 hx
  obtain ⟨p, lo, t, e, h1, h2, h3, _⟩ := okRuns_at h hk
  rw [e, Rn.ok_iff]
  have a1 := lo_le (lo := lo) h2
  have a2 := lo_le (lo := t) h1
  rw [Nat.mul_comm] at a2
  simp only
  omega
theorem runsErr_fold {l : List Fr} (hl : l.length ≤ 200) : runsErr (foldN l) (onceOf l (foldN l)).length = 0 := by
  have h := foldN_ok l
  have ht := okRuns_tot h
  rw [runsErr_end (Nat.le_refl _) (okRuns_ok hl h) (okRuns_sum h), if_neg (by omega)]
  intro i hi
  obtain ⟨p, lo, t, e, _, _, _, h5, _⟩ := okRuns_at h hi
  have := okRuns_tot h5
  rw [List.getD_eq_getElem?_getD, List.getElem?_eq_getElem hi, Option.getD_some, e]
  simp only
  omega
theorem once_mem {l : List Fr} {x : Fr} : ∀ {rs : List Rn}, x ∈ onceOf l rs → x ∈ l
  | [], h => by cases h
  | r :: rs, h => by
    rw [onceOf] at h
    rcases List.mem_append.1 h with h | h
    · exact List.mem_of_mem_drop (List.mem_of_mem_take h)
    · exact once_mem h
theorem once_le {l : List Fr} {rs : List Rn} {i : Nat} (h : okRuns l rs 0 i) (hl : l.length ≤ 200) : (onceOf l rs).length ≤ i := by
  have h1 := okRuns_sum h
  have h2 := okRuns_tot h
  have h3 : sumL rs ≤ totL rs := by
    have hk := okRuns_ok hl h
    clear h h1 h2
    induction rs with
    | nil => simp [sumL, totL]
    | cons r rs ih =>
      obtain ⟨g1, g2, g3, g4⟩ := r.ok_iff.1 (hk r (by simp))
      have := ih fun x hx => hk x (by simp [hx])
      rw [sumL, totL]
      have e1 : r.long * 1 ≤ r.long * r.times := Int.mul_le_mul_of_nonneg_left g3 (by omega)
      omega
  omega
theorem frsErr1_all : ∀ {l : List Fr}, frsErr1 l = 0 → ∀ x ∈ l, frErr x = 0
  | [], _, _, h => by cases h
  | y :: l, h, x, hx => by
    rw [frsErr1] at h
    by_cases hy : frErr y = 0
    · rw [if_neg (by simp [hy])] at h
      rcases List.mem_cons.1 hx with rfl | hx
      · exact hy
      · exact frsErr1_all h x hx
    · rw [if_pos hy] at h
      exact absurd h hy
theorem frsErr_once {l : List Fr} (he : frsErr l = 0) {rs : List Rn} {i : Nat} (h : okRuns l rs 0 i) (hi : i ≤ l.length) : frsErr (onceOf l rs) = 0 := by
  have hl := frsErr_zero he
  have hlen := once_le h hl
  rw [frsErr_small (by omega)]
  rw [frsErr_small hl] at he
  have hz : ∀ x ∈ l, frErr x = 0 := frsErr1_all he
  exact frsErr1_take (k := (onceOf l rs).length) (Nat.le_refl _) fun x hx => hz x (once_mem (List.mem_of_mem_take hx))
end Go.Proofs.YtihnpbhcddapdabGreatDoor

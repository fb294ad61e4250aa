/- What is folded unfolds: lists alone. -/
import Derived.Test.YtihnpbhcddapdabGreatDoorFoldPlain
namespace Go.Proofs.YtihnpbhcddapdabGreatDoor
open Go.RowKit

/-- Runs that cover l from a to i. -/
def okRuns (l : List Fr) : List Rn → Nat → Nat → Prop
  | [], a, i => a = i
  | r :: rs, a, i => ∃ lo t : Nat, r = ⟨a, lo, t⟩ ∧ 1 ≤ lo ∧ 1 ≤ t ∧ a + lo * t ≤ l.length ∧ rep t ((l.drop a).take lo) = (l.drop a).take (lo * t) ∧ okRuns l rs (a + lo * t) i
/-- The frames of each run once. -/
def onceOf (l : List Fr) : List Rn → List Fr
  | [] => []
  | r :: rs => (l.drop r.start.toNat).take r.long.toNat ++ onceOf l rs

theorem okRuns_append {l : List Fr} : ∀ {xs ys : List Rn} {a b i : Nat}, okRuns l xs a b → okRuns l ys b i → okRuns l (xs ++ ys) a i
  | [], _, _, _, _, h, k => by rw [okRuns] at h; subst h; exact k
  | x :: xs, ys, a, b, i, ⟨lo, t, h1, h2, h3, h4, h5, h6⟩, k => ⟨lo, t, h1, h2, h3, h4, h5, okRuns_append h6 k⟩
theorem okRuns_split {l : List Fr} : ∀ {xs ys : List Rn} {a i : Nat}, okRuns l (xs ++ ys) a i → ∃ b, okRuns l xs a b ∧ okRuns l ys b i
  | [], _, a, _, h => ⟨a, rfl, h⟩
  | x :: xs, ys, a, i, h => by
    obtain ⟨lo, t, h1, h2, h3, h4, h5, h6⟩ := h
    obtain ⟨b, k1, k2⟩ := okRuns_split h6
    exact ⟨b, ⟨lo, t, h1, h2, h3, h4, h5, k1⟩, k2⟩

theorem lo_le {lo t : Nat} (h : 1 ≤ t) : lo ≤ lo * t := by
  have := Nat.mul_le_mul_left lo h
  omega

theorem unf_once {l : List Fr} : ∀ {rs : List Rn} {a i : Nat}, okRuns l rs a i → unf (onceOf l rs) rs = (l.drop a).take (i - a) ∧ a ≤ i
  | [], a, i, h => by rw [okRuns] at h; subst h; simp [unf]
  | r :: rs, a, i, h => by
    obtain ⟨lo, t, rfl, h2, h3, h4, h5, h6⟩ := h
    obtain ⟨k1, k2⟩ := unf_once h6
    have hlo := lo_le (lo := lo) h3
    have hx : ((l.drop a).take lo).length = lo := by rw [List.length_take, List.length_drop]; omega
    refine ⟨?_, by omega⟩
    rw [onceOf, unf]
    simp only [Int.toNat_natCast]
    generalize (l.drop a).take lo = X at *
    rw [List.take_append_of_le_length (by omega), List.take_of_length_le (by omega), List.drop_append_of_le_length (by omega), List.drop_of_length_le (by omega), List.nil_append, k1, h5]
    rw [show i - a = lo * t + (i - (a + lo * t)) by omega, List.take_add, List.drop_drop]

theorem okRuns_one {l : List Fr} {a lo t : Nat} (h1 : 1 ≤ lo) (h2 : 1 ≤ t) (h3 : a + lo * t ≤ l.length) (h4 : rep t ((l.drop a).take lo) = (l.drop a).take (lo * t)) : okRuns l [⟨a, lo, t⟩] a (a + lo * t) :=
  ⟨lo, t, rfl, h1, h2, h3, h4, rfl⟩

theorem okRuns_add {l : List Fr} {runs : List Rn} {i lo t : Nat} (h : okRuns l runs 0 i) (k : okRuns l [⟨i, lo, t⟩] i (i + lo * t)) (h1 : t = 1 → lo = 1) (hb : i + lo * t ≤ l.length) :
    okRuns l (addRun runs ⟨i, lo, t⟩) 0 (i + lo * t) := by
  rcases List.eq_nil_or_concat runs with rfl | ⟨ys, x, rfl⟩
  · exact okRuns_append h k
  · rw [List.concat_eq_append] at h ⊢
    by_cases hc : ((t : Nat) : Int) = 1 ∧ x.times = 1
    · rw [addRun_in hc.1 hc.2]
      obtain rfl : t = 1 := by omega
      obtain rfl := h1 rfl
      obtain ⟨b, k1, k2⟩ := okRuns_split h
      obtain ⟨lo', t', rfl, g2, g3, g4, g5, g6⟩ := k2
      have hx2 : ((t' : Nat) : Int) = 1 := hc.2
      obtain rfl : t' = 1 := by omega
      rw [okRuns] at g6
      have hb' : b + (lo' + 1) * 1 ≤ l.length := by omega
      refine okRuns_append k1 ⟨lo' + 1, 1, by simp, by omega, by omega, hb', by rw [Nat.mul_one]; simp [rep], ?_⟩
      rw [okRuns]; omega
    · rw [addRun_not hc]
      exact okRuns_append h k

theorem rep_mtch {r : List Fr} {lo : Nat} : ∀ t : Nat, 1 ≤ t → (∀ j, 1 ≤ j → j < t → mtch r lo j = true) → rep t (r.take lo) = r.take (lo * t)
  | 0, h, _ => by omega
  | 1, _, _ => by simp [rep]
  | t + 2, _, h => by
    have ih := rep_mtch (r := r) (lo := lo) (t + 1) (by omega) fun j h1 h2 => h j h1 (by omega)
    have hm := h (t + 1) (by omega) (by omega)
    unfold mtch at hm
    simp only [Bool.and_eq_true, decide_eq_true_eq] at hm
    rw [rep_succ, ih, show lo * (t + 2) = lo * (t + 1) + lo by rw [Nat.mul_succ lo (t + 1)], List.take_add]
    congr 1
    rw [hm.2, Nat.mul_comm]

theorem bestK_spec (r : List Fr) : ∀ k, k ≤ r.length / 2 → rep (bestK r k).2 (r.take (bestK r k).1) = r.take ((bestK r k).1 * (bestK r k).2) ∧ ((bestK r k).2 = 1 → (bestK r k).1 = 1)
  | 0, _ => by simp [bestK, rep]
  | k + 1, hk => by
    rw [bestK, stepB]
    split
    · rename_i h
      exact ⟨rep_mtch _ (timesN_ge r (k + 1)) fun j h1 h2 => (timesG_spec (l := r) (long := k + 1) r.length 1).1 j h1 h2, fun e => by simp only at e; omega⟩
    · exact bestK_spec r k (by omega)

theorem foldG_ok {l : List Fr} : ∀ (n : Nat) (runs : List Rn) (i : Nat), okRuns l runs 0 i → i ≤ l.length → l.length - i ≤ n → okRuns l (foldG l n runs i) 0 l.length
  | 0, runs, i, h, h1, h2 => by
    rw [foldG]
    obtain rfl : i = l.length := by omega
    exact h
  | n + 1, runs, i, h, h1, h2 => by
    rw [foldG]
    split
    · rename_i hi
      obtain ⟨b1, b2, b3⟩ := bestK_ok (l.drop i) (by rw [List.length_drop]; omega) _ (Nat.le_refl _)
      obtain ⟨b4, b5⟩ := bestK_spec (l.drop i) _ (Nat.le_refl _)
      change 1 ≤ (best (l.drop i)).1 at b1
      change 1 ≤ (best (l.drop i)).2 at b2
      change (best (l.drop i)).1 * (best (l.drop i)).2 ≤ (l.drop i).length at b3
      change rep (best (l.drop i)).2 ((l.drop i).take (best (l.drop i)).1) = (l.drop i).take ((best (l.drop i)).1 * (best (l.drop i)).2) at b4
      change (best (l.drop i)).2 = 1 → (best (l.drop i)).1 = 1 at b5
      rw [List.length_drop] at b3
      have e := Nat.mul_le_mul b1 b2
      generalize (best (l.drop i)).1 = lo at *
      generalize (best (l.drop i)).2 = t at *
      have hb : i + lo * t ≤ l.length := by omega
      exact foldG_ok n _ _ (okRuns_add h (okRuns_one b1 b2 hb b4) b5 hb) hb (by omega)
    · obtain rfl : i = l.length := by omega
      exact h
theorem foldN_ok (l : List Fr) : okRuns l (foldN l) 0 l.length := foldG_ok _ _ _ rfl (Nat.zero_le _) (by omega)
theorem fold_unf (l : List Fr) : unf (onceOf l (foldN l)) (foldN l) = l := by
  rw [(unf_once (foldN_ok l)).1]; simp
end Go.Proofs.YtihnpbhcddapdabGreatDoor

/- Digits as numbers: what a number is written as, and that two texts of one number are one. -/
import Derived.Test.YtnpnoohnkbpokaaDoorVerL
import Derived.Test.YtnpnoohnkbpokaaDoorVerP
import Derived.Sort.Walk0
namespace Go.Proofs.YtnpnoohnkbpokaaDoor
open Go.Lib

def stp (a : Nat) (b : UInt8) : Nat := a * 10 + (b.toNat - 48)
def dn (l : List UInt8) : Nat := l.foldl stp 0
theorem dg_rng {b : UInt8} (h : dg b = true) : 48 ≤ b.toNat ∧ b.toNat ≤ 57 := by
  rw [dg_eq] at h; have := of_decide_eq_true h; omega
theorem dn_lt : ∀ (l : List UInt8) (a : Nat), l.all dg = true → l.foldl stp a < (a + 1) * 10 ^ l.length ∧ a * 10 ^ l.length ≤ l.foldl stp a
  | [], a, _ => by simp
  | b :: l, a, h => by
    rw [List.all_cons, Bool.and_eq_true] at h
    have hb := dg_rng h.1
    have ih := dn_lt l (stp a b) h.2
    have h1 : (stp a b + 1) * 10 ^ l.length ≤ (a + 1) * 10 * 10 ^ l.length := Nat.mul_le_mul_right _ (by unfold stp; omega)
    have h2 : a * 10 * 10 ^ l.length ≤ stp a b * 10 ^ l.length := Nat.mul_le_mul_right _ (by unfold stp; omega)
    rw [List.foldl_cons, List.length_cons, Nat.pow_succ, Nat.mul_comm (10 ^ l.length) 10, ← Nat.mul_assoc, ← Nat.mul_assoc]
    omega
theorem dn_inj : ∀ (l m : List UInt8) (a c : Nat), l.length = m.length → l.all dg = true → m.all dg = true → l.foldl stp a = m.foldl stp c → a = c ∧ l = m
  | [], [], a, c, _, _, _, h => ⟨h, rfl⟩
  | b :: l, d :: m, a, c, hl, h1, h2, h => by
    rw [List.all_cons, Bool.and_eq_true] at h1 h2
    have hb := dg_rng h1.1
    have hd := dg_rng h2.1
    have ih := dn_inj l m (stp a b) (stp c d) (by simpa using hl) h1.2 h2.2 h
    have e := ih.1
    unfold stp at e
    refine ⟨by omega, ?_⟩
    rw [ih.2, UInt8.toNat_inj.1 (show b.toNat = d.toNat by omega)]
theorem decFrom_dn : ∀ (l : List UInt8) (a : Nat), l.all dg = true → Lib.decFrom a l = some (l.foldl stp a)
  | [], a, _ => rfl
  | b :: l, a, h => by
    rw [List.all_cons, Bool.and_eq_true] at h
    have hb := dg_rng h.1
    have hv : Lib.digitVal b = some (b.toNat - 48) := by unfold Lib.digitVal; rw [if_pos (by omega)]
    rw [Lib.decFrom, hv]
    exact decFrom_dn l (stp a b) h.2
theorem numV_dn {l : List UInt8} (h0 : l ≠ []) (h : l.all dg = true) : numV l = (dn l : Int) := by
  unfold numV
  cases l with
  | nil => exact absurd rfl h0
  | cons b r =>
    have hb := List.all_eq_true.1 h b (by simp)
    have hb2 := dg_rng hb
    have h45 : (b == 45) = false := by rw [beq_eq_false_iff_ne]; rintro rfl; exact absurd hb2.1 (by decide)
    have h43 : (b == 43) = false := by rw [beq_eq_false_iff_ne]; rintro rfl; exact absurd hb2.1 (by decide)
    have hn := decFrom_dn (b :: r) 0 h
    rw [Lib.atoi, h45, h43]
    simp only [Lib.decNat, hn]
    rfl
theorem numOk_parts {n : Nat} {l : List UInt8} (h : numOk n l = true) : l ≠ [] ∧ l.length ≤ n ∧ (1 < l.length → l.headD 0 ≠ 48) ∧ l.all dg = true := by
  unfold numOk at h
  simp only [Bool.and_eq_true, decide_eq_true_eq, Bool.not_eq_true', Bool.and_eq_false_iff, decide_eq_false_iff_not] at h
  obtain ⟨⟨⟨h1, h2⟩, h3⟩, h4⟩ := h
  refine ⟨h1, h2, fun hl e => ?_, h4⟩
  rcases h3 with h3 | h3
  · exact h3 hl
  · rw [e] at h3; exact absurd h3 (by decide)
theorem dn_low {l : List UInt8} (hl : 1 < l.length) (h0 : l.headD 0 ≠ 48) (h : l.all dg = true) : 10 ^ (l.length - 1) ≤ dn l := by
  cases l with
  | nil => simp at hl
  | cons b t =>
    rw [List.all_cons, Bool.and_eq_true] at h
    have hb := dg_rng h.1
    have hb48 : b.toNat ≠ 48 := fun e => h0 (UInt8.toNat_inj.1 e)
    have := (dn_lt t (stp 0 b) h.2).2
    have h1 : 1 * 10 ^ t.length ≤ stp 0 b * 10 ^ t.length := Nat.mul_le_mul_right _ (by unfold stp; omega)
    show 10 ^ (t.length + 1 - 1) ≤ t.foldl stp (stp 0 b)
    rw [Nat.add_sub_cancel]
    omega
theorem num_one {l m : List UInt8} (hl : numOk 6 l = true) (hm : numOk 6 m = true) (h : numV l = numV m) : l = m := by
  obtain ⟨l0, l1, l2, l3⟩ := numOk_parts hl
  obtain ⟨m0, m1, m2, m3⟩ := numOk_parts hm
  rw [numV_dn l0 l3, numV_dn m0 m3] at h
  have h' : dn l = dn m := by omega
  have key : ∀ {x y : List UInt8}, y ≠ [] → (1 < x.length → x.headD 0 ≠ 48) → x.all dg = true → y.all dg = true → y.length < x.length → dn x ≠ dn y := by
    intro x y y0 x2 x3 y3 hlt e
    have hy1 : 0 < y.length := List.length_pos_iff.2 y0
    have a := dn_low (by omega) (x2 (by omega)) x3
    have b := (dn_lt y 0 y3).1
    have c : 10 ^ y.length ≤ 10 ^ (x.length - 1) := Nat.pow_le_pow_right (by omega) (by omega)
    unfold dn at *
    omega
  rcases Nat.lt_trichotomy l.length m.length with hlt | he | hgt
  · exact absurd h'.symm (key l0 m2 m3 l3 hlt)
  · exact (dn_inj l m 0 0 he l3 m3 h').2
  · exact absurd h' (key m0 l2 l3 m3 hgt)

theorem dec_dg : ∀ u : Nat, (Lib.decDigits u).all dg = true ∧ Lib.decDigits u ≠ [] ∧ dn (Lib.decDigits u) = u ∧ (0 < u → (Lib.decDigits u).headD 0 ≠ 48) := by
  intro u
  induction u using Nat.strongRecOn with
  | ind u ih =>
    have hd : ∀ d, d < 10 → dg (UInt8.ofNat (48 + d)) = true ∧ (UInt8.ofNat (48 + d)).toNat - 48 = d ∧ (0 < d → UInt8.ofNat (48 + d) ≠ 48) := by
      intro d hd
      have : d = 0 ∨ d = 1 ∨ d = 2 ∨ d = 3 ∨ d = 4 ∨ d = 5 ∨ d = 6 ∨ d = 7 ∨ d = 8 ∨ d = 9 := by omega
      rcases this with rfl | rfl | rfl | rfl | rfl | rfl | rfl | rfl | rfl | rfl <;> exact ⟨by decide, by decide, by decide⟩
    by_cases h : u < 10
    · rw [Lib.decDigits_one h]
      obtain ⟨h1, h2, h3⟩ := hd u h
      refine ⟨by rw [List.all_cons, h1]; rfl, by simp, ?_, fun h0 => h3 h0⟩
      show stp 0 _ = u
      unfold stp; omega
    · rw [Lib.decDigits, dif_neg h]
      obtain ⟨i1, i2, i3, i4⟩ := ih (u / 10) (by omega)
      obtain ⟨h1, h2, h3⟩ := hd (u % 10) (by omega)
      refine ⟨by rw [List.all_append, i1, List.all_cons, h1]; rfl, by simp, ?_, fun _ => ?_⟩
      · unfold dn at *
        rw [List.foldl_append, i3]
        show stp (u / 10) _ = u
        unfold stp; omega
      · have := i4 (by omega)
        cases hx : Lib.decDigits (u / 10) with
        | nil => exact absurd hx i2
        | cons a t => rw [hx] at this; exact this
theorem itoa_ok {n : Int} (h0 : 0 ≤ n) (h1 : n ≤ 999999) : numOk 6 (Lib.itoa n) = true ∧ numV (Lib.itoa n) = n := by
  have hl := itoa_len h0 h1
  have e : Lib.itoa n = Lib.decDigits n.toNat := by unfold Lib.itoa; rw [if_neg (by omega)]
  obtain ⟨d1, d2, d3, d4⟩ := dec_dg n.toNat
  rw [e] at hl ⊢
  refine ⟨?_, by rw [numV_dn d2 d1, d3]; omega⟩
  unfold numOk
  rw [decide_eq_true d2, decide_eq_true hl, d1]
  simp only [Bool.true_and, Bool.and_true, Bool.not_eq_true', Bool.and_eq_false_iff, decide_eq_false_iff_not]
  by_cases h2 : 1 < (Lib.decDigits n.toNat).length
  · refine .inr ?_
    rw [beq_eq_false_iff_ne]
    refine d4 ?_
    rcases Nat.eq_zero_or_pos n.toNat with h | h
    · rw [h, Lib.decDigits_one (by omega)] at h2; simp at h2
    · exact h
  · exact .inl h2
end Go.Proofs.YtnpnoohnkbpokaaDoor

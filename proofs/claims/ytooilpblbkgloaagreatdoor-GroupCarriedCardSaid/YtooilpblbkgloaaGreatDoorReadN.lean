/- Cuts at a byte; the digits of small numbers. -/
import Derived.Test.YtooilpblbkgloaaGreatDoorRulePlain
import Derived.Lib.IndexMore
import Derived.Lib.Atoi
namespace Go.Proofs.YtooilpblbkgloaaGreatDoor
open Go.Lib

theorem indexByte_at (c : UInt8) (l : List UInt8) : ∀ a : List UInt8, (∀ x ∈ a, x ≠ c) → Lib.indexByte (a ++ c :: l) c = a.length
  | [], _ => by unfold Lib.indexByte; simp
  | b :: a, h => by
    have hb : (b == c) = false := by simpa using h b (by simp)
    have ih := indexByte_at c l a (fun x hx => h x (by simp [hx]))
    show Lib.indexByte (b :: (a ++ c :: l)) c = _
    unfold Lib.indexByte
    rw [hb, ih, if_neg (by simp), if_neg (by simp)]
    simp
theorem indexByte_out (c : UInt8) : ∀ a : List UInt8, (∀ x ∈ a, x ≠ c) → Lib.indexByte a c = -1
  | [], _ => rfl
  | b :: a, h => by
    have hb : (b == c) = false := by simpa using h b (by simp)
    have ih := indexByte_out c a (fun x hx => h x (by simp [hx]))
    unfold Lib.indexByte
    rw [hb, ih, if_neg (by simp), if_pos (by decide)]
theorem cut_at (c : UInt8) (a l : List UInt8) (h : ∀ x ∈ a, x ≠ c) : Lib.cut (a ++ c :: l) [c] = (a, l, true) := by
  unfold Lib.cut
  rw [Lib.index_one, indexByte_at c l a h, if_pos (by omega)]
  simp only [Int.toNat_natCast, List.take_left', List.length_singleton]
  rw [show (a ++ c :: l).drop (a.length + 1) = l by simp [List.drop_append]]
theorem cut_out (c : UInt8) (a : List UInt8) (h : ∀ x ∈ a, x ≠ c) : Lib.cut a [c] = (a, [], false) := by
  unfold Lib.cut
  rw [Lib.index_one, indexByte_out c a h, if_neg (by decide)]

/-- The digits of a number below 1000. -/
def d3 (u : Nat) : List UInt8 :=
  if u < 10 then [UInt8.ofNat (48 + u)] else if u < 100 then [UInt8.ofNat (48 + u / 10), UInt8.ofNat (48 + u % 10)]
  else [UInt8.ofNat (48 + u / 100), UInt8.ofNat (48 + u / 10 % 10), UInt8.ofNat (48 + u % 10)]
theorem decDigits_lt {u : Nat} (h : u < 10) : Lib.decDigits u = [UInt8.ofNat (48 + u)] := by rw [Lib.decDigits, dif_pos h]
theorem decDigits_ge {u : Nat} (h : ¬ u < 10) : Lib.decDigits u = Lib.decDigits (u / 10) ++ [UInt8.ofNat (48 + u % 10)] := by rw [Lib.decDigits, dif_neg h]
theorem decDigits_d3 {u : Nat} (h : u < 1000) : Lib.decDigits u = d3 u := by
  unfold d3
  by_cases h1 : u < 10
  · rw [if_pos h1, decDigits_lt h1]
  · rw [if_neg h1, decDigits_ge h1]
    by_cases h2 : u < 100
    · rw [if_pos h2, decDigits_lt (by omega)]; rfl
    · rw [if_neg h2, decDigits_ge (u := u / 10) (by omega), decDigits_lt (by omega), Nat.div_div_eq_div_mul]; rfl
theorem d3_facts : ∀ u : Fin 201, (Lib.atoi (d3 u.val) == some (u.val : Int)) && (d3 u.val).all (fun x => x != 32 && x != 10) && decide (1 ≤ (d3 u.val).length) && decide ((d3 u.val).length ≤ 3) := by decide +kernel
theorem digs_facts {n : Int} (h0 : 0 ≤ n) (h1 : n ≤ 200) : Lib.atoi (digs n) = some n ∧ (∀ x ∈ digs n, x ≠ 32 ∧ x ≠ 10) ∧ 1 ≤ (digs n).length ∧ (digs n).length ≤ 3 := by
  have h := d3_facts ⟨n.toNat, by omega⟩
  simp only [Bool.and_eq_true, beq_iff_eq, decide_eq_true_eq, List.all_eq_true, bne_iff_ne] at h
  unfold digs
  rw [decDigits_d3 (by omega)]
  obtain ⟨⟨⟨a, b⟩, c⟩, d⟩ := h
  exact ⟨by rw [a]; congr 1; omega, b, c, d⟩
end Go.Proofs.YtooilpblbkgloaaGreatDoor

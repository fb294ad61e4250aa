/- Numbers in base 128: lists alone. -/
import Derived.Lib.AppendStr
import Derived.Lib.UnsafeStr
import Derived.WalkKit
namespace Go.Proofs.YtcmieoilhbjgiaaDoor
open Go.RowKit

/-- The digits of a number, the lowest one first; 128 is added to each but the last. -/
def num (n : Nat) : List UInt8 := if h : n < 128 then [UInt8.ofNat n] else UInt8.ofNat (n % 128 + 128) :: num (n / 128)
termination_by n

theorem num_low {n : Nat} (h : n < 128) : num n = [UInt8.ofNat n] := by rw [num, dif_pos h]
theorem num_high {n : Nat} (h : ¬ n < 128) : num n = UInt8.ofNat (n % 128 + 128) :: num (n / 128) := by rw [num, dif_neg h]
theorem num_two {d r : Nat} (hd : d < 128) (hr : 0 < r) : num (d + 128 * r) = UInt8.ofNat (d + 128) :: num r := by
  rw [num_high (by omega), show (d + 128 * r) % 128 = d by omega, show (d + 128 * r) / 128 = r by omega]
theorem num_length : ∀ (k n : Nat), n < 128 ^ (k + 1) → (num n).length ≤ k + 1
  | 0, n, h => by rw [num_low (by simpa using h)]; simp
  | k + 1, n, h => by
    by_cases hn : n < 128
    · rw [num_low hn]; simp
    · rw [num_high hn, List.length_cons]
      have : n / 128 < 128 ^ (k + 1) := by rw [Nat.div_lt_iff_lt_mul (by omega)]; rw [Nat.pow_succ] at h; exact h
      have := num_length k (n / 128) this
      omega
theorem num_len7 {n : Nat} (h : n ≤ 281474976710656) : (num n).length ≤ 7 := num_length 6 n (by omega)

/-- Bytes as a string. -/
def strOf (l : List UInt8) : ByteArray := ⟨l.toArray⟩
theorem strOf_size (l : List UInt8) : (strOf l).size = l.length := by simp [strOf, ByteArray.size]
theorem strOf_data (l : List UInt8) : (strOf l).data.toList = l := by simp [strOf]
theorem strOf_inj {a b : List UInt8} (h : strOf a = strOf b) : a = b := by
  have := congrArg (fun s : ByteArray => s.data.toList) h
  simpa [strOf] using this

/-- What is read at the beginning of bytes, behind i digits that are worth acc: the number, and how many digits it has. -/
def rdN : Nat → Nat → List UInt8 → Option (Nat × Nat)
  | _, _, [] => none
  | i, acc, d :: l =>
    if 7 ≤ i then none
    else if 128 ≤ d.toNat then rdN (i + 1) (acc + d.toNat % 128 * 128 ^ i) l
    else if 281474976710656 < acc + d.toNat % 128 * 128 ^ i ∨ (d.toNat = 0 ∧ 0 < i) then none
    else some (acc + d.toNat % 128 * 128 ^ i, i + 1)

theorem rdN_end {i acc : Nat} : rdN i acc [] = none := rfl
theorem rdN_seven {i acc : Nat} (h : 7 ≤ i) : ∀ l, rdN i acc l = none
  | [] => rfl
  | d :: l => by rw [rdN, if_pos h]
theorem rdN_more {i acc : Nat} {d : UInt8} {l : List UInt8} (hi : i < 7) (h : 128 ≤ d.toNat) : rdN i acc (d :: l) = rdN (i + 1) (acc + d.toNat % 128 * 128 ^ i) l := by
  rw [rdN, if_neg (by omega), if_pos h]
theorem rdN_bad {i acc : Nat} {d : UInt8} {l : List UInt8} (h : d.toNat < 128) (hb : 281474976710656 < acc + d.toNat % 128 * 128 ^ i ∨ (d.toNat = 0 ∧ 0 < i)) : rdN i acc (d :: l) = none := by
  rw [rdN, if_neg (by omega : ¬ 128 ≤ d.toNat), if_pos hb]; split <;> rfl
theorem rdN_good {i acc : Nat} {d : UInt8} {l : List UInt8} (hi : i < 7) (h : d.toNat < 128) (hb : ¬ (281474976710656 < acc + d.toNat % 128 * 128 ^ i ∨ (d.toNat = 0 ∧ 0 < i))) : rdN i acc (d :: l) = some (acc + d.toNat % 128 * 128 ^ i, i + 1) := by
  rw [rdN, if_neg (by omega), if_neg (by omega), if_neg hb]
end Go.Proofs.YtcmieoilhbjgiaaDoor

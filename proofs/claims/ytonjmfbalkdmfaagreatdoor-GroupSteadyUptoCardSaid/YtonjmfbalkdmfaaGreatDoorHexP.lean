/- Numbers in base 16: lists alone. -/
import Derived.WalkKit
namespace Go.Proofs.YtonjmfbalkdmfaaGreatDoor

/-- A digit of base 16. -/
def dig (d : Nat) : UInt8 := if d < 10 then UInt8.ofNat (48 + d) else UInt8.ofNat (87 + d)
/-- The digits of a number, as it is written. -/
def hexL (n : Nat) : List UInt8 := if _h : n < 16 then [dig n] else hexL (n / 16) ++ [dig (n % 16)]
termination_by n
theorem hexL_low {n : Nat} (h : n < 16) : hexL n = [dig n] := by rw [hexL, dif_pos h]
theorem hexL_high {n : Nat} (h : ¬ n < 16) : hexL n = hexL (n / 16) ++ [dig (n % 16)] := by rw [hexL, dif_neg h]
/-- So many digits. -/
def hexN : Nat → Nat → List UInt8
  | 0, _ => []
  | k + 1, n => hexN k (n / 16) ++ [dig (n % 16)]
theorem hexN_length : ∀ k n, (hexN k n).length = k
  | 0, _ => rfl
  | k + 1, n => by rw [hexN, List.length_append, hexN_length]; rfl
theorem hexN_zero : ∀ k, hexN k 0 = List.replicate k 48
  | 0 => rfl
  | k + 1 => by rw [hexN, hexN_zero, List.replicate_succ']; rfl
theorem hex_pad : ∀ k n, n < 16 ^ (k + 1) → (hexL n).length ≤ k + 1 ∧ List.replicate (k + 1 - (hexL n).length) 48 ++ hexL n = hexN (k + 1) n
  | 0, n, h => by
    rw [hexL_low (by simpa using h)]
    have : n < 16 := by simpa using h
    refine ⟨Nat.le_refl _, ?_⟩
    show [] ++ [dig n] = [] ++ [dig (n % 16)]
    rw [Nat.mod_eq_of_lt this]
  | k + 1, n, h => by
    by_cases h16 : n < 16
    · rw [hexL_low h16]
      refine ⟨by simp, ?_⟩
      show List.replicate (k + 1) 48 ++ [dig n] = hexN (k + 1) (n / 16) ++ [dig (n % 16)]
      rw [Nat.div_eq_of_lt h16, hexN_zero, Nat.mod_eq_of_lt h16]
    · have hd : n / 16 < 16 ^ (k + 1) := by
        rw [Nat.div_lt_iff_lt_mul (by omega)]
        rwa [← Nat.pow_succ]
      obtain ⟨i1, i2⟩ := hex_pad k (n / 16) hd
      rw [hexL_high h16, List.length_append]
      refine ⟨by simp; omega, ?_⟩
      show List.replicate (k + 2 - ((hexL (n / 16)).length + 1)) 48 ++ (hexL (n / 16) ++ [dig (n % 16)]) = hexN (k + 1) (n / 16) ++ [dig (n % 16)]
      rw [← List.append_assoc, show k + 2 - ((hexL (n / 16)).length + 1) = k + 1 - (hexL (n / 16)).length by omega, i2]
theorem hexN_split : ∀ b a n, hexN (a + b) n = hexN a (n / 16 ^ b) ++ hexN b n
  | 0, a, n => by simp [hexN]
  | b + 1, a, n => by
    show hexN (a + b) (n / 16) ++ [dig (n % 16)] = hexN a (n / 16 ^ (b + 1)) ++ (hexN b (n / 16) ++ [dig (n % 16)])
    rw [hexN_split b a (n / 16), Nat.div_div_eq_div_mul, ← Nat.pow_succ', List.append_assoc]
/-- The first half of the digits of a sum. -/
theorem hex_half {n : Nat} (h : n < 18446744073709551616) : (hexL n).length ≤ 16 ∧ (List.replicate (16 - (hexL n).length) 48 ++ hexL n).length = 16 ∧ (List.replicate (16 - (hexL n).length) 48 ++ hexL n).take 8 = hexN 8 (n / 4294967296) := by
  obtain ⟨h1, h2⟩ := hex_pad 15 n (by exact h)
  refine ⟨h1, by rw [h2, hexN_length], ?_⟩
  rw [h2, show (15 + 1 : Nat) = 8 + 8 from rfl, hexN_split 8 8 n, List.take_left' (hexN_length _ _)]
/-- What the first i digits are worth. -/
def hexV : List UInt8 → Nat → Nat
  | [], a => a
  | c :: l, a => hexV l (a * 16 + (if c.toNat < 58 then c.toNat - 48 else c.toNat - 87))
theorem hexV_append : ∀ (l m : List UInt8) (a : Nat), hexV (l ++ m) a = hexV m (hexV l a)
  | [], _, _ => rfl
  | c :: l, m, a => by show hexV (l ++ m) _ = hexV m (hexV l _); rw [hexV_append]
theorem dig_val {d : Nat} (h : d < 16) : (if (dig d).toNat < 58 then (dig d).toNat - 48 else (dig d).toNat - 87) = d := by
  have : ∀ d : Fin 16, (if (dig d.val).toNat < 58 then (dig d.val).toNat - 48 else (dig d.val).toNat - 87) = d.val := by decide
  exact this ⟨d, h⟩
theorem hexV_hexN : ∀ k n, n < 16 ^ k → hexV (hexN k n) 0 = n
  | 0, n, h => by have : n = 0 := by simpa using h
                  subst this; rfl
  | k + 1, n, h => by
    have hd : n / 16 < 16 ^ k := by
      rw [Nat.div_lt_iff_lt_mul (by omega)]
      rwa [← Nat.pow_succ]
    show hexV (hexN k (n / 16) ++ [dig (n % 16)]) 0 = n
    rw [hexV_append, hexV_hexN k _ hd]
    show n / 16 * 16 + _ = n
    rw [dig_val (by omega)]; omega
theorem hexN_take : ∀ k n i, i ≤ k → (hexN k n).take i = hexN i (n / 16 ^ (k - i))
  | k, n, i, h => by
    have := hexN_split (k - i) i n
    rw [show i + (k - i) = k by omega] at this
    rw [this, List.take_left' (hexN_length _ _)]
theorem hexN_get (k n i : Nat) (h : i < k) : (hexN k n)[i]? = some (dig (n / 16 ^ (k - i - 1) % 16)) := by
  have h1 := hexN_take k n (i + 1) (by omega)
  have h2 : ((hexN k n).take (i + 1))[i]? = (hexN k n)[i]? := by rw [List.getElem?_take_of_lt (by omega)]
  rw [← h2, h1]
  show (hexN i (n / 16 ^ (k - (i + 1)) / 16) ++ [dig (n / 16 ^ (k - (i + 1)) % 16)])[i]? = _
  rw [List.getElem?_append_right (by rw [hexN_length]; exact Nat.le_refl _), hexN_length, Nat.sub_self]
  rfl
end Go.Proofs.YtonjmfbalkdmfaaGreatDoor

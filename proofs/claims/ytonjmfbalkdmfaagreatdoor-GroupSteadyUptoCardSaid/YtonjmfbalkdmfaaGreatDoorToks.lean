/- What Plain makes of a string, on lists of bytes. -/
namespace Go.Proofs.YtonjmfbalkdmfaaGreatDoor

def dg (c : UInt8) : Bool := 48 ≤ c && c ≤ 57
def hx (c : UInt8) : Bool := dg c || (97 ≤ c && c ≤ 102) || (65 ≤ c && c ≤ 70)
/-- How many bytes at the beginning are as told. -/
def run (p : UInt8 → Bool) : List UInt8 → Nat
  | [] => 0
  | c :: s => if p c then run p s + 1 else 0
theorem run_le (p : UInt8 → Bool) : ∀ s, run p s ≤ s.length
  | [] => Nat.le_refl _
  | c :: s => by
    unfold run
    have := run_le p s
    split <;> simp <;> omega
/-- Where a byte is first. -/
def idx (b : UInt8) : List UInt8 → Option Nat
  | [] => none
  | c :: s => if c = b then some 0 else (idx b s).map (· + 1)
theorem idx_lt {b : UInt8} : ∀ {s : List UInt8} {n : Nat}, idx b s = some n → n < s.length
  | [], n, h => by simp [idx] at h
  | c :: s, n, h => by
    unfold idx at h
    split at h
    · simp at h; subst h; simp
    · obtain ⟨k, hk, rfl⟩ := Option.map_eq_some_iff.1 h
      have := idx_lt hk
      simp; omega
/-- What stands for the beginning of a string, and of how many bytes. -/
def tok (s : List UInt8) : List UInt8 × Nat :=
  if s.take 2 = [48, 120] ∧ 0 < run hx (s.drop 2) then ([60, 97, 62], 2 + run hx (s.drop 2))
  else if 0 < run dg s then ([60, 110, 62], run dg s)
  else match s with
    | 34 :: t => match idx 34 t with
      | some n => ([60, 115, 62], n + 2)
      | none => (s.take 1, 1)
    | _ => (s.take 1, 1)
theorem tok_pos (s : List UInt8) : 1 ≤ (tok s).2 := by
  unfold tok
  split
  · simp; omega
  · split
    · simp; omega
    · split
      · split <;> simp
      · simp
theorem tok_le {s : List UInt8} (hs : s ≠ []) : (tok s).2 ≤ s.length := by
  have h0 : 1 ≤ s.length := List.length_pos_iff.2 hs
  unfold tok
  split
  · next h =>
    have h1 := run_le hx (s.drop 2)
    have h2 := congrArg List.length h.1
    simp at h1 h2
    simp; omega
  · split
    · exact run_le _ _
    · split
      · next t =>
        split
        · next n hn => have := idx_lt hn; simp; omega
        · simp
      · simpa using h0
theorem tok_len (s : List UInt8) : (tok s).1.length ≤ 3 := by
  unfold tok
  split
  · simp
  · split
    · simp
    · split
      · split
        · simp
        · simp
      · simp; omega

/-- The four ways. -/
theorem tok_a {s : List UInt8} (h1 : s.take 2 = [48, 120]) (h2 : 0 < run hx (s.drop 2)) : tok s = ([60, 97, 62], 2 + run hx (s.drop 2)) := by
  unfold tok; rw [if_pos ⟨h1, h2⟩]
theorem tok_n {s : List UInt8} (h1 : ¬ (s.take 2 = [48, 120] ∧ 0 < run hx (s.drop 2))) (h2 : 0 < run dg s) : tok s = ([60, 110, 62], run dg s) := by
  unfold tok; rw [if_neg h1, if_pos h2]
theorem tok_s {t : List UInt8} {n : Nat} (h1 : ¬ ((34 :: t).take 2 = [48, 120] ∧ 0 < run hx ((34 :: t).drop 2))) (h2 : ¬ 0 < run dg (34 :: t)) (h3 : idx 34 t = some n) : tok (34 :: t) = ([60, 115, 62], n + 2) := by
  unfold tok; rw [if_neg h1, if_neg h2]; simp only [h3]
theorem tok_q {t : List UInt8} (h1 : ¬ ((34 :: t).take 2 = [48, 120] ∧ 0 < run hx ((34 :: t).drop 2))) (h2 : ¬ 0 < run dg (34 :: t)) (h3 : idx 34 t = none) : tok (34 :: t) = ([34], 1) := by
  unfold tok; rw [if_neg h1, if_neg h2]; simp only [h3]; rfl
theorem tok_1 {c : UInt8} {t : List UInt8} (h1 : ¬ ((c :: t).take 2 = [48, 120] ∧ 0 < run hx ((c :: t).drop 2))) (h2 : ¬ 0 < run dg (c :: t)) (h3 : c ≠ 34) : tok (c :: t) = ([c], 1) := by
  unfold tok; rw [if_neg h1, if_neg h2]
  split
  · next e => simp at e; exact absurd e.1 h3
  · rfl

def plF : Nat → List UInt8 → List UInt8
  | 0, _ => []
  | k + 1, s => if s = [] then [] else (tok s).1 ++ plF k (s.drop (tok s).2)
def pl (s : List UInt8) : List UInt8 := plF s.length s
theorem plF_eq : ∀ (k l : Nat) (s : List UInt8), s.length ≤ k → s.length ≤ l → plF k s = plF l s
  | 0, 0, _, _, _ => rfl
  | 0, l + 1, s, h, _ => by simp at h; subst h; simp [plF]
  | k + 1, 0, s, _, h => by simp at h; subst h; simp [plF]
  | k + 1, l + 1, s, hk, hl => by
    unfold plF
    split
    · rfl
    · have := tok_pos s
      rw [plF_eq k l (s.drop (tok s).2) (by simp; omega) (by simp; omega)]
theorem pl_nil : pl [] = [] := rfl
theorem pl_cons {s : List UInt8} (h : s ≠ []) : pl s = (tok s).1 ++ pl (s.drop (tok s).2) := by
  have h0 : 1 ≤ s.length := List.length_pos_iff.2 h
  have := tok_pos s
  conv => lhs; unfold pl
  rw [show s.length = s.length - 1 + 1 by omega]
  conv => lhs; unfold plF
  rw [if_neg h]
  unfold pl
  rw [plF_eq (s.length - 1) (s.drop (tok s).2).length (s.drop (tok s).2) (by simp; omega) (Nat.le_refl _)]
theorem pl_len (s : List UInt8) : (pl s).length ≤ 3 * s.length := by
  generalize hn : s.length = n
  induction n using Nat.strongRecOn generalizing s with
  | ind n ih =>
    by_cases h : s = []
    · subst h; simp [pl_nil]
    · rw [pl_cons h, List.length_append]
      have h1 := tok_len s
      have h2 := tok_pos s
      have h3 := tok_le h
      have := ih (s.length - (tok s).2) (by omega) (s.drop (tok s).2) (by simp)
      omega
end Go.Proofs.YtonjmfbalkdmfaaGreatDoor

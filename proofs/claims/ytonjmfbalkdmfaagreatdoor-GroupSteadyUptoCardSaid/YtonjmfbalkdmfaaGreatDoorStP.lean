/- What Plain has made stays: lists alone. -/
import Derived.Test.YtonjmfbalkdmfaaGreatDoorToks
import Derived.Lib.ItoaNum
namespace Go.Proofs.YtonjmfbalkdmfaaGreatDoor

theorem run_zero {p : UInt8 → Bool} {c : UInt8} {t : List UInt8} (h : ¬ 0 < run p (c :: t)) : p c = false := by
  unfold run at h
  by_cases hc : p c = true
  · rw [if_pos hc] at h; omega
  · simpa using hc
theorem idx_none {b : UInt8} : ∀ {s : List UInt8}, idx b s = none → b ∉ s
  | [], _ => by simp
  | c :: s, h => by
    unfold idx at h
    split at h
    · cases h
    · rename_i hc
      have := idx_none (Option.map_eq_none_iff.1 h)
      rw [List.mem_cons]
      rintro (rfl | hm)
      · exact hc rfl
      · exact this hm
theorem idx_of_not {b : UInt8} : ∀ {s : List UInt8}, b ∉ s → idx b s = none
  | [], _ => rfl
  | c :: s, h => by
    rw [List.mem_cons, not_or] at h
    unfold idx
    rw [if_neg (fun e => h.1 e.symm), idx_of_not h.2]; rfl
/-- The bytes that a token may hold. -/
theorem tok_cases (c : UInt8) (t : List UInt8) : ((tok (c :: t)).1 = [60, 97, 62] ∨ (tok (c :: t)).1 = [60, 110, 62] ∨ (tok (c :: t)).1 = [60, 115, 62]) ∨
    ((tok (c :: t)) = ([34], 1) ∧ c = 34 ∧ 34 ∉ t) ∨ ((tok (c :: t)) = ([c], 1) ∧ c ≠ 34 ∧ dg c = false) := by
  by_cases h1 : (c :: t).take 2 = [48, 120] ∧ 0 < run hx ((c :: t).drop 2)
  · rw [tok_a h1.1 h1.2]; exact .inl (.inl rfl)
  by_cases h2 : 0 < run dg (c :: t)
  · rw [tok_n h1 h2]; exact .inl (.inr (.inl rfl))
  by_cases hc : c = 34
  · subst hc
    cases h3 : idx 34 t with
    | some n => rw [tok_s h1 h2 h3]; exact .inl (.inr (.inr rfl))
    | none => rw [tok_q h1 h2 h3]; exact .inr (.inl ⟨rfl, rfl, idx_none h3⟩)
  · rw [tok_1 h1 h2 hc]; exact .inr (.inr ⟨rfl, hc, run_zero h2⟩)
theorem pl_noq : ∀ (n : Nat) (s : List UInt8), s.length ≤ n → 34 ∉ s → 34 ∉ pl s
  | _, [], _, _ => by simp [pl_nil]
  | 0, c :: t, h, _ => by simp at h
  | n + 1, c :: t, h, hq => by
    have hp := tok_pos (c :: t)
    have ih := pl_noq n ((c :: t).drop (tok (c :: t)).2) (by simp at h ⊢; omega) (fun hm => hq (List.mem_of_mem_drop hm))
    rw [pl_cons (by simp), List.mem_append, not_or]
    refine ⟨?_, ih⟩
    rcases tok_cases c t with (h1 | h1 | h1) | ⟨h1, rfl, _⟩ | ⟨h1, hc, _⟩
    · rw [h1]; decide
    · rw [h1]; decide
    · rw [h1]; decide
    · exact absurd List.mem_cons_self hq
    · rw [h1]; simpa using fun e => hc e.symm
theorem pl_clean : ∀ (n : Nat) (s : List UInt8), s.length ≤ n → (∀ c ∈ pl s, dg c = false) ∧ (pl s).count 34 ≤ 1
  | _, [], _ => by simp [pl_nil]
  | 0, c :: t, h => by simp at h
  | n + 1, c :: t, h => by
    have hp := tok_pos (c :: t)
    have ih := pl_clean n ((c :: t).drop (tok (c :: t)).2) (by simp at h ⊢; omega)
    rw [pl_cons (by simp)]
    rcases tok_cases c t with (h1 | h1 | h1) | ⟨h1, rfl, h2⟩ | ⟨h1, hc, h2⟩
    · rw [h1, List.count_append]
      refine ⟨fun d hd => ?_, by have := ih.2; simpa using this⟩
      rcases List.mem_append.1 hd with hd | hd
      · simp only [List.mem_cons, List.not_mem_nil, or_false] at hd
        rcases hd with rfl | rfl | rfl <;> rfl
      · exact ih.1 d hd
    · rw [h1, List.count_append]
      refine ⟨fun d hd => ?_, by have := ih.2; simpa using this⟩
      rcases List.mem_append.1 hd with hd | hd
      · simp only [List.mem_cons, List.not_mem_nil, or_false] at hd
        rcases hd with rfl | rfl | rfl <;> rfl
      · exact ih.1 d hd
    · rw [h1, List.count_append]
      refine ⟨fun d hd => ?_, by have := ih.2; simpa using this⟩
      rcases List.mem_append.1 hd with hd | hd
      · simp only [List.mem_cons, List.not_mem_nil, or_false] at hd
        rcases hd with rfl | rfl | rfl <;> rfl
      · exact ih.1 d hd
    · rw [h1] at ih ⊢
      simp only [List.drop_succ_cons, List.drop_zero] at ih ⊢
      have h3 := List.count_eq_zero.2 (pl_noq n t (by simp at h; omega) h2)
      rw [List.count_append, h3]
      refine ⟨fun d hd => ?_, by decide⟩
      rcases List.mem_append.1 hd with hd | hd
      · rw [List.mem_singleton] at hd; subst hd; decide
      · exact ih.1 d hd
    · rw [h1] at ih ⊢
      simp only [List.drop_succ_cons, List.drop_zero] at ih ⊢
      rw [List.count_append]
      refine ⟨fun d hd => ?_, ?_⟩
      · rcases List.mem_append.1 hd with hd | hd
        · rw [List.mem_singleton] at hd; subst hd; exact h2
        · exact ih.1 d hd
      · have : List.count 34 [c] = 0 := List.count_eq_zero.2 (by simpa using fun e => hc e.symm)
        have := ih.2; omega
theorem pl_stays : ∀ (t : List UInt8), (∀ c ∈ t, dg c = false) → t.count 34 ≤ 1 → pl t = t
  | [], _, _ => rfl
  | c :: t, h1, h2 => by
    have hc : dg c = false := h1 c List.mem_cons_self
    have n1 : ¬ ((c :: t).take 2 = [48, 120] ∧ 0 < run hx ((c :: t).drop 2)) := by
      rintro ⟨e, _⟩
      have : c = 48 := by simpa using congrArg List.head? e
      subst this
      exact absurd hc (by decide)
    have n2 : ¬ 0 < run dg (c :: t) := by unfold run; rw [hc]; simp
    have ih := pl_stays t (fun d hd => h1 d (List.mem_cons_of_mem _ hd)) (by
      rw [List.count_cons] at h2; omega)
    by_cases h34 : c = 34
    · subst h34
      have h3 : 34 ∉ t := by
        rw [List.count_cons] at h2
        exact List.count_eq_zero.1 (by simpa using h2)
      rw [pl_cons (by simp), tok_q n1 n2 (idx_of_not h3)]
      simp only [List.drop_succ_cons, List.drop_zero]
      rw [ih]; rfl
    · rw [pl_cons (by simp), tok_1 n1 n2 h34]
      simp only [List.drop_succ_cons, List.drop_zero]
      rw [ih]; rfl
/-- Plain of what Plain has made. -/
theorem pl_pl (s : List UInt8) : pl (pl s) = pl s := pl_stays _ (pl_clean _ s (Nat.le_refl _)).1 (pl_clean _ s (Nat.le_refl _)).2
theorem run_all {p : UInt8 → Bool} : ∀ {l : List UInt8}, (∀ c ∈ l, p c = true) → run p l = l.length
  | [], _ => rfl
  | c :: l, h => by unfold run; rw [if_pos (h c List.mem_cons_self), run_all fun d hd => h d (List.mem_cons_of_mem _ hd)]; rfl
theorem pl_digits {l : List UInt8} (h : ∀ c ∈ l, dg c = true) (hne : l ≠ []) : pl l = [60, 110, 62] := by
  have hr := run_all h
  have hpos : 0 < l.length := List.length_pos_iff.2 hne
  rw [pl_cons hne, tok_n ?_ (by rw [hr]; exact hpos), hr, List.drop_length]
  · rfl
  · rintro ⟨e, _⟩
    have : (120 : UInt8) ∈ l := List.mem_of_mem_take (i := 2) (by rw [e]; simp)
    exact absurd (h _ this) (by decide)
theorem pl_letter {c : UInt8} {t : List UInt8} (h1 : dg c = false) (h2 : c ≠ 34) : pl (c :: t) = c :: pl t := by
  have n1 : ¬ ((c :: t).take 2 = [48, 120] ∧ 0 < run hx ((c :: t).drop 2)) := by
    rintro ⟨e, _⟩
    have : c = 48 := by simpa using congrArg List.head? e
    subst this
    exact absurd h1 (by decide)
  have n2 : ¬ 0 < run dg (c :: t) := by unfold run; rw [h1]; simp
  rw [pl_cons (by simp), tok_1 n1 n2 h2]
  rfl
theorem dec_dg : ∀ (u : Nat), ∀ c ∈ Lib.decDigits u, dg c = true := by
  intro u
  induction u using Nat.strongRecOn with
  | ind u ih =>
    intro c hc
    rw [Lib.decDigits] at hc
    have key : ∀ k : Fin 10, dg (UInt8.ofNat (48 + k.val)) = true := by decide
    split at hc
    · rename_i h
      rw [List.mem_singleton] at hc; subst hc
      exact key ⟨u, h⟩
    · rw [List.mem_append] at hc
      rcases hc with hc | hc
      · exact ih (u / 10) (by omega) c hc
      · rw [List.mem_singleton] at hc; subst hc
        exact key ⟨u % 10, Nat.mod_lt _ (by omega)⟩
theorem dec_ne (u : Nat) : Lib.decDigits u ≠ [] := by rw [Lib.decDigits]; split <;> simp
/-- The text of a fault with a number. -/
def noL (u : Nat) : List UInt8 := [110, 111, 32] ++ Lib.decDigits u
theorem pl_no (u : Nat) : pl (noL u) = [110, 111, 32, 60, 110, 62] := by
  unfold noL
  show pl (110 :: 111 :: 32 :: Lib.decDigits u) = _
  rw [pl_letter (by decide) (by decide), pl_letter (by decide) (by decide), pl_letter (by decide) (by decide), pl_digits (dec_dg u) (dec_ne u)]
end Go.Proofs.YtonjmfbalkdmfaaGreatDoor

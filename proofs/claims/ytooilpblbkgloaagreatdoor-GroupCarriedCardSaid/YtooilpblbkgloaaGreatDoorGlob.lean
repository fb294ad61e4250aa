/- Patterns with * and ?, on lists of bytes. -/
namespace Go.Proofs.YtooilpblbkgloaaGreatDoor

/-- A string fits a pattern. -/
inductive M : List UInt8 → List UInt8 → Prop
  | nil : M [] []
  | star0 {g s} : M g s → M (42 :: g) s
  | star1 {g b s} : M (42 :: g) s → M (42 :: g) (b :: s)
  | one {c g b s} : c ≠ 42 → (c = 63 ∨ c = b) → M g s → M (c :: g) (b :: s)

theorem M.starApp {g s : List UInt8} (h : M g s) : ∀ t, M (42 :: g) (t ++ s)
  | [] => .star0 h
  | _ :: t => .star1 (h.starApp t)

theorem M.append {g s : List UInt8} (h : M g s) {g' s' : List UInt8} (h' : M g' s') : M (g ++ g') (s ++ s') := by
  induction h with
  | nil => simpa using h'
  | star0 _ ih => exact .star0 ih
  | star1 _ ih => exact .star1 ih
  | one hc he _ ih => exact .one hc he ih

theorem M.nil_left {s : List UInt8} (h : M [] s) : s = [] := by cases h; rfl
theorem M.star_inv {g s : List UInt8} (h : M (42 :: g) s) : ∃ t u, s = t ++ u ∧ M g u := by
  generalize hk : (42 :: g : List UInt8) = k at h
  induction h with
  | nil => simp at hk
  | star0 h _ => simp at hk; subst hk; exact ⟨[], _, rfl, h⟩
  | star1 _ ih => obtain ⟨t, u, rfl, hu⟩ := ih hk; exact ⟨_ :: t, u, rfl, hu⟩
  | one hc _ _ _ => simp at hk; exact absurd hk.1.symm hc
theorem M.one_inv {c : UInt8} {g s : List UInt8} (h : M (c :: g) s) (hc : c ≠ 42) : ∃ b t, s = b :: t ∧ (c = 63 ∨ c = b) ∧ M g t := by
  generalize hk : (c :: g : List UInt8) = k at h
  cases h with
  | nil => simp at hk
  | star0 _ => simp at hk; exact absurd hk.1 hc
  | star1 _ => simp at hk; exact absurd hk.1 hc
  | one _ he h => simp at hk; obtain ⟨rfl, rfl⟩ := hk; exact ⟨_, _, rfl, he, h⟩
theorem M.split : ∀ (g : List UInt8) {g' s : List UInt8}, M (g ++ g') s → ∃ t u, s = t ++ u ∧ M g t ∧ M g' u
  | [], _, _, h => ⟨[], _, rfl, .nil, h⟩
  | c :: g, g', s, h => by
    by_cases hc : c = 42
    · subst hc
      obtain ⟨t, u, rfl, hu⟩ := M.star_inv h
      obtain ⟨t2, u2, rfl, h2, h3⟩ := M.split g hu
      exact ⟨t ++ t2, u2, by simp, h2.starApp t, h3⟩
    · obtain ⟨b, t, rfl, he, ht⟩ := M.one_inv h hc
      obtain ⟨t2, u2, rfl, h2, h3⟩ := M.split g ht
      exact ⟨b :: t2, u2, rfl, .one hc he h2, h3⟩

/-- A pattern without stars. -/
def Lit (g : List UInt8) : Prop := ∀ c ∈ g, c ≠ 42
theorem M.lit_length {g s : List UInt8} (hg : Lit g) (h : M g s) : g.length = s.length := by
  induction h with
  | nil => rfl
  | star0 _ _ => exact absurd rfl (hg 42 (by simp))
  | star1 _ _ => exact absurd rfl (hg 42 (by simp))
  | one _ _ _ ih => simp [ih (fun c hc => hg c (by simp [hc]))]

theorem M.nil_right : ∀ {g : List UInt8}, M g [] ↔ ∀ c ∈ g, c = 42
  | [] => ⟨fun _ c hc => by simp at hc, fun _ => .nil⟩
  | c :: g => by
    constructor
    · intro h
      by_cases hc : c = 42
      · subst hc
        obtain ⟨t, u, he, hu⟩ := M.star_inv h
        have hu' : u = [] := by simp at he; exact he.2
        subst hu'
        intro d hd
        rcases List.mem_cons.1 hd with rfl | hd
        · rfl
        · exact M.nil_right.1 hu d hd
      · obtain ⟨b, t, he, _, _⟩ := M.one_inv h hc
        simp at he
    · intro h
      obtain rfl := h c (by simp)
      exact .star0 (M.nil_right.2 fun d hd => h d (by simp [hd]))

/-- A star and what is behind it: a later beginning serves as well as an earlier one. -/
theorem M.star_drop {g s : List UInt8} (t : List UInt8) (h : M (42 :: g) s) : M (42 :: g) (t ++ s) := by
  induction t with
  | nil => exact h
  | cons b t ih => exact .star1 ih

/-- The pattern's P fits at the beginning, a star is behind it: no other place of P need be tried. -/
theorem M.greedy {P g p s : List UInt8} (hP : Lit P) (hp : M P p) : M (42 :: (P ++ 42 :: g)) (p ++ s) ↔ M (42 :: g) s := by
  constructor
  · intro h
    obtain ⟨t, u, he, hu⟩ := M.star_inv h
    obtain ⟨p2, s2, rfl, h2, h3⟩ := M.split P hu
    have l1 := hp.lit_length hP
    have l2 := h2.lit_length hP
    -- p ++ s = t ++ p2 ++ s2, |p| = |p2|
    have : s = (t ++ p2).drop p.length ++ s2 := by
      have h4 : (p ++ s).drop p.length = (t ++ p2 ++ s2).drop p.length := by rw [he, List.append_assoc]
      rw [List.drop_append_of_le_length (Nat.le_refl _), List.drop_length, List.nil_append] at h4
      rw [h4, List.drop_append_of_le_length (by simp; omega)]
    rw [this]
    exact M.star_drop _ h3
  · intro h
    exact .star0 (hp.append h)

/-- The pattern's P fits at the beginning, and the string ends there. -/
theorem M.ends {P g p : List UInt8} (hP : Lit P) (hp : M P p) : M (42 :: (P ++ g)) p ↔ M g [] := by
  constructor
  · intro h
    obtain ⟨t, u, he, hu⟩ := M.star_inv h
    obtain ⟨p2, s2, rfl, h2, h3⟩ := M.split P hu
    have l1 := hp.lit_length hP
    have l2 := h2.lit_length hP
    have h5 := congrArg List.length he
    simp at h5
    have : s2 = [] := List.length_eq_zero_iff.1 (by omega)
    subst this
    exact h3
  · intro h
    have := hp.append h
    rw [List.append_nil] at this
    exact .star0 this

/-- The pattern's P fits at the beginning, and behind it something does not. -/
theorem M.fails {P p s : List UInt8} {c b : UInt8} {g : List UInt8} (hP : Lit P) (hp : M P p) (hc : c ≠ 42) (h1 : c ≠ 63) (h2 : c ≠ b) (b0 : UInt8) (r : List UInt8) (hr : p ++ b :: s = b0 :: r) :
    M (42 :: (P ++ c :: g)) (p ++ b :: s) ↔ M (42 :: (P ++ c :: g)) r := by
  constructor
  · intro h
    rw [hr] at h
    generalize hk : (42 :: (P ++ c :: g) : List UInt8) = k at h
    cases h with
    | star0 h =>
      exfalso
      simp at hk
      subst hk
      rw [← hr] at h
      obtain ⟨p2, s2, he, h3, h4⟩ := M.split P h
      have l1 := hp.lit_length hP
      have l2 := h3.lit_length hP
      obtain ⟨_, rfl⟩ := List.append_inj he (by omega)
      obtain ⟨d, t, he2, hd, _⟩ := M.one_inv h4 hc
      simp at he2
      obtain ⟨rfl, rfl⟩ := he2
      rcases hd with hd | hd
      · exact h1 hd
      · exact h2 hd
    | star1 h => exact h
    | one hc' _ _ => simp at hk; exact absurd hk.1.symm hc'
  · intro h
    rw [hr]
    exact .star1 h
/-- The same where the pattern is at its end and the string is not. -/
theorem M.failsEnd {P p s : List UInt8} {b : UInt8} (hP : Lit P) (hp : M P p) (b0 : UInt8) (r : List UInt8) (hr : p ++ b :: s = b0 :: r) :
    M (42 :: P) (p ++ b :: s) ↔ M (42 :: P) r := by
  constructor
  · intro h
    rw [hr] at h
    generalize hk : (42 :: P : List UInt8) = k at h
    cases h with
    | star0 h =>
      exfalso
      simp at hk
      subst hk
      rw [← hr] at h
      have l1 := hp.lit_length hP
      have l2 := h.lit_length hP
      simp at l2
      omega
    | star1 h => exact h
    | one hc' _ _ => simp at hk; exact absurd hk.1.symm hc'
  · intro h
    rw [hr]
    exact .star1 h
/-- What the loop of Fits keeps: the pattern from g on, the string from i on; behind the last star the pattern from b on, the string from n on. -/
def Inv (G S : List UInt8) (g i : Nat) (bh : Int) (n : Nat) : Prop :=
  (bh = -1 ∧ (M G S ↔ M (G.drop g) (S.drop i))) ∨
  (∃ b : Nat, bh = b ∧ ∃ P p, G.drop b = P ++ G.drop g ∧ S.drop n = p ++ S.drop i ∧ Lit P ∧ M P p ∧ (M G S ↔ M (42 :: G.drop b) (S.drop n)))

theorem Inv.start (G S : List UInt8) : Inv G S 0 0 (-1) 0 := Or.inl ⟨rfl, Iff.rfl⟩
theorem Inv.star {G S : List UInt8} {g i n : Nat} {bh : Int} (h : Inv G S g i bh n) (hg : g < G.length) (hc : G[g] = 42) : Inv G S (g + 1) i ((g + 1 : Nat) : Int) i := by
  have hd : G.drop g = 42 :: G.drop (g + 1) := by rw [List.drop_eq_getElem_cons hg, hc]
  refine Or.inr ⟨g + 1, rfl, [], [], rfl, rfl, fun c hc => by simp at hc, .nil, ?_⟩
  rcases h with ⟨_, h⟩ | ⟨b, _, P, p, h1, h2, hP, hp, h⟩
  · rw [h, hd]
  · rw [h, h1, h2, hd]
    exact M.greedy hP hp
theorem Inv.one {G S : List UInt8} {g i n : Nat} {bh : Int} (h : Inv G S g i bh n) (hg : g < G.length) (hi : i < S.length) (hc : G[g] ≠ 42) (he : G[g] = 63 ∨ G[g] = S[i]) : Inv G S (g + 1) (i + 1) bh n := by
  have hd : G.drop g = G[g] :: G.drop (g + 1) := List.drop_eq_getElem_cons hg
  have hs : S.drop i = S[i] :: S.drop (i + 1) := List.drop_eq_getElem_cons hi
  rcases h with ⟨rfl, h⟩ | ⟨b, hb, P, p, h1, h2, hP, hp, h⟩
  · refine Or.inl ⟨rfl, h.trans ?_⟩
    rw [hd, hs]
    constructor
    · intro hm
      obtain ⟨_, _, hk, _, hm⟩ := hm.one_inv hc
      rw [(List.cons.inj hk).2]
      exact hm
    · exact fun hm => .one hc he hm
  · refine Or.inr ⟨b, hb, P ++ [G[g]], p ++ [S[i]], ?_, ?_, ?_, ?_, h⟩
    · rw [h1, hd]; simp
    · rw [h2, hs]; simp
    · intro c hcm
      rcases List.mem_append.1 hcm with hm | hm
      · exact hP c hm
      · simp at hm; subst hm; exact hc
    · exact hp.append (.one hc he .nil)
theorem Inv.back {G S : List UInt8} {g i n b : Nat} (h : Inv G S g i (b : Int) n) (hi : i < S.length) (hno : ∀ hg : g < G.length, G[g] ≠ 42 ∧ G[g] ≠ 63 ∧ G[g] ≠ S[i]) : n < S.length ∧ Inv G S b (n + 1) (b : Int) (n + 1) := by
  have hs : S.drop i = S[i] :: S.drop (i + 1) := List.drop_eq_getElem_cons hi
  rcases h with ⟨hb, _⟩ | ⟨b', hb, P, p, h1, h2, hP, hp, h⟩
  · omega
  · obtain rfl : b = b' := by omega
    have hn : n < S.length := by
      have := congrArg List.length h2
      simp at this
      have h3 : 0 < S.length - i := by omega
      omega
    have hr : S.drop n = S[n] :: S.drop (n + 1) := List.drop_eq_getElem_cons hn
    refine ⟨hn, Or.inr ⟨b, rfl, [], [], rfl, rfl, fun c hc => by simp at hc, .nil, h.trans ?_⟩⟩
    by_cases hg : g < G.length
    · obtain ⟨hc1, hc2, hc3⟩ := hno hg
      have hd : G.drop g = G[g] :: G.drop (g + 1) := List.drop_eq_getElem_cons hg
      rw [hd] at h1
      rw [hs] at h2
      rw [h1, h2]
      exact M.fails hP hp hc1 hc2 hc3 S[n] _ (h2 ▸ hr)
    · have hd : G.drop g = [] := List.drop_eq_nil_of_le (by omega)
      rw [hd, List.append_nil] at h1
      rw [hs] at h2
      rw [h1, h2]
      exact M.failsEnd hP hp S[n] _ (h2 ▸ hr)
theorem Inv.no {G S : List UInt8} {g i n : Nat} {bh : Int} (h : Inv G S g i bh n) (hbh : bh < 0) (hi : i < S.length) (hno : ∀ hg : g < G.length, G[g] ≠ 42 ∧ G[g] ≠ 63 ∧ G[g] ≠ S[i]) : ¬ M G S := by
  have hs : S.drop i = S[i] :: S.drop (i + 1) := List.drop_eq_getElem_cons hi
  rcases h with ⟨_, h⟩ | ⟨b', hb, _⟩
  · rw [h, hs]
    intro hm
    by_cases hg : g < G.length
    · obtain ⟨hc1, hc2, hc3⟩ := hno hg
      rw [List.drop_eq_getElem_cons hg] at hm
      obtain ⟨_, _, hk, he, _⟩ := hm.one_inv hc1
      rcases he with he | he
      · exact hc2 he
      · exact hc3 (he.trans (List.cons.inj hk).1.symm)
    · rw [List.drop_eq_nil_of_le (by omega)] at hm
      exact absurd hm.nil_left (List.cons_ne_nil _ _)
  · omega
theorem Inv.finish {G S : List UInt8} {g i n : Nat} {bh : Int} (h : Inv G S g i bh n) (hi : S.length ≤ i) : M G S ↔ ∀ c ∈ G.drop g, c = 42 := by
  have hs : S.drop i = [] := List.drop_eq_nil_of_le hi
  rcases h with ⟨_, h⟩ | ⟨b, _, P, p, h1, h2, hP, hp, h⟩
  · rw [h, hs, M.nil_right]
  · rw [hs, List.append_nil] at h2
    rw [h, h1, h2, M.ends hP hp, M.nil_right]

/-- The same row by row: what so many bytes of the pattern take. -/
theorem M.snoc_star {g s : List UInt8} : M (g ++ [42]) s ↔ ∃ t u, s = t ++ u ∧ M g t := by
  constructor
  · intro h
    obtain ⟨t, u, rfl, h1, _⟩ := M.split g h
    exact ⟨t, u, rfl, h1⟩
  · rintro ⟨t, u, rfl, h⟩
    exact h.append (by have := M.nil.starApp u; rwa [List.append_nil] at this)
theorem M.snoc_one {g s : List UInt8} {c : UInt8} (hc : c ≠ 42) : M (g ++ [c]) s ↔ ∃ t b, s = t ++ [b] ∧ (c = 63 ∨ c = b) ∧ M g t := by
  constructor
  · intro h
    obtain ⟨t, u, rfl, h1, h2⟩ := M.split g h
    obtain ⟨b, u, rfl, he, h3⟩ := h2.one_inv hc
    rw [h3.nil_left]
    exact ⟨t, b, rfl, he, h1⟩
  · rintro ⟨t, b, rfl, he, h⟩
    exact h.append (.one hc he .nil)
theorem M.snoc_star_zero {g : List UInt8} : M (g ++ [42]) [] ↔ M g [] := by
  rw [M.snoc_star]
  constructor
  · rintro ⟨t, u, he, h⟩
    simp at he
    rw [he.1] at h
    exact h
  · exact fun h => ⟨[], [], rfl, h⟩
theorem M.snoc_star_succ {g s : List UInt8} {b : UInt8} : M (g ++ [42]) (s ++ [b]) ↔ M g (s ++ [b]) ∨ M (g ++ [42]) s := by
  rw [M.snoc_star, M.snoc_star]
  constructor
  · rintro ⟨t, u, he, h⟩
    rcases List.eq_nil_or_concat u with rfl | ⟨u', c, rfl⟩
    · rw [List.append_nil] at he
      rw [he]
      exact Or.inl h
    · rw [List.concat_eq_append, ← List.append_assoc] at he
      exact Or.inr ⟨t, u', (List.append_inj' he rfl).1, h⟩
  · rintro (h | ⟨t, u, rfl, h⟩)
    · exact ⟨s ++ [b], [], by simp, h⟩
    · exact ⟨t, u ++ [b], by simp, h⟩
theorem M.snoc_one_zero {g : List UInt8} {c : UInt8} (hc : c ≠ 42) : ¬ M (g ++ [c]) [] := by
  rw [M.snoc_one hc]
  rintro ⟨t, b, he, _⟩
  simp at he
theorem M.snoc_one_succ {g s : List UInt8} {c b : UInt8} (hc : c ≠ 42) : M (g ++ [c]) (s ++ [b]) ↔ (c = 63 ∨ c = b) ∧ M g s := by
  rw [M.snoc_one hc]
  constructor
  · rintro ⟨t, d, he, hd, h⟩
    obtain ⟨rfl, h2⟩ := List.append_inj' he rfl
    simp at h2
    subst h2
    exact ⟨hd, h⟩
  · rintro ⟨hd, h⟩
    exact ⟨s, b, rfl, hd, h⟩

open Classical in
/-- Whether it fits. -/
noncomputable def fitsB (g s : List UInt8) : Bool := decide (g.length ≤ 100 ∧ M g s)
open Classical in
/-- What the first k bytes of a pattern take. -/
noncomputable def can (g s : List UInt8) (k n : Nat) : Bool := decide (M (g.take k) (s.take n))
open Classical in
theorem fitsB_true {g s : List UInt8} (h1 : g.length ≤ 100) (h : M g s) : fitsB g s = true := by unfold fitsB; rw [decide_eq_true_eq]; exact ⟨h1, h⟩
open Classical in
theorem fitsB_false {g s : List UInt8} (h : ¬ M g s) : fitsB g s = false := by unfold fitsB; rw [decide_eq_false_iff_not]; exact fun h' => h h'.2
open Classical in
theorem fitsB_long {g s : List UInt8} (h : 100 < g.length) : fitsB g s = false := by unfold fitsB; rw [decide_eq_false_iff_not]; exact fun h' => by have := h'.1; omega
open Classical in
theorem fitsB_iff {g s : List UInt8} (h1 : g.length ≤ 100) : fitsB g s = true ↔ M g s := by unfold fitsB; rw [decide_eq_true_eq]; exact ⟨fun h => h.2, fun h => ⟨h1, h⟩⟩
open Classical in
theorem can_true {g s : List UInt8} {k n : Nat} : can g s k n = true ↔ M (g.take k) (s.take n) := by unfold can; rw [decide_eq_true_eq]

/-- A pattern without signs. -/
theorem M.plain {g : List UInt8} (hg : ∀ c ∈ g, c ≠ 42 ∧ c ≠ 63) {s : List UInt8} : M g s ↔ g = s := by
  induction g generalizing s with
  | nil => exact ⟨fun h => h.nil_left.symm, fun h => h ▸ .nil⟩
  | cons c g ih =>
    have hc := hg c (by simp)
    have hg' : ∀ d ∈ g, d ≠ 42 ∧ d ≠ 63 := fun d hd => hg d (by simp [hd])
    constructor
    · intro h
      obtain ⟨b, t, rfl, he, ht⟩ := h.one_inv hc.1
      rw [(ih hg').1 ht]
      rcases he with he | he
      · exact absurd he hc.2
      · rw [he]
    · rintro rfl
      exact .one hc.1 (Or.inr rfl) ((ih hg').2 rfl)
theorem M.self : ∀ (g : List UInt8), M g g
  | [] => .nil
  | c :: g => by
    by_cases hc : c = 42
    · subst hc; exact .star1 (.star0 (M.self g))
    · exact .one hc (Or.inr rfl) (M.self g)
theorem M.all (s : List UInt8) : M [42] s := by have := M.nil.starApp s; rwa [List.append_nil] at this
theorem M.begins (s t : List UInt8) : M (s ++ [42]) (s ++ t) := (M.self s).append (M.all t)
theorem M.endsWith (s t : List UInt8) : M (42 :: s) (t ++ s) := (M.self s).starApp t
theorem M.inside (s t : List UInt8) : M (42 :: (s ++ [42])) (t ++ s ++ t) := by rw [List.append_assoc]; exact (M.begins s t).starApp t
end Go.Proofs.YtooilpblbkgloaaGreatDoor

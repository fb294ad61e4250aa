/- A rule's text taken apart: lists alone. -/
import Derived.Test.YtooilpblbkgloaaGreatDoorRulePlain
import Derived.Test.YtooilpblbkgloaaGreatDoorReadN
namespace Go.Proofs.YtooilpblbkgloaaGreatDoor
open Go.Lib

theorem joinTail_flat (l : List (List UInt8)) : Lib.joinTail [32] l = l.flatMap (fun x => 32 :: x) := by
  unfold Lib.joinTail
  rw [List.flatMap_def]; rfl
/-- The matchers ahead of the arrow, the acts behind it. -/
def msText (l : List Mt) : List UInt8 := l.flatMap fun m => mText m ++ [32]
def asText (l : List Ac) : List UInt8 := l.flatMap fun a => 32 :: aText a
theorem join_ms (Y : List (List UInt8)) : ∀ l : List Mt, Lib.join (l.map mText ++ [45, 62] :: Y) [32] = msText l ++ ([45, 62] ++ Y.flatMap (fun x => 32 :: x))
  | [] => by
    show Lib.join ([45, 62] :: Y) [32] = _
    rw [Lib.join_cons, joinTail_flat]; rfl
  | m :: l => by
    have ih := join_ms Y l
    have e : ∀ (x : List UInt8) (t : List (List UInt8)), t ≠ [] → Lib.join (x :: t) [32] = x ++ (32 :: Lib.join t [32]) := by
      intro x t ht
      cases t with
      | nil => exact absurd rfl ht
      | cons y t => rw [Lib.join_cons, Lib.join_cons, joinTail_flat, joinTail_flat]; simp
    rw [List.map_cons, List.cons_append, e _ _ (by simp), ih]
    simp [msText]
theorem rText_parts (r : Ru) : rText r = msText r.ms ++ ([45, 62] ++ asText r.as) := by
  unfold rText rWords
  rw [List.append_assoc, List.singleton_append, join_ms]
  unfold asText
  rw [List.flatMap_map]

theorem mText_noarrow (m : Mt) (R : List UInt8) : Lib.hasPrefix (mText m ++ R) [45, 62] = false := by
  unfold mText mWord
  cases m.nt <;> ((repeat' split) <;> rfl)

theorem esc_no10 {l : List UInt8} (h : ∀ x ∈ l, prb x = true) : ∀ x ∈ escOf (fun c => c == 34 || c == 92) l, x ≠ 10 := by
  intro x hx
  unfold escOf at hx
  rw [List.mem_flatMap] at hx
  obtain ⟨c, hc, hx⟩ := hx
  have hp := h c hc
  have hc10 : c ≠ 10 := by rintro rfl; exact absurd hp (by decide)
  split at hx
  · simp only [List.mem_cons, List.not_mem_nil, or_false] at hx
    rcases hx with rfl | rfl
    · decide
    · exact hc10
  · simp only [List.mem_cons, List.not_mem_nil, or_false] at hx
    subst hx; exact hc10
theorem qt_no10 {s : ByteArray} (h : prs s = true) : ∀ x ∈ qt s, x ≠ 10 := by
  intro x hx
  unfold qt at hx
  simp only [List.mem_cons, List.mem_append, List.not_mem_nil, or_false] at hx
  rcases hx with rfl | hx | rfl
  · decide
  · exact esc_no10 (by unfold prs at h; rw [List.all_eq_true] at h; exact h) x hx
  · decide
theorem mText_no10 {m : Mt} (h : mErr m = 0) : ∀ x ∈ mText m, x ≠ 10 := by
  have hp : m.on ≠ 6 → prs m.gl = true := by
    intro h6
    unfold mErr at h
    split at h
    · omega
    · split at h
      · omega
      · split at h
        · omega
        · split at h
          · omega
          · rename_i h9; simpa using h9
  have hw : ∀ x ∈ mWord m.on, x ≠ 10 := by unfold mWord; (repeat' split) <;> decide
  intro x hx
  unfold mText at hx
  rw [List.mem_append, List.mem_append] at hx
  rcases hx with (hx | hx) | hx
  · split at hx
    · simp at hx; subst hx; decide
    · simp at hx
  · exact hw x hx
  · split at hx
    · simp at hx
    · rcases List.mem_cons.1 hx with rfl | hx
      · decide
      · exact qt_no10 (hp (by assumption)) x hx
theorem aText_no10 {a : Ac} (h : aErr a = 0) : ∀ x ∈ aText a, x ≠ 10 := by
  have hf := aErr_fit h
  have hp : prs a.t = true := by
    unfold aErr at h
    split at h
    · omega
    · split at h
      · omega
      · split at h
        · omega
        · split at h
          · omega
          · split at h
            · omega
            · split at h
              · omega
              · rename_i h9; simpa using h9
  have hw : ∀ x ∈ aWord a.d, x ≠ 10 := by unfold aWord; (repeat' split) <;> decide
  intro x hx
  unfold aText at hx
  rw [List.mem_append] at hx
  rcases hx with hx | hx
  · exact hw x hx
  · split at hx
    · rename_i h5
      have := hf.2.2.2 h5
      exact ((digs_facts (by omega) this.2).2.1 x hx).2
    · split at hx
      · exact qt_no10 hp x hx
      · simp at hx
theorem rText_no10 {r : Ru} (h : ruErr r = 0) : ∀ x ∈ rText r, x ≠ 10 := by
  obtain ⟨_, _, hm, ha⟩ := ruErr_fit h
  intro x hx
  rw [rText_parts] at hx
  simp only [List.mem_append, msText, asText, List.mem_flatMap] at hx
  rcases hx with ⟨m, hm1, hx⟩ | hx | ⟨a, ha1, hx⟩
  · rcases hx with hx | hx
    · exact mText_no10 (hm m hm1) x hx
    · simp at hx; subst hx; decide
  · simp at hx; rcases hx with rfl | rfl <;> decide
  · rcases List.mem_cons.1 hx with rfl | hx
    · decide
    · exact aText_no10 (ha a ha1) x hx
/-- The first line of a text of rules. -/
theorem cut_rule {r : Ru} (h : ruErr r = 0) (l : List Ru) : Lib.cut (rsText (r :: l)) [10] = (rText r, rsText l, true) := by
  rw [show rsText (r :: l) = rText r ++ 10 :: rsText l by simp [rsText]]
  exact cut_at 10 _ _ (rText_no10 h)
end Go.Proofs.YtooilpblbkgloaaGreatDoor

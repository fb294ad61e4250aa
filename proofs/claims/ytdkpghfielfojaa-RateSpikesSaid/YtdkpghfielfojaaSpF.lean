/- What the reference's SpikeOf answers: an insertion sort. -/
import Derived.Test.YtdkpghfielfojaaSpE
import Derived.Deep.QuietTactic
import Derived.Shelf.RegionOpen
namespace Go.Proofs.Ytdkpghfielfojaa
open Go.RowKit Go.Lib

def gt (L : List Int) (p : Nat) : Int := L[p]?.getD 0
theorem gt_at {L : List Int} {p : Nat} (h : p < L.length) : L[p]? = some (gt L p) := by unfold gt; rw [List.getElem?_eq_getElem h]; rfl
theorem gt_get {L : List Int} {p : Nat} (h : p < L.length) : L[p] = gt L p := by unfold gt; rw [List.getElem?_eq_getElem h]; rfl
def Srt (L : List Int) (i : Nat) : Prop := ∀ p q, p < q → q < i → gt L p ≤ gt L q
def Ins (L : List Int) (i k : Nat) : Prop := ∀ p q, p < q → q ≤ i → q ≠ k → gt L p ≤ gt L q
theorem ins_start {L : List Int} {i : Nat} (h : Srt L i) : Ins L i i := fun p q hpq hq hne => h p q hpq (by omega)
theorem ins_end {L : List Int} {i k : Nat} (hk : k ≤ i) (h : Ins L i k) (hx : k = 0 ∨ ¬ gt L k < gt L (k - 1)) : Srt L (i + 1) := by
  intro p q hpq hq
  by_cases hqk : q = k
  · subst hqk
    rcases hx with hx | hx
    · omega
    · by_cases hp : p = q - 1
      · subst hp; omega
      · have := h p (q - 1) (by omega) (by omega) (by omega)
        omega
  · exact h p q hpq (by omega) hqk
def swp (L : List Int) (j : Nat) : List Int := (L.set (j + 1) (gt L j)).set j (gt L (j + 1))
theorem swp_len (L : List Int) (j : Nat) : (swp L j).length = L.length := by unfold swp; simp
theorem gt_swp {L : List Int} {j : Nat} (hj : j + 1 < L.length) (p : Nat) : gt (swp L j) p = if p = j then gt L (j + 1) else if p = j + 1 then gt L j else gt L p := by
  unfold swp
  by_cases h1 : p = j
  · subst h1
    rw [if_pos rfl, gt, List.getElem?_set_self (by simp; omega)]; rfl
  · rw [if_neg h1, gt, List.getElem?_set_ne (by omega)]
    by_cases h2 : p = j + 1
    · subst h2
      rw [if_pos rfl, List.getElem?_set_self (by omega)]; rfl
    · rw [if_neg h2, List.getElem?_set_ne (by omega)]; rfl
theorem swp_perm {L : List Int} {j : Nat} (hj : j + 1 < L.length) : (swp L j).Perm L := by
  have h := @List.set_set_perm _ L (j + 1) j hj (by omega)
  rw [gt_get (by omega), gt_get hj] at h
  exact h
theorem ins_step {L : List Int} {i j : Nat} (hi : j + 1 ≤ i) (hl : i < L.length) (h : Ins L i (j + 1)) (hx : gt L (j + 1) < gt L j) : Ins (swp L j) i j := by
  intro p q hpq hq hne
  rw [gt_swp (by omega), gt_swp (by omega)]
  by_cases hq1 : q = j + 1
  · subst hq1
    rw [if_neg (by omega : ¬ j + 1 = j), if_pos rfl]
    by_cases hp : p = j
    · rw [if_pos hp]; omega
    · rw [if_neg hp, if_neg (by omega)]
      exact h p j (by omega) (by omega) (by omega)
  · rw [if_neg hne, if_neg hq1]
    by_cases hp : p = j
    · rw [if_pos hp]
      exact h (j + 1) q (by omega) hq hq1
    · rw [if_neg hp]
      by_cases hp1 : p = j + 1
      · rw [if_pos hp1]
        exact h j q (by omega) hq hq1
      · rw [if_neg hp1]
        exact h p q hpq hq hq1
theorem srt_of {L L0 : List Int} (hp : L.Perm L0) (hs : Srt L L.length) : L = srt L0 := by
  refine List.Perm.eq_of_pairwise (le := fun a b : Int => a ≤ b) (fun a b _ _ h1 h2 => by omega) ?_ ?_ (hp.trans (List.mergeSort_perm _ _).symm)
  · rw [List.pairwise_iff_getElem]
    intro i j hi hj hij
    have := hs i j hij hj
    rw [gt_get hi, gt_get hj]; exact this
  · have := List.pairwise_mergeSort (le := fun x y : Int => decide (x ≤ y)) (fun a b c h1 h2 => by simp at *; omega) (fun a b => by simp; omega) L0
    exact this.imp (fun h => by simpa using h)

theorem cell_far (w : World) (g : Nat) {p q : Nat} (v : Value) (h : p ≠ q) : (w.setCell ⟨g, p, none⟩ v).cell? ⟨g, q, none⟩ = w.cell? ⟨g, q, none⟩ := World.cell?_setCell_other _ _ _ _ (fun e => h (by cases e; rfl))
/-- A row of numbers of the call's own. -/
def RowI (w : World) (g : Nat) (L : List Int) : Prop := ∀ p, p < L.length → w.cell? ⟨g, p, none⟩ = some (.int .i64 (gt L p)) ∧ w.frozen? ⟨g, p, none⟩ = false
theorem RowI.swap {w : World} {g : Nat} {L : List Int} {j : Nat} (h : RowI w g L) (hj : j + 1 < L.length) : RowI ((w.setCell ⟨g, j + 1, none⟩ (.int .i64 (gt L j))).setCell ⟨g, j, none⟩ (.int .i64 (gt L (j + 1)))) g (swp L j) := by
  intro p hp
  rw [swp_len] at hp
  refine ⟨?_, by simpa using (h p hp).2⟩
  rw [gt_swp hj]
  by_cases h1 : p = j
  · subst h1
    rw [if_pos rfl]
    exact World.cell?_setCell_same' _ _ _ (by rw [cell_far _ _ _ (by omega)]; rw [(h p hp).1]; rfl)
  · rw [if_neg h1, cell_far _ _ _ (by omega)]
    by_cases h2 : p = j + 1
    · subst h2
      rw [if_pos rfl]
      exact World.cell?_setCell_same' _ _ _ (by rw [(h _ hp).1]; rfl)
    · rw [if_neg h2, cell_far _ _ _ (by omega)]
      exact (h p hp).1
theorem RowI.swap' {w : World} {g : Nat} {L : List Int} {j : Nat} (h : RowI w g L) (hj : j + 1 < L.length) : RowI ((w.setCell ⟨g, j, none⟩ (.int .i64 (gt L (j + 1)))).setCell ⟨g, j + 1, none⟩ (.int .i64 (gt L j))) g (swp L j) := by
  intro p hp
  rw [swp_len] at hp
  refine ⟨?_, by simpa using (h p hp).2⟩
  rw [gt_swp hj]
  by_cases h2 : p = j + 1
  · subst h2
    rw [if_neg (by omega), if_pos rfl]
    exact World.cell?_setCell_same' _ _ _ (by rw [cell_far _ _ _ (by omega)]; rw [(h _ hp).1]; rfl)
  · rw [cell_far _ _ _ (by omega)]
    by_cases h1 : p = j
    · subst h1
      rw [if_pos rfl]
      exact World.cell?_setCell_same' _ _ _ (by rw [(h _ hp).1]; rfl)
    · rw [if_neg h1, if_neg h2, cell_far _ _ _ (by omega)]
      exact (h p hp).1
end Go.Proofs.Ytdkpghfielfojaa

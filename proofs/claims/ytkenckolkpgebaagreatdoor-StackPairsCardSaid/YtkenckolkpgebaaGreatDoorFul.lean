/- A table in memory whose rows are all made before they are filled: what the loops keep. -/
import Derived.Deep.OwnRows
import Derived.Below
import Derived.WalkKit
namespace Go.Proofs.YtkenckolkpgebaaGreatDoor
open Go.RowKit Go.Deep

/-- Rows 0 to i - 1 are made, in blocks of their own; they hold F. -/
structure Ful (base : Nat) (w wr : World) (tr ti : TypeId) (g n1 m1 i : Nat) (G : Nat → Nat) (F : Nat → Nat → Int) : Prop where
  low : base ≤ g
  since : Below base w wr
  lt : g < wr.heap.size
  top : wr.rowIs g tr n1 (fun r => if r < i then .slice (some ⟨G r, 0, none⟩) m1 m1 else .slice none 0 0)
  done : ∀ r, r < i → g < G r ∧ G r < wr.heap.size ∧ wr.rowIs (G r) ti m1 (fun j => .int .i64 (F r j))
  inj : ∀ r s, r < i → s < i → G r = G s → r = s

section
variable {base : Nat} {w wr : World} {tr ti : TypeId} {g n1 m1 i : Nat} {G : Nat → Nat} {F : Nat → Nat → Int}

theorem Ful.on {B : Nat} {w' : World} (h : Ful base w wr tr ti g n1 m1 i G F) (hB : wr.heap.size ≤ B) (hw : Below B wr w') : Ful base w w' tr ti g n1 m1 i G F :=
  ⟨h.low, h.since.trans (hw.mono (by have := h.low; have := h.lt; omega)), by have := h.lt; have := hw.size; omega, h.top.of_block (hw.block g (by have := h.lt; omega)), fun r h1 => by
    obtain ⟨a, b, d⟩ := h.done r h1
    exact ⟨a, by have := hw.size; omega, d.of_block (hw.block _ (by omega))⟩, h.inj⟩
theorem Ful.start (hB : base ≤ wr.heap.size) (hw : Below base w wr) (F : Nat → Nat → Int) : Ful base w (wr.alloc (.cells (madeCells #[.slice none 0 0] n1) tr)) tr ti wr.heap.size n1 m1 0 G F :=
  ⟨hB, hw.alloc hB _, by simp, (World.rowIs_made wr _ n1 tr).congr (fun j hj => by rw [if_neg (by omega)]), fun r h1 => by omega, fun r s h => by omega⟩
/-- A row of zeros is made. -/
theorem Ful.make (h : Ful base w wr tr ti g n1 m1 i G F) (hz : ∀ j, j < m1 → F i j = 0) :
    Ful base w ((wr.alloc (.cells (madeCells #[.int .i64 0] m1) ti)).setCell ⟨g, i, none⟩ (.slice (some ⟨wr.heap.size, 0, none⟩) m1 m1)) tr ti g n1 m1 (i + 1) (fun r => if r = i then wr.heap.size else G r) F := by
  have hlow := h.low
  have hlt := h.lt
  have hnew := World.rowIs_made wr (.int .i64 0) m1 ti
  refine ⟨hlow, (h.since.alloc (by omega) _).setCell hlow _, by simp [World.setCell]; omega, ((h.top.alloc _).set i _).congr (fun j _ => ?_), fun r h1 => ?_, fun r s h1 h2 he => ?_⟩
  · by_cases e : j = i
    · subst e; simp
    · rw [if_neg e]
      by_cases hlt : j < i
      · rw [if_pos hlt, if_pos (by omega), if_neg e]
      · rw [if_neg hlt, if_neg (by omega)]
  · by_cases e : r = i
    · subst e
      rw [if_pos rfl]
      refine ⟨by omega, by simp [World.setCell], (hnew.setOther (by show wr.heap.size ≠ g; omega) _).congr (fun j hj => by rw [hz j hj])⟩
    · obtain ⟨a, b, d⟩ := h.done r (by omega)
      rw [if_neg e]
      exact ⟨a, by simp [World.setCell]; omega, (d.alloc _).setOther (by show G r ≠ g; omega) _⟩
  · by_cases e1 : r = i <;> by_cases e2 : s = i
    · omega
    · rw [if_pos e1, if_neg e2] at he
      have := (h.done s (by omega)).2.1
      omega
    · rw [if_neg e1, if_pos e2] at he
      have := (h.done r (by omega)).2.1
      omega
    · rw [if_neg e1, if_neg e2] at he
      exact h.inj r s (by omega) (by omega) he
/-- An entry is written. -/
theorem Ful.set (h : Ful base w wr tr ti g n1 m1 i G F) {k c : Nat} (hk : k < i) (v : Int) : Ful base w (wr.setCell ⟨G k, c, none⟩ (.int .i64 v)) tr ti g n1 m1 i G (fun r j => if r = k ∧ j = c then v else F r j) := by
  have hlow := h.low
  obtain ⟨hab, hhere, hcur⟩ := h.done k hk
  refine ⟨hlow, h.since.setCell (by show base ≤ G k; omega) _, by have := h.lt; simpa [World.setCell] using this, h.top.setOther (by show g ≠ G k; omega) _, fun r h1 => ?_, h.inj⟩
  obtain ⟨a, b, d⟩ := h.done r h1
  by_cases e : r = k
  · subst e
    refine ⟨a, by simpa [World.setCell] using b, (d.set c _).congr (fun j _ => ?_)⟩
    by_cases e2 : j = c
    · subst e2; simp
    · rw [if_neg e2, if_neg (by omega)]
  · have hne : G r ≠ G k := fun he => e (h.inj r k h1 hk he)
    exact ⟨a, by simpa [World.setCell] using b, (d.setOther (by show G r ≠ G k; exact hne) _).congr (fun j _ => by rw [if_neg (by omega)])⟩
theorem Ful.row_cell (h : Ful base w wr tr ti g n1 m1 i G F) {r : Nat} (h1 : r < i) (h2 : r < n1) : wr.cell? ⟨g, r, none⟩ = some (.slice (some ⟨G r, 0, none⟩) m1 m1) := by
  have := h.top.cell (i := r) h2
  rw [if_pos h1] at this
  exact this
theorem Ful.row_nil (h : Ful base w wr tr ti g n1 m1 i G F) {r : Nat} (h1 : i ≤ r) (h2 : r < n1) (o : Obj) : (wr.alloc o).cell? ⟨g, r, none⟩ = some (.slice none 0 0) := by
  have := (h.top.alloc o).cell (i := r) h2
  rw [if_neg (by omega)] at this
  exact this
theorem Ful.row_frozen (h : Ful base w wr tr ti g n1 m1 i G F) (r : Nat) (o : Obj) : (wr.alloc o).frozen? ⟨g, r, none⟩ = false := (h.top.alloc o).frozen r
theorem Ful.cell (h : Ful base w wr tr ti g n1 m1 i G F) {r j : Nat} (h1 : r < i) (h3 : j < m1) : wr.cell? ⟨G r, j, none⟩ = some (.int .i64 (F r j)) :=
  (h.done r h1).2.2.cell h3
theorem Ful.frozen (h : Ful base w wr tr ti g n1 m1 i G F) {r : Nat} (h1 : r < i) (j : Nat) : wr.frozen? ⟨G r, j, none⟩ = false := (h.done r h1).2.2.frozen j
theorem Ful.congr {F' : Nat → Nat → Int} (h : Ful base w wr tr ti g n1 m1 i G F) (he : ∀ r j, r < i → j < m1 → F r j = F' r j) : Ful base w wr tr ti g n1 m1 i G F' :=
  ⟨h.low, h.since, h.lt, h.top, fun r h1 => by
    obtain ⟨a, b, d⟩ := h.done r h1
    exact ⟨a, b, d.congr (fun j hj => by rw [he r j h1 hj])⟩, h.inj⟩
end

/-- The entries from row k, place c on are done, the others are 0. -/
def part (Z : Nat → Nat → Int) (k c : Nat) (r j : Nat) : Int := if k < r ∨ (r = k ∧ c ≤ j) then Z r j else 0
theorem part_set {Z : Nat → Nat → Int} {k c : Nat} {v : Int} (hv : v = Z k c) (r j : Nat) : (if r = k ∧ j = c then v else part Z k (c + 1) r j) = part Z k c r j := by
  unfold part
  by_cases h : r = k ∧ j = c
  · rw [if_pos h, if_pos (by omega), hv, h.1, h.2]
  · rw [if_neg h]
    by_cases h2 : k < r ∨ (r = k ∧ c + 1 ≤ j)
    · rw [if_pos h2, if_pos (by omega)]
    · rw [if_neg h2, if_neg (by omega)]
theorem part_row {Z : Nat → Nat → Int} {k m : Nat} (hz : ∀ r, Z r m = 0) (r j : Nat) (hj : j < m + 1) : part Z (k + 1) 0 r j = part Z k m r j := by
  unfold part
  by_cases h : k + 1 < r ∨ (r = k + 1 ∧ 0 ≤ j)
  · rw [if_pos h, if_pos (by omega)]
  · rw [if_neg h]
    by_cases h2 : k < r ∨ (r = k ∧ m ≤ j)
    · rw [if_pos h2]
      obtain rfl : j = m := by omega
      exact (hz r).symm
    · rw [if_neg h2]
theorem part_all {Z : Nat → Nat → Int} (r j : Nat) : part Z 0 0 r j = Z r j := by
  unfold part
  rw [if_pos (by omega)]
theorem part_none {Z : Nat → Nat → Int} {n : Nat} (hz : ∀ j, Z n j = 0) (r j : Nat) (hr : r < n + 1) : (0 : Int) = part Z n 0 r j := by
  unfold part
  by_cases h : n < r ∨ (r = n ∧ 0 ≤ j)
  · rw [if_pos h]
    obtain rfl : r = n := by omega
    exact (hz j).symm
  · rw [if_neg h]
theorem part_at {Z : Nat → Nat → Int} {k c r j : Nat} (h : k < r ∨ (r = k ∧ c ≤ j)) : part Z k c r j = Z r j := by unfold part; rw [if_pos h]
theorem part_zero {Z : Nat → Nat → Int} {k c r j : Nat} (h : ¬ (k < r ∨ (r = k ∧ c ≤ j))) : part Z k c r j = 0 := by unfold part; rw [if_neg h]
end Go.Proofs.YtkenckolkpgebaaGreatDoor

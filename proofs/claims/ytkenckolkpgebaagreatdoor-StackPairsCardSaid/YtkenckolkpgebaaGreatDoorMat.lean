/- The table in memory: what the loops that fill it keep. -/
import Derived.Deep.OwnRows
import Derived.Below
import Derived.WalkKit
namespace Go.Proofs.YtkenckolkpgebaaGreatDoor
open Go.RowKit Go.Deep

/-- Rows k to n of the table stand, in blocks of their own, behind its row of rows. -/
structure Mat (base : Nat) (w wr : World) (tr ti : TypeId) (g n m k : Nat) (G : Nat → Nat) (Z : Nat → Nat → Int) : Prop where
  low : base ≤ g
  since : Below base w wr
  lt : g < wr.heap.size
  top : wr.rowIs g tr (n + 1) (fun r => if k ≤ r then .slice (some ⟨G r, 0, none⟩) (m + 1) (m + 1) else .slice none 0 0)
  done : ∀ r, k ≤ r → r ≤ n → g < G r ∧ G r < wr.heap.size ∧ wr.rowIs (G r) ti (m + 1) (fun j => .int .i64 (Z r j))

/-- Row k is being filled, from its end on: places c to m stand. -/
structure MatIn (base : Nat) (w wi : World) (tr ti : TypeId) (g n m k c : Nat) (G : Nat → Nat) (Z : Nat → Nat → Int) : Prop where
  low : base ≤ g
  since : Below base w wi
  lt : g < wi.heap.size
  top : wi.rowIs g tr (n + 1) (fun r => if k ≤ r then .slice (some ⟨G r, 0, none⟩) (m + 1) (m + 1) else .slice none 0 0)
  done : ∀ r, k + 1 ≤ r → r ≤ n → g < G r ∧ G r < G k ∧ wi.rowIs (G r) ti (m + 1) (fun j => .int .i64 (Z r j))
  above : g < G k
  here : G k < wi.heap.size
  cur : wi.rowIs (G k) ti (m + 1) (fun j => .int .i64 (if c ≤ j then Z k j else 0))

section
variable {base : Nat} {w wr : World} {tr ti : TypeId} {g n m k c : Nat} {G : Nat → Nat} {Z : Nat → Nat → Int}

theorem Mat.alloc (h : Mat base w wr tr ti g n m k G Z) (o : Obj) : Mat base w (wr.alloc o) tr ti g n m k G Z :=
  ⟨h.low, h.since.alloc (by have := h.low; have := h.lt; omega) o, by have := h.lt; simp; omega, h.top.alloc o, fun r h1 h2 => by
    obtain ⟨a, b, d⟩ := h.done r h1 h2
    exact ⟨a, by simp; omega, d.alloc o⟩⟩
theorem Mat.drew (h : Mat base w wr tr ti g n m k G Z) : Mat base w wr.drew tr ti g n m k G Z :=
  ⟨h.low, h.since.drew, h.lt, h.top.drew, fun r h1 h2 => by
    obtain ⟨a, b, d⟩ := h.done r h1 h2
    exact ⟨a, b, d.drew⟩⟩
theorem Mat.on {B : Nat} {w' : World} (h : Mat base w wr tr ti g n m k G Z) (hB : wr.heap.size ≤ B) (hw : Below B wr w') : Mat base w w' tr ti g n m k G Z :=
  ⟨h.low, h.since.trans (hw.mono (by have := h.low; have := h.lt; omega)), by have := h.lt; have := hw.size; omega, h.top.of_block (hw.block g (by have := h.lt; omega)), fun r h1 h2 => by
    obtain ⟨a, b, d⟩ := h.done r h1 h2
    exact ⟨a, by have := hw.size; omega, d.of_block (hw.block _ (by omega))⟩⟩
theorem MatIn.on {B : Nat} {w' : World} (h : MatIn base w wr tr ti g n m k c G Z) (hB : wr.heap.size ≤ B) (hw : Below B wr w') : MatIn base w w' tr ti g n m k c G Z :=
  ⟨h.low, h.since.trans (hw.mono (by have := h.low; have := h.lt; omega)), by have := h.lt; have := hw.size; omega, h.top.of_block (hw.block g (by have := h.lt; omega)), fun r h1 h2 => by
    obtain ⟨a, b, d⟩ := h.done r h1 h2
    exact ⟨a, b, d.of_block (hw.block _ (by have := h.here; omega))⟩, h.above, by have := h.here; have := hw.size; omega, h.cur.of_block (hw.block _ (by have := h.here; omega))⟩

/-- A row of zeros is made and laid into the row of rows. -/
theorem Mat.row (h : Mat base w wr tr ti g n m (k + 1) G Z) (hk : k ≤ n) (hz : Z k m = 0) :
    MatIn base w ((wr.alloc (.cells (madeCells #[.int .i64 0] (m + 1)) ti)).setCell ⟨g, k, none⟩ (.slice (some ⟨wr.heap.size, 0, none⟩) (m + 1) (m + 1))) tr ti g n m k m (fun r => if r = k then wr.heap.size else G r) Z := by
  have hlow := h.low
  have hlt := h.lt
  have hnew := World.rowIs_made wr (.int .i64 0) (m + 1) ti
  refine ⟨hlow, (h.since.alloc (by omega) _).setCell hlow _, by simp [World.setCell]; omega, ((h.top.alloc _).set k _).congr (fun j _ => ?_), fun r h1 h2 => ?_, by simp; omega, by simp [World.setCell], ?_⟩
  · by_cases e : j = k
    · subst e; simp
    · rw [if_neg e]
      by_cases hlt : k + 1 ≤ j
      · rw [if_pos hlt, if_pos (by omega), if_neg e]
      · rw [if_neg hlt, if_neg (by omega)]
  · obtain ⟨a, b, d⟩ := h.done r h1 h2
    rw [if_neg (by omega), if_pos rfl]
    exact ⟨a, b, (d.alloc _).setOther (by show G r ≠ g; omega) _⟩
  · rw [if_pos rfl]
    refine (hnew.setOther (by show wr.heap.size ≠ g; omega) _).congr (fun i hi => ?_)
    by_cases e : m ≤ i
    · obtain rfl : i = m := by omega
      rw [if_pos (Nat.le_refl _), hz]
    · rw [if_neg e]
theorem MatIn.set {v : Int} (h : MatIn base w wr tr ti g n m k (c + 1) G Z) (hv : v = Z k c) : MatIn base w (wr.setCell ⟨G k, c, none⟩ (.int .i64 v)) tr ti g n m k c G Z := by
  have hlow := h.low
  have hab := h.above
  refine ⟨hlow, h.since.setCell (by show base ≤ G k; omega) _, by have := h.lt; simpa [World.setCell] using this, h.top.setOther (by show g ≠ G k; omega) _, fun r h1 h2 => ?_, hab, by have := h.here; simpa [World.setCell] using this, (h.cur.set c _).congr (fun i _ => ?_)⟩
  · obtain ⟨a, b, d⟩ := h.done r h1 h2
    exact ⟨a, b, d.setOther (by show G r ≠ G k; omega) _⟩
  · by_cases e : i = c
    · subst e; simp [hv]
    · rw [if_neg e]
      by_cases hlt : c + 1 ≤ i
      · rw [if_pos hlt, if_pos (by omega)]
      · rw [if_neg hlt, if_neg (by omega)]
theorem MatIn.full (h : MatIn base w wr tr ti g n m k 0 G Z) : Mat base w wr tr ti g n m k G Z :=
  ⟨h.low, h.since, h.lt, h.top, fun r h1 h2 => by
    by_cases e : r = k
    · subst e
      exact ⟨h.above, h.here, h.cur.congr (fun i _ => by simp)⟩
    · obtain ⟨a, b, d⟩ := h.done r (by omega) h2
      exact ⟨a, by have := h.here; omega, d⟩⟩

theorem Mat.row_cell (h : Mat base w wr tr ti g n m k G Z) {r : Nat} (h1 : k ≤ r) (h2 : r ≤ n) : wr.cell? ⟨g, r, none⟩ = some (.slice (some ⟨G r, 0, none⟩) (m + 1) (m + 1)) := by
  have := h.top.cell (i := r) (by omega)
  rw [if_pos h1] at this
  exact this
theorem Mat.cell (h : Mat base w wr tr ti g n m k G Z) {r j : Nat} (h1 : k ≤ r) (h2 : r ≤ n) (h3 : j ≤ m) : wr.cell? ⟨G r, j, none⟩ = some (.int .i64 (Z r j)) :=
  (h.done r h1 h2).2.2.cell (by omega)
theorem MatIn.row_cell (h : MatIn base w wr tr ti g n m k c G Z) {r : Nat} (h1 : k ≤ r) (h2 : r ≤ n) : wr.cell? ⟨g, r, none⟩ = some (.slice (some ⟨G r, 0, none⟩) (m + 1) (m + 1)) := by
  have := h.top.cell (i := r) (by omega)
  rw [if_pos h1] at this
  exact this
theorem MatIn.cell (h : MatIn base w wr tr ti g n m k c G Z) {r j : Nat} (h1 : k + 1 ≤ r) (h2 : r ≤ n) (h3 : j ≤ m) : wr.cell? ⟨G r, j, none⟩ = some (.int .i64 (Z r j)) :=
  (h.done r h1 h2).2.2.cell (by omega)
theorem MatIn.curCell (h : MatIn base w wr tr ti g n m k c G Z) {j : Nat} (h1 : c ≤ j) (h3 : j ≤ m) : wr.cell? ⟨G k, j, none⟩ = some (.int .i64 (Z k j)) := by
  have := h.cur.cell (i := j) (by omega)
  rw [if_pos h1] at this
  exact this
theorem MatIn.curAny (h : MatIn base w wr tr ti g n m k c G Z) {j : Nat} (h3 : j ≤ m) : wr.cell? ⟨G k, j, none⟩ = some (.int .i64 (if c ≤ j then Z k j else 0)) := h.cur.cell (i := j) (by omega)
theorem MatIn.curFrozen (h : MatIn base w wr tr ti g n m k c G Z) (j : Nat) : wr.frozen? ⟨G k, j, none⟩ = false := h.cur.frozen j
theorem Mat.start (hB : base ≤ wr.heap.size) (hw : Below base w wr) (Z : Nat → Nat → Int) : Mat base w (wr.alloc (.cells (madeCells #[.slice none 0 0] (n + 1)) tr)) tr ti wr.heap.size n m (n + 1) G Z :=
  ⟨hB, hw.alloc hB _, by simp, (World.rowIs_made wr _ (n + 1) tr).congr (fun j hj => by rw [if_neg (by omega)]), fun r h1 h2 => by omega⟩
/-- A row of zeros at the end stands at once. -/
theorem MatIn.zeros (h : MatIn base w wr tr ti g n m k m G Z) (hz : ∀ j, j < m → Z k j = 0) : MatIn base w wr tr ti g n m k 0 G Z :=
  ⟨h.low, h.since, h.lt, h.top, h.done, h.above, h.here, h.cur.congr (fun j hj => by
    rw [if_pos (Nat.zero_le _)]
    by_cases e : m ≤ j
    · rw [if_pos e]
    · rw [if_neg e, hz j (by omega)])⟩
end
end Go.Proofs.YtkenckolkpgebaaGreatDoor

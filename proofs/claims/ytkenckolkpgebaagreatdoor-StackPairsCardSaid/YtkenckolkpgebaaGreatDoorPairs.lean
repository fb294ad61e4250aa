/- Pairs in a row of the call's own, and a table that is only read. -/
import Derived.Test.YtkenckolkpgebaaGreatDoorMost
import Derived.Test.YtkenckolkpgebaaGreatDoorFul
namespace Go.Proofs.YtkenckolkpgebaaGreatDoor
open Go.RowKit Go.Deep

theorem Tryz.info62 : (Tryz.prog.info? 30).map (fun i => (i.zero, i.size, i.bytes)) = some (some (.agg #[.int .i64 0, .int .i64 0]), 2, 16) := by kernel_rfl

def encPr (p : Nat × Nat) : List Value := [.int .i64 p.1, .int .i64 p.2]
def cellsP (l : List (Nat × Nat)) : List Value := l.flatMap encPr
theorem cellsP_length (l : List (Nat × Nat)) : (cellsP l).length = l.length * 2 := by
  induction l with
  | nil => rfl
  | cons x l ih => rw [cellsP, List.flatMap_cons, List.length_append]; rw [cellsP] at ih; rw [ih]; simp [encPr]; omega
theorem cellsP_snoc (l : List (Nat × Nat)) (x : Nat × Nat) : cellsP (l ++ [x]) = cellsP l ++ [.int .i64 x.1, .int .i64 x.2] := by simp [cellsP, encPr]
theorem cellsP_at : ∀ {l : List (Nat × Nat)} {i : Nat} (h : i < l.length) {j : Nat}, j < 2 → (cellsP l)[i * 2 + j]? = (encPr l[i])[j]?
  | x :: l, 0, _, j, hj => by
    rw [cellsP, List.flatMap_cons, List.getElem?_append_left (by simp [encPr]; omega)]; simp
  | x :: l, i + 1, h, j, hj => by
    rw [cellsP, List.flatMap_cons, List.getElem?_append_right (by simp [encPr]; omega)]
    have e : (i + 1) * 2 + j - (encPr x).length = i * 2 + j := by simp [encPr]; omega
    rw [e, ← cellsP, cellsP_at (by simpa using h) hj]
    simp

/-- A value is a row of pairs. -/
def SlP (w : World) (v : Value) (l : List (Nat × Nat)) : Prop :=
  ∃ (p : Option Addr) (cap : Nat), v = .slice p l.length cap ∧ (l = [] ∨ ∃ b, p = some ⟨b, 0, none⟩ ∧ b < w.heap.size ∧ ∀ i (h : i < l.length), w.cell? ⟨b, i * 2, none⟩ = some (.int .i64 l[i].1) ∧ w.cell? ⟨b, i * 2 + 1, none⟩ = some (.int .i64 l[i].2))
theorem SlP.below {w w' : World} {v : Value} {l : List (Nat × Nat)} {B : Nat} (h : SlP w v l) (hB : w.heap.size ≤ B) (hw : Below B w w') : SlP w' v l := by
  obtain ⟨p, cap, hv, h4⟩ := h
  refine ⟨p, cap, hv, ?_⟩
  rcases h4 with h4 | ⟨b, hp, hb, hc⟩
  · exact .inl h4
  · exact .inr ⟨b, hp, by have := hw.size; omega, fun i hi => ⟨(hw.cell (p := ⟨b, _, none⟩) (by simp only; omega)).trans (hc i hi).1, (hw.cell (p := ⟨b, _, none⟩) (by simp only; omega)).trans (hc i hi).2⟩⟩
theorem slP_of_owns {w : World} {base : Nat} {e : TypeId} {v : Value} {n : Nat} {l : List (Nat × Nat)} (h : w.ownsRow base e 2 v n (cellsP l)) : SlP w v l := by
  obtain ⟨hlen, h⟩ := h
  rw [cellsP_length] at hlen
  obtain rfl : n = l.length := by omega
  rcases h with ⟨rfl, h0⟩ | ⟨g, cap, cur, rfl, _, hg, hn, hc, hsz, htk⟩
  · exact ⟨none, 0, by rw [h0], .inl (List.length_eq_zero_iff.1 h0)⟩
  · have hcell : ∀ i (hi : i < l.length) j, j < 2 → w.cell? ⟨g, i * 2 + j, none⟩ = (encPr l[i])[j]? := fun i hi j hj => by
      rw [← cellsP_at hi hj, ← htk]
      simp only [World.cell?, hg]
      rw [List.getElem?_take_of_lt (by omega)]
      simp
    exact ⟨_, cap, rfl, .inr ⟨g, rfl, (Array.getElem?_eq_some_iff.1 hg).1, fun i hi => ⟨by simpa [encPr] using hcell i hi 0 (by omega), by simpa [encPr] using hcell i hi 1 (by omega)⟩⟩⟩

theorem own_keeps {w w' : World} {base : Nat} {e : TypeId} {size : Nat} {v : Value} {n : Nat} {xs : List Value} (h : w.ownsRow base e size v n xs) (hb : Below w.heap.size w w') : w'.ownsRow base e size v n xs :=
  h.kept (row := none) ⟨hb.os, hb.tape, hb.output, hb.size, fun k hk _ => hb.block k hk⟩ (by cases hv : v.ownBlock <;> simp)
theorem own_ge {w : World} {base : Nat} {e : TypeId} {size : Nat} {v : Value} {n : Nat} {xs : List Value} (h : w.ownsRow base e size v n xs) : ∀ k, v.ownBlock = some k → base ≤ k := by
  obtain ⟨_, ⟨rfl, _⟩ | ⟨g', cap, cur, rfl, hb, _⟩⟩ := h
  · simp [Value.ownBlock]
  · simp only [Value.ownBlock]
    intro k hk
    simp only [Option.some.injEq] at hk
    omega

/-- A table that is only read. -/
structure Tab (w : World) (g n1 m1 : Nat) (G : Nat → Nat) (Z : Nat → Nat → Int) : Prop where
  row : ∀ r, r < n1 → w.cell? ⟨g, r, none⟩ = some (.slice (some ⟨G r, 0, none⟩) m1 m1)
  cell : ∀ r j, r < n1 → j < m1 → w.cell? ⟨G r, j, none⟩ = some (.int .i64 (Z r j))
theorem Tab.below {w w' : World} {g n1 m1 : Nat} {G : Nat → Nat} {Z : Nat → Nat → Int} {B : Nat} (h : Tab w g n1 m1 G Z) (hB : w.heap.size ≤ B) (hw : Below B w w') : Tab w' g n1 m1 G Z :=
  ⟨fun r hr => (hw.cell (by have := World.block_lt_of_cell? _ _ (h.row r hr); omega)).trans (h.row r hr), fun r j hr hj => (hw.cell (by have := World.block_lt_of_cell? _ _ (h.cell r j hr hj); omega)).trans (h.cell r j hr hj)⟩
theorem Mat.tab {base : Nat} {w wr : World} {tr ti : TypeId} {g n m n1 m1 : Nat} {G : Nat → Nat} {Z : Nat → Nat → Int} (h : Mat base w wr tr ti g n m 0 G Z) (hn : n1 = n + 1) (hm : m1 = m + 1) : Tab wr g n1 m1 G Z :=
  ⟨fun _ hr => by rw [hm]; exact h.row_cell (Nat.zero_le _) (by omega), fun _ _ hr hj => h.cell (Nat.zero_le _) (by omega) (by omega)⟩
theorem Ful.tab {base : Nat} {w wr : World} {tr ti : TypeId} {g n1 m1 : Nat} {G : Nat → Nat} {Z : Nat → Nat → Int} (h : Ful base w wr tr ti g n1 m1 n1 G Z) : Tab wr g n1 m1 G Z :=
  ⟨fun _ hr => h.row_cell hr hr, fun _ _ hr hj => h.cell hr hj⟩
end Go.Proofs.YtkenckolkpgebaaGreatDoor

/- Rows of elements in memory, rows of the call's own, worlds that grow: for any program. -/
import Derived.Lib.Strings
import Derived.Lib.Slices
import Derived.Lib.SlicesS
import Derived.Lib.Hide
import Derived.Lib.AtoiErrMem
import Derived.WalkKit
import Derived.BigQuiet
import Derived.OneCell
import Derived.Test.YtnpnoohnkbpokaaDoorVerA
namespace Go.Proofs.YtnpnoohnkbpokaaDoor
open Go.RowKit

/-! ### Rows of elements in memory -/
section
variable {α : Type}
/-- Elements lie one after the other, k cells each. -/
def AtG (enc : α → List Value) (k : Nat) (w : World) (b off : Nat) (l : List α) : Prop :=
  ∀ i (h : i < l.length) j, j < k → w.cell? ⟨b, off + i * k + j, none⟩ = (enc l[i])[j]?
theorem AtG.below {enc : α → List Value} {k B : Nat} {w w' : World} {b o : Nat} {l : List α} (h : AtG enc k w b o l) (hb : b < B) (hw : Below B w w') : AtG enc k w' b o l :=
  fun i hi j hj => (hw.cell (p := ⟨b, _, none⟩) hb).trans (h i hi j hj)
theorem AtG.take {enc : α → List Value} {k : Nat} {w : World} {b o : Nat} {l : List α} (h : AtG enc k w b o l) (n : Nat) : AtG enc k w b o (l.take n) := by
  intro i hi j hj
  have hi' : i < l.length := by rw [List.length_take] at hi; omega
  rw [List.getElem_take]; exact h i hi' j hj
theorem AtG.drop {enc : α → List Value} {k : Nat} {w : World} {b o : Nat} {l : List α} (h : AtG enc k w b o l) (n : Nat) : AtG enc k w b (o + n * k) (l.drop n) := by
  intro i hi j hj
  have hi' : n + i < l.length := by rw [List.length_drop] at hi; omega
  rw [List.getElem_drop, show o + n * k + i * k + j = o + (n + i) * k + j by rw [Nat.add_mul]; omega]; exact h _ hi' j hj
/-- A value is a slice of elements: where they lie. -/
def SlG (enc : α → List Value) (k : Nat) (fit : α → Prop) (w : World) (v : Value) (l : List α) : Prop :=
  ∃ (p : Option Addr) (cap : Nat), v = .slice p l.length cap ∧ l.length ≤ cap ∧ cap ≤ maxLen ∧ (∀ x ∈ l, fit x) ∧ (l = [] ∨ ∃ b off, p = some ⟨b, off, none⟩ ∧ b < w.heap.size ∧ AtG enc k w b off l)
theorem SlG.below {enc : α → List Value} {k : Nat} {fit : α → Prop} {w w' : World} {v : Value} {l : List α} {B : Nat} (h : SlG enc k fit w v l) (hB : w.heap.size ≤ B) (hw : Below B w w') : SlG enc k fit w' v l := by
  obtain ⟨p, cap, hv, h1, h2, h3, h4⟩ := h
  refine ⟨p, cap, hv, h1, h2, h3, ?_⟩
  rcases h4 with h4 | ⟨b, off, hp, hb, hc⟩
  · exact .inl h4
  · exact .inr ⟨b, off, hp, by have := hw.size; omega, hc.below (B := B) (by omega) hw⟩
theorem SlG.nil {enc : α → List Value} {k : Nat} {fit : α → Prop} (w : World) : SlG enc k fit w (.slice none 0 0) [] :=
  ⟨none, 0, rfl, Nat.le_refl _, by simp [maxLen], by simp, .inl rfl⟩
def cellsG (enc : α → List Value) (l : List α) : List Value := l.flatMap enc
theorem cellsG_length {enc : α → List Value} {k : Nat} (hk : ∀ x, (enc x).length = k) (l : List α) : (cellsG enc l).length = l.length * k := by
  induction l with
  | nil => simp [cellsG]
  | cons x l ih => rw [cellsG, List.flatMap_cons, List.length_append, hk]; rw [cellsG] at ih; rw [ih, List.length_cons, Nat.succ_mul]; omega
theorem cellsG_append (enc : α → List Value) (a b : List α) : cellsG enc (a ++ b) = cellsG enc a ++ cellsG enc b := by simp [cellsG]
theorem cellsG_at {enc : α → List Value} {k : Nat} (hk : ∀ x, (enc x).length = k) : ∀ {l : List α} {i : Nat} (h : i < l.length) {j : Nat}, j < k → (cellsG enc l)[i * k + j]? = (enc l[i])[j]?
  | x :: l, 0, _, j, hj => by
    rw [cellsG, List.flatMap_cons, List.getElem?_append_left (by rw [hk]; omega)]; simp
  | x :: l, i + 1, h, j, hj => by
    rw [cellsG, List.flatMap_cons, List.getElem?_append_right (by rw [hk, Nat.succ_mul]; omega)]
    have e : (i + 1) * k + j - (enc x).length = i * k + j := by rw [hk, Nat.succ_mul]; omega
    rw [e, ← cellsG, cellsG_at hk (by simpa using h) hj]
    simp
/-- A row of the call's own holds elements: it is a slice of them. -/
theorem slG_of_owns {enc : α → List Value} {k : Nat} (hk : ∀ x, (enc x).length = k) (hk0 : 0 < k) {fit : α → Prop} {w : World} {base : Nat} {e : TypeId} {v : Value} {n : Nat} {l : List α} (h : w.ownsRow base e k v n (cellsG enc l)) (hf : ∀ x ∈ l, fit x) : SlG enc k fit w v l := by
  obtain ⟨hlen, h⟩ := h
  rw [cellsG_length hk] at hlen
  obtain rfl : n = l.length := (Nat.eq_of_mul_eq_mul_right hk0 hlen).symm
  rcases h with ⟨rfl, h0⟩ | ⟨g, cap, cur, rfl, _, hg, hn, hc, hsz, htk⟩
  · exact ⟨none, 0, by rw [h0], by omega, by simp [maxLen], hf, .inl (List.length_eq_zero_iff.1 h0)⟩
  · refine ⟨_, cap, rfl, hn, hc, hf, .inr ⟨g, 0, rfl, (Array.getElem?_eq_some_iff.1 hg).1, fun i hi j hj => ?_⟩⟩
    rw [← cellsG_at hk hi hj, ← htk, Nat.zero_add]
    simp only [World.cell?, hg]
    have : i * k + j < l.length * k := by
      have : (i + 1) * k ≤ l.length * k := Nat.mul_le_mul_right _ hi
      rw [Nat.succ_mul] at this; omega
    rw [List.getElem?_take_of_lt this]
    simp
end

theorem cell_keep {W W' : World} {p : Addr} {v : Value} (h : W.cell? p = some v) (hb : Below W.heap.size W W') : W'.cell? p = some v := (hb.cell (World.block_lt_of_cell? _ _ h)).trans h
theorem below_keep {B : Nat} {a W W' : World} (h : Below B a W) (hB : B ≤ a.heap.size) (hb : Below W.heap.size W W') : Below B a W' := h.trans (hb.mono (by have := h.size; omega))
section
variable {w w' : World} {base : Nat} {e : TypeId} {size : Nat} {v : Value} {n : Nat} {xs : List Value}
theorem own_keeps (h : w.ownsRow base e size v n xs) (hb : Below w.heap.size w w') : w'.ownsRow base e size v n xs := by
  obtain ⟨h1, h2⟩ := h
  refine ⟨h1, ?_⟩
  rcases h2 with h2 | ⟨g, cap, cur, hv, hg, hc, r⟩
  · exact Or.inl h2
  · exact Or.inr ⟨g, cap, cur, hv, hg, (hb.block _ (Array.getElem?_eq_some_iff.1 hc).1).trans hc, r⟩
theorem own_mono {base' : Nat} (h : w.ownsRow base e size v n xs) (hB : base' ≤ base) : w.ownsRow base' e size v n xs := by
  obtain ⟨h1, h2⟩ := h
  refine ⟨h1, ?_⟩
  rcases h2 with h2 | ⟨g, cap, cur, hv, hg, r⟩
  · exact Or.inl h2
  · exact Or.inr ⟨g, cap, cur, hv, by omega, r⟩
theorem own_lt (h : w.ownsRow base e size v n xs) {k : Nat} (hk : v.ownBlock = some k) : base ≤ k ∧ k < w.heap.size := h.lt k hk
/-- A row with an element is a slice at a block. -/
theorem own_slice (h : w.ownsRow base e size v n xs) (hn : 0 < n) : ∃ g cap, v = .slice (some ⟨g, 0, none⟩) n cap ∧ base ≤ g ∧ g < w.heap.size ∧ ∀ j u, xs[j]? = some u → w.cell? ⟨g, j, none⟩ = some u := by
  obtain ⟨h1, ⟨_, h2⟩ | ⟨g, cap, cur, hv, hg, hc, h3, h4, h5, h6⟩⟩ := h
  · omega
  · refine ⟨g, cap, hv, hg, (Array.getElem?_eq_some_iff.1 hc).1, fun j u hj => ?_⟩
    simp only [World.cell?, hc]
    rw [← h6, List.getElem?_take] at hj
    split at hj
    · simpa using hj
    · exact absurd hj (by simp)
theorem own_len (h : w.ownsRow base e size v n xs) : ∃ p cap, v = .slice p n cap := by
  obtain ⟨_, ⟨h2, h3⟩ | ⟨g, cap, cur, hv, _⟩⟩ := h
  · subst h3; exact ⟨_, _, h2⟩
  · exact ⟨_, _, hv⟩
/-- A cell that is not of the row that grew. -/
theorem cell_grown {p : Addr} {u : Value} {row : Option Nat} (hg : w.grownBy w' row) (h : w.cell? p = some u) (hne : row ≠ some p.block) : w'.cell? p = some u := hg.cell h (fun h => hne h.symm)
theorem below_grown {B : Nat} {a : World} {row : Option Nat} (h : Below B a w) (hg : w.grownBy w' row) (hr : ∀ k, row = some k → B ≤ k) (hB : B ≤ w.heap.size) : Below B a w' :=
  ⟨hg.os.trans h.os, hg.tape.trans h.tape, hg.output.trans h.output, Nat.le_trans h.size hg.size, fun k hk => (hg.block k (by omega) (fun e => by have := hr k e.symm; omega)).trans (h.block k hk)⟩
end
theorem grownBy_set (w : World) (p : Addr) (v : Value) : w.grownBy (w.setCell p v) (some p.block) :=
  ⟨rfl, rfl, rfl, by simp [World.setCell], fun k _ hk => Below.heap_setCell _ _ _ _ (fun e => hk (by rw [e]))⟩
theorem grownBy_refl (w : World) (r : Option Nat) : w.grownBy w r := ⟨rfl, rfl, rfl, Nat.le_refl _, fun _ _ _ => rfl⟩
theorem grownBy_trans {a b c : World} {r : Option Nat} (h : a.grownBy b r) (k : b.grownBy c r) : a.grownBy c r :=
  ⟨k.os.trans h.os, k.tape.trans h.tape, k.output.trans h.output, Nat.le_trans h.size k.size, fun i hi hr => (k.block i (Nat.lt_of_lt_of_le hi h.size) hr).trans (h.block i hi hr)⟩
theorem grownBy_below {a b c : World} {r : Option Nat} (h : a.grownBy b r) (k : Below b.heap.size b c) : a.grownBy c r :=
  ⟨k.os.trans h.os, k.tape.trans h.tape, k.output.trans h.output, Nat.le_trans h.size k.size, fun i hi hr => (k.block i (Nat.lt_of_lt_of_le hi h.size)).trans (h.block i hi hr)⟩
theorem grownBy_of_below {a c : World} {r : Option Nat} (k : Below a.heap.size a c) : a.grownBy c r := grownBy_below (grownBy_refl a r) k
theorem cell_grownBy {w w' : World} {r : Option Nat} {p : Addr} {v : Value} (h : w.cell? p = some v) (hg : w.grownBy w' r) (hr : r ≠ some p.block) : w'.cell? p = some v :=
  (World.cell?_of_block (hg.block p.block (World.block_lt_of_cell? _ _ h) (fun e => hr e.symm))).trans h

theorem grownBy_low {a b c : World} {r : Option Nat} {B : Nat} (h : a.grownBy b r) (k : Below B b c) (hB : a.heap.size ≤ B) : a.grownBy c r :=
  ⟨k.os.trans h.os, k.tape.trans h.tape, k.output.trans h.output, Nat.le_trans h.size k.size, fun i hi hr => (k.block i (Nat.lt_of_lt_of_le hi hB)).trans (h.block i hi hr)⟩

theorem grownBy_own {a b : World} {r : Option Nat} (h : a.grownBy b r) {p : Addr} (hp : a.heap.size ≤ p.block) (v : Value) : a.grownBy (b.setCell p v) r :=
  grownBy_low h ((Below.refl _ _).setCell hp v) (Nat.le_refl _)
theorem grownBy_new {a b : World} {r : Option Nat} (h : a.grownBy b r) (o : Obj) : a.grownBy (b.alloc o) r := grownBy_trans h (World.grownBy_alloc _ _ _)
theorem below_drewE {B : Nat} {a w : World} (h : Below B a w) (n : Nat) : Below B a (w.drewN n) := ⟨h.os, h.tape, h.output, h.size, h.block⟩
theorem below_a1 {B : Nat} {w wr w1 : World} {o : Obj} (h : Below B w wr) (hB : B ≤ wr.heap.size) (h1 : Below (wr.alloc o).heap.size (wr.alloc o) w1) : Below B w w1 :=
  (h.alloc hB o).trans (h1.mono (by simp; omega))
def encS (s : ByteArray) : List Value := [.string s]
def fitS (s : ByteArray) : Prop := s.size ≤ 9223372036854775807
theorem AtG.str {w : World} {b off : Nat} {l : List ByteArray} (h : AtG encS 1 w b off l) {i : Nat} (hi : i < l.length) : w.cell? ⟨b, off + i, none⟩ = some (.string l[i]) := by
  have := h i hi 0 (by omega); simpa [encS] using this
theorem ret_int {k : IntKind} {a b : Int} (h : a = b) : Ending.returned (.int k a) = .returned (.int k b) := by rw [h]
end Go.Proofs.YtnpnoohnkbpokaaDoor

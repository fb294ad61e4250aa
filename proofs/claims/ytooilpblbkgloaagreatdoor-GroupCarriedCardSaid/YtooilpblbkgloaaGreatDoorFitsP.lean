/- What Fits answers. -/
import Derived.Test.YtooilpblbkgloaaGreatDoorChecked
import Derived.Test.YtooilpblbkgloaaGreatDoorShelf
import Derived.Test.YtooilpblbkgloaaGreatDoorGlob
import Derived.WalkKit
import Derived.BigQuiet
import Derived.Deep.QuietTactic
import Derived.Lib.Hide
import Derived.IntWalk
namespace Go.Proofs.YtooilpblbkgloaaGreatDoor
open Go.RowKit Go.Lib

theorem ret_bool {a b : Bool} (h : a = b) : Ending.returned (.bool a) = .returned (.bool b) := by rw [h]
theorem below_drewN {B : Nat} {a w : World} (h : Below B a w) (n : Nat) : Below B a (w.drewN n) := ⟨h.os, h.tape, h.output, h.size, h.block⟩
theorem below_or {B : Nat} {a w w' : World} (h : Below B a w) (h' : w' = w ∨ w' = w.drew) : Below B a w' := by
  rcases h' with rfl | rfl
  · exact h
  · exact h.drew
theorem u8_eq {a b : UInt8} : (((a.toNat : Int) == (b.toNat : Int)) = true) ↔ a = b := by
  rw [beq_iff_eq]
  constructor
  · intro h; exact UInt8.toNat_inj.1 (by exact_mod_cast h)
  · rintro rfl; rfl
theorem u8_ne {a b : UInt8} (h : a ≠ b) : ((a.toNat : Int) == (b.toNat : Int)) = false := by
  rw [Bool.eq_false_iff]; intro h'; exact h (u8_eq.1 h')
theorem dropWhile_nil {α : Type} {p : α → Bool} : ∀ {l : List α}, l.dropWhile p = [] ↔ ∀ x ∈ l, p x = true
  | [] => by simp
  | a :: l => by
    rw [List.dropWhile_cons]
    cases h : p a
    · simp [h]
    · simp [h, dropWhile_nil (l := l)]
theorem dropWhile_mem {α : Type} {p : α → Bool} : ∀ {l : List α} {x : α}, x ∈ l.dropWhile p → x ∈ l
  | a :: l, x, h => by
    rw [List.dropWhile_cons] at h
    cases hp : p a
    · simpa [hp] using h
    · rw [hp, if_pos rfl] at h; exact List.mem_cons_of_mem _ (dropWhile_mem h)
theorem mem_dropWhile {α : Type} {p : α → Bool} : ∀ {l : List α} {x : α}, x ∈ l → p x = false → x ∈ l.dropWhile p
  | a :: l, x, h, hx => by
    rw [List.dropWhile_cons]
    cases hp : p a
    · simpa [hp] using h
    · rw [if_pos rfl]
      rw [List.mem_cons] at h
      rcases h with rfl | h
      · rw [hp] at hx; cases hx
      · exact mem_dropWhile h hx

/-- What the loop keeps, with the four variables' values. -/
def FitsRel (G S : List UInt8) (v5 v6 v7 v8 : Value) (g i n : Nat) (bh : Int) : Prop :=
  v5 = .int .i64 g ∧ v6 = .int .i64 i ∧ v7 = .int .i64 bh ∧ v8 = .int .i64 n ∧ g ≤ G.length ∧ i ≤ S.length ∧ n ≤ i ∧ Inv G S g i bh n ∧ (bh = -1 ∨ ∃ b : Nat, bh = b ∧ b ≤ g)

theorem trimB_nil {l : List UInt8} : Lib.trimB l 42 = [] ↔ ∀ c ∈ l, c = 42 := by
  unfold Lib.trimB Lib.trimLeftB Lib.trimRightB
  rw [dropWhile_nil]
  constructor
  · intro h c hc
    by_cases hne : c = 42
    · exact hne
    · have h1 : c ∈ l.reverse.dropWhile (· == 42) := mem_dropWhile (by simpa using hc) (by simpa using hne)
      simpa using h c (by simpa using h1)
  · intro h c hc
    simpa using h c (by simpa using dropWhile_mem (show c ∈ l.reverse.dropWhile (· == 42) by simpa using hc))
theorem extract_drop {G : ByteArray} {g : Nat} : (G.extract g G.size).data.toList = G.data.toList.drop g := by
  have h : G.size = G.data.toList.length := Lib.size_eq G
  rw [Lib.extract_data, List.take_of_length_le (by rw [List.length_drop]; omega)]

theorem mz_star {S G i n g : Nat} (h : n ≤ i) (hg : g < G) : (S + 1 - i) * (G + 1) + (G - (g + 1)) < (S + 1 - n) * (G + 1) + (G - g) := by
  have := Nat.mul_le_mul_right (G + 1) (show S + 1 - i ≤ S + 1 - n by omega)
  omega
theorem mz_back {S G n g b : Nat} (h : n < S) : (S + 1 - (n + 1)) * (G + 1) + (G - b) < (S + 1 - n) * (G + 1) + (G - g) := by
  rw [show S + 1 - n = S + 1 - (n + 1) + 1 by omega, Nat.add_mul]
  omega

end Go.Proofs.YtooilpblbkgloaaGreatDoor

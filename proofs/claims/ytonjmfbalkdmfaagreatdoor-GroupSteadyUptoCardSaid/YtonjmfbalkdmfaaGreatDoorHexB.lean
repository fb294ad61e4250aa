/- What formatBits writes at base 16. -/
import Derived.Test.YtonjmfbalkdmfaaGreatDoorHexA
import Derived.Laws.BitsAllLaws
import Derived.Laws.IdiomStrings
import Derived.Laws.Slices
namespace Go.Proofs.YtonjmfbalkdmfaaGreatDoor
open Go.RowKit Go.Lib

/-- A block of 65 bytes whose last ones are the digits of a list. -/
structure Row65 (w : World) (B : Nat) (l : List UInt8) : Prop where
  any : ∀ q, q < 65 → ∃ v, w.cell? ⟨B, q, none⟩ = some v
  fz : ∀ q, w.frozen? ⟨B, q, none⟩ = false
  at' : ∀ i (h : i < l.length), w.cell? ⟨B, 65 - l.length + i, none⟩ = some (.int .u8 (l[i].toNat : Int))
  le : l.length ≤ 65
theorem Row65.put {w : World} {B : Nat} {l : List UInt8} (h : Row65 w B l) (c : UInt8) (hl : l.length < 65) : Row65 (w.setCell ⟨B, 65 - (l.length + 1), none⟩ (.int .u8 (c.toNat : Int))) B (c :: l) := by
  obtain ⟨v0, hv0⟩ := h.any (65 - (l.length + 1)) (by omega)
  refine ⟨fun q hq => ?_, fun q => by rw [World.frozen?_setCell]; exact h.fz q, fun i hi => ?_, by simp; omega⟩
  · by_cases e : q = 65 - (l.length + 1)
    · subst e; exact ⟨_, World.cell?_setCell_same _ _ _ hv0⟩
    · obtain ⟨v, hv⟩ := h.any q hq
      exact ⟨v, by rw [World.cell?_setCell_other _ _ _ _ (by intro k; injection k with _ k _; omega)]; exact hv⟩
  · cases i with
    | zero =>
      show World.cell? _ ⟨B, 65 - (l.length + 1) + 0, none⟩ = _
      exact World.cell?_setCell_same _ _ _ hv0
    | succ i =>
      have hi' : i < l.length := by simpa using hi
      have e : 65 - (c :: l).length + (i + 1) = 65 - l.length + i := by simp; omega
      rw [e, World.cell?_setCell_other _ _ _ _ (by intro k; injection k with _ k _; omega)]
      exact h.at' i hi'
theorem and15 (n : Nat) (h : n < 18446744073709551616) : bits .and .u64 (n : Int) 15 = ((n % 16 : Nat) : Int) := by
  have := u64_and (n : Int) 15 (by omega) (by omega) (by omega) (by omega)
  rw [this]
  have e : ((n : Int)).toNat = n := by omega
  rw [e]
  show (((n &&& 15 : Nat)) : Int) = _
  rw [show (15 : Nat) = 2 ^ 4 - 1 from rfl, Nat.and_two_pow_sub_one_eq_mod]
def d36 : ByteArray := ⟨#[48, 49, 50, 51, 52, 53, 54, 55, 56, 57, 97, 98, 99, 100, 101, 102, 103, 104, 105, 106, 107, 108, 109, 110, 111, 112, 113, 114, 115, 116, 117, 118, 119, 120, 121, 122]⟩
theorem idx36 (d : Nat) (h : d < 16) (k : IntKind) (w : World) : (Instr.index 9 (.string ⟨#[48, 49, 50, 51, 52, 53, 54, 55, 56, 57, 97, 98, 99, 100, 101, 102, 103, 104, 105, 106, 107, 108, 109, 110, 111, 112, 113, 114, 115, 116, 117, 118, 119, 120, 121, 122]⟩) (.int k (d : Int))).run Tryz.prog w = .ok (.int .u8 ((dig d).toNat : Int)) w := by
  rw [run_index_string w 9 _ k _ Tryz.underlying9]
  have : ∀ d : Fin 16, ∀ hd, ((d36[((d.val : Int)).toNat]'hd)) = dig d.val := by decide
  rw [dif_pos ⟨by omega, by show _ < ((36 : Nat) : Int); omega⟩]
  have e := this ⟨d, h⟩ (by show ((d : Int)).toNat < 36; omega)
  simp only at e
  rw [← e]; rfl
end Go.Proofs.YtonjmfbalkdmfaaGreatDoor

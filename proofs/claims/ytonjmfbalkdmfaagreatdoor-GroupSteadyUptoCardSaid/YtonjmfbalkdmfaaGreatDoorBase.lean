/- Small laws. -/
import Derived.Test.YtonjmfbalkdmfaaGreatDoorChecked
import Derived.Test.YtonjmfbalkdmfaaGreatDoorShelf
import Derived.WalkKit
import Derived.BigQuiet
import Derived.Deep.QuietTactic
import Derived.Lib.Hide
import Derived.IntWalk
namespace Go.Proofs.YtonjmfbalkdmfaaGreatDoor
open Go.RowKit Go.Lib

theorem ret_bool {a b : Bool} (h : a = b) : Ending.returned (.bool a) = .returned (.bool b) := by rw [h]
theorem below_drewN {B : Nat} {a w : World} (h : Below B a w) (n : Nat) : Below B a (w.drewN n) := ⟨h.os, h.tape, h.output, h.size, h.block⟩
theorem below_or {B : Nat} {a w w' : World} (h : Below B a w) (h' : w' = w ∨ w' = w.drew) : Below B a w' := by
  rcases h' with rfl | rfl
  · exact h
  · exact h.drew
theorem u8_eq {a b : UInt8} : (((a.toNat : Int) == (b.toNat : Int)) = true) ↔ a = b := by
  rw [beq_iff_eq]
  constructor
  · intro h; exact UInt8.toNat_inj.1 (by exact_mod_cast h)
  · rintro rfl; rfl
theorem u8_ne {a b : UInt8} (h : a ≠ b) : ((a.toNat : Int) == (b.toNat : Int)) = false := by
  rw [Bool.eq_false_iff]; intro h'; exact h (u8_eq.1 h')
theorem extract_drop {G : ByteArray} {g : Nat} : (G.extract g G.size).data.toList = G.data.toList.drop g := by
  have h : G.size = G.data.toList.length := Lib.size_eq G
  rw [Lib.extract_data, List.take_of_length_le (by rw [List.length_drop]; omega)]
end Go.Proofs.YtonjmfbalkdmfaaGreatDoor

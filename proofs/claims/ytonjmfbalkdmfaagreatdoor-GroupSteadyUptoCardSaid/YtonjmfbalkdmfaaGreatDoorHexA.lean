/- Sums of strings; what the readers and writers of numbers in base 16 answer. -/
import Derived.Test.YtonjmfbalkdmfaaGreatDoorShelf
import Derived.Test.YtonjmfbalkdmfaaGreatDoorHexP
import Derived.Test.YtonjmfbalkdmfaaGreatDoorBase
import Derived.Lib.Hide
import Derived.Lib.ConvBytes
import Derived.Laws.Shifts
import Derived.WalkKit
import Derived.BigQuiet
namespace Go.Proofs.YtonjmfbalkdmfaaGreatDoor
open Go.RowKit Go.Lib

theorem cell_keep {W W' : World} {p : Addr} {v : Value} (h : W.cell? p = some v) (hb : Below W.heap.size W W') : W'.cell? p = some v := (hb.cell (World.block_lt_of_cell? _ _ h)).trans h
theorem below_call {B : Nat} {a w w' : World} (h : Below B a w) (hB : B ≤ w.heap.size) (hk : Below w.heap.size w w') : Below B a w' := h.trans (hk.mono hB)

/-- One byte more. -/
def stp (h : Int) (c : UInt8) : Int := IntKind.u64.wrap (bits .xor .u64 h (c.toNat : Int) * 1099511628211)
def sumB (l : List UInt8) (h : Int) : Int := l.foldl stp h
theorem u64_le (n : Int) : 0 ≤ IntKind.u64.wrap n ∧ IntKind.u64.wrap n ≤ 18446744073709551615 := by
  rw [IntKind.wrap_u64]; omega
theorem sumB_le : ∀ (l : List UInt8) (h : Int), 0 ≤ h → h ≤ 18446744073709551615 → 0 ≤ sumB l h ∧ sumB l h ≤ 18446744073709551615
  | [], _, h0, h1 => ⟨h0, h1⟩
  | _ :: l, _, _, _ => sumB_le l _ (u64_le _).1 (u64_le _).2
theorem sumB_take (l : List UInt8) (h : Int) (k : Nat) (hk : k < l.length) : sumB (l.take (k + 1)) h = stp (sumB (l.take k) h) l[k] := by
  unfold sumB
  rw [List.take_succ_eq_append_getElem hk, List.foldl_append]; rfl

theorem wrapByte (c : UInt8) : IntKind.u64.wrap (c.toNat : Int) = (c.toNat : Int) := by
  rw [IntKind.wrap_u64]; have := c.toNat_lt; omega
set_option maxHeartbeats 1000000 in
set_option maxRecDepth 100000 in
theorem sumOn_any (h : Int) (s : ByteArray) (w : World) (hs : s.size ≤ 4611686018427387904) : Calls Tryz.prog 35 #[.int .u64 h, .string s] w fun e w' => e = .returned (.int .u64 (sumB s.data.toList h)) ∧ w' = w := by
  have hl := Lib.hid (Lib.size_eq s)
  go_enter Tryz.func35, Tryz.ntmps35
  go_wp2_with fail
  go_loopw [0, 8] (fun u v wr => ∃ k : Nat, v = .int .i64 k ∧ k ≤ s.size ∧ u = .int .u64 (sumB (s.data.toList.take k) h) ∧ wr = w) (fun _ v _ => s.size - (RowKit.intOf v).toNat)
  case atStart => exact ⟨0, rfl, Nat.zero_le _, rfl, rfl⟩
  case round =>
    obtain ⟨k, rfl, hk, rfl, rfl⟩ := hrel
    by_cases hlt : k < s.size
    · have HS := Lib.hid (sumB_take s.data.toList h k (by have := hl.out; omega))
      generalize sumB (s.data.toList.take k) h = a at *
      go_wp2_with fail
      have e : s.data.toList[k]'(by have := hl.out; omega) = s[k] := by simp [ByteArray.getElem_eq_getElem_data]
      refine ⟨⟨k + 1, by go_num, by omega, ?_, trivial⟩, by simp [RowKit.intOf]; omega⟩
      rw [HS.out, wrapByte, e]; rfl
    · go_wp2_with fail
      go_ret
      exact ⟨by rw [List.take_of_length_le (by have := hl.out; omega)]; rfl, rfl⟩
/-- The greatest uint64 less the lowest: where the table tells how many zeros 16 ends in. -/
def EnvH (w : World) : Prop := w.cell? ⟨3, 15, none⟩ = some (.int .u8 4)
theorem EnvH.keep {w w' : World} (h : EnvH w) (hb : Below w.heap.size w w') : EnvH w' := cell_keep h hb
set_option maxHeartbeats 1000000 in
theorem isPow_16 (w : World) : Calls Tryz.prog 81 #[.int .i64 16] w fun e w' => e = .returned (.bool true) ∧ w' = w := by
  go_enter Tryz.func81, Tryz.ntmps81
  go_wp2_with fail
  go_ret
  exact ⟨rfl, rfl⟩
set_option maxHeartbeats 1000000 in
theorem zeros64_16 (w : World) (h : EnvH w) : Calls Tryz.prog 92 #[.int .u64 16] w fun e w' => e = .returned (.int .i64 4) ∧ w' = w := by
  unfold EnvH at h
  have hb : bits .and .u64 16 (IntKind.u64.wrap (-16)) = 16 := by decide
  have hw : IntKind.u64.wrap 4573923408821661840 = 4573923408821661840 := by decide
  go_enter Tryz.func92, Tryz.ntmps92
  go_wp2_with fail
  go_ret
  exact ⟨rfl, rfl⟩
set_option maxHeartbeats 1000000 in
theorem zeros_16 (w : World) (h : EnvH w) : Calls Tryz.prog 82 #[.int .u64 16] w fun e w' => e = .returned (.int .i64 4) ∧ w' = w := by
  have HZ := Lib.hid (fun W h => zeros64_16 W h)
  go_enter Tryz.func82, Tryz.ntmps82
  go_wp2_with (go_at_call 92; (with_reducible refine (HZ.out _ h).mono ?_); rintro e w1 ⟨rfl, rfl⟩)
  go_ret
  exact ⟨rfl, rfl⟩
end Go.Proofs.YtonjmfbalkdmfaaGreatDoor

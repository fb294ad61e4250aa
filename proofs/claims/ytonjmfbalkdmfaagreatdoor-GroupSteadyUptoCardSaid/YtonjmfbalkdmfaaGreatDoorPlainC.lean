/- What Plain answers. -/
import Derived.Test.YtonjmfbalkdmfaaGreatDoorPlainB
import Derived.Lib.TrimByte
namespace Go.Proofs.YtonjmfbalkdmfaaGreatDoor
open Go.RowKit Go.Lib

theorem strCells_bs (l : List UInt8) : Lib.strCells (bs l) = Lib.byteCells l := rfl
theorem byteCells_app (l m : List UInt8) : Lib.byteCells (l ++ m) = Lib.byteCells l ++ Lib.byteCells m := by simp [Lib.byteCells]
theorem byteCells_len (l : List UInt8) : (Lib.byteCells l).length = l.length := by simp [Lib.byteCells]
theorem ext_data {s : ByteArray} {n : Nat} : (s.extract n s.size).data.toList = s.data.toList.drop n := extract_drop

set_option maxHeartbeats 2000000 in
set_option maxRecDepth 100000 in
theorem plain_any (s : ByteArray) (w : World) (hs : 3 * s.size ≤ 140737488355328) :
    Calls Tryz.prog 5 #[.string s] w fun e w' => e = .returned (.string (bs (pl s.data.toList))) ∧ Below w.heap.size w w' := by
  go_enter Tryz.func5, Tryz.ntmps5
  go_wp2_with fail
  go_loopw [0] (fun v wr => ∃ (r : ByteArray) (pre : List UInt8), v = .string r ∧ r.size ≤ s.size ∧ pre.length ≤ 3 * (s.size - r.size) ∧ pre ++ pl r.data.toList = pl s.data.toList ∧ Lib.IsBuilder 37 5 w.heap.size w.heap.size (Lib.byteCells pre) wr ∧ Below w.heap.size w wr) (fun v _ => Lib.strSize v)
  case atStart => exact ⟨s, [], rfl, Nat.le_refl _, by simp, by simp, Lib.fresh_isBuilder 37 5 w, (Below.refl _ _).alloc (Nat.le_refl _) _⟩
  case round =>
    obtain ⟨r, pre, rfl, hr, hpl, heq, hB, hbw⟩ := hrel
    have HEQ := Lib.hid heq
    clear heq
    have hl := Lib.size_eq r
    by_cases h0 : 0 < r.size
    · have hne : r.data.toList ≠ [] := by intro h; have h2 := congrArg List.length h; rw [← hl, List.length_nil] at h2; omega
      have HP := Lib.hid (fun W => plainly_any r W h0 (by omega))
      have hq : (!r.toList.isEmpty) = true := by rw [Lib.toList_data]; simpa using hne
      have HS := Lib.hid (pl_cons hne)
      have t1 := tok_pos r.data.toList
      have t2 := tok_le hne
      have t3 := tok_len r.data.toList
      rw [← hl] at t2
      unfold TokVal at HP
      clear hne
      generalize tok r.data.toList = t at *
      obtain ⟨tx, tn⟩ := t
      simp only at HP HS t1 t2 t3
      have HW := Lib.hid (writeString_any w.heap.size w.heap.size (Lib.byteCells pre) (bs tx) wr hB (by rw [byteCells_len, bs_size]; omega) hbw.size)
      have HZ := Lib.hid hl
      clear hl
      have HX := Lib.hid (ext_data (s := r) (n := tn))
      have hxz : (r.extract tn r.size).size = r.size - tn := by rw [Lib.size_eq, HX.out, List.length_drop, ← HZ.out]
      have HXZ := Lib.hid hxz
      clear hxz
      have HL := Lib.hid (show (pre ++ tx).length ≤ 3 * (s.size - (r.size - tn)) by rw [List.length_append]; omega)
      go_wp2_with (first
        | (go_at_call 8; refine (HP.out _).mono ?_; rintro e w1 ⟨rfl, rfl⟩)
        | (go_at_call 9; refine HW.out.mono ?_; rintro e w2 ⟨rfl, hB2, hb2, _⟩))
      refine ⟨⟨r.extract tn r.size, pre ++ tx, rfl, by rw [HXZ.out]; omega, by rw [HXZ.out]; exact HL.out, by rw [HX.out, List.append_assoc, ← HS.out]; exact HEQ.out, ?_, hbw.trans hb2⟩, ?_⟩
      · rw [byteCells_app, ← strCells_bs tx]
        exact Or.inr hB2
      · rw [Lib.strSize_string, Lib.strSize_string, HXZ.out]
        omega
    · have hne : r.data.toList = [] := by apply List.eq_nil_of_length_eq_zero; rw [← hl]; omega
      have hq : (!r.toList.isEmpty) = false := by rw [Lib.toList_data, hne]; rfl
      have HE2 := Lib.hid (show pre = pl s.data.toList by rw [← HEQ.out, hne, pl_nil, List.append_nil])
      have HS := Lib.hid (Tryz.Builder_String_any w.heap.size w.heap.size pre wr hB hbw.size)
      clear hne hl h0
      go_wp2_with (go_at_call 10; refine HS.out.mono ?_; rintro e w1 ⟨rfl, hb1⟩)
      go_ret
      exact ⟨by rw [← HE2.out]; rfl, hbw.trans hb1⟩
end Go.Proofs.YtonjmfbalkdmfaaGreatDoor

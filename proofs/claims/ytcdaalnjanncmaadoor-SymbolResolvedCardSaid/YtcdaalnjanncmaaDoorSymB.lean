/- What the check of the files of a table answers. -/
import Derived.Test.YtcdaalnjanncmaaDoorSymA
namespace Go.Proofs.YtcdaalnjanncmaaDoor
open Go.RowKit Go.Lib

theorem filsErr_bad {pre l : List ByteArray} {s : ByteArray} (h : filErr s ≠ 0) : filsErr pre (s :: l) = filErr s := by rw [filsErr, if_pos h]
theorem filsErr_twice {pre l : List ByteArray} {s : ByteArray} (h : filErr s = 0) (h2 : containsS pre s = true) : filsErr pre (s :: l) = 6 := by rw [filsErr, if_neg (by omega), if_pos h2]
theorem filsErr_next {pre l : List ByteArray} {s : ByteArray} (h : filErr s = 0) (h2 : containsS pre s = false) : filsErr pre (s :: l) = filsErr (pre ++ [s]) l := by rw [filsErr, if_neg (by omega), if_neg (by simp [h2])]
theorem filErr_empty {s : ByteArray} (h : s.size = 0) : filErr s = 1 := by unfold filErr; rw [if_pos h]
theorem filErr_some {s : ByteArray} (h : s.size ≠ 0) : filErr s = frErr ⟨noB, fB, s, 0, -1, false⟩ := by unfold filErr; rw [if_neg h]
theorem eq_empty (s : ByteArray) : (s.toList == ([] : List UInt8)) = decide (s.size = 0) := by
  rw [← emp]
  cases s.toList <;> rfl

set_option maxHeartbeats 2000000 in
set_option maxRecDepth 100000 in
theorem checkFiles_some (id : ByteArray) (size : Int) (b off c1 n : Nat) (p2 p3 p4 : Option Addr) (n2 n3 n4 c2 c3 c4 : Nat) (l : List ByteArray) (w : World) (hl : l.length = n) (hn : n ≤ 200) (hnc : n ≤ c1) (hb : b < w.heap.size) (hc : AtG encS 1 w b off l) (hf : ∀ s ∈ l, fitS s) :
    Calls Tryd.prog 62 #[.agg #[.string id, .int .i64 size, .slice (some ⟨b, off, none⟩) n c1, .slice p2 n2 c2, .slice p3 n3 c3, .slice p4 n4 c4]] w fun e w' => e = .returned (.int .i64 (filsErr [] l)) ∧ Below w.heap.size w w' := by
  have hd : decide (200 < (n : Int)) = false := by simp; omega
  go_enter Tryd.func62, Tryd.ntmps62
  go_wp2_with fail
  go_loopw [13] (fun v wr => ∃ k : Nat, k ≤ n ∧ v = .int .i64 k ∧ filsErr [] l = filsErr (l.take k) (l.drop k) ∧ wr.cell? ⟨w.heap.size, 2, none⟩ = some (.slice (some ⟨b, off, none⟩) n c1) ∧ Below w.heap.size w wr) (fun v _ => n - (RowKit.intOf v).toNat)
  case atStart => exact ⟨0, Nat.zero_le _, rfl, by simp, by go_simp, (Below.refl _ _).alloc (Nat.le_refl _) _⟩
  case round =>
    obtain ⟨k, hk, rfl, heq, hbox, hbw⟩ := hrel
    have HEQ := Lib.hid heq
    clear heq
    by_cases hlt : k < n
    · have hkl : k < l.length := by omega
      have HD := Lib.hid (List.drop_eq_getElem_cons hkl)
      have HT := Lib.hid (List.take_succ_eq_append_getElem hkl)
      have c0 := (hbw.cell (p := ⟨b, _, none⟩) hb).trans (hc.str hkl)
      have hfs := hf _ (List.getElem_mem hkl)
      have HCT := Lib.hid (fun (W : World) (x : ByteArray) (hW : Below w.heap.size w W) => Tryd.slices_Contains_string b off k c1 l x W (by omega) (by omega) (fun j hj => by
        rw [(hW.cell (p := ⟨b, _, none⟩) hb), hc.str hj]; simp [List.getD, List.getElem?_eq_getElem hj]))
      generalize l[k] = s at *
      have HF := Lib.hid (fun W => checkFrame_any ⟨noB, fB, s, 0, -1, false⟩ W (by show noB.size ≤ maxLen; decide) (by show fB.size ≤ maxLen; decide) (fitS_le hfs))
      unfold Fr.val noB fB at HF
      have hkc : (k : Int) ≤ (c1 : Int) := by omega
      by_cases h0 : s.size = 0
      · have he : (s.toList == ([] : List UInt8)) = true := by rw [eq_empty]; simp [h0]
        have HR := Lib.hid (show filsErr [] l = 1 by rw [HEQ.out, HD.out, filsErr_bad (by rw [filErr_empty h0]; omega), filErr_empty h0])
        clear h0
        go_wp2_with fail
        go_ret
        exact ⟨ret_int HR.out.symm, hbw⟩
      · have he : (s.toList == ([] : List UInt8)) = false := by rw [eq_empty]; simp [h0]
        have hfe := filErr_some h0
        unfold noB fB at hfe
        rw [← hfe] at HF
        have HX := Lib.hid hfe
        clear h0 hfe
        have hlt2 := World.block_lt_of_cell? _ _ hbox
        by_cases hz : filErr s = 0
        · rw [hz] at HF
          cases hct : containsS (l.take k) s
          · have HC2 := Lib.hid (fun (W : World) (hW : Below w.heap.size w W) => HCT.out W s hW)
            rw [hct] at HC2
            have HR := Lib.hid (show filsErr [] l = filsErr (l.take (k + 1)) (l.drop (k + 1)) by rw [HEQ.out, HD.out, filsErr_next hz hct, HT.out])
            clear hz hct
            go_wp2_with (first
              | (go_at_call 85; refine (HF.out _).mono ?_; rintro e w1 ⟨rfl, hb1⟩; have hbox1 := (hb1.cell (p := ⟨w.heap.size, 2, none⟩) hlt2).trans hbox; have hbw1 := below_call hbw hbw.size hb1)
              | (go_at_call 22; refine (HC2.out _ hbw1).mono ?_; rintro e w2 ⟨rfl, rfl⟩))
            exact ⟨⟨k + 1, by omega, by go_num, HR.out, hbox1, hbw1⟩, by simp [RowKit.intOf]; omega⟩
          · have HC2 := Lib.hid (fun (W : World) (hW : Below w.heap.size w W) => HCT.out W s hW)
            rw [hct] at HC2
            have HR := Lib.hid (show filsErr [] l = 6 by rw [HEQ.out, HD.out, filsErr_twice hz hct])
            clear hz hct
            go_wp2_with (first
              | (go_at_call 85; refine (HF.out _).mono ?_; rintro e w1 ⟨rfl, hb1⟩; have hbox1 := (hb1.cell (p := ⟨w.heap.size, 2, none⟩) hlt2).trans hbox; have hbw1 := below_call hbw hbw.size hb1)
              | (go_at_call 22; refine (HC2.out _ hbw1).mono ?_; rintro e w2 ⟨rfl, rfl⟩))
            go_ret
            exact ⟨ret_int HR.out.symm, hbw1⟩
        · have hq : (filErr s != 0) = true := by simpa using hz
          have HR := Lib.hid (show filsErr [] l = filErr s by rw [HEQ.out, HD.out, filsErr_bad hz])
          clear hz
          generalize filErr s = E at *
          go_wp2_with (go_at_call 85; refine (HF.out _).mono ?_; rintro e w1 ⟨rfl, hb1⟩)
          go_ret
          exact ⟨ret_int HR.out.symm, below_call hbw hbw.size hb1⟩
    · have HR := Lib.hid (show filsErr [] l = 0 by rw [HEQ.out, List.drop_of_length_le (by omega)]; rfl)
      go_wp2_with fail
      go_ret
      exact ⟨ret_int HR.out.symm, hbw⟩
end Go.Proofs.YtcdaalnjanncmaaDoor

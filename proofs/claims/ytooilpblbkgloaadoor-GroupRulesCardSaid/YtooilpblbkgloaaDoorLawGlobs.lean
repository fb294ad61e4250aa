/- The law GroupGlobs, walked. -/
import Derived.Test.YtooilpblbkgloaaDoorPlainC
namespace Go.Proofs.YtooilpblbkgloaaDoor
open Go.RowKit Go.Lib

set_option maxHeartbeats 1000000 in
set_option maxRecDepth 100000 in
theorem awake_any (w : World) : Calls Tryd.prog 14 #[] w fun e w' => e = .returned (.bool true) ∧ Below w.heap.size w w' := by
  have HP := Lib.hid (plain_any ⟨#[49]⟩ w (by decide))
  rw [show bs (pl (⟨#[49]⟩ : ByteArray).data.toList) = ⟨#[60, 110, 62]⟩ by decide] at HP
  go_enter Tryd.func14, Tryd.ntmps14
  go_wp2_with (go_at_call 8; refine HP.out.mono ?_; rintro e w1 ⟨rfl, hb1⟩)
  go_ret
  exact ⟨rfl, hb1⟩

theorem app_data (a b : ByteArray) : (a ++ b).data.toList = a.data.toList ++ b.data.toList := by simp
theorem fits_true {G S : ByteArray} {w : World} (hS : S.size ≤ 4611686018427387904) (hG : G.size ≤ 100) (h : M G.data.toList S.data.toList) :
    Calls Tryd.prog 6 #[.string G, .string S] w fun e w' => e = .returned (.bool true) ∧ Below w.heap.size w w' := by
  have := fits_any G S w hS (by omega)
  rw [fitsB_true (by rw [← Lib.size_eq]; exact hG) h] at this
  exact this

/-- No sign among the first ones. -/
def NoSign (l : List UInt8) (k : Nat) : Prop := ∀ c ∈ l.take k, c ≠ 42 ∧ c ≠ 63
theorem NoSign.next {l : List UInt8} {k : Nat} (h : NoSign l k) (hk : k < l.length) (h1 : l[k] ≠ 42) (h2 : l[k] ≠ 63) : NoSign l (k + 1) := by
  intro c hc
  rw [List.take_succ_eq_append_getElem hk, List.mem_append] at hc
  rcases hc with hc | hc
  · exact h c hc
  · simp at hc; subst hc; exact ⟨h1, h2⟩
theorem star_size : (⟨#[42]⟩ : ByteArray).size = 1 := rfl

set_option maxHeartbeats 4000000 in
set_option maxRecDepth 100000 in
theorem globs_law (s t : ByteArray) (w : World) (hs : s.size ≤ 140737488355328) (ht : t.size ≤ 140737488355328) :
    Calls Tryd.prog 5 #[.string s, .string t] w fun e w' => e = .returned (.bool true) ∧ Below w.heap.size w w' := by
  have HA := Lib.hid (awake_any w)
  have hl := Lib.hid (Lib.size_eq s)
  by_cases h98 : 98 < s.size
  · by_cases h100 : 100 < s.size
    · have HF := Lib.hid (fun W => fits_any s s W (by omega) (by omega))
      rw [fitsB_long (by rw [← Lib.size_eq]; exact h100)] at HF
      go_enter Tryd.func5, Tryd.ntmps5
      go_wp2_with (first
        | (go_at_call 14; refine HA.out.mono ?_; rintro e w1 ⟨rfl, hb1⟩)
        | (go_at_call 6; refine (HF.out _).mono ?_; rintro e w2 ⟨rfl, hb2⟩))
      go_ret
      exact ⟨rfl, hb1.trans (hb2.mono hb1.size)⟩
    · go_enter Tryd.func5, Tryd.ntmps5
      go_wp2_with (first
        | (go_at_call 14; refine HA.out.mono ?_; rintro e w1 ⟨rfl, hb1⟩))
      go_ret
      exact ⟨rfl, hb1⟩
  · go_enter Tryd.func5, Tryd.ntmps5
    go_wp2_with (first
      | (go_at_call 14; refine HA.out.mono ?_; rintro e w1 ⟨rfl, hb1⟩))
    go_loopw [22] (fun v wr => ∃ k : Nat, v = .int .i64 k ∧ k ≤ s.size ∧ NoSign s.data.toList k ∧ Below w.heap.size w wr) (fun v _ => s.size - (RowKit.intOf v).toNat)
    case atStart => exact ⟨0, rfl, Nat.zero_le _, fun c hc => by simp at hc, hb1⟩
    case round =>
      obtain ⟨k, rfl, hk, hno, hbw⟩ := hrel
      have HNO := Lib.hid hno
      clear hno
      by_cases hlt : k < s.size
      · have hkl : k < s.data.toList.length := by rw [← hl.out]; exact hlt
        have HS1 := Lib.hid (fun W => fits_true (G := ⟨#[42]⟩) (S := s) (w := W) (by omega) (by decide) (M.all _))
        have HS2 := Lib.hid (fun W => fits_true (G := s) (S := s) (w := W) (by omega) (by omega) (M.self _))
        by_cases h1 : s[k] = 42
        · have hq : ((s[k].toNat : Int) == 42) = true := by rw [h1]; rfl
          clear h1
          go_wp2_with (first
            | (go_at_call 6; (with_reducible refine (HS1.out _).mono ?_); rintro e w2 ⟨rfl, hb2⟩)
            | (go_at_call 6; (with_reducible refine (HS2.out _).mono ?_); rintro e w3 ⟨rfl, hb3⟩))
          go_ret
          exact ⟨rfl, (hbw.trans (hb2.mono hbw.size)).trans (hb3.mono (Nat.le_trans hbw.size hb2.size))⟩
        · have hq : ((s[k].toNat : Int) == 42) = false := u8_ne h1
          by_cases h2 : s[k] = 63
          · have hq2 : ((s[k].toNat : Int) == 63) = true := by rw [h2]; rfl
            clear h1 h2
            go_wp2_with (first
              | (go_at_call 6; (with_reducible refine (HS1.out _).mono ?_); rintro e w2 ⟨rfl, hb2⟩)
              | (go_at_call 6; (with_reducible refine (HS2.out _).mono ?_); rintro e w3 ⟨rfl, hb3⟩))
            go_ret
            exact ⟨rfl, (hbw.trans (hb2.mono hbw.size)).trans (hb3.mono (Nat.le_trans hbw.size hb2.size))⟩
          · have hq2 : ((s[k].toNat : Int) == 63) = false := u8_ne h2
            have HN2 := Lib.hid (HNO.out.next hkl h1 h2)
            clear h1 h2
            go_wp2_with fail
            exact ⟨⟨k + 1, rfl, hlt, HN2.out, hbw⟩, by simp [RowKit.intOf]; omega⟩
      · have hk2 : k = s.size := by omega
        have hns : ∀ c ∈ s.data.toList, c ≠ 42 ∧ c ≠ 63 := fun c hc => HNO.out c (by rw [List.take_of_length_le (by rw [← hl.out]; omega)]; exact hc)
        clear hk2
        have HF1 := Lib.hid (fun W => fits_any s t W (by omega) (by omega))
        have HF2 := Lib.hid (fun W => fits_true (G := s ++ ⟨#[42]⟩) (S := s ++ t) (w := W) (by rw [ByteArray.size_append]; omega) (by rw [ByteArray.size_append, star_size]; omega) (by rw [app_data, app_data]; exact M.begins _ _))
        have HF3 := Lib.hid (fun W => fits_true (G := ⟨#[42]⟩ ++ s) (S := t ++ s) (w := W) (by rw [ByteArray.size_append]; omega) (by rw [ByteArray.size_append, star_size]; omega) (by rw [app_data, app_data]; exact M.endsWith _ _))
        have HF4 := Lib.hid (fun W => fits_true (G := ⟨#[42]⟩ ++ s ++ ⟨#[42]⟩) (S := t ++ s ++ t) (w := W) (by rw [ByteArray.size_append, ByteArray.size_append]; omega) (by rw [ByteArray.size_append, ByteArray.size_append, star_size]; omega) (by rw [app_data, app_data, app_data, app_data]; exact M.inside _ _))
        have hb : fitsB s.data.toList t.data.toList = (s.toList == t.toList) := by
          rw [Lib.toList_data, Lib.toList_data, Bool.eq_iff_iff, fitsB_iff (by rw [← hl.out]; omega), M.plain hns, beq_iff_eq]
        rw [hb] at HF1
        clear hb hns
        cases hst : (s.toList == t.toList)
        all_goals
          rw [hst] at HF1
          go_wp2_with (first
            | (go_at_call 6; (with_reducible refine (HF1.out _).mono ?_); rintro e w2 ⟨rfl, hb2⟩)
            | (go_at_call 6; (with_reducible refine (HF2.out _).mono ?_); rintro e w3 ⟨rfl, hb3⟩)
            | (go_at_call 6; (with_reducible refine (HF3.out _).mono ?_); rintro e w4 ⟨rfl, hb4⟩)
            | (go_at_call 6; (with_reducible refine (HF4.out _).mono ?_); rintro e w5 ⟨rfl, hb5⟩))
          go_ret
          have b2 := hbw.trans (hb2.mono hbw.size)
          have b3 := b2.trans (hb3.mono b2.size)
          have b4 := b3.trans (hb4.mono b3.size)
          exact ⟨rfl, b4.trans (hb5.mono b4.size)⟩
end Go.Proofs.YtooilpblbkgloaaDoor

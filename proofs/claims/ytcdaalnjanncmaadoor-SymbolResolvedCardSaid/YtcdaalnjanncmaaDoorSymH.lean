/- The reference's checks of ids, names, spans, functions and rows. -/
import Derived.Test.YtcdaalnjanncmaaDoorSymG
import Derived.Test.YtcdaalnjanncmaaDoorSymD
namespace Go.Proofs.YtcdaalnjanncmaaDoor
open Go.RowKit Go.Lib

set_option maxHeartbeats 1000000 in
set_option maxRecDepth 100000 in
theorem digits16_any (s : ByteArray) (w : World) (_ : fitS s) :
    Calls Tryd.prog 50 #[.string s] w fun e w' => e = .returned (.bool (isIdB s)) ∧ Below w.heap.size w w' := by
  by_cases hl : s.size = 16
  · have HT := Lib.hid (fun W => idTrim s W hl)
    have hz : ((s.size : Int) == 16) = true := by rw [beq_iff_eq]; omega
    have HE := Lib.hid (show isIdB s = s.data.toList.all (fun c => decide (c ∈ idSet)) by unfold isIdB; rw [decide_eq_true hl]; rfl)
    have HM := Lib.hid (trim_empty (s := s.data.toList))
    clear hl
    generalize Lib.trimS s.data.toList idSet = r at *
    by_cases hr : r = []
    · have HQ := Lib.hid (HM.out.1 hr)
      subst hr
      go_enter Tryd.func50, Tryd.ntmps50
      go_wp2_with (go_at_call 74; refine (HT.out _).mono ?_; rintro e w1 ⟨rfl, hb1⟩)
      go_ret
      exact ⟨ret_bool (by rw [HE.out, HQ.out]), hb1⟩
    · have HQ := Lib.hid (show s.data.toList.all (fun c => decide (c ∈ idSet)) = false by
        rw [Bool.eq_false_iff]; intro h; exact hr (HM.out.2 h))
      obtain ⟨a, l, rfl⟩ : ∃ a l, r = a :: l := by
        cases r with
        | nil => exact absurd rfl hr
        | cons a l => exact ⟨a, l, rfl⟩
      clear hr
      go_enter Tryd.func50, Tryd.ntmps50
      go_wp2_with (go_at_call 74; refine (HT.out _).mono ?_; rintro e w1 ⟨rfl, hb1⟩)
      go_ret
      exact ⟨ret_bool (by rw [HE.out, HQ.out]), hb1⟩
  · have hz : ((s.size : Int) == 16) = false := by rw [beq_eq_false_iff_ne]; omega
    have HE := Lib.hid (show isIdB s = false by unfold isIdB; rw [decide_eq_false hl]; rfl)
    clear hl
    go_enter Tryd.func50, Tryd.ntmps50
    go_wp2_with fail
    go_ret
    exact ⟨ret_bool HE.out.symm, Below.refl _ _⟩

set_option maxHeartbeats 1000000 in
set_option maxRecDepth 100000 in
theorem nameFault_any (s : ByteArray) (w : World) (hs : fitS s) :
    Calls Tryd.prog 75 #[.string s] w fun e w' => e = .returned (.int .i64 (namErr s)) ∧ Below w.heap.size w w' := by
  have HF := Lib.hid (frameFault_any ⟨#[]⟩ s ⟨#[]⟩ w (by unfold fitS; decide) hs (by unfold fitS; decide))
  have HC := Lib.hid (fun W => Tryd.strings_Contains_one s 33 W)
  have HE := Lib.hid (show namErr s = if frErr ⟨⟨#[]⟩, s, ⟨#[]⟩, 0, -1, false⟩ ≠ 0 then frErr ⟨⟨#[]⟩, s, ⟨#[]⟩, 0, -1, false⟩ else if decide (0 ≤ Lib.indexByte s.data.toList 33) = true then 9 else 0 from rfl)
  generalize frErr ⟨⟨#[]⟩, s, ⟨#[]⟩, 0, -1, false⟩ = E at *
  generalize decide (0 ≤ Lib.indexByte s.data.toList 33) = b at *
  by_cases hz : E = 0
  · subst hz
    rw [if_neg (by omega)] at HE
    cases b
    · go_enter Tryd.func75, Tryd.ntmps75
      go_wp2_with (first
        | (go_at_call 47; refine HF.out.mono ?_; rintro e w1 ⟨rfl, hb1⟩)
        | (go_at_call 49; refine (HC.out _).mono ?_; rintro e w2 ⟨rfl, rfl⟩))
      go_ret
      exact ⟨ret_int HE.out.symm, hb1⟩
    · go_enter Tryd.func75, Tryd.ntmps75
      go_wp2_with (first
        | (go_at_call 47; refine HF.out.mono ?_; rintro e w1 ⟨rfl, hb1⟩)
        | (go_at_call 49; refine (HC.out _).mono ?_; rintro e w2 ⟨rfl, rfl⟩))
      go_ret
      exact ⟨ret_int HE.out.symm, hb1⟩
  · rw [if_pos hz] at HE
    have hq : (E != 0) = true := by simpa using hz
    clear hz
    go_enter Tryd.func75, Tryd.ntmps75
    go_wp2_with (go_at_call 47; refine HF.out.mono ?_; rintro e w1 ⟨rfl, hb1⟩)
    go_ret
    exact ⟨ret_int HE.out.symm, hb1⟩

set_option maxHeartbeats 1000000 in
set_option maxRecDepth 100000 in
theorem outR_any (n a b : Int) (w : World) :
    Calls Tryd.prog 48 #[.int .i64 n, .int .i64 a, .int .i64 b] w fun e w' => e = .returned (.bool (decide (n < a) || decide (b < n))) ∧ w' = w := by
  go_enter Tryd.func48, Tryd.ntmps48
  go_wp2_with fail
  all_goals (go_ret; exact ⟨ret_bool (by simp), rfl⟩)

set_option maxHeartbeats 1000000 in
set_option maxRecDepth 100000 in
theorem spanFault_any (a b c : Int) (w : World) (hc : -9223372036854775807 ≤ c) (hc2 : c ≤ 9223372036854775807) :
    Calls Tryd.prog 76 #[.int .i64 a, .int .i64 b, .int .i64 c] w fun e w' => e = .returned (.int .i64 (if spanOk a b c then 0 else 2)) ∧ w' = w := by
  have HO := Lib.hid (fun W => outR_any a 0 (c - 1) W)
  have hw : IntKind.i64.wrap (c - 1) = c - 1 := IntWalk.i64_in _ ⟨by omega, by omega⟩
  clear hc hc2
  go_enter Tryd.func76, Tryd.ntmps76
  go_wp2_with (go_at_call 48; refine (HO.out _).mono ?_; rintro e w1 ⟨rfl, rfl⟩)
  all_goals (go_ret; refine ⟨ret_int ?_, rfl⟩; clear HO hw)
  all_goals first
    | rfl
    | (exfalso; unfold spanOk at *; omega)
    | (exfalso; unfold spanOk at *; simp_all; omega)
end Go.Proofs.YtcdaalnjanncmaaDoor

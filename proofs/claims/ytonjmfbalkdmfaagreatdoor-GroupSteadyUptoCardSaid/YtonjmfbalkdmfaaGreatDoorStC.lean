/- What Mark, Parts, Digest and Print answer: no rules, one fault without frames. -/
import Derived.Test.YtonjmfbalkdmfaaGreatDoorStB
import Derived.Test.YtonjmfbalkdmfaaGreatDoorPlainC
import Derived.Test.YtonjmfbalkdmfaaGreatDoorHexC
namespace Go.Proofs.YtonjmfbalkdmfaaGreatDoor
open Go.RowKit Go.Lib

set_option maxHeartbeats 2000000 in
set_option maxRecDepth 100000 in
theorem mark_bad (b : Nat) (k t : ByteArray) (w : World) (h1 : k.size ≤ maxLen) (h2 : t.size ≤ 2000) (h3 : stk.okT t = true) (c0 : w.cell? ⟨b, 0, none⟩ = some (.string k)) (c1 : w.cell? ⟨b, 1, none⟩ = some (.string t)) (c2 : w.cell? ⟨b, 2, none⟩ = some (.slice none 0 0)) (hE : stk.kErr k ≠ 0) :
    Calls Tryz.prog 19 #[.slice none 0 0, .slice (some ⟨b, 0, none⟩) 1 1] w fun e w' => e = .returned (.tuple #[.slice none 0 0, .string ⟨#[]⟩, .int .i64 (stk.kErr k)]) ∧ Below w.heap.size w w' := by
  have HC := Lib.hid (fun (W : World) (hW : Below w.heap.size w W) => stk.check_one b k t W h1 h2 h3 (cell_keep c0 hW) (cell_keep c1 hW) (cell_keep c2 hW))
  have hne : (stk.kErr k != 0) = true := by rw [bne_iff_ne]; exact hE
  clear c0 c1 c2 hE
  go_enter Tryz.func19, Tryz.ntmps19
  go_wp2_with (first
    | (go_at_call 28; (with_reducible refine (rules_none _).mono ?_); rintro e w1 ⟨rfl, hb1⟩)
    | (go_at_call 29; (with_reducible refine (HC.out _ hb1).mono ?_); rintro e w2 ⟨rfl, hb2⟩; have hB2 := below_keep hb1 (Nat.le_refl _) hb2)
    | (go_at_call 27; (with_reducible refine (or_two _ (stk.kErr k) _ (by go_simp) (by go_simp)).mono ?_); rintro e w3 ⟨rfl, hb3⟩; have hB3 := below_keep (hB2.alloc hB2.size _) (Nat.le_refl _) hb3))
  go_ret3
  exact ⟨rfl, hB3⟩

set_option maxHeartbeats 2000000 in
set_option maxRecDepth 100000 in
theorem mark_good (b : Nat) (k t : ByteArray) (w : World) (h1 : k.size ≤ maxLen) (h2 : t.size ≤ 2000) (h3 : stk.okT t = true) (c0 : w.cell? ⟨b, 0, none⟩ = some (.string k)) (c1 : w.cell? ⟨b, 1, none⟩ = some (.string t)) (c2 : w.cell? ⟨b, 2, none⟩ = some (.slice none 0 0)) (hE : stk.kErr k = 0) :
    Calls Tryz.prog 19 #[.slice none 0 0, .slice (some ⟨b, 0, none⟩) 1 1] w fun e w' => (∃ M, e = .returned (.tuple #[.slice (some ⟨M, 0, none⟩) 1 1, .string ⟨#[]⟩, .int .i64 0]) ∧ w'.cell? ⟨M, 0, none⟩ = some (.slice none 0 0)) ∧ Below w.heap.size w w' := by
  have HC := Lib.hid (fun (W : World) (hW : Below w.heap.size w W) => stk.check_one b k t W h1 h2 h3 (cell_keep c0 hW) (cell_keep c1 hW) (cell_keep c2 hW))
  have HV := Lib.hid (fun (W : World) (hW : Below w.heap.size w W) => viewOf_one b k t W (cell_keep c0 hW) (cell_keep c1 hW) (cell_keep c2 hW))
  rw [hE] at HC
  clear c0 c1 c2 hE
  go_enter Tryz.func19, Tryz.ntmps19
  go_wp2_with (first
    | (go_at_call 28; (with_reducible refine (rules_none _).mono ?_); rintro e w1 ⟨rfl, hb1⟩)
    | (go_at_call 29; (with_reducible refine (HC.out _ hb1).mono ?_); rintro e w2 ⟨rfl, hb2⟩; have hB2 := below_keep hb1 (Nat.le_refl _) hb2)
    | (go_at_call 27; (with_reducible refine (or_two _ 0 _ (by go_simp) (by go_simp)).mono ?_); rintro e w3 ⟨rfl, hb3⟩; have hB3 := below_keep (hB2.alloc hB2.size _) (Nat.le_refl _) hb3)
    | (go_at_call 30; (with_reducible refine (HV.out _ hB3).mono ?_); rintro e w4 ⟨⟨B, rfl, hv4⟩, hb4⟩; have hB4 := below_keep hB3 (Nat.le_refl _) hb4)
    | (go_at_call 31; (with_reducible refine (deeds_any _).mono ?_); rintro e w5 ⟨⟨g, rfl⟩, hb5⟩; have hB5 := below_keep hB4 (Nat.le_refl _) hb5))
  have hv5 : ViewAt B w5 := by
    obtain ⟨G, c, v1, v2, v3, vG⟩ := hv4
    exact ⟨G, c, cell_keep v1 hb5, cell_keep v2 hb5, cell_keep v3 hb5, cell_keep vG hb5⟩
  clear hv4 hb5 hB4 hb4 hB3 hb3 hB2 hb2 hb1
  go_loopw [30] (fun v wr => v = .int .i64 0 ∧ ViewAt B wr ∧ Below w.heap.size w wr) (fun _ _ => 0)
  case atStart => exact ⟨rfl, hv5, hB5⟩
  case round =>
    clear hv5 hB5
    obtain ⟨rfl, hv, hbw⟩ := hrel
    have HM := Lib.hid (fun (W : World) (hW : Below wr.heap.size wr W) => marked_one B W (by
      obtain ⟨G, c, v1, v2, v3, vG⟩ := hv
      exact ⟨G, c, cell_keep v1 hW, cell_keep v2 hW, cell_keep v3 hW, cell_keep vG hW⟩))
    obtain ⟨G, c, v1, v2, v3, vG⟩ := hv
    have hm0 : Below wr.heap.size wr wr := Below.refl _ _
    clear v1 v2 vG
    go_wp2_with fail
    go_region_held3 (fun w' => w'.cell? ⟨B, 3, none⟩ = some (.string ⟨#[]⟩))
      (first | assumption | exact cell_drew (by assumption))
      (first
        | (go_at_call 33; with_reducible refine (HM.out _ (by first | assumption | exact Below.drew (by assumption))).mono ?_; rintro e wX ⟨⟨M, rfl, hM⟩, hbX⟩; have y3 : World.cell? wX ⟨B, 3, none⟩ = some (.string ⟨#[]⟩) := cell_keep (by first | assumption | exact cell_drew (by assumption)) hbX; have hBX : Below w.heap.size w wX := below_keep (by first | assumption | exact Below.drew (by assumption)) (Nat.le_refl _) hbX))
    all_goals
      go_wp2_with fail
      go_ret3
      exact ⟨⟨_, rfl, hM⟩, hBX⟩
end Go.Proofs.YtonjmfbalkdmfaaGreatDoor

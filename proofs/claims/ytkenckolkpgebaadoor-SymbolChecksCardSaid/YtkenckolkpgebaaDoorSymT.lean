/- The law: CheckTable, FuncAt, CheckModules and ModuleAt answer as the reference does. -/
import Derived.Test.YtkenckolkpgebaaDoorSymS
import Derived.Deep.RegionHeld3
namespace Go.Proofs.YtkenckolkpgebaaDoor
open Go.RowKit Go.Deep Go.Lib

theorem cell_drew {w : World} {p : Addr} {v : Value} (h : w.cell? p = some v) : w.drew.cell? p = some v := h
theorem atVal_form (i : Int) : ∃ (a : Int) (x : Bool), atVal i = .tuple #[.int .i64 a, .bool x] := by
  unfold atVal
  split
  · exact ⟨_, _, rfl⟩
  · exact ⟨_, _, rfl⟩

set_option maxHeartbeats 8000000 in
set_option maxRecDepth 100000 in
theorem checks_any (v vm : Value) (t : Tb) (l : List Md) (p q : Int) (w : World) (hv : TbV w v t) (hm : SlG encM 4 fitM w vm l) :
    Calls Tryd.prog 3 #[v, vm, .int .i64 p, .int .i64 q] w fun e w' => e = .returned (.bool true) ∧ Below w.heap.size w w' := by
  obtain ⟨v1, v2, v3, v4, rfl, hid, hsz, ⟨p1, c1, rfl, l1, m1, f1, o1⟩, ⟨p2, c2, rfl, l2, m2, f2, o2⟩, ⟨p3, c3, rfl, l3, m3, f3, o3⟩, ⟨p4, c4, rfl, l4, m4, f4, o4⟩⟩ := id hv
  obtain ⟨pm, cm, rfl, -, -, -, -⟩ := id hm
  have H4 := Lib.hid (fun (W : World) (hW : Below w.heap.size w W) => funcAt_any _ t p W (hv.below (Nat.le_refl _) hW))
  have H6 := Lib.hid (fun (W : World) (hW : Below w.heap.size w W) => funcOf_any _ t p W (hv.below (Nat.le_refl _) hW))
  have H5 := Lib.hid (fun (W : World) (hW : Below w.heap.size w W) => moduleAt_any _ l q W (hm.below (Nat.le_refl _) hW))
  have H7 := Lib.hid (fun (W : World) (hW : Below w.heap.size w W) => moduleOf_any _ l q W (hm.below (Nat.le_refl _) hW))
  have H8 := Lib.hid (fun (W : World) (hW : Below w.heap.size w W) => checkTable_any _ t W (hv.below (Nat.le_refl _) hW))
  have H9 := Lib.hid (fun (W : World) (hW : Below w.heap.size w W) => tableFault_any _ t W (hv.below (Nat.le_refl _) hW))
  have H10 := Lib.hid (fun (W : World) (hW : Below w.heap.size w W) => checkModules_any _ l W (hm.below (Nat.le_refl _) hW))
  have H11 := Lib.hid (fun (W : World) (hW : Below w.heap.size w W) => modulesFault_any _ l W (hm.below (Nat.le_refl _) hW))
  clear hv hm f1 f2 f3 f4 o1 o2 o3 o4 m1 m2 m3 m4 l1 l2 l3 l4 hid hsz
  obtain ⟨a1, x1, ha1⟩ := atVal_form (fncAt p t.funcs)
  obtain ⟨a2, x2, ha2⟩ := atVal_form (modAt q l)
  rw [ha1] at H4 H6
  rw [ha2] at H5 H7
  clear ha1 ha2
  generalize tabErr t = E1 at *
  generalize eMods l = E2 at *
  generalize t.files.length = n1 at *
  generalize t.funcs.length = n2 at *
  generalize t.rows.length = n3 at *
  generalize t.calls.length = n4 at *
  generalize l.length = n5 at *
  generalize t.id = id at *
  generalize t.size = size at *
  have hA : Below w.heap.size w (w.alloc (.cells #[.string id, .int .i64 size, .slice p1 n1 c1, .slice p2 n2 c2, .slice p3 n3 c3, .slice p4 n4 c4] 27)) := (Below.refl _ _).alloc (Nat.le_refl _) _
  go_enter Tryd.func3, Tryd.ntmps3
  go_wp2_with (first
    | (go_at_call 4; with_reducible refine (H4.out _ hA).mono ?_; rintro e w1 ⟨rfl, hb1⟩; have hbw1 := below_call hA hA.size hb1; have g0 : w1.cell? ⟨w.heap.size, 0, none⟩ = some (.string id) := (hb1.cell (p := ⟨w.heap.size, 0, none⟩) (by simp)).trans (by go_simp); have g1 : w1.cell? ⟨w.heap.size, 1, none⟩ = some (.int .i64 size) := (hb1.cell (p := ⟨w.heap.size, 1, none⟩) (by simp)).trans (by go_simp); have g2 : w1.cell? ⟨w.heap.size, 2, none⟩ = some (.slice p1 n1 c1) := (hb1.cell (p := ⟨w.heap.size, 2, none⟩) (by simp)).trans (by go_simp); have g3 : w1.cell? ⟨w.heap.size, 3, none⟩ = some (.slice p2 n2 c2) := (hb1.cell (p := ⟨w.heap.size, 3, none⟩) (by simp)).trans (by go_simp); have g4 : w1.cell? ⟨w.heap.size, 4, none⟩ = some (.slice p3 n3 c3) := (hb1.cell (p := ⟨w.heap.size, 4, none⟩) (by simp)).trans (by go_simp); have g5 : w1.cell? ⟨w.heap.size, 5, none⟩ = some (.slice p4 n4 c4) := (hb1.cell (p := ⟨w.heap.size, 5, none⟩) (by simp)).trans (by go_simp))
    | (go_at_call 5; with_reducible refine (H5.out _ hbw1).mono ?_; rintro e w2 ⟨rfl, hb2⟩; have hbw2 := below_call hbw1 hbw1.size hb2; have g0 := cell_keep g0 hb2; have g1 := cell_keep g1 hb2; have g2 := cell_keep g2 hb2; have g3 := cell_keep g3 hb2; have g4 := cell_keep g4 hb2; have g5 := cell_keep g5 hb2)
    | (go_at_call 6; with_reducible refine (H6.out _ hbw2).mono ?_; rintro e w3 ⟨rfl, hb3⟩; have hbw3 := below_call hbw2 hbw2.size hb3; have g0 := cell_keep g0 hb3; have g1 := cell_keep g1 hb3; have g2 := cell_keep g2 hb3; have g3 := cell_keep g3 hb3; have g4 := cell_keep g4 hb3; have g5 := cell_keep g5 hb3)
    | (go_at_call 7; with_reducible refine (H7.out _ hbw3).mono ?_; rintro e w4 ⟨rfl, hb4⟩; have hbw4 := below_call hbw3 hbw3.size hb4; have g0 := cell_keep g0 hb4; have g1 := cell_keep g1 hb4; have g2 := cell_keep g2 hb4; have g3 := cell_keep g3 hb4; have g4 := cell_keep g4 hb4; have g5 := cell_keep g5 hb4))
  go_region_held3 (fun w' => w'.cell? ⟨w.heap.size, 0, none⟩ = some (.string id) ∧ w'.cell? ⟨w.heap.size, 1, none⟩ = some (.int .i64 size) ∧ w'.cell? ⟨w.heap.size, 2, none⟩ = some (.slice p1 n1 c1) ∧ w'.cell? ⟨w.heap.size, 3, none⟩ = some (.slice p2 n2 c2) ∧ w'.cell? ⟨w.heap.size, 4, none⟩ = some (.slice p3 n3 c3) ∧ w'.cell? ⟨w.heap.size, 5, none⟩ = some (.slice p4 n4 c4) ∧ Below w.heap.size w w')
    ((repeat' apply And.intro) <;> first | assumption | exact Below.drew (by assumption) | exact cell_keep (by first | assumption | exact cell_drew (by assumption)) hbX | exact below_keep (by first | assumption | exact Below.drew (by assumption)) (Nat.le_refl _) hbX)
    (first
      | (go_at_call 8; with_reducible refine (H8.out _ (by first | assumption | exact Below.drew (by assumption))).mono ?_; rintro e wX ⟨rfl, hbX⟩; have n0x : World.cell? _ ⟨w.heap.size, 0, none⟩ = some (.string id) := cell_keep (by first | assumption | exact cell_drew (by assumption)) hbX; have n1x : World.cell? _ ⟨w.heap.size, 1, none⟩ = some (.int .i64 size) := cell_keep (by first | assumption | exact cell_drew (by assumption)) hbX; have n2x : World.cell? _ ⟨w.heap.size, 2, none⟩ = some (.slice p1 n1 c1) := cell_keep (by first | assumption | exact cell_drew (by assumption)) hbX; have n3x : World.cell? _ ⟨w.heap.size, 3, none⟩ = some (.slice p2 n2 c2) := cell_keep (by first | assumption | exact cell_drew (by assumption)) hbX; have n4x : World.cell? _ ⟨w.heap.size, 4, none⟩ = some (.slice p3 n3 c3) := cell_keep (by first | assumption | exact cell_drew (by assumption)) hbX; have n5x : World.cell? _ ⟨w.heap.size, 5, none⟩ = some (.slice p4 n4 c4) := cell_keep (by first | assumption | exact cell_drew (by assumption)) hbX; have hbN : Below w.heap.size w _ := below_keep (by first | assumption | exact Below.drew (by assumption)) (Nat.le_refl _) hbX)
      | (go_at_call 9; with_reducible refine (H9.out _ (by first | assumption | exact Below.drew (by assumption))).mono ?_; rintro e wX ⟨rfl, hbX⟩; have n0x : World.cell? _ ⟨w.heap.size, 0, none⟩ = some (.string id) := cell_keep (by first | assumption | exact cell_drew (by assumption)) hbX; have n1x : World.cell? _ ⟨w.heap.size, 1, none⟩ = some (.int .i64 size) := cell_keep (by first | assumption | exact cell_drew (by assumption)) hbX; have n2x : World.cell? _ ⟨w.heap.size, 2, none⟩ = some (.slice p1 n1 c1) := cell_keep (by first | assumption | exact cell_drew (by assumption)) hbX; have n3x : World.cell? _ ⟨w.heap.size, 3, none⟩ = some (.slice p2 n2 c2) := cell_keep (by first | assumption | exact cell_drew (by assumption)) hbX; have n4x : World.cell? _ ⟨w.heap.size, 4, none⟩ = some (.slice p3 n3 c3) := cell_keep (by first | assumption | exact cell_drew (by assumption)) hbX; have n5x : World.cell? _ ⟨w.heap.size, 5, none⟩ = some (.slice p4 n4 c4) := cell_keep (by first | assumption | exact cell_drew (by assumption)) hbX; have hbN : Below w.heap.size w _ := below_keep (by first | assumption | exact Below.drew (by assumption)) (Nat.le_refl _) hbX)
      | (go_at_call 10; with_reducible refine (H10.out _ (by first | assumption | exact Below.drew (by assumption))).mono ?_; rintro e wX ⟨rfl, hbX⟩; have n0x : World.cell? _ ⟨w.heap.size, 0, none⟩ = some (.string id) := cell_keep (by first | assumption | exact cell_drew (by assumption)) hbX; have n1x : World.cell? _ ⟨w.heap.size, 1, none⟩ = some (.int .i64 size) := cell_keep (by first | assumption | exact cell_drew (by assumption)) hbX; have n2x : World.cell? _ ⟨w.heap.size, 2, none⟩ = some (.slice p1 n1 c1) := cell_keep (by first | assumption | exact cell_drew (by assumption)) hbX; have n3x : World.cell? _ ⟨w.heap.size, 3, none⟩ = some (.slice p2 n2 c2) := cell_keep (by first | assumption | exact cell_drew (by assumption)) hbX; have n4x : World.cell? _ ⟨w.heap.size, 4, none⟩ = some (.slice p3 n3 c3) := cell_keep (by first | assumption | exact cell_drew (by assumption)) hbX; have n5x : World.cell? _ ⟨w.heap.size, 5, none⟩ = some (.slice p4 n4 c4) := cell_keep (by first | assumption | exact cell_drew (by assumption)) hbX; have hbN : Below w.heap.size w _ := below_keep (by first | assumption | exact Below.drew (by assumption)) (Nat.le_refl _) hbX)
      | (go_at_call 11; with_reducible refine (H11.out _ (by first | assumption | exact Below.drew (by assumption))).mono ?_; rintro e wX ⟨rfl, hbX⟩; have n0x : World.cell? _ ⟨w.heap.size, 0, none⟩ = some (.string id) := cell_keep (by first | assumption | exact cell_drew (by assumption)) hbX; have n1x : World.cell? _ ⟨w.heap.size, 1, none⟩ = some (.int .i64 size) := cell_keep (by first | assumption | exact cell_drew (by assumption)) hbX; have n2x : World.cell? _ ⟨w.heap.size, 2, none⟩ = some (.slice p1 n1 c1) := cell_keep (by first | assumption | exact cell_drew (by assumption)) hbX; have n3x : World.cell? _ ⟨w.heap.size, 3, none⟩ = some (.slice p2 n2 c2) := cell_keep (by first | assumption | exact cell_drew (by assumption)) hbX; have n4x : World.cell? _ ⟨w.heap.size, 4, none⟩ = some (.slice p3 n3 c3) := cell_keep (by first | assumption | exact cell_drew (by assumption)) hbX; have n5x : World.cell? _ ⟨w.heap.size, 5, none⟩ = some (.slice p4 n4 c4) := cell_keep (by first | assumption | exact cell_drew (by assumption)) hbX; have hbN : Below w.heap.size w _ := below_keep (by first | assumption | exact Below.drew (by assumption)) (Nat.le_refl _) hbX))
  all_goals (go_wp2_with fail; go_ret; exact ⟨rfl, by assumption⟩)
end Go.Proofs.YtkenckolkpgebaaDoor

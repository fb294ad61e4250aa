/- What viewOf, marked and Mark answer: no rules, one fault without frames. -/
import Derived.Test.YtonjmfbalkdmfaaGreatDoorStA
namespace Go.Proofs.YtonjmfbalkdmfaaGreatDoor
open Go.RowKit Go.Lib

theorem infoM : (Tryz.prog.info? 98).map (fun i => (i.zero, i.size, i.bytes)) = some (some (.slice none 0 0), 1, 24) := by kernel_rfl
theorem infoK : (Tryz.prog.info? 60).map (fun i => (i.zero, i.size, i.bytes)) = some (some (.slice none 0 0), 1, 24) := by kernel_rfl
theorem one_nil : ∀ u ∈ [Value.slice none 0 0], u.oneCell' = true := by intro u hu; simp at hu; subst hu; rfl

/-- A view of one fault without frames. -/
def ViewAt (B : Nat) (w : World) : Prop :=
  ∃ G c, w.cell? ⟨B, 1, none⟩ = some (.slice (some ⟨G, 0, none⟩) 1 c) ∧ w.cell? ⟨B, 2, none⟩ = some (.int .i64 200) ∧ w.cell? ⟨B, 3, none⟩ = some (.string ⟨#[]⟩) ∧ w.cell? ⟨G, 0, none⟩ = some (.slice none 0 0)

set_option maxHeartbeats 2000000 in
set_option maxRecDepth 100000 in
theorem viewOf_one (b : Nat) (k t : ByteArray) (w : World) (c0 : w.cell? ⟨b, 0, none⟩ = some (.string k)) (c1 : w.cell? ⟨b, 1, none⟩ = some (.string t)) (c2 : w.cell? ⟨b, 2, none⟩ = some (.slice none 0 0)) :
    Calls Tryz.prog 30 #[.slice (some ⟨b, 0, none⟩) 1 1] w fun e w' => (∃ B, e = .returned (.pointer (some ⟨B, 0, none⟩)) ∧ ViewAt B w') ∧ Below w.heap.size w w' := by
  obtain ⟨i0, hi', hz0, hz1, hz2⟩ := info_parts infoM
  have hb : b < w.heap.size := World.block_lt_of_cell? w ⟨b, 0, none⟩ c0
  go_enter Tryz.func30, Tryz.ntmps30
  go_wp2_with fail
  go_loopw [14] (fun v wr => (v = .int .i64 0 ∧ wr.heap[w.heap.size]? = some (.cells #[.slice (some ⟨b, 0, none⟩) 1 1, .slice none 0 0, .int .i64 200, .string ⟨#[]⟩] 86 (0, 0)) ∧ Below w.heap.size w wr) ∨ (v = .int .i64 1 ∧ ViewAt w.heap.size wr ∧ Below w.heap.size w wr)) (fun v _ => 1 - (RowKit.intOf v).toNat)
  case atStart => exact .inl ⟨rfl, Array.getElem?_push_size, (Below.refl _ _).alloc (Nat.le_refl _) _⟩
  case round =>
    rcases hrel with ⟨rfl, hblk, hbw⟩ | ⟨rfl, hv, hbw⟩
    · have d0 : wr.cell? ⟨b, 0, none⟩ = some (.string k) := (hbw.cell (p := ⟨b, _, none⟩) hb).trans c0
      have d1 : wr.cell? ⟨b, 1, none⟩ = some (.string t) := (hbw.cell (p := ⟨b, _, none⟩) hb).trans c1
      have d2 : wr.cell? ⟨b, 2, none⟩ = some (.slice none 0 0) := (hbw.cell (p := ⟨b, _, none⟩) hb).trans c2
      have hlt : w.heap.size < wr.heap.size := (Array.getElem?_eq_some_iff.1 hblk).1
      go_upto_region 5 with fail
      have hBu := hbw.alloc hbw.size (.cells #[.string k, .string t, .slice none 0 0] 31)
      have e2 : (wr.alloc (.cells #[.string k, .string t, .slice none 0 0] 31)).cell? ⟨wr.heap.size, 2, none⟩ = some (.slice none 0 0) := by go_simp
      have hbu : (wr.alloc (.cells #[.string k, .string t, .slice none 0 0] 31)).heap[w.heap.size]? = some (.cells #[.slice (some ⟨b, 0, none⟩) 1 1, .slice none 0 0, .int .i64 200, .string ⟨#[]⟩] 86 (0, 0)) := by rw [Lib.alloc_old wr _ _ hlt]; exact hblk
      generalize wr.alloc (.cells #[.string k, .string t, .slice none 0 0] 31) = u at *
      clear d0 d1 d2 hblk
      go_wp2_with fail
      go_loopw [6, 21] (fun v6 v21 wr => v6 = .slice none 0 0 ∧ v21 = .int .i64 0 ∧ wr.heap[w.heap.size]? = some (.cells #[.slice (some ⟨b, 0, none⟩) 1 1, .slice none 0 0, .int .i64 200, .string ⟨#[]⟩] 86 (0, 0)) ∧ Below w.heap.size w wr) (fun _ _ _ => 0)
      case atStart => exact ⟨rfl, rfl, hbu, hBu⟩
      case round =>
        clear hbu hBu e2
        obtain ⟨rfl, rfl, hbu, hBu⟩ := hrel
        obtain ⟨u3, rfl⟩ : ∃ u3 : World, u3 = wr := ⟨_, rfl⟩
        have hlu : w.heap.size < u3.heap.size := (Array.getElem?_eq_some_iff.1 hbu).1
        have f1 : u3.cell? ⟨w.heap.size, 1, none⟩ = some (.slice none 0 0) := by rw [Lib.cell_of_heap hbu]; rfl
        have hoN := (World.ownsRow_nil u3 u3.heap.size 98 1).alloc (.cells #[.slice none 0 0] 98)
        go_wp2_with (at_builtin; refine wpList_append_own _ rfl _ _ 84 rfl u3.heap.size 98 i0 (.slice none 0 0) 1 24 Tryz.underlying84 hi' hz0 hz1 hz2 rfl (by decide) _ 0 [] rfl hoN ⟨u3.heap.size, 0, none⟩ 1 1 [.slice none 0 0] rfl rfl (cell_new u3 _ 98) one_nil (by unfold maxLen; omega) (by omega) (by simp) ?_; intro v' u4 hown hgrow0 _; have hgrow : (u3.alloc (.cells #[.slice none 0 0] 98)).grownBy u4 none := hgrow0; clear hgrow0; obtain ⟨g, cap, rfl, hc1, hg1, hg2, hg3⟩ := own_slice (n := 1) hown (by omega); have hb4 : u4.heap[w.heap.size]? = some (.cells #[.slice (some ⟨b, 0, none⟩) 1 1, .slice none 0 0, .int .i64 200, .string ⟨#[]⟩] 86 (0, 0)) := (by rw [hgrow.block w.heap.size (by simp; omega) (by simp), Lib.alloc_old u3 _ _ hlu]; exact hbu); have p1 : u4.cell? ⟨w.heap.size, 1, none⟩ = some (.slice none 0 0) := (by rw [Lib.cell_of_heap hb4]; rfl); have p2 : u4.cell? ⟨w.heap.size, 2, none⟩ = some (.int .i64 200) := (by rw [Lib.cell_of_heap hb4]; rfl); have p3 : u4.cell? ⟨w.heap.size, 3, none⟩ = some (.string ⟨#[]⟩) := (by rw [Lib.cell_of_heap hb4]; rfl); have q1 : u4.frozen? ⟨w.heap.size, 1, none⟩ = false := Lib.frozen_of_heap hb4 1; have p4 : u4.cell? ⟨g, 0, none⟩ = some (.slice none 0 0) := hg3 0 _ rfl; have hB4 : Below w.heap.size w u4 := below_grown (hBu.alloc (Nat.le_of_lt hlu) _) hgrow (by intro k hk; cases hk) (by simp; omega))
        refine ⟨.inr ⟨rfl, ⟨g, cap, World.cell?_setCell_same _ _ _ p1, ?_, ?_, ?_⟩, hB4.setCell (p := ⟨w.heap.size, 1, none⟩) (Nat.le_refl _) _⟩, by simp [RowKit.intOf]⟩
        · exact (World.cell?_setCell_other _ _ _ _ (by intro h; cases h)).trans p2
        · exact (World.cell?_setCell_other _ _ _ _ (by intro h; cases h)).trans p3
        · exact (World.cell?_setCell_far _ _ _ _ (by show w.heap.size ≠ g; omega)).trans p4
    · go_wp2_with fail
      go_ret
      exact ⟨⟨_, rfl, hv⟩, hbw⟩

set_option maxHeartbeats 2000000 in
set_option maxRecDepth 100000 in
theorem marked_one (B : Nat) (w : World) (h : ViewAt B w) :
    Calls Tryz.prog 33 #[.pointer (some ⟨B, 0, none⟩)] w fun e w' => (∃ M, e = .returned (.slice (some ⟨M, 0, none⟩) 1 1) ∧ w'.cell? ⟨M, 0, none⟩ = some (.slice none 0 0)) ∧ Below w.heap.size w w' := by
  obtain ⟨G, c, v1, v2, v3, vG⟩ := h
  have hB : B < w.heap.size := World.block_lt_of_cell? w ⟨B, 1, none⟩ v1
  have hG : G < w.heap.size := World.block_lt_of_cell? w ⟨G, 0, none⟩ vG
  have hmk := run_make_row' (P := Tryz.prog) 56 60 (.slice none 0 0) 24 Tryz.underlying56 infoK rfl .i64 .i64 1 (by omega) (by omega)
  have hmk1 : ∀ w : World, (Instr.makeSlice 56 (.int .i64 1) (.int .i64 1)).run Tryz.prog w = .ok (.slice (some ⟨w.heap.size, 0, none⟩) 1 1) (w.alloc (.cells (madeCells #[.slice none 0 0] 1) 60)) := hmk
  clear hmk
  go_enter Tryz.func33, Tryz.ntmps33
  go_wp2_with fail
  go_loopw [22] (fun v wr => ∃ i : Nat, i ≤ 1 ∧ v = .int .i64 i ∧ wr.cell? ⟨w.heap.size, 0, none⟩ = some (.slice none 0 0) ∧ Below w.heap.size w wr) (fun v _ => 1 - (RowKit.intOf v).toNat)
  case atStart => exact ⟨0, Nat.zero_le _, rfl, by rw [World.cell?_alloc_new]; simp [madeCells], (Below.refl _ _).alloc (Nat.le_refl _) _⟩
  case round =>
    obtain ⟨i, hi, rfl, hm, hbw⟩ := hrel
    have g0 : wr.cell? ⟨G, 0, none⟩ = some (.slice none 0 0) := (hbw.cell (p := ⟨G, _, none⟩) hG).trans vG
    obtain rfl | rfl : i = 0 ∨ i = 1 := by omega
    · go_wp2_with (go_at_call 49; (with_reducible refine (find_none _).mono ?_); rintro e w3 ⟨rfl, hb3⟩; have hB3 := below_keep hbw (Nat.le_refl _) hb3; have hm3 := (hb3.cell (p := ⟨w.heap.size, 0, none⟩) (World.block_lt_of_cell? _ _ hm)).trans hm)
      go_loopw [34] (fun v wr => v = .int .i64 0 ∧ wr.cell? ⟨w.heap.size, 0, none⟩ = some (.slice none 0 0) ∧ Below w.heap.size w wr) (fun _ _ => 0)
      case atStart => exact ⟨rfl, hm3, hB3⟩
      case round =>
        obtain ⟨rfl, hm5, hB5⟩ := hrel
        go_wp2_with fail
        exact ⟨⟨1, by omega, rfl, hm5, hB5⟩, by simp [RowKit.intOf]⟩
    · go_wp2_with fail
      go_ret
      exact ⟨⟨_, rfl, hm⟩, hbw⟩
end Go.Proofs.YtonjmfbalkdmfaaGreatDoor

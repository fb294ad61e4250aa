/- The law SymbolLines: the spans of a line are in order, and each of their offsets that a function has is in that line. -/
import Derived.Test.YtcdaalnjanncmaaDoorLinF
import Derived.Test.YtcdaalnjanncmaaDoorNumB
namespace Go.Proofs.YtcdaalnjanncmaaDoor
open Go.RowKit Go.Deep Go.Lib

theorem num300 : num 300 = [172, 2] := by
  rw [num_high (by decide), num_low (by decide)]; rfl
set_option maxHeartbeats 1000000 in
set_option maxRecDepth 100000 in
theorem awake_any (w : World) : Calls Tryd.prog 14 #[] w fun e w' => e = .returned (.bool true) ∧ Below w.heap.size w w' := by
  have HN := Lib.hid (number_P 300 w (by decide) (by decide))
  rw [show num (300 : Int).toNat = [172, 2] from num300, show strOf [172, 2] = ⟨#[172, 2]⟩ from rfl] at HN
  go_enter Tryd.func14, Tryd.ntmps14
  go_wp2_with (go_at_call 34; with_reducible refine HN.out.mono ?_; rintro e w1 ⟨rfl, hb1⟩)
  go_ret
  exact ⟨rfl, hb1⟩

theorem idx_spec {x : ByteArray} : ∀ {zs : List ByteArray} {i : Nat}, 0 ≤ idxFromS zs x i → ∃ k : Nat, idxFromS zs x i = ((i + k : Nat) : Int) ∧ zs[k]? = some x
  | [], i, h => by simp [idxFromS] at h
  | z :: zs, i, h => by
    unfold idxFromS at h ⊢
    by_cases hz : z = x
    · exact ⟨0, by rw [if_pos hz]; simp, by simp [hz]⟩
    · rw [if_neg hz] at h ⊢
      obtain ⟨k, h1, h2⟩ := idx_spec h
      exact ⟨k + 1, by rw [h1]; congr 1; omega, by simpa using h2⟩
theorem fileAt_idx {t : Tb} {file : ByteArray} (h : ¬ idxOfS t.files file < 0) : fileAt t.files (idxOfS t.files file) = file := by
  obtain ⟨k, h1, h2⟩ := idx_spec (zs := t.files) (x := file) (i := 0) (by unfold idxOfS at h; omega)
  unfold idxOfS
  rw [h1]
  unfold fileAt
  simp [List.getD, h2]
theorem lnErr_zero {t : Tb} {file : ByteArray} {line : Int} (h : lnErr t file line = 0) : tabErr t = 0 ∧ ¬ idxOfS t.files file < 0 := by
  unfold lnErr at h
  split at h
  · rename_i hn; exact absurd h hn
  split at h
  · omega
  rename_i h1 h2
  exact ⟨Classical.not_not.1 h1, h2⟩

set_option maxHeartbeats 4000000 in
set_option maxRecDepth 100000 in
theorem linesLaw_any (v : Value) (t : Tb) (file : ByteArray) (line : Int) (w : World) (hv : TbV w v t) :
    Calls Tryd.prog 5 #[v, .string file, .int .i64 line] w fun e w' => e = .returned (.bool true) ∧ Below w.heap.size w w' := by
  have HLN := Lib.hid (fun (W : World) (hW : Below w.heap.size w W) => lines_any v t file line W (hv.below (Nat.le_refl _) hW) (fun hz => (good_of hz).rows) (fun W' hW' => checkTable_any v t W' ((hv.below (Nat.le_refl _) hW).below (Nat.le_refl _) hW')))
  have HATN := Lib.hid (fun hz p h0 h1 hn (W : World) (hW : Below w.heap.size w W) => at_none v t p W (hv.below (Nat.le_refl _) hW) hz h0 h1 hn)
  have HATS := Lib.hid (fun hz p h0 h1 hn (W : World) (hW : Below w.heap.size w W) => at_head v t p W (hv.below (Nat.le_refl _) hW) hz h0 h1 hn)
  have HAW := Lib.hid (fun W => awake_any W)
  obtain ⟨v1, v2, v3, v4, rfl, -, -, ⟨p1, c1, rfl, -, -, -, -⟩, ⟨p2, c2, rfl, -, -, -, -⟩, ⟨p3, c3, rfl, -, -, -, -⟩, ⟨p4, c4, rfl, -, -, -, -⟩⟩ := hv
  have hA : Below w.heap.size w (w.alloc (.cells #[.string t.id, .int .i64 t.size, .slice p1 t.files.length c1, .slice p2 t.funcs.length c2, .slice p3 t.rows.length c3, .slice p4 t.calls.length c4] 42)) := (Below.refl _ _).alloc (Nat.le_refl _) _
  by_cases hz : lnErr t file line = 0
  · obtain ⟨htz, hix⟩ := lnErr_zero hz
    have hg := good_of htz
    have HATN := Lib.hid (HATN.out htz)
    have HATS := Lib.hid (HATS.out htz)
    have HFI := Lib.hid (fileAt_idx hix)
    have HGS := Lib.hid (spansOf_good (k := idxOfS t.files file) (line := line) (size := t.size) (rs := t.rows) (l := t.rows) (acc := []) (e := -1) (fun _ h => h) hg.rowsUp (fun r hr => ⟨(hg.rowIn r hr).2.1, by have := (hg.rowIn r hr).1; simp [endSp]; omega, by have := (hg.rowIn r hr).1; omega⟩) trivial)
    have HRI := Lib.hid hg.rowIn
    have HUP := Lib.hid hg.rowsUp
    have HIX := Lib.hid hix
    have HZ := Lib.hid hz
    clear hg htz hix hz
    generalize hsl : spansOf (idxOfS t.files file) line t.size [] t.rows = sl at *
    clear hsl
    have HLZ := Lib.hid (fun (W : World) hW => (HLN.out W hW))
    clear HLN
    rw [HZ.out] at HLZ
    go_enter Tryd.func5, Tryd.ntmps5
    go_wp2_with (first
      | (go_at_call 14; with_reducible refine (HAW.out _).mono ?_; rintro e w1 ⟨rfl, hb1⟩; have hbw1 := below_call hA hA.size hb1; have g0 : w1.cell? ⟨w.heap.size, 0, none⟩ = some (.string t.id) := (hb1.cell (p := ⟨w.heap.size, 0, none⟩) (by simp)).trans (by go_simp); have g1 : w1.cell? ⟨w.heap.size, 1, none⟩ = some (.int .i64 t.size) := (hb1.cell (p := ⟨w.heap.size, 1, none⟩) (by simp)).trans (by go_simp); have g2 : w1.cell? ⟨w.heap.size, 2, none⟩ = some (.slice p1 t.files.length c1) := (hb1.cell (p := ⟨w.heap.size, 2, none⟩) (by simp)).trans (by go_simp); have g3 : w1.cell? ⟨w.heap.size, 3, none⟩ = some (.slice p2 t.funcs.length c2) := (hb1.cell (p := ⟨w.heap.size, 3, none⟩) (by simp)).trans (by go_simp); have g4 : w1.cell? ⟨w.heap.size, 4, none⟩ = some (.slice p3 t.rows.length c3) := (hb1.cell (p := ⟨w.heap.size, 4, none⟩) (by simp)).trans (by go_simp); have g5 : w1.cell? ⟨w.heap.size, 5, none⟩ = some (.slice p4 t.calls.length c4) := (hb1.cell (p := ⟨w.heap.size, 5, none⟩) (by simp)).trans (by go_simp))
      | (go_at_call 18; with_reducible refine (HLZ.out _ hbw1).mono ?_; rintro e' w2 ⟨u, rfl, hb2, hown0⟩; have hown := hown0 (by trivial); clear hown0; obtain ⟨pu, cu, rfl⟩ := own_len hown; have hbw2 := below_call hbw1 hbw1.size hb2; have g0 := cell_keep g0 hb2; have g1 := cell_keep g1 hb2; have g2 := cell_keep g2 hb2; have g3 := cell_keep g3 hb2; have g4 := cell_keep g4 hb2; have g5 := cell_keep g5 hb2))
    go_loopw [9, 27] (fun v9 v wr => ∃ k : Nat, k ≤ sl.length ∧ v9 = .int .i64 (endSp (-1) (sl.take k)) ∧ v = .int .i64 k ∧ wr.cell? ⟨w.heap.size, 0, none⟩ = some (.string t.id) ∧ wr.cell? ⟨w.heap.size, 1, none⟩ = some (.int .i64 t.size) ∧ wr.cell? ⟨w.heap.size, 2, none⟩ = some (.slice p1 t.files.length c1) ∧ wr.cell? ⟨w.heap.size, 3, none⟩ = some (.slice p2 t.funcs.length c2) ∧ wr.cell? ⟨w.heap.size, 4, none⟩ = some (.slice p3 t.rows.length c3) ∧ wr.cell? ⟨w.heap.size, 5, none⟩ = some (.slice p4 t.calls.length c4) ∧ Below w2.heap.size w2 wr) (fun _ v _ => sl.length - (RowKit.intOf v).toNat)
    case atStart => exact ⟨0, Nat.zero_le _, rfl, rfl, g0, g1, g2, g3, g4, g5, Below.refl _ _⟩
    case round =>
      clear g0 g1 g2 g3 g4 g5
      obtain ⟨k, hk, rfl, rfl, g0, g1, g2, g3, g4, g5, hbr⟩ := hrel
      have hbw := below_keep hbw2 (Nat.le_refl _) hbr
      by_cases hlt : k < sl.length
      · obtain ⟨g, cap, he, hbg, hgl, hcells⟩ := own_slice hown (by omega)
        obtain ⟨rfl, -, rfl⟩ := Value.slice.inj he
        have hx := List.getElem?_eq_getElem hlt
        have c0 := (hbr.cell (p := ⟨g, k * 2 + 0, none⟩) hgl).trans (hcells _ _ (by rw [cellsSp_at hx (j := 0) (by omega)]; rfl))
        have c1' := (hbr.cell (p := ⟨g, k * 2 + 1, none⟩) hgl).trans (hcells _ _ (by rw [cellsSp_at hx (j := 1) (by omega)]; rfl))
        obtain ⟨o1, o2, ⟨r, hr, hrp, hrf, hrl⟩, o4⟩ := goodSp_at HGS.out hx
        generalize sl[k] = s at *
        obtain ⟨sa, sb⟩ := s
        simp only [Nat.add_zero] at c0 c1' o1 o2 hrp o4
        have HE := Lib.hid o4
        have e1 : decide (sa ≤ endSp (-1) (sl.take k)) = false := decide_eq_false (by omega)
        have e2 : decide (sb ≤ sa) = false := decide_eq_false (by omega)
        have hri := HRI.out r hr
        have HLA := Lib.hid (show (lineAt t sa).1 = file ∧ (lineAt t sa).2 = line by
          rw [← hrp, lineAt_row HUP.out hr]
          unfold rowSays
          have hne : ¬ r.f = -1 := fun h => by rw [hrf] at h; have := HIX.out; omega
          rw [if_neg hne, hrf]
          exact ⟨HFI.out, hrl⟩)
        have HN1 := Lib.hid (HATN.out sa (by omega) (by omega))
        have HS1 := Lib.hid (HATS.out sa (by omega) (by omega))
        rw [HLA.out.1, HLA.out.2] at HS1
        have hmx := own_max hown
        have hlg := World.block_lt_of_cell? _ _ g0
        simp only at hlg
        have hbwA := hbw.alloc hbw.size (.cells #[.int .i64 sa, .int .i64 sb] 63)
        have hbrA := hbr.alloc hbr.size (.cells #[.int .i64 sa, .int .i64 sb] 63)
        have a0 : (wr.alloc (.cells #[.int .i64 sa, .int .i64 sb] 63)).cell? ⟨w.heap.size, 0, none⟩ = some (.string t.id) := (World.cell?_alloc_lt _ _ _ hlg).trans g0
        have a1 : (wr.alloc (.cells #[.int .i64 sa, .int .i64 sb] 63)).cell? ⟨w.heap.size, 1, none⟩ = some (.int .i64 t.size) := (World.cell?_alloc_lt _ _ _ hlg).trans g1
        have a2 : (wr.alloc (.cells #[.int .i64 sa, .int .i64 sb] 63)).cell? ⟨w.heap.size, 2, none⟩ = some (.slice p1 t.files.length c1) := (World.cell?_alloc_lt _ _ _ hlg).trans g2
        have a3 : (wr.alloc (.cells #[.int .i64 sa, .int .i64 sb] 63)).cell? ⟨w.heap.size, 3, none⟩ = some (.slice p2 t.funcs.length c2) := (World.cell?_alloc_lt _ _ _ hlg).trans g3
        have a4 : (wr.alloc (.cells #[.int .i64 sa, .int .i64 sb] 63)).cell? ⟨w.heap.size, 4, none⟩ = some (.slice p3 t.rows.length c3) := (World.cell?_alloc_lt _ _ _ hlg).trans g4
        have a5 : (wr.alloc (.cells #[.int .i64 sa, .int .i64 sb] 63)).cell? ⟨w.heap.size, 5, none⟩ = some (.slice p4 t.calls.length c4) := (World.cell?_alloc_lt _ _ _ hlg).trans g5
        have hgr : g < wr.heap.size := by have := hbr.size; omega
        clear o1 o2 o4 hr hrp hrf hrl hri hx he hcells
        generalize endSp (-1) (sl.take k) = en at *
        by_cases hfn : fncAt sa t.funcs = -1
        · have HX := Lib.hid (HN1.out hfn)
          clear HN1 HS1 hfn
          go_wp2_with (go_at_call 17; with_reducible refine (HX.out _ hbwA).mono ?_; rintro e w3 ⟨rfl, hb3⟩)
          exact ⟨⟨k + 1, by omega, by rw [HE.out], by go_num, cell_keep a0 hb3, cell_keep a1 hb3, cell_keep a2 hb3, cell_keep a3 hb3, cell_keep a4 hb3, cell_keep a5 hb3, below_call hbrA hbrA.size hb3⟩, by simp [RowKit.intOf]; omega⟩
        · have HX := Lib.hid (HS1.out hfn)
          clear HN1 HS1 hfn
          go_wp2_with (go_at_call 17; with_reducible refine (HX.out _ hbwA).mono ?_; rintro e w3 ⟨g3, cap3, n3, rfl, hb3, d1, d2⟩; have hn3 : (0 : Int) < (n3 : Int) + 1 := (by omega))
          exact ⟨⟨k + 1, by omega, by rw [HE.out], by go_num, cell_keep a0 hb3, cell_keep a1 hb3, cell_keep a2 hb3, cell_keep a3 hb3, cell_keep a4 hb3, cell_keep a5 hb3, below_call hbrA hbrA.size hb3⟩, by simp [RowKit.intOf]; omega⟩
      · go_wp2_with fail
        go_ret
        exact ⟨rfl, hbw⟩
  · have hq : (lnErr t file line != 0) = true := by simpa using hz
    have HLE := Lib.hid (fun (W : World) hW => (HLN.out W hW))
    clear hz HLN HATN HATS
    generalize lnErr t file line = E at *
    go_enter Tryd.func5, Tryd.ntmps5
    go_wp2_with (first
      | (go_at_call 14; with_reducible refine (HAW.out _).mono ?_; rintro e w1 ⟨rfl, hb1⟩; have hbw1 := below_call hA hA.size hb1; have g0 : w1.cell? ⟨w.heap.size, 0, none⟩ = some (.string t.id) := (hb1.cell (p := ⟨w.heap.size, 0, none⟩) (by simp)).trans (by go_simp); have g1 : w1.cell? ⟨w.heap.size, 1, none⟩ = some (.int .i64 t.size) := (hb1.cell (p := ⟨w.heap.size, 1, none⟩) (by simp)).trans (by go_simp); have g2 : w1.cell? ⟨w.heap.size, 2, none⟩ = some (.slice p1 t.files.length c1) := (hb1.cell (p := ⟨w.heap.size, 2, none⟩) (by simp)).trans (by go_simp); have g3 : w1.cell? ⟨w.heap.size, 3, none⟩ = some (.slice p2 t.funcs.length c2) := (hb1.cell (p := ⟨w.heap.size, 3, none⟩) (by simp)).trans (by go_simp); have g4 : w1.cell? ⟨w.heap.size, 4, none⟩ = some (.slice p3 t.rows.length c3) := (hb1.cell (p := ⟨w.heap.size, 4, none⟩) (by simp)).trans (by go_simp); have g5 : w1.cell? ⟨w.heap.size, 5, none⟩ = some (.slice p4 t.calls.length c4) := (hb1.cell (p := ⟨w.heap.size, 5, none⟩) (by simp)).trans (by go_simp))
      | (go_at_call 18; with_reducible refine (HLE.out _ hbw1).mono ?_; rintro e' w2 ⟨u, rfl, hb2, -⟩; have hbw2 := below_call hbw1 hbw1.size hb2))
    go_ret
    exact ⟨rfl, hbw2⟩
end Go.Proofs.YtcdaalnjanncmaaDoor

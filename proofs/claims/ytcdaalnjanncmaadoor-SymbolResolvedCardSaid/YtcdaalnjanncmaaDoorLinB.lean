/- The spans of a line: Lines. -/
import Derived.Test.YtcdaalnjanncmaaDoorLinA
import Derived.Test.YtcdaalnjanncmaaDoorSymE
namespace Go.Proofs.YtcdaalnjanncmaaDoor
open Go.RowKit Go.Deep

/-- What Lines answers, an error apart. -/
def lnErr (t : Tb) (file : ByteArray) (line : Int) : Int := if tabErr t ≠ 0 then tabErr t else if Lib.idxOfS t.files file < 0 then 7 else if line < 1 ∨ 9999999 < line then 2 else 0
theorem lnErr_tab {t : Tb} {file : ByteArray} {line : Int} (h : tabErr t ≠ 0) : lnErr t file line = tabErr t := by unfold lnErr; rw [if_pos h]
theorem lnErr_none {t : Tb} {file : ByteArray} {line : Int} (h : tabErr t = 0) (h2 : Lib.idxOfS t.files file < 0) : lnErr t file line = 7 := by unfold lnErr; rw [if_neg (by omega), if_pos h2]
theorem lnErr_range {t : Tb} {file : ByteArray} {line : Int} (h : tabErr t = 0) (h2 : ¬ Lib.idxOfS t.files file < 0) (h3 : line < 1 ∨ 9999999 < line) : lnErr t file line = 2 := by unfold lnErr; rw [if_neg (by omega), if_neg h2, if_pos h3]
theorem lnErr_ok {t : Tb} {file : ByteArray} {line : Int} (h : tabErr t = 0) (h2 : ¬ Lib.idxOfS t.files file < 0) (h3 : ¬ (line < 1 ∨ 9999999 < line)) : lnErr t file line = 0 := by unfold lnErr; rw [if_neg (by omega), if_neg h2, if_neg h3]
theorem spansOf_skip {k line size : Int} {acc : List Sp} {r : Rw} {l : List Rw} (h : ¬ (r.f = k ∧ r.l = line)) : spansOf k line size acc (r :: l) = spansOf k line size acc l := by rw [spansOf, if_neg h]
theorem spansOf_add {k line size : Int} {acc : List Sp} {r : Rw} {l : List Rw} (h1 : r.f = k) (h2 : r.l = line) : spansOf k line size acc (r :: l) = spansOf k line size (addSp acc ⟨r.p, nextAt size l⟩) l := by rw [spansOf, if_pos ⟨h1, h2⟩]
theorem addSp_len (l : List Sp) (s : Sp) : (addSp l s).length ≤ l.length + 1 := by
  unfold addSp
  split
  · simp
  · split
    · simp
    · simp

theorem index44_any (v : Value) (l : List ByteArray) (x : ByteArray) (w : World) (hv : SlG encS 1 fitS w v l) :
    Calls Tryd.prog 44 #[v, .string x] w fun e w' => e = .returned (.int .i64 (Lib.idxOfS l x)) ∧ w' = w := by
  obtain ⟨p, cap, rfl, hlc, hcm, _, rfl | ⟨b, off, rfl, hb, hc⟩⟩ := hv
  · exact Tryd.slices_Index_string_empty p cap x w
  · have h := Tryd.slices_Index_string b off l.length cap l x w (Nat.le_refl _) (by unfold maxLen at hcm; omega) (fun j hj => by rw [hc.str hj]; simp [List.getD, List.getElem?_eq_getElem hj])
    rw [List.take_length] at h
    exact h

set_option maxHeartbeats 4000000 in
set_option maxRecDepth 100000 in
theorem lines_any (v : Value) (t : Tb) (file : ByteArray) (line : Int) (w : World) (hv : TbV w v t) (hrl : tabErr t = 0 → t.rows.length ≤ 5000)
    (hct : ∀ W, Below w.heap.size w W → Calls Tryd.prog 35 #[v] W fun e w' => e = .returned (.int .i64 (tabErr t)) ∧ Below W.heap.size W w') :
    Calls Tryd.prog 18 #[v, .string file, .int .i64 line] w fun e w' => ∃ u, e = .returned (.tuple #[u, .int .i64 (lnErr t file line)]) ∧ Below w.heap.size w w' ∧
      (lnErr t file line = 0 → w'.ownsRow (w.heap.size + 1) 63 2 u (spansOf (Lib.idxOfS t.files file) line t.size [] t.rows).length (cellsG encSp (spansOf (Lib.idxOfS t.files file) line t.size [] t.rows))) := by
  obtain ⟨v1, v2, v3, v4, rfl, hid, hsz, hsl, ⟨p2, c2, rfl, -, -, -, -⟩, ⟨p3, c3, rfl, l3, m3, f3, o3⟩, ⟨p4, c4, rfl, -, -, -, -⟩⟩ := id hv
  obtain ⟨p1, c1, rfl, -, -, -, -⟩ := id hsl
  have HIX := Lib.hid (fun (W : World) (hW : Below w.heap.size w W) => index44_any _ t.files file W (hsl.below (Nat.le_refl _) hW))
  have HCT := Lib.hid hct
  have HRL := Lib.hid hrl
  clear hct hsl hv hrl
  have hA : Below w.heap.size w (w.alloc (.cells #[.string t.id, .int .i64 t.size, .slice p1 t.files.length c1, .slice p2 t.funcs.length c2, .slice p3 t.rows.length c3, .slice p4 t.calls.length c4] 42)) := (Below.refl _ _).alloc (Nat.le_refl _) _
  by_cases hz : tabErr t = 0
  · rw [hz] at HCT
    have hrl := HRL.out hz
    clear HRL
    have HZ := Lib.hid hz
    clear hz
    by_cases hx : Lib.idxOfS t.files file < 0
    · have HR := Lib.hid (lnErr_none (line := line) HZ.out hx)
      have hd : decide (Lib.idxOfS t.files file < 0) = true := decide_eq_true hx
      clear hx
      generalize Lib.idxOfS t.files file = num at *
      rw [HR.out]
      go_enter Tryd.func18, Tryd.ntmps18
      go_wp2_with (first | (go_at_call 35; with_reducible refine (HCT.out _ hA).mono ?_; rintro e w1 ⟨rfl, hb1⟩; have hbw1 := below_call hA hA.size hb1; have g1 : w1.cell? ⟨w.heap.size, 1, none⟩ = some (.int .i64 t.size) := (hb1.cell (p := ⟨w.heap.size, 1, none⟩) (by simp)).trans (by go_simp); have g2 : w1.cell? ⟨w.heap.size, 2, none⟩ = some (.slice p1 t.files.length c1) := (hb1.cell (p := ⟨w.heap.size, 2, none⟩) (by simp)).trans (by go_simp); have g4 : w1.cell? ⟨w.heap.size, 4, none⟩ = some (.slice p3 t.rows.length c3) := (hb1.cell (p := ⟨w.heap.size, 4, none⟩) (by simp)).trans (by go_simp)) | (go_at_call 44; with_reducible refine (HIX.out _ hbw1).mono ?_; rintro e' w2 ⟨rfl, rfl⟩))
      go_ret2
      exact ⟨_, rfl, hbw1, fun h => by omega⟩
    · have hd : decide (Lib.idxOfS t.files file < 0) = false := decide_eq_false hx
      by_cases hl : line < 1 ∨ 9999999 < line
      · have HR := Lib.hid (lnErr_range HZ.out hx hl)
        clear hx
        generalize Lib.idxOfS t.files file = num at *
        rw [HR.out]
        go_enter Tryd.func18, Tryd.ntmps18
        go_wp2_with (first | (go_at_call 35; with_reducible refine (HCT.out _ hA).mono ?_; rintro e w1 ⟨rfl, hb1⟩; have hbw1 := below_call hA hA.size hb1; have g1 : w1.cell? ⟨w.heap.size, 1, none⟩ = some (.int .i64 t.size) := (hb1.cell (p := ⟨w.heap.size, 1, none⟩) (by simp)).trans (by go_simp); have g2 : w1.cell? ⟨w.heap.size, 2, none⟩ = some (.slice p1 t.files.length c1) := (hb1.cell (p := ⟨w.heap.size, 2, none⟩) (by simp)).trans (by go_simp); have g4 : w1.cell? ⟨w.heap.size, 4, none⟩ = some (.slice p3 t.rows.length c3) := (hb1.cell (p := ⟨w.heap.size, 4, none⟩) (by simp)).trans (by go_simp)) | (go_at_call 44; with_reducible refine (HIX.out _ hbw1).mono ?_; rintro e' w2 ⟨rfl, rfl⟩))
        all_goals first
          | (go_ret2; exact ⟨_, rfl, hbw1, fun h => by omega⟩)
          | (go_ret2; exact ⟨⟨_, rfl⟩, hbw1⟩)
          | (exfalso; omega)
      · have HR := Lib.hid (lnErr_ok HZ.out hx hl)
        have r1 : decide (line < 1) = false := decide_eq_false (by omega)
        have r2 : decide (9999999 < line) = false := decide_eq_false (by omega)
        clear hx hl
        generalize Lib.idxOfS t.files file = num at *
        rw [HR.out]
        go_enter Tryd.func18, Tryd.ntmps18
        go_wp2_with (first | (go_at_call 35; with_reducible refine (HCT.out _ hA).mono ?_; rintro e w1 ⟨rfl, hb1⟩; have hbw1 := below_call hA hA.size hb1; have g1 : w1.cell? ⟨w.heap.size, 1, none⟩ = some (.int .i64 t.size) := (hb1.cell (p := ⟨w.heap.size, 1, none⟩) (by simp)).trans (by go_simp); have g2 : w1.cell? ⟨w.heap.size, 2, none⟩ = some (.slice p1 t.files.length c1) := (hb1.cell (p := ⟨w.heap.size, 2, none⟩) (by simp)).trans (by go_simp); have g4 : w1.cell? ⟨w.heap.size, 4, none⟩ = some (.slice p3 t.rows.length c3) := (hb1.cell (p := ⟨w.heap.size, 4, none⟩) (by simp)).trans (by go_simp)) | (go_at_call 44; with_reducible refine (HIX.out _ hbw1).mono ?_; rintro e' w2 ⟨rfl, rfl⟩))
        go_loopw [10, 34] (fun v10 v wr => ∃ (k : Nat) (acc : List Sp) (va : Value), va = v10 ∧ k ≤ t.rows.length ∧ acc.length ≤ k ∧ v = .int .i64 k ∧ spansOf num line t.size [] t.rows = spansOf num line t.size acc (t.rows.drop k) ∧ wr.ownsRow (w.heap.size + 1) 63 2 va acc.length (cellsG encSp acc) ∧ wr.cell? ⟨w.heap.size, 1, none⟩ = some (.int .i64 t.size) ∧ wr.cell? ⟨w.heap.size, 4, none⟩ = some (.slice p3 t.rows.length c3) ∧ Below w.heap.size w wr) (fun _ v _ => t.rows.length - (RowKit.intOf v).toNat)
        case atStart => exact ⟨0, [], _, rfl, Nat.zero_le _, Nat.zero_le _, rfl, rfl, ⟨rfl, .inl ⟨rfl, rfl⟩⟩, g1, g4, hbw1⟩
        case round =>
          clear g1 g4
          obtain ⟨k, acc, va, rfl, hk, hak, rfl, heq, hown, g1, g4, hbw⟩ := hrel
          have HEQ := Lib.hid heq
          clear heq
          by_cases hlt : k < t.rows.length
          · have HD := Lib.hid (List.drop_eq_getElem_cons hlt)
            rcases o3 with h0 | ⟨b, off, rfl, hb, hc⟩
            · rw [h0] at hlt; simp at hlt
            obtain ⟨k0, k1, k2⟩ := hc.row hlt
            have k0 := (hbw.cell (p := ⟨b, _, none⟩) hb).trans k0
            have k1 := (hbw.cell (p := ⟨b, _, none⟩) hb).trans k1
            have k2 := (hbw.cell (p := ⟨b, _, none⟩) hb).trans k2
            have hlg := World.block_lt_of_cell? _ _ g1
            simp only at hlg
            have hge := fun q h => own_lt (k := q) hown h
            generalize t.rows[k] = r at *
            obtain ⟨rp, rf, rl⟩ := r
            simp only at k0 k1 k2
            have HH := Lib.hid (fun u (h : spansOf num line t.size acc (⟨rp, rf, rl⟩ :: t.rows.drop (k + 1)) = u) => (show spansOf num line t.size [] t.rows = u by rw [HEQ.out, HD.out]; exact h))
            clear HEQ HD
            have hbwA := hbw.alloc hbw.size (.cells #[.int .i64 rp, .int .i64 rf, .int .i64 rl] 93)
            have hownA := hown.alloc (.cells #[.int .i64 rp, .int .i64 rf, .int .i64 rl] 93)
            have gA1 : (wr.alloc (.cells #[.int .i64 rp, .int .i64 rf, .int .i64 rl] 93)).cell? ⟨w.heap.size, 1, none⟩ = some (.int .i64 t.size) := (World.cell?_alloc_lt _ _ _ hlg).trans g1
            have gA4 : (wr.alloc (.cells #[.int .i64 rp, .int .i64 rf, .int .i64 rl] 93)).cell? ⟨w.heap.size, 4, none⟩ = some (.slice (some ⟨b, off, none⟩) t.rows.length c3) := (World.cell?_alloc_lt _ _ _ hlg).trans g4
            by_cases hf : rf = num
            · by_cases hl2 : rl = line
              · have b1 : (rf != num) = false := by simpa using hf
                have b2 : (rl != line) = false := by simpa using hl2
                have HADD := Lib.hid (HH.out _ (spansOf_add hf hl2))
                clear hf hl2 HH
                have HAS := Lib.hid (fun (sb : Int) (W : World) (h : W.ownsRow (w.heap.size + 1) 63 2 va acc.length (cellsG encSp acc)) (h2 : w.heap.size + 1 ≤ W.heap.size) => addSpan_own (w.heap.size + 1) va acc ⟨rp, sb⟩ W (by omega) h h2)
                have hwA : w.heap.size + 1 ≤ (wr.alloc (.cells #[.int .i64 rp, .int .i64 rf, .int .i64 rl] 93)).heap.size := by simp; omega
                have hneB : va.ownBlock ≠ some w.heap.size := fun h => by have := (hge _ h).1; omega
                have hBG : ∀ q, va.ownBlock = some q → w.heap.size ≤ q := fun q h => by have := (hge _ h).1; omega
                by_cases hlast : k + 1 < t.rows.length
                · obtain ⟨n0, _, _⟩ := hc.row hlast
                  have n0 := (hbwA.cell (p := ⟨b, _, none⟩) hb).trans n0
                  have HNX := Lib.hid (show nextAt t.size (t.rows.drop (k + 1)) = (t.rows[k + 1]).p by rw [List.drop_eq_getElem_cons hlast]; rfl)
                  rw [HNX.out] at HADD
                  generalize (t.rows[k + 1]).p = np at *
                  have e1 : decide ((k : Int) + 1 < (t.rows.length : Int)) = true := decide_eq_true (by omega)
                  have e2 : IntKind.i64.wrap ((k : Int) + 1) = (k : Int) + 1 := IntWalk.i64_in _ ⟨by omega, by omega⟩
                  have e3 : (k : Int) + 1 < (t.rows.length : Int) := by omega
                  have e4 : (0 : Int) ≤ (k : Int) + 1 := by omega
                  have HAS := Lib.hid (fun W => HAS.out np W)
                  go_wp2_with (go_at_call 45; with_reducible refine (HAS.out _ hownA hwA).mono ?_; rintro e' w3 ⟨v3, rfl, hown3, hgr3⟩)
                  exact ⟨⟨k + 1, addSp acc ⟨rp, np⟩, v3, rfl, by omega, Nat.le_trans (addSp_len _ _) (by omega), by go_num, HADD.out, hown3, cell_grown hgr3 gA1 hneB, cell_grown hgr3 gA4 hneB, below_grown hbwA hgr3 hBG hbwA.size⟩, by simp [RowKit.intOf]; omega⟩
                · have HNX := Lib.hid (show nextAt t.size (t.rows.drop (k + 1)) = t.size by rw [List.drop_of_length_le (by omega)]; rfl)
                  rw [HNX.out] at HADD
                  have e1 : decide ((k : Int) + 1 < (t.rows.length : Int)) = false := decide_eq_false (by omega)
                  have HAS := Lib.hid (fun W => HAS.out t.size W)
                  go_wp2_with (go_at_call 45; with_reducible refine (HAS.out _ hownA hwA).mono ?_; rintro e' w3 ⟨v3, rfl, hown3, hgr3⟩)
                  exact ⟨⟨k + 1, addSp acc ⟨rp, t.size⟩, v3, rfl, by omega, Nat.le_trans (addSp_len _ _) (by omega), by go_num, HADD.out, hown3, cell_grown hgr3 gA1 hneB, cell_grown hgr3 gA4 hneB, below_grown hbwA hgr3 hBG hbwA.size⟩, by simp [RowKit.intOf]; omega⟩
              · have b1 : (rf != num) = false := by simpa using hf
                have b2 : (rl != line) = true := by simpa using hl2
                have HADD := Lib.hid (HH.out _ (spansOf_skip (fun h => hl2 h.2)))
                clear hf hl2 HH
                go_wp2_with fail
                exact ⟨⟨k + 1, acc, va, rfl, by omega, by omega, by go_num, HADD.out, hownA, gA1, gA4, hbwA⟩, by simp [RowKit.intOf]; omega⟩
            · have b1 : (rf != num) = true := by simpa using hf
              have HADD := Lib.hid (HH.out _ (spansOf_skip (fun h => hf h.1)))
              clear hf HH
              go_wp2_with fail
              exact ⟨⟨k + 1, acc, va, rfl, by omega, by omega, by go_num, HADD.out, hownA, gA1, gA4, hbwA⟩, by simp [RowKit.intOf]; omega⟩
          · have HE := Lib.hid (show spansOf num line t.size [] t.rows = acc by rw [HEQ.out, List.drop_of_length_le (by omega)]; rfl)
            go_wp2_with fail
            go_ret2
            exact ⟨_, rfl, hbw, fun _ => by rw [HE.out]; exact hown⟩
  · have HR := Lib.hid (lnErr_tab (file := file) (line := line) hz)
    have hq : (tabErr t != 0) = true := by simpa using hz
    have HZ := Lib.hid hz
    rw [HR.out]
    clear hz HRL
    generalize tabErr t = E at *
    go_enter Tryd.func18, Tryd.ntmps18
    go_wp2_with (first | (go_at_call 35; with_reducible refine (HCT.out _ hA).mono ?_; rintro e w1 ⟨rfl, hb1⟩; have hbw1 := below_call hA hA.size hb1; have g1 : w1.cell? ⟨w.heap.size, 1, none⟩ = some (.int .i64 t.size) := (hb1.cell (p := ⟨w.heap.size, 1, none⟩) (by simp)).trans (by go_simp); have g2 : w1.cell? ⟨w.heap.size, 2, none⟩ = some (.slice p1 t.files.length c1) := (hb1.cell (p := ⟨w.heap.size, 2, none⟩) (by simp)).trans (by go_simp); have g4 : w1.cell? ⟨w.heap.size, 4, none⟩ = some (.slice p3 t.rows.length c3) := (hb1.cell (p := ⟨w.heap.size, 4, none⟩) (by simp)).trans (by go_simp)))
    go_ret2
    exact ⟨_, rfl, hbw1, fun h => absurd h HZ.out⟩
end Go.Proofs.YtcdaalnjanncmaaDoor

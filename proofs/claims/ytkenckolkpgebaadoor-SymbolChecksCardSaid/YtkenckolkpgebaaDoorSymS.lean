/- What the reference's TableFault answers. -/
import Derived.Test.YtkenckolkpgebaaDoorSymQ
namespace Go.Proofs.YtkenckolkpgebaaDoor
open Go.RowKit Go.Deep Go.Lib

theorem eFiles_large {t : Tb} (h : 200 < t.files.length) : eFiles t = 4 := by unfold eFiles; rw [if_pos h]
theorem eFiles_small {t : Tb} (h : ¬ 200 < t.files.length) : eFiles t = filsErr [] t.files := by unfold eFiles; rw [if_neg h]

set_option maxHeartbeats 4000000 in
set_option maxRecDepth 100000 in
theorem tableFault_any (v : Value) (t : Tb) (w : World) (hv : TbV w v t) :
    Calls Tryd.prog 9 #[v] w fun e w' => e = .returned (.int .i64 (tabErr t)) ∧ Below w.heap.size w w' := by
  obtain ⟨v1, v2, v3, v4, rfl, hid, hsz, ⟨p1, c1, rfl, l1, m1, f1, o1⟩, ⟨p2, c2, rfl, l2, m2, f2, o2⟩, ⟨p3, c3, rfl, l3, m3, f3, o3⟩, ⟨p4, c4, rfl, l4, m4, f4, o4⟩⟩ := id hv
  have HI := Lib.hid (fun W => digits16_any t.id W hid)
  have HTV := Lib.hid hv
  clear hv f2 f3 f4 o2 o3 o4 m1 m2 m3 m4 l2 l3 l4
  cases hi : isIdB t.id
  · rw [hi] at HI
    have HR := Lib.hid (tab_id hi)
    clear hi HTV
    go_enter Tryd.func9, Tryd.ntmps9
    go_wp2_with (go_at_call 17; with_reducible refine (HI.out _).mono ?_; rintro e w1 ⟨rfl, hb1⟩)
    go_ret
    exact ⟨ret_int HR.out.symm, below_a1 (Below.refl _ _) (Nat.le_refl _) hb1⟩
  · rw [hi] at HI
    have HID := Lib.hid hi
    clear hi
    have HO := Lib.hid (fun W => outB_any t.size 1 4294967296 W)
    obtain ⟨q1, hq1⟩ : ∃ q, outB t.size 1 4294967296 = q := ⟨_, rfl⟩
    rw [hq1] at HO
    rcases outB_iff hq1 with ⟨rfl, o1'⟩ | ⟨rfl, o1'⟩
    · have HR := Lib.hid (tab_size HID.out o1')
      clear HTV hq1 o1'
      go_enter Tryd.func9, Tryd.ntmps9
      go_wp2_with (first | (go_at_call 17; with_reducible refine (HI.out _).mono ?_; rintro e w1 ⟨rfl, hb1⟩; have hbw1 := below_a1 (Below.refl w.heap.size w) (Nat.le_refl _) hb1; have g0 : w1.cell? ⟨w.heap.size, 0, none⟩ = some (.string t.id) := (hb1.cell (p := ⟨w.heap.size, 0, none⟩) (by simp)).trans (by go_simp); have g1 : w1.cell? ⟨w.heap.size, 1, none⟩ = some (.int .i64 t.size) := (hb1.cell (p := ⟨w.heap.size, 1, none⟩) (by simp)).trans (by go_simp); have g2 : w1.cell? ⟨w.heap.size, 2, none⟩ = some (.slice p1 t.files.length c1) := (hb1.cell (p := ⟨w.heap.size, 2, none⟩) (by simp)).trans (by go_simp); have g3 : w1.cell? ⟨w.heap.size, 3, none⟩ = some (.slice p2 t.funcs.length c2) := (hb1.cell (p := ⟨w.heap.size, 3, none⟩) (by simp)).trans (by go_simp); have g4 : w1.cell? ⟨w.heap.size, 4, none⟩ = some (.slice p3 t.rows.length c3) := (hb1.cell (p := ⟨w.heap.size, 4, none⟩) (by simp)).trans (by go_simp); have g5 : w1.cell? ⟨w.heap.size, 5, none⟩ = some (.slice p4 t.calls.length c4) := (hb1.cell (p := ⟨w.heap.size, 5, none⟩) (by simp)).trans (by go_simp)) | (go_at_call 18; with_reducible refine (HO.out _).mono ?_; rintro e' w2 ⟨rfl, rfl⟩))
      go_ret
      exact ⟨ret_int HR.out.symm, hbw1⟩
    · have HS := Lib.hid o1'
      have hs1 : 1 ≤ t.size := by omega
      have hs2 : t.size ≤ 4294967296 := by omega
      clear hq1 o1'
      by_cases hL : 200 < t.files.length
      · have HR := Lib.hid (show tabErr t = 4 by rw [tab_files HID.out HS.out (by rw [eFiles_large hL]; omega), eFiles_large hL])
        have hd : decide (200 < (t.files.length : Int)) = true := decide_eq_true (by omega)
        clear HTV hL hs1 hs2
        go_enter Tryd.func9, Tryd.ntmps9
        go_wp2_with (first | (go_at_call 17; with_reducible refine (HI.out _).mono ?_; rintro e w1 ⟨rfl, hb1⟩; have hbw1 := below_a1 (Below.refl w.heap.size w) (Nat.le_refl _) hb1; have g0 : w1.cell? ⟨w.heap.size, 0, none⟩ = some (.string t.id) := (hb1.cell (p := ⟨w.heap.size, 0, none⟩) (by simp)).trans (by go_simp); have g1 : w1.cell? ⟨w.heap.size, 1, none⟩ = some (.int .i64 t.size) := (hb1.cell (p := ⟨w.heap.size, 1, none⟩) (by simp)).trans (by go_simp); have g2 : w1.cell? ⟨w.heap.size, 2, none⟩ = some (.slice p1 t.files.length c1) := (hb1.cell (p := ⟨w.heap.size, 2, none⟩) (by simp)).trans (by go_simp); have g3 : w1.cell? ⟨w.heap.size, 3, none⟩ = some (.slice p2 t.funcs.length c2) := (hb1.cell (p := ⟨w.heap.size, 3, none⟩) (by simp)).trans (by go_simp); have g4 : w1.cell? ⟨w.heap.size, 4, none⟩ = some (.slice p3 t.rows.length c3) := (hb1.cell (p := ⟨w.heap.size, 4, none⟩) (by simp)).trans (by go_simp); have g5 : w1.cell? ⟨w.heap.size, 5, none⟩ = some (.slice p4 t.calls.length c4) := (hb1.cell (p := ⟨w.heap.size, 5, none⟩) (by simp)).trans (by go_simp)) | (go_at_call 18; with_reducible refine (HO.out _).mono ?_; rintro e' w2 ⟨rfl, rfl⟩))
        go_ret
        exact ⟨ret_int HR.out.symm, hbw1⟩
      · have hd : decide (200 < (t.files.length : Int)) = false := decide_eq_false (by omega)
        have HEF := Lib.hid (eFiles_small hL)
        have HF2 := Lib.hid (fun (W : World) (hW : Below w.heap.size w W) => funcsFault_any _ t W (HTV.out.below (Nat.le_refl _) hW) hs1 hs2)
        have HF3 := Lib.hid (fun (h : eFiles t = 0) (W : World) (hW : Below w.heap.size w W) => rowsFault_any _ t W (HTV.out.below (Nat.le_refl _) hW) hs1 hs2 h)
        have HF4 := Lib.hid (fun (h : eFiles t = 0) (W : World) (hW : Below w.heap.size w W) => callsFault_any _ t W (HTV.out.below (Nat.le_refl _) hW) hs1 hs2 h)
        have HO1 := Lib.hid o1
        have HFT := Lib.hid f1
        clear HTV hs1 hs2 o1 f1
        have hn : t.files.length ≤ 200 := by omega
        go_enter Tryd.func9, Tryd.ntmps9
        go_wp2_with (first | (go_at_call 17; with_reducible refine (HI.out _).mono ?_; rintro e w1 ⟨rfl, hb1⟩; have hbw1 := below_a1 (Below.refl w.heap.size w) (Nat.le_refl _) hb1; have g0 : w1.cell? ⟨w.heap.size, 0, none⟩ = some (.string t.id) := (hb1.cell (p := ⟨w.heap.size, 0, none⟩) (by simp)).trans (by go_simp); have g1 : w1.cell? ⟨w.heap.size, 1, none⟩ = some (.int .i64 t.size) := (hb1.cell (p := ⟨w.heap.size, 1, none⟩) (by simp)).trans (by go_simp); have g2 : w1.cell? ⟨w.heap.size, 2, none⟩ = some (.slice p1 t.files.length c1) := (hb1.cell (p := ⟨w.heap.size, 2, none⟩) (by simp)).trans (by go_simp); have g3 : w1.cell? ⟨w.heap.size, 3, none⟩ = some (.slice p2 t.funcs.length c2) := (hb1.cell (p := ⟨w.heap.size, 3, none⟩) (by simp)).trans (by go_simp); have g4 : w1.cell? ⟨w.heap.size, 4, none⟩ = some (.slice p3 t.rows.length c3) := (hb1.cell (p := ⟨w.heap.size, 4, none⟩) (by simp)).trans (by go_simp); have g5 : w1.cell? ⟨w.heap.size, 5, none⟩ = some (.slice p4 t.calls.length c4) := (hb1.cell (p := ⟨w.heap.size, 5, none⟩) (by simp)).trans (by go_simp)) | (go_at_call 18; with_reducible refine (HO.out _).mono ?_; rintro e' w2 ⟨rfl, rfl⟩))
        go_loopw [26] (fun v wr => ∃ k : Nat, k ≤ t.files.length ∧ v = .int .i64 k ∧ filsErr [] t.files = filsErr (t.files.take k) (t.files.drop k) ∧ wr.cell? ⟨w.heap.size, 0, none⟩ = some (.string t.id) ∧ wr.cell? ⟨w.heap.size, 1, none⟩ = some (.int .i64 t.size) ∧ wr.cell? ⟨w.heap.size, 2, none⟩ = some (.slice p1 t.files.length c1) ∧ wr.cell? ⟨w.heap.size, 3, none⟩ = some (.slice p2 t.funcs.length c2) ∧ wr.cell? ⟨w.heap.size, 4, none⟩ = some (.slice p3 t.rows.length c3) ∧ wr.cell? ⟨w.heap.size, 5, none⟩ = some (.slice p4 t.calls.length c4) ∧ Below w.heap.size w wr) (fun v _ => t.files.length - (RowKit.intOf v).toNat)
        case atStart => exact ⟨0, Nat.zero_le _, rfl, by simp, g0, g1, g2, g3, g4, g5, hbw1⟩
        case round =>
          clear g0 g1 g2 g3 g4 g5
          obtain ⟨k, hk, rfl, heq, g0, g1, g2, g3, g4, g5, hbw⟩ := hrel
          have HEQ := Lib.hid heq
          clear heq
          by_cases hlt : k < t.files.length
          · have HD := Lib.hid (List.drop_eq_getElem_cons hlt)
            have HT := Lib.hid (List.take_succ_eq_append_getElem hlt)
            rcases HO1.out with h0 | ⟨b, off, hp1, hb, hc⟩
            · rw [h0] at hlt; simp at hlt
            · clear HO1
              subst hp1
              have c0 := (hbw.cell (p := ⟨b, _, none⟩) hb).trans (hc.str hlt)
              have hfs := HFT.out _ (List.getElem_mem hlt)
              have HCT := Lib.hid (fun (W : World) (x : ByteArray) (hW : Below w.heap.size w W) => Tryd.slices_Contains_string b off k c1 t.files x W (by omega) (by omega) (fun j hj => by
                rw [(hW.cell (p := ⟨b, _, none⟩) hb), hc.str hj]; simp [List.getD, List.getElem?_eq_getElem hj]))
              generalize t.files[k] = s at *
              have HF := Lib.hid (fun W => frameFault_any noB fB s W (by unfold fitS; decide) (by unfold fitS; decide) hfs)
              unfold noB fB at HF
              have hkc : (k : Int) ≤ (c1 : Int) := by omega
              have HH := Lib.hid (fun v (h : filsErr (t.files.take k) (s :: t.files.drop (k + 1)) = v) => (show filsErr [] t.files = v by rw [HEQ.out, HD.out]; exact h))
              clear HEQ HD hfs
              have HTF := Lib.hid (fun (h : filsErr [] t.files ≠ 0) => (show tabErr t = filsErr [] t.files by rw [tab_files HID.out HS.out (by rw [HEF.out]; exact h), HEF.out]))
              by_cases h0 : s.size = 0
              · have he : (s.toList == ([] : List UInt8)) = true := by rw [eq_empty]; simp [h0]
                have HR := Lib.hid (show tabErr t = 1 by
                  have hh : filsErr [] t.files = 1 := HH.out _ (by rw [filsErr_bad (by rw [filErr_empty h0]; omega), filErr_empty h0])
                  rw [HTF.out (by rw [hh]; omega), hh])
                clear h0 HH HTF HF HCT
                go_wp2_with fail
                go_ret
                exact ⟨ret_int HR.out.symm, hbw⟩
              · have he : (s.toList == ([] : List UInt8)) = false := by rw [eq_empty]; simp [h0]
                have hfe := filErr_some h0
                unfold noB fB at hfe
                rw [← hfe] at HF
                clear hfe h0
                by_cases hz : filErr s = 0
                · rw [hz] at HF
                  cases hct : containsS (t.files.take k) s
                  · have HC2 := Lib.hid (fun (W : World) (hW : Below w.heap.size w W) => HCT.out W s hW)
                    rw [hct] at HC2
                    have HR := Lib.hid (show filsErr [] t.files = filsErr (t.files.take (k + 1)) (t.files.drop (k + 1)) from HH.out _ (by rw [filsErr_next hz hct, HT.out]))
                    clear hct HCT hz HH HTF
                    go_wp2_with (first
                      | (go_at_call 19; with_reducible refine (HF.out _).mono ?_; rintro e w3 ⟨rfl, hb3⟩; have hbw3 := below_call hbw hbw.size hb3; have y0 := cell_keep g0 hb3; have y1 := cell_keep g1 hb3; have y2 := cell_keep g2 hb3; have y3 := cell_keep g3 hb3; have y4 := cell_keep g4 hb3; have y5 := cell_keep g5 hb3)
                      | (go_at_call 20; with_reducible refine (HC2.out _ hbw3).mono ?_; rintro e w4 ⟨rfl, rfl⟩))
                    exact ⟨⟨k + 1, by omega, by go_num, HR.out, y0, y1, y2, y3, y4, y5, hbw3⟩, by simp [RowKit.intOf]; omega⟩
                  · have HC2 := Lib.hid (fun (W : World) (hW : Below w.heap.size w W) => HCT.out W s hW)
                    rw [hct] at HC2
                    have HR := Lib.hid (show tabErr t = 6 by
                      have hh := HH.out _ (filsErr_twice hz hct)
                      rw [HTF.out (by rw [hh]; omega), hh])
                    clear hct HCT hz HH HTF
                    go_wp2_with (first
                      | (go_at_call 19; with_reducible refine (HF.out _).mono ?_; rintro e w3 ⟨rfl, hb3⟩; have hbw3 := below_call hbw hbw.size hb3; have y0 := cell_keep g0 hb3; have y1 := cell_keep g1 hb3; have y2 := cell_keep g2 hb3; have y3 := cell_keep g3 hb3; have y4 := cell_keep g4 hb3; have y5 := cell_keep g5 hb3)
                      | (go_at_call 20; with_reducible refine (HC2.out _ hbw3).mono ?_; rintro e w4 ⟨rfl, rfl⟩))
                    go_ret
                    exact ⟨ret_int HR.out.symm, hbw3⟩
                · have hq : (filErr s != 0) = true := by simpa using hz
                  have HR := Lib.hid (show tabErr t = filErr s by
                    have hh := HH.out _ (filsErr_bad hz)
                    rw [HTF.out (by rw [hh]; exact hz), hh])
                  clear hz HH HTF HCT
                  generalize filErr s = E at *
                  go_wp2_with (go_at_call 19; with_reducible refine (HF.out _).mono ?_; rintro e w3 ⟨rfl, hb3⟩; have hbw3 := below_call hbw hbw.size hb3)
                  go_ret
                  exact ⟨ret_int HR.out.symm, hbw3⟩
          · have Z1 := Lib.hid (show eFiles t = 0 by rw [HEF.out, HEQ.out, List.drop_of_length_le (by omega)]; rfl)
            obtain ⟨wo, rfl⟩ : ∃ wo : World, wo = wr := ⟨_, rfl⟩
            have hlb := World.block_lt_of_cell? _ _ g0
            simp only at hlb
            go_wp2_with fail
            go_loopw [47] (fun v wx => ∃ k : Nat, k ≤ 3 ∧ v = .int .i64 k ∧ (0 < k → eFuncs t = 0) ∧ (1 < k → eRows t = 0) ∧ (2 < k → eCalls t = 0) ∧ wx.cell? ⟨wo.heap.size, 0, none⟩ = some (.func (.func 21) #[] #[]) ∧ wx.cell? ⟨wo.heap.size, 1, none⟩ = some (.func (.func 22) #[] #[]) ∧ wx.cell? ⟨wo.heap.size, 2, none⟩ = some (.func (.func 23) #[] #[]) ∧ wx.cell? ⟨w.heap.size, 0, none⟩ = some (.string t.id) ∧ wx.cell? ⟨w.heap.size, 1, none⟩ = some (.int .i64 t.size) ∧ wx.cell? ⟨w.heap.size, 2, none⟩ = some (.slice p1 t.files.length c1) ∧ wx.cell? ⟨w.heap.size, 3, none⟩ = some (.slice p2 t.funcs.length c2) ∧ wx.cell? ⟨w.heap.size, 4, none⟩ = some (.slice p3 t.rows.length c3) ∧ wx.cell? ⟨w.heap.size, 5, none⟩ = some (.slice p4 t.calls.length c4) ∧ Below w.heap.size w wx) (fun v _ => 3 - (RowKit.intOf v).toNat)
            case atStart => exact ⟨0, by omega, rfl, by omega, by omega, by omega, by go_simp, by go_simp, by go_simp, (World.cell?_alloc_lt _ _ _ hlb).trans g0, (World.cell?_alloc_lt _ _ _ hlb).trans g1, (World.cell?_alloc_lt _ _ _ hlb).trans g2, (World.cell?_alloc_lt _ _ _ hlb).trans g3, (World.cell?_alloc_lt _ _ _ hlb).trans g4, (World.cell?_alloc_lt _ _ _ hlb).trans g5, hbw.alloc hbw.size _⟩
            clear g0 g1 g2 g3 g4 g5
            obtain ⟨k2, hk2, rfl, e2, e3, e4, x0, x1, x2, g0, g1, g2, g3, g4, g5, hbw2⟩ := hrel
            obtain rfl | rfl | rfl | rfl : k2 = 0 ∨ k2 = 1 ∨ k2 = 2 ∨ k2 = 3 := by omega
            · have HC := Lib.hid (HF2.out)
              by_cases hz : eFuncs t = 0
              · rw [hz] at HC
                have Z := Lib.hid hz
                clear hz
                go_wp2_with (go_at_call 21; with_reducible refine (HC.out _ hbw2).mono ?_; rintro e' w2 ⟨rfl, hb2⟩)
                exact ⟨⟨1, by omega, rfl, fun _ => Z.out, by omega, by omega, cell_keep x0 hb2, cell_keep x1 hb2, cell_keep x2 hb2, cell_keep g0 hb2, cell_keep g1 hb2, cell_keep g2 hb2, cell_keep g3 hb2, cell_keep g4 hb2, cell_keep g5 hb2, below_call hbw2 hbw2.size hb2⟩, by simp [RowKit.intOf]⟩
              · have HR := Lib.hid (show tabErr t = eFuncs t from tab_funcs HID.out HS.out Z1.out hz)
                have hq : (eFuncs t != 0) = true := by simpa using hz
                clear hz e2 e3 e4
                generalize eFuncs t = E at *
                go_wp2_with (go_at_call 21; with_reducible refine (HC.out _ hbw2).mono ?_; rintro e' w2 ⟨rfl, hb2⟩)
                go_ret
                exact ⟨ret_int HR.out.symm, below_call hbw2 hbw2.size hb2⟩
            · have HC := Lib.hid (HF3.out Z1.out)
              by_cases hz : eRows t = 0
              · rw [hz] at HC
                have Z := Lib.hid hz
                clear hz
                go_wp2_with (go_at_call 22; with_reducible refine (HC.out _ hbw2).mono ?_; rintro e' w2 ⟨rfl, hb2⟩)
                exact ⟨⟨2, by omega, rfl, fun _ => e2 (by omega), fun _ => Z.out, by omega, cell_keep x0 hb2, cell_keep x1 hb2, cell_keep x2 hb2, cell_keep g0 hb2, cell_keep g1 hb2, cell_keep g2 hb2, cell_keep g3 hb2, cell_keep g4 hb2, cell_keep g5 hb2, below_call hbw2 hbw2.size hb2⟩, by simp [RowKit.intOf]⟩
              · have HR := Lib.hid (show tabErr t = eRows t from tab_rows HID.out HS.out Z1.out (e2 (by omega)) hz)
                have hq : (eRows t != 0) = true := by simpa using hz
                clear hz e2 e3 e4
                generalize eRows t = E at *
                go_wp2_with (go_at_call 22; with_reducible refine (HC.out _ hbw2).mono ?_; rintro e' w2 ⟨rfl, hb2⟩)
                go_ret
                exact ⟨ret_int HR.out.symm, below_call hbw2 hbw2.size hb2⟩
            · have HC := Lib.hid (HF4.out Z1.out)
              by_cases hz : eCalls t = 0
              · rw [hz] at HC
                have Z := Lib.hid hz
                clear hz
                go_wp2_with (go_at_call 23; with_reducible refine (HC.out _ hbw2).mono ?_; rintro e' w2 ⟨rfl, hb2⟩)
                exact ⟨⟨3, by omega, rfl, fun _ => e2 (by omega), fun _ => e3 (by omega), fun _ => Z.out, cell_keep x0 hb2, cell_keep x1 hb2, cell_keep x2 hb2, cell_keep g0 hb2, cell_keep g1 hb2, cell_keep g2 hb2, cell_keep g3 hb2, cell_keep g4 hb2, cell_keep g5 hb2, below_call hbw2 hbw2.size hb2⟩, by simp [RowKit.intOf]⟩
              · have HR := Lib.hid (show tabErr t = eCalls t from tab_calls HID.out HS.out Z1.out (e2 (by omega)) (e3 (by omega)))
                have hq : (eCalls t != 0) = true := by simpa using hz
                clear hz e2 e3 e4
                generalize eCalls t = E at *
                go_wp2_with (go_at_call 23; with_reducible refine (HC.out _ hbw2).mono ?_; rintro e' w2 ⟨rfl, hb2⟩)
                go_ret
                exact ⟨ret_int HR.out.symm, below_call hbw2 hbw2.size hb2⟩
            · have HR := Lib.hid (show tabErr t = 0 by rw [tab_calls HID.out HS.out Z1.out (e2 (by omega)) (e3 (by omega))]; exact e4 (by omega))
              clear e2 e3 e4
              go_wp2_with fail
              go_ret
              exact ⟨ret_int HR.out.symm, hbw2⟩
end Go.Proofs.YtkenckolkpgebaaDoor

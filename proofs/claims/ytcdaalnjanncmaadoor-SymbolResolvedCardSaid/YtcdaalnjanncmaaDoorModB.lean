/- The reference's check of modules. -/
import Derived.Test.YtcdaalnjanncmaaDoorModA
import Derived.BigQuiet
namespace Go.Proofs.YtcdaalnjanncmaaDoor
open Go.RowKit Go.Lib

/-- Where the module before ends. -/
def prevM (l : List Md) : Nat → Int
  | 0 => 0
  | k + 1 => ((l[k]?).map Md.b).getD 0

set_option maxHeartbeats 4000000 in
set_option maxRecDepth 100000 in
theorem modulesFault_some (b off n c : Nat) (l : List Md) (w : World) (hl : l.length = n) (hn : n ≤ 100) (hb : b < w.heap.size) (hc : AtG encM 4 w b off l) (hf : ∀ f ∈ l, fitM f) :
    Calls Tryd.prog 24 #[.slice (some ⟨b, off, none⟩) n c] w fun e w' => e = .returned (.int .i64 (modsErr 0 l)) ∧ Below w.heap.size w w' := by
  have hd : decide (100 < (n : Int)) = false := decide_eq_false (by omega)
  go_enter Tryd.func24, Tryd.ntmps24
  go_wp2_with fail
  go_loopw [11] (fun v wr => ∃ k : Nat, k ≤ n ∧ v = .int .i64 k ∧ modsErr 0 l = modsErr (prevM l k) (l.drop k) ∧ Below w.heap.size w wr) (fun v _ => n - (RowKit.intOf v).toNat)
  case atStart => exact ⟨0, Nat.zero_le _, rfl, rfl, Below.refl _ _⟩
  case round =>
    obtain ⟨k, hk, rfl, heq, hbw⟩ := hrel
    have HEQ := Lib.hid heq
    clear heq
    by_cases hlt : k < n
    · have hkl : k < l.length := by omega
      have HD := Lib.hid (List.drop_eq_getElem_cons hkl)
      obtain ⟨c0, c1', c2', c3'⟩ := hc.mod hkl
      have c0 := (hbw.cell (p := ⟨b, _, none⟩) hb).trans c0
      have c1' := (hbw.cell (p := ⟨b, _, none⟩) hb).trans c1'
      have c2' := (hbw.cell (p := ⟨b, _, none⟩) hb).trans c2'
      have c3' := (hbw.cell (p := ⟨b, _, none⟩) hb).trans c3'
      have hfs := hf _ (List.getElem_mem hkl)
      have HPV := Lib.hid (show prevM l (k + 1) = (l[k]).b by show ((l[k]?).map Md.b).getD 0 = _; rw [List.getElem?_eq_getElem hkl]; rfl)
      generalize l[k] = f at *
      obtain ⟨s, sid, fa, fb⟩ := f
      simp only at c0 c1' c2' c3'
      have H19 := Lib.hid (fun W => frameFault_any s fB noB W hfs.1 (by unfold fitS; decide) (by unfold fitS; decide))
      have H26 := Lib.hid (fun W => Tryd.strings_Contains_one s 33 W)
      have H17 := Lib.hid (fun W => digits16_any sid W hfs.2.1)
      have H18 := Lib.hid (fun W => outB_any fa 0 281474976710655 W)
      have HH := Lib.hid (fun v (h : modsErr (prevM l k) (⟨s, sid, fa, fb⟩ :: l.drop (k + 1)) = v) => (show modsErr 0 l = v by rw [HEQ.out, HD.out]; exact h))
      clear HEQ HD hfs
      unfold noB fB at H19
      by_cases h0 : s.size = 0
      · have he : (s.toList == ([] : List UInt8)) = true := by rw [eq_empty]; simp [h0]
        have HR := Lib.hid (show modsErr 0 l = 1 from HH.out _ (by rw [modsErr_name (by show modErr s ≠ 0; rw [modErr_empty h0]; omega)]; exact modErr_empty h0))
        clear h0 HH H19 H26 H17 H18
        have hbw1 := hbw.alloc hbw.size (.cells #[.string s, .string sid, .int .i64 fa, .int .i64 fb] 77)
        go_wp2_with fail
        go_ret
        exact ⟨ret_int HR.out.symm, hbw1⟩
      · have he : (s.toList == ([] : List UInt8)) = false := by rw [eq_empty]; simp [h0]
        have HME := Lib.hid (show modErr s = if frErr ⟨s, ⟨#[102]⟩, ⟨#[]⟩, 0, -1, false⟩ ≠ 0 then frErr ⟨s, ⟨#[102]⟩, ⟨#[]⟩, 0, -1, false⟩ else if decide (0 ≤ Lib.indexByte s.data.toList 33) = true then 9 else 0 by unfold modErr; rw [if_neg h0]; rfl)
        clear h0
        generalize frErr ⟨s, ⟨#[102]⟩, ⟨#[]⟩, 0, -1, false⟩ = E at *
        generalize decide (0 ≤ Lib.indexByte s.data.toList 33) = bg at *
        by_cases hz : E = 0
        · subst hz
          rw [if_neg (by omega)] at HME
          cases bg
          · have hme : modErr s = 0 := HME.out
            clear HME
            cases hid : isIdB sid
            · have HR := Lib.hid (HH.out _ (modsErr_id hme hid))
              rw [hid] at H17
              clear hme hid HH H18
              go_wp2_with (first | (go_at_call 47; with_reducible refine (H19.out _).mono ?_; rintro e' w1 ⟨rfl, hb1⟩; have hbw1 := below_a1 hbw hbw.size hb1; have f0 : w1.cell? ⟨wr.heap.size, 0, none⟩ = some (.string s) := (hb1.cell (p := ⟨wr.heap.size, 0, none⟩) (by simp)).trans (by go_simp); have f1 : w1.cell? ⟨wr.heap.size, 1, none⟩ = some (.string sid) := (hb1.cell (p := ⟨wr.heap.size, 1, none⟩) (by simp)).trans (by go_simp); have f2 : w1.cell? ⟨wr.heap.size, 2, none⟩ = some (.int .i64 fa) := (hb1.cell (p := ⟨wr.heap.size, 2, none⟩) (by simp)).trans (by go_simp); have f3 : w1.cell? ⟨wr.heap.size, 3, none⟩ = some (.int .i64 fb) := (hb1.cell (p := ⟨wr.heap.size, 3, none⟩) (by simp)).trans (by go_simp)) | (go_at_call 49; with_reducible refine (H26.out _).mono ?_; rintro e' w2 ⟨rfl, rfl⟩) | (go_at_call 50; with_reducible refine (H17.out _).mono ?_; rintro e' w3 ⟨rfl, hb3⟩; have hbw3 := below_call hbw1 hbw1.size hb3; have g2 := cell_keepA f2 hb3; have g3 := cell_keepA f3 hb3))
              go_ret
              exact ⟨ret_int HR.out.symm, hbw3⟩
            · rw [hid] at H17
              obtain ⟨q1, hq1⟩ : ∃ q, outB fa 0 281474976710655 = q := ⟨_, rfl⟩
              rw [hq1] at H18
              by_cases hsp : spanOk fa fb 281474976710656
              · have hpos : ¬ fa < 0 := by unfold spanOk at hsp; omega
                have hq : q1 = false := by
                  rcases outB_iff hq1 with ⟨_, o1⟩ | ⟨h, _⟩
                  · unfold spanOk at hsp; omega
                  · exact h
                subst hq
                have r1 : decide (fb ≤ fa) = false := decide_eq_false (by unfold spanOk at hsp; omega)
                have r2 : decide (281474976710656 < fb) = false := decide_eq_false (by unfold spanOk at hsp; omega)
                clear hq1
                have HOR := Lib.hid (fun h => HH.out _ (modsErr_order hme hid hsp h))
                have HNX := Lib.hid (fun h => HH.out _ (modsErr_next hme hid hsp h))
                clear hme hid hsp HH
                cases k with
                | zero =>
                  have HR := Lib.hid (HNX.out hpos)
                  clear HOR HNX hpos
                  simp only [Nat.zero_mul, Nat.add_zero] at c0 c1' c2' c3'
                  go_wp2_with (first | (go_at_call 47; with_reducible refine (H19.out _).mono ?_; rintro e' w1 ⟨rfl, hb1⟩; have hbw1 := below_a1 hbw hbw.size hb1; have f0 : w1.cell? ⟨wr.heap.size, 0, none⟩ = some (.string s) := (hb1.cell (p := ⟨wr.heap.size, 0, none⟩) (by simp)).trans (by go_simp); have f1 : w1.cell? ⟨wr.heap.size, 1, none⟩ = some (.string sid) := (hb1.cell (p := ⟨wr.heap.size, 1, none⟩) (by simp)).trans (by go_simp); have f2 : w1.cell? ⟨wr.heap.size, 2, none⟩ = some (.int .i64 fa) := (hb1.cell (p := ⟨wr.heap.size, 2, none⟩) (by simp)).trans (by go_simp); have f3 : w1.cell? ⟨wr.heap.size, 3, none⟩ = some (.int .i64 fb) := (hb1.cell (p := ⟨wr.heap.size, 3, none⟩) (by simp)).trans (by go_simp)) | (go_at_call 49; with_reducible refine (H26.out _).mono ?_; rintro e' w2 ⟨rfl, rfl⟩) | (go_at_call 50; with_reducible refine (H17.out _).mono ?_; rintro e' w3 ⟨rfl, hb3⟩; have hbw3 := below_call hbw1 hbw1.size hb3; have g2 := cell_keepA f2 hb3; have g3 := cell_keepA f3 hb3) | (go_at_call 48; with_reducible refine (H18.out _).mono ?_; rintro e' w4 ⟨rfl, rfl⟩))
                  go_quiet (fail)
                  go_wp2_with fail
                  exact ⟨⟨1, by omega, rfl, by rw [HPV.out]; exact HR.out, below_drewN hbw3 _⟩, by simp [RowKit.intOf]; omega⟩
                | succ j =>
                  obtain ⟨_, _, _, qb⟩ := hc.mod (show j < l.length by omega)
                  have HPJ := Lib.hid (show prevM l (j + 1) = (l[j]).b by show ((l[j]?).map Md.b).getD 0 = _; rw [List.getElem?_eq_getElem (by omega)]; rfl)
                  generalize l[j] = g at *
                  obtain ⟨_, _, _, pb⟩ := g
                  simp only at qb
                  have hjz : (j : Int) < (n : Int) := by omega
                  have hkp : decide ((0 : Int) < ((j : Int) + 1)) = true := by simp
                  by_cases ho : fa < pb
                  · have HR := Lib.hid (HOR.out (by rw [HPJ.out]; exact ho))
                    clear HOR HNX hpos
                    go_wp2_with (first | (go_at_call 47; with_reducible refine (H19.out _).mono ?_; rintro e' w1 ⟨rfl, hb1⟩; have hbw1 := below_a1 hbw hbw.size hb1; have f0 : w1.cell? ⟨wr.heap.size, 0, none⟩ = some (.string s) := (hb1.cell (p := ⟨wr.heap.size, 0, none⟩) (by simp)).trans (by go_simp); have f1 : w1.cell? ⟨wr.heap.size, 1, none⟩ = some (.string sid) := (hb1.cell (p := ⟨wr.heap.size, 1, none⟩) (by simp)).trans (by go_simp); have f2 : w1.cell? ⟨wr.heap.size, 2, none⟩ = some (.int .i64 fa) := (hb1.cell (p := ⟨wr.heap.size, 2, none⟩) (by simp)).trans (by go_simp); have f3 : w1.cell? ⟨wr.heap.size, 3, none⟩ = some (.int .i64 fb) := (hb1.cell (p := ⟨wr.heap.size, 3, none⟩) (by simp)).trans (by go_simp)) | (go_at_call 49; with_reducible refine (H26.out _).mono ?_; rintro e' w2 ⟨rfl, rfl⟩) | (go_at_call 50; with_reducible refine (H17.out _).mono ?_; rintro e' w3 ⟨rfl, hb3⟩; have hbw3 := below_call hbw1 hbw1.size hb3; have g2 := cell_keepA f2 hb3; have g3 := cell_keepA f3 hb3; have pv := (hbw3.cell (p := ⟨b, _, none⟩) hb).trans qb) | (go_at_call 48; with_reducible refine (H18.out _).mono ?_; rintro e' w4 ⟨rfl, rfl⟩))
                    go_quiet (fail)
                    go_wp2_with fail
                    go_ret
                    exact ⟨ret_int HR.out.symm, below_drewN hbw3 _⟩
                  · have HR := Lib.hid (HNX.out (by rw [HPJ.out]; exact ho))
                    clear HOR HNX hpos
                    go_wp2_with (first | (go_at_call 47; with_reducible refine (H19.out _).mono ?_; rintro e' w1 ⟨rfl, hb1⟩; have hbw1 := below_a1 hbw hbw.size hb1; have f0 : w1.cell? ⟨wr.heap.size, 0, none⟩ = some (.string s) := (hb1.cell (p := ⟨wr.heap.size, 0, none⟩) (by simp)).trans (by go_simp); have f1 : w1.cell? ⟨wr.heap.size, 1, none⟩ = some (.string sid) := (hb1.cell (p := ⟨wr.heap.size, 1, none⟩) (by simp)).trans (by go_simp); have f2 : w1.cell? ⟨wr.heap.size, 2, none⟩ = some (.int .i64 fa) := (hb1.cell (p := ⟨wr.heap.size, 2, none⟩) (by simp)).trans (by go_simp); have f3 : w1.cell? ⟨wr.heap.size, 3, none⟩ = some (.int .i64 fb) := (hb1.cell (p := ⟨wr.heap.size, 3, none⟩) (by simp)).trans (by go_simp)) | (go_at_call 49; with_reducible refine (H26.out _).mono ?_; rintro e' w2 ⟨rfl, rfl⟩) | (go_at_call 50; with_reducible refine (H17.out _).mono ?_; rintro e' w3 ⟨rfl, hb3⟩; have hbw3 := below_call hbw1 hbw1.size hb3; have g2 := cell_keepA f2 hb3; have g3 := cell_keepA f3 hb3; have pv := (hbw3.cell (p := ⟨b, _, none⟩) hb).trans qb) | (go_at_call 48; with_reducible refine (H18.out _).mono ?_; rintro e' w4 ⟨rfl, rfl⟩))
                    go_quiet (fail)
                    go_wp2_with fail
                    exact ⟨⟨j + 1 + 1, by omega, by go_num, by rw [HPV.out]; exact HR.out, below_drewN hbw3 _⟩, by simp [RowKit.intOf]; omega⟩
              · have HR := Lib.hid (HH.out _ (modsErr_span hme hid hsp))
                rcases outB_iff hq1 with ⟨rfl, o1⟩ | ⟨rfl, o1⟩
                · clear hme hid hsp HH hq1 o1
                  go_wp2_with (first | (go_at_call 47; with_reducible refine (H19.out _).mono ?_; rintro e' w1 ⟨rfl, hb1⟩; have hbw1 := below_a1 hbw hbw.size hb1; have f0 : w1.cell? ⟨wr.heap.size, 0, none⟩ = some (.string s) := (hb1.cell (p := ⟨wr.heap.size, 0, none⟩) (by simp)).trans (by go_simp); have f1 : w1.cell? ⟨wr.heap.size, 1, none⟩ = some (.string sid) := (hb1.cell (p := ⟨wr.heap.size, 1, none⟩) (by simp)).trans (by go_simp); have f2 : w1.cell? ⟨wr.heap.size, 2, none⟩ = some (.int .i64 fa) := (hb1.cell (p := ⟨wr.heap.size, 2, none⟩) (by simp)).trans (by go_simp); have f3 : w1.cell? ⟨wr.heap.size, 3, none⟩ = some (.int .i64 fb) := (hb1.cell (p := ⟨wr.heap.size, 3, none⟩) (by simp)).trans (by go_simp)) | (go_at_call 49; with_reducible refine (H26.out _).mono ?_; rintro e' w2 ⟨rfl, rfl⟩) | (go_at_call 50; with_reducible refine (H17.out _).mono ?_; rintro e' w3 ⟨rfl, hb3⟩; have hbw3 := below_call hbw1 hbw1.size hb3; have g2 := cell_keepA f2 hb3; have g3 := cell_keepA f3 hb3) | (go_at_call 48; with_reducible refine (H18.out _).mono ?_; rintro e' w4 ⟨rfl, rfl⟩))
                  go_ret
                  exact ⟨ret_int HR.out.symm, hbw3⟩
                · by_cases h1 : fb ≤ fa
                  · have r1 : decide (fb ≤ fa) = true := decide_eq_true h1
                    clear hme hid hsp HH hq1 o1 h1
                    go_wp2_with (first | (go_at_call 47; with_reducible refine (H19.out _).mono ?_; rintro e' w1 ⟨rfl, hb1⟩; have hbw1 := below_a1 hbw hbw.size hb1; have f0 : w1.cell? ⟨wr.heap.size, 0, none⟩ = some (.string s) := (hb1.cell (p := ⟨wr.heap.size, 0, none⟩) (by simp)).trans (by go_simp); have f1 : w1.cell? ⟨wr.heap.size, 1, none⟩ = some (.string sid) := (hb1.cell (p := ⟨wr.heap.size, 1, none⟩) (by simp)).trans (by go_simp); have f2 : w1.cell? ⟨wr.heap.size, 2, none⟩ = some (.int .i64 fa) := (hb1.cell (p := ⟨wr.heap.size, 2, none⟩) (by simp)).trans (by go_simp); have f3 : w1.cell? ⟨wr.heap.size, 3, none⟩ = some (.int .i64 fb) := (hb1.cell (p := ⟨wr.heap.size, 3, none⟩) (by simp)).trans (by go_simp)) | (go_at_call 49; with_reducible refine (H26.out _).mono ?_; rintro e' w2 ⟨rfl, rfl⟩) | (go_at_call 50; with_reducible refine (H17.out _).mono ?_; rintro e' w3 ⟨rfl, hb3⟩; have hbw3 := below_call hbw1 hbw1.size hb3; have g2 := cell_keepA f2 hb3; have g3 := cell_keepA f3 hb3) | (go_at_call 48; with_reducible refine (H18.out _).mono ?_; rintro e' w4 ⟨rfl, rfl⟩))
                    go_ret
                    exact ⟨ret_int HR.out.symm, hbw3⟩
                  · have r1 : decide (fb ≤ fa) = false := decide_eq_false h1
                    have r2 : decide (281474976710656 < fb) = true := decide_eq_true (by unfold spanOk at hsp; omega)
                    clear hme hid hsp HH hq1 o1 h1
                    go_wp2_with (first | (go_at_call 47; with_reducible refine (H19.out _).mono ?_; rintro e' w1 ⟨rfl, hb1⟩; have hbw1 := below_a1 hbw hbw.size hb1; have f0 : w1.cell? ⟨wr.heap.size, 0, none⟩ = some (.string s) := (hb1.cell (p := ⟨wr.heap.size, 0, none⟩) (by simp)).trans (by go_simp); have f1 : w1.cell? ⟨wr.heap.size, 1, none⟩ = some (.string sid) := (hb1.cell (p := ⟨wr.heap.size, 1, none⟩) (by simp)).trans (by go_simp); have f2 : w1.cell? ⟨wr.heap.size, 2, none⟩ = some (.int .i64 fa) := (hb1.cell (p := ⟨wr.heap.size, 2, none⟩) (by simp)).trans (by go_simp); have f3 : w1.cell? ⟨wr.heap.size, 3, none⟩ = some (.int .i64 fb) := (hb1.cell (p := ⟨wr.heap.size, 3, none⟩) (by simp)).trans (by go_simp)) | (go_at_call 49; with_reducible refine (H26.out _).mono ?_; rintro e' w2 ⟨rfl, rfl⟩) | (go_at_call 50; with_reducible refine (H17.out _).mono ?_; rintro e' w3 ⟨rfl, hb3⟩; have hbw3 := below_call hbw1 hbw1.size hb3; have g2 := cell_keepA f2 hb3; have g3 := cell_keepA f3 hb3) | (go_at_call 48; with_reducible refine (H18.out _).mono ?_; rintro e' w4 ⟨rfl, rfl⟩))
                    go_ret
                    exact ⟨ret_int HR.out.symm, hbw3⟩
          · have HR := Lib.hid (show modsErr 0 l = 9 from HH.out _ (by have hm : modErr s = 9 := HME.out; rw [modsErr_name (by show modErr s ≠ 0; rw [hm]; omega)]; exact hm))
            clear HH HME H17 H18
            go_wp2_with (first | (go_at_call 47; with_reducible refine (H19.out _).mono ?_; rintro e' w1 ⟨rfl, hb1⟩; have hbw1 := below_a1 hbw hbw.size hb1; have f0 : w1.cell? ⟨wr.heap.size, 0, none⟩ = some (.string s) := (hb1.cell (p := ⟨wr.heap.size, 0, none⟩) (by simp)).trans (by go_simp); have f1 : w1.cell? ⟨wr.heap.size, 1, none⟩ = some (.string sid) := (hb1.cell (p := ⟨wr.heap.size, 1, none⟩) (by simp)).trans (by go_simp); have f2 : w1.cell? ⟨wr.heap.size, 2, none⟩ = some (.int .i64 fa) := (hb1.cell (p := ⟨wr.heap.size, 2, none⟩) (by simp)).trans (by go_simp); have f3 : w1.cell? ⟨wr.heap.size, 3, none⟩ = some (.int .i64 fb) := (hb1.cell (p := ⟨wr.heap.size, 3, none⟩) (by simp)).trans (by go_simp)) | (go_at_call 49; with_reducible refine (H26.out _).mono ?_; rintro e' w2 ⟨rfl, rfl⟩))
            go_ret
            exact ⟨ret_int HR.out.symm, hbw1⟩
        · rw [if_pos hz] at HME
          have hq : (E != 0) = true := by simpa using hz
          have HR := Lib.hid (show modsErr 0 l = E from HH.out _ (by rw [modsErr_name (by show modErr s ≠ 0; rw [HME.out]; exact hz)]; exact HME.out))
          clear hz HH HME H17 H18 H26
          go_wp2_with (first | (go_at_call 47; with_reducible refine (H19.out _).mono ?_; rintro e' w1 ⟨rfl, hb1⟩; have hbw1 := below_a1 hbw hbw.size hb1; have f0 : w1.cell? ⟨wr.heap.size, 0, none⟩ = some (.string s) := (hb1.cell (p := ⟨wr.heap.size, 0, none⟩) (by simp)).trans (by go_simp); have f1 : w1.cell? ⟨wr.heap.size, 1, none⟩ = some (.string sid) := (hb1.cell (p := ⟨wr.heap.size, 1, none⟩) (by simp)).trans (by go_simp); have f2 : w1.cell? ⟨wr.heap.size, 2, none⟩ = some (.int .i64 fa) := (hb1.cell (p := ⟨wr.heap.size, 2, none⟩) (by simp)).trans (by go_simp); have f3 : w1.cell? ⟨wr.heap.size, 3, none⟩ = some (.int .i64 fb) := (hb1.cell (p := ⟨wr.heap.size, 3, none⟩) (by simp)).trans (by go_simp)))
          go_ret
          exact ⟨ret_int HR.out.symm, hbw1⟩
    · have HR := Lib.hid (show modsErr 0 l = 0 by rw [HEQ.out, List.drop_of_length_le (by omega)]; rfl)
      go_wp2_with fail
      go_ret
      exact ⟨ret_int HR.out.symm, hbw⟩
end Go.Proofs.YtcdaalnjanncmaaDoor

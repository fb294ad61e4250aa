/- What the reference RulesError answers. -/
import Derived.Test.YtooilpblbkgloaaDoorRuleB
namespace Go.Proofs.YtooilpblbkgloaaDoor
open Go.RowKit Go.Lib

theorem in_of {n a b : Int} {x : Bool} (h : decide (a ≤ n ∧ n ≤ b) = x) (W : World) : Calls Tryd.prog 23 #[.int .i64 n, .int .i64 a, .int .i64 b] W fun e w' => e = .returned (.bool x) ∧ w' = W := by
  rw [← h]; exact in_any n a b W
theorem prs_of {s : ByteArray} {x : Bool} (h : prs s = x) (hs : fitS s) (W : World) : Calls Tryd.prog 24 #[.string s] W fun e w' => e = .returned (.bool x) ∧ w' = W := by
  rw [← h]; exact plainBytes_any s W hs
theorem aErr_eq (d n : Int) (t : ByteArray) : aErr ⟨d, n, t⟩ = if d < 1 ∨ 6 < d then 10 else if (n ≠ 0 ∧ d ≠ 5) ∨ (t.size ≠ 0 ∧ d ≠ 6) then 1
    else if d = 5 ∧ (n < 1 ∨ 200 < n) then 2 else if d = 6 ∧ t.size = 0 then 1 else if 100 < t.size then 4 else if prs t = false then 9 else 0 := rfl
theorem mErr_eq (on : Int) (nt : Bool) (gl : ByteArray) : mErr ⟨on, nt, gl⟩ = if on < 1 ∨ 6 < on then 10 else if on = 6 ∧ gl.size ≠ 0 then 1 else if 100 < gl.size then 4 else if prs gl = false then 9 else 0 := rfl

set_option maxHeartbeats 8000000 in
set_option maxRecDepth 100000 in
theorem rulesError_any (v : Value) (l : List Ru) (w : World) (h : RsV w v l) :
    Calls Tryd.prog 11 #[v] w fun e w' => e = .returned (.int .i64 (rulesErr l)) ∧ Below w.heap.size w w' := by
  obtain ⟨p, c, rfl, hn, hm, h1⟩ := h
  unfold maxLen at hm
  have HE := Lib.hid (show rulesErr l = if 100 < l.length then 4 else rusErr l from rfl)
  by_cases hl : 100 < l.length
  · rw [if_pos hl] at HE
    rw [HE.out]
    go_enter Tryd.func11, Tryd.ntmps11
    go_wp2_with fail
    go_ret
    exact ⟨rfl, Below.refl _ _⟩
  · rw [if_neg hl] at HE
    obtain ⟨n, e1⟩ : ∃ n, n = l.length := ⟨_, rfl⟩
    rw [← e1] at hn hl
    rw [← e1]
    have E1 := Lib.hid e1
    have H1 := Lib.hid h1
    clear e1 h1
    go_enter Tryd.func11, Tryd.ntmps11
    go_wp2_with fail
    go_loopw [14] (fun v wr => ∃ k : Nat, v = .int .i64 k ∧ k ≤ n ∧ rusErr l = rusErr (l.drop k) ∧ Below w.heap.size w wr) (fun v _ => n - (RowKit.intOf v).toNat)
    case atStart => exact ⟨0, rfl, Nat.zero_le _, rfl, Below.refl _ _⟩
    case round =>
      obtain ⟨wo, rfl⟩ : ∃ wo : World, wo = wr := ⟨_, rfl⟩
      obtain ⟨k, rfl, hk, heq, hbw⟩ := hrel
      have HEQ := Lib.hid heq
      clear heq
      by_cases hlt : k < n
      · have hkl : k < l.length := by rw [← E1.out]; exact hlt
        obtain ⟨b, off, rfl, hb, hc⟩ : ∃ b off, p = some ⟨b, off, none⟩ ∧ b < w.heap.size ∧ ∀ i (h : i < l.length), ∃ v1 v2, w.cell? ⟨b, off + i * 2, none⟩ = some v1 ∧ w.cell? ⟨b, off + i * 2 + 1, none⟩ = some v2 ∧ RuV w v1 v2 l[i] := by
          rcases H1.out with h | h
          · rw [h] at hkl; simp at hkl
          · exact h
        obtain ⟨v1, v2, q0, q1, hr⟩ := hc k hkl
        have q0 := (hbw.cell (p := ⟨b, _, none⟩) hb).trans q0
        have q1 := (hbw.cell (p := ⟨b, _, none⟩) hb).trans q1
        have HD := Lib.hid (List.drop_eq_getElem_cons hkl)
        clear hc
        generalize l[k] = r at *
        obtain ⟨ms, ts⟩ := r
        obtain ⟨⟨p1, c1, rfl, hn1, hm1, hf1, g1⟩, ⟨p2, c2, rfl, hn2, hm2, hf2, g2⟩⟩ := hr
        simp only at hn1 hn2 hf1 hf2 g1 g2 q0 q1
        unfold maxLen at hm1 hm2
        have HBAD := Lib.hid (show ∀ c, ruErr ⟨ms, ts⟩ = c → c ≠ 0 → rulesErr l = c from fun c h1 h2 => by rw [HE.out, HEQ.out, HD.out, rusErr_bad (by rw [h1]; exact h2), h1])
        have HNEXT := Lib.hid (show ruErr ⟨ms, ts⟩ = 0 → rusErr l = rusErr (l.drop (k + 1)) from fun h1 => by rw [HEQ.out, HD.out, rusErr_next h1])
        have HU := Lib.hid (show ruErr ⟨ms, ts⟩ = if 8 < ms.length ∨ 8 < ts.length then 4 else if ts = [] then 7 else if msErr ms ≠ 0 then msErr ms else asErr ts from rfl)
        have G1 := Lib.hid g1
        have G2 := Lib.hid g2
        clear g1 g2
        by_cases hl1 : 8 < ms.length
        · have hd1 : decide ((8 : Int) < (ms.length : Int)) = true := by simp; omega
          have HV := Lib.hid (HBAD.out 4 (by rw [HU.out, if_pos (Or.inl hl1)]) (by decide))
          go_wp2_with fail
          go_ret
          exact ⟨ret_int HV.out.symm, hbw.alloc hbw.size _⟩
        · have hd1 : decide ((8 : Int) < (ms.length : Int)) = false := by simp; omega
          by_cases hl2 : 8 < ts.length
          · have hd2 : decide ((8 : Int) < (ts.length : Int)) = true := by simp; omega
            have HV := Lib.hid (HBAD.out 4 (by rw [HU.out, if_pos (Or.inr hl2)]) (by decide))
            go_wp2_with fail
            go_ret
            exact ⟨ret_int HV.out.symm, hbw.alloc hbw.size _⟩
          · have hd2 : decide ((8 : Int) < (ts.length : Int)) = false := by simp; omega
            rw [if_neg (by omega)] at HU
            by_cases h0 : ts = []
            · subst h0
              have HV := Lib.hid (HBAD.out 7 (by rw [HU.out, if_pos rfl]) (by decide))
              simp only [List.length_nil] at *
              go_wp2_with fail
              go_ret
              exact ⟨ret_int HV.out.symm, hbw.alloc hbw.size _⟩
            · rw [if_neg h0] at HU
              have hl3 : 0 < ts.length := List.length_pos_iff.2 h0
              have hz : ((ts.length : Int) == 0) = false := by rw [beq_eq_false_iff_ne]; omega
              clear h0
              obtain ⟨n1, e1⟩ : ∃ n, n = ms.length := ⟨_, rfl⟩
              obtain ⟨n2, e2⟩ : ∃ n, n = ts.length := ⟨_, rfl⟩
              rw [← e1] at hl1 hn1 hd1 q0
              rw [← e2] at hl2 hl3 hz hn2 hd2 q1
              have M1 := Lib.hid e1
              have M2 := Lib.hid e2
              clear e1 e2
              have hbo := Lib.hid (hbw.alloc hbw.size (.cells #[.slice p1 n1 c1, .slice p2 n2 c2] 50))
              go_wp2_with fail
              go_loopw [35] (fun v wi => ∃ j : Nat, v = .int .i64 j ∧ j ≤ n1 ∧ msErr ms = msErr (ms.drop j) ∧ wi.cell? ⟨wo.heap.size, 1, none⟩ = some (.slice p2 n2 c2) ∧ wo.heap.size < wi.heap.size ∧ Below w.heap.size w wi) (fun v _ => n1 - (RowKit.intOf v).toNat)
              case atStart => exact ⟨0, rfl, Nat.zero_le _, rfl, by go_simp, by simp, hbo.out⟩
              clear hbo
              obtain ⟨j, rfl, hj, heq2, hbox, hsz, hbi⟩ := hrel
              have HEQ2 := Lib.hid heq2
              clear heq2
              by_cases hlj : j < n1
              · have hjl : j < ms.length := by rw [← M1.out]; exact hlj
                obtain ⟨b', off', rfl, hb', hc'⟩ : ∃ b off, p1 = some ⟨b, off, none⟩ ∧ b < w.heap.size ∧ AtG encM 3 w b off ms := by
                  rcases G1.out with h | h
                  · rw [h] at hjl; simp at hjl
                  · exact h
                obtain ⟨r0, r1, r2⟩ := hc'.mat hjl
                have r0 := (hbi.cell (p := ⟨b', _, none⟩) hb').trans r0
                have r1 := (hbi.cell (p := ⟨b', _, none⟩) hb').trans r1
                have r2 := (hbi.cell (p := ⟨b', _, none⟩) hb').trans r2
                have HD2 := Lib.hid (List.drop_eq_getElem_cons hjl)
                have hfs := hf1 _ (List.getElem_mem hjl)
                clear hc'
                generalize ms[j] = m at *
                have HX := Lib.hid (show ∀ x, (wr.alloc x).cell? ⟨wo.heap.size, 1, none⟩ = some (.slice p2 n2 c2) from fun x => by rw [World.cell?_alloc_lt _ _ _ hsz]; exact hbox)
                have HB := Lib.hid (show ∀ c, mErr m = c → c ≠ 0 → rulesErr l = c from fun c h1 h2 => HBAD.out c (by
                  have : msErr ms = c := by rw [HEQ2.out, HD2.out, msErr_bad (by rw [h1]; exact h2), h1]
                  rw [HU.out, this, if_pos h2]) h2)
                have HN := Lib.hid (show mErr m = 0 → msErr ms = msErr (ms.drop (j + 1)) from fun h1 => by rw [HEQ2.out, HD2.out, msErr_next h1])
                have hba := Lib.hid (fun o => hbi.alloc hbi.size o)
                have hsa := Lib.hid (show ∀ o, wo.heap.size < (wr.alloc o).heap.size from fun o => by simp; omega)
                obtain ⟨on, nt, gl⟩ := m
                simp only at r0 r1 r2
                have hze := isEmpty_eq gl
                cases hin : decide (1 ≤ on ∧ on ≤ 6)
                all_goals
                  have HI := Lib.hid (fun W => in_of hin W)
                  have KI := Lib.hid hin
                  clear hin
                  cases h6 : (on == 6)
                  all_goals
                    have K6 := Lib.hid h6
                    cases h0 : decide (gl.size = 0)
                    all_goals
                      have K0 := Lib.hid h0
                      rw [h0] at hze
                      clear h0
                      cases hp : prs gl
                      all_goals
                        have HP := Lib.hid (fun W => prs_of hp hfs W)
                        have KP := Lib.hid hp
                        clear hp
                        go_wp2_with (first
                          | (go_at_call 23; (with_reducible refine (HI.out _).mono ?_); rintro e' w1 ⟨rfl, rfl⟩)
                          | (go_at_call 24; refine (HP.out _).mono ?_; rintro e' w1 ⟨rfl, rfl⟩))
                        all_goals
                          have e1 := KI.out
                          have e2 := K6.out
                          have e3 := K0.out
                          have e4 := KP.out
                          simp only [beq_iff_eq, beq_eq_false_iff_ne, decide_eq_true_eq, decide_eq_false_iff_not] at e1 e2 e3
                          first
                            | (go_ret
                               refine ⟨ret_int (HB.out _ ?_ (by decide)).symm, hba.out _⟩
                               rw [mErr_eq, e4]
                               (repeat' split) <;> first | rfl | omega | simp_all)
                            | (refine ⟨⟨j + 1, rfl, hlj, HN.out ?_, HX.out _, hsa.out _, hba.out _⟩, by simp [RowKit.intOf]; omega⟩
                               rw [mErr_eq, e4]
                               (repeat' split) <;> first | rfl | omega | simp_all)
              · have hms := Lib.hid (show msErr ms = 0 by rw [HEQ2.out, List.drop_of_length_le (by rw [← M1.out]; omega)]; rfl)
                have HU2 := Lib.hid (show ruErr ⟨ms, ts⟩ = asErr ts by rw [HU.out, hms.out]; rfl)
                clear HU HEQ2
                go_wp2_with fail
                go_loopw [67] (fun v wi => ∃ j : Nat, v = .int .i64 j ∧ j ≤ n2 ∧ asErr ts = asErr (ts.drop j) ∧ Below w.heap.size w wi) (fun v _ => n2 - (RowKit.intOf v).toNat)
                case atStart => exact ⟨0, rfl, Nat.zero_le _, rfl, hbi⟩
                clear hbox hsz hbi
                obtain ⟨i, rfl, hi, heq2, hbi⟩ := hrel
                have HEQ2 := Lib.hid heq2
                clear heq2
                by_cases hlj2 : i < n2
                · have hjl : i < ts.length := by rw [← M2.out]; exact hlj2
                  obtain ⟨b', off', rfl, hb', hc'⟩ : ∃ b off, p2 = some ⟨b, off, none⟩ ∧ b < w.heap.size ∧ AtG encA 3 w b off ts := by
                    rcases G2.out with h | h
                    · rw [h] at hjl; simp at hjl
                    · exact h
                  obtain ⟨r0, r1, r2⟩ := hc'.act hjl
                  have r0 := (hbi.cell (p := ⟨b', _, none⟩) hb').trans r0
                  have r1 := (hbi.cell (p := ⟨b', _, none⟩) hb').trans r1
                  have r2 := (hbi.cell (p := ⟨b', _, none⟩) hb').trans r2
                  have HD2 := Lib.hid (List.drop_eq_getElem_cons hjl)
                  have hfs := hf2 _ (List.getElem_mem hjl)
                  clear hc'
                  generalize ts[i] = m at *
                  have HB := Lib.hid (show ∀ c, aErr m = c → c ≠ 0 → rulesErr l = c from fun c h1 h2 => HBAD.out c (by
                    rw [HU2.out, HEQ2.out, HD2.out, asErr_bad (by rw [h1]; exact h2), h1]) h2)
                  have HN := Lib.hid (show aErr m = 0 → asErr ts = asErr (ts.drop (i + 1)) from fun h1 => by rw [HEQ2.out, HD2.out, asErr_next h1])
                  have hba := Lib.hid (fun o => hbi.alloc hbi.size o)
                  obtain ⟨d, nn, t⟩ := m
                  simp only at r0 r1 r2
                  have hze := isEmpty_eq t
                  have hze2 : (t.toList == ([] : List UInt8)) = decide (t.size = 0) := by rw [← isEmpty_eq]; cases t.toList <;> rfl
                  have hw5 : ∀ x, (d == 5) = x → (d != 5) = !x := fun x h => bne_of h
                  have hw6 : ∀ x, (d == 6) = x → (d != 6) = !x := fun x h => bne_of h
                  have hwn : ∀ x, (nn == 0) = x → (nn != 0) = !x := fun x h => bne_of h
                  cases hin : decide (1 ≤ d ∧ d ≤ 6)
                  all_goals
                    have HI := Lib.hid (fun W => in_of hin W)
                    have KI := Lib.hid hin
                    clear hin
                    cases h5 : (d == 5)
                    all_goals
                      have g5 := hw5 _ h5
                      cases h6 : (d == 6)
                      all_goals
                        have g6 := hw6 _ h6
                        cases hnn : (nn == 0)
                        all_goals
                          have gn := hwn _ hnn
                          have K5 := Lib.hid h5
                          have K6 := Lib.hid h6
                          have KN := Lib.hid hnn
                          cases h0 : decide (t.size = 0)
                          all_goals
                            have K0 := Lib.hid h0
                            rw [h0] at hze hze2
                            clear h0
                            cases hin2 : decide (1 ≤ nn ∧ nn ≤ 200)
                            all_goals
                              have HI2 := Lib.hid (fun W => in_of hin2 W)
                              have KI2 := Lib.hid hin2
                              clear hin2
                              cases hp : prs t
                              all_goals
                                have HP := Lib.hid (fun W => prs_of hp hfs W)
                                have KP := Lib.hid hp
                                clear hp hw5 hw6 hwn
                                first
                                  | (exfalso
                                     have e2 := K5.out
                                     have e3 := K6.out
                                     have e5 := KN.out
                                     have e6 := KI2.out
                                     have e7 := KI.out
                                     simp only [beq_iff_eq, beq_eq_false_iff_ne, decide_eq_true_eq, decide_eq_false_iff_not] at e2 e3 e5 e6 e7
                                     omega)
                                  | (go_wp2_with (first
                                       | (go_at_call 23; (with_reducible refine (HI.out _).mono ?_); rintro e' w1 ⟨rfl, rfl⟩)
                                       | (go_at_call 23; (with_reducible refine (HI2.out _).mono ?_); rintro e' w1 ⟨rfl, rfl⟩)
                                       | (go_at_call 24; refine (HP.out _).mono ?_; rintro e' w1 ⟨rfl, rfl⟩))
                                     all_goals
                                       have e7 := KI.out
                                       have e2 := K5.out
                                       have e3 := K6.out
                                       have e5 := KN.out
                                       have e6 := KI2.out
                                       have e8 := K0.out
                                       have e4 := KP.out
                                       simp only [beq_iff_eq, beq_eq_false_iff_ne, decide_eq_true_eq, decide_eq_false_iff_not] at e2 e3 e5 e6 e7 e8
                                       first
                                         | (go_ret
                                            refine ⟨ret_int (HB.out _ ?_ (by decide)).symm, hba.out _⟩
                                            rw [aErr_eq, e4]
                                            (repeat' split) <;> first | rfl | omega | simp_all)
                                         | (refine ⟨⟨i + 1, rfl, hlj2, HN.out ?_, hba.out _⟩, by simp [RowKit.intOf]; omega⟩
                                            rw [aErr_eq, e4]
                                            (repeat' split) <;> first | rfl | omega | simp_all))
                · have HR := Lib.hid (show rusErr l = rusErr (l.drop (k + 1)) from HNEXT.out (by
                    rw [HU2.out, HEQ2.out, List.drop_of_length_le (by rw [← M2.out]; omega)]; rfl))
                  go_wp2_with fail
                  exact ⟨⟨k + 1, rfl, hlt, HR.out, hbi⟩, by simp [RowKit.intOf]; omega⟩
      · have HR := Lib.hid (show rulesErr l = 0 by rw [HE.out, HEQ.out, List.drop_of_length_le (by rw [← E1.out]; omega)]; rfl)
        go_wp2_with fail
        go_ret
        exact ⟨ret_int HR.out.symm, hbw⟩
end Go.Proofs.YtooilpblbkgloaaDoor

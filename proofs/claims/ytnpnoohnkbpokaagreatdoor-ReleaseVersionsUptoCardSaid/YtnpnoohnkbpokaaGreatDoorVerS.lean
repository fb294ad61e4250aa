/- What the reference's VersionsCompare answers. -/
import Derived.Test.YtnpnoohnkbpokaaGreatDoorVerP
import Derived.Test.YtnpnoohnkbpokaaGreatDoorVerH
namespace Go.Proofs.YtnpnoohnkbpokaaGreatDoor
open Go.RowKit Go.Lib

theorem cmpL_lens {l m : List ByteArray} {k : Nat} (hl : k ≤ l.length) (hm : k ≤ m.length) (h : k = l.length ∨ k = m.length) : cmpL (l.drop k) (m.drop k) = cmpI l.length m.length := by
  unfold cmpI
  by_cases h1 : k < l.length
  · rw [cmpL_right h1 (by omega), if_neg (by omega), if_pos (by omega)]
  · by_cases h2 : k < m.length
    · rw [cmpL_left h1 h2, if_pos (by omega)]
    · rw [cmpL_both h1 h2, if_neg (by omega), if_neg (by omega)]

set_option maxHeartbeats 8000000 in
set_option maxRecDepth 100000 in
theorem VCompare_any (v u : Value) (x y : Vr) (w : World) (h1 : VrV w v x) (h2 : VrV w u y) :
    Calls Tryz.prog 8 #[v, u] w fun e w' => e = .returned (.int .i64 (cmpV x y)) ∧ Below w.heap.size w w' := by
  obtain ⟨p, rfl, hsl⟩ := h1
  obtain ⟨q, rfl, hsm⟩ := h2
  obtain ⟨a, cap, rfl, hl1, hl2, hf, hat⟩ := hsl
  obtain ⟨b, cup, rfl, hm1, hm2, hg, hbt⟩ := hsm
  obtain ⟨pj, ma, mi, pa, pre⟩ := x
  obtain ⟨qj, na, ni, qa, qre⟩ := y
  simp only at hl1 hl2 hf hat hm1 hm2 hg hbt ⊢
  unfold maxLen at hl2 hm2
  have HE := Lib.hid (show cmpV ⟨pj, ma, mi, pa, pre⟩ ⟨qj, na, ni, qa, qre⟩ = if fnz [cmpS pj qj, cmpI ma na, cmpI mi ni, cmpI pa qa] ≠ 0 then fnz [cmpS pj qj, cmpI ma na, cmpI mi ni, cmpI pa qa] else if pre = [] ∧ qre ≠ [] then 1 else if pre ≠ [] ∧ qre = [] then -1 else cmpL pre qre from rfl)
  rw [HE.out]
  have H1 := Lib.hid (fun W => cmpS_any pj qj W)
  have H2 := Lib.hid (fun W => cmpI_any ma na W)
  have H3 := Lib.hid (fun W => cmpI_any mi ni W)
  have H4 := Lib.hid (fun W => cmpI_any pa qa W)
  have HLL := Lib.hid (fun W => cmpI_any pre.length qre.length W)
  generalize cmpS pj qj = k1 at *
  generalize cmpI ma na = k2 at *
  generalize cmpI mi ni = k3 at *
  generalize cmpI pa qa = k4 at *
  clear HE
  have h4 := four (((w.alloc (.cells #[.string pj, .int .i64 ma, .int .i64 mi, .int .i64 pa, .slice a pre.length cap] 24)).alloc (.cells #[.string qj, .int .i64 na, .int .i64 ni, .int .i64 qa, .slice b qre.length cup] 24)).drewN 1) k1 k2 k3 k4 3
  have hsz : (((w.alloc (.cells #[.string pj, .int .i64 ma, .int .i64 mi, .int .i64 pa, .slice a pre.length cap] 24)).alloc (.cells #[.string qj, .int .i64 na, .int .i64 ni, .int .i64 qa, .slice b qre.length cup] 24)).drewN 1).heap.size = w.heap.size + 1 + 1 := by simp
  rw [hsz] at h4
  have HOr : Hid (Calls Tryz.prog 23 #[.slice (some ⟨w.heap.size + 1 + 1, 0, none⟩) 4 4] ((((w.alloc (.cells #[.string pj, .int .i64 ma, .int .i64 mi, .int .i64 pa, .slice a pre.length cap] 24)).alloc (.cells #[.string qj, .int .i64 na, .int .i64 ni, .int .i64 qa, .slice b qre.length cup] 24)).drewN 1).alloc (.cells #[.int .i64 k1, .int .i64 k2, .int .i64 k3, .int .i64 k4] 3)) fun e w' => e = .returned (.int .i64 (fnz [k1, k2, k3, k4])) ∧ w' = (((w.alloc (.cells #[.string pj, .int .i64 ma, .int .i64 mi, .int .i64 pa, .slice a pre.length cap] 24)).alloc (.cells #[.string qj, .int .i64 na, .int .i64 ni, .int .i64 qa, .slice b qre.length cup] 24)).drewN 1).alloc (.cells #[.int .i64 k1, .int .i64 k2, .int .i64 k3, .int .i64 k4] 3)) :=
    Lib.hid (or_any (w.heap.size + 1 + 1) [k1, k2, k3, k4] _ (by show 4 ≤ 100; decide) h4)
  have hb2 : Below w.heap.size w ((((w.alloc (.cells #[.string pj, .int .i64 ma, .int .i64 mi, .int .i64 pa, .slice a pre.length cap] 24)).alloc (.cells #[.string qj, .int .i64 na, .int .i64 ni, .int .i64 qa, .slice b qre.length cup] 24)).drewN 1).alloc (.cells #[.int .i64 k1, .int .i64 k2, .int .i64 k3, .int .i64 k4] 3)) := (below_drewE (((Below.refl _ _).alloc (Nat.le_refl _) _).alloc (by simp) _) 1).alloc (by rw [hsz]; omega) _
  have HB2 := Lib.hid hb2
  generalize fnz [k1, k2, k3, k4] = F at *
  clear h4 hsz hb2
  obtain ⟨R, hR⟩ : ∃ R : Int, R = if F ≠ 0 then F else if pre = [] ∧ qre ≠ [] then 1 else if pre ≠ [] ∧ qre = [] then -1 else cmpL pre qre := ⟨_, rfl⟩
  rw [← hR]
  have HR := Lib.hid hR
  clear hR
  by_cases hF : F = 0
  · subst hF
    by_cases hp : pre = []
    · by_cases hq : qre = []
      · have pe : ((pre.length : Int) == 0) = true := by rw [hp]; rfl
        have pn : (pre.length == 0) = true := by rw [hp]; rfl
        have qe : ((qre.length : Int) == 0) = true := by rw [hq]; rfl
        have qn : (qre.length == 0) = true := by rw [hq]; rfl
        have HQ := Lib.hid (show R = cmpL pre qre by rw [HR.out]; simp [hp, hq])
        clear hp hq HR
        by_cases hmn : qre.length < pre.length
        · have mnI : decide ((qre.length : Int) < (pre.length : Int)) = true := by simp; omega
          have mnN : decide (qre.length < pre.length) = true := by simp; omega
          have s1 : ((((w.alloc (.cells #[.string pj, .int .i64 ma, .int .i64 mi, .int .i64 pa, .slice a pre.length cap] 24)).alloc (.cells #[.string qj, .int .i64 na, .int .i64 ni, .int .i64 qa, .slice b qre.length cup] 24)).drewN 1).alloc (.cells #[.int .i64 k1, .int .i64 k2, .int .i64 k3, .int .i64 k4] 3)).cell? ⟨w.heap.size, 4, none⟩ = some (.slice a pre.length cap) := by go_simp
          have s2 : ((((w.alloc (.cells #[.string pj, .int .i64 ma, .int .i64 mi, .int .i64 pa, .slice a pre.length cap] 24)).alloc (.cells #[.string qj, .int .i64 na, .int .i64 ni, .int .i64 qa, .slice b qre.length cup] 24)).drewN 1).alloc (.cells #[.int .i64 k1, .int .i64 k2, .int .i64 k3, .int .i64 k4] 3)).cell? ⟨w.heap.size + 1, 4, none⟩ = some (.slice b qre.length cup) := by go_simp
          have HS1 := Lib.hid s1
          have HS2 := Lib.hid s2
          clear s1 s2
          go_enter Tryz.func8, Tryz.ntmps8
          go_upto_region 1 with fail
          refine wp_region_quiet_tail 20 (by kernel_rfl) (by kernel_rfl) ?_
          simp only [List.take_succ_cons, List.take_zero, List.drop_succ_cons, List.drop_zero]
          repeat (first
            | go_big_quiet_step (fail)
            | (go_big_quiet_want; go_big_quiet_op; (with_reducible refine ⟨_, H1.out _, ?_⟩); go_big_quiet_on)
            | (go_big_quiet_want; go_big_quiet_op; (with_reducible refine ⟨_, H2.out _, ?_⟩); go_big_quiet_on)
            | (go_big_quiet_want; go_big_quiet_op; (with_reducible refine ⟨_, H3.out _, ?_⟩); go_big_quiet_on)
            | (go_big_quiet_want; go_big_quiet_op; (with_reducible refine ⟨_, H4.out _, ?_⟩); go_big_quiet_on))
          refine wpQuiet_nil ?_
          go_wp2_with (first
            | (go_at_call 23; (with_reducible refine HOr.out.mono ?_); rintro e w5 ⟨rfl, rfl⟩))
          go_loopw [57] (fun v wr => ∃ k : Nat, v = .int .i64 k ∧ k ≤ qre.length ∧ cmpL (pre.drop k) (qre.drop k) = R ∧ wr.cell? ⟨w.heap.size, 4, none⟩ = some (.slice a pre.length cap) ∧ wr.cell? ⟨w.heap.size + 1, 4, none⟩ = some (.slice b qre.length cup) ∧ Below w.heap.size w wr) (fun v _ => qre.length - (RowKit.intOf v).toNat)
          case atStart => exact ⟨0, rfl, Nat.zero_le _, HQ.out.symm, HS1.out, HS2.out, HB2.out⟩
          case round =>
            obtain ⟨k, rfl, hk, hno, e1, e2, hbw⟩ := hrel
            have HNO := Lib.hid hno
            clear hno
            by_cases hlt : k < qre.length
            · have hkp : k < pre.length := by omega
              have hkq : k < qre.length := by omega
              rcases hat with rfl | ⟨ba, oa, rfl, hba, hat⟩
              · simp at hkp
              rcases hbt with rfl | ⟨bb, ob, rfl, hbb, hbt⟩
              · simp at hkq
              have c0 := (hbw.cell (p := ⟨ba, _, none⟩) hba).trans (hat.str hkp)
              have d0 := (hbw.cell (p := ⟨bb, _, none⟩) hbb).trans (hbt.str hkq)
              have hx : pre[k].size ≤ 1048576 := hf _ (List.getElem_mem hkp)
              have hy : qre[k].size ≤ 1048576 := hg _ (List.getElem_mem hkq)
              have HX := Lib.hid (fun W => partNumberR_any pre[k] W hx)
              have HY := Lib.hid (fun W => partNumberR_any qre[k] W hy)
              have HI := Lib.hid (fun W => cmpI_any (pnV pre[k].data.toList) (pnV qre[k].data.toList) W)
              have HS := Lib.hid (fun W => cmpS_any pre[k] qre[k] W)
              have HD := Lib.hid (cmpL_drop hkp hkq)
              have HP := Lib.hid (show cmpP pre[k] qre[k] = if pnOk pre[k].data.toList = true ∧ pnOk qre[k].data.toList = true then cmpI (pnV pre[k].data.toList) (pnV qre[k].data.toList) else if pnOk pre[k].data.toList = true then -1 else if pnOk qre[k].data.toList = true then 1 else cmpS pre[k] qre[k] from rfl)
              rw [HP.out] at HD
              clear HP hx hy hf hg hat hbt
              generalize pre[k] = x at *
              generalize qre[k] = y at *
              generalize pnV x.data.toList = m at *
              generalize pnV y.data.toList = n at *
              generalize pnOk x.data.toList = o1 at *
              generalize pnOk y.data.toList = o2 at *
              generalize cmpI m n = ci at *
              generalize cmpS x y = cs at *
              cases o1 <;> cases o2
              · have HD2 := Lib.hid (show cmpL (pre.drop k) (qre.drop k) = if cs ≠ 0 then cs else cmpL (pre.drop (k + 1)) (qre.drop (k + 1)) by rw [HD.out]; simp)
                by_cases hc : cs = 0
                · subst hc
                  have HR2 := Lib.hid (show cmpL (pre.drop (k + 1)) (qre.drop (k + 1)) = R by rw [← HNO.out, HD2.out, if_neg (by decide)])
                  go_wp2_with (first
                    | (go_at_call 28; (with_reducible refine (HX.out _).mono ?_); rintro e w1 ⟨rfl, hb1⟩; have f1 := cell_keep e1 hb1; have f2 := cell_keep e2 hb1; have f3 := cell_keep c0 hb1; have f4 := cell_keep d0 hb1; have hbA := below_keep hbw (Nat.le_refl _) hb1)
                    | (go_at_call 28; (with_reducible refine (HY.out _).mono ?_); rintro e w2 ⟨rfl, hb2⟩; have g1 := cell_keep f1 hb2; have g2 := cell_keep f2 hb2; have g3 := cell_keep f3 hb2; have g4 := cell_keep f4 hb2; have hbB := below_keep hbA (Nat.le_refl _) hb2))
                  go_quiet ((go_at_call 24; exact Calls.quiet_of_same (HS.out _)))
                  go_wp2_with fail
                  exact ⟨⟨k + 1, rfl, hlt, HR2.out, g1, g2, below_drewE hbB _⟩, by simp [RowKit.intOf]; omega⟩
                · have hq : (cs != 0) = true := by simpa using hc
                  have HR2 := Lib.hid (show cs = R by rw [← HNO.out, HD2.out, if_pos hc])
                  clear hc
                  go_wp2_with (first
                    | (go_at_call 28; (with_reducible refine (HX.out _).mono ?_); rintro e w1 ⟨rfl, hb1⟩; have f1 := cell_keep e1 hb1; have f2 := cell_keep e2 hb1; have f3 := cell_keep c0 hb1; have f4 := cell_keep d0 hb1; have hbA := below_keep hbw (Nat.le_refl _) hb1)
                    | (go_at_call 28; (with_reducible refine (HY.out _).mono ?_); rintro e w2 ⟨rfl, hb2⟩; have g1 := cell_keep f1 hb2; have g2 := cell_keep f2 hb2; have g3 := cell_keep f3 hb2; have g4 := cell_keep f4 hb2; have hbB := below_keep hbA (Nat.le_refl _) hb2))
                  go_quiet ((go_at_call 24; exact Calls.quiet_of_same (HS.out _)))
                  go_wp2_with fail
                  go_ret
                  exact ⟨ret_int HR2.out, below_drewE hbB _⟩
              · have HR2 := Lib.hid (show (1 : Int) = R by rw [← HNO.out, HD.out]; simp)
                go_wp2_with (first
                  | (go_at_call 28; (with_reducible refine (HX.out _).mono ?_); rintro e w1 ⟨rfl, hb1⟩; have f1 := cell_keep e1 hb1; have f2 := cell_keep e2 hb1; have f3 := cell_keep c0 hb1; have f4 := cell_keep d0 hb1; have hbA := below_keep hbw (Nat.le_refl _) hb1)
                  | (go_at_call 28; (with_reducible refine (HY.out _).mono ?_); rintro e w2 ⟨rfl, hb2⟩; have g1 := cell_keep f1 hb2; have g2 := cell_keep f2 hb2; have hbB := below_keep hbA (Nat.le_refl _) hb2)
                  | (go_at_call 25; (with_reducible refine (HI.out _).mono ?_); rintro e w3 ⟨rfl, rfl⟩))
                go_ret
                exact ⟨ret_int HR2.out, hbB⟩
              · have HR2 := Lib.hid (show (-1 : Int) = R by rw [← HNO.out, HD.out]; simp)
                go_wp2_with (first
                  | (go_at_call 28; (with_reducible refine (HX.out _).mono ?_); rintro e w1 ⟨rfl, hb1⟩; have f1 := cell_keep e1 hb1; have f2 := cell_keep e2 hb1; have f3 := cell_keep c0 hb1; have f4 := cell_keep d0 hb1; have hbA := below_keep hbw (Nat.le_refl _) hb1)
                  | (go_at_call 28; (with_reducible refine (HY.out _).mono ?_); rintro e w2 ⟨rfl, hb2⟩; have g1 := cell_keep f1 hb2; have g2 := cell_keep f2 hb2; have hbB := below_keep hbA (Nat.le_refl _) hb2)
                  | (go_at_call 25; (with_reducible refine (HI.out _).mono ?_); rintro e w3 ⟨rfl, rfl⟩))
                go_ret
                exact ⟨ret_int HR2.out, hbB⟩
              · have HD2 := Lib.hid (show cmpL (pre.drop k) (qre.drop k) = if ci ≠ 0 then ci else cmpL (pre.drop (k + 1)) (qre.drop (k + 1)) by rw [HD.out]; simp)
                by_cases hc : ci = 0
                · subst hc
                  have HR2 := Lib.hid (show cmpL (pre.drop (k + 1)) (qre.drop (k + 1)) = R by rw [← HNO.out, HD2.out, if_neg (by decide)])
                  go_wp2_with (first
                    | (go_at_call 28; (with_reducible refine (HX.out _).mono ?_); rintro e w1 ⟨rfl, hb1⟩; have f1 := cell_keep e1 hb1; have f2 := cell_keep e2 hb1; have f3 := cell_keep c0 hb1; have f4 := cell_keep d0 hb1; have hbA := below_keep hbw (Nat.le_refl _) hb1)
                    | (go_at_call 28; (with_reducible refine (HY.out _).mono ?_); rintro e w2 ⟨rfl, hb2⟩; have g1 := cell_keep f1 hb2; have g2 := cell_keep f2 hb2; have hbB := below_keep hbA (Nat.le_refl _) hb2)
                    | (go_at_call 25; (with_reducible refine (HI.out _).mono ?_); rintro e w3 ⟨rfl, rfl⟩))
                  exact ⟨⟨k + 1, rfl, hlt, HR2.out, g1, g2, hbB⟩, by simp [RowKit.intOf]; omega⟩
                · have hq : (ci != 0) = true := by simpa using hc
                  have HR2 := Lib.hid (show ci = R by rw [← HNO.out, HD2.out, if_pos hc])
                  clear hc
                  go_wp2_with (first
                    | (go_at_call 28; (with_reducible refine (HX.out _).mono ?_); rintro e w1 ⟨rfl, hb1⟩; have f1 := cell_keep e1 hb1; have f2 := cell_keep e2 hb1; have f3 := cell_keep c0 hb1; have f4 := cell_keep d0 hb1; have hbA := below_keep hbw (Nat.le_refl _) hb1)
                    | (go_at_call 28; (with_reducible refine (HY.out _).mono ?_); rintro e w2 ⟨rfl, hb2⟩; have g1 := cell_keep f1 hb2; have g2 := cell_keep f2 hb2; have hbB := below_keep hbA (Nat.le_refl _) hb2)
                    | (go_at_call 25; (with_reducible refine (HI.out _).mono ?_); rintro e w3 ⟨rfl, rfl⟩))
                  go_ret
                  exact ⟨ret_int HR2.out, hbB⟩
            · have HR2 := Lib.hid (show cmpI pre.length qre.length = R by rw [← HNO.out, cmpL_lens (by omega) (by omega) (by omega)])
              clear hf hg hat hbt
              go_wp2_with (go_at_call 25; (with_reducible refine (HLL.out _).mono ?_); rintro e w3 ⟨rfl, rfl⟩)
              go_ret
              exact ⟨ret_int HR2.out, hbw⟩
        · have mnI : decide ((qre.length : Int) < (pre.length : Int)) = false := by simp; omega
          have mnN : decide (qre.length < pre.length) = false := by simp; omega
          have s1 : ((((w.alloc (.cells #[.string pj, .int .i64 ma, .int .i64 mi, .int .i64 pa, .slice a pre.length cap] 24)).alloc (.cells #[.string qj, .int .i64 na, .int .i64 ni, .int .i64 qa, .slice b qre.length cup] 24)).drewN 1).alloc (.cells #[.int .i64 k1, .int .i64 k2, .int .i64 k3, .int .i64 k4] 3)).cell? ⟨w.heap.size, 4, none⟩ = some (.slice a pre.length cap) := by go_simp
          have s2 : ((((w.alloc (.cells #[.string pj, .int .i64 ma, .int .i64 mi, .int .i64 pa, .slice a pre.length cap] 24)).alloc (.cells #[.string qj, .int .i64 na, .int .i64 ni, .int .i64 qa, .slice b qre.length cup] 24)).drewN 1).alloc (.cells #[.int .i64 k1, .int .i64 k2, .int .i64 k3, .int .i64 k4] 3)).cell? ⟨w.heap.size + 1, 4, none⟩ = some (.slice b qre.length cup) := by go_simp
          have HS1 := Lib.hid s1
          have HS2 := Lib.hid s2
          clear s1 s2
          go_enter Tryz.func8, Tryz.ntmps8
          go_upto_region 1 with fail
          refine wp_region_quiet_tail 20 (by kernel_rfl) (by kernel_rfl) ?_
          simp only [List.take_succ_cons, List.take_zero, List.drop_succ_cons, List.drop_zero]
          repeat (first
            | go_big_quiet_step (fail)
            | (go_big_quiet_want; go_big_quiet_op; (with_reducible refine ⟨_, H1.out _, ?_⟩); go_big_quiet_on)
            | (go_big_quiet_want; go_big_quiet_op; (with_reducible refine ⟨_, H2.out _, ?_⟩); go_big_quiet_on)
            | (go_big_quiet_want; go_big_quiet_op; (with_reducible refine ⟨_, H3.out _, ?_⟩); go_big_quiet_on)
            | (go_big_quiet_want; go_big_quiet_op; (with_reducible refine ⟨_, H4.out _, ?_⟩); go_big_quiet_on))
          refine wpQuiet_nil ?_
          go_wp2_with (first
            | (go_at_call 23; (with_reducible refine HOr.out.mono ?_); rintro e w5 ⟨rfl, rfl⟩))
          go_loopw [57] (fun v wr => ∃ k : Nat, v = .int .i64 k ∧ k ≤ pre.length ∧ cmpL (pre.drop k) (qre.drop k) = R ∧ wr.cell? ⟨w.heap.size, 4, none⟩ = some (.slice a pre.length cap) ∧ wr.cell? ⟨w.heap.size + 1, 4, none⟩ = some (.slice b qre.length cup) ∧ Below w.heap.size w wr) (fun v _ => pre.length - (RowKit.intOf v).toNat)
          case atStart => exact ⟨0, rfl, Nat.zero_le _, HQ.out.symm, HS1.out, HS2.out, HB2.out⟩
          case round =>
            obtain ⟨k, rfl, hk, hno, e1, e2, hbw⟩ := hrel
            have HNO := Lib.hid hno
            clear hno
            by_cases hlt : k < pre.length
            · have hkp : k < pre.length := by omega
              have hkq : k < qre.length := by omega
              rcases hat with rfl | ⟨ba, oa, rfl, hba, hat⟩
              · simp at hkp
              rcases hbt with rfl | ⟨bb, ob, rfl, hbb, hbt⟩
              · simp at hkq
              have c0 := (hbw.cell (p := ⟨ba, _, none⟩) hba).trans (hat.str hkp)
              have d0 := (hbw.cell (p := ⟨bb, _, none⟩) hbb).trans (hbt.str hkq)
              have hx : pre[k].size ≤ 1048576 := hf _ (List.getElem_mem hkp)
              have hy : qre[k].size ≤ 1048576 := hg _ (List.getElem_mem hkq)
              have HX := Lib.hid (fun W => partNumberR_any pre[k] W hx)
              have HY := Lib.hid (fun W => partNumberR_any qre[k] W hy)
              have HI := Lib.hid (fun W => cmpI_any (pnV pre[k].data.toList) (pnV qre[k].data.toList) W)
              have HS := Lib.hid (fun W => cmpS_any pre[k] qre[k] W)
              have HD := Lib.hid (cmpL_drop hkp hkq)
              have HP := Lib.hid (show cmpP pre[k] qre[k] = if pnOk pre[k].data.toList = true ∧ pnOk qre[k].data.toList = true then cmpI (pnV pre[k].data.toList) (pnV qre[k].data.toList) else if pnOk pre[k].data.toList = true then -1 else if pnOk qre[k].data.toList = true then 1 else cmpS pre[k] qre[k] from rfl)
              rw [HP.out] at HD
              clear HP hx hy hf hg hat hbt
              generalize pre[k] = x at *
              generalize qre[k] = y at *
              generalize pnV x.data.toList = m at *
              generalize pnV y.data.toList = n at *
              generalize pnOk x.data.toList = o1 at *
              generalize pnOk y.data.toList = o2 at *
              generalize cmpI m n = ci at *
              generalize cmpS x y = cs at *
              cases o1 <;> cases o2
              · have HD2 := Lib.hid (show cmpL (pre.drop k) (qre.drop k) = if cs ≠ 0 then cs else cmpL (pre.drop (k + 1)) (qre.drop (k + 1)) by rw [HD.out]; simp)
                by_cases hc : cs = 0
                · subst hc
                  have HR2 := Lib.hid (show cmpL (pre.drop (k + 1)) (qre.drop (k + 1)) = R by rw [← HNO.out, HD2.out, if_neg (by decide)])
                  go_wp2_with (first
                    | (go_at_call 28; (with_reducible refine (HX.out _).mono ?_); rintro e w1 ⟨rfl, hb1⟩; have f1 := cell_keep e1 hb1; have f2 := cell_keep e2 hb1; have f3 := cell_keep c0 hb1; have f4 := cell_keep d0 hb1; have hbA := below_keep hbw (Nat.le_refl _) hb1)
                    | (go_at_call 28; (with_reducible refine (HY.out _).mono ?_); rintro e w2 ⟨rfl, hb2⟩; have g1 := cell_keep f1 hb2; have g2 := cell_keep f2 hb2; have g3 := cell_keep f3 hb2; have g4 := cell_keep f4 hb2; have hbB := below_keep hbA (Nat.le_refl _) hb2))
                  go_quiet ((go_at_call 24; exact Calls.quiet_of_same (HS.out _)))
                  go_wp2_with fail
                  exact ⟨⟨k + 1, rfl, hlt, HR2.out, g1, g2, below_drewE hbB _⟩, by simp [RowKit.intOf]; omega⟩
                · have hq : (cs != 0) = true := by simpa using hc
                  have HR2 := Lib.hid (show cs = R by rw [← HNO.out, HD2.out, if_pos hc])
                  clear hc
                  go_wp2_with (first
                    | (go_at_call 28; (with_reducible refine (HX.out _).mono ?_); rintro e w1 ⟨rfl, hb1⟩; have f1 := cell_keep e1 hb1; have f2 := cell_keep e2 hb1; have f3 := cell_keep c0 hb1; have f4 := cell_keep d0 hb1; have hbA := below_keep hbw (Nat.le_refl _) hb1)
                    | (go_at_call 28; (with_reducible refine (HY.out _).mono ?_); rintro e w2 ⟨rfl, hb2⟩; have g1 := cell_keep f1 hb2; have g2 := cell_keep f2 hb2; have g3 := cell_keep f3 hb2; have g4 := cell_keep f4 hb2; have hbB := below_keep hbA (Nat.le_refl _) hb2))
                  go_quiet ((go_at_call 24; exact Calls.quiet_of_same (HS.out _)))
                  go_wp2_with fail
                  go_ret
                  exact ⟨ret_int HR2.out, below_drewE hbB _⟩
              · have HR2 := Lib.hid (show (1 : Int) = R by rw [← HNO.out, HD.out]; simp)
                go_wp2_with (first
                  | (go_at_call 28; (with_reducible refine (HX.out _).mono ?_); rintro e w1 ⟨rfl, hb1⟩; have f1 := cell_keep e1 hb1; have f2 := cell_keep e2 hb1; have f3 := cell_keep c0 hb1; have f4 := cell_keep d0 hb1; have hbA := below_keep hbw (Nat.le_refl _) hb1)
                  | (go_at_call 28; (with_reducible refine (HY.out _).mono ?_); rintro e w2 ⟨rfl, hb2⟩; have g1 := cell_keep f1 hb2; have g2 := cell_keep f2 hb2; have hbB := below_keep hbA (Nat.le_refl _) hb2)
                  | (go_at_call 25; (with_reducible refine (HI.out _).mono ?_); rintro e w3 ⟨rfl, rfl⟩))
                go_ret
                exact ⟨ret_int HR2.out, hbB⟩
              · have HR2 := Lib.hid (show (-1 : Int) = R by rw [← HNO.out, HD.out]; simp)
                go_wp2_with (first
                  | (go_at_call 28; (with_reducible refine (HX.out _).mono ?_); rintro e w1 ⟨rfl, hb1⟩; have f1 := cell_keep e1 hb1; have f2 := cell_keep e2 hb1; have f3 := cell_keep c0 hb1; have f4 := cell_keep d0 hb1; have hbA := below_keep hbw (Nat.le_refl _) hb1)
                  | (go_at_call 28; (with_reducible refine (HY.out _).mono ?_); rintro e w2 ⟨rfl, hb2⟩; have g1 := cell_keep f1 hb2; have g2 := cell_keep f2 hb2; have hbB := below_keep hbA (Nat.le_refl _) hb2)
                  | (go_at_call 25; (with_reducible refine (HI.out _).mono ?_); rintro e w3 ⟨rfl, rfl⟩))
                go_ret
                exact ⟨ret_int HR2.out, hbB⟩
              · have HD2 := Lib.hid (show cmpL (pre.drop k) (qre.drop k) = if ci ≠ 0 then ci else cmpL (pre.drop (k + 1)) (qre.drop (k + 1)) by rw [HD.out]; simp)
                by_cases hc : ci = 0
                · subst hc
                  have HR2 := Lib.hid (show cmpL (pre.drop (k + 1)) (qre.drop (k + 1)) = R by rw [← HNO.out, HD2.out, if_neg (by decide)])
                  go_wp2_with (first
                    | (go_at_call 28; (with_reducible refine (HX.out _).mono ?_); rintro e w1 ⟨rfl, hb1⟩; have f1 := cell_keep e1 hb1; have f2 := cell_keep e2 hb1; have f3 := cell_keep c0 hb1; have f4 := cell_keep d0 hb1; have hbA := below_keep hbw (Nat.le_refl _) hb1)
                    | (go_at_call 28; (with_reducible refine (HY.out _).mono ?_); rintro e w2 ⟨rfl, hb2⟩; have g1 := cell_keep f1 hb2; have g2 := cell_keep f2 hb2; have hbB := below_keep hbA (Nat.le_refl _) hb2)
                    | (go_at_call 25; (with_reducible refine (HI.out _).mono ?_); rintro e w3 ⟨rfl, rfl⟩))
                  exact ⟨⟨k + 1, rfl, hlt, HR2.out, g1, g2, hbB⟩, by simp [RowKit.intOf]; omega⟩
                · have hq : (ci != 0) = true := by simpa using hc
                  have HR2 := Lib.hid (show ci = R by rw [← HNO.out, HD2.out, if_pos hc])
                  clear hc
                  go_wp2_with (first
                    | (go_at_call 28; (with_reducible refine (HX.out _).mono ?_); rintro e w1 ⟨rfl, hb1⟩; have f1 := cell_keep e1 hb1; have f2 := cell_keep e2 hb1; have f3 := cell_keep c0 hb1; have f4 := cell_keep d0 hb1; have hbA := below_keep hbw (Nat.le_refl _) hb1)
                    | (go_at_call 28; (with_reducible refine (HY.out _).mono ?_); rintro e w2 ⟨rfl, hb2⟩; have g1 := cell_keep f1 hb2; have g2 := cell_keep f2 hb2; have hbB := below_keep hbA (Nat.le_refl _) hb2)
                    | (go_at_call 25; (with_reducible refine (HI.out _).mono ?_); rintro e w3 ⟨rfl, rfl⟩))
                  go_ret
                  exact ⟨ret_int HR2.out, hbB⟩
            · have HR2 := Lib.hid (show cmpI pre.length qre.length = R by rw [← HNO.out, cmpL_lens (by omega) (by omega) (by omega)])
              clear hf hg hat hbt
              go_wp2_with (go_at_call 25; (with_reducible refine (HLL.out _).mono ?_); rintro e w3 ⟨rfl, rfl⟩)
              go_ret
              exact ⟨ret_int HR2.out, hbw⟩
      · have pe : ((pre.length : Int) == 0) = true := by rw [hp]; rfl
        have pn : (pre.length == 0) = true := by rw [hp]; rfl
        have qe : ((qre.length : Int) == 0) = false := by simp [hq]
        have qn : (qre.length == 0) = false := by simp [hq]
        have HQ := Lib.hid (show R = 1 by rw [HR.out]; simp [hp, hq])
        clear hp hq hat hbt hf hg
        go_enter Tryz.func8, Tryz.ntmps8
        go_upto_region 1 with fail
        refine wp_region_quiet_tail 20 (by kernel_rfl) (by kernel_rfl) ?_
        simp only [List.take_succ_cons, List.take_zero, List.drop_succ_cons, List.drop_zero]
        repeat (first
          | go_big_quiet_step (fail)
          | (go_big_quiet_want; go_big_quiet_op; (with_reducible refine ⟨_, H1.out _, ?_⟩); go_big_quiet_on)
          | (go_big_quiet_want; go_big_quiet_op; (with_reducible refine ⟨_, H2.out _, ?_⟩); go_big_quiet_on)
          | (go_big_quiet_want; go_big_quiet_op; (with_reducible refine ⟨_, H3.out _, ?_⟩); go_big_quiet_on)
          | (go_big_quiet_want; go_big_quiet_op; (with_reducible refine ⟨_, H4.out _, ?_⟩); go_big_quiet_on))
        refine wpQuiet_nil ?_
        go_wp2_with (first
          | (go_at_call 23; (with_reducible refine HOr.out.mono ?_); rintro e w5 ⟨rfl, rfl⟩))
        go_ret
        exact ⟨ret_int HQ.out.symm, HB2.out⟩

    · by_cases hq : qre = []
      · have pe : ((pre.length : Int) == 0) = false := by simp [hp]
        have pn : (pre.length == 0) = false := by simp [hp]
        have qe : ((qre.length : Int) == 0) = true := by rw [hq]; rfl
        have qn : (qre.length == 0) = true := by rw [hq]; rfl
        have HQ := Lib.hid (show R = -1 by rw [HR.out]; simp [hp, hq])
        clear hp hq hat hbt hf hg
        go_enter Tryz.func8, Tryz.ntmps8
        go_upto_region 1 with fail
        refine wp_region_quiet_tail 20 (by kernel_rfl) (by kernel_rfl) ?_
        simp only [List.take_succ_cons, List.take_zero, List.drop_succ_cons, List.drop_zero]
        repeat (first
          | go_big_quiet_step (fail)
          | (go_big_quiet_want; go_big_quiet_op; (with_reducible refine ⟨_, H1.out _, ?_⟩); go_big_quiet_on)
          | (go_big_quiet_want; go_big_quiet_op; (with_reducible refine ⟨_, H2.out _, ?_⟩); go_big_quiet_on)
          | (go_big_quiet_want; go_big_quiet_op; (with_reducible refine ⟨_, H3.out _, ?_⟩); go_big_quiet_on)
          | (go_big_quiet_want; go_big_quiet_op; (with_reducible refine ⟨_, H4.out _, ?_⟩); go_big_quiet_on))
        refine wpQuiet_nil ?_
        go_wp2_with (first
          | (go_at_call 23; (with_reducible refine HOr.out.mono ?_); rintro e w5 ⟨rfl, rfl⟩))
        go_ret
        exact ⟨ret_int HQ.out.symm, HB2.out⟩

      · have pe : ((pre.length : Int) == 0) = false := by simp [hp]
        have pn : (pre.length == 0) = false := by simp [hp]
        have qe : ((qre.length : Int) == 0) = false := by simp [hq]
        have qn : (qre.length == 0) = false := by simp [hq]
        have HQ := Lib.hid (show R = cmpL pre qre by rw [HR.out]; simp [hp, hq])
        clear hp hq HR
        by_cases hmn : qre.length < pre.length
        · have mnI : decide ((qre.length : Int) < (pre.length : Int)) = true := by simp; omega
          have mnN : decide (qre.length < pre.length) = true := by simp; omega
          have s1 : ((((w.alloc (.cells #[.string pj, .int .i64 ma, .int .i64 mi, .int .i64 pa, .slice a pre.length cap] 24)).alloc (.cells #[.string qj, .int .i64 na, .int .i64 ni, .int .i64 qa, .slice b qre.length cup] 24)).drewN 1).alloc (.cells #[.int .i64 k1, .int .i64 k2, .int .i64 k3, .int .i64 k4] 3)).cell? ⟨w.heap.size, 4, none⟩ = some (.slice a pre.length cap) := by go_simp
          have s2 : ((((w.alloc (.cells #[.string pj, .int .i64 ma, .int .i64 mi, .int .i64 pa, .slice a pre.length cap] 24)).alloc (.cells #[.string qj, .int .i64 na, .int .i64 ni, .int .i64 qa, .slice b qre.length cup] 24)).drewN 1).alloc (.cells #[.int .i64 k1, .int .i64 k2, .int .i64 k3, .int .i64 k4] 3)).cell? ⟨w.heap.size + 1, 4, none⟩ = some (.slice b qre.length cup) := by go_simp
          have HS1 := Lib.hid s1
          have HS2 := Lib.hid s2
          clear s1 s2
          go_enter Tryz.func8, Tryz.ntmps8
          go_upto_region 1 with fail
          refine wp_region_quiet_tail 20 (by kernel_rfl) (by kernel_rfl) ?_
          simp only [List.take_succ_cons, List.take_zero, List.drop_succ_cons, List.drop_zero]
          repeat (first
            | go_big_quiet_step (fail)
            | (go_big_quiet_want; go_big_quiet_op; (with_reducible refine ⟨_, H1.out _, ?_⟩); go_big_quiet_on)
            | (go_big_quiet_want; go_big_quiet_op; (with_reducible refine ⟨_, H2.out _, ?_⟩); go_big_quiet_on)
            | (go_big_quiet_want; go_big_quiet_op; (with_reducible refine ⟨_, H3.out _, ?_⟩); go_big_quiet_on)
            | (go_big_quiet_want; go_big_quiet_op; (with_reducible refine ⟨_, H4.out _, ?_⟩); go_big_quiet_on))
          refine wpQuiet_nil ?_
          go_wp2_with (first
            | (go_at_call 23; (with_reducible refine HOr.out.mono ?_); rintro e w5 ⟨rfl, rfl⟩))
          go_loopw [57] (fun v wr => ∃ k : Nat, v = .int .i64 k ∧ k ≤ qre.length ∧ cmpL (pre.drop k) (qre.drop k) = R ∧ wr.cell? ⟨w.heap.size, 4, none⟩ = some (.slice a pre.length cap) ∧ wr.cell? ⟨w.heap.size + 1, 4, none⟩ = some (.slice b qre.length cup) ∧ Below w.heap.size w wr) (fun v _ => qre.length - (RowKit.intOf v).toNat)
          case atStart => exact ⟨0, rfl, Nat.zero_le _, HQ.out.symm, HS1.out, HS2.out, HB2.out⟩
          case round =>
            obtain ⟨k, rfl, hk, hno, e1, e2, hbw⟩ := hrel
            have HNO := Lib.hid hno
            clear hno
            by_cases hlt : k < qre.length
            · have hkp : k < pre.length := by omega
              have hkq : k < qre.length := by omega
              rcases hat with rfl | ⟨ba, oa, rfl, hba, hat⟩
              · simp at hkp
              rcases hbt with rfl | ⟨bb, ob, rfl, hbb, hbt⟩
              · simp at hkq
              have c0 := (hbw.cell (p := ⟨ba, _, none⟩) hba).trans (hat.str hkp)
              have d0 := (hbw.cell (p := ⟨bb, _, none⟩) hbb).trans (hbt.str hkq)
              have hx : pre[k].size ≤ 1048576 := hf _ (List.getElem_mem hkp)
              have hy : qre[k].size ≤ 1048576 := hg _ (List.getElem_mem hkq)
              have HX := Lib.hid (fun W => partNumberR_any pre[k] W hx)
              have HY := Lib.hid (fun W => partNumberR_any qre[k] W hy)
              have HI := Lib.hid (fun W => cmpI_any (pnV pre[k].data.toList) (pnV qre[k].data.toList) W)
              have HS := Lib.hid (fun W => cmpS_any pre[k] qre[k] W)
              have HD := Lib.hid (cmpL_drop hkp hkq)
              have HP := Lib.hid (show cmpP pre[k] qre[k] = if pnOk pre[k].data.toList = true ∧ pnOk qre[k].data.toList = true then cmpI (pnV pre[k].data.toList) (pnV qre[k].data.toList) else if pnOk pre[k].data.toList = true then -1 else if pnOk qre[k].data.toList = true then 1 else cmpS pre[k] qre[k] from rfl)
              rw [HP.out] at HD
              clear HP hx hy hf hg hat hbt
              generalize pre[k] = x at *
              generalize qre[k] = y at *
              generalize pnV x.data.toList = m at *
              generalize pnV y.data.toList = n at *
              generalize pnOk x.data.toList = o1 at *
              generalize pnOk y.data.toList = o2 at *
              generalize cmpI m n = ci at *
              generalize cmpS x y = cs at *
              cases o1 <;> cases o2
              · have HD2 := Lib.hid (show cmpL (pre.drop k) (qre.drop k) = if cs ≠ 0 then cs else cmpL (pre.drop (k + 1)) (qre.drop (k + 1)) by rw [HD.out]; simp)
                by_cases hc : cs = 0
                · subst hc
                  have HR2 := Lib.hid (show cmpL (pre.drop (k + 1)) (qre.drop (k + 1)) = R by rw [← HNO.out, HD2.out, if_neg (by decide)])
                  go_wp2_with (first
                    | (go_at_call 28; (with_reducible refine (HX.out _).mono ?_); rintro e w1 ⟨rfl, hb1⟩; have f1 := cell_keep e1 hb1; have f2 := cell_keep e2 hb1; have f3 := cell_keep c0 hb1; have f4 := cell_keep d0 hb1; have hbA := below_keep hbw (Nat.le_refl _) hb1)
                    | (go_at_call 28; (with_reducible refine (HY.out _).mono ?_); rintro e w2 ⟨rfl, hb2⟩; have g1 := cell_keep f1 hb2; have g2 := cell_keep f2 hb2; have g3 := cell_keep f3 hb2; have g4 := cell_keep f4 hb2; have hbB := below_keep hbA (Nat.le_refl _) hb2))
                  go_quiet ((go_at_call 24; exact Calls.quiet_of_same (HS.out _)))
                  go_wp2_with fail
                  exact ⟨⟨k + 1, rfl, hlt, HR2.out, g1, g2, below_drewE hbB _⟩, by simp [RowKit.intOf]; omega⟩
                · have hq : (cs != 0) = true := by simpa using hc
                  have HR2 := Lib.hid (show cs = R by rw [← HNO.out, HD2.out, if_pos hc])
                  clear hc
                  go_wp2_with (first
                    | (go_at_call 28; (with_reducible refine (HX.out _).mono ?_); rintro e w1 ⟨rfl, hb1⟩; have f1 := cell_keep e1 hb1; have f2 := cell_keep e2 hb1; have f3 := cell_keep c0 hb1; have f4 := cell_keep d0 hb1; have hbA := below_keep hbw (Nat.le_refl _) hb1)
                    | (go_at_call 28; (with_reducible refine (HY.out _).mono ?_); rintro e w2 ⟨rfl, hb2⟩; have g1 := cell_keep f1 hb2; have g2 := cell_keep f2 hb2; have g3 := cell_keep f3 hb2; have g4 := cell_keep f4 hb2; have hbB := below_keep hbA (Nat.le_refl _) hb2))
                  go_quiet ((go_at_call 24; exact Calls.quiet_of_same (HS.out _)))
                  go_wp2_with fail
                  go_ret
                  exact ⟨ret_int HR2.out, below_drewE hbB _⟩
              · have HR2 := Lib.hid (show (1 : Int) = R by rw [← HNO.out, HD.out]; simp)
                go_wp2_with (first
                  | (go_at_call 28; (with_reducible refine (HX.out _).mono ?_); rintro e w1 ⟨rfl, hb1⟩; have f1 := cell_keep e1 hb1; have f2 := cell_keep e2 hb1; have f3 := cell_keep c0 hb1; have f4 := cell_keep d0 hb1; have hbA := below_keep hbw (Nat.le_refl _) hb1)
                  | (go_at_call 28; (with_reducible refine (HY.out _).mono ?_); rintro e w2 ⟨rfl, hb2⟩; have g1 := cell_keep f1 hb2; have g2 := cell_keep f2 hb2; have hbB := below_keep hbA (Nat.le_refl _) hb2)
                  | (go_at_call 25; (with_reducible refine (HI.out _).mono ?_); rintro e w3 ⟨rfl, rfl⟩))
                go_ret
                exact ⟨ret_int HR2.out, hbB⟩
              · have HR2 := Lib.hid (show (-1 : Int) = R by rw [← HNO.out, HD.out]; simp)
                go_wp2_with (first
                  | (go_at_call 28; (with_reducible refine (HX.out _).mono ?_); rintro e w1 ⟨rfl, hb1⟩; have f1 := cell_keep e1 hb1; have f2 := cell_keep e2 hb1; have f3 := cell_keep c0 hb1; have f4 := cell_keep d0 hb1; have hbA := below_keep hbw (Nat.le_refl _) hb1)
                  | (go_at_call 28; (with_reducible refine (HY.out _).mono ?_); rintro e w2 ⟨rfl, hb2⟩; have g1 := cell_keep f1 hb2; have g2 := cell_keep f2 hb2; have hbB := below_keep hbA (Nat.le_refl _) hb2)
                  | (go_at_call 25; (with_reducible refine (HI.out _).mono ?_); rintro e w3 ⟨rfl, rfl⟩))
                go_ret
                exact ⟨ret_int HR2.out, hbB⟩
              · have HD2 := Lib.hid (show cmpL (pre.drop k) (qre.drop k) = if ci ≠ 0 then ci else cmpL (pre.drop (k + 1)) (qre.drop (k + 1)) by rw [HD.out]; simp)
                by_cases hc : ci = 0
                · subst hc
                  have HR2 := Lib.hid (show cmpL (pre.drop (k + 1)) (qre.drop (k + 1)) = R by rw [← HNO.out, HD2.out, if_neg (by decide)])
                  go_wp2_with (first
                    | (go_at_call 28; (with_reducible refine (HX.out _).mono ?_); rintro e w1 ⟨rfl, hb1⟩; have f1 := cell_keep e1 hb1; have f2 := cell_keep e2 hb1; have f3 := cell_keep c0 hb1; have f4 := cell_keep d0 hb1; have hbA := below_keep hbw (Nat.le_refl _) hb1)
                    | (go_at_call 28; (with_reducible refine (HY.out _).mono ?_); rintro e w2 ⟨rfl, hb2⟩; have g1 := cell_keep f1 hb2; have g2 := cell_keep f2 hb2; have hbB := below_keep hbA (Nat.le_refl _) hb2)
                    | (go_at_call 25; (with_reducible refine (HI.out _).mono ?_); rintro e w3 ⟨rfl, rfl⟩))
                  exact ⟨⟨k + 1, rfl, hlt, HR2.out, g1, g2, hbB⟩, by simp [RowKit.intOf]; omega⟩
                · have hq : (ci != 0) = true := by simpa using hc
                  have HR2 := Lib.hid (show ci = R by rw [← HNO.out, HD2.out, if_pos hc])
                  clear hc
                  go_wp2_with (first
                    | (go_at_call 28; (with_reducible refine (HX.out _).mono ?_); rintro e w1 ⟨rfl, hb1⟩; have f1 := cell_keep e1 hb1; have f2 := cell_keep e2 hb1; have f3 := cell_keep c0 hb1; have f4 := cell_keep d0 hb1; have hbA := below_keep hbw (Nat.le_refl _) hb1)
                    | (go_at_call 28; (with_reducible refine (HY.out _).mono ?_); rintro e w2 ⟨rfl, hb2⟩; have g1 := cell_keep f1 hb2; have g2 := cell_keep f2 hb2; have hbB := below_keep hbA (Nat.le_refl _) hb2)
                    | (go_at_call 25; (with_reducible refine (HI.out _).mono ?_); rintro e w3 ⟨rfl, rfl⟩))
                  go_ret
                  exact ⟨ret_int HR2.out, hbB⟩
            · have HR2 := Lib.hid (show cmpI pre.length qre.length = R by rw [← HNO.out, cmpL_lens (by omega) (by omega) (by omega)])
              clear hf hg hat hbt
              go_wp2_with (go_at_call 25; (with_reducible refine (HLL.out _).mono ?_); rintro e w3 ⟨rfl, rfl⟩)
              go_ret
              exact ⟨ret_int HR2.out, hbw⟩
        · have mnI : decide ((qre.length : Int) < (pre.length : Int)) = false := by simp; omega
          have mnN : decide (qre.length < pre.length) = false := by simp; omega
          have s1 : ((((w.alloc (.cells #[.string pj, .int .i64 ma, .int .i64 mi, .int .i64 pa, .slice a pre.length cap] 24)).alloc (.cells #[.string qj, .int .i64 na, .int .i64 ni, .int .i64 qa, .slice b qre.length cup] 24)).drewN 1).alloc (.cells #[.int .i64 k1, .int .i64 k2, .int .i64 k3, .int .i64 k4] 3)).cell? ⟨w.heap.size, 4, none⟩ = some (.slice a pre.length cap) := by go_simp
          have s2 : ((((w.alloc (.cells #[.string pj, .int .i64 ma, .int .i64 mi, .int .i64 pa, .slice a pre.length cap] 24)).alloc (.cells #[.string qj, .int .i64 na, .int .i64 ni, .int .i64 qa, .slice b qre.length cup] 24)).drewN 1).alloc (.cells #[.int .i64 k1, .int .i64 k2, .int .i64 k3, .int .i64 k4] 3)).cell? ⟨w.heap.size + 1, 4, none⟩ = some (.slice b qre.length cup) := by go_simp
          have HS1 := Lib.hid s1
          have HS2 := Lib.hid s2
          clear s1 s2
          go_enter Tryz.func8, Tryz.ntmps8
          go_upto_region 1 with fail
          refine wp_region_quiet_tail 20 (by kernel_rfl) (by kernel_rfl) ?_
          simp only [List.take_succ_cons, List.take_zero, List.drop_succ_cons, List.drop_zero]
          repeat (first
            | go_big_quiet_step (fail)
            | (go_big_quiet_want; go_big_quiet_op; (with_reducible refine ⟨_, H1.out _, ?_⟩); go_big_quiet_on)
            | (go_big_quiet_want; go_big_quiet_op; (with_reducible refine ⟨_, H2.out _, ?_⟩); go_big_quiet_on)
            | (go_big_quiet_want; go_big_quiet_op; (with_reducible refine ⟨_, H3.out _, ?_⟩); go_big_quiet_on)
            | (go_big_quiet_want; go_big_quiet_op; (with_reducible refine ⟨_, H4.out _, ?_⟩); go_big_quiet_on))
          refine wpQuiet_nil ?_
          go_wp2_with (first
            | (go_at_call 23; (with_reducible refine HOr.out.mono ?_); rintro e w5 ⟨rfl, rfl⟩))
          go_loopw [57] (fun v wr => ∃ k : Nat, v = .int .i64 k ∧ k ≤ pre.length ∧ cmpL (pre.drop k) (qre.drop k) = R ∧ wr.cell? ⟨w.heap.size, 4, none⟩ = some (.slice a pre.length cap) ∧ wr.cell? ⟨w.heap.size + 1, 4, none⟩ = some (.slice b qre.length cup) ∧ Below w.heap.size w wr) (fun v _ => pre.length - (RowKit.intOf v).toNat)
          case atStart => exact ⟨0, rfl, Nat.zero_le _, HQ.out.symm, HS1.out, HS2.out, HB2.out⟩
          case round =>
            obtain ⟨k, rfl, hk, hno, e1, e2, hbw⟩ := hrel
            have HNO := Lib.hid hno
            clear hno
            by_cases hlt : k < pre.length
            · have hkp : k < pre.length := by omega
              have hkq : k < qre.length := by omega
              rcases hat with rfl | ⟨ba, oa, rfl, hba, hat⟩
              · simp at hkp
              rcases hbt with rfl | ⟨bb, ob, rfl, hbb, hbt⟩
              · simp at hkq
              have c0 := (hbw.cell (p := ⟨ba, _, none⟩) hba).trans (hat.str hkp)
              have d0 := (hbw.cell (p := ⟨bb, _, none⟩) hbb).trans (hbt.str hkq)
              have hx : pre[k].size ≤ 1048576 := hf _ (List.getElem_mem hkp)
              have hy : qre[k].size ≤ 1048576 := hg _ (List.getElem_mem hkq)
              have HX := Lib.hid (fun W => partNumberR_any pre[k] W hx)
              have HY := Lib.hid (fun W => partNumberR_any qre[k] W hy)
              have HI := Lib.hid (fun W => cmpI_any (pnV pre[k].data.toList) (pnV qre[k].data.toList) W)
              have HS := Lib.hid (fun W => cmpS_any pre[k] qre[k] W)
              have HD := Lib.hid (cmpL_drop hkp hkq)
              have HP := Lib.hid (show cmpP pre[k] qre[k] = if pnOk pre[k].data.toList = true ∧ pnOk qre[k].data.toList = true then cmpI (pnV pre[k].data.toList) (pnV qre[k].data.toList) else if pnOk pre[k].data.toList = true then -1 else if pnOk qre[k].data.toList = true then 1 else cmpS pre[k] qre[k] from rfl)
              rw [HP.out] at HD
              clear HP hx hy hf hg hat hbt
              generalize pre[k] = x at *
              generalize qre[k] = y at *
              generalize pnV x.data.toList = m at *
              generalize pnV y.data.toList = n at *
              generalize pnOk x.data.toList = o1 at *
              generalize pnOk y.data.toList = o2 at *
              generalize cmpI m n = ci at *
              generalize cmpS x y = cs at *
              cases o1 <;> cases o2
              · have HD2 := Lib.hid (show cmpL (pre.drop k) (qre.drop k) = if cs ≠ 0 then cs else cmpL (pre.drop (k + 1)) (qre.drop (k + 1)) by rw [HD.out]; simp)
                by_cases hc : cs = 0
                · subst hc
                  have HR2 := Lib.hid (show cmpL (pre.drop (k + 1)) (qre.drop (k + 1)) = R by rw [← HNO.out, HD2.out, if_neg (by decide)])
                  go_wp2_with (first
                    | (go_at_call 28; (with_reducible refine (HX.out _).mono ?_); rintro e w1 ⟨rfl, hb1⟩; have f1 := cell_keep e1 hb1; have f2 := cell_keep e2 hb1; have f3 := cell_keep c0 hb1; have f4 := cell_keep d0 hb1; have hbA := below_keep hbw (Nat.le_refl _) hb1)
                    | (go_at_call 28; (with_reducible refine (HY.out _).mono ?_); rintro e w2 ⟨rfl, hb2⟩; have g1 := cell_keep f1 hb2; have g2 := cell_keep f2 hb2; have g3 := cell_keep f3 hb2; have g4 := cell_keep f4 hb2; have hbB := below_keep hbA (Nat.le_refl _) hb2))
                  go_quiet ((go_at_call 24; exact Calls.quiet_of_same (HS.out _)))
                  go_wp2_with fail
                  exact ⟨⟨k + 1, rfl, hlt, HR2.out, g1, g2, below_drewE hbB _⟩, by simp [RowKit.intOf]; omega⟩
                · have hq : (cs != 0) = true := by simpa using hc
                  have HR2 := Lib.hid (show cs = R by rw [← HNO.out, HD2.out, if_pos hc])
                  clear hc
                  go_wp2_with (first
                    | (go_at_call 28; (with_reducible refine (HX.out _).mono ?_); rintro e w1 ⟨rfl, hb1⟩; have f1 := cell_keep e1 hb1; have f2 := cell_keep e2 hb1; have f3 := cell_keep c0 hb1; have f4 := cell_keep d0 hb1; have hbA := below_keep hbw (Nat.le_refl _) hb1)
                    | (go_at_call 28; (with_reducible refine (HY.out _).mono ?_); rintro e w2 ⟨rfl, hb2⟩; have g1 := cell_keep f1 hb2; have g2 := cell_keep f2 hb2; have g3 := cell_keep f3 hb2; have g4 := cell_keep f4 hb2; have hbB := below_keep hbA (Nat.le_refl _) hb2))
                  go_quiet ((go_at_call 24; exact Calls.quiet_of_same (HS.out _)))
                  go_wp2_with fail
                  go_ret
                  exact ⟨ret_int HR2.out, below_drewE hbB _⟩
              · have HR2 := Lib.hid (show (1 : Int) = R by rw [← HNO.out, HD.out]; simp)
                go_wp2_with (first
                  | (go_at_call 28; (with_reducible refine (HX.out _).mono ?_); rintro e w1 ⟨rfl, hb1⟩; have f1 := cell_keep e1 hb1; have f2 := cell_keep e2 hb1; have f3 := cell_keep c0 hb1; have f4 := cell_keep d0 hb1; have hbA := below_keep hbw (Nat.le_refl _) hb1)
                  | (go_at_call 28; (with_reducible refine (HY.out _).mono ?_); rintro e w2 ⟨rfl, hb2⟩; have g1 := cell_keep f1 hb2; have g2 := cell_keep f2 hb2; have hbB := below_keep hbA (Nat.le_refl _) hb2)
                  | (go_at_call 25; (with_reducible refine (HI.out _).mono ?_); rintro e w3 ⟨rfl, rfl⟩))
                go_ret
                exact ⟨ret_int HR2.out, hbB⟩
              · have HR2 := Lib.hid (show (-1 : Int) = R by rw [← HNO.out, HD.out]; simp)
                go_wp2_with (first
                  | (go_at_call 28; (with_reducible refine (HX.out _).mono ?_); rintro e w1 ⟨rfl, hb1⟩; have f1 := cell_keep e1 hb1; have f2 := cell_keep e2 hb1; have f3 := cell_keep c0 hb1; have f4 := cell_keep d0 hb1; have hbA := below_keep hbw (Nat.le_refl _) hb1)
                  | (go_at_call 28; (with_reducible refine (HY.out _).mono ?_); rintro e w2 ⟨rfl, hb2⟩; have g1 := cell_keep f1 hb2; have g2 := cell_keep f2 hb2; have hbB := below_keep hbA (Nat.le_refl _) hb2)
                  | (go_at_call 25; (with_reducible refine (HI.out _).mono ?_); rintro e w3 ⟨rfl, rfl⟩))
                go_ret
                exact ⟨ret_int HR2.out, hbB⟩
              · have HD2 := Lib.hid (show cmpL (pre.drop k) (qre.drop k) = if ci ≠ 0 then ci else cmpL (pre.drop (k + 1)) (qre.drop (k + 1)) by rw [HD.out]; simp)
                by_cases hc : ci = 0
                · subst hc
                  have HR2 := Lib.hid (show cmpL (pre.drop (k + 1)) (qre.drop (k + 1)) = R by rw [← HNO.out, HD2.out, if_neg (by decide)])
                  go_wp2_with (first
                    | (go_at_call 28; (with_reducible refine (HX.out _).mono ?_); rintro e w1 ⟨rfl, hb1⟩; have f1 := cell_keep e1 hb1; have f2 := cell_keep e2 hb1; have f3 := cell_keep c0 hb1; have f4 := cell_keep d0 hb1; have hbA := below_keep hbw (Nat.le_refl _) hb1)
                    | (go_at_call 28; (with_reducible refine (HY.out _).mono ?_); rintro e w2 ⟨rfl, hb2⟩; have g1 := cell_keep f1 hb2; have g2 := cell_keep f2 hb2; have hbB := below_keep hbA (Nat.le_refl _) hb2)
                    | (go_at_call 25; (with_reducible refine (HI.out _).mono ?_); rintro e w3 ⟨rfl, rfl⟩))
                  exact ⟨⟨k + 1, rfl, hlt, HR2.out, g1, g2, hbB⟩, by simp [RowKit.intOf]; omega⟩
                · have hq : (ci != 0) = true := by simpa using hc
                  have HR2 := Lib.hid (show ci = R by rw [← HNO.out, HD2.out, if_pos hc])
                  clear hc
                  go_wp2_with (first
                    | (go_at_call 28; (with_reducible refine (HX.out _).mono ?_); rintro e w1 ⟨rfl, hb1⟩; have f1 := cell_keep e1 hb1; have f2 := cell_keep e2 hb1; have f3 := cell_keep c0 hb1; have f4 := cell_keep d0 hb1; have hbA := below_keep hbw (Nat.le_refl _) hb1)
                    | (go_at_call 28; (with_reducible refine (HY.out _).mono ?_); rintro e w2 ⟨rfl, hb2⟩; have g1 := cell_keep f1 hb2; have g2 := cell_keep f2 hb2; have hbB := below_keep hbA (Nat.le_refl _) hb2)
                    | (go_at_call 25; (with_reducible refine (HI.out _).mono ?_); rintro e w3 ⟨rfl, rfl⟩))
                  go_ret
                  exact ⟨ret_int HR2.out, hbB⟩
            · have HR2 := Lib.hid (show cmpI pre.length qre.length = R by rw [← HNO.out, cmpL_lens (by omega) (by omega) (by omega)])
              clear hf hg hat hbt
              go_wp2_with (go_at_call 25; (with_reducible refine (HLL.out _).mono ?_); rintro e w3 ⟨rfl, rfl⟩)
              go_ret
              exact ⟨ret_int HR2.out, hbw⟩
  · have hq : (F != 0) = true := by simpa using hF
    have HQ := Lib.hid (show R = F by rw [HR.out, if_pos hF])
    clear hF hat hbt hf hg
    go_enter Tryz.func8, Tryz.ntmps8
    go_upto_region 1 with fail
    refine wp_region_quiet_tail 20 (by kernel_rfl) (by kernel_rfl) ?_
    simp only [List.take_succ_cons, List.take_zero, List.drop_succ_cons, List.drop_zero]
    repeat (first
      | go_big_quiet_step (fail)
      | (go_big_quiet_want; go_big_quiet_op; (with_reducible refine ⟨_, H1.out _, ?_⟩); go_big_quiet_on)
      | (go_big_quiet_want; go_big_quiet_op; (with_reducible refine ⟨_, H2.out _, ?_⟩); go_big_quiet_on)
      | (go_big_quiet_want; go_big_quiet_op; (with_reducible refine ⟨_, H3.out _, ?_⟩); go_big_quiet_on)
      | (go_big_quiet_want; go_big_quiet_op; (with_reducible refine ⟨_, H4.out _, ?_⟩); go_big_quiet_on))
    refine wpQuiet_nil ?_
    go_wp2_with (first
      | (go_at_call 23; (with_reducible refine HOr.out.mono ?_); rintro e w5 ⟨rfl, rfl⟩))
    go_ret
    exact ⟨ret_int HQ.out.symm, HB2.out⟩
end Go.Proofs.YtnpnoohnkbpokaaGreatDoor

/- What checkRule and CheckRules answer. -/
import Derived.Test.YtooilpblbkgloaaGreatDoorRuleA
import Derived.Test.YtooilpblbkgloaaGreatDoorRowsG
namespace Go.Proofs.YtooilpblbkgloaaGreatDoor
open Go.RowKit Go.Lib

theorem below_a1 {B : Nat} {w wr w1 : World} {o : Obj} (h : Below B w wr) (hB : B ≤ wr.heap.size) (h1 : Below (wr.alloc o).heap.size (wr.alloc o) w1) : Below B w w1 :=
  (h.alloc hB o).trans (h1.mono (by simp; omega))

set_option maxHeartbeats 4000000 in
set_option maxRecDepth 100000 in
theorem checkRule_any (r : Ru) (v1 v2 : Value) (w : World) (h : RuV w v1 v2 r) :
    Calls Tryz.prog 29 #[.agg #[v1, v2]] w fun e w' => e = .returned (.int .i64 (ruErr r)) ∧ Below w.heap.size w w' := by
  obtain ⟨ms, ts⟩ := r
  obtain ⟨⟨p1, c1, rfl, hn1, hm1, hf1, h1⟩, ⟨p2, c2, rfl, hn2, hm2, hf2, h2⟩⟩ := h
  simp only at hn1 hn2 hf1 hf2 h1 h2 ⊢
  unfold maxLen at hm1 hm2
  have HE := Lib.hid (show ruErr ⟨ms, ts⟩ = if 8 < ms.length ∨ 8 < ts.length then 4 else if ts = [] then 7 else if msErr ms ≠ 0 then msErr ms else asErr ts from rfl)
  by_cases hl : 8 < ms.length ∨ 8 < ts.length
  · rw [if_pos hl] at HE
    rw [HE.out]
    have hd1 : decide ((8 : Int) < (ms.length : Int)) = decide (8 < ms.length) := by rw [Bool.eq_iff_iff]; simp; omega
    have hd2 : decide ((8 : Int) < (ts.length : Int)) = decide (8 < ts.length) := by rw [Bool.eq_iff_iff]; simp; omega
    by_cases ha : 8 < ms.length
    · rw [decide_eq_true ha] at hd1
      clear hd2 hl
      go_enter Tryz.func29, Tryz.ntmps29
      go_wp2_with fail
      go_ret
      exact ⟨rfl, (Below.refl _ _).alloc (Nat.le_refl _) _⟩
    · have hb : 8 < ts.length := by omega
      rw [decide_eq_false ha] at hd1
      rw [decide_eq_true hb] at hd2
      clear hl
      go_enter Tryz.func29, Tryz.ntmps29
      go_wp2_with fail
      go_ret
      exact ⟨rfl, (Below.refl _ _).alloc (Nat.le_refl _) _⟩
  · rw [if_neg hl] at HE
    have hl1 : ms.length ≤ 8 := by omega
    have hl2 : ts.length ≤ 8 := by omega
    clear hl
    by_cases h0 : ts = []
    · subst h0
      rw [if_pos rfl] at HE
      rw [HE.out]
      simp only [List.length_nil]
      go_enter Tryz.func29, Tryz.ntmps29
      go_wp2_with fail
      go_ret
      exact ⟨rfl, (Below.refl _ _).alloc (Nat.le_refl _) _⟩
    · rw [if_neg h0] at HE
      have hl3 : 0 < ts.length := List.length_pos_iff.2 h0
      have hz : ((ts.length : Int) == 0) = false := by rw [beq_eq_false_iff_ne]; omega
      clear h0
      obtain ⟨n1, e1⟩ : ∃ n, n = ms.length := ⟨_, rfl⟩
      obtain ⟨n2, e2⟩ : ∃ n, n = ts.length := ⟨_, rfl⟩
      rw [← e1] at hl1 hn1
      rw [← e2] at hl2 hl3 hz hn2
      rw [← e1, ← e2]
      have E1 := Lib.hid e1
      have E2 := Lib.hid e2
      have H1 := Lib.hid h1
      have H2 := Lib.hid h2
      clear e1 e2 h1 h2
      go_enter Tryz.func29, Tryz.ntmps29
      go_wp2_with fail
      go_loopw [26] (fun v wr => ∃ k : Nat, v = .int .i64 k ∧ k ≤ n1 ∧ msErr ms = msErr (ms.drop k) ∧ wr.cell? ⟨w.heap.size, 1, none⟩ = some (.slice p2 n2 c2) ∧ w.heap.size < wr.heap.size ∧ Below w.heap.size w wr) (fun v _ => n1 - (RowKit.intOf v).toNat)
      case atStart => exact ⟨0, rfl, Nat.zero_le _, rfl, by go_simp, by simp, (Below.refl _ _).alloc (Nat.le_refl _) _⟩
      case round =>
        obtain ⟨k, rfl, hk, heq, hbox, hsz, hbw⟩ := hrel
        have HEQ := Lib.hid heq
        clear heq
        by_cases hlt : k < n1
        · have hkl : k < ms.length := by rw [← E1.out]; exact hlt
          obtain ⟨b, off, rfl, hb, hc⟩ : ∃ b off, p1 = some ⟨b, off, none⟩ ∧ b < w.heap.size ∧ AtG encM 3 w b off ms := by
            rcases H1.out with h | h
            · rw [h] at hkl; simp at hkl
            · exact h
          obtain ⟨q0, q1, q2⟩ := hc.mat hkl
          have q0 := (hbw.cell (p := ⟨b, _, none⟩) hb).trans q0
          have q1 := (hbw.cell (p := ⟨b, _, none⟩) hb).trans q1
          have q2 := (hbw.cell (p := ⟨b, _, none⟩) hb).trans q2
          have HD := Lib.hid (List.drop_eq_getElem_cons hkl)
          have hfs := hf1 _ (List.getElem_mem hkl)
          generalize ms[k] = m at *
          have HM := Lib.hid (fun W => checkMatch_any m W hfs)
          unfold mVal at HM
          have hboxa : ∀ x, (wr.alloc x).cell? ⟨w.heap.size, 1, none⟩ = some (.slice p2 n2 c2) := fun x => by rw [World.cell?_alloc_lt _ _ _ hsz]; exact hbox
          have HBX := Lib.hid hboxa
          clear hboxa
          by_cases hz2 : mErr m = 0
          · have HR := Lib.hid (show msErr ms = msErr (ms.drop (k + 1)) by rw [HEQ.out, HD.out, msErr_next hz2])
            rw [hz2] at HM
            clear hz2
            go_wp2_with (go_at_call 53; refine (HM.out _).mono ?_; rintro e' w1 ⟨rfl, hb1⟩)
            exact ⟨⟨k + 1, rfl, hlt, HR.out, (hb1.cell (p := ⟨w.heap.size, 1, none⟩) (by simp; omega)).trans (HBX.out _), by have := hb1.size; simp at this; omega, below_a1 hbw hbw.size hb1⟩, by simp [RowKit.intOf]; omega⟩
          · have hq : (mErr m != 0) = true := by simpa using hz2
            have HR := Lib.hid (show ruErr ⟨ms, ts⟩ = mErr m by
              have : msErr ms = mErr m := by rw [HEQ.out, HD.out, msErr_bad hz2]
              rw [HE.out, this, if_pos hz2])
            clear hz2
            generalize mErr m = E at *
            go_wp2_with (go_at_call 53; refine (HM.out _).mono ?_; rintro e' w1 ⟨rfl, hb1⟩)
            go_ret
            exact ⟨ret_int HR.out.symm, below_a1 hbw hbw.size hb1⟩
        · have HR0 := Lib.hid (show ruErr ⟨ms, ts⟩ = asErr ts by
            have : msErr ms = 0 := by rw [HEQ.out, List.drop_of_length_le (by rw [← E1.out]; omega)]; rfl
            rw [HE.out, if_neg (by omega)])
          go_wp2_with fail
          go_loopw [39] (fun v wr => ∃ k : Nat, v = .int .i64 k ∧ k ≤ n2 ∧ asErr ts = asErr (ts.drop k) ∧ Below w.heap.size w wr) (fun v _ => n2 - (RowKit.intOf v).toNat)
          case atStart => exact ⟨0, rfl, Nat.zero_le _, rfl, hbw⟩
          obtain ⟨j, rfl, hj, heq2, hbw2⟩ := hrel
          have HEQ2 := Lib.hid heq2
          clear heq2
          by_cases hlt2 : j < n2
          · have hjl : j < ts.length := by rw [← E2.out]; exact hlt2
            obtain ⟨b, off, rfl, hb, hc⟩ : ∃ b off, p2 = some ⟨b, off, none⟩ ∧ b < w.heap.size ∧ AtG encA 3 w b off ts := by
              rcases H2.out with h | h
              · rw [h] at hjl; simp at hjl
              · exact h
            obtain ⟨q0, q1, q2⟩ := hc.act hjl
            have q0 := (hbw2.cell (p := ⟨b, _, none⟩) hb).trans q0
            have q1 := (hbw2.cell (p := ⟨b, _, none⟩) hb).trans q1
            have q2 := (hbw2.cell (p := ⟨b, _, none⟩) hb).trans q2
            have HD := Lib.hid (List.drop_eq_getElem_cons hjl)
            have hfs := hf2 _ (List.getElem_mem hjl)
            generalize ts[j] = m at *
            have HM := Lib.hid (fun W => checkAct_any m W hfs)
            unfold aVal at HM
            by_cases hz2 : aErr m = 0
            · have HR := Lib.hid (show asErr ts = asErr (ts.drop (j + 1)) by rw [HEQ2.out, HD.out, asErr_next hz2])
              rw [hz2] at HM
              clear hz2
              go_wp2_with (go_at_call 54; refine (HM.out _).mono ?_; rintro e' w1 ⟨rfl, hb1⟩)
              exact ⟨⟨j + 1, rfl, hlt2, HR.out, below_a1 hbw2 hbw2.size hb1⟩, by simp [RowKit.intOf]; omega⟩
            · have hq : (aErr m != 0) = true := by simpa using hz2
              have HR := Lib.hid (show ruErr ⟨ms, ts⟩ = aErr m by rw [HR0.out, HEQ2.out, HD.out, asErr_bad hz2])
              clear hz2
              generalize aErr m = E at *
              go_wp2_with (go_at_call 54; refine (HM.out _).mono ?_; rintro e' w1 ⟨rfl, hb1⟩)
              go_ret
              exact ⟨ret_int HR.out.symm, below_a1 hbw2 hbw2.size hb1⟩
          · have HR := Lib.hid (show ruErr ⟨ms, ts⟩ = 0 by rw [HR0.out, HEQ2.out, List.drop_of_length_le (by rw [← E2.out]; omega)]; rfl)
            go_wp2_with fail
            go_ret
            exact ⟨ret_int HR.out.symm, hbw2⟩

set_option maxHeartbeats 2000000 in
set_option maxRecDepth 100000 in
theorem checkRules_any (v : Value) (l : List Ru) (w : World) (h : RsV w v l) :
    Calls Tryz.prog 12 #[v] w fun e w' => e = .returned (.int .i64 (rulesErr l)) ∧ Below w.heap.size w w' := by
  obtain ⟨p, c, rfl, hn, hm, h1⟩ := h
  unfold maxLen at hm
  have HE := Lib.hid (show rulesErr l = if 100 < l.length then 4 else rusErr l from rfl)
  by_cases hl : 100 < l.length
  · rw [if_pos hl] at HE
    rw [HE.out]
    go_enter Tryz.func12, Tryz.ntmps12
    go_wp2_with fail
    go_ret
    exact ⟨rfl, Below.refl _ _⟩
  · rw [if_neg hl] at HE
    obtain ⟨n, e1⟩ : ∃ n, n = l.length := ⟨_, rfl⟩
    rw [← e1] at hn hl
    rw [← e1]
    have E1 := Lib.hid e1
    have H1 := Lib.hid h1
    clear e1 h1
    go_enter Tryz.func12, Tryz.ntmps12
    go_wp2_with fail
    go_loopw [11] (fun v wr => ∃ k : Nat, v = .int .i64 k ∧ k ≤ n ∧ rusErr l = rusErr (l.drop k) ∧ Below w.heap.size w wr) (fun v _ => n - (RowKit.intOf v).toNat)
    case atStart => exact ⟨0, rfl, Nat.zero_le _, rfl, Below.refl _ _⟩
    case round =>
      obtain ⟨k, rfl, hk, heq, hbw⟩ := hrel
      have HEQ := Lib.hid heq
      clear heq
      by_cases hlt : k < n
      · have hkl : k < l.length := by rw [← E1.out]; exact hlt
        obtain ⟨b, off, rfl, hb, hc⟩ : ∃ b off, p = some ⟨b, off, none⟩ ∧ b < w.heap.size ∧ ∀ i (h : i < l.length), ∃ v1 v2, w.cell? ⟨b, off + i * 2, none⟩ = some v1 ∧ w.cell? ⟨b, off + i * 2 + 1, none⟩ = some v2 ∧ RuV w v1 v2 l[i] := by
          rcases H1.out with h | h
          · rw [h] at hkl; simp at hkl
          · exact h
        obtain ⟨v1, v2, q0, q1, hr⟩ := hc k hkl
        have q0 := (hbw.cell (p := ⟨b, _, none⟩) hb).trans q0
        have q1 := (hbw.cell (p := ⟨b, _, none⟩) hb).trans q1
        have HD := Lib.hid (List.drop_eq_getElem_cons hkl)
        generalize l[k] = r at *
        have HM := Lib.hid (fun (o : Obj) => checkRule_any r v1 v2 (wr.alloc o) (hr.below (Nat.le_refl _) (hbw.alloc hbw.size o)))
        obtain ⟨⟨a1, k1, rfl, _⟩, ⟨a2, k2, rfl, _⟩⟩ := hr
        by_cases hz2 : ruErr r = 0
        · have HR := Lib.hid (show rusErr l = rusErr (l.drop (k + 1)) by rw [HEQ.out, HD.out, rusErr_next hz2])
          rw [hz2] at HM
          clear hz2 hc
          go_wp2_with (go_at_call 29; refine (HM.out _).mono ?_; rintro e' w1 ⟨rfl, hb1⟩)
          exact ⟨⟨k + 1, rfl, hlt, HR.out, below_a1 hbw hbw.size hb1⟩, by simp [RowKit.intOf]; omega⟩
        · have hq : (ruErr r != 0) = true := by simpa using hz2
          have HR := Lib.hid (show rulesErr l = ruErr r by rw [HE.out, HEQ.out, HD.out, rusErr_bad hz2])
          clear hz2 hc
          generalize ruErr r = E at *
          go_wp2_with (go_at_call 29; refine (HM.out _).mono ?_; rintro e' w1 ⟨rfl, hb1⟩)
          go_ret
          exact ⟨ret_int HR.out.symm, below_a1 hbw hbw.size hb1⟩
      · have HR := Lib.hid (show rulesErr l = 0 by rw [HE.out, HEQ.out, List.drop_of_length_le (by rw [← E1.out]; omega)]; rfl)
        go_wp2_with fail
        go_ret
        exact ⟨ret_int HR.out.symm, hbw⟩
end Go.Proofs.YtooilpblbkgloaaGreatDoor

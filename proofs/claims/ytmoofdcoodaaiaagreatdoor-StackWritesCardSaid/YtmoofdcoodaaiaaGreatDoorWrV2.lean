/- What the reference's Written answers, at a form. -/
import Derived.Test.YtmoofdcoodaaiaaGreatDoorWrV
namespace Go.Proofs.YtmoofdcoodaaiaaGreatDoor
open Go.RowKit Go.Lib

set_option maxHeartbeats 8000000 in
set_option maxRecDepth 100000 in
theorem written2 (v : Value) (l : List Fa) (w : World) (hv : SlA w v l) (hok : fasErr l = 0) (ha : ambs l = false) :
    Calls Tryz.prog 7 #[v, .int .i64 2] w fun e w' => e = .returned (.tuple #[.string (bs (tx (lines l 2))), .bool true]) ∧ Below w.heap.size w w' := by
  obtain ⟨i0, hi', hz0, hz1, hz2⟩ := info_parts infoS
  obtain ⟨hl10, hall⟩ := fas_ok hok
  obtain ⟨p, cap, rfl, h1, h2, h3, h4⟩ := hv
  unfold maxLen at h2
  obtain ⟨n, hn⟩ : ∃ n, n = l.length := ⟨_, rfl⟩
  have HN := Lib.hid hn
  have HA := Lib.hid (ambs_false ha)
  rw [← hn] at h1 hl10 ⊢
  clear hn hok ha
  go_enter Tryz.func7, Tryz.ntmps7
  go_wp2_with fail
  go_loopw [25] (fun v25 wr => ∃ k : Nat, k ≤ n ∧ v25 = .int .i64 k ∧ Below w.heap.size w wr) (fun v25 _ => n - (RowKit.intOf v25).toNat)
  case atStart => exact ⟨0, Nat.zero_le _, rfl, Below.refl _ _⟩
  case round =>
    obtain ⟨w2, rfl⟩ : ∃ w2 : World, w2 = wr := ⟨_, rfl⟩
    obtain ⟨k, hk, rfl, hbw⟩ := hrel
    by_cases hlt : k < n
    · have hkl : k < l.length := by have := HN.out; omega
      rcases h4 with h4 | ⟨bb, off, rfl, hbb, hat⟩
      · rw [h4] at hkl; simp at hkl
      obtain ⟨c0, c1, c2⟩ := (hat k hkl).below hbb hbw
      have hfk := (h3 _ (List.getElem_mem hkl)).2.2
      have hfo := hall _ (List.getElem_mem hkl)
      have HAF := Lib.hid (HA.out _ (List.getElem_mem hkl))
      generalize l[k] = f at *
      obtain ⟨kd, tv, fv, fr⟩ := f
      obtain ⟨-, -, hf3, hf4⟩ := hfo
      simp only at c0 c1 c2 hfk hf3 hf4 HAF
      obtain ⟨q, qc, rfl, hq1, hq2, -, hq4⟩ := hfk
      unfold maxLen at hq2
      obtain ⟨nf, hnf⟩ : ∃ nf, nf = fr.length := ⟨_, rfl⟩
      have HNF := Lib.hid hnf
      rw [← hnf] at c2 hf3 hq1
      clear hnf hat hkl
      have hbwA := hbw.alloc hbw.size (.cells #[.string kd, .string tv, .slice q nf qc] 44)
      go_wp2_with fail
      clear c0 c1 c2
      go_loopw [32] (fun v32 wr => ∃ j : Nat, j ≤ nf ∧ v32 = .int .i64 j ∧ Below w.heap.size w wr) (fun v32 _ => nf - (RowKit.intOf v32).toNat)
      case atStart => exact ⟨0, Nat.zero_le _, rfl, hbwA⟩
      case round =>
        obtain ⟨w5, rfl⟩ : ∃ w5 : World, w5 = wr := ⟨_, rfl⟩
        obtain ⟨j, hj, rfl, hbw5⟩ := hrel
        by_cases hjl : j < nf
        · have jl : j < fr.length := by have := HNF.out; omega
          rcases hq4 with hq4 | ⟨qb, qo, rfl, hqb, hqat⟩
          · rw [hq4] at jl; simp at jl
          obtain ⟨x0, x1, x2, x3, x4, x5⟩ := (hqat j jl).below hqb hbw5
          have hxo := hf4 _ (List.getElem_mem jl)
          have HB := Lib.hid (HAF.out _ (List.getElem_mem jl))
          generalize fr[j] = x at *
          clear hqat jl
          have g1 := hxo.m
          have g2 := hxo.f
          obtain ⟨A, hA⟩ : ∃ A, x.m ++ x.f = A := ⟨_, rfl⟩
          rw [hA] at HB
          have HC := Lib.hid (fun W => contains_bang A W)
          rw [HB.out] at HC
          have hbwB := hbw5.alloc hbw5.size (.cells #[.string x.m, .string x.f, .string x.i, .int .i64 x.line, .int .i64 x.addr, .bool x.own] 54)
          go_wp2_with (go_at_call 19; (with_reducible refine (HC.out _).mono ?_); rintro e w6 ⟨rfl, rfl⟩)
          exact ⟨⟨j + 1, by omega, by go_num, hbwB⟩, by simp [RowKit.intOf] <;> omega⟩
        · go_wp2_with fail
          exact ⟨⟨k + 1, by omega, by go_num, hbw5⟩, by simp [RowKit.intOf] <;> omega⟩
    · have hoN := World.ownsRow_nil w2 w.heap.size 9 1
      go_wp2_with fail
      clear hlt HA
      go_loopw [10, 17] (fun v10 v17 wr => ∃ (m : Nat) (c : Int) (cn : Nat) (L : List (List UInt8)), m ≤ n ∧ v17 = .int .i64 c ∧ Hid (c = (m : Int) - 1) ∧ Hid (L = outDn l (n - m)) ∧ Hid (∀ x ∈ L, x.length ≤ 3000) ∧ cn ≤ (n - m) * 203 ∧ wr.ownsRow w.heap.size 9 1 v10 cn (svL L) ∧ Below w.heap.size w wr) (fun _ v17 _ => (RowKit.intOf v17 + 1).toNat)
      case atStart => exact ⟨n, _, 0, [], Nat.le_refl _, rfl, Lib.hid (by go_num), Lib.hid (by rw [Nat.sub_self]; rfl), Lib.hid (by simp), by simp, hoN, hbw⟩
      clear hoN hbw
      clear w2
      obtain ⟨u0, rfl⟩ : ∃ u0 : World, u0 = wr := ⟨_, rfl⟩
      obtain ⟨m, c, cn, L, hm, rfl, HC, HL, HLL, hcn, hou0, hBu0⟩ := hrel
      have hsu0 := hBu0.size
      by_cases hm0 : m = 0
      · have hc : c = -1 := by have := HC.out; omega
        subst hc
        subst hm0
        have HJ := Lib.hid (show L = lines l 2 by rw [HL.out, Nat.sub_zero, HN.out]; rfl)
        have hlc := own_cnt hou0
        have HLC := Lib.hid hlc
        clear hlc
        have hcn2 : cn ≤ 2030 := by omega
        go_wp2_with (first
          | (at_builtin; refine wpList_append_own _ rfl _ _ 56 rfl w.heap.size 9 i0 (.string ⟨#[]⟩) 1 16 Tryz.underlying56 hi' hz0 hz1 hz2 rfl (by decide) _ _ _ rfl (hou0.alloc (.cells #[.string ⟨#[]⟩] 9)) ⟨u0.heap.size, 0, none⟩ 1 1 [.string ⟨#[]⟩] rfl rfl (cell_new u0 _ 9) (one_cell _) (by unfold maxLen; omega) (by omega) (by simp; omega) ?_; intro v1 u1 hou1 hgu1 _; have hBu1 := below_grown (hBu0.alloc hsu0 (.cells #[.string ⟨#[]⟩] 9)) hgu1 (own_base hou0) (by simp; omega); have hsu1 := hBu1.size; have hoj1 : u1.ownsRow w.heap.size 9 1 v1 (cn + 1) (svL (L ++ [[]])) := (by rw [svL_snoc]; exact hou1))
          | (go_at_call 26; (with_reducible refine (join_lines hoj1 (by rw [← HLC.out]; omega) HLL.out).mono ?_); rintro e u2 ⟨rfl, hbu2⟩))
        go_ret2
        exact ⟨by rw [HJ.out]; rfl, below_keep hBu1 (Nat.le_refl _) hbu2⟩
      · obtain ⟨i, rfl⟩ : ∃ i, m = i + 1 := ⟨m - 1, by omega⟩
        have hc : c = (i : Int) := by have := HC.out; omega
        subst hc
        clear HC hm0
        have hil : i < n := by omega
        have hkl : i < l.length := by have := HN.out; omega
        rcases h4 with h4 | ⟨bb, off, rfl, hbb, hat⟩
        · rw [h4] at hkl; simp at hkl
        have hati := hat i hkl
        have hfo := hall _ (List.getElem_mem hkl)
        have hfk := h3 _ (List.getElem_mem hkl)
        have HTK := Lib.hid (outDn_succ l i hkl)
        generalize l[i] = f at *
        have hhl := headL_len hfo
        obtain ⟨kd, tv, fv, fr⟩ := f
        obtain ⟨hf1, hf2, hf3, hf4⟩ := hfo
        obtain ⟨-, -, hfv⟩ := hfk
        simp only at hf1 hf2 hf3 hf4 hfv
        obtain ⟨q, qc, rfl, hq1, hq2, -, hq4⟩ := hfv
        unfold maxLen at hq2
        clear hat hkl
        obtain ⟨nf, hnf⟩ : ∃ nf, nf = fr.length := ⟨_, rfl⟩
        have HNF := Lib.hid hnf
        have HAT := Lib.hid hati
        clear hati
        have HH := Lib.hid (fun W => headR_any kd tv (.slice q fr.length qc) W hf1 hf2 ⟨_, _, _, rfl⟩)
        rw [← hnf] at hf3 hq1 HH
        have HC2 := Lib.hid (show ∀ W, Below w.heap.size w W → W.cell? ⟨bb, off + i * 3 + 2, none⟩ = some (.slice q nf qc) from fun W hW => by rw [hnf]; exact (HAT.out.below hbb hW).2.2)
        clear hnf
        have q1 : n - i = (n - (i + 1)) + 1 := by omega
        have q2 : (n - i) * 203 = (n - (i + 1)) * 203 + 203 := by rw [q1, Nat.add_mul]
        have q3 : (n - (i + 1)) * 203 ≤ 9 * 203 := Nat.mul_le_mul_right _ (by omega)
        have Q12 := Lib.hid (And.intro q1 q2)
        clear q1 q2
        have hcn2 : cn ≤ 2000 := by omega
        go_wp2_with (at_builtin; refine wpList_append_own _ rfl _ _ 56 rfl w.heap.size 9 i0 (.string ⟨#[]⟩) 1 16 Tryz.underlying56 hi' hz0 hz1 hz2 rfl (by decide) _ _ _ rfl (hou0.alloc (.cells #[.string ⟨#[84, 114, 97, 99, 101, 98, 97, 99, 107, 58]⟩] 9)) ⟨u0.heap.size, 0, none⟩ 1 1 [.string ⟨#[84, 114, 97, 99, 101, 98, 97, 99, 107, 58]⟩] rfl rfl (cell_new u0 _ 9) (one_cell _) (by unfold maxLen; omega) (by omega) (by simp; omega) ?_; intro v1 u1 hou1 hgu1 _; have hBu1 := below_grown (hBu0.alloc hsu0 (.cells #[.string ⟨#[84, 114, 97, 99, 101, 98, 97, 99, 107, 58]⟩] 9)) hgu1 (own_base hou0) (by simp; omega); have hsu1 := hBu1.size; have c2 := HC2.out u1 hBu1)
        have HL1 := Lib.hid (show svL L ++ [.string ⟨#[84, 114, 97, 99, 101, 98, 97, 99, 107, 58]⟩] = svL (L ++ [tbL] ++ (((fr.drop nf).reverse).map outLn)) by
          rw [HNF.out, List.drop_length, List.reverse_nil, List.map_nil, List.append_nil, svL_snoc]; rfl)
        rw [HL1.out] at hou1
        clear hou0 hgu1 hBu0 hsu0
        clear c2
        go_loopw [10, 18] (fun v10 v18 wr => ∃ (m : Nat) (c : Int) (cm : Nat), m ≤ nf ∧ v18 = .int .i64 c ∧ Hid (c = (m : Int) - 1) ∧ cm ≤ cn + 1 + (nf - m) ∧ wr.ownsRow w.heap.size 9 1 v10 cm (svL (L ++ [tbL] ++ (((fr.drop m).reverse).map outLn))) ∧ Below w.heap.size w wr) (fun _ v18 _ => (RowKit.intOf v18 + 1).toNat)
        case atStart => exact ⟨nf, _, _, Nat.le_refl _, rfl, Lib.hid (by go_num), by rw [Nat.sub_self]; exact Nat.le_refl _, hou1, hBu1⟩
        case round =>
          clear hou1 hBu1 hsu1
          obtain ⟨u4, rfl⟩ : ∃ u4 : World, u4 = wr := ⟨_, rfl⟩
          obtain ⟨m, c, cm, hm, rfl, HC, hcm, hou4, hBu4⟩ := hrel
          have hsu4 := hBu4.size
          by_cases hm0 : m = 0
          · have hc : c = -1 := by have := HC.out; omega
            subst hc
            subst hm0
            obtain ⟨c0, c1, -⟩ := HAT.out.below hbb hBu4
            have c2 := HC2.out u4 hBu4
            simp only at c0 c1
            have HOUT := Lib.hid (show ∀ X, L ++ ([tbL] ++ ((fr.drop 0).reverse).map outLn ++ [headL ⟨kd, tv, .slice q fr.length qc, fr⟩] ++ X) = L ++ [tbL] ++ ((fr.drop 0).reverse).map outLn ++ [d (headB kd tv)] ++ X from fun X => by
              simp only [List.append_assoc]; rfl)
            have HFA := Lib.hid (show outFa i ⟨kd, tv, .slice q fr.length qc, fr⟩ = [tbL] ++ ((fr.drop 0).reverse).map outLn ++ [headL ⟨kd, tv, .slice q fr.length qc, fr⟩] ++ (if i = 0 then [] else [ledL]) from rfl)
            have HHB := Lib.hid (show (Value.string (headB kd tv)) = .string (bs (d (headB kd tv))) by rw [show bs (d (headB kd tv)) = headB kd tv from bs_of _])
            have HBIG := Lib.hid (show ∀ x ∈ L ++ [tbL] ++ ((fr.drop 0).reverse).map outLn ++ [d (headB kd tv)] ++ [ledL], x.length ≤ 3000 by
              intro x hx
              simp only [List.mem_append, List.mem_singleton, List.mem_map, List.mem_reverse, List.drop_zero] at hx
              rcases hx with (((hx | hx) | ⟨y, hy, rfl⟩) | hx) | hx
              · exact HLL.out x hx
              · subst hx; decide
              · have := lineL_len (hf4 y hy)
                unfold outLn; rw [List.length_append]; simp; omega
              · subst hx; rw [d_len]; have := headB_len hf1 hf2; omega
              · subst hx; decide)
            have hcm2 : cm ≤ 2300 := by omega
            by_cases hi0 : i = 0
            · have HI0 := Lib.hid hi0
              have hi1 : ¬ (0 : Int) < (i : Int) := by omega
              have hi2 : ((0 : Int) < (i : Int)) = False := by simp; omega
              clear hi0
              go_wp2_with (first
                | (go_at_call 20; (with_reducible refine (HH.out _).mono ?_); rintro e u5 ⟨rfl, hbu5⟩; have hBu5 := below_keep hBu4 (Nat.le_refl _) hbu5; have hsu5 := hBu5.size; have hou5 := own_keeps hou4 hbu5)
                | (at_builtin; refine wpList_append_own _ rfl _ _ 56 rfl w.heap.size 9 i0 (.string ⟨#[]⟩) 1 16 Tryz.underlying56 hi' hz0 hz1 hz2 rfl (by decide) _ _ _ rfl (hou5.alloc (.cells #[.string (headB kd tv)] 9)) ⟨u5.heap.size, 0, none⟩ 1 1 [.string (headB kd tv)] rfl rfl (cell_new u5 _ 9) (one_cell _) (by unfold maxLen; omega) (by omega) (by simp; omega) ?_; intro v6 u6 hou6 hgu6 _; have hBu6 := below_grown (hBu5.alloc hsu5 (.cells #[.string (headB kd tv)] 9)) hgu6 (own_base hou5) (by simp; omega); have hsu6 := hBu6.size))
              refine ⟨⟨i, _, cm + 1, L ++ outFa i ⟨kd, tv, .slice q fr.length qc, fr⟩, by omega, rfl, Lib.hid (by go_num), Lib.hid ?_, Lib.hid ?_, ?_, ?_, hBu6⟩, by simp [RowKit.intOf] <;> omega⟩
              · rw [HN.out, HTK.out, HL.out, HN.out]
              · rw [HFA.out, if_pos HI0.out, HOUT.out, List.append_nil]
                exact fun x hx => HBIG.out x (List.mem_append_left _ hx)
              · have := Q12.out.2; omega
              · rw [HFA.out, if_pos HI0.out, HOUT.out, List.append_nil, svL_snoc, ← HHB.out]; exact hou6
            · have HI0 := Lib.hid hi0
              have hi1 : (0 : Int) < (i : Int) := by omega
              clear hi0
              go_wp2_with (first
                | (go_at_call 20; (with_reducible refine (HH.out _).mono ?_); rintro e u5 ⟨rfl, hbu5⟩; have hBu5 := below_keep hBu4 (Nat.le_refl _) hbu5; have hsu5 := hBu5.size; have hou5 := own_keeps hou4 hbu5)
                | (at_builtin; refine wpList_append_own _ rfl _ _ 56 rfl w.heap.size 9 i0 (.string ⟨#[]⟩) 1 16 Tryz.underlying56 hi' hz0 hz1 hz2 rfl (by decide) _ _ _ rfl (hou5.alloc (.cells #[.string (headB kd tv)] 9)) ⟨u5.heap.size, 0, none⟩ 1 1 [.string (headB kd tv)] rfl rfl (cell_new u5 _ 9) (one_cell _) (by unfold maxLen; omega) (by omega) (by simp; omega) ?_; intro v6 u6 hou6 hgu6 _; have hBu6 := below_grown (hBu5.alloc hsu5 (.cells #[.string (headB kd tv)] 9)) hgu6 (own_base hou5) (by simp; omega); have hsu6 := hBu6.size)
                | (at_builtin; refine wpList_append_own _ rfl _ _ 56 rfl w.heap.size 9 i0 (.string ⟨#[]⟩) 1 16 Tryz.underlying56 hi' hz0 hz1 hz2 rfl (by decide) _ _ _ rfl (hou6.alloc (.cells #[.string ⟨#[119, 104, 105, 99, 104, 32, 108, 101, 100, 32, 116, 111, 58]⟩] 9)) ⟨u6.heap.size, 0, none⟩ 1 1 [.string ⟨#[119, 104, 105, 99, 104, 32, 108, 101, 100, 32, 116, 111, 58]⟩] rfl rfl (cell_new u6 _ 9) (one_cell _) (by unfold maxLen; omega) (by omega) (by simp; omega) ?_; intro v7 u7 hou7 hgu7 _; have hBu7 := below_grown (hBu6.alloc hsu6 (.cells #[.string ⟨#[119, 104, 105, 99, 104, 32, 108, 101, 100, 32, 116, 111, 58]⟩] 9)) hgu7 (own_base hou6) (by simp; omega); have hsu7 := hBu7.size))
              refine ⟨⟨i, _, cm + 1 + 1, L ++ outFa i ⟨kd, tv, .slice q fr.length qc, fr⟩, by omega, rfl, Lib.hid (by go_num), Lib.hid ?_, Lib.hid ?_, ?_, ?_, hBu7⟩, by simp [RowKit.intOf] <;> omega⟩
              · rw [HN.out, HTK.out, HL.out, HN.out]
              · rw [HFA.out, if_neg HI0.out, HOUT.out]
                exact HBIG.out
              · have := Q12.out.2; omega
              · rw [HFA.out, if_neg HI0.out, HOUT.out, svL_snoc, svL_snoc, ← HHB.out]; exact hou7
          · obtain ⟨j, rfl⟩ : ∃ j, m = j + 1 := ⟨m - 1, by omega⟩
            have hc : c = (j : Int) := by have := HC.out; omega
            subst hc
            clear HC hm0
            have jl : j < fr.length := by have := HNF.out; omega
            have hjl : j < nf := by omega
            rcases hq4 with hq4 | ⟨qb, qo, rfl, hqb, hqat⟩
            · rw [hq4] at jl; simp at jl
            obtain ⟨x0, x1, x2, x3, x4, x5⟩ := (hqat j jl).below hqb hBu4
            have c2 := HC2.out u4 hBu4
            have hxo := hf4 _ (List.getElem_mem jl)
            have HSK := Lib.hid (rev_take fr j jl)
            generalize fr[j] = x at *
            clear hqat jl
            have HLINE := Lib.hid (fun W => lineR_any x W hxo)
            have hll := lineL_len hxo
            have hlz : (bs (lineL x)).size ≤ 641 := by rw [bs_size]; exact hll
            clear hll
            have HOL := Lib.hid (show (⟨#[32, 32]⟩ : ByteArray) ++ bs (lineL x) = bs (outLn x) by
              apply data_inj; rw [app_data, bs_data, bs_data]; rfl)
            obtain ⟨Y, hY⟩ : ∃ Y, bs (lineL x) = Y := ⟨_, rfl⟩
            rw [hY] at hlz HOL HLINE
            clear hY
            obtain ⟨A, hA⟩ : ∃ A, (⟨#[32, 32]⟩ : ByteArray) ++ Y = A := ⟨_, rfl⟩
            rw [hA] at HOL
            have hzz2 : (⟨#[32, 32]⟩ : ByteArray).size = 2 := rfl
            have hcm2 : cm ≤ 2300 := by omega
            go_wp2_with (first
              | (go_at_call 22; (with_reducible refine (HLINE.out _).mono ?_); rintro e u5 ⟨rfl, hbu5⟩; have hBu5 := below_keep hBu4 (Nat.le_refl _) hbu5; have hsu5 := hBu5.size; have hou5 := own_keeps hou4 hbu5)
              | (at_builtin; refine wpList_append_own _ rfl _ _ 56 rfl w.heap.size 9 i0 (.string ⟨#[]⟩) 1 16 Tryz.underlying56 hi' hz0 hz1 hz2 rfl (by decide) _ _ _ rfl (hou5.alloc (.cells #[.string A] 9)) ⟨u5.heap.size, 0, none⟩ 1 1 [.string A] rfl rfl (cell_new u5 _ 9) (one_cell _) (by unfold maxLen; omega) (by omega) (by simp; omega) ?_; intro v6 u6 hou6 hgu6 _; have hBu6 := below_grown (hBu5.alloc hsu5 (.cells #[.string A] 9)) hgu6 (own_base hou5) (by simp; omega); have hsu6 := hBu6.size))
            refine ⟨⟨j, _, cm + 1, by omega, rfl, Lib.hid (by go_num), by omega, ?_, hBu6⟩, by simp [RowKit.intOf] <;> omega⟩
            rw [HSK.out, List.map_append, ← List.append_assoc, List.map_singleton, svL_snoc, ← HOL.out]; exact hou6

end Go.Proofs.YtmoofdcoodaaiaaGreatDoor

/- What the reference's Written answers, at a form. -/
import Derived.Test.YtmoofdcoodaaiaaGreatDoorWrV
namespace Go.Proofs.YtmoofdcoodaaiaaGreatDoor
open Go.RowKit Go.Lib

set_option maxHeartbeats 8000000 in
set_option maxRecDepth 100000 in
theorem written1 (v : Value) (l : List Fa) (w : World) (hv : SlA w v l) (hok : fasErr l = 0) (ha : ambs l = false) :
    Calls Tryz.prog 7 #[v, .int .i64 1] w fun e w' => e = .returned (.tuple #[.string (bs (tx (lines l 1))), .bool true]) ∧ Below w.heap.size w w' := by
  obtain ⟨i0, hi', hz0, hz1, hz2⟩ := info_parts infoS
  obtain ⟨hl10, hall⟩ := fas_ok hok
  obtain ⟨p, cap, rfl, h1, h2, h3, h4⟩ := hv
  unfold maxLen at h2
  obtain ⟨n, hn⟩ : ∃ n, n = l.length := ⟨_, rfl⟩
  have HN := Lib.hid hn
  have HA := Lib.hid (ambs_false ha)
  rw [← hn] at h1 hl10 ⊢
  clear hn hok ha
  go_enter Tryz.func7, Tryz.ntmps7
  go_wp2_with fail
  go_loopw [25] (fun v25 wr => ∃ k : Nat, k ≤ n ∧ v25 = .int .i64 k ∧ Below w.heap.size w wr) (fun v25 _ => n - (RowKit.intOf v25).toNat)
  case atStart => exact ⟨0, Nat.zero_le _, rfl, Below.refl _ _⟩
  case round =>
    obtain ⟨w2, rfl⟩ : ∃ w2 : World, w2 = wr := ⟨_, rfl⟩
    obtain ⟨k, hk, rfl, hbw⟩ := hrel
    by_cases hlt : k < n
    · have hkl : k < l.length := by have := HN.out; omega
      rcases h4 with h4 | ⟨bb, off, rfl, hbb, hat⟩
      · rw [h4] at hkl; simp at hkl
      obtain ⟨c0, c1, c2⟩ := (hat k hkl).below hbb hbw
      have hfk := (h3 _ (List.getElem_mem hkl)).2.2
      have hfo := hall _ (List.getElem_mem hkl)
      have HAF := Lib.hid (HA.out _ (List.getElem_mem hkl))
      generalize l[k] = f at *
      obtain ⟨kd, tv, fv, fr⟩ := f
      obtain ⟨-, -, hf3, hf4⟩ := hfo
      simp only at c0 c1 c2 hfk hf3 hf4 HAF
      obtain ⟨q, qc, rfl, hq1, hq2, -, hq4⟩ := hfk
      unfold maxLen at hq2
      obtain ⟨nf, hnf⟩ : ∃ nf, nf = fr.length := ⟨_, rfl⟩
      have HNF := Lib.hid hnf
      rw [← hnf] at c2 hf3 hq1
      clear hnf hat hkl
      have hbwA := hbw.alloc hbw.size (.cells #[.string kd, .string tv, .slice q nf qc] 44)
      go_wp2_with fail
      clear c0 c1 c2
      go_loopw [32] (fun v32 wr => ∃ j : Nat, j ≤ nf ∧ v32 = .int .i64 j ∧ Below w.heap.size w wr) (fun v32 _ => nf - (RowKit.intOf v32).toNat)
      case atStart => exact ⟨0, Nat.zero_le _, rfl, hbwA⟩
      case round =>
        obtain ⟨w5, rfl⟩ : ∃ w5 : World, w5 = wr := ⟨_, rfl⟩
        obtain ⟨j, hj, rfl, hbw5⟩ := hrel
        by_cases hjl : j < nf
        · have jl : j < fr.length := by have := HNF.out; omega
          rcases hq4 with hq4 | ⟨qb, qo, rfl, hqb, hqat⟩
          · rw [hq4] at jl; simp at jl
          obtain ⟨x0, x1, x2, x3, x4, x5⟩ := (hqat j jl).below hqb hbw5
          have hxo := hf4 _ (List.getElem_mem jl)
          have HB := Lib.hid (HAF.out _ (List.getElem_mem jl))
          generalize fr[j] = x at *
          clear hqat jl
          have g1 := hxo.m
          have g2 := hxo.f
          obtain ⟨A, hA⟩ : ∃ A, x.m ++ x.f = A := ⟨_, rfl⟩
          rw [hA] at HB
          have HC := Lib.hid (fun W => contains_bang A W)
          rw [HB.out] at HC
          have hbwB := hbw5.alloc hbw5.size (.cells #[.string x.m, .string x.f, .string x.i, .int .i64 x.line, .int .i64 x.addr, .bool x.own] 54)
          go_wp2_with (go_at_call 19; (with_reducible refine (HC.out _).mono ?_); rintro e w6 ⟨rfl, rfl⟩)
          exact ⟨⟨j + 1, by omega, by go_num, hbwB⟩, by simp [RowKit.intOf] <;> omega⟩
        · go_wp2_with fail
          exact ⟨⟨k + 1, by omega, by go_num, hbw5⟩, by simp [RowKit.intOf] <;> omega⟩
    · have hoN := World.ownsRow_nil w2 w.heap.size 9 1
      go_wp2_with fail
      clear hlt HA
      go_loopw [10, 78] (fun v10 v78 wr => ∃ (k cn : Nat) (L : List (List UInt8)), k ≤ n ∧ v78 = .int .i64 k ∧ Hid (L = inUp l k) ∧ Hid (∀ x ∈ L, x.length ≤ 3000) ∧ cn ≤ k * 203 ∧ wr.ownsRow w.heap.size 9 1 v10 cn (svL L) ∧ Below w.heap.size w wr) (fun _ v78 _ => n - (RowKit.intOf v78).toNat)
      case atStart => exact ⟨0, 0, [], Nat.zero_le _, rfl, Lib.hid rfl, Lib.hid (by simp), by simp, hoN, hbw⟩
      clear hoN hbw hk
      clear w2
      obtain ⟨u0, rfl⟩ : ∃ u0 : World, u0 = wr := ⟨_, rfl⟩
      obtain ⟨k, cn, L, hm, rfl, HL, HLL, hcn, hou0, hBu0⟩ := hrel
      have hsu0 := hBu0.size
      by_cases hmn : k < n
      · have hkl : k < l.length := by have := HN.out; omega
        rcases h4 with h4 | ⟨bb, off, rfl, hbb, hat⟩
        · rw [h4] at hkl; simp at hkl
        by_cases hk0 : k = 0
        · obtain ⟨c0, c1, c2⟩ := (hat k hkl).below hbb hBu0
          have hfo := hall _ (List.getElem_mem hkl)
          have hfk := h3 _ (List.getElem_mem hkl)
          have HTK := Lib.hid (inUp_succ l k hkl)
          have HFR := Lib.hid (frsOf_at hkl)
          have HGL := Lib.hid (goneAt_le l k)
          generalize l[k] = f at *
          obtain ⟨kd, tv, fv, fr⟩ := f
          obtain ⟨hf1, hf2, hf3, hf4⟩ := hfo
          obtain ⟨-, -, hfv⟩ := hfk
          simp only at c0 c1 c2 hf1 hf2 hf3 hf4 hfv
          have hfv0 := hfv
          obtain ⟨q, qc, rfl, hq1, hq2, -, hq4⟩ := hfv
          unfold maxLen at hq2
          obtain ⟨nf, hnf⟩ : ∃ nf, nf = fr.length := ⟨_, rfl⟩
          have HNF := Lib.hid hnf
          have HK0 := Lib.hid hk0
          have hkf : ((0 : Int) < (k : Int)) = False := by simp; omega
          have hkg : ¬ (0 : Int) < (k : Int) := by omega
          clear hk0
          obtain ⟨M, hM⟩ : ∃ M, M = nf := ⟨_, rfl⟩
          have HM := Lib.hid (show fr.length - goneAt l k = M by rw [HK0.out, goneAt_zero, hM, hnf]; rfl)
          have HMORE := Lib.hid (show inMore l k = [] by rw [HK0.out]; rfl)
          have hMn : M ≤ nf := by omega
          have hMq : M ≤ qc := by omega
          obtain ⟨Q, hsl, hQ4⟩ := slice_pre q fr.length qc M hMq hq4
          rw [← hnf] at c2 hf3 hq1 hsl
          have hHX : SlF w (.slice q nf qc) fr := by rw [hnf]; exact hfv0
          have HH := Lib.hid (fun W => headR_any kd tv (.slice q nf qc) W hf1 hf2 ⟨_, _, _, rfl⟩)
          have HFA := Lib.hid (show inFa l k ⟨kd, tv, .slice q fr.length qc, fr⟩ = [inHead k ⟨kd, tv, .slice q fr.length qc, fr⟩] ++ (fr.take M).map inLn ++ inMore l k by unfold inFa; rw [← HM.out])
          rw [← hnf] at HFA HTK
          clear hnf hfv0 hq4
          subst hM
          have hhb := headB_len hf1 hf2
          have hhb0 := hhb
          obtain ⟨Y, hY⟩ : ∃ Y, headB kd tv = Y := ⟨_, rfl⟩
          have HYE := Lib.hid hY
          rw [hY] at hhb HH
          clear hY
          obtain ⟨hd, hhd⟩ : ∃ hd, hd = inHead k ⟨kd, tv, .slice q M qc, fr⟩ := ⟨_, rfl⟩
          have HHD := Lib.hid (show Y = bs hd by rw [hhd]; unfold inHead; rw [if_pos HK0.out, ← HYE.out]; exact (bs_of _).symm)
          have HHL := Lib.hid (show hd.length ≤ 3000 by rw [hhd]; unfold inHead; rw [if_pos HK0.out]; show (d (headB kd tv)).length ≤ _; rw [d_len]; omega)
          rw [← hhd] at HFA
          clear hhd hhb0
          have HNE := Lib.hid (own_lt hou0)
          have hm9 : k * 203 ≤ 9 * 203 := Nat.mul_le_mul_right _ (by omega)
          have hcn2 : cn ≤ 1900 := by omega
          go_upto_region 27 with fail
          have hBuA := hBu0.alloc hsu0 (.cells #[.string kd, .string tv, .slice q M qc] 44)
          have hsuA := hBuA.size
          have houA := hou0.alloc (.cells #[.string kd, .string tv, .slice q M qc] 44)
          have b0 : (u0.alloc (.cells #[.string kd, .string tv, .slice q M qc] 44)).cell? ⟨u0.heap.size, 0, none⟩ = some (.string kd) := by go_simp
          have b1 : (u0.alloc (.cells #[.string kd, .string tv, .slice q M qc] 44)).cell? ⟨u0.heap.size, 1, none⟩ = some (.string tv) := by go_simp
          have b2 : (u0.alloc (.cells #[.string kd, .string tv, .slice q M qc] 44)).cell? ⟨u0.heap.size, 2, none⟩ = some (.slice q M qc) := by go_simp
          generalize u0.alloc (.cells #[.string kd, .string tv, .slice q M qc] 44) = uA at *
          clear c0 c1 c2
          go_wp2_with (first
            | (go_at_call 20; (with_reducible refine (HH.out _).mono ?_); rintro e u5 ⟨rfl, hbu5⟩; have hBu5 := below_keep hBuA (Nat.le_refl _) hbu5; have hsu5 := hBu5.size; have hou5 := own_keeps houA hbu5; have b2u5 := cell_keep b2 hbu5)
            | (at_builtin; refine wpList_append_own _ rfl _ _ 56 rfl w.heap.size 9 i0 (.string ⟨#[]⟩) 1 16 Tryz.underlying56 hi' hz0 hz1 hz2 rfl (by decide) _ _ _ rfl (hou5.alloc (.cells #[.string Y] 9)) ⟨u5.heap.size, 0, none⟩ 1 1 [.string Y] rfl rfl (cell_new u5 _ 9) (one_cell _) (by unfold maxLen; omega) (by omega) (by simp; omega) ?_; intro v6 u6 hou6 hgu6 _; have hBu6 := below_grown (hBu5.alloc hsu5 (.cells #[.string Y] 9)) hgu6 (own_base hou5) (by simp; omega); have hsu6 := hBu6.size; have e2 : u6.cell? ⟨u0.heap.size, 2, none⟩ = some (.slice q M qc) := grow_cell hgu6 (fun g hg => Nat.ne_of_lt (HNE.out g hg)) b2u5))
          rw [HHD.out, ← svL_snoc] at hou6
          clear b0 b1 b2 e2 hou0 houA hou5 hgu6 hBu0 hsu0 hBuA hsuA hBu5 hsu5 hbu5 b2u5
          go_loopw [10, 113] (fun v10 v113 wr => ∃ (j cm : Nat), j ≤ M ∧ v113 = .int .i64 j ∧ cm ≤ cn + 1 + j ∧ wr.ownsRow w.heap.size 9 1 v10 cm (svL (L ++ [hd] ++ (fr.take j).map inLn)) ∧ Below w.heap.size w wr) (fun _ v113 _ => M - (RowKit.intOf v113).toNat)
          case atStart => exact ⟨0, cn + 1, Nat.zero_le _, rfl, Nat.le_refl _, by rw [List.take_zero, List.map_nil, List.append_nil]; exact hou6, hBu6⟩
          case round =>
            clear hou6 hBu6 hsu6
            obtain ⟨u4, rfl⟩ : ∃ u4 : World, u4 = wr := ⟨_, rfl⟩
            obtain ⟨m, cm, hj, rfl, hcm, hou4, hBu4⟩ := hrel
            have hsu4 := hBu4.size
            by_cases hjl : m < M
            · have jl : m < fr.length := by have := HNF.out; omega
              rcases hQ4 with hQ4 | ⟨qb, qo, rfl, hqb, hqat⟩
              · rw [hQ4] at jl; simp at jl
              obtain ⟨x0, x1, x2, x3, x4, x5⟩ := (hqat m jl).below hqb hBu4
              have hxo := hf4 _ (List.getElem_mem jl)
              have HSK := Lib.hid (show (fr.take (m + 1)).map inLn = (fr.take m).map inLn ++ [inLn fr[m]] by rw [List.take_succ_eq_append_getElem jl, List.map_append]; rfl)
              generalize fr[m] = x at *
              clear hqat jl
              have HLINE := Lib.hid (fun W => lineR_any x W hxo)
              have hll := lineL_len hxo
              have hlz : (bs (lineL x)).size ≤ 641 := by rw [bs_size]; exact hll
              clear hll
              have HOL := Lib.hid (show (⟨#[32, 32, 32, 32, 97, 116, 32]⟩ : ByteArray) ++ bs (lineL x) = bs (inLn x) by
                apply data_inj; rw [app_data, bs_data, bs_data]; rfl)
              obtain ⟨Z, hZ⟩ : ∃ Z, bs (lineL x) = Z := ⟨_, rfl⟩
              rw [hZ] at hlz HOL HLINE
              clear hZ
              obtain ⟨A, hA⟩ : ∃ A, (⟨#[32, 32, 32, 32, 97, 116, 32]⟩ : ByteArray) ++ Z = A := ⟨_, rfl⟩
              rw [hA] at HOL
              have hzz7 : (⟨#[32, 32, 32, 32, 97, 116, 32]⟩ : ByteArray).size = 7 := rfl
              have hcm2 : cm ≤ 2300 := by omega
              have hBuB := hBu4.alloc hsu4 (.cells #[.string x.m, .string x.f, .string x.i, .int .i64 x.line, .int .i64 x.addr, .bool x.own] 54)
              have hsuB := hBuB.size
              have houB := hou4.alloc (.cells #[.string x.m, .string x.f, .string x.i, .int .i64 x.line, .int .i64 x.addr, .bool x.own] 54)
              go_wp2_with (first
                | (go_at_call 22; (with_reducible refine (HLINE.out _).mono ?_); rintro e u5 ⟨rfl, hbu5⟩; have hBu5 := below_keep hBuB (Nat.le_refl _) hbu5; have hsu5 := hBu5.size; have hou5 := own_keeps houB hbu5)
                | (at_builtin; refine wpList_append_own _ rfl _ _ 56 rfl w.heap.size 9 i0 (.string ⟨#[]⟩) 1 16 Tryz.underlying56 hi' hz0 hz1 hz2 rfl (by decide) _ _ _ rfl (hou5.alloc (.cells #[.string A] 9)) ⟨u5.heap.size, 0, none⟩ 1 1 [.string A] rfl rfl (cell_new u5 _ 9) (one_cell _) (by unfold maxLen; omega) (by omega) (by simp; omega) ?_; intro v6 u6 hou6 hgu6 _; have hBu6 := below_grown (hBu5.alloc hsu5 (.cells #[.string A] 9)) hgu6 (own_base hou5) (by simp; omega); have hsu6 := hBu6.size))
              refine ⟨⟨m + 1, cm + 1, by omega, by go_num, by omega, ?_, hBu6⟩, by simp [RowKit.intOf] <;> omega⟩
              rw [HSK.out, ← List.append_assoc, svL_snoc, ← HOL.out]; exact hou6
            · obtain rfl : m = M := by omega
              have HBIG := Lib.hid (show ∀ x ∈ L ++ [hd] ++ (fr.take m).map inLn, x.length ≤ 3000 by
                intro x hx
                simp only [List.mem_append, List.mem_singleton, List.mem_map] at hx
                rcases hx with (hx | hx) | ⟨y, hy, rfl⟩
                · exact HLL.out x hx
                · subst hx; exact HHL.out
                · have := lineL_len (hf4 y (List.mem_of_mem_take hy))
                  unfold inLn; rw [List.length_append]; simp; omega)
              have HE := Lib.hid (show L ++ [hd] ++ (fr.take m).map inLn ++ inMore l k = inUp l (k + 1) by
                rw [HTK.out, HFA.out, ← HL.out]; simp only [List.append_assoc])
              have hm4 : (k + 1) * 203 = k * 203 + 203 := by omega
              rw [HMORE.out, List.append_nil] at HE
              rw [HE.out] at hou4 HBIG
              go_wp2_with fail
              exact ⟨⟨k + 1, cm, _, by omega, by go_num, Lib.hid rfl, HBIG, by omega, hou4, hBu4⟩, by simp [RowKit.intOf] <;> omega⟩
        · have hk0 : 0 < k := by omega
          by_cases hsh : shared (frsOf l (k - 1)) (frsOf l k) < 2
          · obtain ⟨c0, c1, c2⟩ := (hat k hkl).below hbb hBu0
            have hfo := hall _ (List.getElem_mem hkl)
            have hfk := h3 _ (List.getElem_mem hkl)
            have HTK := Lib.hid (inUp_succ l k hkl)
            have HFR := Lib.hid (frsOf_at hkl)
            have HGL := Lib.hid (goneAt_le l k)
            obtain ⟨j, hj⟩ : ∃ j, j = k - 1 := ⟨_, rfl⟩
            have hjl : j < l.length := by omega
            have HCP := Lib.hid (fun (W : World) (hW : Below w.heap.size w W) => ((hat j hjl).below hbb hW).2.2)
            have hpk := (h3 _ (List.getElem_mem hjl)).2.2
            have HPR := Lib.hid (frsOf_at hjl)
            have hji : ((k : Nat) : Int) - 1 = (j : Int) := by omega
            have hw1 : IntKind.i64.wrap ((k : Int) - 1) = (j : Int) := by rw [hji]; exact IntWalk.i64_in _ (by omega)
            have hw2 : IntKind.i64.wrap (j : Int) = (j : Int) := IntWalk.i64_in _ (by omega)
            have hj0 : (0 : Int) ≤ (j : Int) := by omega
            have hj1 : (j : Int) < (n : Int) := by omega
            have HJK := Lib.hid hj
            have hkp : (0 : Int) < (k : Int) := by omega
            generalize l[j] = pf at *
            clear hj
            obtain ⟨pkd, ptv, pv, pfr⟩ := pf
            simp only at HCP hpk HPR
            generalize l[k] = f at *
            obtain ⟨kd, tv, fv, fr⟩ := f
            obtain ⟨hf1, hf2, hf3, hf4⟩ := hfo
            obtain ⟨-, -, hfv⟩ := hfk
            simp only at c0 c1 c2 hf1 hf2 hf3 hf4 hfv
            have hfv0 := hfv
            obtain ⟨q, qc, rfl, hq1, hq2, -, hq4⟩ := hfv
            unfold maxLen at hq2
            obtain ⟨nf, hnf⟩ : ∃ nf, nf = fr.length := ⟨_, rfl⟩
            have HNF := Lib.hid hnf
            have HG := Lib.hid (goneAt_small hk0 rfl hsh)
            obtain ⟨s, hs⟩ : ∃ s, s = shared (frsOf l (k - 1)) (frsOf l k) := ⟨_, rfl⟩
            rw [← hs] at hsh
            have HS0 := Lib.hid hs
            clear hs
            obtain ⟨M, hM⟩ : ∃ M, M = nf := ⟨_, rfl⟩
            have HM := Lib.hid (show fr.length - goneAt l k = M by rw [HG.out, hM, hnf]; rfl)
            have HMORE := Lib.hid (show inMore l k = [] by unfold inMore; rw [if_pos HG.out])
            have hs2 : (s : Int) < 2 := by omega
            have hMn : M ≤ nf := by omega
            have hMq : M ≤ qc := by omega
            obtain ⟨Q, hsl, hQ4⟩ := slice_pre q fr.length qc M hMq hq4
            rw [← hnf] at c2 hf3 hq1 hsl
            have hHX : SlF w (.slice q nf qc) fr := by rw [hnf]; exact hfv0
            have HH := Lib.hid (fun W => headR_any kd tv (.slice q nf qc) W hf1 hf2 ⟨_, _, _, rfl⟩)
            have HFA := Lib.hid (show inFa l k ⟨kd, tv, .slice q fr.length qc, fr⟩ = [inHead k ⟨kd, tv, .slice q fr.length qc, fr⟩] ++ (fr.take M).map inLn ++ inMore l k by unfold inFa; rw [← HM.out])
            rw [← hnf] at HFA HTK
            clear hnf hfv0 hq4
            subst hM
            have hhb := headB_len hf1 hf2
            have hhb0 := hhb
            obtain ⟨Y, hY⟩ : ∃ Y, headB kd tv = Y := ⟨_, rfl⟩
            have HYE := Lib.hid hY
            rw [hY] at hhb HH
            clear hY
            obtain ⟨hd, hhd⟩ : ∃ hd, hd = inHead k ⟨kd, tv, .slice q M qc, fr⟩ := ⟨_, rfl⟩
            have HHD := Lib.hid (show (⟨#[67, 97, 117, 115, 101, 100, 32, 98, 121, 58, 32]⟩ : ByteArray) ++ Y = bs hd by
              rw [hhd]; unfold inHead; rw [if_neg (by omega), ← HYE.out]
              apply data_inj; rw [app_data, bs_data]; rfl)
            have HHL := Lib.hid (show hd.length ≤ 3000 by
              rw [hhd]; unfold inHead; rw [if_neg (by omega), List.length_append]; show _ + (d (headB kd tv)).length ≤ _; rw [d_len]; simp [causeL]; omega)
            obtain ⟨H, hH⟩ : ∃ H, (⟨#[67, 97, 117, 115, 101, 100, 32, 98, 121, 58, 32]⟩ : ByteArray) ++ Y = H := ⟨_, rfl⟩
            rw [hH] at HHD
            have hzc : (⟨#[67, 97, 117, 115, 101, 100, 32, 98, 121, 58, 32]⟩ : ByteArray).size = 11 := rfl
            rw [← hhd] at HFA
            clear hhd hhb0
            have HNE := Lib.hid (own_lt hou0)
            have hm9 : k * 203 ≤ 9 * 203 := Nat.mul_le_mul_right _ (by omega)
            have hcn2 : cn ≤ 1900 := by omega
            go_upto_region 27 with fail
            have hBuA := hBu0.alloc hsu0 (.cells #[.string kd, .string tv, .slice q M qc] 44)
            have hsuA := hBuA.size
            have houA := hou0.alloc (.cells #[.string kd, .string tv, .slice q M qc] 44)
            have b0 : (u0.alloc (.cells #[.string kd, .string tv, .slice q M qc] 44)).cell? ⟨u0.heap.size, 0, none⟩ = some (.string kd) := by go_simp
            have b1 : (u0.alloc (.cells #[.string kd, .string tv, .slice q M qc] 44)).cell? ⟨u0.heap.size, 1, none⟩ = some (.string tv) := by go_simp
            have b2 : (u0.alloc (.cells #[.string kd, .string tv, .slice q M qc] 44)).cell? ⟨u0.heap.size, 2, none⟩ = some (.slice q M qc) := by go_simp
            generalize u0.alloc (.cells #[.string kd, .string tv, .slice q M qc] 44) = uA at *
            clear c0 c1 c2
            go_wp2_with (go_at_call 20; (with_reducible refine (HH.out _).mono ?_); rintro e u5 ⟨rfl, hbu5⟩; have hBu5 := below_keep hBuA (Nat.le_refl _) hbu5; have hsu5 := hBu5.size; have hou5 := own_keeps houA hbu5; have b2u5 := cell_keep b2 hbu5)
            have ep := HCP.out u5 hBu5
            have HSH := Lib.hid (fun (W : World) (hW : Below w.heap.size w W) => sharedOf_any pv (.slice q M qc) pfr fr W (hpk.below (Nat.le_refl _) hW) (hHX.below (Nat.le_refl _) hW))
            rw [show shared pfr fr = s by rw [HS0.out, HFR.out, ← HJK.out, HPR.out]] at HSH
            go_region_held3 (fun w' => w'.cell? ⟨bb, off + j * 3 + 2, none⟩ = some pv ∧ w'.cell? ⟨u0.heap.size, 2, none⟩ = some (.slice q M qc))
              ((repeat' apply And.intro) <;> first | assumption | exact cell_drew (by assumption))
              (first
                | (go_at_call 21; with_reducible refine (HSH.out _ (by first | assumption | exact Below.drew (by assumption))).mono ?_; rintro e uX ⟨rfl, hbX⟩; have y0 : World.cell? _ ⟨bb, off + j * 3 + 2, none⟩ = some pv := cell_keep (by first | assumption | exact cell_drew (by assumption)) hbX; have b2uX : World.cell? _ ⟨u0.heap.size, 2, none⟩ = some (.slice q M qc) := cell_keep (by first | assumption | exact cell_drew (by assumption)) hbX; have hBuX : Below w.heap.size w uX := below_keep (by first | assumption | exact Below.drew (by assumption)) (Nat.le_refl _) hbX; have hsuX := hBuX.size; have houX : uX.ownsRow w.heap.size 9 1 _ cn (svL L) := own_keeps (by first | assumption | exact own_drew (by assumption)) hbX))
            clear y0 ep
            go_wp2_with (at_builtin; refine wpList_append_own _ rfl _ _ 56 rfl w.heap.size 9 i0 (.string ⟨#[]⟩) 1 16 Tryz.underlying56 hi' hz0 hz1 hz2 rfl (by decide) _ _ _ rfl (houX.alloc (.cells #[.string H] 9)) ⟨uX.heap.size, 0, none⟩ 1 1 [.string H] rfl rfl (cell_new uX _ 9) (one_cell _) (by unfold maxLen; omega) (by omega) (by simp; omega) ?_; intro v6 u6 hou6 hgu6 _; have hBu6 := below_grown (hBuX.alloc hsuX (.cells #[.string H] 9)) hgu6 (own_base houX) (by simp; omega); have hsu6 := hBu6.size; have e2 : u6.cell? ⟨u0.heap.size, 2, none⟩ = some (.slice q M qc) := grow_cell hgu6 (fun g hg => Nat.ne_of_lt (HNE.out g hg)) b2uX)
            rw [HHD.out, ← svL_snoc] at hou6
            clear b0 b1 b2 e2 hou0 houA hou5 hgu6 hBu0 hsu0 hBuA hsuA hBu5 hsu5 hbu5 b2u5 houX b2uX hBuX hsuX hbX
            go_loopw [10, 113] (fun v10 v113 wr => ∃ (j cm : Nat), j ≤ M ∧ v113 = .int .i64 j ∧ cm ≤ cn + 1 + j ∧ wr.ownsRow w.heap.size 9 1 v10 cm (svL (L ++ [hd] ++ (fr.take j).map inLn)) ∧ Below w.heap.size w wr) (fun _ v113 _ => M - (RowKit.intOf v113).toNat)
            case atStart => exact ⟨0, cn + 1, Nat.zero_le _, rfl, Nat.le_refl _, by rw [List.take_zero, List.map_nil, List.append_nil]; exact hou6, hBu6⟩
            case round =>
              clear hou6 hBu6 hsu6
              obtain ⟨u4, rfl⟩ : ∃ u4 : World, u4 = wr := ⟨_, rfl⟩
              obtain ⟨m, cm, hj, rfl, hcm, hou4, hBu4⟩ := hrel
              have hsu4 := hBu4.size
              by_cases hjl : m < M
              · have jl : m < fr.length := by have := HNF.out; omega
                rcases hQ4 with hQ4 | ⟨qb, qo, rfl, hqb, hqat⟩
                · rw [hQ4] at jl; simp at jl
                obtain ⟨x0, x1, x2, x3, x4, x5⟩ := (hqat m jl).below hqb hBu4
                have hxo := hf4 _ (List.getElem_mem jl)
                have HSK := Lib.hid (show (fr.take (m + 1)).map inLn = (fr.take m).map inLn ++ [inLn fr[m]] by rw [List.take_succ_eq_append_getElem jl, List.map_append]; rfl)
                generalize fr[m] = x at *
                clear hqat jl
                have HLINE := Lib.hid (fun W => lineR_any x W hxo)
                have hll := lineL_len hxo
                have hlz : (bs (lineL x)).size ≤ 641 := by rw [bs_size]; exact hll
                clear hll
                have HOL := Lib.hid (show (⟨#[32, 32, 32, 32, 97, 116, 32]⟩ : ByteArray) ++ bs (lineL x) = bs (inLn x) by
                  apply data_inj; rw [app_data, bs_data, bs_data]; rfl)
                obtain ⟨Z, hZ⟩ : ∃ Z, bs (lineL x) = Z := ⟨_, rfl⟩
                rw [hZ] at hlz HOL HLINE
                clear hZ
                obtain ⟨A, hA⟩ : ∃ A, (⟨#[32, 32, 32, 32, 97, 116, 32]⟩ : ByteArray) ++ Z = A := ⟨_, rfl⟩
                rw [hA] at HOL
                have hzz7 : (⟨#[32, 32, 32, 32, 97, 116, 32]⟩ : ByteArray).size = 7 := rfl
                have hcm2 : cm ≤ 2300 := by omega
                have hBuB := hBu4.alloc hsu4 (.cells #[.string x.m, .string x.f, .string x.i, .int .i64 x.line, .int .i64 x.addr, .bool x.own] 54)
                have hsuB := hBuB.size
                have houB := hou4.alloc (.cells #[.string x.m, .string x.f, .string x.i, .int .i64 x.line, .int .i64 x.addr, .bool x.own] 54)
                go_wp2_with (first
                  | (go_at_call 22; (with_reducible refine (HLINE.out _).mono ?_); rintro e u5 ⟨rfl, hbu5⟩; have hBu5 := below_keep hBuB (Nat.le_refl _) hbu5; have hsu5 := hBu5.size; have hou5 := own_keeps houB hbu5)
                  | (at_builtin; refine wpList_append_own _ rfl _ _ 56 rfl w.heap.size 9 i0 (.string ⟨#[]⟩) 1 16 Tryz.underlying56 hi' hz0 hz1 hz2 rfl (by decide) _ _ _ rfl (hou5.alloc (.cells #[.string A] 9)) ⟨u5.heap.size, 0, none⟩ 1 1 [.string A] rfl rfl (cell_new u5 _ 9) (one_cell _) (by unfold maxLen; omega) (by omega) (by simp; omega) ?_; intro v6 u6 hou6 hgu6 _; have hBu6 := below_grown (hBu5.alloc hsu5 (.cells #[.string A] 9)) hgu6 (own_base hou5) (by simp; omega); have hsu6 := hBu6.size))
                refine ⟨⟨m + 1, cm + 1, by omega, by go_num, by omega, ?_, hBu6⟩, by simp [RowKit.intOf] <;> omega⟩
                rw [HSK.out, ← List.append_assoc, svL_snoc, ← HOL.out]; exact hou6
              · obtain rfl : m = M := by omega
                have HBIG := Lib.hid (show ∀ x ∈ L ++ [hd] ++ (fr.take m).map inLn, x.length ≤ 3000 by
                  intro x hx
                  simp only [List.mem_append, List.mem_singleton, List.mem_map] at hx
                  rcases hx with (hx | hx) | ⟨y, hy, rfl⟩
                  · exact HLL.out x hx
                  · subst hx; exact HHL.out
                  · have := lineL_len (hf4 y (List.mem_of_mem_take hy))
                    unfold inLn; rw [List.length_append]; simp; omega)
                have HE := Lib.hid (show L ++ [hd] ++ (fr.take m).map inLn ++ inMore l k = inUp l (k + 1) by
                  rw [HTK.out, HFA.out, ← HL.out]; simp only [List.append_assoc])
                have hm4 : (k + 1) * 203 = k * 203 + 203 := by omega
                rw [HMORE.out, List.append_nil] at HE
                rw [HE.out] at hou4 HBIG
                go_wp2_with fail
                exact ⟨⟨k + 1, cm, _, by omega, by go_num, Lib.hid rfl, HBIG, by omega, hou4, hBu4⟩, by simp [RowKit.intOf] <;> omega⟩
          · have hsh : 2 ≤ shared (frsOf l (k - 1)) (frsOf l k) := by omega
            obtain ⟨c0, c1, c2⟩ := (hat k hkl).below hbb hBu0
            have hfo := hall _ (List.getElem_mem hkl)
            have hfk := h3 _ (List.getElem_mem hkl)
            have HTK := Lib.hid (inUp_succ l k hkl)
            have HFR := Lib.hid (frsOf_at hkl)
            have HGL := Lib.hid (goneAt_le l k)
            obtain ⟨j, hj⟩ : ∃ j, j = k - 1 := ⟨_, rfl⟩
            have hjl : j < l.length := by omega
            have HCP := Lib.hid (fun (W : World) (hW : Below w.heap.size w W) => ((hat j hjl).below hbb hW).2.2)
            have hpk := (h3 _ (List.getElem_mem hjl)).2.2
            have HPR := Lib.hid (frsOf_at hjl)
            have hji : ((k : Nat) : Int) - 1 = (j : Int) := by omega
            have hw1 : IntKind.i64.wrap ((k : Int) - 1) = (j : Int) := by rw [hji]; exact IntWalk.i64_in _ (by omega)
            have hw2 : IntKind.i64.wrap (j : Int) = (j : Int) := IntWalk.i64_in _ (by omega)
            have hj0 : (0 : Int) ≤ (j : Int) := by omega
            have hj1 : (j : Int) < (n : Int) := by omega
            have HJK := Lib.hid hj
            have hkp : (0 : Int) < (k : Int) := by omega
            generalize l[j] = pf at *
            clear hj
            obtain ⟨pkd, ptv, pv, pfr⟩ := pf
            simp only at HCP hpk HPR
            generalize l[k] = f at *
            obtain ⟨kd, tv, fv, fr⟩ := f
            obtain ⟨hf1, hf2, hf3, hf4⟩ := hfo
            obtain ⟨-, -, hfv⟩ := hfk
            simp only at c0 c1 c2 hf1 hf2 hf3 hf4 hfv
            have hfv0 := hfv
            obtain ⟨q, qc, rfl, hq1, hq2, -, hq4⟩ := hfv
            unfold maxLen at hq2
            obtain ⟨nf, hnf⟩ : ∃ nf, nf = fr.length := ⟨_, rfl⟩
            have HNF := Lib.hid hnf
            have HG := Lib.hid (goneAt_big hk0 rfl hsh)
            obtain ⟨s, hs⟩ : ∃ s, s = shared (frsOf l (k - 1)) (frsOf l k) := ⟨_, rfl⟩
            rw [← hs] at hsh HG
            have HS0 := Lib.hid hs
            clear hs
            have hsn : s ≤ nf := by
              have := HGL.out; rw [HG.out, HFR.out] at this; simpa [hnf] using this
            obtain ⟨M, hM⟩ : ∃ M, M = nf - s := ⟨_, rfl⟩
            have HM := Lib.hid (show fr.length - goneAt l k = M by rw [HG.out, hM, hnf])
            have HMORE := Lib.hid (show inMore l k = [moreL s] by unfold inMore; rw [HG.out, if_neg (by omega)])
            have hs2 : ¬ (s : Int) < 2 := by omega
            have hs3 : (0 : Int) < (s : Int) := by omega
            have hms : (nf : Int) - (s : Int) = (M : Int) := by omega
            have HIT := Lib.hid (fun (W : World) => told_any s W (by omega) (by omega))
            have hil := itoa_len (n := (s : Int)) (by omega) (by omega)
            have HML := Lib.hid (show (⟨#[32, 32, 32, 32, 46, 46, 46, 32]⟩ : ByteArray) ++ bs (Lib.itoa s) ++ ⟨#[32, 109, 111, 114, 101]⟩ = bs (moreL s) by
              apply data_inj; rw [app_data, app_data, bs_data, bs_data, List.append_assoc]; rfl)
            have HMLL := Lib.hid (show (moreL s).length ≤ 3000 by
              have e := hil; rw [bs_size] at e; unfold moreL; rw [List.length_append, List.length_append]; simp; omega)
            obtain ⟨Y5, hY5⟩ : ∃ Y5, bs (Lib.itoa s) = Y5 := ⟨_, rfl⟩
            rw [hY5] at HML HIT hil
            clear hY5
            obtain ⟨A5, hA5⟩ : ∃ A5, (⟨#[32, 32, 32, 32, 46, 46, 46, 32]⟩ : ByteArray) ++ Y5 = A5 := ⟨_, rfl⟩
            rw [hA5] at HML
            have hzm : (⟨#[32, 32, 32, 32, 46, 46, 46, 32]⟩ : ByteArray).size = 8 := rfl
            have hze : (⟨#[32, 109, 111, 114, 101]⟩ : ByteArray).size = 5 := rfl
            have hA5s : A5.size ≤ 15 := by rw [← hA5, ByteArray.size_append]; omega
            obtain ⟨A6, hA6⟩ : ∃ A6, A5 ++ (⟨#[32, 109, 111, 114, 101]⟩ : ByteArray) = A6 := ⟨_, rfl⟩
            rw [hA6] at HML
            have hMn : M ≤ nf := by omega
            have hMq : M ≤ qc := by omega
            obtain ⟨Q, hsl, hQ4⟩ := slice_pre q fr.length qc M hMq hq4
            rw [← hnf] at c2 hf3 hq1 hsl
            have hHX : SlF w (.slice q nf qc) fr := by rw [hnf]; exact hfv0
            have HH := Lib.hid (fun W => headR_any kd tv (.slice q nf qc) W hf1 hf2 ⟨_, _, _, rfl⟩)
            have HFA := Lib.hid (show inFa l k ⟨kd, tv, .slice q fr.length qc, fr⟩ = [inHead k ⟨kd, tv, .slice q fr.length qc, fr⟩] ++ (fr.take M).map inLn ++ inMore l k by unfold inFa; rw [← HM.out])
            rw [← hnf] at HFA HTK
            clear hnf hfv0 hq4 hM
            have hhb := headB_len hf1 hf2
            have hhb0 := hhb
            obtain ⟨Y, hY⟩ : ∃ Y, headB kd tv = Y := ⟨_, rfl⟩
            have HYE := Lib.hid hY
            rw [hY] at hhb HH
            clear hY
            obtain ⟨hd, hhd⟩ : ∃ hd, hd = inHead k ⟨kd, tv, .slice q nf qc, fr⟩ := ⟨_, rfl⟩
            have HHD := Lib.hid (show (⟨#[67, 97, 117, 115, 101, 100, 32, 98, 121, 58, 32]⟩ : ByteArray) ++ Y = bs hd by
              rw [hhd]; unfold inHead; rw [if_neg (by omega), ← HYE.out]
              apply data_inj; rw [app_data, bs_data]; rfl)
            have HHL := Lib.hid (show hd.length ≤ 3000 by
              rw [hhd]; unfold inHead; rw [if_neg (by omega), List.length_append]; show _ + (d (headB kd tv)).length ≤ _; rw [d_len]; simp [causeL]; omega)
            obtain ⟨H, hH⟩ : ∃ H, (⟨#[67, 97, 117, 115, 101, 100, 32, 98, 121, 58, 32]⟩ : ByteArray) ++ Y = H := ⟨_, rfl⟩
            rw [hH] at HHD
            have hzc : (⟨#[67, 97, 117, 115, 101, 100, 32, 98, 121, 58, 32]⟩ : ByteArray).size = 11 := rfl
            rw [← hhd] at HFA
            clear hhd hhb0
            have HNE := Lib.hid (own_lt hou0)
            have hm9 : k * 203 ≤ 9 * 203 := Nat.mul_le_mul_right _ (by omega)
            have hcn2 : cn ≤ 1900 := by omega
            go_upto_region 27 with fail
            have hBuA := hBu0.alloc hsu0 (.cells #[.string kd, .string tv, .slice q nf qc] 44)
            have hsuA := hBuA.size
            have houA := hou0.alloc (.cells #[.string kd, .string tv, .slice q nf qc] 44)
            have b0 : (u0.alloc (.cells #[.string kd, .string tv, .slice q nf qc] 44)).cell? ⟨u0.heap.size, 0, none⟩ = some (.string kd) := by go_simp
            have b1 : (u0.alloc (.cells #[.string kd, .string tv, .slice q nf qc] 44)).cell? ⟨u0.heap.size, 1, none⟩ = some (.string tv) := by go_simp
            have b2 : (u0.alloc (.cells #[.string kd, .string tv, .slice q nf qc] 44)).cell? ⟨u0.heap.size, 2, none⟩ = some (.slice q nf qc) := by go_simp
            generalize u0.alloc (.cells #[.string kd, .string tv, .slice q nf qc] 44) = uA at *
            clear c0 c1 c2
            go_wp2_with (go_at_call 20; (with_reducible refine (HH.out _).mono ?_); rintro e u5 ⟨rfl, hbu5⟩; have hBu5 := below_keep hBuA (Nat.le_refl _) hbu5; have hsu5 := hBu5.size; have hou5 := own_keeps houA hbu5; have b2u5 := cell_keep b2 hbu5)
            have ep := HCP.out u5 hBu5
            have HSH := Lib.hid (fun (W : World) (hW : Below w.heap.size w W) => sharedOf_any pv (.slice q nf qc) pfr fr W (hpk.below (Nat.le_refl _) hW) (hHX.below (Nat.le_refl _) hW))
            rw [show shared pfr fr = s by rw [HS0.out, HFR.out, ← HJK.out, HPR.out]] at HSH
            go_region_held3 (fun w' => w'.cell? ⟨bb, off + j * 3 + 2, none⟩ = some pv ∧ w'.cell? ⟨u0.heap.size, 2, none⟩ = some (.slice q nf qc))
              ((repeat' apply And.intro) <;> first | assumption | exact cell_drew (by assumption))
              (first
                | (go_at_call 21; with_reducible refine (HSH.out _ (by first | assumption | exact Below.drew (by assumption))).mono ?_; rintro e uX ⟨rfl, hbX⟩; have y0 : World.cell? _ ⟨bb, off + j * 3 + 2, none⟩ = some pv := cell_keep (by first | assumption | exact cell_drew (by assumption)) hbX; have b2uX : World.cell? _ ⟨u0.heap.size, 2, none⟩ = some (.slice q nf qc) := cell_keep (by first | assumption | exact cell_drew (by assumption)) hbX; have hBuX : Below w.heap.size w uX := below_keep (by first | assumption | exact Below.drew (by assumption)) (Nat.le_refl _) hbX; have hsuX := hBuX.size; have houX : uX.ownsRow w.heap.size 9 1 _ cn (svL L) := own_keeps (by first | assumption | exact own_drew (by assumption)) hbX))
            clear y0 ep
            go_wp2_with (at_builtin; refine wpList_append_own _ rfl _ _ 56 rfl w.heap.size 9 i0 (.string ⟨#[]⟩) 1 16 Tryz.underlying56 hi' hz0 hz1 hz2 rfl (by decide) _ _ _ rfl (houX.alloc (.cells #[.string H] 9)) ⟨uX.heap.size, 0, none⟩ 1 1 [.string H] rfl rfl (cell_new uX _ 9) (one_cell _) (by unfold maxLen; omega) (by omega) (by simp; omega) ?_; intro v6 u6 hou6 hgu6 _; have hBu6 := below_grown (hBuX.alloc hsuX (.cells #[.string H] 9)) hgu6 (own_base houX) (by simp; omega); have hsu6 := hBu6.size; have e2 : u6.cell? ⟨u0.heap.size, 2, none⟩ = some (.slice q nf qc) := grow_cell hgu6 (fun g hg => Nat.ne_of_lt (HNE.out g hg)) b2uX)
            rw [HHD.out, ← svL_snoc] at hou6
            clear b0 b1 b2 e2 hou0 houA hou5 hgu6 hBu0 hsu0 hBuA hsuA hBu5 hsu5 hbu5 b2u5 houX b2uX hBuX hsuX hbX
            go_loopw [10, 113] (fun v10 v113 wr => ∃ (j cm : Nat), j ≤ M ∧ v113 = .int .i64 j ∧ cm ≤ cn + 1 + j ∧ wr.ownsRow w.heap.size 9 1 v10 cm (svL (L ++ [hd] ++ (fr.take j).map inLn)) ∧ Below w.heap.size w wr) (fun _ v113 _ => M - (RowKit.intOf v113).toNat)
            case atStart => exact ⟨0, cn + 1, Nat.zero_le _, rfl, Nat.le_refl _, by rw [List.take_zero, List.map_nil, List.append_nil]; exact hou6, hBu6⟩
            case round =>
              clear hou6 hBu6 hsu6
              obtain ⟨u4, rfl⟩ : ∃ u4 : World, u4 = wr := ⟨_, rfl⟩
              obtain ⟨m, cm, hj, rfl, hcm, hou4, hBu4⟩ := hrel
              have hsu4 := hBu4.size
              by_cases hjl : m < M
              · have jl : m < fr.length := by have := HNF.out; omega
                rcases hQ4 with hQ4 | ⟨qb, qo, rfl, hqb, hqat⟩
                · rw [hQ4] at jl; simp at jl
                obtain ⟨x0, x1, x2, x3, x4, x5⟩ := (hqat m jl).below hqb hBu4
                have hxo := hf4 _ (List.getElem_mem jl)
                have HSK := Lib.hid (show (fr.take (m + 1)).map inLn = (fr.take m).map inLn ++ [inLn fr[m]] by rw [List.take_succ_eq_append_getElem jl, List.map_append]; rfl)
                generalize fr[m] = x at *
                clear hqat jl
                have HLINE := Lib.hid (fun W => lineR_any x W hxo)
                have hll := lineL_len hxo
                have hlz : (bs (lineL x)).size ≤ 641 := by rw [bs_size]; exact hll
                clear hll
                have HOL := Lib.hid (show (⟨#[32, 32, 32, 32, 97, 116, 32]⟩ : ByteArray) ++ bs (lineL x) = bs (inLn x) by
                  apply data_inj; rw [app_data, bs_data, bs_data]; rfl)
                obtain ⟨Z, hZ⟩ : ∃ Z, bs (lineL x) = Z := ⟨_, rfl⟩
                rw [hZ] at hlz HOL HLINE
                clear hZ
                obtain ⟨A, hA⟩ : ∃ A, (⟨#[32, 32, 32, 32, 97, 116, 32]⟩ : ByteArray) ++ Z = A := ⟨_, rfl⟩
                rw [hA] at HOL
                have hzz7 : (⟨#[32, 32, 32, 32, 97, 116, 32]⟩ : ByteArray).size = 7 := rfl
                have hcm2 : cm ≤ 2300 := by omega
                have hBuB := hBu4.alloc hsu4 (.cells #[.string x.m, .string x.f, .string x.i, .int .i64 x.line, .int .i64 x.addr, .bool x.own] 54)
                have hsuB := hBuB.size
                have houB := hou4.alloc (.cells #[.string x.m, .string x.f, .string x.i, .int .i64 x.line, .int .i64 x.addr, .bool x.own] 54)
                go_wp2_with (first
                  | (go_at_call 22; (with_reducible refine (HLINE.out _).mono ?_); rintro e u5 ⟨rfl, hbu5⟩; have hBu5 := below_keep hBuB (Nat.le_refl _) hbu5; have hsu5 := hBu5.size; have hou5 := own_keeps houB hbu5)
                  | (at_builtin; refine wpList_append_own _ rfl _ _ 56 rfl w.heap.size 9 i0 (.string ⟨#[]⟩) 1 16 Tryz.underlying56 hi' hz0 hz1 hz2 rfl (by decide) _ _ _ rfl (hou5.alloc (.cells #[.string A] 9)) ⟨u5.heap.size, 0, none⟩ 1 1 [.string A] rfl rfl (cell_new u5 _ 9) (one_cell _) (by unfold maxLen; omega) (by omega) (by simp; omega) ?_; intro v6 u6 hou6 hgu6 _; have hBu6 := below_grown (hBu5.alloc hsu5 (.cells #[.string A] 9)) hgu6 (own_base hou5) (by simp; omega); have hsu6 := hBu6.size))
                refine ⟨⟨m + 1, cm + 1, by omega, by go_num, by omega, ?_, hBu6⟩, by simp [RowKit.intOf] <;> omega⟩
                rw [HSK.out, ← List.append_assoc, svL_snoc, ← HOL.out]; exact hou6
              · obtain rfl : m = M := by omega
                have HBIG := Lib.hid (show ∀ x ∈ L ++ [hd] ++ (fr.take m).map inLn, x.length ≤ 3000 by
                  intro x hx
                  simp only [List.mem_append, List.mem_singleton, List.mem_map] at hx
                  rcases hx with (hx | hx) | ⟨y, hy, rfl⟩
                  · exact HLL.out x hx
                  · subst hx; exact HHL.out
                  · have := lineL_len (hf4 y (List.mem_of_mem_take hy))
                    unfold inLn; rw [List.length_append]; simp; omega)
                have HE := Lib.hid (show L ++ [hd] ++ (fr.take m).map inLn ++ inMore l k = inUp l (k + 1) by
                  rw [HTK.out, HFA.out, ← HL.out]; simp only [List.append_assoc])
                have hm4 : (k + 1) * 203 = k * 203 + 203 := by omega
                rw [HMORE.out] at HE
                have hcm2 : cm ≤ 2300 := by omega
                go_wp2_with (first
                  | (go_at_call 23; (with_reducible refine (HIT.out _).mono ?_); rintro e u5 ⟨rfl, hbu5⟩; have hBu5 := below_keep hBu4 (Nat.le_refl _) hbu5; have hsu5 := hBu5.size; have hou5 := own_keeps hou4 hbu5)
                  | (at_builtin; refine wpList_append_own _ rfl _ _ 56 rfl w.heap.size 9 i0 (.string ⟨#[]⟩) 1 16 Tryz.underlying56 hi' hz0 hz1 hz2 rfl (by decide) _ _ _ rfl (hou5.alloc (.cells #[.string A6] 9)) ⟨u5.heap.size, 0, none⟩ 1 1 [.string A6] rfl rfl (cell_new u5 _ 9) (one_cell _) (by unfold maxLen; omega) (by omega) (by simp; omega) ?_; intro v6 u6 hou6 hgu6 _; have hBu6 := below_grown (hBu5.alloc hsu5 (.cells #[.string A6] 9)) hgu6 (own_base hou5) (by simp; omega); have hsu6 := hBu6.size))
                rw [HML.out, ← svL_snoc, HE.out] at hou6
                have HBIG2 := Lib.hid (show ∀ x ∈ inUp l (k + 1), x.length ≤ 3000 by
                  rw [← HE.out]
                  intro x hx
                  rcases List.mem_append.1 hx with hx | hx
                  · exact HBIG.out x hx
                  · rw [List.mem_singleton] at hx; subst hx; exact HMLL.out)
                exact ⟨⟨k + 1, cm + 1, _, by omega, by go_num, Lib.hid rfl, HBIG2, by omega, hou6, hBu6⟩, by simp [RowKit.intOf] <;> omega⟩
      · have HJ := Lib.hid (show L = lines l 1 by rw [HL.out, show k = n by omega, HN.out]; rfl)
        have hm9 : k * 203 ≤ 10 * 203 := Nat.mul_le_mul_right _ (by omega)
        have hlc := own_cnt hou0
        have HLC := Lib.hid hlc
        clear hlc
        have hcn2 : cn ≤ 2030 := by omega
        go_wp2_with (first
          | (at_builtin; refine wpList_append_own _ rfl _ _ 56 rfl w.heap.size 9 i0 (.string ⟨#[]⟩) 1 16 Tryz.underlying56 hi' hz0 hz1 hz2 rfl (by decide) _ _ _ rfl (hou0.alloc (.cells #[.string ⟨#[]⟩] 9)) ⟨u0.heap.size, 0, none⟩ 1 1 [.string ⟨#[]⟩] rfl rfl (cell_new u0 _ 9) (one_cell _) (by unfold maxLen; omega) (by omega) (by simp; omega) ?_; intro v1 u1 hou1 hgu1 _; have hBu1 := below_grown (hBu0.alloc hsu0 (.cells #[.string ⟨#[]⟩] 9)) hgu1 (own_base hou0) (by simp; omega); have hsu1 := hBu1.size; have hoj1 : u1.ownsRow w.heap.size 9 1 v1 (cn + 1) (svL (L ++ [[]])) := (by rw [svL_snoc]; exact hou1))
          | (go_at_call 26; (with_reducible refine (join_lines hoj1 (by rw [← HLC.out]; omega) HLL.out).mono ?_); rintro e u2 ⟨rfl, hbu2⟩))
        go_ret2
        exact ⟨by rw [HJ.out]; rfl, below_keep hBu1 (Nat.le_refl _) hbu2⟩


end Go.Proofs.YtmoofdcoodaaiaaGreatDoor

/- What the reference's Written answers, at a form. -/
import Derived.Test.YtmoofdcoodaaiaaGreatDoorWrV
namespace Go.Proofs.YtmoofdcoodaaiaaGreatDoor
open Go.RowKit Go.Lib

set_option maxHeartbeats 8000000 in
set_option maxRecDepth 100000 in
theorem written3 (v : Value) (l : List Fa) (w : World) (hv : SlA w v l) (hok : fasErr l = 0) (ha : ambs l = false) :
    Calls Tryz.prog 7 #[v, .int .i64 3] w fun e w' => e = .returned (.tuple #[.string (bs (tx (lines l 3))), .bool true]) ∧ Below w.heap.size w w' := by
  obtain ⟨i0, hi', hz0, hz1, hz2⟩ := info_parts infoS
  obtain ⟨hl10, hall⟩ := fas_ok hok
  obtain ⟨p, cap, rfl, h1, h2, h3, h4⟩ := hv
  unfold maxLen at h2
  obtain ⟨n, hn⟩ : ∃ n, n = l.length := ⟨_, rfl⟩
  have HN := Lib.hid hn
  have HA := Lib.hid (ambs_false ha)
  rw [← hn] at h1 hl10 ⊢
  clear hn hok ha
  go_enter Tryz.func7, Tryz.ntmps7
  go_wp2_with fail
  go_loopw [25] (fun v25 wr => ∃ k : Nat, k ≤ n ∧ v25 = .int .i64 k ∧ Below w.heap.size w wr) (fun v25 _ => n - (RowKit.intOf v25).toNat)
  case atStart => exact ⟨0, Nat.zero_le _, rfl, Below.refl _ _⟩
  case round =>
    obtain ⟨w2, rfl⟩ : ∃ w2 : World, w2 = wr := ⟨_, rfl⟩
    obtain ⟨k, hk, rfl, hbw⟩ := hrel
    by_cases hlt : k < n
    · have hkl : k < l.length := by have := HN.out; omega
      rcases h4 with h4 | ⟨bb, off, rfl, hbb, hat⟩
      · rw [h4] at hkl; simp at hkl
      obtain ⟨c0, c1, c2⟩ := (hat k hkl).below hbb hbw
      have hfk := (h3 _ (List.getElem_mem hkl)).2.2
      have hfo := hall _ (List.getElem_mem hkl)
      have HAF := Lib.hid (HA.out _ (List.getElem_mem hkl))
      generalize l[k] = f at *
      obtain ⟨kd, tv, fv, fr⟩ := f
      obtain ⟨-, -, hf3, hf4⟩ := hfo
      simp only at c0 c1 c2 hfk hf3 hf4 HAF
      obtain ⟨q, qc, rfl, hq1, hq2, -, hq4⟩ := hfk
      unfold maxLen at hq2
      obtain ⟨nf, hnf⟩ : ∃ nf, nf = fr.length := ⟨_, rfl⟩
      have HNF := Lib.hid hnf
      rw [← hnf] at c2 hf3 hq1
      clear hnf hat hkl
      have hbwA := hbw.alloc hbw.size (.cells #[.string kd, .string tv, .slice q nf qc] 44)
      go_wp2_with fail
      clear c0 c1 c2
      go_loopw [32] (fun v32 wr => ∃ j : Nat, j ≤ nf ∧ v32 = .int .i64 j ∧ Below w.heap.size w wr) (fun v32 _ => nf - (RowKit.intOf v32).toNat)
      case atStart => exact ⟨0, Nat.zero_le _, rfl, hbwA⟩
      case round =>
        obtain ⟨w5, rfl⟩ : ∃ w5 : World, w5 = wr := ⟨_, rfl⟩
        obtain ⟨j, hj, rfl, hbw5⟩ := hrel
        by_cases hjl : j < nf
        · have jl : j < fr.length := by have := HNF.out; omega
          rcases hq4 with hq4 | ⟨qb, qo, rfl, hqb, hqat⟩
          · rw [hq4] at jl; simp at jl
          obtain ⟨x0, x1, x2, x3, x4, x5⟩ := (hqat j jl).below hqb hbw5
          have hxo := hf4 _ (List.getElem_mem jl)
          have HB := Lib.hid (HAF.out _ (List.getElem_mem jl))
          generalize fr[j] = x at *
          clear hqat jl
          have g1 := hxo.m
          have g2 := hxo.f
          obtain ⟨A, hA⟩ : ∃ A, x.m ++ x.f = A := ⟨_, rfl⟩
          rw [hA] at HB
          have HC := Lib.hid (fun W => contains_bang A W)
          rw [HB.out] at HC
          have hbwB := hbw5.alloc hbw5.size (.cells #[.string x.m, .string x.f, .string x.i, .int .i64 x.line, .int .i64 x.addr, .bool x.own] 54)
          go_wp2_with (go_at_call 19; (with_reducible refine (HC.out _).mono ?_); rintro e w6 ⟨rfl, rfl⟩)
          exact ⟨⟨j + 1, by omega, by go_num, hbwB⟩, by simp [RowKit.intOf] <;> omega⟩
        · go_wp2_with fail
          exact ⟨⟨k + 1, by omega, by go_num, hbw5⟩, by simp [RowKit.intOf] <;> omega⟩
    · have hoN := World.ownsRow_nil w2 w.heap.size 9 1
      go_wp2_with fail
      clear hlt HA
      go_loopw [10, 47] (fun v10 v47 wr => ∃ (k cn : Nat) (L : List (List UInt8)), k ≤ n ∧ v47 = .int .i64 k ∧ Hid (L = (l.take k).flatMap prLs) ∧ Hid (∀ x ∈ L, x.length ≤ 3000) ∧ cn ≤ k * 403 ∧ wr.ownsRow w.heap.size 9 1 v10 cn (svL L) ∧ Below w.heap.size w wr) (fun _ v47 _ => n - (RowKit.intOf v47).toNat)
      case atStart => exact ⟨0, 0, [], Nat.zero_le _, rfl, Lib.hid rfl, Lib.hid (by simp), by simp, hoN, hbw⟩
      clear hoN hbw hk
      clear w2
      obtain ⟨u0, rfl⟩ : ∃ u0 : World, u0 = wr := ⟨_, rfl⟩
      obtain ⟨m, cn, L, hm, rfl, HL, HLL, hcn, hou0, hBu0⟩ := hrel
      have hsu0 := hBu0.size
      by_cases hmn : m < n
      · have hkl : m < l.length := by have := HN.out; omega
        rcases h4 with h4 | ⟨bb, off, rfl, hbb, hat⟩
        · rw [h4] at hkl; simp at hkl
        obtain ⟨c0, c1, c2⟩ := (hat m hkl).below hbb hBu0
        have hfo := hall _ (List.getElem_mem hkl)
        have hfk := h3 _ (List.getElem_mem hkl)
        have HTK := Lib.hid (show (l.take (m + 1)).flatMap prLs = (l.take m).flatMap prLs ++ prLs l[m] by rw [List.take_succ_eq_append_getElem hkl, List.flatMap_append, List.flatMap_singleton])
        generalize l[m] = f at *
        obtain ⟨kd, tv, fv, fr⟩ := f
        obtain ⟨hf1, hf2, hf3, hf4⟩ := hfo
        obtain ⟨-, -, hfv⟩ := hfk
        simp only at c0 c1 c2 hf1 hf2 hf3 hf4 hfv
        obtain ⟨q, qc, rfl, hq1, hq2, -, hq4⟩ := hfv
        unfold maxLen at hq2
        clear hat hkl
        obtain ⟨nf, hnf⟩ : ∃ nf, nf = fr.length := ⟨_, rfl⟩
        have HNF := Lib.hid hnf
        have HH := Lib.hid (fun W => headR_any kd tv (.slice q fr.length qc) W hf1 hf2 ⟨_, _, _, rfl⟩)
        rw [← hnf] at c2 hf3 hq1 HH
        clear hnf
        have hhb := headB_len hf1 hf2
        have HPF := Lib.hid (show prLs ⟨kd, tv, .slice q fr.length qc, fr⟩ = [[102, 97, 117, 108, 116, 32] ++ d (headB kd tv)] ++ fr.flatMap prLn from rfl)
        have HFB := Lib.hid (show (⟨#[102, 97, 117, 108, 116, 32]⟩ : ByteArray) ++ headB kd tv = bs ([102, 97, 117, 108, 116, 32] ++ d (headB kd tv)) by apply data_inj; rw [app_data, bs_data]; rfl)
        obtain ⟨Y, hY⟩ : ∃ Y, headB kd tv = Y := ⟨_, rfl⟩
        have HYE := Lib.hid hY
        rw [hY] at hhb HFB HH
        clear hY
        obtain ⟨A, hA⟩ : ∃ A, (⟨#[102, 97, 117, 108, 116, 32]⟩ : ByteArray) ++ Y = A := ⟨_, rfl⟩
        rw [hA] at HFB
        have hzz6 : (⟨#[102, 97, 117, 108, 116, 32]⟩ : ByteArray).size = 6 := rfl
        have hm9 : m * 403 ≤ 9 * 403 := Nat.mul_le_mul_right _ (by omega)
        have hcn2 : cn ≤ 4000 := by omega
        have HNE := Lib.hid (own_lt hou0)
        go_upto_region 16 with fail
        have hBuA := hBu0.alloc hsu0 (.cells #[.string kd, .string tv, .slice q nf qc] 44)
        have hsuA := hBuA.size
        have houA := hou0.alloc (.cells #[.string kd, .string tv, .slice q nf qc] 44)
        have b0 : (u0.alloc (.cells #[.string kd, .string tv, .slice q nf qc] 44)).cell? ⟨u0.heap.size, 0, none⟩ = some (.string kd) := by go_simp
        have b1 : (u0.alloc (.cells #[.string kd, .string tv, .slice q nf qc] 44)).cell? ⟨u0.heap.size, 1, none⟩ = some (.string tv) := by go_simp
        have b2 : (u0.alloc (.cells #[.string kd, .string tv, .slice q nf qc] 44)).cell? ⟨u0.heap.size, 2, none⟩ = some (.slice q nf qc) := by go_simp
        generalize u0.alloc (.cells #[.string kd, .string tv, .slice q nf qc] 44) = uA at *
        clear c0 c1 c2
        go_wp2_with (first
          | (go_at_call 20; (with_reducible refine (HH.out _).mono ?_); rintro e u5 ⟨rfl, hbu5⟩; have hBu5 := below_keep hBuA (Nat.le_refl _) hbu5; have hsu5 := hBu5.size; have hou5 := own_keeps houA hbu5; have b2u5 := cell_keep b2 hbu5)
          | (at_builtin; refine wpList_append_own _ rfl _ _ 56 rfl w.heap.size 9 i0 (.string ⟨#[]⟩) 1 16 Tryz.underlying56 hi' hz0 hz1 hz2 rfl (by decide) _ _ _ rfl (hou5.alloc (.cells #[.string A] 9)) ⟨u5.heap.size, 0, none⟩ 1 1 [.string A] rfl rfl (cell_new u5 _ 9) (one_cell _) (by unfold maxLen; omega) (by omega) (by simp; omega) ?_; intro v6 u6 hou6 hgu6 _; have hBu6 := below_grown (hBu5.alloc hsu5 (.cells #[.string A] 9)) hgu6 (own_base hou5) (by simp; omega); have hsu6 := hBu6.size; have e2 : u6.cell? ⟨u0.heap.size, 2, none⟩ = some (.slice q nf qc) := grow_cell hgu6 (fun g hg => Nat.ne_of_lt (HNE.out g hg)) b2u5))
        rw [HFB.out, ← HYE.out] at hou6
        rw [← svL_snoc] at hou6
        clear b0 b1 b2 e2 hou0 houA hou5 hgu6 hBu0 hsu0 hBuA hsuA hBu5 hsu5 hbu5
        go_loopw [10, 60] (fun v10 v60 wr => ∃ (j cm : Nat), j ≤ nf ∧ v60 = .int .i64 j ∧ cm ≤ cn + 1 + 2 * j ∧ wr.ownsRow w.heap.size 9 1 v10 cm (svL (L ++ [[102, 97, 117, 108, 116, 32] ++ d (headB kd tv)] ++ (fr.take j).flatMap prLn)) ∧ Below w.heap.size w wr) (fun _ v60 _ => nf - (RowKit.intOf v60).toNat)
        case atStart => exact ⟨0, cn + 1, Nat.zero_le _, rfl, Nat.le_refl _, by rw [List.take_zero, List.flatMap_nil, List.append_nil]; exact hou6, hBu6⟩
        case round =>
          clear hou6 hBu6 hsu6
          obtain ⟨u4, rfl⟩ : ∃ u4 : World, u4 = wr := ⟨_, rfl⟩
          obtain ⟨j, cm, hj, rfl, hcm, hou4, hBu4⟩ := hrel
          have hsu4 := hBu4.size
          by_cases hjl : j < nf
          · have jl : j < fr.length := by have := HNF.out; omega
            rcases hq4 with hq4 | ⟨qb, qo, rfl, hqb, hqat⟩
            · rw [hq4] at jl; simp at jl
            obtain ⟨x0, x1, x2, x3, x4, x5⟩ := (hqat j jl).below hqb hBu4
            have hxo := hf4 _ (List.getElem_mem jl)
            have HSK := Lib.hid (show (fr.take (j + 1)).flatMap prLn = (fr.take j).flatMap prLn ++ prLn fr[j] by rw [List.take_succ_eq_append_getElem jl, List.flatMap_append, List.flatMap_singleton])
            generalize fr[j] = x at *
            clear hqat jl
            have HYtmoofdcoodaaiaaGreatDoor := Lib.hid (fun W => nameOf_any x W hxo)
            have HREST := Lib.hid (fun W => restR_any x W hxo)
            have hll := restW_len hxo
            have hlz : (bs (restW x)).size ≤ 240 := by rw [bs_size]; exact hll
            clear hll
            have HPL := Lib.hid (show prLn x = [d (callB x), [9] ++ restW x] by rw [← tail_rest x hxo]; rfl)
            have HCB := Lib.hid (show bs (d (callB x)) = callB x from bs_of _)
            have HOL := Lib.hid (show (⟨#[9]⟩ : ByteArray) ++ bs (restW x) = bs ([9] ++ restW x) by
              apply data_inj; rw [app_data, bs_data, bs_data])
            obtain ⟨Z, hZ⟩ : ∃ Z, bs (restW x) = Z := ⟨_, rfl⟩
            rw [hZ] at hlz HOL HREST
            clear hZ
            obtain ⟨A2, hA2⟩ : ∃ A2, (⟨#[9]⟩ : ByteArray) ++ Z = A2 := ⟨_, rfl⟩
            rw [hA2] at HOL
            obtain ⟨C, hC⟩ : ∃ C, callB x = C := ⟨_, rfl⟩
            have HCE := Lib.hid hC
            rw [hC] at HCB HYtmoofdcoodaaiaaGreatDoor
            clear hC
            have hzz9 : (⟨#[9]⟩ : ByteArray).size = 1 := rfl
            have HNB := Lib.hid (own_lt hou4)
            have hsum : (9223372036854775807 < 1 + Z.size) = False := by simp; omega
            have hcm2 : cm ≤ 4600 := by omega
            go_wp2_with fail
            have hBuB := hBu4.alloc hsu4 (.cells #[.string x.m, .string x.f, .string x.i, .int .i64 x.line, .int .i64 x.addr, .bool x.own] 54)
            have hsuB := hBuB.size
            have houB := hou4.alloc (.cells #[.string x.m, .string x.f, .string x.i, .int .i64 x.line, .int .i64 x.addr, .bool x.own] 54)
            have y0 : (u4.alloc (.cells #[.string x.m, .string x.f, .string x.i, .int .i64 x.line, .int .i64 x.addr, .bool x.own] 54)).cell? ⟨u4.heap.size, 0, none⟩ = some (.string x.m) := by go_simp
            have y1 : (u4.alloc (.cells #[.string x.m, .string x.f, .string x.i, .int .i64 x.line, .int .i64 x.addr, .bool x.own] 54)).cell? ⟨u4.heap.size, 1, none⟩ = some (.string x.f) := by go_simp
            have y2 : (u4.alloc (.cells #[.string x.m, .string x.f, .string x.i, .int .i64 x.line, .int .i64 x.addr, .bool x.own] 54)).cell? ⟨u4.heap.size, 2, none⟩ = some (.string x.i) := by go_simp
            have y3 : (u4.alloc (.cells #[.string x.m, .string x.f, .string x.i, .int .i64 x.line, .int .i64 x.addr, .bool x.own] 54)).cell? ⟨u4.heap.size, 3, none⟩ = some (.int .i64 x.line) := by go_simp
            have y4 : (u4.alloc (.cells #[.string x.m, .string x.f, .string x.i, .int .i64 x.line, .int .i64 x.addr, .bool x.own] 54)).cell? ⟨u4.heap.size, 4, none⟩ = some (.int .i64 x.addr) := by go_simp
            have y5 : (u4.alloc (.cells #[.string x.m, .string x.f, .string x.i, .int .i64 x.line, .int .i64 x.addr, .bool x.own] 54)).cell? ⟨u4.heap.size, 5, none⟩ = some (.bool x.own) := by go_simp
            generalize u4.alloc (.cells #[.string x.m, .string x.f, .string x.i, .int .i64 x.line, .int .i64 x.addr, .bool x.own] 54) = uB at *
            clear x0 x1 x2 x3 x4 x5
            go_region_held3 (fun w' => w'.cell? ⟨u4.heap.size, 0, none⟩ = some (.string x.m) ∧ w'.cell? ⟨u4.heap.size, 1, none⟩ = some (.string x.f) ∧ w'.cell? ⟨u4.heap.size, 2, none⟩ = some (.string x.i) ∧ w'.cell? ⟨u4.heap.size, 3, none⟩ = some (.int .i64 x.line) ∧ w'.cell? ⟨u4.heap.size, 4, none⟩ = some (.int .i64 x.addr) ∧ w'.cell? ⟨u4.heap.size, 5, none⟩ = some (.bool x.own))
              ((repeat' apply And.intro) <;> first | assumption | exact cell_drew (by assumption) | exact cell_alloc (by assumption) | exact cell_alloc (cell_drew (by assumption)))
              (first
                | (go_at_call 24; with_reducible refine (HYtmoofdcoodaaiaaGreatDoor.out _).mono ?_; rintro e wX ⟨rfl, hbX⟩; have y0 : World.cell? _ ⟨u4.heap.size, 0, none⟩ = some (.string x.m) := cell_keep (by first | assumption | exact cell_drew (by assumption)) hbX; have y1 : World.cell? _ ⟨u4.heap.size, 1, none⟩ = some (.string x.f) := cell_keep (by first | assumption | exact cell_drew (by assumption)) hbX; have y2 : World.cell? _ ⟨u4.heap.size, 2, none⟩ = some (.string x.i) := cell_keep (by first | assumption | exact cell_drew (by assumption)) hbX; have y3 : World.cell? _ ⟨u4.heap.size, 3, none⟩ = some (.int .i64 x.line) := cell_keep (by first | assumption | exact cell_drew (by assumption)) hbX; have y4 : World.cell? _ ⟨u4.heap.size, 4, none⟩ = some (.int .i64 x.addr) := cell_keep (by first | assumption | exact cell_drew (by assumption)) hbX; have y5 : World.cell? _ ⟨u4.heap.size, 5, none⟩ = some (.bool x.own) := cell_keep (by first | assumption | exact cell_drew (by assumption)) hbX; have hBX : Below w.heap.size w wX := below_keep (by first | assumption | exact Below.drew (by assumption)) (Nat.le_refl _) hbX; have hoX : wX.ownsRow w.heap.size 9 1 _ cm _ := own_keeps (by first | assumption | exact own_drew (by assumption)) hbX)
                | (go_at_call 25; with_reducible refine (HREST.out _).mono ?_; rintro e wX ⟨rfl, hbX⟩; have y0 : World.cell? _ ⟨u4.heap.size, 0, none⟩ = some (.string x.m) := cell_keep (by first | assumption | exact cell_drew (by assumption)) hbX; have y1 : World.cell? _ ⟨u4.heap.size, 1, none⟩ = some (.string x.f) := cell_keep (by first | assumption | exact cell_drew (by assumption)) hbX; have y2 : World.cell? _ ⟨u4.heap.size, 2, none⟩ = some (.string x.i) := cell_keep (by first | assumption | exact cell_drew (by assumption)) hbX; have y3 : World.cell? _ ⟨u4.heap.size, 3, none⟩ = some (.int .i64 x.line) := cell_keep (by first | assumption | exact cell_drew (by assumption)) hbX; have y4 : World.cell? _ ⟨u4.heap.size, 4, none⟩ = some (.int .i64 x.addr) := cell_keep (by first | assumption | exact cell_drew (by assumption)) hbX; have y5 : World.cell? _ ⟨u4.heap.size, 5, none⟩ = some (.bool x.own) := cell_keep (by first | assumption | exact cell_drew (by assumption)) hbX; have hBX : Below w.heap.size w wX := below_keep (by first | assumption | exact Below.drew (by assumption)) (Nat.le_refl _) hbX; have hoX : wX.ownsRow w.heap.size 9 1 _ cm _ := own_keeps (by first | assumption | exact own_drew (by assumption)) hbX)
                | (refine step_append_own rfl (.tmp 64) (.tmp 70) 56 rfl w.heap.size 9 i0 (.string ⟨#[]⟩) 1 16 Tryz.underlying56 hi' hz0 hz1 hz2 rfl (by decide) _ cm _ (by simp [Act.eval]) (hoX.alloc (.cells #[.string C, .string A2] 9)) ⟨wX.heap.size, 0, none⟩ 2 2 [.string C, .string A2] (by simp [Act.eval]) rfl (cells2_new wX _ _ 9) (two_cell _ _) (by unfold maxLen; omega) (by omega) (by have := hBX.size; simp; omega) ?_; intro v7 u7 hou7 hgu7; have hBu7 := below_grown (hBX.alloc hBX.size (.cells #[.string C, .string A2] 9)) hgu7 (own_base hoX) (by have := hBX.size; simp; omega); have z0 : u7.cell? ⟨u4.heap.size, 0, none⟩ = some (.string x.m) := grow_cell hgu7 (fun g hg => Nat.ne_of_lt (HNB.out g hg)) (by first | assumption | exact cell_drew (by assumption)); have z1 : u7.cell? ⟨u4.heap.size, 1, none⟩ = some (.string x.f) := grow_cell hgu7 (fun g hg => Nat.ne_of_lt (HNB.out g hg)) (by first | assumption | exact cell_drew (by assumption)); have z2 : u7.cell? ⟨u4.heap.size, 2, none⟩ = some (.string x.i) := grow_cell hgu7 (fun g hg => Nat.ne_of_lt (HNB.out g hg)) (by first | assumption | exact cell_drew (by assumption)); have z3 : u7.cell? ⟨u4.heap.size, 3, none⟩ = some (.int .i64 x.line) := grow_cell hgu7 (fun g hg => Nat.ne_of_lt (HNB.out g hg)) (by first | assumption | exact cell_drew (by assumption)); have z4 : u7.cell? ⟨u4.heap.size, 4, none⟩ = some (.int .i64 x.addr) := grow_cell hgu7 (fun g hg => Nat.ne_of_lt (HNB.out g hg)) (by first | assumption | exact cell_drew (by assumption)); have z5 : u7.cell? ⟨u4.heap.size, 5, none⟩ = some (.bool x.own) := grow_cell hgu7 (fun g hg => Nat.ne_of_lt (HNB.out g hg)) (by first | assumption | exact cell_drew (by assumption))))
            all_goals
              go_wp2_with fail
              refine ⟨⟨j + 1, cm + 2, by omega, by go_num, by omega, ?_, by assumption⟩, by simp [RowKit.intOf] <;> omega⟩
              rw [HSK.out, HPL.out, ← List.append_assoc, svL_two, HCE.out, HCB.out, ← HOL.out]; assumption
          · have HE := Lib.hid (show L ++ [[102, 97, 117, 108, 116, 32] ++ d (headB kd tv)] ++ (fr.take j).flatMap prLn = (l.take (m + 1)).flatMap prLs by
              rw [HTK.out, HPF.out, ← HL.out, List.take_of_length_le (by have := HNF.out; omega)]
              simp only [List.append_assoc])
            have HBIG := Lib.hid (show ∀ x ∈ L ++ [[102, 97, 117, 108, 116, 32] ++ d (headB kd tv)] ++ (fr.take j).flatMap prLn, x.length ≤ 3000 by
              intro x hx
              simp only [List.mem_append, List.mem_singleton, List.mem_flatMap] at hx
              rcases hx with (hx | hx) | ⟨y, hy, hx⟩
              · exact HLL.out x hx
              · subst hx; rw [List.length_append, d_len]; have := headB_len hf1 hf2; simp; omega
              · have hyo := hf4 y (List.mem_of_mem_take hy)
                unfold prLn at hx
                simp only [List.mem_cons, List.not_mem_nil, or_false] at hx
                rcases hx with rfl | rfl
                · rw [d_len]; have := callB_len hyo; omega
                · rw [tail_rest y hyo, List.length_append]; have := restW_len hyo; simp; omega)
            rw [HE.out] at hou4 HBIG
            have hm4 : (m + 1) * 403 = m * 403 + 403 := by omega
            go_wp2_with fail
            exact ⟨⟨m + 1, cm, _, by omega, by go_num, Lib.hid rfl, HBIG, by omega, hou4, hBu4⟩, by simp [RowKit.intOf] <;> omega⟩
      · have HJ := Lib.hid (show L = lines l 3 by rw [HL.out, List.take_of_length_le (by have := HN.out; omega)]; rfl)
        have hm9 : m * 403 ≤ 10 * 403 := Nat.mul_le_mul_right _ (by omega)
        have hlc := own_cnt hou0
        have HLC := Lib.hid hlc
        clear hlc
        have hcn2 : cn ≤ 4030 := by omega
        go_wp2_with (first
          | (at_builtin; refine wpList_append_own _ rfl _ _ 56 rfl w.heap.size 9 i0 (.string ⟨#[]⟩) 1 16 Tryz.underlying56 hi' hz0 hz1 hz2 rfl (by decide) _ _ _ rfl (hou0.alloc (.cells #[.string ⟨#[]⟩] 9)) ⟨u0.heap.size, 0, none⟩ 1 1 [.string ⟨#[]⟩] rfl rfl (cell_new u0 _ 9) (one_cell _) (by unfold maxLen; omega) (by omega) (by simp; omega) ?_; intro v1 u1 hou1 hgu1 _; have hBu1 := below_grown (hBu0.alloc hsu0 (.cells #[.string ⟨#[]⟩] 9)) hgu1 (own_base hou0) (by simp; omega); have hsu1 := hBu1.size; have hoj1 : u1.ownsRow w.heap.size 9 1 v1 (cn + 1) (svL (L ++ [[]])) := (by rw [svL_snoc]; exact hou1))
          | (go_at_call 26; (with_reducible refine (join_lines hoj1 (by rw [← HLC.out]; omega) HLL.out).mono ?_); rintro e u2 ⟨rfl, hbu2⟩))
        go_ret2
        exact ⟨by rw [HJ.out]; rfl, below_keep hBu1 (Nat.le_refl _) hbu2⟩


end Go.Proofs.YtmoofdcoodaaiaaGreatDoor

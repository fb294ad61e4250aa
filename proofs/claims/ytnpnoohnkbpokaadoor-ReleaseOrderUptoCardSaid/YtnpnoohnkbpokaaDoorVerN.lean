/- What Text answers: a version that can be written. -/
import Derived.Test.YtnpnoohnkbpokaaDoorVerM
namespace Go.Proofs.YtnpnoohnkbpokaaDoor
open Go.RowKit Go.Lib

theorem three_bounds {a b c : Int} (h0 : ¬ Lib.minOf [a, b, c] < 0) (h1 : ¬ 999999 < Lib.maxOf [a, b, c]) : (0 ≤ a ∧ a ≤ 999999) ∧ (0 ≤ b ∧ b ≤ 999999) ∧ (0 ≤ c ∧ c ≤ 999999) := by
  simp only [Lib.minOf, Lib.maxOf, List.foldl] at h0 h1
  omega
theorem bs_len (l : List UInt8) : (bs l).size = l.length := by rw [Lib.size_eq]; simp [bs]

set_option maxHeartbeats 8000000 in
set_option maxRecDepth 100000 in
theorem Text_good (v : Value) (x : Vr) (w : World) (h : VrV w v x) (he : Env w) (hz : x.pj.size ≤ 1048576) (hP : projB x.pj.data.toList = true) (h0 : ¬ minV x < 0) (h1 : ¬ 999999 < maxV x) (h5 : ¬ 5 < x.pre.length) (hA : anyBad x.pre = false) :
    Calls Tryd.prog 22 #[v] w fun e w' => e = .returned (.tuple #[.string (if 40 < (txtF x).size then ⟨#[]⟩ else txtF x), .int .i64 (if 40 < (txtF x).size then 4 else 0)]) ∧ Below w.heap.size w w' := by
  obtain ⟨p, rfl, hsl⟩ := h
  obtain ⟨a, cap, rfl, hl1, hl2, hfit, hat⟩ := id hsl
  have HSL := Lib.hid hsl
  have HV := Lib.hid he
  obtain ⟨pj, ma, mi, pa, pre⟩ := x
  simp only at hsl hl1 hl2 hz hP hA h5 hfit hat ⊢
  obtain ⟨⟨a0, a1⟩, ⟨b0, b1⟩, ⟨c0, c1⟩⟩ := three_bounds h0 h1
  simp only at a0 a1 b0 b1 c0 c1
  unfold maxLen at hl2
  have hzj : pj.size ≤ 40 := by rw [Lib.size_eq]; exact projB_size hP
  have HI := Lib.hid (fun W => isProject_any pj W (by omega))
  rw [hP] at HI
  have h3 := three (w.alloc (.cells #[.string pj, .int .i64 ma, .int .i64 mi, .int .i64 pa, .slice a pre.length cap] 43)) ma mi pa 3
  rw [World.size_alloc] at h3
  have HMn := Lib.hid (Tryd.slices_Min_int (w.heap.size + 1) 0 3 3 [ma, mi, pa] _ (by decide) (Nat.le_refl _) (by decide) h3)
  have HMx := Lib.hid (Tryd.slices_Max_int (w.heap.size + 1) 0 3 3 [ma, mi, pa] _ (by decide) (Nat.le_refl _) (by decide) h3)
  rw [show [ma, mi, pa].take 3 = [ma, mi, pa] from rfl] at HMn HMx
  have d1 : decide (Lib.minOf [ma, mi, pa] < 0) = false := decide_eq_false h0
  have d2 : decide (999999 < Lib.maxOf [ma, mi, pa]) = false := decide_eq_false h1
  have d3 : decide ((5 : Int) < (pre.length : Int)) = false := by simp; omega
  generalize Lib.minOf [ma, mi, pa] = mn at *
  generalize Lib.maxOf [ma, mi, pa] = mx at *
  have HC := Lib.hid (fun (W : World) (hW : Below w.heap.size w W) => containsF16 (.slice a pre.length cap) pre W (HSL.out.below (Nat.le_refl _) hW))
  rw [hA] at HC
  have hb2 : Below w.heap.size w ((w.alloc (.cells #[.string pj, .int .i64 ma, .int .i64 mi, .int .i64 pa, .slice a pre.length cap] 43)).alloc (.cells #[.int .i64 ma, .int .i64 mi, .int .i64 pa] 3)) := ((Below.refl _ _).alloc (Nat.le_refl _) _).alloc (by simp) _
  have HB2 := Lib.hid hb2
  have HBX := Lib.hid ((bx5_new w (.string pj) (.int .i64 ma) (.int .i64 mi) (.int .i64 pa) (.slice a pre.length cap) 43).alloc (.cells #[.int .i64 ma, .int .i64 mi, .int .i64 pa] 3))
  have HA1 := Lib.hid (fun (W : World) (hW : Below w.heap.size w W) => itoa_any ma W (by omega) (by omega) (HV.out.keep hW))
  have HA2 := Lib.hid (fun (W : World) (hW : Below w.heap.size w W) => itoa_any mi W (by omega) (by omega) (HV.out.keep hW))
  have HA3 := Lib.hid (fun (W : World) (hW : Below w.heap.size w W) => itoa_any pa W (by omega) (by omega) (HV.out.keep hW))
  have HTF := Lib.hid (show txtF ⟨pj, ma, mi, pa, pre⟩ = if pre = [] then pj ++ ⟨#[45]⟩ ++ bs (Lib.itoa ma) ++ ⟨#[46]⟩ ++ bs (Lib.itoa mi) ++ ⟨#[46]⟩ ++ bs (Lib.itoa pa) else pj ++ ⟨#[45]⟩ ++ bs (Lib.itoa ma) ++ ⟨#[46]⟩ ++ bs (Lib.itoa mi) ++ ⟨#[46]⟩ ++ bs (Lib.itoa pa) ++ (⟨#[45]⟩ ++ joinB pre) from rfl)
  rw [HTF.out]
  clear HTF
  have z1 : (bs (Lib.itoa ma)).size ≤ 6 := by rw [bs_len]; exact itoa_len a0 a1
  have z2 : (bs (Lib.itoa mi)).size ≤ 6 := by rw [bs_len]; exact itoa_len b0 b1
  have z3 : (bs (Lib.itoa pa)).size ≤ 6 := by rw [bs_len]; exact itoa_len c0 c1
  generalize bs (Lib.itoa ma) = A at *
  generalize bs (Lib.itoa mi) = B at *
  generalize bs (Lib.itoa pa) = C at *
  have e45 : (⟨#[45]⟩ : ByteArray).size = 1 := rfl
  have e46 : (⟨#[46]⟩ : ByteArray).size = 1 := rfl
  have q1 : (9223372036854775807 < pj.size + 1) = False := eq_false (by omega)
  have q2 : (9223372036854775807 < pj.size + 1 + A.size) = False := eq_false (by omega)
  have q3 : (9223372036854775807 < pj.size + 1 + A.size + 1) = False := eq_false (by omega)
  have q4 : (9223372036854775807 < pj.size + 1 + A.size + 1 + B.size) = False := eq_false (by omega)
  have q5 : (9223372036854775807 < pj.size + 1 + A.size + 1 + B.size + 1) = False := eq_false (by omega)
  have q6 : (9223372036854775807 < pj.size + 1 + A.size + 1 + B.size + 1 + C.size) = False := eq_false (by omega)
  obtain ⟨X, hX⟩ : ∃ X, X = pj ++ ⟨#[45]⟩ ++ A ++ ⟨#[46]⟩ ++ B ++ ⟨#[46]⟩ ++ C := ⟨_, rfl⟩
  rw [← hX]
  have zX : X.size ≤ 100 := by rw [hX]; simp only [ByteArray.size_append, e45, e46]; omega
  have HX := Lib.hid hX
  clear hX
  obtain ⟨T, hT⟩ : ∃ T, T = if pre = [] then X else X ++ (⟨#[45]⟩ ++ joinB pre) := ⟨_, rfl⟩
  rw [← hT]
  have HT := Lib.hid hT
  obtain ⟨r1, hr1⟩ : ∃ r, r = if 40 < T.size then (⟨#[]⟩ : ByteArray) else T := ⟨_, rfl⟩
  obtain ⟨r2, hr2⟩ : ∃ r : Int, r = if 40 < T.size then 4 else 0 := ⟨_, rfl⟩
  rw [← hr1, ← hr2]
  have HR1 := Lib.hid hr1
  have HR2 := Lib.hid hr2
  clear hT hr1 hr2
  clear h3 hb2 hA hP he hsl h0 h1 a0 a1 b0 b1 c0 c1
  go_enter Tryd.func22, Tryd.ntmps22
  go_upto_region 11 with (first
    | (go_at_call 52; refine (HI.out _).mono ?_; rintro e w1 ⟨rfl, rfl⟩)
    | (go_at_call 53; (with_reducible refine HMn.out.mono ?_); rintro e w1 ⟨rfl, rfl⟩)
    | (go_at_call 54; (with_reducible refine HMx.out.mono ?_); rintro e w1 ⟨rfl, rfl⟩)
    | (go_at_call 55; (with_reducible refine (HC.out _ HB2.out).mono ?_); rintro e w2 ⟨rfl, hbc⟩; have n0 := (HBX.out.below hbc).c0; have n1 := (HBX.out.below hbc).c1; have n2 := (HBX.out.below hbc).c2; have n3 := (HBX.out.below hbc).c3; have n4 := (HBX.out.below hbc).c4; have hbN := below_call HB2.out HB2.out.size hbc))
  go_cut [5] from 34 to 50 (fun v5 wx => v5 = .string X ∧ wx.cell? ⟨w.heap.size, 4, none⟩ = some (.slice a pre.length cap) ∧ Below w.heap.size w wx)
  case first =>
    go_region_held3 (fun w' => w'.cell? ⟨w.heap.size, 0, none⟩ = some (.string pj) ∧ w'.cell? ⟨w.heap.size, 1, none⟩ = some (.int .i64 ma) ∧ w'.cell? ⟨w.heap.size, 2, none⟩ = some (.int .i64 mi) ∧ w'.cell? ⟨w.heap.size, 3, none⟩ = some (.int .i64 pa) ∧ w'.cell? ⟨w.heap.size, 4, none⟩ = some (.slice a pre.length cap) ∧ Below w.heap.size w w')
      ((repeat' apply And.intro) <;> first | assumption | exact Below.drew (by assumption) | exact cell_keep (by first | assumption | exact cell_drew (by assumption)) hbX | exact below_keep (by first | assumption | exact Below.drew (by assumption)) (Nat.le_refl _) hbX)
      (first
        | (go_at_call 57; with_reducible refine (HA1.out _ (by first | assumption | exact Below.drew (by assumption))).mono ?_; rintro e wX ⟨rfl, hbX⟩; have n0x : World.cell? _ ⟨w.heap.size, 0, none⟩ = some (.string pj) := cell_keep (by first | assumption | exact cell_drew (by assumption)) hbX; have n1x : World.cell? _ ⟨w.heap.size, 1, none⟩ = some (.int .i64 ma) := cell_keep (by first | assumption | exact cell_drew (by assumption)) hbX; have n2x : World.cell? _ ⟨w.heap.size, 2, none⟩ = some (.int .i64 mi) := cell_keep (by first | assumption | exact cell_drew (by assumption)) hbX; have n3x : World.cell? _ ⟨w.heap.size, 3, none⟩ = some (.int .i64 pa) := cell_keep (by first | assumption | exact cell_drew (by assumption)) hbX; have n4x : World.cell? _ ⟨w.heap.size, 4, none⟩ = some (.slice a pre.length cap) := cell_keep (by first | assumption | exact cell_drew (by assumption)) hbX; have hbN : Below w.heap.size w _ := below_keep (by first | assumption | exact Below.drew (by assumption)) (Nat.le_refl _) hbX)
        | (go_at_call 57; with_reducible refine (HA2.out _ (by first | assumption | exact Below.drew (by assumption))).mono ?_; rintro e wX ⟨rfl, hbX⟩; have n0x : World.cell? _ ⟨w.heap.size, 0, none⟩ = some (.string pj) := cell_keep (by first | assumption | exact cell_drew (by assumption)) hbX; have n1x : World.cell? _ ⟨w.heap.size, 1, none⟩ = some (.int .i64 ma) := cell_keep (by first | assumption | exact cell_drew (by assumption)) hbX; have n2x : World.cell? _ ⟨w.heap.size, 2, none⟩ = some (.int .i64 mi) := cell_keep (by first | assumption | exact cell_drew (by assumption)) hbX; have n3x : World.cell? _ ⟨w.heap.size, 3, none⟩ = some (.int .i64 pa) := cell_keep (by first | assumption | exact cell_drew (by assumption)) hbX; have n4x : World.cell? _ ⟨w.heap.size, 4, none⟩ = some (.slice a pre.length cap) := cell_keep (by first | assumption | exact cell_drew (by assumption)) hbX; have hbN : Below w.heap.size w _ := below_keep (by first | assumption | exact Below.drew (by assumption)) (Nat.le_refl _) hbX)
        | (go_at_call 57; with_reducible refine (HA3.out _ (by first | assumption | exact Below.drew (by assumption))).mono ?_; rintro e wX ⟨rfl, hbX⟩; have n0x : World.cell? _ ⟨w.heap.size, 0, none⟩ = some (.string pj) := cell_keep (by first | assumption | exact cell_drew (by assumption)) hbX; have n1x : World.cell? _ ⟨w.heap.size, 1, none⟩ = some (.int .i64 ma) := cell_keep (by first | assumption | exact cell_drew (by assumption)) hbX; have n2x : World.cell? _ ⟨w.heap.size, 2, none⟩ = some (.int .i64 mi) := cell_keep (by first | assumption | exact cell_drew (by assumption)) hbX; have n3x : World.cell? _ ⟨w.heap.size, 3, none⟩ = some (.int .i64 pa) := cell_keep (by first | assumption | exact cell_drew (by assumption)) hbX; have n4x : World.cell? _ ⟨w.heap.size, 4, none⟩ = some (.slice a pre.length cap) := cell_keep (by first | assumption | exact cell_drew (by assumption)) hbX; have hbN : Below w.heap.size w _ := below_keep (by first | assumption | exact Below.drew (by assumption)) (Nat.le_refl _) hbX))
    all_goals first
      | (go_wp2_with fail; go_meet; exact ⟨by rw [HX.out], by assumption, by assumption⟩)
      | (exfalso; omega)
  case rest =>
    obtain ⟨rfl, n4, hbw⟩ := hcut
    have HBW := Lib.hid hbw
    by_cases hpre : pre = []
    · have HTX := Lib.hid (HT.out.trans (if_pos hpre))
      have dl : decide ((0 : Int) < (pre.length : Int)) = false := by rw [hpre]; rfl
      have dln : decide (0 < pre.length) = false := by rw [hpre]; rfl
      clear hpre hfit hat HSL
      by_cases hs : 40 < X.size
      · have ds : decide ((40 : Int) < (X.size : Int)) = true := by simp; omega
        have HQ1 := Lib.hid (show r1 = ⟨#[]⟩ by rw [HR1.out, HTX.out, if_pos hs])
        have HQ2 := Lib.hid (show r2 = 4 by rw [HR2.out, HTX.out, if_pos hs])
        clear hs
        go_wp2_with fail
        go_ret2
        exact ⟨by rw [HQ1.out, HQ2.out] <;> rfl, HBW.out⟩
      · have ds : decide ((40 : Int) < (X.size : Int)) = false := by simp; omega
        have HQ1 := Lib.hid (show r1 = X by rw [HR1.out, HTX.out, if_neg hs])
        have HQ2 := Lib.hid (show r2 = 0 by rw [HR2.out, HTX.out, if_neg hs])
        clear hs
        go_wp2_with fail
        go_ret2
        exact ⟨by rw [HQ1.out, HQ2.out] <;> rfl, HBW.out⟩
    · have HTX := Lib.hid (HT.out.trans (if_neg hpre))
      have hpl : 0 < pre.length := List.length_pos_iff.2 hpre
      have dl : decide ((0 : Int) < (pre.length : Int)) = true := by simp; exact hpl
      have dln : decide (0 < pre.length) = true := decide_eq_true hpl
      rcases hat with hat | ⟨b, off, rfl, hb, hat⟩
      · exact absurd hat hpre
      have HJ := Lib.hid (fun (W : World) (hW : Below w.heap.size w W) => join_any pre b off cap w W hpl (by omega) hl1 hfit hb hat hW)
      have zJ := joinB_size pre (by omega) hfit
      generalize joinB pre = Y at *
      have zT : (X ++ (⟨#[45]⟩ ++ Y)).size = X.size + (1 + Y.size) := by rw [ByteArray.size_append, ByteArray.size_append, e45]
      have zY : (⟨#[45]⟩ ++ Y : ByteArray).size = 1 + Y.size := by rw [ByteArray.size_append, e45]
      clear hpre hfit hat HSL hb
      by_cases hs : 40 < (X ++ (⟨#[45]⟩ ++ Y)).size
      · have ds : decide ((40 : Int) < ((X ++ (⟨#[45]⟩ ++ Y)).size : Int)) = true := by simp only [decide_eq_true_eq]; omega
        have ds2 : decide ((40 : Int) < (X.size : Int) + (1 + (Y.size : Int))) = true := by simp only [decide_eq_true_eq]; omega
        have HQ1 := Lib.hid (show r1 = ⟨#[]⟩ by rw [HR1.out, HTX.out, if_pos hs])
        have HQ2 := Lib.hid (show r2 = 4 by rw [HR2.out, HTX.out, if_pos hs])
        clear hs
        go_wp2_with (go_at_call 32; (with_reducible refine (HJ.out _ HBW.out).mono ?_); rintro e w8 ⟨rfl, hb8⟩)
        all_goals first
          | (go_ret2; exact ⟨by rw [HQ1.out, HQ2.out] <;> rfl, below_keep HBW.out (Nat.le_refl _) hb8⟩)
          | (exfalso; omega)
      · have ds : decide ((40 : Int) < ((X ++ (⟨#[45]⟩ ++ Y)).size : Int)) = false := by simp only [decide_eq_false_iff_not]; omega
        have ds2 : decide ((40 : Int) < (X.size : Int) + (1 + (Y.size : Int))) = false := by simp only [decide_eq_false_iff_not]; omega
        have HQ1 := Lib.hid (show r1 = X ++ (⟨#[45]⟩ ++ Y) by rw [HR1.out, HTX.out, if_neg hs])
        have HQ2 := Lib.hid (show r2 = 0 by rw [HR2.out, HTX.out, if_neg hs])
        clear hs
        go_wp2_with (go_at_call 32; (with_reducible refine (HJ.out _ HBW.out).mono ?_); rintro e w8 ⟨rfl, hb8⟩)
        all_goals first
          | (go_ret2; exact ⟨by rw [HQ1.out, HQ2.out] <;> rfl, below_keep HBW.out (Nat.le_refl _) hb8⟩)
          | (exfalso; omega)
end Go.Proofs.YtnpnoohnkbpokaaDoor

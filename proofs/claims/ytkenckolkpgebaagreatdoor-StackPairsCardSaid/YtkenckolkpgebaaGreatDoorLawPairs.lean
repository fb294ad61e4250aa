/- The law StackPairs, walked. -/
import Derived.Test.YtkenckolkpgebaaGreatDoorLawAligns
import Derived.Test.YtkenckolkpgebaaGreatDoorAwake
import Derived.Test.YtkenckolkpgebaaGreatDoorPairsPlain
import Derived.BigQuiet
namespace Go.Proofs.YtkenckolkpgebaaGreatDoor
open Go.RowKit Go.Deep

theorem twoErr_zero {a b : List Fr} : twoErr a b = 0 ↔ frsErr a = 0 ∧ frsErr b = 0 := by
  unfold twoErr
  by_cases h : frsErr a = 0
  · simp [h]
  · simp [h]
theorem nearV_symm (a b : List Fr) : nearV b a = nearV a b := by
  unfold nearV
  rw [prg_len_symm a b, Nat.add_comm b.length, Int.add_comm (b.length : Int)]
theorem nearV_range (a b : List Fr) : 0 ≤ nearV a b ∧ nearV a b ≤ 1000 := by
  obtain ⟨h1, h2⟩ := prg_len_le a b
  unfold nearV
  generalize (prg a b a.length 0 0).length = L at *
  by_cases h0 : a.length + b.length = 0
  · rw [if_pos h0]; omega
  · rw [if_neg h0, Int.tdiv_eq_ediv_of_nonneg (by omega)]
    exact ⟨Int.ediv_nonneg (by omega) (by omega), Int.ediv_le_of_le_mul (by omega) (by omega)⟩
theorem nearV_self (a : List Fr) : nearV a a = 1000 := by
  unfold nearV
  rw [prg_len_self]
  by_cases h0 : a.length + a.length = 0
  · rw [if_pos h0]
  · rw [if_neg h0, show (2000 : Int) * (a.length : Nat) = 1000 * ((a.length : Int) + a.length) by omega]
    exact Int.mul_tdiv_cancel _ (by omega)
theorem alk_parts {x y : Fr} (h : alk x y = true) : x.m = y.m ∧ x.f = y.f ∧ x.i = y.i := by
  unfold alk at h
  simpa [and_assoc] using h

theorem pr_at {a b : List Fr} {n : Nat} {l : List (Nat × Nat)} (hl : prg a b n 0 0 = l) : ∀ k x1 x2, k < l.length → l[k]? = some (x1, x2) → ∃ (h1 : x1 < a.length) (h2 : x2 < b.length), alk a[x1] b[x2] = true := by
  subst hl
  intro k x1 x2 hk hx
  have := prg_at hk
  rw [List.getElem?_eq_getElem hk] at hx
  have he := Option.some.inj hx
  rw [he] at this
  exact this
theorem pr_rise {a b : List Fr} {n : Nat} {l : List (Nat × Nat)} (hl : prg a b n 0 0 = l) : ∀ k x1 x2 y1 y2, k + 1 < l.length → l[k]? = some (y1, y2) → l[k + 1]? = some (x1, x2) → y1 < x1 ∧ y2 < x2 := by
  subst hl
  intro k x1 x2 y1 y2 hk hy hx
  have := prg_rise hk
  rw [List.getElem?_eq_getElem hk] at hx
  rw [List.getElem?_eq_getElem (by omega)] at hy
  rw [Option.some.inj hx, Option.some.inj hy] at this
  exact this
theorem slP_cells {w : World} {v : Value} {l : List (Nat × Nat)} (h : SlP w v l) : ∃ (p : Option Addr) (cap g : Nat), v = .slice p l.length cap ∧ (0 < l.length → p = some ⟨g, 0, none⟩ ∧ g < w.heap.size) ∧ ∀ (i x1 x2 : Nat), l[i]? = some (x1, x2) → w.cell? ⟨g, i * 2, none⟩ = some (.int .i64 x1) ∧ w.cell? ⟨g, i * 2 + 1, none⟩ = some (.int .i64 x2) := by
  obtain ⟨p, cap, rfl, rfl | ⟨g, rfl, hg, hc⟩⟩ := h
  · exact ⟨p, cap, 0, rfl, fun h => by simp at h, fun i x1 x2 h => by simp at h⟩
  · refine ⟨_, cap, g, rfl, fun _ => ⟨rfl, hg⟩, fun i x1 x2 h => ?_⟩
    obtain ⟨hi, he⟩ := List.getElem?_eq_some_iff.1 h
    have := hc i hi
    rw [he] at this
    exact this

set_option maxHeartbeats 1000000 in
set_option maxRecDepth 100000 in
theorem pairs_bad (v1 v2 : Value) (a b : List Fr) (w : World) (h1 : SlF w v1 a) (h2 : SlF w v2 b) (he : twoErr a b ≠ 0) :
    Calls Tryz.prog 3 #[v1, v2] w fun e w' => e = .returned (.bool true) ∧ Below w.heap.size w w' := by
  have he' : twoErr b a ≠ 0 := fun h => he (twoErr_zero.2 ⟨(twoErr_zero.1 h).2, (twoErr_zero.1 h).1⟩)
  have HA := Lib.hid (fun (W : World) (hb : Below w.heap.size w W) => align_bad v1 v2 a b W (h1.below (Nat.le_refl _) hb) (h2.below (Nat.le_refl _) hb) he)
  have HB := Lib.hid (fun (W : World) (hb : Below w.heap.size w W) => align_bad v2 v1 b a W (h2.below (Nat.le_refl _) hb) (h1.below (Nat.le_refl _) hb) he')
  have HC := Lib.hid (fun (W : World) (hb : Below w.heap.size w W) => near_bad v1 v2 a b W (h1.below (Nat.le_refl _) hb) (h2.below (Nat.le_refl _) hb) he)
  have HD := Lib.hid (fun (W : World) (hb : Below w.heap.size w W) => near_bad v2 v1 b a W (h2.below (Nat.le_refl _) hb) (h1.below (Nat.le_refl _) hb) he')
  have hq : (twoErr a b != 0) = true := by simpa using he
  clear he he' h1 h2
  generalize twoErr a b = E at *
  generalize twoErr b a = E' at *
  go_enter Tryz.func3, Tryz.ntmps3
  go_wp2_with (first
    | (go_at_call 4; refine (awake_any _).mono ?_; rintro e w1 ⟨rfl, hb1⟩)
    | (go_at_call 5; with_reducible refine (HA.out _ hb1).mono ?_; rintro e w2 ⟨rfl, hb2⟩; have hb12 := below_call hb1 hb1.size hb2)
    | (go_at_call 5; with_reducible refine (HB.out _ hb12).mono ?_; rintro e w3 ⟨rfl, hb3⟩; have hb13 := below_call hb12 hb12.size hb3)
    | (go_at_call 6; with_reducible refine (HC.out _ hb13).mono ?_; rintro e w4 ⟨rfl, hb4⟩; have hb14 := below_call hb13 hb13.size hb4)
    | (go_at_call 6; with_reducible refine (HD.out _ hb14).mono ?_; rintro e w5 ⟨rfl, hb5⟩; have hb15 := below_call hb14 hb14.size hb5))
  go_ret
  exact ⟨by simp, hb15⟩

set_option maxHeartbeats 1000000 in
set_option maxRecDepth 100000 in
theorem pairs_good (pa pb : Option Addr) (ba oa ca bb ob cb n m : Nat) (a b : List Fr) (w : World) (hn : a.length = n) (hm : b.length = m) (hpa : 0 < n → pa = some ⟨ba, oa, none⟩ ∧ ba < w.heap.size) (hpb : 0 < m → pb = some ⟨bb, ob, none⟩ ∧ bb < w.heap.size) (hla : n ≤ 200) (hlb : m ≤ 200) (hca : FrsAt w ba oa a) (hcb : FrsAt w bb ob b)
    (h1 : SlF w (.slice pa n ca) a) (h2 : SlF w (.slice pb m cb) b) (he : twoErr a b = 0) :
    Calls Tryz.prog 3 #[.slice pa n ca, .slice pb m cb] w fun e w' => e = .returned (.bool true) ∧ Below w.heap.size w w' := by
  have he' : twoErr b a = 0 := twoErr_zero.2 ⟨(twoErr_zero.1 he).2, (twoErr_zero.1 he).1⟩
  have hes : twoErr a a = 0 := twoErr_zero.2 ⟨(twoErr_zero.1 he).1, (twoErr_zero.1 he).1⟩
  have HA := Lib.hid (fun (W : World) (hb : Below w.heap.size w W) => align_good _ _ a b W (h1.below (Nat.le_refl _) hb) (h2.below (Nat.le_refl _) hb) he)
  have HB := Lib.hid (fun (W : World) (hb : Below w.heap.size w W) => align_good _ _ b a W (h2.below (Nat.le_refl _) hb) (h1.below (Nat.le_refl _) hb) he')
  have HC := Lib.hid (fun (W : World) (hb : Below w.heap.size w W) => near_good _ _ a b W (h1.below (Nat.le_refl _) hb) (h2.below (Nat.le_refl _) hb) he)
  have HD := Lib.hid (fun (W : World) (hb : Below w.heap.size w W) => near_good _ _ b a W (h2.below (Nat.le_refl _) hb) (h1.below (Nat.le_refl _) hb) he')
  have HS := Lib.hid (fun (W : World) (hb : Below w.heap.size w W) => near_good _ _ a a W (h1.below (Nat.le_refl _) hb) (h1.below (Nat.le_refl _) hb) hes)
  rw [nearV_symm a b] at HD
  rw [nearV_self a] at HS
  rw [prg_len_symm a b] at HB
  obtain ⟨hr1, hr2⟩ := nearV_range a b
  obtain ⟨l, hPL⟩ : ∃ l, prg a b a.length 0 0 = l := ⟨_, rfl⟩
  have HAt := Lib.hid (pr_at hPL)
  have HRi := Lib.hid (pr_rise hPL)
  have hL := (prg_len_le a b).1
  clear he he' hes h1 h2
  generalize hNV : nearV a b = N at *
  clear hNV
  have hN1 : decide (N < 0) = false := by simp; omega
  have hN2 : decide (1000 < N) = false := by simp; omega
  rw [hPL] at HA HB hL
  clear hPL
  obtain ⟨L, hLL⟩ : ∃ L, l.length = L := ⟨_, rfl⟩
  rw [hLL] at HB hL HAt HRi
  rw [hn] at hL
  go_enter Tryz.func3, Tryz.ntmps3
  go_wp2_with (first
    | (go_at_call 4; refine (awake_any _).mono ?_; rintro e w1 ⟨rfl, hb1⟩)
    | (go_at_call 5; with_reducible refine (HA.out _ hb1).mono ?_; rintro e w2 ⟨v, rfl, hown, hb2⟩; have hb12 := below_call hb1 hb1.size hb2; obtain ⟨pv, cv, gv, rfl, hgv, hcv⟩ := slP_cells (slP_of_owns hown); rw [hLL] at hgv; rw [hLL]; have HCV := Lib.hid hcv; have HGV := Lib.hid hgv; clear hcv hgv hown)
    | (go_at_call 5; with_reducible refine (HB.out _ hb12).mono ?_; rintro e w3 ⟨v, rfl, hown', hb3⟩; have hb13 := below_call hb12 hb12.size hb3; obtain ⟨pu, cu, rfl⟩ := own_slice hown')
    | (go_at_call 6; with_reducible refine (HC.out _ hb13).mono ?_; rintro e w4 ⟨rfl, hb4⟩; have hb14 := below_call hb13 hb13.size hb4)
    | (go_at_call 6; with_reducible refine (HD.out _ hb14).mono ?_; rintro e w5 ⟨rfl, hb5⟩; have hb15 := below_call hb14 hb14.size hb5))
  have hs12 := hb12.size
  have hs15 := hb15.size
  have hb25 := below_call (below_call hb3 hb3.size hb4) (below_call hb3 hb3.size hb4).size hb5
  have HW := Lib.hid hb15
  have HV := Lib.hid hb25
  clear hb1 hb12 hb13 hb14 hb15 hb2 hb3 hb4 hb5 hb25 hown' HA HB HC HD hr1 hr2 hN1 hN2
  go_loopw [89] (fun v wr => ∃ k : Nat, k ≤ L ∧ v = .int .i64 k ∧ Below w5.heap.size w5 wr) (fun v _ => L - (intOf v).toNat)
  case atStart => exact ⟨0, Nat.zero_le _, rfl, Below.refl _ _⟩
  case round =>
    obtain ⟨k, hk, rfl, hbw⟩ := hrel
    have hbr : Below w.heap.size w wr := HW.out.trans (hbw.mono HW.out.size)
    by_cases hlt : k < L
    · obtain ⟨rfl, hg⟩ := HGV.out (by omega)
      obtain ⟨⟨x1, x2⟩, hx⟩ : ∃ p, l[k]? = some p := ⟨_, List.getElem?_eq_getElem (by omega)⟩
      obtain ⟨q1, q2, hal⟩ := HAt.out k x1 x2 hlt hx
      obtain ⟨c0, c1⟩ := HCV.out k x1 x2 hx
      have hb2r : Below w2.heap.size w2 wr := HV.out.trans (hbw.mono HV.out.size)
      replace c0 := (hb2r.cell (p := ⟨gv, _, none⟩) hg).trans c0
      replace c1 := (hb2r.cell (p := ⟨gv, _, none⟩) hg).trans c1
      obtain ⟨rfl, hba⟩ := hpa (by omega)
      obtain ⟨rfl, hbb⟩ := hpb (by omega)
      obtain ⟨a0, a1, a2, a3, a4, a5⟩ := (hca x1 q1).below hba hbr
      obtain ⟨b0, b1, b2, b3, b4, b5⟩ := (hcb x2 q2).below hbb hbr
      obtain ⟨e1, e2, e3⟩ := alk_parts hal
      clear hal
      have hsr := hbr.size
      have u0 : ba < wr.heap.size := by omega
      have u1 : bb < wr.heap.size := by omega
      have u2 : ba < wr.heap.size + 1 := by omega
      have u3 : bb < wr.heap.size + 1 := by omega
      have u4 : ba < wr.heap.size + 1 + 1 := by omega
      have u5 : bb < wr.heap.size + 1 + 1 := by omega
      generalize a[x1] = x at *
      generalize b[x2] = y at *
      obtain ⟨xm, xf, xi, xl, xa, xo⟩ := x
      obtain ⟨ym, yf, yi, yl, ya, yo⟩ := y
      simp only at e1 e2 e3 a0 a1 a2 a3 a4 a5 b0 b1 b2 b3 b4 b5
      subst e1 e2 e3
      have hp1 : decide ((x1 : Int) < 0) = false := decide_eq_false (by omega)
      have hp2 : decide ((x2 : Int) < 0) = false := decide_eq_false (by omega)
      have hp3 : decide ((n : Int) ≤ (x1 : Int)) = false := decide_eq_false (by omega)
      have hp4 : decide ((m : Int) ≤ (x2 : Int)) = false := decide_eq_false (by omega)
      have hp5 : decide (n ≤ x1) = false := decide_eq_false (by omega)
      have hp6 : decide (m ≤ x2) = false := decide_eq_false (by omega)
      have hx1 : (x1 : Int) < (n : Int) := by omega
      have hx2 : (x2 : Int) < (m : Int) := by omega
      by_cases hk0 : k = 0
      · have hd0 : decide ((0 : Int) < (k : Int)) = false := decide_eq_false (by omega)
        have hd1 : decide (0 < k) = false := decide_eq_false (by omega)
        clear hk0
        go_wp2_with fail
        go_quiet (fail)
        go_wp2_with fail
        go_region
        all_goals (go_wp2_with fail)
        all_goals exact ⟨⟨k + 1, by omega, by go_num, ((below_drewN (hbw.alloc hbw.size _) _).alloc (by have := hbw.size; simp; omega) _).alloc (by have := hbw.size; simp; omega) _⟩, by simp [intOf]; omega⟩
      · have hd0 : decide ((0 : Int) < (k : Int)) = true := decide_eq_true (by omega)
        have hd1 : decide (0 < k) = true := decide_eq_true (by omega)
        obtain ⟨j, hj⟩ : ∃ j, k = j + 1 := ⟨k - 1, by omega⟩
        obtain ⟨⟨y1, y2⟩, hy⟩ : ∃ p, l[j]? = some p := ⟨_, List.getElem?_eq_getElem (by omega)⟩
        obtain ⟨r1, r2⟩ := HRi.out j x1 x2 y1 y2 (by omega) hy (by rw [← hj]; exact hx)
        obtain ⟨d0, d1⟩ := HCV.out j y1 y2 hy
        replace d0 := (hb2r.cell (p := ⟨gv, _, none⟩) hg).trans d0
        replace d1 := (hb2r.cell (p := ⟨gv, _, none⟩) hg).trans d1
        have hji : (k : Int) - 1 = (j : Int) := by omega
        have hjL : (j : Int) < (L : Int) := by omega
        have hp7 : decide ((x1 : Int) ≤ (y1 : Int)) = false := decide_eq_false (by omega)
        have hp8 : decide ((x2 : Int) ≤ (y2 : Int)) = false := decide_eq_false (by omega)
        have hp9 : decide (x1 ≤ y1) = false := decide_eq_false (by omega)
        have hp0 : decide (x2 ≤ y2) = false := decide_eq_false (by omega)
        have u6 : gv < wr.heap.size := by have := hb2r.size; omega
        clear hj hk0 r1 r2
        go_wp2_with fail
        go_quiet (fail)
        go_wp2_with fail
        go_region
        all_goals (go_wp2_with fail)
        all_goals exact ⟨⟨k + 1, by omega, by go_num, ((below_drewN (hbw.alloc hbw.size _) _).alloc (by have := hbw.size; simp; omega) _).alloc (by have := hbw.size; simp; omega) _⟩, by simp [intOf]; omega⟩
    · go_wp2_with (first | (go_at_call 6; with_reducible refine (HS.out _ (by assumption)).mono ?_; rintro e w6 ⟨rfl, hb6⟩))
      go_ret
      exact ⟨by simp, below_call hbr hbr.size hb6⟩
theorem pairs_any (v1 v2 : Value) (a b : List Fr) (w : World) (h1 : SlF w v1 a) (h2 : SlF w v2 b) :
    Calls Tryz.prog 3 #[v1, v2] w fun e w' => e = .returned (.bool true) ∧ Below w.heap.size w w' := by
  by_cases he : twoErr a b = 0
  · obtain ⟨hl1, hl2⟩ := twoErr_le he
    obtain ⟨pa, ba, oa, ca, rfl, hpa, hca⟩ := h1.parts
    obtain ⟨pb, bb, ob, cb, rfl, hpb, hcb⟩ := h2.parts
    exact pairs_good pa pb ba oa ca bb ob cb _ _ a b w rfl rfl hpa hpb hl1 hl2 hca hcb h1 h2 he
  · exact pairs_bad v1 v2 a b w h1 h2 he
end Go.Proofs.YtkenckolkpgebaaGreatDoor

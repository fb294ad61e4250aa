/- The law RateFair, walked. -/
import Derived.Test.YtdkpghfielfojaaShaP
namespace Go.Proofs.Ytdkpghfielfojaa
open Go.RowKit Go.Lib

theorem own_len {w : World} {base e size n : Nat} {v : Value} {xs : List Value} (h : w.ownsRow base e size v n xs) : ∃ p cap, v = .slice p n cap := by
  obtain ⟨_, ⟨h2, h3⟩ | ⟨g, cap, cur, hv, _⟩⟩ := h
  · subst h3; exact ⟨_, _, h2⟩
  · exact ⟨_, _, hv⟩

set_option maxHeartbeats 2000000 in
set_option maxRecDepth 100000 in
theorem fair_bad (v : Value) (l : List Sh) (most : Int) (w : World) (hv : ShV w v l) (he : shErr l most ≠ 0) : Calls Try.prog 6 #[v, .int .i64 most] w fun e w' => e = .returned (.bool true) ∧ Below w.heap.size w w' := by
  have HA := Lib.hid (fun W => awakeRate_any W)
  have HS := Lib.hid (fun (W : World) (hW : Below w.heap.size w W) => Shares_bad v l most W (hv.below hW) he)
  obtain ⟨p, cap, rfl, -⟩ := hv
  have hq : (shErr l most == 0) = false := by rw [beq_eq_false_iff_ne]; exact he
  generalize shErr l most = g at *
  generalize l.length = n at *
  go_enter Try.func6, Try.ntmps6
  go_wp2_with (first
    | (go_at_call 16; (with_reducible refine (HA.out _).mono ?_); rintro e w1 ⟨rfl, hb1⟩)
    | (go_at_call 7; (with_reducible refine (HS.out _ hb1).mono ?_); rintro e w2 ⟨rfl, hb2⟩; have hbw := below_call hb1 hb1.size hb2))
  go_ret
  exact ⟨rfl, hbw⟩

set_option maxHeartbeats 8000000 in
set_option maxRecDepth 100000 in
theorem fair_good (v : Value) (l : List Sh) (most : Int) (w : World) (hv : ShV w v l) (he : shErr l most = 0) : Calls Try.prog 6 #[v, .int .i64 most] w fun e w' => e = .returned (.bool true) ∧ Below w.heap.size w w' := by
  have HA := Lib.hid (fun W => awakeRate_any W)
  have HS := Lib.hid (fun (W : World) (hW : Below w.heap.size w W) => Shares_good v l most W (hv.below hW) he)
  have ha : amtsErr 1000000000 l = 0 := by
    unfold shErr at he
    split at he
    · assumption
    · rename_i h; exact absurd he h
  have HM := Lib.hid (show 0 ≤ most by
    unfold shErr at he
    rw [if_pos ha] at he
    split at he
    · rename_i h; unfold wi at h; exact (of_decide_eq_true h).1
    · cases he)
  have HG := Lib.hid (amts_ok ha)
  obtain ⟨p, cap, rfl, h1, h2, h3, h4⟩ := hv
  obtain ⟨n, hn⟩ : ∃ n, n = l.length := ⟨_, rfl⟩
  have HN := Lib.hid hn
  have hn200 : n ≤ 200 := by have := HG.out.1; omega
  rw [← hn] at h1 HS ⊢
  clear hn h3 ha he
  go_enter Try.func6, Try.ntmps6
  go_wp2_with (first
    | (go_at_call 16; (with_reducible refine (HA.out _).mono ?_); rintro e w1 ⟨rfl, hb1⟩)
    | (go_at_call 7; (with_reducible refine (HS.out _ hb1).mono ?_); rintro e w2 ⟨⟨v', r, rfl, hown, hr1, hr2, hr3⟩, hb2⟩; have hbw := below_call hb1 hb1.size hb2; obtain ⟨pp, cc, rfl⟩ := own_len hown))
  have HR := Lib.hid (And.intro hr2 (And.intro hr1 hown))
  have hgl := gst_le l HG.out.2
  have hr1g : (r : Int) ≤ 1000000000 := by omega
  clear hr1 hr2 hr3 hown hgl
  go_loopw [7, 32] (fun v7 v32 wr => ∃ (k : Nat) (s : Int), k ≤ n ∧ v32 = .int .i64 k ∧ v7 = .int .i64 s ∧ Hid (0 ≤ s ∧ s ≤ sty r (l.take k)) ∧ Below w.heap.size w wr ∧ Below w2.heap.size w2 wr) (fun _ v32 _ => n - (RowKit.intOf v32).toNat)
  case atStart => exact ⟨0, 0, Nat.zero_le _, rfl, rfl, Lib.hid ⟨Int.le_refl _, Int.le_refl _⟩, hbw, Below.refl _ _⟩
  case round =>
    obtain ⟨wo, rfl⟩ : ∃ wo : World, wo = wr := ⟨_, rfl⟩
    obtain ⟨k, s, hk, rfl, rfl, HSS, hbr, hb2r⟩ := hrel
    by_cases hlt : k < n
    · have hkl : k < l.length := by have := HN.out; omega
      rcases h4 with h4 | ⟨b, off, rfl, hb, hat⟩
      · rw [h4] at hkl; simp at hkl
      obtain ⟨g, cg, hgv, hcg, hcg2, hgl, hrow⟩ := own_row HR.out.2.2 (by omega)
      cases hgv
      obtain ⟨c0, c1⟩ := (hat.below hb hbr) k hkl
      have HE1 := Lib.hid (hrow _ _ (cellsR_at r l k hkl).2)
      have e0 := cell_keep (hrow _ _ (cellsR_at r l k hkl).1) hb2r
      have e1 := cell_keep (hrow _ _ (cellsR_at r l k hkl).2) hb2r
      have hx := HG.out.2 l[k] (List.getElem_mem hkl)
      have HT := Lib.hid (sty_take r l k hkl)
      have HMO := Lib.hid (fun (j : Nat) (hj : j < l.length) (h : l[k].came ≤ l[j].came) => keep_mono (L := (r : Int)) (by omega) h)
      have hkr := keep_range (came := l[k].came) (L := (r : Int)) (by omega)
      have hks := keep_sum (came := l[k].came) (L := (r : Int)) (by omega) hx.1
      have hst := sty_le (r : Int) (by omega) (l.take k) (fun y hy => HG.out.2 y (List.mem_of_mem_take hy))
      have hlen : (l.take k).length ≤ 200 := by have := HG.out.1; rw [List.length_take]; omega
      have hs1 : s ≤ 200000000000 := by have := HSS.out; omega
      have hs0 : 0 ≤ s := HSS.out.1
      generalize l[k] = x at *
      obtain ⟨x0, x1⟩ := x
      simp only at c0 c1 e0 e1 hx HT HMO hkr hks
      obtain ⟨hx0, hx1⟩ := hx
      obtain ⟨hk0, hk1⟩ := hkr
      obtain ⟨hs2, hs3⟩ := hks
      have hpr := prod_le hx0 hx1 hk0 hk1
      generalize keepV x1 r = kp at *
      have hw1 : IntKind.i64.wrap (x1 * kp) = x1 * kp := IntWalk.i64_in _ ⟨by omega, by omega⟩
      have hw1' : wrap64 (x1 * kp) = x1 * kp := by unfold wrap64; omega
      have hq : (x1 * kp).tdiv 1000000 = x1 * kp / 1000000 := Int.tdiv_eq_ediv_of_nonneg hpr.1
      have hsum : s + x1 * kp / 1000000 ≤ 300000000000 := by omega
      have hw2 : IntKind.i64.wrap (x1 * kp / 1000000) = x1 * kp / 1000000 := IntWalk.i64_in _ ⟨by omega, by omega⟩
      have hw3 : IntKind.i64.wrap (s + x1 * kp / 1000000) = s + x1 * kp / 1000000 := IntWalk.i64_in _ ⟨by omega, by omega⟩
      have HNS := Lib.hid (show 0 ≤ s + x1 * kp / 1000000 ∧ s + x1 * kp / 1000000 ≤ sty r (l.take (k + 1)) from ⟨by omega, by rw [HT.out]; have := HSS.out; omega⟩)
      have hkk0 : ¬ kp < 0 := by omega
      have hkk1 : ¬ 1000000 < kp := by omega
      have hkz : (k : Int) < (n : Int) := by omega
      have hgl2 : g < wo.heap.size := by have := hb2r.size; omega
      clear hpr hs2 hs3 hst hlen hs1 hs0 hsum hk0 hk1 hx0 hx1
      generalize x1 * kp / 1000000 = pd at *
      have hbrA := hbr.alloc hbr.size (.cells #[.string x0, .int .i64 x1] 55)
      have hb2A := hb2r.alloc hb2r.size (.cells #[.string x0, .int .i64 x1] 55)
      have hcb : (wo.alloc (.cells #[.string x0, .int .i64 x1] 55)).cell? ⟨wo.heap.size, 1, none⟩ = some (.int .i64 x1) := by go_simp
      have HQ := fun m : Nat => Lib.hid (show Below w.heap.size w ((wo.alloc (.cells #[.string x0, .int .i64 x1] 55)).drewN m) ∧ Below w2.heap.size w2 ((wo.alloc (.cells #[.string x0, .int .i64 x1] 55)).drewN m) ∧ ((wo.alloc (.cells #[.string x0, .int .i64 x1] 55)).drewN m).cell? ⟨wo.heap.size, 1, none⟩ = some (.int .i64 x1) from ⟨below_drewE hbrA m, below_drewE hb2A m, hcb⟩)
      have HRW := Lib.hid hrow
      have HAT := Lib.hid hat
      clear hbrA hb2A hcb hrow hat
      go_wp2_with fail
      go_quiet (fail)
      go_wp2_with fail
      go_quiet (fail)
      go_wp2_with fail
      clear c0 c1 e0 e1
      go_loopw [74] (fun v74 wx => ∃ j : Nat, j ≤ n ∧ v74 = .int .i64 j ∧ Hid (Below w.heap.size w wx ∧ Below w2.heap.size w2 wx ∧ wx.cell? ⟨wo.heap.size, 1, none⟩ = some (.int .i64 x1))) (fun v74 _ => n - (RowKit.intOf v74).toNat)
      case atStart => exact ⟨0, Nat.zero_le _, rfl, HQ _⟩
      case round =>
        obtain ⟨j, hj, rfl, HX⟩ := hrel
        by_cases hjl : j < n
        · have hjk : j < l.length := by have := HN.out; omega
          obtain ⟨c0, c1⟩ := (HAT.out.below hb HX.out.1) j hjk
          have f1 := cell_keep (HRW.out _ _ (cellsR_at r l j hjk).2) HX.out.2.1
          have e1 := cell_keep HE1.out HX.out.2.1
          have b1 := HX.out.2.2
          have hbz : wo.heap.size < wr.heap.size := World.block_lt_of_cell? _ _ b1
          have hgz : g < wr.heap.size := World.block_lt_of_cell? _ _ f1
          have hmo := HMO.out j hjk
          generalize l[j] = y at *
          obtain ⟨y0, y1⟩ := y
          simp only at c0 c1 f1 hmo
          generalize keepV y1 r = kq at *
          have hjz : (j : Int) < (n : Int) := by omega
          have hA := Lib.hid (show Below w.heap.size w (wr.alloc (.cells #[.string y0, .int .i64 y1] 55)) ∧ Below w2.heap.size w2 (wr.alloc (.cells #[.string y0, .int .i64 y1] 55)) ∧ (wr.alloc (.cells #[.string y0, .int .i64 y1] 55)).cell? ⟨wo.heap.size, 1, none⟩ = some (.int .i64 x1) from ⟨HX.out.1.alloc HX.out.1.size _, HX.out.2.1.alloc HX.out.2.1.size _, cell_keep HX.out.2.2 ((Below.refl _ _).alloc (Nat.le_refl _) _)⟩)
          have HQ2 := fun m : Nat => Lib.hid (show Below w.heap.size w ((wr.alloc (.cells #[.string y0, .int .i64 y1] 55)).drewN m) ∧ Below w2.heap.size w2 ((wr.alloc (.cells #[.string y0, .int .i64 y1] 55)).drewN m) ∧ ((wr.alloc (.cells #[.string y0, .int .i64 y1] 55)).drewN m).cell? ⟨wo.heap.size, 1, none⟩ = some (.int .i64 x1) from ⟨below_drewE hA.out.1 m, below_drewE hA.out.2.1 m, hA.out.2.2⟩)
          by_cases hxy : x1 ≤ y1
          · have hkk : ¬ kp < kq := by have := hmo hxy; omega
            clear hmo
            go_wp2_with fail
            go_quiet (fail)
            go_wp2_with fail
            exact ⟨⟨j + 1, by omega, by go_num, HQ2 _⟩, by simp [RowKit.intOf]; omega⟩
          · have hdf : decide (x1 ≤ y1) = false := decide_eq_false hxy
            clear hmo hxy
            go_wp2_with fail
            go_quiet (fail)
            go_wp2_with fail
            exact ⟨⟨j + 1, by omega, by go_num, HQ2 _⟩, by simp [RowKit.intOf]; omega⟩
        · go_wp2_with fail
          exact ⟨⟨k + 1, s + pd, by omega, by go_num, rfl, HNS, HX.out.1, HX.out.2.1⟩, by simp [RowKit.intOf]; omega⟩
    · have hsm : s ≤ most := by
        have h := HSS.out.2
        rw [List.take_of_length_le (by have := HN.out; omega)] at h
        have := HR.out.1
        omega
      go_wp2_with fail
      go_ret
      exact ⟨rfl, hbr⟩
end Go.Proofs.Ytdkpghfielfojaa

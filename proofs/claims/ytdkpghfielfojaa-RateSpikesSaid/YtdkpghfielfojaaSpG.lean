/- What the reference's SpikeOf answers. -/
import Derived.Test.YtdkpghfielfojaaSpF
import Derived.Laws.Shifts
namespace Go.Proofs.Ytdkpghfielfojaa
open Go.RowKit Go.Lib

theorem own_rowI {w : World} {base n : Nat} {v : Value} {xs : List Int} (h : w.ownsRow base 3 1 v n (xs.map (Value.int .i64))) (hn : 0 < n) : ∃ g cap, v = .slice (some ⟨g, 0, none⟩) n cap ∧ n ≤ cap ∧ cap ≤ 9223372036854775807 ∧ base ≤ g ∧ RowI w g xs := by
  obtain ⟨g, cap, hv, h1, h2, h3, h4, h5⟩ := own_ints h hn
  refine ⟨g, cap, hv, h1, h2, h3, fun p hp => ⟨h5 p _ (gt_at hp), ?_⟩⟩
  obtain ⟨hlen, h⟩ := h
  rcases h with ⟨rfl, h0⟩ | ⟨g', cap', cur, hv', hb, hg, hn2, hc, hsz, htk⟩
  · omega
  · rw [hv] at hv'
    cases hv'
    simp [World.frozen?, hg]

theorem mark_eq2 (m p : Int) (h0 : 0 ≤ m * p) (h1 : m * p ≤ 1000000000 * 100000) : wrap64 ((wrap64 (wrap64 (m * p) + 99)).tdiv 100) = (m * p + 99) / 100 := by
  generalize m * p = t at *
  have e1 : wrap64 t = t := by unfold wrap64; omega
  have e2 : wrap64 (t + 99) = t + 99 := by unfold wrap64; omega
  rw [e1, e2, Int.tdiv_eq_ediv_of_nonneg (by omega)]
  unfold wrap64; omega

set_option maxRecDepth 100000 in
set_option maxHeartbeats 8000000 in
theorem spikeOf_any (v : Value) (l : List Int) (p q : Int) (w : World) (hv : IntV w v l) (he : spkErr l p q = 0) : Calls Try.prog 15 #[v, .int .i64 p, .int .i64 q] w
    fun e w' => e = .returned (.tuple #[.bool (decide (mrk l p q < lst l)), .int .i64 (mrk l p q)]) ∧ Below w.heap.size w w' := by
  obtain ⟨pp, cap, rfl, h1, h3, h4⟩ := hv
  have h2 : ¬ l.length < 2 := by
    intro h; unfold spkErr at he; rw [if_pos h] at he; cases he
  have hc : cntErr l = 0 := by
    by_cases hc : cntErr l = 0
    · exact hc
    · unfold spkErr at he; rw [if_neg h2, if_neg hc] at he; exact absurd he hc
  have hpq : wi p 0 100000 = true ∧ wi q 0 1000000000 = true := by
    unfold spkErr at he; rw [if_neg h2, if_pos hc] at he
    split at he
    · assumption
    · cases he
  obtain ⟨hp1, hp2⟩ := hpq
  have hp : 0 ≤ p ∧ p ≤ 100000 := by unfold wi at hp1; exact of_decide_eq_true hp1
  have hcn := cnt_in hc
  rcases h4 with h4 | ⟨b, off, rfl, hb, hat⟩
  · subst h4; simp at h2
  have hlt : (l.take (l.length - 1)).length = l.length - 1 := by rw [List.length_take]; omega
  have HCL := Lib.hid (Try.slices_Clone_int b off (l.length - 1) cap l w (by omega) (by omega) (fun j hj => by rw [hat j hj, List.getD_eq_getElem?_getD, List.getElem?_eq_getElem hj]; rfl))
  have hmi := hcn.2 _ (List.mem_of_mem_take (mdl_mem (l := l.take (l.length - 1)) (by omega)))
  have HMK : mrk l p q = max ((mdl (l.take (l.length - 1)) * p + 99) / 100) q := rfl
  have hll : l[l.length - 1]? = some (lst l) := by unfold lst; rw [List.getElem?_eq_getElem (by omega)]; rfl
  have c0 := hat (l.length - 1) (by omega)
  rw [show l[l.length - 1] = lst l by rw [List.getElem?_eq_getElem (by omega)] at hll; exact Option.some.inj hll] at c0
  have HMD := Lib.hid (show (srt (l.take (l.length - 1)))[(l.length - 1 - 1) / 2]? = some (mdl (l.take (l.length - 1))) by
    have : (l.length - 1 - 1) / 2 < (srt (l.take (l.length - 1))).length := by rw [srt_len]; omega
    unfold mdl
    rw [hlt, List.getElem?_eq_getElem this]; rfl)
  rw [HMK]
  generalize mdl (l.take (l.length - 1)) = m at *
  obtain ⟨hm0, hm1⟩ := hmi
  obtain ⟨hp0, hp3⟩ := hp
  have hb0 : 0 ≤ m * p := Int.mul_nonneg hm0 hp0
  have hb1 : m * p ≤ 1000000000 * 100000 := Int.mul_le_mul hm1 hp3 hp0 (by omega)
  have HME := Lib.hid (mark_eq2 m p hb0 hb1)
  generalize lst l = z at *
  generalize l.take (l.length - 1) = L0 at *
  obtain ⟨n, hn⟩ : ∃ n, n = l.length - 1 := ⟨_, rfl⟩
  have hln : l.length = n + 1 := by omega
  have hn1000 : n ≤ 1000 := by have := hcn.1; omega
  have hn1 : 1 ≤ n := by omega
  rw [← hn] at HCL HMD c0 hlt
  rw [hln] at h1 h2 ⊢
  have HLT := Lib.hid hlt
  clear hn hln hcn hlt hll HMK hc he hat hp1 hp2 h2 hb0 hb1
  go_enter Try.func15, Try.ntmps15
  go_wp2_with (go_at_call 32; (with_reducible refine HCL.out.mono ?_); rintro e w1 ⟨v1, rfl, hown, hne, hb1⟩; obtain ⟨g, c1, rfl, hc1, hc2, hg, hrow⟩ := own_rowI hown (by omega); have c2 := cell_keep c0 hb1)
  have c2' := c2
  have hgb : g ≠ b := by omega
  clear hown hne c2 c2'
  go_loopw [21] (fun v21 wr => ∃ (i : Nat) (L : List Int), i ≤ n ∧ v21 = .int .i64 i ∧ Hid (L.Perm L0 ∧ Srt L i) ∧ L.length = n ∧ RowI wr g L ∧ Below w.heap.size w wr) (fun v21 _ => n - (RowKit.intOf v21).toNat)
  case atStart => exact ⟨0, L0, Nat.zero_le _, rfl, Lib.hid ⟨List.Perm.refl _, fun p q h1 h2 => by omega⟩, HLT.out, hrow, hb1⟩
  case round =>
    obtain ⟨w2, rfl⟩ : ∃ w2 : World, w2 = wr := ⟨_, rfl⟩
    obtain ⟨i, L, hi, rfl, HP, hLn, hRow, hbw⟩ := hrel
    have HLn := Lib.hid hLn
    by_cases hlt : i < n
    · clear hLn
      go_wp2_with fail
      obtain ⟨w3, rfl⟩ : ∃ w3 : World, w3 = w2 := ⟨_, rfl⟩
      go_loopw [10] (fun v10 wr => ∃ (k : Nat) (L : List Int), k ≤ i ∧ v10 = .int .i64 k ∧ Hid (L.Perm L0 ∧ Ins L i k ∧ L.length = n) ∧ RowI wr g L ∧ Below w.heap.size w wr) (fun v10 _ => (RowKit.intOf v10).toNat)
      case atStart => exact ⟨i, L, Nat.le_refl _, rfl, Lib.hid ⟨HP.out.1, ins_start HP.out.2, HLn.out⟩, hRow, hbw⟩
      case round =>
        obtain ⟨k, L, hk, rfl, HI, hRow, hbw⟩ := hrel
        match k, hk, HI with
        | 0, hk, HI =>
          have HQ := fun m : Nat => Lib.hid (show RowI (wr.drewN m) g L ∧ Below w.heap.size w (wr.drewN m) from ⟨hRow, below_drewE hbw m⟩)
          go_wp2_with fail
          go_quiet (fail)
          go_wp2_with fail
          exact ⟨⟨i + 1, L, by omega, by go_num, Lib.hid ⟨HI.out.1, ins_end hk HI.out.2.1 (.inl rfl)⟩, HI.out.2.2, (HQ _).out.1, (HQ _).out.2⟩, by simp [RowKit.intOf]; omega⟩
        | j + 1, hk, HI =>
          have hjn : j + 1 < n := by omega
          obtain ⟨a0, f0⟩ := hRow j (by have := HI.out.2.2; omega)
          obtain ⟨a1, f1⟩ := hRow (j + 1) (by have := HI.out.2.2; omega)
          have HQ := fun m : Nat => Lib.hid (show RowI (wr.drewN m) g L ∧ Below w.heap.size w (wr.drewN m) from ⟨hRow, below_drewE hbw m⟩)
          clear hRow
          have HX := Lib.hid hk
          obtain ⟨y1, hy1⟩ : ∃ y1, y1 = gt L (j + 1) := ⟨_, rfl⟩
          obtain ⟨y0, hy0⟩ : ∃ y0, y0 = gt L j := ⟨_, rfl⟩
          have HY := Lib.hid (And.intro hy1 hy0)
          rw [← hy1] at a1
          rw [← hy0] at a0
          clear hy1 hy0
          by_cases hx : y1 < y0
          · have HSW := fun m : Nat => Lib.hid (show RowI (((wr.drewN m).setCell ⟨g, j + 1, none⟩ (.int .i64 y0)).setCell ⟨g, j, none⟩ (.int .i64 y1)) g (swp L j) ∧ Below w.heap.size w (((wr.drewN m).setCell ⟨g, j + 1, none⟩ (.int .i64 y0)).setCell ⟨g, j, none⟩ (.int .i64 y1)) by
              rw [HY.out.1, HY.out.2]
              exact ⟨(HQ m).out.1.swap (by have := HI.out.2.2; omega), ((HQ m).out.2.setCell (p := ⟨g, j + 1, none⟩) hg _).setCell (p := ⟨g, j, none⟩) hg _⟩)
            have HST := Lib.hid (show (swp L j).Perm L0 ∧ Ins (swp L j) i j ∧ (swp L j).length = n from ⟨(swp_perm (by have := HI.out.2.2; omega)).trans HI.out.1, ins_step hk (by have := HI.out.2.2; omega) HI.out.2.1 (by rw [← HY.out.1, ← HY.out.2]; exact hx), by rw [swp_len]; exact HI.out.2.2⟩)
            go_wp2_with fail
            go_quiet (fail)
            go_wp2_with fail
            go_region
            go_wp2_with fail
            exact ⟨⟨j, swp L j, by omega, by go_num, HST, (HSW _).out.1, (HSW _).out.2⟩, by simp [RowKit.intOf] <;> omega⟩
          · go_wp2_with fail
            go_quiet (fail)
            go_wp2_with fail
            exact ⟨⟨i + 1, L, by omega, by go_num, Lib.hid ⟨HI.out.1, ins_end hk HI.out.2.1 (.inr (by rw [Nat.add_sub_cancel, ← HY.out.1, ← HY.out.2]; omega))⟩, HI.out.2.2, (HQ _).out.1, (HQ _).out.2⟩, by simp [RowKit.intOf]; omega⟩
    · have hin : i = n := by omega
      subst hin
      have HE := Lib.hid (show L = srt L0 from srt_of HP.out.1 (by rw [hLn]; exact HP.out.2))
      have d0 := (hRow ((i - 1) / 2) (by omega)).1
      have d1 : gt L ((i - 1) / 2) = m := by rw [HE.out]; unfold gt; rw [HMD.out]; rfl
      rw [d1] at d0
      have d2 := cell_keep c0 hbw
      clear hRow hLn d1
      go_wp2_with fail
      go_ret2
      exact ⟨by rw [HME.out]; rfl, hbw⟩
end Go.Proofs.Ytdkpghfielfojaa

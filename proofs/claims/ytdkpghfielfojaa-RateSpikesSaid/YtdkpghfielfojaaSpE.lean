/- What the reference's SpikeError answers. -/
import Derived.Test.YtdkpghfielfojaaSpD
import Derived.Test.YtdkpghfielfojaaShaH
namespace Go.Proofs.Ytdkpghfielfojaa
open Go.RowKit Go.Lib

theorem spk_of {l : List Int} {p q e : Int} (h2 : ¬ l.length < 2) (hc : cntErr l = e) (he : e ≠ 0) : spkErr l p q = e := by
  unfold spkErr; rw [if_neg h2, if_neg (by rw [hc]; exact he), hc]

set_option maxRecDepth 100000 in
set_option maxHeartbeats 2000000 in
theorem spikeError_any (v : Value) (l : List Int) (p q : Int) (w : World) (hv : IntV w v l) : Calls Try.prog 14 #[v, .int .i64 p, .int .i64 q] w
    fun e w' => e = .returned (.int .i64 (spkErr l p q)) ∧ w' = w := by
  obtain ⟨pp, cap, rfl, h1, h3, h4⟩ := hv
  obtain ⟨R, hR⟩ : ∃ R, R = spkErr l p q := ⟨_, rfl⟩
  rw [← hR]
  have HR := Lib.hid hR
  obtain ⟨n, hn⟩ : ∃ n, n = l.length := ⟨_, rfl⟩
  have HN := Lib.hid hn
  rw [← hn] at h1 ⊢
  have HW := Lib.hid (fun (x : Int) (W : World) => in_any x 0 1000000000 W)
  have HWP := Lib.hid (fun W => in_any p 0 100000 W)
  have HWQ := Lib.hid (fun W => in_any q 0 1000000000 W)
  clear hR hn
  by_cases h2 : n < 2
  · have HE := Lib.hid (show R = 7 by rw [HR.out]; unfold spkErr; rw [if_pos (by have := HN.out; omega)])
    go_enter Try.func14, Try.ntmps14
    go_wp2_with fail
    go_ret
    exact ⟨by rw [HE.out]; rfl, rfl⟩
  by_cases hs : 1000 < n
  · have HE := Lib.hid (show R = 4 by
      have := HN.out
      rw [HR.out, spk_of (e := 4) (by omega) (by unfold cntErr; rw [if_pos (by omega)]) (by decide)])
    go_enter Try.func14, Try.ntmps14
    go_wp2_with fail
    go_ret
    exact ⟨by rw [HE.out]; rfl, rfl⟩
  go_enter Try.func14, Try.ntmps14
  go_wp2_with fail
  go_loopw [17] (fun v17 wr => ∃ k : Nat, k ≤ n ∧ v17 = .int .i64 k ∧ Hid (cntsB (l.take k) = true) ∧ wr = w) (fun v17 _ => n - (RowKit.intOf v17).toNat)
  case atStart => exact ⟨0, Nat.zero_le _, rfl, Lib.hid rfl, rfl⟩
  case round =>
    obtain ⟨k, hk, rfl, HB, rfl⟩ := hrel
    by_cases hlt : k < n
    · have hkl : k < l.length := by have := HN.out; omega
      rcases h4 with h4 | ⟨b, off, rfl, hb, hat⟩
      · rw [h4] at hkl; simp at hkl
      have c0 := hat k hkl
      have HT := Lib.hid (cnts_take l k hkl)
      have HWX := Lib.hid (fun W => HW.out l[k] W)
      have HALL := Lib.hid (show wi l[k] 0 1000000000 = false → cntsB l = false from fun h => by
        unfold cntsB
        rw [List.all_eq_false]
        exact ⟨_, List.getElem_mem hkl, by rw [h]; decide⟩)
      generalize l[k] = x at *
      clear hat hkl
      cases hwi : wi x 0 1000000000
      · rw [hwi] at HWX
        have HE := Lib.hid (show R = 2 by
          have := HN.out
          rw [HR.out, spk_of (e := 2) (by omega) (by unfold cntErr; rw [if_neg (by omega), if_neg (by rw [HALL.out hwi]; decide)]) (by decide)])
        clear hwi
        go_wp2_with (go_at_call 30; (with_reducible refine (HWX.out _).mono ?_); rintro e w1 ⟨rfl, rfl⟩)
        go_ret
        exact ⟨by rw [HE.out]; rfl, rfl⟩
      · rw [hwi] at HWX
        have HB2 := Lib.hid (show cntsB (l.take (k + 1)) = true by rw [HT.out, HB.out, hwi]; rfl)
        clear hwi
        go_wp2_with (go_at_call 30; (with_reducible refine (HWX.out _).mono ?_); rintro e w1 ⟨rfl, rfl⟩)
        exact ⟨⟨k + 1, by omega, by go_num, HB2, trivial⟩, by simp [RowKit.intOf]; omega⟩
    · have HE := Lib.hid (show R = if wi p 0 100000 = true ∧ wi q 0 1000000000 = true then 0 else 2 by
        have h := HB.out
        have := HN.out
        rw [List.take_of_length_le (by omega)] at h
        rw [HR.out]; unfold spkErr
        rw [if_neg (by omega), if_pos (by unfold cntErr; rw [if_neg (by omega), if_pos h])])
      generalize wi p 0 100000 = a at *
      generalize wi q 0 1000000000 = b at *
      cases a <;> cases b
      all_goals (
        go_wp2_with (go_at_call 30; (first | (with_reducible refine (HWP.out _).mono ?_) | (with_reducible refine (HWQ.out _).mono ?_)); rintro e w2 ⟨rfl, rfl⟩)
        go_ret
        exact ⟨by rw [HE.out]; rfl, rfl⟩)
end Go.Proofs.Ytdkpghfielfojaa

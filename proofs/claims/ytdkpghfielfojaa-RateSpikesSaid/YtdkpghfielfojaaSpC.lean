/- What Spike answers. -/
import Derived.Test.YtdkpghfielfojaaSpB
namespace Go.Proofs.Ytdkpghfielfojaa
open Go.RowKit Go.Lib

/-- Whether all numbers are counts. -/
def cntsB (l : List Int) : Bool := l.all fun n => wi n 0 1000000000
def cntErr (l : List Int) : Int := if 1000 < l.length then 4 else if cntsB l = true then 0 else 2
theorem cnts_take (l : List Int) (k : Nat) (hk : k < l.length) : cntsB (l.take (k + 1)) = (cntsB (l.take k) && wi l[k] 0 1000000000) := by
  unfold cntsB
  rw [List.take_succ_eq_append_getElem hk, List.all_append]; simp

set_option maxHeartbeats 2000000 in
set_option maxRecDepth 100000 in
theorem counts_any (v : Value) (l : List Int) (w : World) (hv : IntV w v l) : Calls Try.prog 25 #[v, .int .i64 0, .int .i64 1000000000] w fun e w' => e = .returned (.int .i64 (cntErr l)) ∧ w' = w := by
  obtain ⟨p, cap, rfl, h1, h2, h4⟩ := hv
  obtain ⟨R, hR⟩ : ∃ R, R = cntErr l := ⟨_, rfl⟩
  rw [← hR]
  have HR := Lib.hid hR
  obtain ⟨n, hn⟩ : ∃ n, n = l.length := ⟨_, rfl⟩
  have HN := Lib.hid hn
  rw [← hn] at h1 ⊢
  have HW := Lib.hid (fun (x : Int) (W : World) => within_any x 0 1000000000 W)
  clear hR hn
  by_cases hs : 1000 < n
  · have HE := Lib.hid (show R = 4 by rw [HR.out]; unfold cntErr; rw [if_pos (by have := HN.out; omega)])
    have hs' : (1000 : Int) < (n : Int) := by omega
    clear hs
    go_enter Try.func25, Try.ntmps25
    go_wp2_with fail
    go_ret
    exact ⟨by rw [HE.out]; rfl, rfl⟩
  have hs' : ¬ (1000 : Int) < (n : Int) := by omega
  go_enter Try.func25, Try.ntmps25
  go_wp2_with fail
  go_loopw [14] (fun v14 wr => ∃ k : Nat, k ≤ n ∧ v14 = .int .i64 k ∧ Hid (cntsB (l.take k) = true) ∧ wr = w) (fun v14 _ => n - (RowKit.intOf v14).toNat)
  case atStart => exact ⟨0, Nat.zero_le _, rfl, Lib.hid rfl, rfl⟩
  case round =>
    obtain ⟨k, hk, rfl, HB, rfl⟩ := hrel
    by_cases hlt : k < n
    · have hkl : k < l.length := by have := HN.out; omega
      rcases h4 with h4 | ⟨b, off, rfl, hb, hat⟩
      · rw [h4] at hkl; simp at hkl
      have c0 := hat k hkl
      have HT := Lib.hid (cnts_take l k hkl)
      have HWX := Lib.hid (fun W => HW.out l[k] W)
      have HALL := Lib.hid (show wi l[k] 0 1000000000 = false → cntsB l = false from fun h => by
        unfold cntsB
        rw [List.all_eq_false]
        exact ⟨_, List.getElem_mem hkl, by rw [h]; decide⟩)
      generalize l[k] = x at *
      clear hat hkl
      cases hwi : wi x 0 1000000000
      · rw [hwi] at HWX
        have HE := Lib.hid (show R = 2 by rw [HR.out]; unfold cntErr; rw [if_neg (by have := HN.out; omega), if_neg (by rw [HALL.out hwi]; decide)])
        clear hwi
        go_wp2_with (go_at_call 22; (with_reducible refine (HWX.out _).mono ?_); rintro e w1 ⟨rfl, rfl⟩)
        go_ret
        exact ⟨by rw [HE.out]; rfl, rfl⟩
      · rw [hwi] at HWX
        have HB2 := Lib.hid (show cntsB (l.take (k + 1)) = true by rw [HT.out, HB.out, hwi]; rfl)
        clear hwi
        go_wp2_with (go_at_call 22; (with_reducible refine (HWX.out _).mono ?_); rintro e w1 ⟨rfl, rfl⟩)
        exact ⟨⟨k + 1, by omega, by go_num, HB2, trivial⟩, by simp [RowKit.intOf]; omega⟩
    · have HE := Lib.hid (show R = 0 by
        have h := HB.out
        rw [List.take_of_length_le (by have := HN.out; omega)] at h
        rw [HR.out]; unfold cntErr; rw [if_neg (by have := HN.out; omega), if_pos h])
      go_wp2_with fail
      go_ret
      exact ⟨by rw [HE.out]; rfl, rfl⟩


theorem srt_len (l : List Int) : (srt l).length = l.length := List.length_mergeSort _
theorem srt_mem {l : List Int} {x : Int} : x ∈ srt l ↔ x ∈ l := List.mem_mergeSort
/-- The middle one, or the lesser one of both. -/
def mdl (l : List Int) : Int := (srt l)[(l.length - 1) / 2]?.getD 0
theorem mdl_mem {l : List Int} (h : 0 < l.length) : mdl l ∈ l := by
  unfold mdl
  have : (l.length - 1) / 2 < (srt l).length := by rw [srt_len]; omega
  rw [List.getElem?_eq_getElem this]
  exact srt_mem.1 (List.getElem_mem this)

theorem own_ints {w : World} {base n : Nat} {v : Value} {xs : List Int} (h : w.ownsRow base 3 1 v n (xs.map (Value.int .i64))) (hn : 0 < n) : ∃ g cap, v = .slice (some ⟨g, 0, none⟩) n cap ∧ n ≤ cap ∧ cap ≤ 9223372036854775807 ∧ base ≤ g ∧ g < w.heap.size ∧ ∀ (j : Nat) x, xs[j]? = some x → w.cell? ⟨g, j, none⟩ = some (.int .i64 x) := by
  obtain ⟨hlen, h⟩ := h
  rcases h with ⟨rfl, h0⟩ | ⟨g, cap, cur, rfl, hb, hg, hn2, hc, hsz, htk⟩
  · omega
  · refine ⟨g, cap, rfl, hn2, by unfold maxLen at hc; omega, hb, (Array.getElem?_eq_some_iff.1 hg).1, fun q x hq => ?_⟩
    have hql : q < xs.length := (List.getElem?_eq_some_iff.1 hq).1
    have hq' : (xs.map (Value.int .i64))[q]? = some (.int .i64 x) := by rw [List.getElem?_map, hq]; rfl
    rw [← htk] at hq'
    simp only [World.cell?, hg]
    rw [List.getElem?_take_of_lt (by simp at hlen; omega)] at hq'
    simpa using hq'

set_option maxRecDepth 100000 in
set_option maxHeartbeats 1000000 in
theorem values_any (a : Option Addr) (len cap : Nat) (w : World) :
    Calls Try.prog 45 #[.slice a len cap] w fun e w' => e = .returned (.func (.func 54) #[] #[.pointer (some ⟨w.heap.size, 0, none⟩)]) ∧ w' = w.alloc (.cells #[.slice a len cap] 23) :=
  (callsIn_wide (n := 1)).1 (values_in Fence.wide 1 trivial rfl a len cap w)

set_option maxRecDepth 100000 in
set_option maxHeartbeats 1000000 in
theorem middle_any (v : Value) (l : List Int) (w : World) (hv : IntV w v l) (h0 : 0 < l.length) (hlen : l.length ≤ 1000000) :
    Calls Try.prog 31 #[v] w fun e w' => e = .returned (.int .i64 (mdl l)) ∧ Below w.heap.size w w' := by
  have hv0 := hv
  obtain ⟨p, cap, rfl, h1, h2, h4⟩ := hv
  have hbA : Below w.heap.size w (w.alloc (.cells #[.slice p l.length cap] 23)) := (Below.refl _ _).alloc (Nat.le_refl _) _
  have HS := Lib.hid (sorted_any w.heap.size (.slice p l.length cap) l h0 hlen w _ hbA (by simp) (by simp) hv0)
  have HB := Lib.hid hbA
  have HM := Lib.hid (show (srt l)[(l.length - 1) / 2]? = some (mdl l) by
    have : (l.length - 1) / 2 < (srt l).length := by rw [srt_len]; omega
    unfold mdl
    rw [List.getElem?_eq_getElem this]; rfl)
  generalize mdl l = R at *
  obtain ⟨n, hn⟩ : ∃ n, n = l.length := ⟨_, rfl⟩
  rw [← hn] at h0 hlen h1 HS HB HM ⊢
  clear hn hbA hv0 h4
  go_enter Try.func31, Try.ntmps31
  go_wp2_with (first
    | (go_at_call 45; (with_reducible refine (values_any _ _ _ _).mono ?_); rintro e w1 ⟨rfl, rfl⟩)
    | (go_at_call 44; go_loud (with_reducible refine HS.out.mono ?_); rintro e w2 ⟨v2, rfl, hown, hb2⟩; have hbw := below_call HB.out HB.out.size hb2; obtain ⟨gb, c2, rfl, r1, r2, -, -, hcs⟩ := own_ints hown h0; have c0 := hcs _ _ HM.out; clear hcs))
  go_ret
  exact ⟨rfl, hbw⟩
end Go.Proofs.Ytdkpghfielfojaa

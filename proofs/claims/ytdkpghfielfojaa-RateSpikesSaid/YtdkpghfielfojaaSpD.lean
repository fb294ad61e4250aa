/- What Spike answers. -/
import Derived.Test.YtdkpghfielfojaaSpC
namespace Go.Proofs.Ytdkpghfielfojaa
open Go.RowKit Go.Lib

/-- The error of Spike. -/
def spkErr (l : List Int) (p q : Int) : Int := if l.length < 2 then 7 else if cntErr l = 0 then (if wi p 0 100000 = true ∧ wi q 0 1000000000 = true then 0 else 2) else cntErr l
/-- The mark of counts. -/
def mrk (l : List Int) (p q : Int) : Int := max ((mdl (l.take (l.length - 1)) * p + 99) / 100) q
def lst (l : List Int) : Int := l[l.length - 1]?.getD 0

theorem IntV.take {w : World} {p : Option Addr} {cap : Nat} {l : List Int} (h : IntV w (.slice p l.length cap) l) (k : Nat) (hk : k ≤ l.length) : IntV w (.slice p k cap) (l.take k) := by
  obtain ⟨p', cap', hv, h1, h2, h4⟩ := h
  cases hv
  have hl : (l.take k).length = k := by rw [List.length_take]; omega
  refine ⟨p, cap, by rw [hl], by omega, h2, ?_⟩
  rcases h4 with h4 | ⟨b, off, hp, hb, hc⟩
  · subst h4; exact .inl (by simp)
  · refine .inr ⟨b, off, hp, hb, fun i hi => ?_⟩
    have hi' : i < l.length := by omega
    rw [List.getElem_take]; exact hc i hi'
theorem cnt_in {l : List Int} (h : cntErr l = 0) : l.length ≤ 1000 ∧ ∀ x ∈ l, 0 ≤ x ∧ x ≤ 1000000000 := by
  unfold cntErr at h
  split at h
  · cases h
  · split at h
    · rename_i h1 h2
      refine ⟨by omega, fun x hx => ?_⟩
      have := List.all_eq_true.1 h2 x hx
      unfold wi at this; exact of_decide_eq_true this
    · cases h

set_option maxRecDepth 100000 in
set_option maxHeartbeats 2000000 in
theorem Spike_bad (v : Value) (l : List Int) (p q : Int) (w : World) (hv : IntV w v l) (he : spkErr l p q ≠ 0) : Calls Try.prog 13 #[v, .int .i64 p, .int .i64 q] w
    fun e w' => e = .returned (.tuple #[.bool false, .int .i64 0, .int .i64 (spkErr l p q)]) ∧ w' = w := by
  have HC := Lib.hid (counts_any v l w hv)
  have HWP := Lib.hid (fun W => within_any p 0 100000 W)
  have HWQ := Lib.hid (fun W => within_any q 0 1000000000 W)
  obtain ⟨pp, cap, rfl, -⟩ := hv
  unfold spkErr at he ⊢
  obtain ⟨n, hn⟩ : ∃ n, n = l.length := ⟨_, rfl⟩
  have HN := Lib.hid hn
  rw [← hn] at he HC ⊢
  clear hn
  by_cases h2 : n < 2
  · rw [if_pos h2] at he ⊢
    go_enter Try.func13, Try.ntmps13
    go_wp2_with fail
    go_ret3
    exact ⟨rfl, rfl⟩
  rw [if_neg h2] at he ⊢
  by_cases hc : cntErr l = 0
  · rw [if_pos hc] at he ⊢
    rw [hc] at HC
    clear hc
    generalize wi p 0 100000 = a at *
    generalize wi q 0 1000000000 = b at *
    cases a <;> cases b
    all_goals first
      | (exact absurd rfl he)
      | (rw [if_neg (by simp)]
         clear he
         go_enter Try.func13, Try.ntmps13
         go_wp2_with (first
           | (go_at_call 25; (with_reducible refine HC.out.mono ?_); rintro e w1 ⟨rfl, rfl⟩)
           | (go_at_call 22; (first | (with_reducible refine (HWP.out _).mono ?_) | (with_reducible refine (HWQ.out _).mono ?_)); rintro e w2 ⟨rfl, rfl⟩))
         go_ret3
         exact ⟨rfl, rfl⟩)
  · rw [if_neg hc] at he ⊢
    have hq : (cntErr l != 0) = true := by rw [bne_iff_ne]; exact hc
    have hq2 : (cntErr l == 0) = false := by rw [beq_eq_false_iff_ne]; exact hc
    generalize cntErr l = g at *
    clear hc he
    go_enter Try.func13, Try.ntmps13
    go_wp2_with (go_at_call 25; (with_reducible refine HC.out.mono ?_); rintro e w1 ⟨rfl, rfl⟩)
    go_ret3
    exact ⟨rfl, rfl⟩

theorem mark_eq (m p : Int) (h0 : 0 ≤ m * p) (h1 : m * p ≤ 1000000000 * 100000) : wrap64 ((wrap64 (wrap64 (wrap64 (m * p) + 100) - 1)).tdiv 100) = (m * p + 99) / 100 := by
  generalize m * p = t at *
  have e1 : wrap64 t = t := by unfold wrap64; omega
  have e2 : wrap64 (t + 100) = t + 100 := by unfold wrap64; omega
  have e3 : wrap64 (t + 100 - 1) = t + 99 := by unfold wrap64; omega
  rw [e1, e2, e3, Int.tdiv_eq_ediv_of_nonneg (by omega)]
  unfold wrap64; omega

set_option maxRecDepth 100000 in
set_option maxHeartbeats 2000000 in
theorem Spike_good (v : Value) (l : List Int) (p q : Int) (w : World) (hv : IntV w v l) (he : spkErr l p q = 0) : Calls Try.prog 13 #[v, .int .i64 p, .int .i64 q] w
    fun e w' => e = .returned (.tuple #[.bool (decide (mrk l p q < lst l)), .int .i64 (mrk l p q), .int .i64 0]) ∧ Below w.heap.size w w' := by
  have HC := Lib.hid (counts_any v l w hv)
  have HWP := Lib.hid (fun W => within_any p 0 100000 W)
  have HWQ := Lib.hid (fun W => within_any q 0 1000000000 W)
  have hv0 := hv
  obtain ⟨pp, cap, rfl, h1, h3, h4⟩ := hv
  have h2 : ¬ l.length < 2 := by
    intro h; unfold spkErr at he; rw [if_pos h] at he; cases he
  have hc : cntErr l = 0 := by
    by_cases hc : cntErr l = 0
    · exact hc
    · unfold spkErr at he; rw [if_neg h2, if_neg hc] at he; exact absurd he hc
  have hpq : wi p 0 100000 = true ∧ wi q 0 1000000000 = true := by
    unfold spkErr at he; rw [if_neg h2, if_pos hc] at he
    split at he
    · assumption
    · cases he
  rw [hc] at HC
  rw [hpq.1] at HWP
  rw [hpq.2] at HWQ
  obtain ⟨hp1, hp2⟩ := hpq
  have hp : 0 ≤ p ∧ p ≤ 100000 := by unfold wi at hp1; exact of_decide_eq_true hp1
  have hqq : 0 ≤ q ∧ q ≤ 1000000000 := by unfold wi at hp2; exact of_decide_eq_true hp2
  have hcn := cnt_in hc
  have hlt : (l.take (l.length - 1)).length = l.length - 1 := by rw [List.length_take]; omega
  have HM := Lib.hid (middle_any _ _ w (hv0.take (l.length - 1) (by omega)) (by omega) (by omega))
  have hmi := hcn.2 _ (List.mem_of_mem_take (mdl_mem (l := l.take (l.length - 1)) (by omega)))
  have HMK : mrk l p q = max ((mdl (l.take (l.length - 1)) * p + 99) / 100) q := rfl
  have hll : l[l.length - 1]? = some (lst l) := by unfold lst; rw [List.getElem?_eq_getElem (by omega)]; rfl
  rw [HMK]
  generalize mdl (l.take (l.length - 1)) = m at *
  obtain ⟨hm0, hm1⟩ := hmi
  obtain ⟨hp0, hp3⟩ := hp
  obtain ⟨hq0, hq3⟩ := hqq
  have hb0 : 0 ≤ m * p := Int.mul_nonneg hm0 hp0
  have hb1 : m * p ≤ 1000000000 * 100000 := Int.mul_le_mul hm1 hp3 hp0 (by omega)
  rcases h4 with h4 | ⟨b, off, rfl, hb, hat⟩
  · subst h4; simp at h2
  have c0 := hat (l.length - 1) (by omega)
  rw [show l[l.length - 1] = lst l by rw [List.getElem?_eq_getElem (by omega)] at hll; exact Option.some.inj hll] at c0
  generalize lst l = z at *
  obtain ⟨n, hn⟩ : ∃ n, n = l.length := ⟨_, rfl⟩
  have hn1000 : n ≤ 1000 := by have := hcn.1; omega
  rw [← hn] at h1 HC HM c0 h2 ⊢
  clear hn hcn hlt hll HMK hv0 hc he hat hp1 hp2
  have HME := Lib.hid (mark_eq m p hb0 hb1)
  clear hb0 hb1
  have hkn : n - 1 < n := by omega
  go_enter Try.func13, Try.ntmps13
  go_wp2_with (first
    | (go_at_call 25; (with_reducible refine HC.out.mono ?_); rintro e w1 ⟨rfl, rfl⟩)
    | (go_at_call 22; (first | (with_reducible refine (HWP.out _).mono ?_) | (with_reducible refine (HWQ.out _).mono ?_)); rintro e w2 ⟨rfl, rfl⟩)
    | (go_at_call 31; (with_reducible refine HM.out.mono ?_); rintro e w3 ⟨rfl, hb3⟩; have c1 := cell_keep c0 hb3))
  go_ret3
  exact ⟨by rw [HME.out]; rfl, hb3⟩
end Go.Proofs.Ytdkpghfielfojaa

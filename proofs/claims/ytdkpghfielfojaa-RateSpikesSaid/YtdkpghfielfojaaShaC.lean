/- The line of shares: what stays, and how much. -/
import Derived.Test.YtdkpghfielfojaaShaB
import Derived.Deep.RegionHeld3
import Derived.Laws.Shifts
namespace Go.Proofs.Ytdkpghfielfojaa
open Go.RowKit Go.Lib

theorem below_keep {B : Nat} {a W W' : World} (h : Below B a W) (hB : B ≤ a.heap.size) (hb : Below W.heap.size W W') : Below B a W' := h.trans (hb.mono (by have := h.size; omega))
/-- What stays of shares under a line. -/
def sty (line : Int) : List Sh → Int
  | [] => 0
  | x :: l => min x.came line + sty line l
theorem sty_append (line : Int) : ∀ a b : List Sh, sty line (a ++ b) = sty line a + sty line b
  | [], b => by simp [sty]
  | x :: a, b => by simp only [List.cons_append, sty, sty_append line a b]; omega
theorem sty_take (line : Int) (l : List Sh) (k : Nat) (hk : k < l.length) : sty line (l.take (k + 1)) = sty line (l.take k) + min l[k].came line := by
  rw [List.take_succ_eq_append_getElem hk, sty_append]; simp [sty]
/-- Shares that were checked. -/
def GoodS (l : List Sh) : Prop := l.length ≤ 200 ∧ ∀ x ∈ l, 0 ≤ x.came ∧ x.came ≤ 1000000000
theorem sty_le (line : Int) (h0 : 0 ≤ line) : ∀ l : List Sh, (∀ x ∈ l, 0 ≤ x.came ∧ x.came ≤ 1000000000) → 0 ≤ sty line l ∧ sty line l ≤ l.length * 1000000000
  | [], _ => by simp [sty]
  | x :: l, h => by
    have h1 := h x (List.mem_cons_self ..)
    have ih := sty_le line h0 l (fun y hy => h y (List.mem_cons_of_mem _ hy))
    simp only [sty, List.length_cons]
    push_cast
    omega
theorem sty_mono {a b : Int} (h : a ≤ b) : ∀ l : List Sh, sty a l ≤ sty b l
  | [] => Int.le_refl _
  | x :: l => by
    have := sty_mono h l
    simp only [sty]; omega

set_option maxHeartbeats 2000000 in
set_option maxRecDepth 100000 in
theorem stay_any (v : Value) (l : List Sh) (line : Int) (w : World) (hv : ShV w v l) (hg : GoodS l) (h0 : 0 ≤ line) : Calls Try.prog 41 #[v, .int .i64 line] w fun e w' => e = .returned (.int .i64 (sty line l)) ∧ Below w.heap.size w w' := by
  obtain ⟨p, cap, rfl, h1, h2, h3, h4⟩ := hv
  obtain ⟨R, hR⟩ : ∃ R, R = sty line l := ⟨_, rfl⟩
  rw [← hR]
  have HR := Lib.hid hR
  obtain ⟨n, hn⟩ : ∃ n, n = l.length := ⟨_, rfl⟩
  have HN := Lib.hid hn
  rw [← hn] at h1 ⊢
  clear hR hn
  go_enter Try.func41, Try.ntmps41
  go_wp2_with fail
  go_loopw [5, 10] (fun v5 v10 wr => ∃ (k : Nat) (s : Int), k ≤ n ∧ v10 = .int .i64 k ∧ v5 = .int .i64 s ∧ Hid (s = sty line (l.take k)) ∧ Below w.heap.size w wr) (fun _ v10 _ => n - (RowKit.intOf v10).toNat)
  case atStart => exact ⟨0, 0, Nat.zero_le _, rfl, rfl, Lib.hid rfl, Below.refl _ _⟩
  case round =>
    obtain ⟨k, s, hk, rfl, rfl, HS, hbw⟩ := hrel
    by_cases hlt : k < n
    · have hkl : k < l.length := by have := HN.out; omega
      rcases h4 with h4 | ⟨b, off, rfl, hb, hat⟩
      · rw [h4] at hkl; simp at hkl
      obtain ⟨c0, c1⟩ := (hat.below hb hbw) k hkl
      have hx := hg.2 l[k] (List.getElem_mem hkl)
      have HT := Lib.hid (sty_take line l k hkl)
      have hle := sty_le line h0 (l.take k) (fun y hy => hg.2 y (List.mem_of_mem_take hy))
      have hlen : (l.take k).length ≤ 200 := by have := hg.1; rw [List.length_take]; omega
      rw [← HS.out] at hle
      have hs1 : s ≤ 200000000000 := by omega
      obtain ⟨hs0, _⟩ := hle
      generalize l[k] = x at *
      obtain ⟨x0, x1⟩ := x
      simp only at c0 c1 hx HT
      obtain ⟨hx0, hx1⟩ := hx
      clear hat hkl hlen h3
      by_cases hm : x1 ≤ line
      · have hmin : min x1 line = x1 := by omega
        have hw : IntKind.i64.wrap (s + x1) = s + x1 := IntWalk.i64_in _ ⟨by omega, by omega⟩
        have HNX := Lib.hid (show s + x1 = sty line (l.take (k + 1)) by rw [HT.out, ← HS.out, hmin])
        clear hs1 hs0 hmin
        go_wp2_with fail
        all_goals first
          | (exfalso; omega)
          | exact ⟨⟨k + 1, s + x1, by omega, by go_num, rfl, HNX, hbw.alloc hbw.size _⟩, by simp [RowKit.intOf]; omega⟩
      · have hmin : min x1 line = line := by omega
        have hm2 : line < x1 := by omega
        have hw : IntKind.i64.wrap (s + line) = s + line := IntWalk.i64_in _ ⟨by omega, by omega⟩
        have HNX := Lib.hid (show s + line = sty line (l.take (k + 1)) by rw [HT.out, ← HS.out, hmin])
        clear hs1 hs0 hmin
        go_wp2_with fail
        all_goals first
          | (exfalso; omega)
          | exact ⟨⟨k + 1, s + line, by omega, by go_num, rfl, HNX, hbw.alloc hbw.size _⟩, by simp [RowKit.intOf]; omega⟩
    · have HE := Lib.hid (show s = R by rw [HS.out, HR.out, List.take_of_length_le (by have := HN.out; omega)])
      go_wp2_with fail
      go_ret
      exact ⟨by rw [← HE.out]; rfl, hbw⟩

set_option maxHeartbeats 2000000 in
set_option maxRecDepth 100000 in
theorem closure40 (B1 B2 : Nat) (v : Value) (l : List Sh) (most line : Int) (w : World) (hB1 : Bx1 w B1 v) (hB2 : Bx1 w B2 (.int .i64 most)) (hv : ShV w v l) (hg : GoodS l) (h0 : 0 ≤ line) (h1 : line ≤ 1000000000) :
    Calls Try.prog 40 #[.int .i64 line, .pointer (some ⟨B1, 0, none⟩), .pointer (some ⟨B2, 0, none⟩)] w fun e w' => e = .returned (.bool (decide (most < sty (line + 1) l))) ∧ Below w.heap.size w w' := by
  have HST := Lib.hid (fun (W : World) (hW : Below w.heap.size w W) => stay_any v l (line + 1) W (hv.below hW) hg (by omega))
  obtain ⟨p, cap, rfl, -⟩ := hv
  have hw : IntKind.i64.wrap (line + 1) = line + 1 := IntWalk.i64_in _ ⟨by omega, by omega⟩
  have hr : Below w.heap.size w w := Below.refl _ _
  unfold Bx1 at hB1 hB2
  generalize sty (line + 1) l = S at *
  clear hg h0 h1
  go_enter Try.func40, Try.ntmps40
  go_wp2_with fail
  go_region_held3 (fun w' => w'.cell? ⟨B1, 0, none⟩ = some (.slice p l.length cap) ∧ w'.cell? ⟨B2, 0, none⟩ = some (.int .i64 most) ∧ Below w.heap.size w w')
    ((repeat' apply And.intro) <;> first | assumption | exact Below.drew (by assumption) | exact cell_keep (by assumption) hbX | exact below_keep (by first | assumption | exact Below.drew (by assumption)) (Nat.le_refl _) hbX)
    (first | (go_at_call 41; refine (HST.out _ hr.drew).mono ?_; rintro e w' ⟨rfl, hbX⟩))
  go_wp2_with fail
  go_ret
  exact ⟨rfl, (Below.refl _ w).drew.trans hbX⟩

set_option maxHeartbeats 2000000 in
set_option maxRecDepth 100000 in
theorem search_any (B1 B2 : Nat) (v : Value) (l : List Sh) (most : Int) (n : Nat) (w : World) (hB1 : Bx1 w B1 v) (hB2 : Bx1 w B2 (.int .i64 most)) (hv : ShV w v l) (hg : GoodS l) (hn : n ≤ 1000000000) (h0 : 0 ≤ most) :
    Calls Try.prog 39 #[.int .i64 n, .func (.func 40) #[] #[.pointer (some ⟨B1, 0, none⟩), .pointer (some ⟨B2, 0, none⟩)]] w
      fun e w' => (∃ r : Nat, e = .returned (.int .i64 r) ∧ r ≤ n ∧ sty r l ≤ most ∧ (r = n ∨ most < sty ((r : Int) + 1) l)) ∧ Below w.heap.size w w' := by
  have HC := Lib.hid (fun (k : Nat) (hk : k ≤ 1000000000) (W : World) (hW : Below w.heap.size w W) => closure40 B1 B2 v l most k W (hB1.below hW) (hB2.below hW) (hv.below hW) hg (by omega) (by omega))
  have hz : sty 0 l ≤ most := by
    have : ∀ l : List Sh, (∀ x ∈ l, 0 ≤ x.came ∧ x.came ≤ 1000000000) → sty 0 l = 0 := by
      intro l
      induction l with
      | nil => intro _; rfl
      | cons x l ih =>
        intro h
        have h1 := h x (List.mem_cons_self ..)
        have h2 := ih (fun y hy => h y (List.mem_cons_of_mem _ hy))
        simp only [sty]; omega
    rw [this l hg.2]; exact h0
  clear hB1 hB2 hv hg
  go_enter Try.func39, Try.ntmps39
  go_wp2_with fail
  go_loopw [5, 6] (fun v5 v6 wr => ∃ lo hi : Nat, lo ≤ hi ∧ hi ≤ n ∧ v5 = .int .i64 lo ∧ v6 = .int .i64 hi ∧ RowKit.Hid (sty lo l ≤ most ∧ (hi = n ∨ most < sty ((hi : Int) + 1) l)) ∧ Below w.heap.size w wr) (fun v5 v6 _ => (RowKit.intOf v6).toNat - (RowKit.intOf v5).toNat)
  case atStart => exact ⟨0, n, Nat.zero_le _, Nat.le_refl _, rfl, rfl, Lib.hid ⟨hz, .inl rfl⟩, Below.refl _ _⟩
  case round =>
    obtain ⟨lo, hi, hlh, hin, rfl, rfl, HI, hbw⟩ := hrel
    by_cases hlt : lo < hi
    · have HD := Lib.hid (HC.out ((lo + hi) / 2) (by omega) wr hbw)
      have HCC := Lib.hid (fun (W : World) (hW : Below w.heap.size w W) => HC.out ((lo + hi) / 2) (by omega) W hW)
      rw [show (((lo + hi) / 2 : Nat) : Int) = ((lo : Int) + (hi : Int)) / 2 by omega] at HCC
      by_cases hx : most < sty (((lo : Int) + (hi : Int)) / 2 + 1) l
      · rw [decide_eq_true hx] at HCC
        have HN := Lib.hid (show sty lo l ≤ most ∧ ((lo + hi) / 2 = n ∨ most < sty ((((lo + hi) / 2 : Nat) : Int) + 1) l) from ⟨HI.out.1, .inr (by rw [show (((lo + hi) / 2 : Nat) : Int) = ((lo : Int) + (hi : Int)) / 2 by omega]; exact hx)⟩)
        clear hx HD
        go_wp2_with (go_at_call 40; with_reducible refine (HCC.out _ hbw).mono ?_; rintro e w1 ⟨rfl, hb1⟩)
        exact ⟨⟨lo, (lo + hi) / 2, by omega, by omega, rfl, by rw [show ((lo : Int) + (hi : Int)) / 2 = (((lo + hi) / 2 : Nat) : Int) by omega], HN, below_call hbw hbw.size hb1⟩, by simp [RowKit.intOf]; omega⟩
      · rw [decide_eq_false hx] at HCC
        have HN := Lib.hid (show sty (((lo + hi) / 2 + 1 : Nat) : Int) l ≤ most ∧ (hi = n ∨ most < sty ((hi : Int) + 1) l) from ⟨by rw [show (((lo + hi) / 2 + 1 : Nat) : Int) = ((lo : Int) + (hi : Int)) / 2 + 1 by omega]; omega, HI.out.2⟩)
        clear hx HD
        go_wp2_with (go_at_call 40; with_reducible refine (HCC.out _ hbw).mono ?_; rintro e w1 ⟨rfl, hb1⟩)
        exact ⟨⟨(lo + hi) / 2 + 1, hi, by omega, hin, by rw [show ((lo : Int) + (hi : Int)) / 2 + 1 = (((lo + hi) / 2 + 1 : Nat) : Int) by omega], rfl, HN, below_call hbw hbw.size hb1⟩, by simp [RowKit.intOf]; omega⟩
    · obtain rfl : hi = lo := by omega
      go_wp2_with fail
      go_ret
      exact ⟨⟨hi, rfl, hin, HI.out.1, HI.out.2⟩, hbw⟩
/-- What is kept of so many. -/
def keepV (came line : Int) : Int := if came ≤ line then 1000000 else line * 1000000 / came
set_option maxHeartbeats 1000000 in
theorem keep_any (came line : Int) (w : World) (h0 : 0 ≤ line) (h1 : line ≤ 1000000000) (_h2 : came ≤ 1000000000) : Calls Try.prog 24 #[.int .i64 came, .int .i64 line] w fun e w' => e = .returned (.int .i64 (keepV came line)) ∧ w' = w := by
  unfold keepV
  by_cases hle : came ≤ line
  · rw [if_pos hle]
    go_enter Try.func24, Try.ntmps24
    go_wp2_with fail
    go_ret
    exact ⟨rfl, rfl⟩
  · rw [if_neg hle]
    have hw1 : IntKind.i64.wrap (line * 1000000) = line * 1000000 := IntWalk.i64_in _ ⟨by omega, by omega⟩
    have hq : (line * 1000000).tdiv came = line * 1000000 / came := Int.tdiv_eq_ediv_of_nonneg (by omega)
    have hq0 : 0 ≤ line * 1000000 / came := Int.ediv_nonneg (by omega) (by omega)
    have hq1 : line * 1000000 / came ≤ line * 1000000 := Int.ediv_le_self _ (by omega)
    have hw2 : IntKind.i64.wrap (line * 1000000 / came) = line * 1000000 / came := IntWalk.i64_in _ ⟨by omega, by omega⟩
    have ha0 : (came == 0) = false := by rw [beq_eq_false_iff_ne]; omega
    have ha1 : came ≠ 0 := by omega
    clear h0 h1 hq0 hq1
    go_enter Try.func24, Try.ntmps24
    go_wp2_with fail
    go_ret
    exact ⟨rfl, rfl⟩
end Go.Proofs.Ytdkpghfielfojaa

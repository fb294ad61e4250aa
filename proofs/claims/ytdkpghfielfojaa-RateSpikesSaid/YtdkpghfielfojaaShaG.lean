/- What Stands and the reference's StandsFor answer. -/
import Derived.Test.YtdkpghfielfojaaShaD
namespace Go.Proofs.Ytdkpghfielfojaa
open Go.RowKit Go.Lib

/-- A value is a row of numbers: where they lie. -/
def IntsAt (w : World) (b off : Nat) (l : List Int) : Prop := ∀ i (h : i < l.length), w.cell? ⟨b, off + i, none⟩ = some (.int .i64 l[i])
def IntV (w : World) (v : Value) (l : List Int) : Prop :=
  ∃ (p : Option Addr) (cap : Nat), v = .slice p l.length cap ∧ l.length ≤ cap ∧ cap ≤ 9223372036854775807 ∧ (l = [] ∨ ∃ b off, p = some ⟨b, off, none⟩ ∧ b < w.heap.size ∧ IntsAt w b off l)
theorem IntsAt.below {B : Nat} {w w' : World} {b o : Nat} {l : List Int} (h : IntsAt w b o l) (hb : b < B) (hw : Below B w w') : IntsAt w' b o l :=
  fun i hi => (hw.cell (p := ⟨b, _, none⟩) hb).trans (h i hi)
theorem IntV.below {w w' : World} {v : Value} {l : List Int} (h : IntV w v l) (hw : Below w.heap.size w w') : IntV w' v l := by
  obtain ⟨p, cap, hv, h1, h2, h4⟩ := h
  refine ⟨p, cap, hv, h1, h2, ?_⟩
  rcases h4 with h4 | ⟨b, off, hp, hb, hc⟩
  · exact .inl h4
  · exact .inr ⟨b, off, hp, by have := hw.size; omega, hc.below hb hw⟩
/-- Whether all numbers are rates. -/
def ratesB (l : List Int) : Bool := l.all fun n => wi n 1 1000000
def stnErr (l : List Int) : Int := if 1000 < l.length then 4 else if ratesB l = true then 0 else 2
theorem rates_take (l : List Int) (k : Nat) (hk : k < l.length) : ratesB (l.take (k + 1)) = (ratesB (l.take k) && wi l[k] 1 1000000) := by
  unfold ratesB
  rw [List.take_succ_eq_append_getElem hk, List.all_append]; simp

set_option maxHeartbeats 2000000 in
set_option maxRecDepth 100000 in
theorem numbers_any (v : Value) (l : List Int) (w : World) (hv : IntV w v l) : Calls Try.prog 25 #[v, .int .i64 1, .int .i64 1000000] w fun e w' => e = .returned (.int .i64 (stnErr l)) ∧ w' = w := by
  obtain ⟨p, cap, rfl, h1, h2, h4⟩ := hv
  obtain ⟨R, hR⟩ : ∃ R, R = stnErr l := ⟨_, rfl⟩
  rw [← hR]
  have HR := Lib.hid hR
  obtain ⟨n, hn⟩ : ∃ n, n = l.length := ⟨_, rfl⟩
  have HN := Lib.hid hn
  rw [← hn] at h1 ⊢
  have HW := Lib.hid (fun (x : Int) (W : World) => within_any x 1 1000000 W)
  clear hR hn
  by_cases hs : 1000 < n
  · have HE := Lib.hid (show R = 4 by rw [HR.out]; unfold stnErr; rw [if_pos (by have := HN.out; omega)])
    have hs' : (1000 : Int) < (n : Int) := by omega
    clear hs
    go_enter Try.func25, Try.ntmps25
    go_wp2_with fail
    go_ret
    exact ⟨by rw [HE.out]; rfl, rfl⟩
  have hs' : ¬ (1000 : Int) < (n : Int) := by omega
  go_enter Try.func25, Try.ntmps25
  go_wp2_with fail
  go_loopw [14] (fun v14 wr => ∃ k : Nat, k ≤ n ∧ v14 = .int .i64 k ∧ Hid (ratesB (l.take k) = true) ∧ wr = w) (fun v14 _ => n - (RowKit.intOf v14).toNat)
  case atStart => exact ⟨0, Nat.zero_le _, rfl, Lib.hid rfl, rfl⟩
  case round =>
    obtain ⟨k, hk, rfl, HB, rfl⟩ := hrel
    by_cases hlt : k < n
    · have hkl : k < l.length := by have := HN.out; omega
      rcases h4 with h4 | ⟨b, off, rfl, hb, hat⟩
      · rw [h4] at hkl; simp at hkl
      have c0 := hat k hkl
      have HT := Lib.hid (rates_take l k hkl)
      have HWX := Lib.hid (fun W => HW.out l[k] W)
      have HALL := Lib.hid (show wi l[k] 1 1000000 = false → ratesB l = false from fun h => by
        unfold ratesB
        rw [List.all_eq_false]
        exact ⟨_, List.getElem_mem hkl, by rw [h]; decide⟩)
      generalize l[k] = x at *
      clear hat hkl
      cases hwi : wi x 1 1000000
      · rw [hwi] at HWX
        have HE := Lib.hid (show R = 2 by rw [HR.out]; unfold stnErr; rw [if_neg (by have := HN.out; omega), if_neg (by rw [HALL.out hwi]; decide)])
        clear hwi
        go_wp2_with (go_at_call 22; (with_reducible refine (HWX.out _).mono ?_); rintro e w1 ⟨rfl, rfl⟩)
        go_ret
        exact ⟨by rw [HE.out]; rfl, rfl⟩
      · rw [hwi] at HWX
        have HB2 := Lib.hid (show ratesB (l.take (k + 1)) = true by rw [HT.out, HB.out, hwi]; rfl)
        clear hwi
        go_wp2_with (go_at_call 22; (with_reducible refine (HWX.out _).mono ?_); rintro e w1 ⟨rfl, rfl⟩)
        exact ⟨⟨k + 1, by omega, by go_num, HB2, trivial⟩, by simp [RowKit.intOf]; omega⟩
    · have HE := Lib.hid (show R = 0 by
        have h := HB.out
        rw [List.take_of_length_le (by have := HN.out; omega)] at h
        rw [HR.out]; unfold stnErr; rw [if_neg (by have := HN.out; omega), if_pos h])
      go_wp2_with fail
      go_ret
      exact ⟨by rw [HE.out]; rfl, rfl⟩

/-- For how many the numbers stand, in millionths. -/
def stnV : List Int → Int
  | [] => 0
  | n :: l => 1000000000000 / n + stnV l
theorem stnV_append : ∀ a b : List Int, stnV (a ++ b) = stnV a + stnV b
  | [], b => by simp [stnV]
  | x :: a, b => by simp only [List.cons_append, stnV, stnV_append a b]; omega
theorem stnV_take (l : List Int) (k : Nat) (hk : k < l.length) : stnV (l.take (k + 1)) = stnV (l.take k) + 1000000000000 / l[k] := by
  rw [List.take_succ_eq_append_getElem hk, stnV_append]; simp [stnV]
theorem rate_in {l : List Int} (h : ratesB l = true) {x : Int} (hx : x ∈ l) : 1 ≤ x ∧ x ≤ 1000000 := by
  have := List.all_eq_true.1 h x hx
  unfold wi at this; exact of_decide_eq_true this
theorem one_le_v {n : Int} (h : 1 ≤ n) : 0 ≤ 1000000000000 / n ∧ 1000000000000 / n ≤ 1000000000000 :=
  ⟨Int.ediv_nonneg (by omega) (by omega), Int.ediv_le_self _ (by omega)⟩
theorem stnV_le : ∀ l : List Int, (∀ x ∈ l, 1 ≤ x) → 0 ≤ stnV l ∧ stnV l ≤ l.length * 1000000000000
  | [], _ => by simp [stnV]
  | x :: l, h => by
    have h1 := one_le_v (h x (List.mem_cons_self ..))
    have ih := stnV_le l (fun y hy => h y (List.mem_cons_of_mem _ hy))
    simp only [stnV, List.length_cons]
    push_cast
    omega
set_option maxHeartbeats 1000000 in
theorem stands_any (n : Int) (w : World) (h1 : 1 ≤ n) (h2 : n ≤ 1000000) : Calls Try.prog 26 #[.int .i64 n] w fun e w' => e = .returned (.int .i64 (1000000000000 / n)) ∧ w' = w := by
  have hv := one_le_v h1
  have hq : (1000000000000 : Int).tdiv n = 1000000000000 / n := Int.tdiv_eq_ediv_of_nonneg (by omega)
  have hw : IntKind.i64.wrap (1000000000000 / n) = 1000000000000 / n := IntWalk.i64_in _ ⟨by omega, by omega⟩
  have ha0 : (n == 0) = false := by rw [beq_eq_false_iff_ne]; omega
  have ha1 : n ≠ 0 := by omega
  clear h1 h2
  go_enter Try.func26, Try.ntmps26
  go_wp2_with fail
  go_ret
  exact ⟨rfl, rfl⟩
/-- What Stands answers. -/
def stnR (l : List Int) : Int := if stnErr l = 0 then (stnV l + 500000) / 1000000 else 0

set_option maxHeartbeats 2000000 in
set_option maxRecDepth 100000 in
theorem Stands_any (v : Value) (l : List Int) (w : World) (hv : IntV w v l) : Calls Try.prog 8 #[v] w fun e w' => e = .returned (.tuple #[.int .i64 (stnR l), .int .i64 (stnErr l)]) ∧ w' = w := by
  have HC := Lib.hid (numbers_any v l w hv)
  obtain ⟨p, cap, rfl, h1, h2, h4⟩ := hv
  obtain ⟨n, hn⟩ : ∃ n, n = l.length := ⟨_, rfl⟩
  have HN := Lib.hid hn
  rw [← hn] at h1 HC ⊢
  clear hn
  by_cases he : stnErr l = 0
  · have hn1000 : n ≤ 1000 := by
      unfold stnErr at he
      split at he
      · cases he
      · have := HN.out; omega
    have hr : ratesB l = true := by
      unfold stnErr at he
      split at he
      · cases he
      split at he
      · assumption
      · cases he
    have HR := Lib.hid (show stnR l = (stnV l + 500000) / 1000000 by unfold stnR; rw [if_pos he])
    rw [he] at HC ⊢
    generalize stnR l = R at *
    have HRT := Lib.hid hr
    clear hr he
    go_enter Try.func8, Try.ntmps8
    go_wp2_with (go_at_call 25; (with_reducible refine HC.out.mono ?_); rintro e w1 ⟨rfl, rfl⟩)
    go_loopw [5, 15] (fun v5 v15 wr => ∃ (k : Nat) (s : Int), k ≤ n ∧ v15 = .int .i64 k ∧ v5 = .int .i64 s ∧ Hid (s = stnV (l.take k)) ∧ wr = w1) (fun _ v15 _ => n - (RowKit.intOf v15).toNat)
    case atStart => exact ⟨0, 0, Nat.zero_le _, rfl, rfl, Lib.hid rfl, rfl⟩
    case round =>
      obtain ⟨k, s, hk, rfl, rfl, HS, rfl⟩ := hrel
      have hle := stnV_le (l.take k) (fun y hy => (rate_in HRT.out (List.mem_of_mem_take hy)).1)
      have hlen : (l.take k).length ≤ 1000 := by rw [List.length_take]; have := HN.out; omega
      rw [← HS.out] at hle
      have hs1 : s ≤ 1000000000000000 := by omega
      obtain ⟨hs0, _⟩ := hle
      by_cases hlt : k < n
      · have hkl : k < l.length := by have := HN.out; omega
        rcases h4 with h4 | ⟨b, off, rfl, hb, hat⟩
        · rw [h4] at hkl; simp at hkl
        have c0 := hat k hkl
        have hx := rate_in HRT.out (List.getElem_mem hkl)
        have HT := Lib.hid (stnV_take l k hkl)
        generalize l[k] = x at *
        have hv := one_le_v hx.1
        have HST := Lib.hid (fun W => stands_any x W hx.1 hx.2)
        generalize 1000000000000 / x = q at *
        have hw : IntKind.i64.wrap (s + q) = s + q := IntWalk.i64_in _ ⟨by omega, by omega⟩
        have HNX := Lib.hid (show s + q = stnV (l.take (k + 1)) by rw [HT.out, ← HS.out])
        clear hat hkl hx hv hlen hs1 hs0
        go_wp2_with (go_at_call 26; (with_reducible refine (HST.out _).mono ?_); rintro e w2 ⟨rfl, rfl⟩)
        exact ⟨⟨k + 1, s + q, by omega, by go_num, rfl, HNX, trivial⟩, by simp [RowKit.intOf]; omega⟩
      · have HE := Lib.hid (show (s + 500000) / 1000000 = R by rw [HS.out, HR.out, List.take_of_length_le (by have := HN.out; omega)])
        have hw1 : IntKind.i64.wrap (s + 500000) = s + 500000 := IntWalk.i64_in _ ⟨by omega, by omega⟩
        have hq : (s + 500000).tdiv 1000000 = (s + 500000) / 1000000 := Int.tdiv_eq_ediv_of_nonneg (by omega)
        have hw2 : IntKind.i64.wrap ((s + 500000) / 1000000) = (s + 500000) / 1000000 := IntWalk.i64_in _ ⟨by omega, by omega⟩
        clear hlen hs1 hs0
        go_wp2_with fail
        go_ret2
        exact ⟨by rw [← HE.out]; rfl, rfl⟩
  · have HR := Lib.hid (show stnR l = 0 by unfold stnR; rw [if_neg he])
    rw [HR.out]
    have hq : (stnErr l == 0) = false := by rw [beq_eq_false_iff_ne]; exact he
    generalize stnErr l = g at *
    go_enter Try.func8, Try.ntmps8
    go_wp2_with (go_at_call 25; (with_reducible refine HC.out.mono ?_); rintro e w1 ⟨rfl, rfl⟩)
    go_ret2
    exact ⟨rfl, rfl⟩

set_option maxHeartbeats 2000000 in
set_option maxRecDepth 100000 in
theorem StandsFor_any (v : Value) (l : List Int) (w : World) (hv : IntV w v l) (he : stnErr l = 0) : Calls Try.prog 12 #[v] w fun e w' => e = .returned (.int .i64 (stnR l)) ∧ w' = w := by
  obtain ⟨p, cap, rfl, h1, h2, h4⟩ := hv
  obtain ⟨n, hn⟩ : ∃ n, n = l.length := ⟨_, rfl⟩
  have HN := Lib.hid hn
  rw [← hn] at h1 ⊢
  clear hn
  have hn1000 : n ≤ 1000 := by
    unfold stnErr at he
    split at he
    · cases he
    · have := HN.out; omega
  have hr : ratesB l = true := by
    unfold stnErr at he
    split at he
    · cases he
    split at he
    · assumption
    · cases he
  have HR := Lib.hid (show stnR l = (stnV l + 500000) / 1000000 by unfold stnR; rw [if_pos he])
  generalize stnR l = R at *
  have HRT := Lib.hid hr
  clear hr he
  go_enter Try.func12, Try.ntmps12
  go_wp2_with fail
  go_loopw [3, 8] (fun v3 v8 wr => ∃ (k : Nat) (s : Int), k ≤ n ∧ v8 = .int .i64 k ∧ v3 = .int .i64 s ∧ Hid (s = stnV (l.take k)) ∧ wr = w) (fun _ v8 _ => n - (RowKit.intOf v8).toNat)
  case atStart => exact ⟨0, 0, Nat.zero_le _, rfl, rfl, Lib.hid rfl, rfl⟩
  case round =>
    obtain ⟨k, s, hk, rfl, rfl, HS, rfl⟩ := hrel
    have hle := stnV_le (l.take k) (fun y hy => (rate_in HRT.out (List.mem_of_mem_take hy)).1)
    have hlen : (l.take k).length ≤ 1000 := by rw [List.length_take]; have := HN.out; omega
    rw [← HS.out] at hle
    have hs1 : s ≤ 1000000000000000 := by omega
    obtain ⟨hs0, _⟩ := hle
    by_cases hlt : k < n
    · have hkl : k < l.length := by have := HN.out; omega
      rcases h4 with h4 | ⟨b, off, rfl, hb, hat⟩
      · rw [h4] at hkl; simp at hkl
      have c0 := hat k hkl
      have hx := rate_in HRT.out (List.getElem_mem hkl)
      have HT := Lib.hid (stnV_take l k hkl)
      generalize l[k] = x at *
      have hv := one_le_v hx.1
      have hq : (1000000000000 : Int).tdiv x = 1000000000000 / x := Int.tdiv_eq_ediv_of_nonneg (by omega)
      have ha0 : (x == 0) = false := by rw [beq_eq_false_iff_ne]; omega
      have ha1 : x ≠ 0 := by omega
      generalize 1000000000000 / x = q at *
      have hw0 : IntKind.i64.wrap q = q := IntWalk.i64_in _ ⟨by omega, by omega⟩
      have hw : IntKind.i64.wrap (s + q) = s + q := IntWalk.i64_in _ ⟨by omega, by omega⟩
      have HNX := Lib.hid (show s + q = stnV (l.take (k + 1)) by rw [HT.out, ← HS.out])
      clear hat hkl hx hv hlen hs1 hs0
      go_wp2_with fail
      exact ⟨⟨k + 1, s + q, by omega, by go_num, rfl, HNX, trivial⟩, by simp [RowKit.intOf]; omega⟩
    · have HE := Lib.hid (show (s + 500000) / 1000000 = R by rw [HS.out, HR.out, List.take_of_length_le (by have := HN.out; omega)])
      have hw1 : IntKind.i64.wrap (s + 500000) = s + 500000 := IntWalk.i64_in _ ⟨by omega, by omega⟩
      have hq : (s + 500000).tdiv 1000000 = (s + 500000) / 1000000 := Int.tdiv_eq_ediv_of_nonneg (by omega)
      have hw2 : IntKind.i64.wrap ((s + 500000) / 1000000) = (s + 500000) / 1000000 := IntWalk.i64_in _ ⟨by omega, by omega⟩
      clear hlen hs1 hs0
      go_wp2_with fail
      go_ret
      exact ⟨by rw [← HE.out]; rfl, rfl⟩
end Go.Proofs.Ytdkpghfielfojaa

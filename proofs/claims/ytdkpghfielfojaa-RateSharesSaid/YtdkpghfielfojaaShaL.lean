/- The law RateShares, walked (written by gen_shal.py). -/
import Derived.Test.YtdkpghfielfojaaShaK
import Derived.Test.YtdkpghfielfojaaShaI
import Derived.Test.YtdkpghfielfojaaShaG
namespace Go.Proofs.Ytdkpghfielfojaa
open Go.RowKit Go.Lib

theorem ownsRow_keep {w w' : World} {base e n : Nat} {v : Value} {xs : List Value} (h : w.ownsRow base e 2 v n xs) (hb : Below w.heap.size w w') : RowV w' v n xs := (RowV.of h).below hb

set_option maxHeartbeats 8000000 in
set_option maxRecDepth 100000 in
theorem shares_bad_many (v vr : Value) (l : List Sh) (lr : List Int) (most : Int) (w : World) (hv : ShV w v l) (hvr : IntV w vr lr) (he : shErr l most ≠ 0) (hlr : 1000 < lr.length) : Calls Try.prog 3 #[v, .int .i64 most, vr] w fun e w' => e = .returned (.bool true) ∧ Below w.heap.size w w' := by
  have HS := Lib.hid (Shares_bad v l most w hv he)
  have HT := Lib.hid (fun (W : World) (hW : Below w.heap.size w W) => Stands_any vr lr W (hvr.below hW))
  have hse : stnErr lr = 4 := by unfold stnErr; rw [if_pos (by omega)]
  have hsr : stnR lr = 0 := by unfold stnR; rw [if_neg (by omega)]
  rw [hse, hsr] at HT
  clear hse hsr
  have HR := Lib.hid (fun (W : World) (hW : Below w.heap.size w W) => sharesError_any v l most W (hv.below hW))
  have hq : (shErr l most == 0) = false := by rw [beq_eq_false_iff_ne]; exact he
  have hq2 : (shErr l most != 0) = true := by rw [bne_iff_ne]; exact he
  generalize shErr l most = g at *
  clear he
  obtain ⟨p, cap, rfl, -⟩ := hv
  obtain ⟨pr, cr, rfl, g1, g2, g4⟩ := hvr
  obtain ⟨n, hn⟩ : ∃ n, n = lr.length := ⟨_, rfl⟩
  have HN := Lib.hid hn
  generalize l.length = m at *
  rw [← hn] at g1 HT hlr ⊢
  clear hn
  go_enter Try.func3, Try.ntmps3
  go_wp2_with (first
    | (go_at_call 7; (with_reducible refine HS.out.mono ?_); rintro e w1 ⟨rfl, hb1⟩)
    | (go_at_call 8; (with_reducible refine (HT.out _ hb1).mono ?_); rintro e w2 ⟨rfl, rfl⟩)
    | (go_at_call 9; (with_reducible refine (HR.out _ hb1).mono ?_); rintro e w3 ⟨rfl, hb3⟩; have hbz := below_call hb1 hb1.size hb3))
  go_ret
  exact ⟨rfl, hbz⟩

set_option maxHeartbeats 8000000 in
set_option maxRecDepth 100000 in
theorem shares_bad_ok (v vr : Value) (l : List Sh) (lr : List Int) (most : Int) (w : World) (hv : ShV w v l) (hvr : IntV w vr lr) (he : shErr l most ≠ 0) (hlr : lr.length ≤ 1000) (hrb : ratesB lr = true) : Calls Try.prog 3 #[v, .int .i64 most, vr] w fun e w' => e = .returned (.bool true) ∧ Below w.heap.size w w' := by
  have HS := Lib.hid (Shares_bad v l most w hv he)
  have HT := Lib.hid (fun (W : World) (hW : Below w.heap.size w W) => Stands_any vr lr W (hvr.below hW))
  have hse : stnErr lr = 0 := by unfold stnErr; rw [if_neg (by omega), if_pos hrb]
  have HSF := Lib.hid (fun (W : World) (hW : Below w.heap.size w W) => StandsFor_any vr lr W (hvr.below hW) hse)
  rw [hse] at HT
  generalize stnR lr = sr at *
  clear hse
  have HR := Lib.hid (fun (W : World) (hW : Below w.heap.size w W) => sharesError_any v l most W (hv.below hW))
  have hq : (shErr l most == 0) = false := by rw [beq_eq_false_iff_ne]; exact he
  have hq2 : (shErr l most != 0) = true := by rw [bne_iff_ne]; exact he
  generalize shErr l most = g at *
  clear he
  obtain ⟨p, cap, rfl, -⟩ := hv
  obtain ⟨pr, cr, rfl, g1, g2, g4⟩ := hvr
  obtain ⟨n, hn⟩ : ∃ n, n = lr.length := ⟨_, rfl⟩
  have HN := Lib.hid hn
  generalize l.length = m at *
  have HRB := Lib.hid hrb
  clear hrb
  rw [← hn] at g1 HT HSF hlr ⊢
  clear hn
  go_enter Try.func3, Try.ntmps3
  go_wp2_with (first
    | (go_at_call 7; (with_reducible refine HS.out.mono ?_); rintro e w1 ⟨rfl, hb1⟩)
    | (go_at_call 8; (with_reducible refine (HT.out _ hb1).mono ?_); rintro e w2 ⟨rfl, rfl⟩)
    | (go_at_call 9; (with_reducible refine (HR.out _ hb1).mono ?_); rintro e w3 ⟨rfl, hb3⟩; have hbz := below_call hb1 hb1.size hb3))
  go_loopw [63] (fun v63 wr => ∃ k : Nat, k ≤ n ∧ v63 = .int .i64 k ∧ Hid (ratesB (lr.take k) = true) ∧ Below w.heap.size w wr) (fun v63 _ => n - (RowKit.intOf v63).toNat)
  case atStart => exact ⟨0, Nat.zero_le _, rfl, Lib.hid rfl, hbz⟩
  case round =>
    obtain ⟨k, hk, rfl, HS2, hbr⟩ := hrel
    by_cases hlt : k < n
    · have hkl : k < lr.length := by have := HN.out; omega
      rcases g4 with g4 | ⟨b, off, rfl, hb, hat⟩
      · rw [g4] at hkl; simp at hkl
      have c0 := (hat.below hb hbr) k hkl
      have HTK := Lib.hid (rates_take lr k hkl)
      have HIN := Lib.hid (List.getElem_mem hkl)
      have hrin := rate_in HRB.out HIN.out
      generalize lr[k] = x at *
      obtain ⟨hx1, hx2⟩ := hrin
      have HNX := Lib.hid (show ratesB (lr.take (k + 1)) = true by rw [HTK.out, HS2.out]; unfold wi; simp; omega)
      clear hat hkl
      have hx1' : ¬ x < 1 := by omega
      have hx2' : ¬ 1000000 < x := by omega
      go_wp2_with fail
      exact ⟨⟨k + 1, by omega, by go_num, HNX, hbr⟩, by simp [RowKit.intOf]; omega⟩
    · go_wp2_with (go_at_call 12; (with_reducible refine (HSF.out _ hbr).mono ?_); rintro e w8 ⟨rfl, rfl⟩)
      go_ret
      exact ⟨rfl, hbr⟩

set_option maxHeartbeats 8000000 in
set_option maxRecDepth 100000 in
theorem shares_bad_wrong (v vr : Value) (l : List Sh) (lr : List Int) (most : Int) (w : World) (hv : ShV w v l) (hvr : IntV w vr lr) (he : shErr l most ≠ 0) (hlr : lr.length ≤ 1000) (hrb : ratesB lr = false) : Calls Try.prog 3 #[v, .int .i64 most, vr] w fun e w' => e = .returned (.bool true) ∧ Below w.heap.size w w' := by
  have HS := Lib.hid (Shares_bad v l most w hv he)
  have HT := Lib.hid (fun (W : World) (hW : Below w.heap.size w W) => Stands_any vr lr W (hvr.below hW))
  have hse : stnErr lr = 2 := by unfold stnErr; rw [if_neg (by omega), if_neg (by rw [hrb]; decide)]
  have hsr : stnR lr = 0 := by unfold stnR; rw [if_neg (by omega)]
  rw [hse, hsr] at HT
  clear hse hsr
  have HR := Lib.hid (fun (W : World) (hW : Below w.heap.size w W) => sharesError_any v l most W (hv.below hW))
  have hq : (shErr l most == 0) = false := by rw [beq_eq_false_iff_ne]; exact he
  have hq2 : (shErr l most != 0) = true := by rw [bne_iff_ne]; exact he
  generalize shErr l most = g at *
  clear he
  obtain ⟨p, cap, rfl, -⟩ := hv
  obtain ⟨pr, cr, rfl, g1, g2, g4⟩ := hvr
  obtain ⟨n, hn⟩ : ∃ n, n = lr.length := ⟨_, rfl⟩
  have HN := Lib.hid hn
  generalize l.length = m at *
  have HRB := Lib.hid hrb
  clear hrb
  rw [← hn] at g1 HT hlr ⊢
  clear hn
  go_enter Try.func3, Try.ntmps3
  go_wp2_with (first
    | (go_at_call 7; (with_reducible refine HS.out.mono ?_); rintro e w1 ⟨rfl, hb1⟩)
    | (go_at_call 8; (with_reducible refine (HT.out _ hb1).mono ?_); rintro e w2 ⟨rfl, rfl⟩)
    | (go_at_call 9; (with_reducible refine (HR.out _ hb1).mono ?_); rintro e w3 ⟨rfl, hb3⟩; have hbz := below_call hb1 hb1.size hb3))
  go_loopw [63] (fun v63 wr => ∃ k : Nat, k ≤ n ∧ v63 = .int .i64 k ∧ Hid (ratesB (lr.take k) = true) ∧ Below w.heap.size w wr) (fun v63 _ => n - (RowKit.intOf v63).toNat)
  case atStart => exact ⟨0, Nat.zero_le _, rfl, Lib.hid rfl, hbz⟩
  case round =>
    obtain ⟨k, hk, rfl, HS2, hbr⟩ := hrel
    by_cases hlt : k < n
    · have hkl : k < lr.length := by have := HN.out; omega
      rcases g4 with g4 | ⟨b, off, rfl, hb, hat⟩
      · rw [g4] at hkl; simp at hkl
      have c0 := (hat.below hb hbr) k hkl
      have HTK := Lib.hid (rates_take lr k hkl)
      have HIN := Lib.hid (List.getElem_mem hkl)
      generalize lr[k] = x at *
      clear hat hkl
      by_cases hx1 : x < 1
      · go_wp2_with fail
        go_ret
        exact ⟨rfl, hbr⟩
      by_cases hx2 : 1000000 < x
      · go_wp2_with fail
        go_ret
        exact ⟨rfl, hbr⟩
      have HNX := Lib.hid (show ratesB (lr.take (k + 1)) = true by rw [HTK.out, HS2.out]; unfold wi; simp; omega)
      go_wp2_with fail
      exact ⟨⟨k + 1, by omega, by go_num, HNX, hbr⟩, by simp [RowKit.intOf]; omega⟩
    · have := HS2.out
      rw [List.take_of_length_le (by have := HN.out; omega), HRB.out] at this
      cases this

set_option maxHeartbeats 8000000 in
set_option maxRecDepth 100000 in
theorem shares_good_many (v vr : Value) (l : List Sh) (lr : List Int) (most : Int) (w : World) (hv : ShV w v l) (hvr : IntV w vr lr) (he : shErr l most = 0) (hlr : 1000 < lr.length) : Calls Try.prog 3 #[v, .int .i64 most, vr] w fun e w' => e = .returned (.bool true) ∧ Below w.heap.size w w' := by
  have ha : amtsErr 1000000000 l = 0 := by
    unfold shErr at he
    split at he
    · assumption
    · rename_i h; exact absurd he h
  have hmo : 0 ≤ most := by
    unfold shErr at he
    rw [if_pos ha] at he
    split at he
    · rename_i h; unfold wi at h; exact (of_decide_eq_true h).1
    · cases he
  have hgd := amts_ok ha
  have HS := Lib.hid (Shares_good v l most w hv he)
  have HSO := Lib.hid (fun (W : World) (hW : Below w.heap.size w W) => sharesOf_any v l most W (hv.below hW) hgd hmo)
  clear ha hmo hgd
  have HT := Lib.hid (fun (W : World) (hW : Below w.heap.size w W) => Stands_any vr lr W (hvr.below hW))
  have hse : stnErr lr = 4 := by unfold stnErr; rw [if_pos (by omega)]
  have hsr : stnR lr = 0 := by unfold stnR; rw [if_neg (by omega)]
  rw [hse, hsr] at HT
  clear hse hsr
  have HR := Lib.hid (fun (W : World) (hW : Below w.heap.size w W) => sharesError_any v l most W (hv.below hW))
  rw [he] at HR
  clear he
  obtain ⟨p, cap, rfl, -⟩ := hv
  obtain ⟨pr, cr, rfl, g1, g2, g4⟩ := hvr
  obtain ⟨n, hn⟩ : ∃ n, n = lr.length := ⟨_, rfl⟩
  have HN := Lib.hid hn
  have HEQ := Lib.hid (fun v1 v2 r W h1 h2 => equal_rows v1 v2 r l W h1 h2)
  generalize l.length = m at *
  rw [← hn] at g1 HT hlr ⊢
  clear hn
  go_enter Try.func3, Try.ntmps3
  go_wp2_with (first
    | (go_at_call 7; (with_reducible refine HS.out.mono ?_); rintro e w1 ⟨⟨v', r, rfl, hown, hr1, hr2, hr3⟩, hb1⟩; obtain ⟨pp, cc, rfl⟩ := own_len hown)
    | (go_at_call 8; (with_reducible refine (HT.out _ hb1).mono ?_); rintro e w2 ⟨rfl, rfl⟩)
    | (go_at_call 9; (with_reducible refine (HR.out _ hb1).mono ?_); rintro e w3 ⟨rfl, hb3⟩; have hbw := below_call hb1 hb1.size hb3)
    | (go_at_call 11; (with_reducible refine (HSO.out _ hbw).mono ?_); rintro e w4 ⟨⟨v4, r4, rfl, hown4, hs1, hs2, hs3⟩, hb4⟩; have hbw4 := below_call hbw hbw.size hb4; obtain rfl := line_one hs1 hs2 hs3 hr1 hr2 hr3; have hrow1 := (ownsRow_keep hown hb3).below hb4; have hrow2 := RowV.of hown4; obtain ⟨p4, c4, rfl⟩ := own_len hown4; clear hown hown4 hs1 hs2 hs3 hr1 hr2 hr3)
    | (go_at_call 10; (with_reducible refine (HEQ.out _ _ _ _ hrow1 hrow2).mono ?_); rintro e w5 ⟨rfl, hb5⟩; have hbz := below_call hbw4 hbw4.size hb5))
  go_ret
  exact ⟨rfl, hbz⟩

set_option maxHeartbeats 8000000 in
set_option maxRecDepth 100000 in
theorem shares_good_ok (v vr : Value) (l : List Sh) (lr : List Int) (most : Int) (w : World) (hv : ShV w v l) (hvr : IntV w vr lr) (he : shErr l most = 0) (hlr : lr.length ≤ 1000) (hrb : ratesB lr = true) : Calls Try.prog 3 #[v, .int .i64 most, vr] w fun e w' => e = .returned (.bool true) ∧ Below w.heap.size w w' := by
  have ha : amtsErr 1000000000 l = 0 := by
    unfold shErr at he
    split at he
    · assumption
    · rename_i h; exact absurd he h
  have hmo : 0 ≤ most := by
    unfold shErr at he
    rw [if_pos ha] at he
    split at he
    · rename_i h; unfold wi at h; exact (of_decide_eq_true h).1
    · cases he
  have hgd := amts_ok ha
  have HS := Lib.hid (Shares_good v l most w hv he)
  have HSO := Lib.hid (fun (W : World) (hW : Below w.heap.size w W) => sharesOf_any v l most W (hv.below hW) hgd hmo)
  clear ha hmo hgd
  have HT := Lib.hid (fun (W : World) (hW : Below w.heap.size w W) => Stands_any vr lr W (hvr.below hW))
  have hse : stnErr lr = 0 := by unfold stnErr; rw [if_neg (by omega), if_pos hrb]
  have HSF := Lib.hid (fun (W : World) (hW : Below w.heap.size w W) => StandsFor_any vr lr W (hvr.below hW) hse)
  rw [hse] at HT
  generalize stnR lr = sr at *
  clear hse
  have HR := Lib.hid (fun (W : World) (hW : Below w.heap.size w W) => sharesError_any v l most W (hv.below hW))
  rw [he] at HR
  clear he
  obtain ⟨p, cap, rfl, -⟩ := hv
  obtain ⟨pr, cr, rfl, g1, g2, g4⟩ := hvr
  obtain ⟨n, hn⟩ : ∃ n, n = lr.length := ⟨_, rfl⟩
  have HN := Lib.hid hn
  have HEQ := Lib.hid (fun v1 v2 r W h1 h2 => equal_rows v1 v2 r l W h1 h2)
  generalize l.length = m at *
  have HRB := Lib.hid hrb
  clear hrb
  rw [← hn] at g1 HT HSF hlr ⊢
  clear hn
  go_enter Try.func3, Try.ntmps3
  go_wp2_with (first
    | (go_at_call 7; (with_reducible refine HS.out.mono ?_); rintro e w1 ⟨⟨v', r, rfl, hown, hr1, hr2, hr3⟩, hb1⟩; obtain ⟨pp, cc, rfl⟩ := own_len hown)
    | (go_at_call 8; (with_reducible refine (HT.out _ hb1).mono ?_); rintro e w2 ⟨rfl, rfl⟩)
    | (go_at_call 9; (with_reducible refine (HR.out _ hb1).mono ?_); rintro e w3 ⟨rfl, hb3⟩; have hbw := below_call hb1 hb1.size hb3)
    | (go_at_call 11; (with_reducible refine (HSO.out _ hbw).mono ?_); rintro e w4 ⟨⟨v4, r4, rfl, hown4, hs1, hs2, hs3⟩, hb4⟩; have hbw4 := below_call hbw hbw.size hb4; obtain rfl := line_one hs1 hs2 hs3 hr1 hr2 hr3; have hrow1 := (ownsRow_keep hown hb3).below hb4; have hrow2 := RowV.of hown4; obtain ⟨p4, c4, rfl⟩ := own_len hown4; clear hown hown4 hs1 hs2 hs3 hr1 hr2 hr3)
    | (go_at_call 10; (with_reducible refine (HEQ.out _ _ _ _ hrow1 hrow2).mono ?_); rintro e w5 ⟨rfl, hb5⟩; have hbz := below_call hbw4 hbw4.size hb5))
  go_loopw [63] (fun v63 wr => ∃ k : Nat, k ≤ n ∧ v63 = .int .i64 k ∧ Hid (ratesB (lr.take k) = true) ∧ Below w.heap.size w wr) (fun v63 _ => n - (RowKit.intOf v63).toNat)
  case atStart => exact ⟨0, Nat.zero_le _, rfl, Lib.hid rfl, hbz⟩
  case round =>
    obtain ⟨k, hk, rfl, HS2, hbr⟩ := hrel
    by_cases hlt : k < n
    · have hkl : k < lr.length := by have := HN.out; omega
      rcases g4 with g4 | ⟨b, off, rfl, hb, hat⟩
      · rw [g4] at hkl; simp at hkl
      have c0 := (hat.below hb hbr) k hkl
      have HTK := Lib.hid (rates_take lr k hkl)
      have HIN := Lib.hid (List.getElem_mem hkl)
      have hrin := rate_in HRB.out HIN.out
      generalize lr[k] = x at *
      obtain ⟨hx1, hx2⟩ := hrin
      have HNX := Lib.hid (show ratesB (lr.take (k + 1)) = true by rw [HTK.out, HS2.out]; unfold wi; simp; omega)
      clear hat hkl
      have hx1' : ¬ x < 1 := by omega
      have hx2' : ¬ 1000000 < x := by omega
      go_wp2_with fail
      exact ⟨⟨k + 1, by omega, by go_num, HNX, hbr⟩, by simp [RowKit.intOf]; omega⟩
    · go_wp2_with (go_at_call 12; (with_reducible refine (HSF.out _ hbr).mono ?_); rintro e w8 ⟨rfl, rfl⟩)
      go_ret
      exact ⟨rfl, hbr⟩

set_option maxHeartbeats 8000000 in
set_option maxRecDepth 100000 in
theorem shares_good_wrong (v vr : Value) (l : List Sh) (lr : List Int) (most : Int) (w : World) (hv : ShV w v l) (hvr : IntV w vr lr) (he : shErr l most = 0) (hlr : lr.length ≤ 1000) (hrb : ratesB lr = false) : Calls Try.prog 3 #[v, .int .i64 most, vr] w fun e w' => e = .returned (.bool true) ∧ Below w.heap.size w w' := by
  have ha : amtsErr 1000000000 l = 0 := by
    unfold shErr at he
    split at he
    · assumption
    · rename_i h; exact absurd he h
  have hmo : 0 ≤ most := by
    unfold shErr at he
    rw [if_pos ha] at he
    split at he
    · rename_i h; unfold wi at h; exact (of_decide_eq_true h).1
    · cases he
  have hgd := amts_ok ha
  have HS := Lib.hid (Shares_good v l most w hv he)
  have HSO := Lib.hid (fun (W : World) (hW : Below w.heap.size w W) => sharesOf_any v l most W (hv.below hW) hgd hmo)
  clear ha hmo hgd
  have HT := Lib.hid (fun (W : World) (hW : Below w.heap.size w W) => Stands_any vr lr W (hvr.below hW))
  have hse : stnErr lr = 2 := by unfold stnErr; rw [if_neg (by omega), if_neg (by rw [hrb]; decide)]
  have hsr : stnR lr = 0 := by unfold stnR; rw [if_neg (by omega)]
  rw [hse, hsr] at HT
  clear hse hsr
  have HR := Lib.hid (fun (W : World) (hW : Below w.heap.size w W) => sharesError_any v l most W (hv.below hW))
  rw [he] at HR
  clear he
  obtain ⟨p, cap, rfl, -⟩ := hv
  obtain ⟨pr, cr, rfl, g1, g2, g4⟩ := hvr
  obtain ⟨n, hn⟩ : ∃ n, n = lr.length := ⟨_, rfl⟩
  have HN := Lib.hid hn
  have HEQ := Lib.hid (fun v1 v2 r W h1 h2 => equal_rows v1 v2 r l W h1 h2)
  generalize l.length = m at *
  have HRB := Lib.hid hrb
  clear hrb
  rw [← hn] at g1 HT hlr ⊢
  clear hn
  go_enter Try.func3, Try.ntmps3
  go_wp2_with (first
    | (go_at_call 7; (with_reducible refine HS.out.mono ?_); rintro e w1 ⟨⟨v', r, rfl, hown, hr1, hr2, hr3⟩, hb1⟩; obtain ⟨pp, cc, rfl⟩ := own_len hown)
    | (go_at_call 8; (with_reducible refine (HT.out _ hb1).mono ?_); rintro e w2 ⟨rfl, rfl⟩)
    | (go_at_call 9; (with_reducible refine (HR.out _ hb1).mono ?_); rintro e w3 ⟨rfl, hb3⟩; have hbw := below_call hb1 hb1.size hb3)
    | (go_at_call 11; (with_reducible refine (HSO.out _ hbw).mono ?_); rintro e w4 ⟨⟨v4, r4, rfl, hown4, hs1, hs2, hs3⟩, hb4⟩; have hbw4 := below_call hbw hbw.size hb4; obtain rfl := line_one hs1 hs2 hs3 hr1 hr2 hr3; have hrow1 := (ownsRow_keep hown hb3).below hb4; have hrow2 := RowV.of hown4; obtain ⟨p4, c4, rfl⟩ := own_len hown4; clear hown hown4 hs1 hs2 hs3 hr1 hr2 hr3)
    | (go_at_call 10; (with_reducible refine (HEQ.out _ _ _ _ hrow1 hrow2).mono ?_); rintro e w5 ⟨rfl, hb5⟩; have hbz := below_call hbw4 hbw4.size hb5))
  go_loopw [63] (fun v63 wr => ∃ k : Nat, k ≤ n ∧ v63 = .int .i64 k ∧ Hid (ratesB (lr.take k) = true) ∧ Below w.heap.size w wr) (fun v63 _ => n - (RowKit.intOf v63).toNat)
  case atStart => exact ⟨0, Nat.zero_le _, rfl, Lib.hid rfl, hbz⟩
  case round =>
    obtain ⟨k, hk, rfl, HS2, hbr⟩ := hrel
    by_cases hlt : k < n
    · have hkl : k < lr.length := by have := HN.out; omega
      rcases g4 with g4 | ⟨b, off, rfl, hb, hat⟩
      · rw [g4] at hkl; simp at hkl
      have c0 := (hat.below hb hbr) k hkl
      have HTK := Lib.hid (rates_take lr k hkl)
      have HIN := Lib.hid (List.getElem_mem hkl)
      generalize lr[k] = x at *
      clear hat hkl
      by_cases hx1 : x < 1
      · go_wp2_with fail
        go_ret
        exact ⟨rfl, hbr⟩
      by_cases hx2 : 1000000 < x
      · go_wp2_with fail
        go_ret
        exact ⟨rfl, hbr⟩
      have HNX := Lib.hid (show ratesB (lr.take (k + 1)) = true by rw [HTK.out, HS2.out]; unfold wi; simp; omega)
      go_wp2_with fail
      exact ⟨⟨k + 1, by omega, by go_num, HNX, hbr⟩, by simp [RowKit.intOf]; omega⟩
    · have := HS2.out
      rw [List.take_of_length_le (by have := HN.out; omega), HRB.out] at this
      cases this

theorem shares_law (v vr : Value) (l : List Sh) (lr : List Int) (most : Int) (w : World) (hv : ShV w v l) (hvr : IntV w vr lr) : Calls Try.prog 3 #[v, .int .i64 most, vr] w fun e w' => e = .returned (.bool true) ∧ Below w.heap.size w w' := by
  by_cases he : shErr l most = 0 <;> by_cases hlr : 1000 < lr.length
  · exact shares_good_many v vr l lr most w hv hvr he hlr
  · cases hrb : ratesB lr
    · exact shares_good_wrong v vr l lr most w hv hvr he (by omega) hrb
    · exact shares_good_ok v vr l lr most w hv hvr he (by omega) hrb
  · exact shares_bad_many v vr l lr most w hv hvr he hlr
  · cases hrb : ratesB lr
    · exact shares_bad_wrong v vr l lr most w hv hvr he (by omega) hrb
    · exact shares_bad_ok v vr l lr most w hv hvr he (by omega) hrb
end Go.Proofs.Ytdkpghfielfojaa

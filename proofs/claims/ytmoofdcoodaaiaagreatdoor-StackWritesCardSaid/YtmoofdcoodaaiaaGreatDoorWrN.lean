/- What the reference's leaves answer: names and numbers. -/
import Derived.Test.YtmoofdcoodaaiaaGreatDoorWrP
namespace Go.Proofs.YtmoofdcoodaaiaaGreatDoor
open Go.RowKit Go.Lib

theorem app_bs (a b : List UInt8) : bs a ++ bs b = bs (a ++ b) := data_inj (by rw [app_data, bs_data, bs_data, bs_data])
def digL : ByteArray := ⟨#[48, 49, 50, 51, 52, 53, 54, 55, 56, 57, 97, 98, 99, 100, 101, 102]⟩
theorem digL_at10 (d : Nat) (h : d < 10) : digL.extract d (d + 1) = bs [UInt8.ofNat (48 + d)] := by
  obtain rfl | rfl | rfl | rfl | rfl | rfl | rfl | rfl | rfl | rfl : d = 0 ∨ d = 1 ∨ d = 2 ∨ d = 3 ∨ d = 4 ∨ d = 5 ∨ d = 6 ∨ d = 7 ∨ d = 8 ∨ d = 9 := by omega
  all_goals decide
theorem digL_at16 (k : Nat) (h : k < 16) : digL.extract k (k + 1) = bs [dig k] := by
  have : ∀ k : Fin 16, digL.extract k.val (k.val + 1) = bs [dig k.val] := by decide
  exact this ⟨k, h⟩
theorem dec_small {u : Nat} (h : u < 10) : Lib.decDigits u = [UInt8.ofNat (48 + u)] := by rw [Lib.decDigits, dif_pos h]
theorem dec_step {u : Nat} (h : ¬ u < 10) : Lib.decDigits u = Lib.decDigits (u / 10) ++ [UInt8.ofNat (48 + u % 10)] := by rw [Lib.decDigits, dif_neg h]
theorem hex_small {u : Nat} (h : u < 16) : hexL u = [dig u] := hexL_low h
theorem hex_step {u : Nat} (h : ¬ u < 16) : hexL u = hexL (u / 16) ++ [dig (u % 16)] := hexL_high h

set_option maxHeartbeats 4000000 in
set_option maxRecDepth 100000 in
theorem inBase10_any (n : Nat) (w : World) (hn : n ≤ 10000000) :
    Calls Tryz.prog 42 #[.int .i64 n, .int .i64 10] w fun e w' => e = .returned (.string (bs (Lib.decDigits n))) ∧ Below w.heap.size w w' := by
  go_enter Tryz.func42, Tryz.ntmps42
  go_wp2_with fail
  go_loopw [0, 5] (fun v0 v5 wr => ∃ (r : Nat) (suf : List UInt8), v0 = .int .i64 r ∧ v5 = .string (bs suf) ∧ r ≤ n ∧ suf.length + r ≤ n ∧ Lib.decDigits n = Lib.decDigits r ++ suf ∧ Below w.heap.size w wr) (fun v _ _ => (RowKit.intOf v).toNat)
  case atStart => exact ⟨n, [], rfl, rfl, Nat.le_refl _, by simp, by simp, Below.refl _ _⟩
  case round =>
    obtain ⟨r, suf, rfl, rfl, hr, hsl, heq, hbw⟩ := hrel
    have HEQ := Lib.hid heq
    clear heq
    have ht : Int.tmod (r : Int) 10 = ((r % 10 : Nat) : Int) := by rw [Int.tmod_eq_emod_of_nonneg (by omega)]; omega
    have hq : Int.tdiv (r : Int) 10 = ((r / 10 : Nat) : Int) := by rw [Int.tdiv_eq_ediv_of_nonneg (by omega)]; omega
    have HX := Lib.hid (digL_at10 (r % 10) (Nat.mod_lt _ (by omega)))
    have hd : r % 10 < 10 := Nat.mod_lt _ (by omega)
    have HS := Lib.hid (fun h => dec_small (u := r) h)
    have HL := Lib.hid (fun h => dec_step (u := r) h)
    have hr2 : r / 10 ≤ r := Nat.div_le_self _ _
    have hr3 : 10 ≤ r → r / 10 < r := fun h => Nat.div_lt_self (by omega) (by omega)
    have hrd : r = 10 * (r / 10) + r % 10 := by omega
    have hw0 : IntKind.i64.wrap ((r % 10 : Nat) : Int) = ((r % 10 : Nat) : Int) := IntWalk.i64_in _ (by omega)
    have hw1 : IntKind.i64.wrap (((r % 10 : Nat) : Int) + 1) = ((r % 10 : Nat) : Int) + 1 := IntWalk.i64_in _ (by omega)
    generalize r % 10 = d at *
    generalize r / 10 = q at *
    have HRD := Lib.hid hrd
    clear hrd
    have hd1 : (d : Int) < 10 := by omega
    have hz : (bs suf).size = suf.length := bs_size suf
    have HZ := Lib.hid hz
    have hzl : (bs suf).size ≤ 10000000 := by omega
    clear hz
    have HAP := Lib.hid (show digL.extract d (d + 1) ++ bs suf = bs (UInt8.ofNat (48 + d) :: suf) by rw [HX.out, app_bs]; rfl)
    have hqz : ((q : Int) == 0) = decide (q = 0) := by rw [Bool.eq_iff_iff]; simp
    have HV := Lib.hid (show (q = 0 → Lib.decDigits n = UInt8.ofNat (48 + d) :: suf) ∧ (q ≠ 0 → Lib.decDigits n = Lib.decDigits q ++ UInt8.ofNat (48 + d) :: suf) from
      ⟨fun h => by rw [HEQ.out, HS.out (by have := HRD.out; omega), show r = d by have := HRD.out; omega]; rfl, fun h => by rw [HEQ.out, HL.out (by have := HRD.out; omega), List.append_assoc]; rfl⟩)
    have hqr : q ≠ 0 → q < r := fun h => hr3 (by have := HRD.out; omega)
    have hqb : q ≤ 10000000 := by omega
    clear hr3 hr2 hd1 hw0 hw1 HX HS HL HEQ
    have HQR := Lib.hid hqr
    clear hqr
    obtain rfl | rfl | rfl | rfl | rfl | rfl | rfl | rfl | rfl | rfl : d = 0 ∨ d = 1 ∨ d = 2 ∨ d = 3 ∨ d = 4 ∨ d = 5 ∨ d = 6 ∨ d = 7 ∨ d = 8 ∨ d = 9 := by omega
    all_goals
      cases h0 : decide (q = 0)
      · rw [h0] at hqz
        have H0 := Lib.hid h0
        clear h0
        go_wp2_with fail
        go_quiet (fail)
        go_wp2_with fail
        have e0 : q ≠ 0 := by have e0 := H0.out; simpa using e0
        refine ⟨⟨q, _ :: suf, rfl, congrArg Value.string HAP.out, by have := HQR.out e0; omega, ?_, HV.out.2 e0, below_drewN hbw _⟩, ?_⟩
        · have := HQR.out e0; simp only [List.length_cons]; omega
        · have := HQR.out e0; simp [RowKit.intOf]; omega
      · rw [h0] at hqz
        have H0 := Lib.hid h0
        clear h0
        go_wp2_with fail
        go_quiet (fail)
        go_wp2_with fail
        have e0 : q = 0 := by have e0 := H0.out; simpa using e0
        go_ret
        exact ⟨congrArg (fun x => Ending.returned (Value.string x)) (HAP.out.trans (by rw [HV.out.1 e0])), below_drewN hbw _⟩

set_option maxHeartbeats 4000000 in
set_option maxRecDepth 100000 in
theorem inBase16_any (n : Nat) (w : World) (hn : n ≤ 281474976710656) :
    Calls Tryz.prog 42 #[.int .i64 n, .int .i64 16] w fun e w' => e = .returned (.string (bs (hexL n))) ∧ Below w.heap.size w w' := by
  go_enter Tryz.func42, Tryz.ntmps42
  go_wp2_with fail
  go_loopw [0, 5] (fun v0 v5 wr => ∃ (r : Nat) (suf : List UInt8), v0 = .int .i64 r ∧ v5 = .string (bs suf) ∧ r ≤ n ∧ suf.length + r ≤ n ∧ hexL n = hexL r ++ suf ∧ Below w.heap.size w wr) (fun v _ _ => (RowKit.intOf v).toNat)
  case atStart => exact ⟨n, [], rfl, rfl, Nat.le_refl _, by simp, by simp, Below.refl _ _⟩
  case round =>
    obtain ⟨r, suf, rfl, rfl, hr, hsl, heq, hbw⟩ := hrel
    have HEQ := Lib.hid heq
    clear heq
    have ht : Int.tmod (r : Int) 16 = ((r % 16 : Nat) : Int) := by rw [Int.tmod_eq_emod_of_nonneg (by omega)]; omega
    have hq : Int.tdiv (r : Int) 16 = ((r / 16 : Nat) : Int) := by rw [Int.tdiv_eq_ediv_of_nonneg (by omega)]; omega
    have HX := Lib.hid (digL_at16 (r % 16) (Nat.mod_lt _ (by omega)))
    have hd : r % 16 < 16 := Nat.mod_lt _ (by omega)
    have HS := Lib.hid (fun h => hex_small (u := r) h)
    have HL := Lib.hid (fun h => hex_step (u := r) h)
    have hr2 : r / 16 ≤ r := Nat.div_le_self _ _
    have hr3 : 16 ≤ r → r / 16 < r := fun h => Nat.div_lt_self (by omega) (by omega)
    have hrd : r = 16 * (r / 16) + r % 16 := by omega
    have hw0 : IntKind.i64.wrap ((r % 16 : Nat) : Int) = ((r % 16 : Nat) : Int) := IntWalk.i64_in _ (by omega)
    have hw1 : IntKind.i64.wrap (((r % 16 : Nat) : Int) + 1) = ((r % 16 : Nat) : Int) + 1 := IntWalk.i64_in _ (by omega)
    generalize r % 16 = d at *
    generalize r / 16 = q at *
    have HRD := Lib.hid hrd
    clear hrd
    have hd1 : (d : Int) < 16 := by omega
    have hz : (bs suf).size = suf.length := bs_size suf
    have HZ := Lib.hid hz
    have hzl : (bs suf).size ≤ 281474976710656 := by omega
    clear hz
    have HAP := Lib.hid (show digL.extract d (d + 1) ++ bs suf = bs (dig d :: suf) by rw [HX.out, app_bs]; rfl)
    have hqz : ((q : Int) == 0) = decide (q = 0) := by rw [Bool.eq_iff_iff]; simp
    have HV := Lib.hid (show (q = 0 → hexL n = dig d :: suf) ∧ (q ≠ 0 → hexL n = hexL q ++ dig d :: suf) from
      ⟨fun h => by rw [HEQ.out, HS.out (by have := HRD.out; omega), show r = d by have := HRD.out; omega]; rfl, fun h => by rw [HEQ.out, HL.out (by have := HRD.out; omega), List.append_assoc]; rfl⟩)
    have hqr : q ≠ 0 → q < r := fun h => hr3 (by have := HRD.out; omega)
    have hqb : q ≤ 281474976710656 := by omega
    clear hr3 hr2 hd1 hw0 hw1 HX HS HL HEQ
    have HQR := Lib.hid hqr
    clear hqr
    obtain rfl | rfl | rfl | rfl | rfl | rfl | rfl | rfl | rfl | rfl | rfl | rfl | rfl | rfl | rfl | rfl : d = 0 ∨ d = 1 ∨ d = 2 ∨ d = 3 ∨ d = 4 ∨ d = 5 ∨ d = 6 ∨ d = 7 ∨ d = 8 ∨ d = 9 ∨ d = 10 ∨ d = 11 ∨ d = 12 ∨ d = 13 ∨ d = 14 ∨ d = 15 := by omega
    all_goals
      cases h0 : decide (q = 0)
      · rw [h0] at hqz
        have H0 := Lib.hid h0
        clear h0
        go_wp2_with fail
        go_quiet (fail)
        go_wp2_with fail
        have e0 : q ≠ 0 := by have e0 := H0.out; simpa using e0
        refine ⟨⟨q, _ :: suf, rfl, congrArg Value.string HAP.out, by have := HQR.out e0; omega, ?_, HV.out.2 e0, below_drewN hbw _⟩, ?_⟩
        · have := HQR.out e0; simp only [List.length_cons]; omega
        · have := HQR.out e0; simp [RowKit.intOf]; omega
      · rw [h0] at hqz
        have H0 := Lib.hid h0
        clear h0
        go_wp2_with fail
        go_quiet (fail)
        go_wp2_with fail
        have e0 : q = 0 := by have e0 := H0.out; simpa using e0
        go_ret
        exact ⟨congrArg (fun x => Ending.returned (Value.string x)) (HAP.out.trans (by rw [HV.out.1 e0])), below_drewN hbw _⟩

set_option maxHeartbeats 1000000 in
theorem told_any (n : Int) (w : World) (h0 : 0 ≤ n) (h1 : n ≤ 9999999) :
    Calls Tryz.prog 23 #[.int .i64 n] w fun e w' => e = .returned (.string (bs (Lib.itoa n))) ∧ Below w.heap.size w w' := by
  have HB := Lib.hid (inBase10_any n.toNat w (by omega))
  rw [show ((n.toNat : Nat) : Int) = n by omega] at HB
  rw [show Lib.decDigits n.toNat = Lib.itoa n by unfold Lib.itoa; rw [if_neg (by omega)]] at HB
  go_enter Tryz.func23, Tryz.ntmps23
  go_wp2_with (go_at_call 42; refine HB.out.mono ?_; rintro e w1 ⟨rfl, hb1⟩)
  go_ret
  exact ⟨rfl, hb1⟩

set_option maxHeartbeats 1000000 in
set_option maxRecDepth 100000 in
theorem headR_any (k t : ByteArray) (fv : Value) (w : World) (hk : k.size ≤ 200) (ht : t.size ≤ 2000) (hfv : ∃ p n c, fv = .slice p n c) :
    Calls Tryz.prog 20 #[.agg #[.string k, .string t, fv]] w fun e w' => e = .returned (.string (headB k t)) ∧ Below w.heap.size w w' := by
  obtain ⟨p, n, c, rfl⟩ := hfv
  have hz1 : (⟨#[58]⟩ : ByteArray).size = 1 := rfl
  have hz2 : (⟨#[58, 32]⟩ : ByteArray).size = 2 := rfl
  unfold headB
  by_cases h : t.size = 0
  · rw [if_pos h]
    have := nil_eq t h
    subst this
    clear h
    go_enter Tryz.func20, Tryz.ntmps20
    go_wp2_with fail
    go_ret
    exact ⟨rfl, (Below.refl _ _).alloc (Nat.le_refl _) _⟩
  · rw [if_neg h]
    have h1 := isE h
    go_enter Tryz.func20, Tryz.ntmps20
    go_wp2_with fail
    go_ret
    exact ⟨rfl, (Below.refl _ _).alloc (Nat.le_refl _) _⟩

set_option maxHeartbeats 1000000 in
set_option maxRecDepth 100000 in
theorem nameOf_any (x : Fr) (w : World) (hx : FrOk x) :
    Calls Tryz.prog 24 #[.agg #[.string x.m, .string x.f, .string x.i, .int .i64 x.line, .int .i64 x.addr, .bool x.own]] w fun e w' => e = .returned (.string (callB x)) ∧ Below w.heap.size w w' := by
  obtain ⟨m, f, i, ln, ad, ow⟩ := x
  obtain ⟨h1, h2, h3, -⟩ := hx
  simp only at h1 h2 h3
  have hz1 : (⟨#[33]⟩ : ByteArray).size = 1 := rfl
  unfold callB
  simp only
  by_cases h : m.size = 0
  · rw [if_pos h]
    have := nil_eq m h
    subst this
    clear h h1
    go_enter Tryz.func24, Tryz.ntmps24
    go_wp2_with fail
    go_ret
    exact ⟨rfl, (Below.refl _ _).alloc (Nat.le_refl _) _⟩
  · rw [if_neg h]
    have h1 := isE h
    go_enter Tryz.func24, Tryz.ntmps24
    go_wp2_with fail
    go_ret
    exact ⟨rfl, (Below.refl _ _).alloc (Nat.le_refl _) _⟩
end Go.Proofs.YtmoofdcoodaaiaaGreatDoor

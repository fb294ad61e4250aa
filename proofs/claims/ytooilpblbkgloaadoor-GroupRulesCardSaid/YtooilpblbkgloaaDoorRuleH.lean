/- What the reference's writers of words answer. -/
import Derived.Test.YtooilpblbkgloaaDoorRuleG
import Derived.Test.YtooilpblbkgloaaDoorFitsR
import Derived.Test.YtooilpblbkgloaaDoorLawGlobs
namespace Go.Proofs.YtooilpblbkgloaaDoor
open Go.RowKit Go.Lib Go.Deep

def pq (c : UInt8) : Bool := c == 34 || c == 92
theorem escOf_snoc (p : UInt8 → Bool) (l : List UInt8) (c : UInt8) : escOf p (l ++ [c]) = escOf p l ++ (if p c then [92, c] else [c]) := by unfold escOf; simp
theorem ext_one {s : ByteArray} {k : Nat} (h : k < s.data.toList.length) : (s.extract k (k + 1)).data.toList = [s.data.toList[k]] := by
  rw [Lib.extract_data, show k + 1 - k = 1 by omega, List.drop_eq_getElem_cons h]; rfl

set_option maxHeartbeats 2000000 in
set_option maxRecDepth 100000 in
theorem quoted_any (s : ByteArray) (w : World) (hs : s.size ≤ 1000) :
    Calls Tryd.prog 48 #[.string s] w fun e w' => e = .returned (.string (bs (qt s))) ∧ w' = w := by
  have hl := Lib.hid (Lib.size_eq s)
  go_enter Tryd.func48, Tryd.ntmps48
  go_wp2_with fail
  go_loop [3, 7] (fun v3 v => ∃ (o : ByteArray) (k : Nat), v3 = .string o ∧ v = .int .i64 k ∧ k ≤ s.size ∧ o.size ≤ 1 + 2 * k ∧ o.data.toList = 34 :: escOf pq (s.data.toList.take k)) (fun _ v => s.size - (RowKit.intOf v).toNat)
  case atStart => exact ⟨⟨#[34]⟩, 0, rfl, rfl, Nat.zero_le _, by decide, rfl⟩
  case round =>
    obtain ⟨o, k, rfl, rfl, hk, ho, heq⟩ := hrel
    have HEQ := Lib.hid heq
    clear heq
    by_cases hlt : k < s.size
    · have hkl : k < s.data.toList.length := by rw [← hl.out]; exact hlt
      have HT := Lib.hid (show escOf pq (s.data.toList.take (k + 1)) = escOf pq (s.data.toList.take k) ++ (if pq s.data.toList[k] then [92, s.data.toList[k]] else [s.data.toList[k]]) by
        rw [List.take_succ_eq_append_getElem hkl, escOf_snoc])
      have HX := Lib.hid (ext_one hkl)
      have hxz : (s.extract k (k + 1)).size = 1 := by rw [Lib.size_eq, HX.out]; rfl
      have HXZ := Lib.hid hxz
      have hxz2 : (s.extract k (k + 1)).size ≤ 1 := by omega
      clear hxz
      have hz1 : (⟨#[92]⟩ : ByteArray).size = 1 := rfl
      have hq1 := u8_dec s[k] 34
      have hq2 := u8_dec s[k] 92
      have HP := Lib.hid (show pq s.data.toList[k] = (decide (s[k] = 34) || decide (s[k] = 92)) by
        show pq s[k] = _
        unfold pq; rw [Bool.eq_iff_iff]; simp)
      have hkz : (k : Int) + 1 ≤ (s.size : Int) := by omega
      have hkz2 : (k : Int) ≤ (k : Int) + 1 := by omega
      have hq1 : ((s[k].toNat : Int) == 34) = decide (s[k] = 34) := hq1
      have hq2 : ((s[k].toNat : Int) == 92) = decide (s[k] = 92) := hq2
      cases h1 : decide (s[k] = 34)
      all_goals
        rw [h1] at hq1 HP
        clear h1
        cases h2 : decide (s[k] = 92)
        all_goals
          rw [h2] at hq2 HP
          clear h2
          go_wp2_with fail
          all_goals first
            | (exfalso; (try simp only [ByteArray.size_extract] at *); omega; done)
            | exact ⟨⟨_, k + 1, rfl, rfl, hlt, by simp only [ByteArray.size_append]; have := HXZ.out; omega, by
                have e1 := HP.out
                have e2 := HT.out
                rw [e1] at e2
                simp only [Bool.or_false, Bool.or_true, Bool.false_eq_true, if_true, if_false, Bool.or_self] at e2
                rw [e2]
                simp only [app_data, HX.out, HEQ.out]
                simp⟩, by simp [RowKit.intOf]; omega⟩
    · have HT := Lib.hid (show s.data.toList.take k = s.data.toList by rw [List.take_of_length_le (by rw [← hl.out]; omega)])
      have hz1 : (⟨#[34]⟩ : ByteArray).size = 1 := rfl
      have HF := Lib.hid (show o ++ ⟨#[34]⟩ = bs (qt s) by
        rw [← Lib.mk_data (o ++ ⟨#[34]⟩)]
        show bs _ = _
        rw [app_data, HEQ.out, HT.out]; rfl)
      go_wp2_with fail
      all_goals first
        | (exfalso; omega; done)
        | (go_ret; exact ⟨congrArg (fun x => Ending.returned (Value.string x)) HF.out, rfl⟩)

set_option maxHeartbeats 2000000 in
set_option maxRecDepth 100000 in
theorem matchWord_any (on : Int) (w : World) (h1 : 1 ≤ on) (h2 : on ≤ 6) :
    Calls Tryd.prog 47 #[.int .i64 on] w fun e w' => e = .returned (.string (bs (mWord on))) ∧ Below w.heap.size w w' := by
  obtain rfl | rfl | rfl | rfl | rfl | rfl : on = 1 ∨ on = 2 ∨ on = 3 ∨ on = 4 ∨ on = 5 ∨ on = 6 := by omega
  all_goals
    go_enter Tryd.func47, Tryd.ntmps47
    go_wp2_with fail
    go_ret
    exact ⟨rfl, (Below.refl _ _).alloc (Nat.le_refl _) _⟩
set_option maxHeartbeats 2000000 in
set_option maxRecDepth 100000 in
theorem actWord_any (on : Int) (w : World) (h1 : 1 ≤ on) (h2 : on ≤ 6) :
    Calls Tryd.prog 49 #[.int .i64 on] w fun e w' => e = .returned (.string (bs (aWord on))) ∧ Below w.heap.size w w' := by
  obtain rfl | rfl | rfl | rfl | rfl | rfl : on = 1 ∨ on = 2 ∨ on = 3 ∨ on = 4 ∨ on = 5 ∨ on = 6 := by omega
  all_goals
    go_enter Tryd.func49, Tryd.ntmps49
    go_wp2_with fail
    go_ret
    exact ⟨rfl, (Below.refl _ _).alloc (Nat.le_refl _) _⟩

def digL : ByteArray := ⟨#[48, 49, 50, 51, 52, 53, 54, 55, 56, 57, 97, 98, 99, 100, 101, 102]⟩
theorem digL_at (d : Nat) (h : d < 10) : digL.extract d (d + 1) = bs [UInt8.ofNat (48 + d)] := by
  obtain rfl | rfl | rfl | rfl | rfl | rfl | rfl | rfl | rfl | rfl : d = 0 ∨ d = 1 ∨ d = 2 ∨ d = 3 ∨ d = 4 ∨ d = 5 ∨ d = 6 ∨ d = 7 ∨ d = 8 ∨ d = 9 := by omega
  all_goals decide
theorem dec_small {u : Nat} (h : u < 10) : Lib.decDigits u = [UInt8.ofNat (48 + u)] := by rw [Lib.decDigits, dif_pos h]
theorem dec_step {u : Nat} (h : ¬ u < 10) : Lib.decDigits u = Lib.decDigits (u / 10) ++ [UInt8.ofNat (48 + u % 10)] := by rw [Lib.decDigits, dif_neg h]

set_option maxHeartbeats 2000000 in
set_option maxRecDepth 100000 in
theorem inBase_any (n : Nat) (w : World) (hn : n ≤ 100000) :
    Calls Tryd.prog 65 #[.int .i64 n, .int .i64 10] w fun e w' => e = .returned (.string (bs (Lib.decDigits n))) ∧ Below w.heap.size w w' := by
  go_enter Tryd.func65, Tryd.ntmps65
  go_wp2_with fail
  go_loopw [0, 5] (fun v0 v5 wr => ∃ (r : Nat) (suf : List UInt8), v0 = .int .i64 r ∧ v5 = .string (bs suf) ∧ r ≤ n ∧ suf.length + r ≤ n ∧ Lib.decDigits n = Lib.decDigits r ++ suf ∧ Below w.heap.size w wr) (fun v _ _ => (RowKit.intOf v).toNat)
  case atStart => exact ⟨n, [], rfl, rfl, Nat.le_refl _, by simp, by simp, Below.refl _ _⟩
  case round =>
    obtain ⟨r, suf, rfl, rfl, hr, hsl, heq, hbw⟩ := hrel
    have HEQ := Lib.hid heq
    clear heq
    have ht : Int.tmod (r : Int) 10 = ((r % 10 : Nat) : Int) := by rw [Int.tmod_eq_emod_of_nonneg (by omega)]; omega
    have hq : Int.tdiv (r : Int) 10 = ((r / 10 : Nat) : Int) := by rw [Int.tdiv_eq_ediv_of_nonneg (by omega)]; omega
    have HX := Lib.hid (digL_at (r % 10) (Nat.mod_lt _ (by omega)))
    have hd : r % 10 < 10 := Nat.mod_lt _ (by omega)
    have HS := Lib.hid (fun h => dec_small (u := r) h)
    have HL := Lib.hid (fun h => dec_step (u := r) h)
    have hr2 : r / 10 ≤ r := Nat.div_le_self _ _
    have hr3 : 10 ≤ r → r / 10 < r := fun h => Nat.div_lt_self (by omega) (by omega)
    have hrd : r = 10 * (r / 10) + r % 10 := by omega
    have hw0 : IntKind.i64.wrap ((r % 10 : Nat) : Int) = ((r % 10 : Nat) : Int) := IntWalk.i64_in _ (by omega)
    have hw1 : IntKind.i64.wrap (((r % 10 : Nat) : Int) + 1) = ((r % 10 : Nat) : Int) + 1 := IntWalk.i64_in _ (by omega)
    generalize r % 10 = d at *
    generalize r / 10 = q at *
    have HRD := Lib.hid hrd
    clear hrd
    have hd1 : (d : Int) < 10 := by omega
    have hz : (bs suf).size = suf.length := bs_size suf
    have HZ := Lib.hid hz
    have hzl : (bs suf).size ≤ 100000 := by omega
    clear hz
    have HAP := Lib.hid (show digL.extract d (d + 1) ++ bs suf = bs (UInt8.ofNat (48 + d) :: suf) by rw [HX.out, app_bs]; rfl)
    have hqz : ((q : Int) == 0) = decide (q = 0) := by rw [Bool.eq_iff_iff]; simp
    have HV := Lib.hid (show (q = 0 → Lib.decDigits n = UInt8.ofNat (48 + d) :: suf) ∧ (q ≠ 0 → Lib.decDigits n = Lib.decDigits q ++ UInt8.ofNat (48 + d) :: suf) from
      ⟨fun h => by rw [HEQ.out, HS.out (by have := HRD.out; omega), show r = d by have := HRD.out; omega]; rfl, fun h => by rw [HEQ.out, HL.out (by have := HRD.out; omega), List.append_assoc]; rfl⟩)
    have hqr : q ≠ 0 → q < r := fun h => hr3 (by have := HRD.out; omega)
    have hqb : q ≤ 100000 := by omega
    clear hr3 hr2 hd1 hw0 hw1 HX HS HL HEQ
    have HQR := Lib.hid hqr
    clear hqr
    obtain rfl | rfl | rfl | rfl | rfl | rfl | rfl | rfl | rfl | rfl : d = 0 ∨ d = 1 ∨ d = 2 ∨ d = 3 ∨ d = 4 ∨ d = 5 ∨ d = 6 ∨ d = 7 ∨ d = 8 ∨ d = 9 := by omega
    all_goals
      cases h0 : decide (q = 0)
      · rw [h0] at hqz
        have H0 := Lib.hid h0
        clear h0
        go_wp2_with fail
        go_quiet (fail)
        go_wp2_with fail
        have e0 : q ≠ 0 := by have e0 := H0.out; simpa using e0
        refine ⟨⟨q, _ :: suf, rfl, congrArg Value.string HAP.out, by have := HQR.out e0; omega, ?_, HV.out.2 e0, below_drewN hbw _⟩, ?_⟩
        · have := HQR.out e0; simp only [List.length_cons]; omega
        · have := HQR.out e0; simp [RowKit.intOf]; omega
      · rw [h0] at hqz
        have H0 := Lib.hid h0
        clear h0
        go_wp2_with fail
        go_quiet (fail)
        go_wp2_with fail
        have e0 : q = 0 := by have e0 := H0.out; simpa using e0
        go_ret
        exact ⟨congrArg (fun x => Ending.returned (Value.string x)) (HAP.out.trans (by rw [HV.out.1 e0])), below_drewN hbw _⟩
end Go.Proofs.YtooilpblbkgloaaDoor

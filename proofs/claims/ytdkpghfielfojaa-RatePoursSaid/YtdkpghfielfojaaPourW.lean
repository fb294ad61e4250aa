/- The law RatePours, walked. -/
import Derived.Test.YtdkpghfielfojaaPourL
namespace Go.Proofs.Ytdkpghfielfojaa
open Go.RowKit Go.Lib

theorem pourV_agg (S A E h t r n : Int) : ∃ a b c, pourV S A E h t r n = .agg #[.int .i64 a, .int .i64 b, .int .i64 c] := by
  unfold pourV
  split
  · exact ⟨_, _, _, rfl⟩
  · exact ⟨_, _, _, rfl⟩
theorem pourV_ok {S A E h t r n : Int} (he : pourErr S A E h t r n = 0) : pourV S A E h t r n = .agg #[.int .i64 (pourH S A E h t r n), .int .i64 n, .int .i64 (pourR E t r n)] := by
  unfold pourV; rw [if_pos he]
set_option maxHeartbeats 4000000 in
set_option maxRecDepth 100000 in
theorem pours_bad (S A E h t r n m k : Int) (w : World) (he : pourErr S A E h t r n ≠ 0) : Calls Try.prog 5 #[.agg #[.int .i64 S, .int .i64 A, .int .i64 E], .agg #[.int .i64 h, .int .i64 t, .int .i64 r], .int .i64 n, .int .i64 m, .int .i64 k] w fun e w' => e = .returned (.bool true) ∧ Below w.heap.size w w' := by
  have HA := Lib.hid (fun W => awakeRate_any W)
  have HT := Lib.hid (Two.new w S A E h t r)
  have HP := Lib.hid (fun W => Pour_any S A E h t r n W)
  rw [show pourV S A E h t r n = .agg #[.int .i64 0, .int .i64 0, .int .i64 0] by unfold pourV; rw [if_neg he]] at HP
  have hq : ∀ W : World, (binOp .eql 46 (.agg #[.int .i64 0, .int .i64 0, .int .i64 0]) (.agg #[.int .i64 0, .int .i64 0, .int .i64 0])).run Try.prog W = .ok (.bool true) W := fun W => by rw [eqlZ]; rfl
  generalize pourErr S A E h t r n = b at *
  go_enter Try.func5, Try.ntmps5
  go_wp2_with (first
    | (go_at_call 16; (with_reducible refine (HA.out _).mono ?_); rintro e w1 ⟨rfl, hb1⟩; have HT1 := Lib.hid (HT.out.below hb1); obtain ⟨k0, k1, k2, _, _, _⟩ := HT1.out.b; obtain ⟨l0, l1, l2, _, _, _⟩ := HT1.out.l; have hl1 := HT1.out.lt; have hm1 := HT1.out.b.lt)
    | (go_at_call 17; (with_reducible refine (HP.out _).mono ?_); rintro e w2 ⟨rfl, hb2⟩; have HT2 := Lib.hid (HT1.out.below hb2)))
  go_ret
  exact ⟨rfl, (HT2.out.alloc _).bw⟩
set_option maxHeartbeats 4000000 in
set_option maxRecDepth 100000 in
theorem pours_C2T1 (S A E h t r n m k : Int) (w : World) (he : pourErr S A E h t r n = 0) (h1 : pourErr S A E (pourH S A E h t r n) n (pourR E t r n) m ≠ 0) (hw : waitErr S A E h t r k ≠ 0) : Calls Try.prog 5 #[.agg #[.int .i64 S, .int .i64 A, .int .i64 E], .agg #[.int .i64 h, .int .i64 t, .int .i64 r], .int .i64 n, .int .i64 m, .int .i64 k] w fun e w' => e = .returned (.bool true) ∧ Below w.heap.size w w' := by
  have HA := Lib.hid (fun W => awakeRate_any W)
  have HT := Lib.hid (Two.new w S A E h t r)
  have HP1 := Lib.hid (fun W => Pour_any S A E h t r n W)
  rw [pourV_ok he, he] at HP1
  have HP2 := Lib.hid (fun W => Pour_any S A E (pourH S A E h t r n) n (pourR E t r n) m W)
  have HP3 := Lib.hid (fun W => Pour_any S A E h t r m W)
  obtain ⟨z0, z1, z2, hz⟩ := pourV_agg S A E (pourH S A E h t r n) n (pourR E t r n) m
  obtain ⟨u0, u1, u2, hu⟩ := pourV_agg S A E h t r m
  rw [hz] at HP2
  rw [hu] at HP3
  clear hz hu
  have h1b : (pourErr S A E (pourH S A E h t r n) n (pourR E t r n) m == 0) = false := by rw [beq_eq_false_iff_ne]; exact h1
  generalize pourErr S A E (pourH S A E h t r n) n (pourR E t r n) m = f1 at *
  generalize pourErr S A E h t r m = f2 at *
  generalize pourH S A E h t r n = Y0 at *
  generalize pourR E t r n = Y2 at *
  have HW := Lib.hid (fun W => Wait_any S A E h t r k W)
  rw [if_neg hw] at HW
  generalize waitErr S A E h t r k = g at *
  go_enter Try.func5, Try.ntmps5
  go_wp2_with (first
    | (go_at_call 16; (with_reducible refine (HA.out _).mono ?_); rintro e w1 ⟨rfl, hb1⟩; have HT1 := Lib.hid (HT.out.below hb1); obtain ⟨k0, k1, k2, _, _, _⟩ := HT1.out.b; obtain ⟨l0, l1, l2, _, _, _⟩ := HT1.out.l; have hl1 := HT1.out.lt; have hm1 := HT1.out.b.lt)
    | (go_at_call 17; (with_reducible refine (HP1.out _).mono ?_); rintro e w2 ⟨rfl, hb2⟩; have HT2 := Lib.hid (HT1.out.below hb2); have HY2 := Lib.hid (Bx3.new w2 (.int .i64 Y0) (.int .i64 n) (.int .i64 Y2) 46); clear k0 k1 k2 l0 l1 l2; obtain ⟨k0, k1, k2, _, _, _⟩ := HT2.out.b; obtain ⟨l0, l1, l2, _, _, _⟩ := HT2.out.l; have hl2 := HT2.out.lt; have hm2 := HT2.out.b.lt)
    | (go_at_call 17; (with_reducible refine (HP2.out _).mono ?_); rintro e w3 ⟨rfl, hb3⟩; have HT3 := Lib.hid ((HT2.out.alloc (.cells #[.int .i64 Y0, .int .i64 n, .int .i64 Y2] 46)).below hb3); clear k0 k1 k2 l0 l1 l2; obtain ⟨k0, k1, k2, _, _, _⟩ := HT3.out.b; obtain ⟨l0, l1, l2, _, _, _⟩ := HT3.out.l; have hl3 := HT3.out.lt; have hm3 := HT3.out.b.lt)
    | (go_at_call 17; (with_reducible refine (HP3.out _).mono ?_); rintro e w4 ⟨rfl, hb4⟩; have HT4 := Lib.hid ((HT3.out.alloc (.cells #[.int .i64 z0, .int .i64 z1, .int .i64 z2] 46)).below hb4); have HZ4 := Lib.hid ((Bx3.new w3 (.int .i64 z0) (.int .i64 z1) (.int .i64 z2) 46).below hb4); obtain ⟨o0, o1, o2, _, _, _⟩ := HZ4.out; have hlz := HZ4.out.lt; clear k0 k1 k2 l0 l1 l2; obtain ⟨k0, k1, k2, _, _, _⟩ := HT4.out.b; obtain ⟨l0, l1, l2, _, _, _⟩ := HT4.out.l; have hl4 := HT4.out.lt; have hm4 := HT4.out.b.lt)
    | (go_at_call 18; (with_reducible refine (HW.out _).mono ?_); rintro e w5 ⟨rfl, hb5⟩; have HT5 := Lib.hid ((HT4.out.alloc (.cells #[.int .i64 u0, .int .i64 u1, .int .i64 u2] 46)).below hb5); clear o0 o1 o2; clear k0 k1 k2 l0 l1 l2; obtain ⟨k0, k1, k2, _, _, _⟩ := HT5.out.b; obtain ⟨l0, l1, l2, _, _, _⟩ := HT5.out.l; have hl5 := HT5.out.lt; have hm5 := HT5.out.b.lt))
  go_ret
  exact ⟨rfl, HT5.out.bw⟩
set_option maxHeartbeats 4000000 in
set_option maxRecDepth 100000 in
theorem pours_C2T2 (S A E h t r n m k : Int) (w : World) (he : pourErr S A E h t r n = 0) (h1 : pourErr S A E (pourH S A E h t r n) n (pourR E t r n) m ≠ 0) (hw : waitErr S A E h t r k = 0) (hv : waitV A E h r k = 0) : Calls Try.prog 5 #[.agg #[.int .i64 S, .int .i64 A, .int .i64 E], .agg #[.int .i64 h, .int .i64 t, .int .i64 r], .int .i64 n, .int .i64 m, .int .i64 k] w fun e w' => e = .returned (.bool true) ∧ Below w.heap.size w w' := by
  have HA := Lib.hid (fun W => awakeRate_any W)
  have HT := Lib.hid (Two.new w S A E h t r)
  have HP1 := Lib.hid (fun W => Pour_any S A E h t r n W)
  rw [pourV_ok he, he] at HP1
  have HP2 := Lib.hid (fun W => Pour_any S A E (pourH S A E h t r n) n (pourR E t r n) m W)
  have HP3 := Lib.hid (fun W => Pour_any S A E h t r m W)
  obtain ⟨z0, z1, z2, hz⟩ := pourV_agg S A E (pourH S A E h t r n) n (pourR E t r n) m
  obtain ⟨u0, u1, u2, hu⟩ := pourV_agg S A E h t r m
  rw [hz] at HP2
  rw [hu] at HP3
  clear hz hu
  have h1b : (pourErr S A E (pourH S A E h t r n) n (pourR E t r n) m == 0) = false := by rw [beq_eq_false_iff_ne]; exact h1
  generalize pourErr S A E (pourH S A E h t r n) n (pourR E t r n) m = f1 at *
  generalize pourErr S A E h t r m = f2 at *
  generalize pourH S A E h t r n = Y0 at *
  generalize pourR E t r n = Y2 at *
  have HW := Lib.hid (fun W => Wait_any S A E h t r k W)
  have hk := wait_takes hw
  obtain ⟨_, _, ⟨t1, t2⟩, _⟩ := lvl_ok (wait_ok hw).1
  have hw1 : IntKind.i64.wrap t = t := IntWalk.i64_in _ ⟨by omega, by omega⟩
  have hw2 : wrap64 t = t := by unfold wrap64; omega
  have hw3 : IntKind.i64.wrap (t + 0) = t := by rw [Int.add_zero]; exact hw1
  rw [if_pos hw, hw, hv] at HW
  rw [hv, show t + 0 = t by omega] at hk
  have HK1 := Lib.hid (fun W => Take_any S A E h t r t k W)
  rw [hk.1, hk.2] at HK1
  clear hk hw hv t1 t2
  go_enter Try.func5, Try.ntmps5
  go_wp2_with (first
    | (go_at_call 16; (with_reducible refine (HA.out _).mono ?_); rintro e w1 ⟨rfl, hb1⟩; have HT1 := Lib.hid (HT.out.below hb1); obtain ⟨k0, k1, k2, _, _, _⟩ := HT1.out.b; obtain ⟨l0, l1, l2, _, _, _⟩ := HT1.out.l; have hl1 := HT1.out.lt; have hm1 := HT1.out.b.lt)
    | (go_at_call 17; (with_reducible refine (HP1.out _).mono ?_); rintro e w2 ⟨rfl, hb2⟩; have HT2 := Lib.hid (HT1.out.below hb2); have HY2 := Lib.hid (Bx3.new w2 (.int .i64 Y0) (.int .i64 n) (.int .i64 Y2) 46); clear k0 k1 k2 l0 l1 l2; obtain ⟨k0, k1, k2, _, _, _⟩ := HT2.out.b; obtain ⟨l0, l1, l2, _, _, _⟩ := HT2.out.l; have hl2 := HT2.out.lt; have hm2 := HT2.out.b.lt)
    | (go_at_call 17; (with_reducible refine (HP2.out _).mono ?_); rintro e w3 ⟨rfl, hb3⟩; have HT3 := Lib.hid ((HT2.out.alloc (.cells #[.int .i64 Y0, .int .i64 n, .int .i64 Y2] 46)).below hb3); clear k0 k1 k2 l0 l1 l2; obtain ⟨k0, k1, k2, _, _, _⟩ := HT3.out.b; obtain ⟨l0, l1, l2, _, _, _⟩ := HT3.out.l; have hl3 := HT3.out.lt; have hm3 := HT3.out.b.lt)
    | (go_at_call 17; (with_reducible refine (HP3.out _).mono ?_); rintro e w4 ⟨rfl, hb4⟩; have HT4 := Lib.hid ((HT3.out.alloc (.cells #[.int .i64 z0, .int .i64 z1, .int .i64 z2] 46)).below hb4); have HZ4 := Lib.hid ((Bx3.new w3 (.int .i64 z0) (.int .i64 z1) (.int .i64 z2) 46).below hb4); obtain ⟨o0, o1, o2, _, _, _⟩ := HZ4.out; have hlz := HZ4.out.lt; clear k0 k1 k2 l0 l1 l2; obtain ⟨k0, k1, k2, _, _, _⟩ := HT4.out.b; obtain ⟨l0, l1, l2, _, _, _⟩ := HT4.out.l; have hl4 := HT4.out.lt; have hm4 := HT4.out.b.lt)
    | (go_at_call 18; (with_reducible refine (HW.out _).mono ?_); rintro e w5 ⟨rfl, hb5⟩; have HT5 := Lib.hid ((HT4.out.alloc (.cells #[.int .i64 u0, .int .i64 u1, .int .i64 u2] 46)).below hb5); clear o0 o1 o2; clear k0 k1 k2 l0 l1 l2; obtain ⟨k0, k1, k2, _, _, _⟩ := HT5.out.b; obtain ⟨l0, l1, l2, _, _, _⟩ := HT5.out.l; have hl5 := HT5.out.lt; have hm5 := HT5.out.b.lt)
    | (go_at_call 19; (with_reducible refine (HK1.out _).mono ?_); rintro e w6 ⟨⟨a0, a1, a2, rfl⟩, hb6⟩; have HT6 := Lib.hid (HT5.out.below hb6); clear k0 k1 k2 l0 l1 l2; obtain ⟨k0, k1, k2, _, _, _⟩ := HT6.out.b; obtain ⟨l0, l1, l2, _, _, _⟩ := HT6.out.l; have hl6 := HT6.out.lt; have hm6 := HT6.out.b.lt))
  go_ret
  exact ⟨rfl, (HT6.out.alloc _).bw⟩
set_option maxHeartbeats 4000000 in
set_option maxRecDepth 100000 in
theorem pours_C2T3 (S A E h t r n m k : Int) (w : World) (he : pourErr S A E h t r n = 0) (h1 : pourErr S A E (pourH S A E h t r n) n (pourR E t r n) m ≠ 0) (hw : waitErr S A E h t r k = 0) (hv : 0 < waitV A E h r k) : Calls Try.prog 5 #[.agg #[.int .i64 S, .int .i64 A, .int .i64 E], .agg #[.int .i64 h, .int .i64 t, .int .i64 r], .int .i64 n, .int .i64 m, .int .i64 k] w fun e w' => e = .returned (.bool true) ∧ Below w.heap.size w w' := by
  have HA := Lib.hid (fun W => awakeRate_any W)
  have HT := Lib.hid (Two.new w S A E h t r)
  have HP1 := Lib.hid (fun W => Pour_any S A E h t r n W)
  rw [pourV_ok he, he] at HP1
  have HP2 := Lib.hid (fun W => Pour_any S A E (pourH S A E h t r n) n (pourR E t r n) m W)
  have HP3 := Lib.hid (fun W => Pour_any S A E h t r m W)
  obtain ⟨z0, z1, z2, hz⟩ := pourV_agg S A E (pourH S A E h t r n) n (pourR E t r n) m
  obtain ⟨u0, u1, u2, hu⟩ := pourV_agg S A E h t r m
  rw [hz] at HP2
  rw [hu] at HP3
  clear hz hu
  have h1b : (pourErr S A E (pourH S A E h t r n) n (pourR E t r n) m == 0) = false := by rw [beq_eq_false_iff_ne]; exact h1
  generalize pourErr S A E (pourH S A E h t r n) n (pourR E t r n) m = f1 at *
  generalize pourErr S A E h t r m = f2 at *
  generalize pourH S A E h t r n = Y0 at *
  generalize pourR E t r n = Y2 at *
  have HW := Lib.hid (fun W => Wait_any S A E h t r k W)
  obtain ⟨hk1, hk2⟩ := wait_takes hw
  obtain ⟨hj1, hj2⟩ := early_not hw hv
  obtain ⟨v1, v2, v3, v4⟩ := wait_ok hw
  obtain ⟨_, _, ⟨t1, t2⟩, _⟩ := lvl_ok v1
  rw [if_pos hw, hw] at HW
  have HK1 := Lib.hid (fun W => Take_any S A E h t r (t + waitV A E h r k) k W)
  rw [hk1, hk2] at HK1
  have HK2 := Lib.hid (fun W => Take_any S A E h t r (t + waitV A E h r k - 1) k W)
  rw [hj1, hj2] at HK2
  clear hk1 hk2 hj1 hj2 hw v1 v2 v3
  generalize waitV A E h r k = V at *
  have hw1 : IntKind.i64.wrap (t + V) = t + V := IntWalk.i64_in _ ⟨by omega, by omega⟩
  have hw2 : IntKind.i64.wrap (t + V - 1) = t + V - 1 := IntWalk.i64_in _ ⟨by omega, by omega⟩
  clear v4 t1 t2
  go_enter Try.func5, Try.ntmps5
  go_wp2_with (first
    | (go_at_call 16; (with_reducible refine (HA.out _).mono ?_); rintro e w1 ⟨rfl, hb1⟩; have HT1 := Lib.hid (HT.out.below hb1); obtain ⟨k0, k1, k2, _, _, _⟩ := HT1.out.b; obtain ⟨l0, l1, l2, _, _, _⟩ := HT1.out.l; have hl1 := HT1.out.lt; have hm1 := HT1.out.b.lt)
    | (go_at_call 17; (with_reducible refine (HP1.out _).mono ?_); rintro e w2 ⟨rfl, hb2⟩; have HT2 := Lib.hid (HT1.out.below hb2); have HY2 := Lib.hid (Bx3.new w2 (.int .i64 Y0) (.int .i64 n) (.int .i64 Y2) 46); clear k0 k1 k2 l0 l1 l2; obtain ⟨k0, k1, k2, _, _, _⟩ := HT2.out.b; obtain ⟨l0, l1, l2, _, _, _⟩ := HT2.out.l; have hl2 := HT2.out.lt; have hm2 := HT2.out.b.lt)
    | (go_at_call 17; (with_reducible refine (HP2.out _).mono ?_); rintro e w3 ⟨rfl, hb3⟩; have HT3 := Lib.hid ((HT2.out.alloc (.cells #[.int .i64 Y0, .int .i64 n, .int .i64 Y2] 46)).below hb3); clear k0 k1 k2 l0 l1 l2; obtain ⟨k0, k1, k2, _, _, _⟩ := HT3.out.b; obtain ⟨l0, l1, l2, _, _, _⟩ := HT3.out.l; have hl3 := HT3.out.lt; have hm3 := HT3.out.b.lt)
    | (go_at_call 17; (with_reducible refine (HP3.out _).mono ?_); rintro e w4 ⟨rfl, hb4⟩; have HT4 := Lib.hid ((HT3.out.alloc (.cells #[.int .i64 z0, .int .i64 z1, .int .i64 z2] 46)).below hb4); have HZ4 := Lib.hid ((Bx3.new w3 (.int .i64 z0) (.int .i64 z1) (.int .i64 z2) 46).below hb4); obtain ⟨o0, o1, o2, _, _, _⟩ := HZ4.out; have hlz := HZ4.out.lt; clear k0 k1 k2 l0 l1 l2; obtain ⟨k0, k1, k2, _, _, _⟩ := HT4.out.b; obtain ⟨l0, l1, l2, _, _, _⟩ := HT4.out.l; have hl4 := HT4.out.lt; have hm4 := HT4.out.b.lt)
    | (go_at_call 18; (with_reducible refine (HW.out _).mono ?_); rintro e w5 ⟨rfl, hb5⟩; have HT5 := Lib.hid ((HT4.out.alloc (.cells #[.int .i64 u0, .int .i64 u1, .int .i64 u2] 46)).below hb5); clear o0 o1 o2; clear k0 k1 k2 l0 l1 l2; obtain ⟨k0, k1, k2, _, _, _⟩ := HT5.out.b; obtain ⟨l0, l1, l2, _, _, _⟩ := HT5.out.l; have hl5 := HT5.out.lt; have hm5 := HT5.out.b.lt)
    | (go_at_call 19; (with_reducible refine (HK1.out _).mono ?_); rintro e w6 ⟨⟨a0, a1, a2, rfl⟩, hb6⟩; have HT6 := Lib.hid (HT5.out.below hb6); clear k0 k1 k2 l0 l1 l2; obtain ⟨k0, k1, k2, _, _, _⟩ := HT6.out.b; obtain ⟨l0, l1, l2, _, _, _⟩ := HT6.out.l; have hl6 := HT6.out.lt; have hm6 := HT6.out.b.lt)
    | (go_at_call 19; (with_reducible refine (HK2.out _).mono ?_); rintro e w7 ⟨⟨d0, d1, d2, rfl⟩, hb7⟩; have HT7 := Lib.hid ((HT6.out.alloc (.cells #[.int .i64 a0, .int .i64 a1, .int .i64 a2] 46)).below hb7)))
  go_ret
  exact ⟨rfl, HT7.out.bw⟩
set_option maxHeartbeats 4000000 in
set_option maxRecDepth 100000 in
theorem pours_C3T1 (S A E h t r n m k : Int) (w : World) (he : pourErr S A E h t r n = 0) (h1 : pourErr S A E (pourH S A E h t r n) n (pourR E t r n) m = 0) (hw : waitErr S A E h t r k ≠ 0) : Calls Try.prog 5 #[.agg #[.int .i64 S, .int .i64 A, .int .i64 E], .agg #[.int .i64 h, .int .i64 t, .int .i64 r], .int .i64 n, .int .i64 m, .int .i64 k] w fun e w' => e = .returned (.bool true) ∧ Below w.heap.size w w' := by
  have HA := Lib.hid (fun W => awakeRate_any W)
  have HT := Lib.hid (Two.new w S A E h t r)
  have HP1 := Lib.hid (fun W => Pour_any S A E h t r n W)
  rw [pourV_ok he, he] at HP1
  have HP2 := Lib.hid (fun W => Pour_any S A E (pourH S A E h t r n) n (pourR E t r n) m W)
  have HP3 := Lib.hid (fun W => Pour_any S A E h t r m W)
  obtain ⟨s1, s2⟩ := two_steps he h1
  rw [h1, s2] at HP2
  rw [s1] at HP3
  obtain ⟨z0, z1, z2, hz⟩ := pourV_agg S A E h t r m
  rw [hz] at HP2 HP3
  have hq : ∀ W : World, (binOp .neq 46 (.agg #[.int .i64 z0, .int .i64 z1, .int .i64 z2]) (.agg #[.int .i64 z0, .int .i64 z1, .int .i64 z2])).run Try.prog W = .ok (.bool false) W := fun W => by rw [neqL]; simp
  clear s1 s2 hz h1
  generalize pourH S A E h t r n = Y0 at *
  generalize pourR E t r n = Y2 at *
  have HW := Lib.hid (fun W => Wait_any S A E h t r k W)
  rw [if_neg hw] at HW
  generalize waitErr S A E h t r k = g at *
  go_enter Try.func5, Try.ntmps5
  go_wp2_with (first
    | (go_at_call 16; (with_reducible refine (HA.out _).mono ?_); rintro e w1 ⟨rfl, hb1⟩; have HT1 := Lib.hid (HT.out.below hb1); obtain ⟨k0, k1, k2, _, _, _⟩ := HT1.out.b; obtain ⟨l0, l1, l2, _, _, _⟩ := HT1.out.l; have hl1 := HT1.out.lt; have hm1 := HT1.out.b.lt)
    | (go_at_call 17; (with_reducible refine (HP1.out _).mono ?_); rintro e w2 ⟨rfl, hb2⟩; have HT2 := Lib.hid (HT1.out.below hb2); have HY2 := Lib.hid (Bx3.new w2 (.int .i64 Y0) (.int .i64 n) (.int .i64 Y2) 46); clear k0 k1 k2 l0 l1 l2; obtain ⟨k0, k1, k2, _, _, _⟩ := HT2.out.b; obtain ⟨l0, l1, l2, _, _, _⟩ := HT2.out.l; have hl2 := HT2.out.lt; have hm2 := HT2.out.b.lt)
    | (go_at_call 17; (with_reducible refine (HP2.out _).mono ?_); rintro e w3 ⟨rfl, hb3⟩; have HT3 := Lib.hid ((HT2.out.alloc (.cells #[.int .i64 Y0, .int .i64 n, .int .i64 Y2] 46)).below hb3); clear k0 k1 k2 l0 l1 l2; obtain ⟨k0, k1, k2, _, _, _⟩ := HT3.out.b; obtain ⟨l0, l1, l2, _, _, _⟩ := HT3.out.l; have hl3 := HT3.out.lt; have hm3 := HT3.out.b.lt)
    | (go_at_call 17; (with_reducible refine (HP3.out _).mono ?_); rintro e w4 ⟨rfl, hb4⟩; have HT4 := Lib.hid ((HT3.out.alloc (.cells #[.int .i64 z0, .int .i64 z1, .int .i64 z2] 46)).below hb4); have HZ4 := Lib.hid ((Bx3.new w3 (.int .i64 z0) (.int .i64 z1) (.int .i64 z2) 46).below hb4); obtain ⟨o0, o1, o2, _, _, _⟩ := HZ4.out; have hlz := HZ4.out.lt; clear k0 k1 k2 l0 l1 l2; obtain ⟨k0, k1, k2, _, _, _⟩ := HT4.out.b; obtain ⟨l0, l1, l2, _, _, _⟩ := HT4.out.l; have hl4 := HT4.out.lt; have hm4 := HT4.out.b.lt)
    | (go_at_call 18; (with_reducible refine (HW.out _).mono ?_); rintro e w5 ⟨rfl, hb5⟩; have HT5 := Lib.hid ((HT4.out.alloc (.cells #[.int .i64 z0, .int .i64 z1, .int .i64 z2] 46)).below hb5); clear o0 o1 o2; clear k0 k1 k2 l0 l1 l2; obtain ⟨k0, k1, k2, _, _, _⟩ := HT5.out.b; obtain ⟨l0, l1, l2, _, _, _⟩ := HT5.out.l; have hl5 := HT5.out.lt; have hm5 := HT5.out.b.lt))
  go_ret
  exact ⟨rfl, HT5.out.bw⟩
set_option maxHeartbeats 4000000 in
set_option maxRecDepth 100000 in
theorem pours_C3T2 (S A E h t r n m k : Int) (w : World) (he : pourErr S A E h t r n = 0) (h1 : pourErr S A E (pourH S A E h t r n) n (pourR E t r n) m = 0) (hw : waitErr S A E h t r k = 0) (hv : waitV A E h r k = 0) : Calls Try.prog 5 #[.agg #[.int .i64 S, .int .i64 A, .int .i64 E], .agg #[.int .i64 h, .int .i64 t, .int .i64 r], .int .i64 n, .int .i64 m, .int .i64 k] w fun e w' => e = .returned (.bool true) ∧ Below w.heap.size w w' := by
  have HA := Lib.hid (fun W => awakeRate_any W)
  have HT := Lib.hid (Two.new w S A E h t r)
  have HP1 := Lib.hid (fun W => Pour_any S A E h t r n W)
  rw [pourV_ok he, he] at HP1
  have HP2 := Lib.hid (fun W => Pour_any S A E (pourH S A E h t r n) n (pourR E t r n) m W)
  have HP3 := Lib.hid (fun W => Pour_any S A E h t r m W)
  obtain ⟨s1, s2⟩ := two_steps he h1
  rw [h1, s2] at HP2
  rw [s1] at HP3
  obtain ⟨z0, z1, z2, hz⟩ := pourV_agg S A E h t r m
  rw [hz] at HP2 HP3
  have hq : ∀ W : World, (binOp .neq 46 (.agg #[.int .i64 z0, .int .i64 z1, .int .i64 z2]) (.agg #[.int .i64 z0, .int .i64 z1, .int .i64 z2])).run Try.prog W = .ok (.bool false) W := fun W => by rw [neqL]; simp
  clear s1 s2 hz h1
  generalize pourH S A E h t r n = Y0 at *
  generalize pourR E t r n = Y2 at *
  have HW := Lib.hid (fun W => Wait_any S A E h t r k W)
  have hk := wait_takes hw
  obtain ⟨_, _, ⟨t1, t2⟩, _⟩ := lvl_ok (wait_ok hw).1
  have hw1 : IntKind.i64.wrap t = t := IntWalk.i64_in _ ⟨by omega, by omega⟩
  have hw2 : wrap64 t = t := by unfold wrap64; omega
  have hw3 : IntKind.i64.wrap (t + 0) = t := by rw [Int.add_zero]; exact hw1
  rw [if_pos hw, hw, hv] at HW
  rw [hv, show t + 0 = t by omega] at hk
  have HK1 := Lib.hid (fun W => Take_any S A E h t r t k W)
  rw [hk.1, hk.2] at HK1
  clear hk hw hv t1 t2
  go_enter Try.func5, Try.ntmps5
  go_wp2_with (first
    | (go_at_call 16; (with_reducible refine (HA.out _).mono ?_); rintro e w1 ⟨rfl, hb1⟩; have HT1 := Lib.hid (HT.out.below hb1); obtain ⟨k0, k1, k2, _, _, _⟩ := HT1.out.b; obtain ⟨l0, l1, l2, _, _, _⟩ := HT1.out.l; have hl1 := HT1.out.lt; have hm1 := HT1.out.b.lt)
    | (go_at_call 17; (with_reducible refine (HP1.out _).mono ?_); rintro e w2 ⟨rfl, hb2⟩; have HT2 := Lib.hid (HT1.out.below hb2); have HY2 := Lib.hid (Bx3.new w2 (.int .i64 Y0) (.int .i64 n) (.int .i64 Y2) 46); clear k0 k1 k2 l0 l1 l2; obtain ⟨k0, k1, k2, _, _, _⟩ := HT2.out.b; obtain ⟨l0, l1, l2, _, _, _⟩ := HT2.out.l; have hl2 := HT2.out.lt; have hm2 := HT2.out.b.lt)
    | (go_at_call 17; (with_reducible refine (HP2.out _).mono ?_); rintro e w3 ⟨rfl, hb3⟩; have HT3 := Lib.hid ((HT2.out.alloc (.cells #[.int .i64 Y0, .int .i64 n, .int .i64 Y2] 46)).below hb3); clear k0 k1 k2 l0 l1 l2; obtain ⟨k0, k1, k2, _, _, _⟩ := HT3.out.b; obtain ⟨l0, l1, l2, _, _, _⟩ := HT3.out.l; have hl3 := HT3.out.lt; have hm3 := HT3.out.b.lt)
    | (go_at_call 17; (with_reducible refine (HP3.out _).mono ?_); rintro e w4 ⟨rfl, hb4⟩; have HT4 := Lib.hid ((HT3.out.alloc (.cells #[.int .i64 z0, .int .i64 z1, .int .i64 z2] 46)).below hb4); have HZ4 := Lib.hid ((Bx3.new w3 (.int .i64 z0) (.int .i64 z1) (.int .i64 z2) 46).below hb4); obtain ⟨o0, o1, o2, _, _, _⟩ := HZ4.out; have hlz := HZ4.out.lt; clear k0 k1 k2 l0 l1 l2; obtain ⟨k0, k1, k2, _, _, _⟩ := HT4.out.b; obtain ⟨l0, l1, l2, _, _, _⟩ := HT4.out.l; have hl4 := HT4.out.lt; have hm4 := HT4.out.b.lt)
    | (go_at_call 18; (with_reducible refine (HW.out _).mono ?_); rintro e w5 ⟨rfl, hb5⟩; have HT5 := Lib.hid ((HT4.out.alloc (.cells #[.int .i64 z0, .int .i64 z1, .int .i64 z2] 46)).below hb5); clear o0 o1 o2; clear k0 k1 k2 l0 l1 l2; obtain ⟨k0, k1, k2, _, _, _⟩ := HT5.out.b; obtain ⟨l0, l1, l2, _, _, _⟩ := HT5.out.l; have hl5 := HT5.out.lt; have hm5 := HT5.out.b.lt)
    | (go_at_call 19; (with_reducible refine (HK1.out _).mono ?_); rintro e w6 ⟨⟨a0, a1, a2, rfl⟩, hb6⟩; have HT6 := Lib.hid (HT5.out.below hb6); clear k0 k1 k2 l0 l1 l2; obtain ⟨k0, k1, k2, _, _, _⟩ := HT6.out.b; obtain ⟨l0, l1, l2, _, _, _⟩ := HT6.out.l; have hl6 := HT6.out.lt; have hm6 := HT6.out.b.lt))
  go_ret
  exact ⟨rfl, (HT6.out.alloc _).bw⟩
set_option maxHeartbeats 4000000 in
set_option maxRecDepth 100000 in
theorem pours_C3T3 (S A E h t r n m k : Int) (w : World) (he : pourErr S A E h t r n = 0) (h1 : pourErr S A E (pourH S A E h t r n) n (pourR E t r n) m = 0) (hw : waitErr S A E h t r k = 0) (hv : 0 < waitV A E h r k) : Calls Try.prog 5 #[.agg #[.int .i64 S, .int .i64 A, .int .i64 E], .agg #[.int .i64 h, .int .i64 t, .int .i64 r], .int .i64 n, .int .i64 m, .int .i64 k] w fun e w' => e = .returned (.bool true) ∧ Below w.heap.size w w' := by
  have HA := Lib.hid (fun W => awakeRate_any W)
  have HT := Lib.hid (Two.new w S A E h t r)
  have HP1 := Lib.hid (fun W => Pour_any S A E h t r n W)
  rw [pourV_ok he, he] at HP1
  have HP2 := Lib.hid (fun W => Pour_any S A E (pourH S A E h t r n) n (pourR E t r n) m W)
  have HP3 := Lib.hid (fun W => Pour_any S A E h t r m W)
  obtain ⟨s1, s2⟩ := two_steps he h1
  rw [h1, s2] at HP2
  rw [s1] at HP3
  obtain ⟨z0, z1, z2, hz⟩ := pourV_agg S A E h t r m
  rw [hz] at HP2 HP3
  have hq : ∀ W : World, (binOp .neq 46 (.agg #[.int .i64 z0, .int .i64 z1, .int .i64 z2]) (.agg #[.int .i64 z0, .int .i64 z1, .int .i64 z2])).run Try.prog W = .ok (.bool false) W := fun W => by rw [neqL]; simp
  clear s1 s2 hz h1
  generalize pourH S A E h t r n = Y0 at *
  generalize pourR E t r n = Y2 at *
  have HW := Lib.hid (fun W => Wait_any S A E h t r k W)
  obtain ⟨hk1, hk2⟩ := wait_takes hw
  obtain ⟨hj1, hj2⟩ := early_not hw hv
  obtain ⟨v1, v2, v3, v4⟩ := wait_ok hw
  obtain ⟨_, _, ⟨t1, t2⟩, _⟩ := lvl_ok v1
  rw [if_pos hw, hw] at HW
  have HK1 := Lib.hid (fun W => Take_any S A E h t r (t + waitV A E h r k) k W)
  rw [hk1, hk2] at HK1
  have HK2 := Lib.hid (fun W => Take_any S A E h t r (t + waitV A E h r k - 1) k W)
  rw [hj1, hj2] at HK2
  clear hk1 hk2 hj1 hj2 hw v1 v2 v3
  generalize waitV A E h r k = V at *
  have hw1 : IntKind.i64.wrap (t + V) = t + V := IntWalk.i64_in _ ⟨by omega, by omega⟩
  have hw2 : IntKind.i64.wrap (t + V - 1) = t + V - 1 := IntWalk.i64_in _ ⟨by omega, by omega⟩
  clear v4 t1 t2
  go_enter Try.func5, Try.ntmps5
  go_wp2_with (first
    | (go_at_call 16; (with_reducible refine (HA.out _).mono ?_); rintro e w1 ⟨rfl, hb1⟩; have HT1 := Lib.hid (HT.out.below hb1); obtain ⟨k0, k1, k2, _, _, _⟩ := HT1.out.b; obtain ⟨l0, l1, l2, _, _, _⟩ := HT1.out.l; have hl1 := HT1.out.lt; have hm1 := HT1.out.b.lt)
    | (go_at_call 17; (with_reducible refine (HP1.out _).mono ?_); rintro e w2 ⟨rfl, hb2⟩; have HT2 := Lib.hid (HT1.out.below hb2); have HY2 := Lib.hid (Bx3.new w2 (.int .i64 Y0) (.int .i64 n) (.int .i64 Y2) 46); clear k0 k1 k2 l0 l1 l2; obtain ⟨k0, k1, k2, _, _, _⟩ := HT2.out.b; obtain ⟨l0, l1, l2, _, _, _⟩ := HT2.out.l; have hl2 := HT2.out.lt; have hm2 := HT2.out.b.lt)
    | (go_at_call 17; (with_reducible refine (HP2.out _).mono ?_); rintro e w3 ⟨rfl, hb3⟩; have HT3 := Lib.hid ((HT2.out.alloc (.cells #[.int .i64 Y0, .int .i64 n, .int .i64 Y2] 46)).below hb3); clear k0 k1 k2 l0 l1 l2; obtain ⟨k0, k1, k2, _, _, _⟩ := HT3.out.b; obtain ⟨l0, l1, l2, _, _, _⟩ := HT3.out.l; have hl3 := HT3.out.lt; have hm3 := HT3.out.b.lt)
    | (go_at_call 17; (with_reducible refine (HP3.out _).mono ?_); rintro e w4 ⟨rfl, hb4⟩; have HT4 := Lib.hid ((HT3.out.alloc (.cells #[.int .i64 z0, .int .i64 z1, .int .i64 z2] 46)).below hb4); have HZ4 := Lib.hid ((Bx3.new w3 (.int .i64 z0) (.int .i64 z1) (.int .i64 z2) 46).below hb4); obtain ⟨o0, o1, o2, _, _, _⟩ := HZ4.out; have hlz := HZ4.out.lt; clear k0 k1 k2 l0 l1 l2; obtain ⟨k0, k1, k2, _, _, _⟩ := HT4.out.b; obtain ⟨l0, l1, l2, _, _, _⟩ := HT4.out.l; have hl4 := HT4.out.lt; have hm4 := HT4.out.b.lt)
    | (go_at_call 18; (with_reducible refine (HW.out _).mono ?_); rintro e w5 ⟨rfl, hb5⟩; have HT5 := Lib.hid ((HT4.out.alloc (.cells #[.int .i64 z0, .int .i64 z1, .int .i64 z2] 46)).below hb5); clear o0 o1 o2; clear k0 k1 k2 l0 l1 l2; obtain ⟨k0, k1, k2, _, _, _⟩ := HT5.out.b; obtain ⟨l0, l1, l2, _, _, _⟩ := HT5.out.l; have hl5 := HT5.out.lt; have hm5 := HT5.out.b.lt)
    | (go_at_call 19; (with_reducible refine (HK1.out _).mono ?_); rintro e w6 ⟨⟨a0, a1, a2, rfl⟩, hb6⟩; have HT6 := Lib.hid (HT5.out.below hb6); clear k0 k1 k2 l0 l1 l2; obtain ⟨k0, k1, k2, _, _, _⟩ := HT6.out.b; obtain ⟨l0, l1, l2, _, _, _⟩ := HT6.out.l; have hl6 := HT6.out.lt; have hm6 := HT6.out.b.lt)
    | (go_at_call 19; (with_reducible refine (HK2.out _).mono ?_); rintro e w7 ⟨⟨d0, d1, d2, rfl⟩, hb7⟩; have HT7 := Lib.hid ((HT6.out.alloc (.cells #[.int .i64 a0, .int .i64 a1, .int .i64 a2] 46)).below hb7)))
  go_ret
  exact ⟨rfl, HT7.out.bw⟩
theorem pours_law (S A E h t r n m k : Int) (w : World) : Calls Try.prog 5 #[.agg #[.int .i64 S, .int .i64 A, .int .i64 E], .agg #[.int .i64 h, .int .i64 t, .int .i64 r], .int .i64 n, .int .i64 m, .int .i64 k] w fun e w' => e = .returned (.bool true) ∧ Below w.heap.size w w' := by
  by_cases he : pourErr S A E h t r n = 0
  · by_cases h1 : pourErr S A E (pourH S A E h t r n) n (pourR E t r n) m = 0
    · by_cases hw : waitErr S A E h t r k = 0
      · by_cases hv : waitV A E h r k = 0
        · exact pours_C3T2 S A E h t r n m k w he h1 hw hv
        · exact pours_C3T3 S A E h t r n m k w he h1 hw (by have := waitV_nonneg (n := k) (wait_ok hw).1; omega)
      · exact pours_C3T1 S A E h t r n m k w he h1 hw
    · by_cases hw : waitErr S A E h t r k = 0
      · by_cases hv : waitV A E h r k = 0
        · exact pours_C2T2 S A E h t r n m k w he h1 hw hv
        · exact pours_C2T3 S A E h t r n m k w he h1 hw (by have := waitV_nonneg (n := k) (wait_ok hw).1; omega)
      · exact pours_C2T1 S A E h t r n m k w he h1 hw
  · exact pours_bad S A E h t r n m k w he
end Go.Proofs.Ytdkpghfielfojaa

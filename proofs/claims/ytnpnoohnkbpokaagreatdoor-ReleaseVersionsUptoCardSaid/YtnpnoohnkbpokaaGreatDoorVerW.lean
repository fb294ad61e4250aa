/- What VersionOf answers where the numbers, or the project, are none. -/
import Derived.Test.YtnpnoohnkbpokaaGreatDoorVerV
namespace Go.Proofs.YtnpnoohnkbpokaaGreatDoor
open Go.RowKit Go.Lib

set_option maxHeartbeats 4000000 in
set_option maxRecDepth 100000 in
theorem VOf_nums (s J X A PR : ByteArray) (has : Bool) (tn d : Nat) (w : World) (he : Env w) (hs : s.size ≤ 1048576) (hn : nameB s.data.toList = true) (ht : qDot s = tn) (hd : qDash s = d) (hd2 : d < s.size)
    (hJ : s.extract 0 d = J) (hX : s.extract (d + 1) s.size = X) (hA : A.size ≤ 1048576) (hlen : (splitL A 46).length ≤ 100)
    (hC : ∀ W, Env W → Calls Tryz.prog 33 #[.string X, .string ⟨#[45]⟩] W fun e w' => e = .returned (.tuple #[.string A, .string PR, .bool has]) ∧ Below W.heap.size W w')
    (hE : oks (splitL A 46) = false) :
    Calls Tryz.prog 10 #[.string s] w fun e w' => e = .returned (.tuple #[.agg #[.string ⟨#[]⟩, .int .i64 0, .int .i64 0, .int .i64 0, .slice none 0 0], .int .i64 8]) ∧ Below w.heap.size w w' := by
  have HN := Lib.hid (fun W => nameOk_any s W hs)
  rw [hn] at HN
  have HI := Lib.hid (fun W => Tryz.strings_IndexByte s 46 W)
  rw [show Lib.indexByte s.data.toList (46 : Int).toNat.toUInt8 = qDot s from rfl, ht] at HI
  have HL := Lib.hid (fun W => Tryz.strings_LastIndexByte (qT s) 45 (by unfold qT; rw [ByteArray.size_extract]; omega) W)
  rw [show Lib.lastIndexByte (qT s) 45 = qDash s from rfl, hd] at HL
  have hle := qDot_le s
  rw [ht] at hle
  have hm2 : (0 : Int) ≤ (tn : Int) := by omega
  have HT0 : s.extract 0 tn = qT s := by unfold qT; rw [ht]; rfl
  have hx : decide ((d : Int) < 0) = false := by simp
  have hdS : (d : Int) ≤ s.size := by omega
  obtain ⟨d1, hd1⟩ : ∃ d1, d1 = d + 1 := ⟨_, rfl⟩
  have hwr : IntKind.i64.wrap ((d : Int) + 1) = (d1 : Int) := by rw [IntWalk.i64_in _ ⟨by omega, by omega⟩, hd1]; omega
  have hd1S : (d1 : Int) ≤ s.size := by omega
  rw [← hd1] at hX
  have HC := Lib.hid hC
  have HS := Lib.hid (fun (W : World) (h : Env W) => split_any A 46 W hA h)
  have HV := Lib.hid he
  have HEE := Lib.hid hE
  generalize qT s = T at *
  clear hn ht hd hd1 hC he hE
  go_enter Tryz.func10, Tryz.ntmps10
  go_wp2_with (first
    | (go_at_call 30; refine (HN.out _).mono ?_; rintro e w1 ⟨rfl, hb1⟩; have HB1 := Lib.hid ((bx5_new w (.string ⟨#[]⟩) (.int .i64 0) (.int .i64 0) (.int .i64 0) (.slice none 0 0) 24).below hb1); have hw1 := below_a1 (Below.refl _ _) (Nat.le_refl _) hb1; have k0 := HB1.out.c0; have k1 := HB1.out.c1; have k2 := HB1.out.c2; have k3 := HB1.out.c3; have k4 := HB1.out.c4; have f0 := HB1.out.f0; have f1 := HB1.out.f1; have f2 := HB1.out.f2; have f3 := HB1.out.f3; have f4 := HB1.out.f4)
    | (go_at_call 31; refine (HI.out _).mono ?_; rintro e w2 ⟨rfl, rfl⟩)
    | (go_at_call 32; refine (HL.out _).mono ?_; rintro e w3 ⟨rfl, rfl⟩; have HB2 := Lib.hid (HB1.out.set0 (.string J)); have hw2 := hw1.setCell (p := ⟨w.heap.size, 0, none⟩) (Nat.le_refl _) (.string J); have hV2 := HV.out.keep hw2)
    | (go_at_call 33; (with_reducible refine (HC.out _ hV2).mono ?_); rintro e w4 ⟨rfl, hb4⟩; have HB3 := Lib.hid (HB2.out.below hb4); have hw3 := below_keep hw2 (Nat.le_refl _) hb4; have hV3 := hV2.keep hb4)
    | (go_at_call 34; (with_reducible refine (HS.out _ hV3).mono ?_); rintro e w5 ⟨g, n, rfl, hn, hsl, hg, hb5⟩; subst hn; have HB4 := Lib.hid (HB3.out.below hb5); have hw4 := below_keep hw3 (Nat.le_refl _) hb5; have HSL := Lib.hid hsl)
    | (go_at_call 35; (with_reducible refine (wholes_any _ (splitL A 46) _ hlen HSL.out).mono ?_); rintro e w6 hw; obtain ⟨wv, rfl, hwt, hwf, hb6⟩ := hw; rw [HEE.out]; obtain rfl := hwf HEE.out; have HB5 := Lib.hid (HB4.out.below hb6); have hw5 := below_keep hw4 (Nat.le_refl _) hb6; have k0 := HB5.out.c0; have k1 := HB5.out.c1; have k2 := HB5.out.c2; have k3 := HB5.out.c3; have k4 := HB5.out.c4; have f0 := HB5.out.f0; have f1 := HB5.out.f1; have f2 := HB5.out.f2; have f3 := HB5.out.f3; have f4 := HB5.out.f4))
  refine bodyPost_ret (results_vr rfl _ _ _ rfl rfl (((((HB5.out.set0 _).set1 _).set2 _).set3 _).set4 _)) rfl ?_
  exact ⟨rfl, ((((hw5.setCell (Nat.le_refl _) _).setCell (Nat.le_refl _) _).setCell (Nat.le_refl _) _).setCell (Nat.le_refl _) _).setCell (Nat.le_refl _) _⟩

set_option maxHeartbeats 4000000 in
set_option maxRecDepth 100000 in
theorem VOf_three (s J X A PR : ByteArray) (has : Bool) (tn d : Nat) (w : World) (he : Env w) (hs : s.size ≤ 1048576) (hn : nameB s.data.toList = true) (ht : qDot s = tn) (hd : qDash s = d) (hd2 : d < s.size)
    (hJ : s.extract 0 d = J) (hX : s.extract (d + 1) s.size = X) (hA : A.size ≤ 1048576) (hlen : (splitL A 46).length ≤ 100)
    (hC : ∀ W, Env W → Calls Tryz.prog 33 #[.string X, .string ⟨#[45]⟩] W fun e w' => e = .returned (.tuple #[.string A, .string PR, .bool has]) ∧ Below W.heap.size W w')
    (hE : oks (splitL A 46) = true) (h3 : (splitL A 46).length ≠ 3) :
    Calls Tryz.prog 10 #[.string s] w fun e w' => e = .returned (.tuple #[.agg #[.string ⟨#[]⟩, .int .i64 0, .int .i64 0, .int .i64 0, .slice none 0 0], .int .i64 8]) ∧ Below w.heap.size w w' := by
  have HN := Lib.hid (fun W => nameOk_any s W hs)
  rw [hn] at HN
  have HI := Lib.hid (fun W => Tryz.strings_IndexByte s 46 W)
  rw [show Lib.indexByte s.data.toList (46 : Int).toNat.toUInt8 = qDot s from rfl, ht] at HI
  have HL := Lib.hid (fun W => Tryz.strings_LastIndexByte (qT s) 45 (by unfold qT; rw [ByteArray.size_extract]; omega) W)
  rw [show Lib.lastIndexByte (qT s) 45 = qDash s from rfl, hd] at HL
  have hle := qDot_le s
  rw [ht] at hle
  have hm2 : (0 : Int) ≤ (tn : Int) := by omega
  have HT0 : s.extract 0 tn = qT s := by unfold qT; rw [ht]; rfl
  have hx : decide ((d : Int) < 0) = false := by simp
  have hdS : (d : Int) ≤ s.size := by omega
  obtain ⟨d1, hd1⟩ : ∃ d1, d1 = d + 1 := ⟨_, rfl⟩
  have hwr : IntKind.i64.wrap ((d : Int) + 1) = (d1 : Int) := by rw [IntWalk.i64_in _ ⟨by omega, by omega⟩, hd1]; omega
  have hd1S : (d1 : Int) ≤ s.size := by omega
  rw [← hd1] at hX
  have HC := Lib.hid hC
  have HS := Lib.hid (fun (W : World) (h : Env W) => split_any A 46 W hA h)
  have HV := Lib.hid he
  have HEE := Lib.hid hE
  have l1 : (((splitL A 46).length : Int) != 3) = true := by simp; omega
  have l2 : ((splitL A 46).length != 3) = true := by simpa using h3
  clear h3
  generalize qT s = T at *
  clear hn ht hd hd1 hC he hE
  go_enter Tryz.func10, Tryz.ntmps10
  go_wp2_with (first
    | (go_at_call 30; refine (HN.out _).mono ?_; rintro e w1 ⟨rfl, hb1⟩; have HB1 := Lib.hid ((bx5_new w (.string ⟨#[]⟩) (.int .i64 0) (.int .i64 0) (.int .i64 0) (.slice none 0 0) 24).below hb1); have hw1 := below_a1 (Below.refl _ _) (Nat.le_refl _) hb1; have k0 := HB1.out.c0; have k1 := HB1.out.c1; have k2 := HB1.out.c2; have k3 := HB1.out.c3; have k4 := HB1.out.c4; have f0 := HB1.out.f0; have f1 := HB1.out.f1; have f2 := HB1.out.f2; have f3 := HB1.out.f3; have f4 := HB1.out.f4)
    | (go_at_call 31; refine (HI.out _).mono ?_; rintro e w2 ⟨rfl, rfl⟩)
    | (go_at_call 32; refine (HL.out _).mono ?_; rintro e w3 ⟨rfl, rfl⟩; have HB2 := Lib.hid (HB1.out.set0 (.string J)); have hw2 := hw1.setCell (p := ⟨w.heap.size, 0, none⟩) (Nat.le_refl _) (.string J); have hV2 := HV.out.keep hw2)
    | (go_at_call 33; (with_reducible refine (HC.out _ hV2).mono ?_); rintro e w4 ⟨rfl, hb4⟩; have HB3 := Lib.hid (HB2.out.below hb4); have hw3 := below_keep hw2 (Nat.le_refl _) hb4; have hV3 := hV2.keep hb4)
    | (go_at_call 34; (with_reducible refine (HS.out _ hV3).mono ?_); rintro e w5 ⟨g, n, rfl, hn, hsl, hg, hb5⟩; subst hn; have HB4 := Lib.hid (HB3.out.below hb5); have hw4 := below_keep hw3 (Nat.le_refl _) hb5; have HSL := Lib.hid hsl)
    | (go_at_call 35; (with_reducible refine (wholes_any _ (splitL A 46) _ hlen HSL.out).mono ?_); rintro e w6 hw; obtain ⟨wv, rfl, hwt, hwf, hb6⟩ := hw; rw [HEE.out]; have hown := hwt HEE.out; obtain ⟨pw, cw, rfl⟩ := own_len hown; have HB5 := Lib.hid (HB4.out.below hb6); have hw5 := below_keep hw4 (Nat.le_refl _) hb6; have k0 := HB5.out.c0; have k1 := HB5.out.c1; have k2 := HB5.out.c2; have k3 := HB5.out.c3; have k4 := HB5.out.c4; have f0 := HB5.out.f0; have f1 := HB5.out.f1; have f2 := HB5.out.f2; have f3 := HB5.out.f3; have f4 := HB5.out.f4))
  refine bodyPost_ret (results_vr rfl _ _ _ rfl rfl (((((HB5.out.set0 _).set1 _).set2 _).set3 _).set4 _)) rfl ?_
  exact ⟨rfl, ((((hw5.setCell (Nat.le_refl _) _).setCell (Nat.le_refl _) _).setCell (Nat.le_refl _) _).setCell (Nat.le_refl _) _).setCell (Nat.le_refl _) _⟩

set_option maxHeartbeats 4000000 in
set_option maxRecDepth 100000 in
theorem VOf_proj (s J X A PR : ByteArray) (has : Bool) (tn d : Nat) (w : World) (he : Env w) (hs : s.size ≤ 1048576) (hn : nameB s.data.toList = true) (ht : qDot s = tn) (hd : qDash s = d) (hd2 : d < s.size)
    (hJ : s.extract 0 d = J) (hX : s.extract (d + 1) s.size = X) (hA : A.size ≤ 1048576) (hlen : (splitL A 46).length ≤ 100)
    (hC : ∀ W, Env W → Calls Tryz.prog 33 #[.string X, .string ⟨#[45]⟩] W fun e w' => e = .returned (.tuple #[.string A, .string PR, .bool has]) ∧ Below W.heap.size W w')
    (hE : oks (splitL A 46) = true) (h3 : (splitL A 46).length = 3) (hP : projB J.data.toList = false) :
    Calls Tryz.prog 10 #[.string s] w fun e w' => e = .returned (.tuple #[.agg #[.string ⟨#[]⟩, .int .i64 0, .int .i64 0, .int .i64 0, .slice none 0 0], .int .i64 8]) ∧ Below w.heap.size w w' := by
  have HN := Lib.hid (fun W => nameOk_any s W hs)
  rw [hn] at HN
  have HI := Lib.hid (fun W => Tryz.strings_IndexByte s 46 W)
  rw [show Lib.indexByte s.data.toList (46 : Int).toNat.toUInt8 = qDot s from rfl, ht] at HI
  have HL := Lib.hid (fun W => Tryz.strings_LastIndexByte (qT s) 45 (by unfold qT; rw [ByteArray.size_extract]; omega) W)
  rw [show Lib.lastIndexByte (qT s) 45 = qDash s from rfl, hd] at HL
  have hle := qDot_le s
  rw [ht] at hle
  have hm2 : (0 : Int) ≤ (tn : Int) := by omega
  have HT0 : s.extract 0 tn = qT s := by unfold qT; rw [ht]; rfl
  have hx : decide ((d : Int) < 0) = false := by simp
  have hdS : (d : Int) ≤ s.size := by omega
  obtain ⟨d1, hd1⟩ : ∃ d1, d1 = d + 1 := ⟨_, rfl⟩
  have hwr : IntKind.i64.wrap ((d : Int) + 1) = (d1 : Int) := by rw [IntWalk.i64_in _ ⟨by omega, by omega⟩, hd1]; omega
  have hd1S : (d1 : Int) ≤ s.size := by omega
  rw [← hd1] at hX
  have HC := Lib.hid hC
  have HS := Lib.hid (fun (W : World) (h : Env W) => split_any A 46 W hA h)
  have HV := Lib.hid he
  have HEE := Lib.hid hE
  have HPJ := Lib.hid (fun W => projectOk_any J W (by rw [← hJ, ByteArray.size_extract]; omega))
  rw [hP] at HPJ
  have H3 := Lib.hid h3
  clear h3 hP
  generalize qT s = T at *
  clear hn ht hd hd1 hC he hE
  go_enter Tryz.func10, Tryz.ntmps10
  go_wp2_with (first
    | (go_at_call 30; refine (HN.out _).mono ?_; rintro e w1 ⟨rfl, hb1⟩; have HB1 := Lib.hid ((bx5_new w (.string ⟨#[]⟩) (.int .i64 0) (.int .i64 0) (.int .i64 0) (.slice none 0 0) 24).below hb1); have hw1 := below_a1 (Below.refl _ _) (Nat.le_refl _) hb1; have k0 := HB1.out.c0; have k1 := HB1.out.c1; have k2 := HB1.out.c2; have k3 := HB1.out.c3; have k4 := HB1.out.c4; have f0 := HB1.out.f0; have f1 := HB1.out.f1; have f2 := HB1.out.f2; have f3 := HB1.out.f3; have f4 := HB1.out.f4)
    | (go_at_call 31; refine (HI.out _).mono ?_; rintro e w2 ⟨rfl, rfl⟩)
    | (go_at_call 32; refine (HL.out _).mono ?_; rintro e w3 ⟨rfl, rfl⟩; have HB2 := Lib.hid (HB1.out.set0 (.string J)); have hw2 := hw1.setCell (p := ⟨w.heap.size, 0, none⟩) (Nat.le_refl _) (.string J); have hV2 := HV.out.keep hw2)
    | (go_at_call 33; (with_reducible refine (HC.out _ hV2).mono ?_); rintro e w4 ⟨rfl, hb4⟩; have HB3 := Lib.hid (HB2.out.below hb4); have hw3 := below_keep hw2 (Nat.le_refl _) hb4; have hV3 := hV2.keep hb4)
    | (go_at_call 34; (with_reducible refine (HS.out _ hV3).mono ?_); rintro e w5 ⟨g, n, rfl, hn, hsl, hg, hb5⟩; subst hn; have HB4 := Lib.hid (HB3.out.below hb5); have hw4 := below_keep hw3 (Nat.le_refl _) hb5; have HSL := Lib.hid hsl)
    | (go_at_call 35; (with_reducible refine (wholes_any _ (splitL A 46) _ hlen HSL.out).mono ?_); rintro e w6 hw; obtain ⟨wv, rfl, hwt, hwf, hb6⟩ := hw; rw [HEE.out]; have hown := hwt HEE.out; rw [H3.out] at hown; obtain ⟨pw, cw, rfl⟩ := own_len hown; have HB5 := Lib.hid (HB4.out.below hb6); have hw5 := below_keep hw4 (Nat.le_refl _) hb6; have k0 := HB5.out.c0; have k1 := HB5.out.c1; have k2 := HB5.out.c2; have k3 := HB5.out.c3; have k4 := HB5.out.c4; have f0 := HB5.out.f0; have f1 := HB5.out.f1; have f2 := HB5.out.f2; have f3 := HB5.out.f3; have f4 := HB5.out.f4)
    | (go_at_call 19; (with_reducible refine (HPJ.out _).mono ?_); rintro e w7 ⟨rfl, hb7⟩; have HB6 := Lib.hid (HB5.out.below hb7); have hw6 := below_keep hw5 (Nat.le_refl _) hb7; have m0 := HB6.out.c0; have m1 := HB6.out.c1; have m2 := HB6.out.c2; have m3 := HB6.out.c3; have m4 := HB6.out.c4; have p0 := HB6.out.f0; have p1 := HB6.out.f1; have p2 := HB6.out.f2; have p3 := HB6.out.f3; have p4 := HB6.out.f4))
  refine bodyPost_ret (results_vr rfl _ _ _ rfl rfl (((((HB6.out.set0 _).set1 _).set2 _).set3 _).set4 _)) rfl ?_
  exact ⟨rfl, ((((hw6.setCell (Nat.le_refl _) _).setCell (Nat.le_refl _) _).setCell (Nat.le_refl _) _).setCell (Nat.le_refl _) _).setCell (Nat.le_refl _) _⟩

end Go.Proofs.YtnpnoohnkbpokaaGreatDoor

/- What VersionOf answers to a release. -/
import Derived.Test.YtnpnoohnkbpokaaGreatDoorVerW
import Derived.Test.YtnpnoohnkbpokaaGreatDoorVerP
import Derived.Deep.CutRange
namespace Go.Proofs.YtnpnoohnkbpokaaGreatDoor
open Go.RowKit Go.Lib

/-- While the numbers are stored: what is read, and what is written. -/
structure US (w W : World) (g : Nat) (n1 n2 n3 : Int) : Prop where
  i0 : W.cell? ⟨g, 0, none⟩ = some (.int .i64 n1)
  i1 : W.cell? ⟨g, 1, none⟩ = some (.int .i64 n2)
  i2 : W.cell? ⟨g, 2, none⟩ = some (.int .i64 n3)
theorem US.drew {w W : World} {g : Nat} {n1 n2 n3 : Int} (h : US w W g n1 n2 n3) : US w W.drew g n1 n2 n3 := ⟨h.i0, h.i1, h.i2⟩
theorem US.set {w W : World} {g o : Nat} {n1 n2 n3 : Int} {v : Value} (h : US w W g n1 n2 n3) (hg : w.heap.size < g) : US w (W.setCell ⟨w.heap.size, o, none⟩ v) g n1 n2 n3 := by
  have hs := grownBy_set W ⟨w.heap.size, o, none⟩ v
  have hr : ∀ i : Nat, (some (⟨w.heap.size, o, none⟩ : Addr).block : Option Nat) ≠ some (⟨g, i, none⟩ : Addr).block := fun i e => by have := Option.some.inj e; simp at this; omega
  exact ⟨cell_grownBy h.i0 hs (hr 0), cell_grownBy h.i1 hs (hr 1), cell_grownBy h.i2 hs (hr 2)⟩

set_option maxHeartbeats 4000000 in
set_option maxRecDepth 100000 in
theorem VOf_good (s J X A PR : ByteArray) (has : Bool) (tn d : Nat) (w : World) (he : Env w) (hs : s.size ≤ 1048576) (hn : nameB s.data.toList = true) (ht : qDot s = tn) (hd : qDash s = d) (hd2 : d < s.size)
    (hJ : s.extract 0 d = J) (hX : s.extract (d + 1) s.size = X) (hA : A.size ≤ 1048576) (hlen : (splitL A 46).length ≤ 100)
    (hC : ∀ W, Env W → Calls Tryz.prog 33 #[.string X, .string ⟨#[45]⟩] W fun e w' => e = .returned (.tuple #[.string A, .string PR, .bool has]) ∧ Below W.heap.size W w')
    (xa xb xc : ByteArray) (hPR : PR.size ≤ 1048576) (hE : oks (splitL A 46) = true) (hL : splitL A 46 = [xa, xb, xc]) (hP : projB J.data.toList = true) :
    Calls Tryz.prog 10 #[.string s] w fun e w' => ∃ v, e = .returned (.tuple #[v, .int .i64 (if 5 < (if has = true then splitL PR 46 else []).length ∨ anyBad (if has = true then splitL PR 46 else []) = true then 8 else 0)]) ∧ VrN w.heap.size w' v (if 5 < (if has = true then splitL PR 46 else []).length ∨ anyBad (if has = true then splitL PR 46 else []) = true then vr0 else ⟨J, rdNum 6 xa.data.toList, rdNum 6 xb.data.toList, rdNum 6 xc.data.toList, if has = true then splitL PR 46 else []⟩) ∧ Below w.heap.size w w' := by
  obtain ⟨P, hPP⟩ : ∃ P, P = (if has = true then splitL PR 46 else []) := ⟨_, rfl⟩
  rw [← hPP]
  obtain ⟨RE, hRE⟩ : ∃ r : Int, r = (if 5 < P.length ∨ anyBad P = true then 8 else 0) := ⟨_, rfl⟩
  obtain ⟨n1, hn1⟩ : ∃ n, n = rdNum 6 xa.data.toList := ⟨_, rfl⟩
  obtain ⟨n2, hn2⟩ : ∃ n, n = rdNum 6 xb.data.toList := ⟨_, rfl⟩
  obtain ⟨n3, hn3⟩ : ∃ n, n = rdNum 6 xc.data.toList := ⟨_, rfl⟩
  rw [← hn1, ← hn2, ← hn3]
  obtain ⟨RX, hRX⟩ : ∃ r : Vr, r = (if 5 < P.length ∨ anyBad P = true then vr0 else ⟨J, n1, n2, n3, P⟩) := ⟨_, rfl⟩
  rw [← hRE, ← hRX]
  have HPP := Lib.hid hPP
  have HRE := Lib.hid hRE
  have HRX := Lib.hid hRX
  have HIV := Lib.hid (show [xa, xb, xc].map iv = [.int .i64 n1, .int .i64 n2, .int .i64 n3] by rw [hn1, hn2, hn3]; rfl)
  clear hPP hRE hRX hn1 hn2 hn3
  have HN := Lib.hid (fun W => nameOk_any s W hs)
  rw [hn] at HN
  have HI := Lib.hid (fun W => Tryz.strings_IndexByte s 46 W)
  rw [show Lib.indexByte s.data.toList (46 : Int).toNat.toUInt8 = qDot s from rfl, ht] at HI
  have HL := Lib.hid (fun W => Tryz.strings_LastIndexByte (qT s) 45 (by unfold qT; rw [ByteArray.size_extract]; omega) W)
  rw [show Lib.lastIndexByte (qT s) 45 = qDash s from rfl, hd] at HL
  have hle := qDot_le s
  rw [ht] at hle
  have hm2 : (0 : Int) ≤ (tn : Int) := by omega
  have HT0 : s.extract 0 tn = qT s := by unfold qT; rw [ht]; rfl
  have hx : decide ((d : Int) < 0) = false := by simp
  have hdS : (d : Int) ≤ s.size := by omega
  obtain ⟨d1, hd1⟩ : ∃ d1, d1 = d + 1 := ⟨_, rfl⟩
  have hwr : IntKind.i64.wrap ((d : Int) + 1) = (d1 : Int) := by rw [IntWalk.i64_in _ ⟨by omega, by omega⟩, hd1]; omega
  have hd1S : (d1 : Int) ≤ s.size := by omega
  rw [← hd1] at hX
  have HC := Lib.hid hC
  have HS := Lib.hid (fun (W : World) (h : Env W) => split_any A 46 W hA h)
  have HV := Lib.hid he
  have HEE := Lib.hid hE
  have HPJ := Lib.hid (fun W => projectOk_any J W (by rw [← hJ, ByteArray.size_extract]; omega))
  rw [hP] at HPJ
  have HL3 := Lib.hid hL
  clear hL hP
  generalize qT s = T at *
  clear hn ht hd hd1 hC he hE
  go_enter Tryz.func10, Tryz.ntmps10
  go_upto_region 13 with (first
    | (go_at_call 30; refine (HN.out _).mono ?_; rintro e w1 ⟨rfl, hb1⟩; have HB1 := Lib.hid ((bx5_new w (.string ⟨#[]⟩) (.int .i64 0) (.int .i64 0) (.int .i64 0) (.slice none 0 0) 24).below hb1); have hw1 := below_a1 (Below.refl _ _) (Nat.le_refl _) hb1; have k0 := HB1.out.c0; have k1 := HB1.out.c1; have k2 := HB1.out.c2; have k3 := HB1.out.c3; have k4 := HB1.out.c4; have f0 := HB1.out.f0; have f1 := HB1.out.f1; have f2 := HB1.out.f2; have f3 := HB1.out.f3; have f4 := HB1.out.f4)
    | (go_at_call 31; refine (HI.out _).mono ?_; rintro e w2 ⟨rfl, rfl⟩)
    | (go_at_call 32; refine (HL.out _).mono ?_; rintro e w3 ⟨rfl, rfl⟩; have HB2 := Lib.hid (HB1.out.set0 (.string J)); have hw2 := hw1.setCell (p := ⟨w.heap.size, 0, none⟩) (Nat.le_refl _) (.string J); have hV2 := HV.out.keep hw2)
    | (go_at_call 33; (with_reducible refine (HC.out _ hV2).mono ?_); rintro e w4 ⟨rfl, hb4⟩; have HB3 := Lib.hid (HB2.out.below hb4); have hw3 := below_keep hw2 (Nat.le_refl _) hb4; have hV3 := hV2.keep hb4)
    | (go_at_call 34; (with_reducible refine (HS.out _ hV3).mono ?_); rintro e w5 ⟨g, n, rfl, hn, hsl, hg, hb5⟩; subst hn; have HB4 := Lib.hid (HB3.out.below hb5); have hw4 := below_keep hw3 (Nat.le_refl _) hb5; have HSL := Lib.hid hsl)
    | (go_at_call 35; (with_reducible refine (wholes_any _ (splitL A 46) _ hlen HSL.out).mono ?_); rintro e w6 hw; obtain ⟨wv, rfl, hwt, hwf, hb6⟩ := hw; rw [HEE.out]; have hown := hwt HEE.out; rw [HL3.out, HIV.out] at hown; obtain ⟨gw, cw, rfl, hgw, hgl, hcw⟩ := own_slice hown (by show 0 < 3; decide); have j0 := hcw 0 _ rfl; have j1 := hcw 1 _ rfl; have j2 := hcw 2 _ rfl; clear hcw; have HB5 := Lib.hid (HB4.out.below hb6); have hw5 := below_keep hw4 (Nat.le_refl _) hb6; have k0 := HB5.out.c0; have k1 := HB5.out.c1; have k2 := HB5.out.c2; have k3 := HB5.out.c3; have k4 := HB5.out.c4; have f0 := HB5.out.f0; have f1 := HB5.out.f1; have f2 := HB5.out.f2; have f3 := HB5.out.f3; have f4 := HB5.out.f4)
    | (go_at_call 19; (with_reducible refine (HPJ.out _).mono ?_); rintro e w7 ⟨rfl, hb7⟩; have HB6 := Lib.hid (HB5.out.below hb7); have hw6 := below_keep hw5 (Nat.le_refl _) hb7; have i0 := cell_keep j0 hb7; have i1 := cell_keep j1 hb7; have i2 := cell_keep j2 hb7; have hgs : w.heap.size < gw := Nat.lt_of_lt_of_le HB4.out.lt hgw))
  go_cut [] from 60 to 71 (fun wx => Bx5 wx w.heap.size (.string J) (.int .i64 (n1)) (.int .i64 (n2)) (.int .i64 (n3)) (.slice none 0 0) ∧ Below w.heap.size w wx)
  case first =>
    have HUS := Lib.hid (show US w w7 gw (n1) (n2) (n3) from ⟨i0, i1, i2⟩)
    have hu0 := HUS.out.drew
    have hu1 := (HUS.out.set (o := 1) (v := .int .i64 (n1)) hgs)
    have hu2 := (hu1.set (o := 2) (v := .int .i64 (n2)) hgs)
    have hu3 := (hu2.set (o := 3) (v := .int .i64 (n3)) hgs)
    have HU1 := Lib.hid hu1.drew
    have HU2 := Lib.hid hu2.drew
    have HU3 := Lib.hid hu3.drew
    have HBZ := Lib.hid (((HB6.out.set1 (.int .i64 (n1))).set2 (.int .i64 (n2))).set3 (.int .i64 (n3))).drew
    have HWZ := Lib.hid (((hw6.setCell (p := ⟨w.heap.size, 1, none⟩) (Nat.le_refl _) (.int .i64 (n1))).setCell (p := ⟨w.heap.size, 2, none⟩) (Nat.le_refl _) (.int .i64 (n2))).setCell (p := ⟨w.heap.size, 3, none⟩) (Nat.le_refl _) (.int .i64 (n3))).drew
    have m0 := HB6.out.c0
    have p0 := HB6.out.f0
    have m1 := HB6.out.c1
    have p1 := HB6.out.f1
    have m2 := HB6.out.c2
    have p2 := HB6.out.f2
    have m3 := HB6.out.c3
    have p3 := HB6.out.f3
    have m4 := HB6.out.c4
    have p4 := HB6.out.f4
    clear hu1 hu2 hu3 i0 i1 i2
    refine wp_region_held_drew (S := (fun w' => US w w' gw (n1) (n2) (n3))) (by kernel_rfl) ?_ (fun hHeld => ?_)
    · exact hu0
    refine wpAnyH_take (i := 0) (v := ?_) rfl (by kernel_rfl) (by kernel_rfl) (by kernel_rfl) (fun _ _ _ h => h) (Or.inl ⟨by kernel_rfl, ?_⟩) (by assumption) ?_
    rotate_left
    · intro w hSw; obtain ⟨c0, c1, c2⟩ := hSw; go_simp; (try with_reducible rfl)
    (try simp only [Act.put, List.setIfInBounds_toArray])
    refine wpAnyH_take (i := 1) (v := ?_) rfl (by kernel_rfl) (by kernel_rfl) (by kernel_rfl) (fun _ _ _ h => h) (Or.inl ⟨by kernel_rfl, ?_⟩) (by assumption) ?_
    rotate_left
    · intro w hSw; obtain ⟨c0, c1, c2⟩ := hSw; go_simp; (try with_reducible rfl)
    (try simp only [Act.put])
    refine wpAnyH_take (i := 2) (v := ?_) rfl (by kernel_rfl) (by kernel_rfl) (by kernel_rfl) (fun _ _ _ h => h) (Or.inl ⟨by kernel_rfl, ?_⟩) (by assumption) ?_
    rotate_left
    · intro w hSw; obtain ⟨c0, c1, c2⟩ := hSw; go_simp; (try with_reducible rfl)
    (try simp only [Act.put])
    refine wpAnyH_take (i := 3) (v := ?_) rfl (by kernel_rfl) (by kernel_rfl) (by kernel_rfl) (fun _ _ _ h => h) (Or.inl ⟨by kernel_rfl, ?_⟩) (by assumption) ?_
    rotate_left
    · intro w hSw; obtain ⟨c0, c1, c2⟩ := hSw; go_simp; (try with_reducible rfl)
    (try simp only [Act.put])
    refine wpAnyH_take (i := 4) (v := ?_) rfl (by kernel_rfl) (by kernel_rfl) (by kernel_rfl) (fun _ _ _ h => h) (Or.inl ⟨by kernel_rfl, ?_⟩) (by assumption) ?_
    rotate_left
    · intro w hSw; obtain ⟨c0, c1, c2⟩ := hSw; go_simp; (try with_reducible rfl)
    (try simp only [Act.put])
    refine wpAnyH_take (i := 5) (v := ?_) rfl (by kernel_rfl) (by kernel_rfl) (by kernel_rfl) (fun _ _ _ h => h) (Or.inl ⟨by kernel_rfl, ?_⟩) (by assumption) ?_
    rotate_left
    · intro w hSw; obtain ⟨c0, c1, c2⟩ := hSw; go_simp; (try with_reducible rfl)
    (try simp only [Act.put])
    refine wpAnyH_take (i := 6) (v := ?_) rfl (by kernel_rfl) (by kernel_rfl) (by kernel_rfl) (fun _ _ _ h => h) (Or.inl ⟨by kernel_rfl, ?_⟩) (by assumption) ?_
    rotate_left
    · intro w hSw; obtain ⟨c0, c1, c2⟩ := hSw; go_simp; (try with_reducible rfl)
    (try simp only [Act.put])
    refine wpAnyH_take (i := 7) (v := ?_) rfl (by kernel_rfl) (by kernel_rfl) (by kernel_rfl) (fun _ _ _ h => h) (Or.inl ⟨by kernel_rfl, ?_⟩) (by assumption) ?_
    rotate_left
    · intro w hSw; obtain ⟨c0, c1, c2⟩ := hSw; go_simp; (try with_reducible rfl)
    (try simp only [Act.put])
    refine wpAnyH_take (i := 8) (v := ?_) rfl (by kernel_rfl) (by kernel_rfl) (by kernel_rfl) (fun _ _ _ h => h) (Or.inl ⟨by kernel_rfl, ?_⟩) (by assumption) ?_
    rotate_left
    · intro w hSw; obtain ⟨c0, c1, c2⟩ := hSw; go_simp; (try with_reducible rfl)
    (try simp only [Act.put])
    refine wpAnyH_take (i := 9) (v := ?_) rfl (by kernel_rfl) (by kernel_rfl) (by kernel_rfl) (fun _ _ _ h => h) (Or.inl ⟨by kernel_rfl, ?_⟩) (by assumption) ?_
    rotate_left
    · intro w hSw; obtain ⟨c0, c1, c2⟩ := hSw; go_simp; (try with_reducible rfl)
    (try simp only [Act.put])
    refine wpAnyH_ready (rs := [10]) (by kernel_rfl) (by simp) ?_
    refine AllReadyH.cons (o := { dst := none, op := Op.store 3 (.tmp 69) (.tmp 62), type := 0, pos := "release.go:42", after := _, guard := none }) rfl ?_ AllReadyH.nil
    intro K hK
    have HK := Lib.hid hK
    clear hK
    simp only [Region.wanted, if_true]
    go_simp
    refine HK.out.out _ _ HU1.out ?_
    intro hHeld1
    clear HK
    (try simp only [Act.put, List.setIfInBounds_toArray, List.set_cons_zero, List.set_cons_succ])
    refine wpAnyH_take (i := 11) (v := ?_) rfl (by kernel_rfl) (by kernel_rfl) (by kernel_rfl) (fun _ _ _ h => h) (Or.inl ⟨by kernel_rfl, ?_⟩) (by assumption) ?_
    rotate_left
    · intro w hSw; obtain ⟨c0, c1, c2⟩ := hSw; go_simp; (try with_reducible rfl)
    (try simp only [Act.put, List.setIfInBounds_toArray])
    refine wpAnyH_ready (rs := [12]) (by kernel_rfl) (by simp) ?_
    refine AllReadyH.cons (o := { dst := none, op := Op.store 3 (.tmp 70) (.tmp 65), type := 0, pos := "release.go:42", after := _, guard := none }) rfl ?_ AllReadyH.nil
    intro K hK
    have HK := Lib.hid hK
    clear hK
    simp only [Region.wanted, if_true]
    go_simp
    refine HK.out.out _ _ HU2.out ?_
    intro hHeld2
    clear HK
    (try simp only [Act.put, List.setIfInBounds_toArray, List.set_cons_zero, List.set_cons_succ])
    refine wpAnyH_take (i := 13) (v := ?_) rfl (by kernel_rfl) (by kernel_rfl) (by kernel_rfl) (fun _ _ _ h => h) (Or.inl ⟨by kernel_rfl, ?_⟩) (by assumption) ?_
    rotate_left
    · intro w hSw; obtain ⟨c0, c1, c2⟩ := hSw; go_simp; (try with_reducible rfl)
    (try simp only [Act.put, List.setIfInBounds_toArray])
    refine wpAnyH_ready (rs := [14]) (by kernel_rfl) (by simp) ?_
    refine AllReadyH.cons (o := { dst := none, op := Op.store 3 (.tmp 71) (.tmp 68), type := 0, pos := "release.go:42", after := _, guard := none }) rfl ?_ AllReadyH.nil
    intro K hK
    have HK := Lib.hid hK
    clear hK
    simp only [Region.wanted, if_true]
    go_simp
    refine HK.out.out _ _ HU3.out ?_
    intro hHeld3
    clear HK
    (try simp only [Act.put, List.setIfInBounds_toArray, List.set_cons_zero, List.set_cons_succ])
    refine wpAnyH_done (by kernel_rfl) ?_ _
    (try simp only [List.getElem_toArray, List.getElem_cons_succ, List.getElem_cons_zero, List.setIfInBounds_toArray, List.set_cons_zero, List.set_cons_succ])
    go_wp2_with fail
    go_meet
    exact ⟨HBZ.out, HWZ.out⟩
  case rest =>
    obtain ⟨hbx, hbw⟩ := hcut
    have HBX := Lib.hid hbx
    have HBW := Lib.hid hbw
    have hVc := HV.out.keep hbw
    have hlw := HBX.out.lt
    obtain ⟨m0, m1, m2, m3, m4, p0, p1, p2, p3, p4⟩ := hbx
    cases has
    · have HP0 := Lib.hid (show P = [] by rw [HPP.out]; rfl)
      have HQE := Lib.hid (show RE = 0 by rw [HRE.out, HP0.out]; rfl)
      have HQX := Lib.hid (show RX = ⟨J, n1, n2, n3, []⟩ by rw [HRX.out, HP0.out]; rfl)
      go_wp2_with fail
      refine bodyPost_ret (results_vr rfl _ _ _ rfl rfl (((((HBX.out.set0 _).set1 _).set2 _).set3 _).set4 _)) rfl ?_
      have hwE := fun (t0 t1 t2 t3 t4 : Value) => (((((HBW.out.setCell (p := ⟨w.heap.size, 0, none⟩) (Nat.le_refl _) t0).setCell (p := ⟨w.heap.size, 1, none⟩) (Nat.le_refl _) t1).setCell (p := ⟨w.heap.size, 2, none⟩) (Nat.le_refl _) t2).setCell (p := ⟨w.heap.size, 3, none⟩) (Nat.le_refl _) t3).setCell (p := ⟨w.heap.size, 4, none⟩) (Nat.le_refl _) t4)
      rw [HQE.out, HQX.out]
      exact ⟨_, rfl, ⟨_, _, _, rfl, SlG.nil _, fun a e => by cases e⟩, hwE _ _ _ _ _⟩
    · have HP1 := Lib.hid (show P = splitL PR 46 by rw [HPP.out]; rfl)
      have HSP := Lib.hid (fun (W : World) (h : Env W) => split_any PR 46 W hPR h)
      rw [← HP1.out] at HSP
      have HKF := Lib.hid (fun (v : Value) (W : World) (h : SlG encS 1 fitP W v P) => containsF36 v P W h)
      by_cases h5 : 5 < P.length
      · have d5 : decide ((5 : Int) < (P.length : Int)) = true := by simp; omega
        have HQE := Lib.hid (show RE = 8 by rw [HRE.out, if_pos (Or.inl h5)])
        have HQX := Lib.hid (show RX = vr0 by rw [HRX.out, if_pos (Or.inl h5)])
        clear h5
        go_wp2_with (go_at_call 34; (with_reducible refine (HSP.out _ hVc).mono ?_); rintro e w8 ⟨g8, n8, rfl, hn8, hsl8, hg8, hb8⟩; subst hn8; have HB8 := Lib.hid (HBX.out.below hb8); have y0 := HB8.out.c0; have z0 := HB8.out.f0; have y1 := HB8.out.c1; have z1 := HB8.out.f1; have y2 := HB8.out.c2; have z2 := HB8.out.f2; have y3 := HB8.out.c3; have z3 := HB8.out.f3; have y4 := HB8.out.c4; have z4 := HB8.out.f4)
        refine bodyPost_ret (results_vr rfl _ _ _ rfl rfl ((((((HB8.out.set4 _).set0 _).set1 _).set2 _).set3 _).set4 _)) rfl ?_
        have hwE := fun (t0 t1 t2 t3 t4 : Value) => (((((((below_call HBW.out HBW.out.size hb8).setCell (p := ⟨w.heap.size, 4, none⟩) (Nat.le_refl _) (.slice (some ⟨g8, 0, none⟩) P.length P.length)).setCell (p := ⟨w.heap.size, 0, none⟩) (Nat.le_refl _) t0).setCell (p := ⟨w.heap.size, 1, none⟩) (Nat.le_refl _) t1).setCell (p := ⟨w.heap.size, 2, none⟩) (Nat.le_refl _) t2).setCell (p := ⟨w.heap.size, 3, none⟩) (Nat.le_refl _) t3).setCell (p := ⟨w.heap.size, 4, none⟩) (Nat.le_refl _) t4)
        rw [HQE.out, HQX.out]
        exact ⟨_, rfl, VrN.zero _ _, hwE _ _ _ _ _⟩
      · have d5 : decide ((5 : Int) < (P.length : Int)) = false := by simp; omega
        cases hab : anyBad P
        · have HQE := Lib.hid (show RE = 0 by rw [HRE.out, if_neg (by rw [hab]; rintro (h | h); exact h5 h; cases h)])
          have HQX := Lib.hid (show RX = ⟨J, n1, n2, n3, P⟩ by rw [HRX.out, if_neg (by rw [hab]; rintro (h | h); exact h5 h; cases h)])
          rw [hab] at HKF
          clear h5 hab
          go_wp2_with (first
            | (go_at_call 34; (with_reducible refine (HSP.out _ hVc).mono ?_); rintro e w8 ⟨g8, n8, rfl, hn8, hsl8, hg8, hb8⟩; subst hn8; have HB8 := Lib.hid (HBX.out.below hb8); have HS8 := Lib.hid (HB8.out.set4 (.slice (some ⟨g8, 0, none⟩) P.length P.length)); have hwS := (below_call HBW.out HBW.out.size hb8).setCell (p := ⟨w.heap.size, 4, none⟩) (Nat.le_refl _) (.slice (some ⟨g8, 0, none⟩) P.length P.length); have hneq : (∀ a, (some (⟨g8, 0, none⟩ : Addr)) = some a → a.block ≠ w.heap.size) := (fun a e => by cases e; show g8 ≠ w.heap.size; omega); have hnew : (∀ a, (some (⟨g8, 0, none⟩ : Addr)) = some a → w.heap.size ≤ a.block) := (fun a e => by cases e; show w.heap.size ≤ g8; omega); have hslS := slG_set hsl8 hneq (o := 4) (v := .slice (some ⟨g8, 0, none⟩) P.length P.length); have y0 := HB8.out.c0; have z0 := HB8.out.f0; have y1 := HB8.out.c1; have z1 := HB8.out.f1; have y2 := HB8.out.c2; have z2 := HB8.out.f2; have y3 := HB8.out.c3; have z3 := HB8.out.f3; have y4 := HB8.out.c4; have z4 := HB8.out.f4)
            | (go_at_call 15; (with_reducible refine (HKF.out _ _ hslS).mono ?_); rintro e w9 ⟨rfl, hb9⟩; have HB9 := Lib.hid (HS8.out.below hb9); have hw9 := below_call hwS hwS.size hb9; have HSF := Lib.hid (hslS.below (Nat.le_refl _) hb9); clear y0 y1 y2 y3 y4 z0 z1 z2 z3 z4; have q0 := HB9.out.c0; have r0 := HB9.out.f0; have q1 := HB9.out.c1; have r1 := HB9.out.f1; have q2 := HB9.out.c2; have r2 := HB9.out.f2; have q3 := HB9.out.c3; have r3 := HB9.out.f3; have q4 := HB9.out.c4; have r4 := HB9.out.f4))
          refine bodyPost_ret (results_vr rfl _ _ _ rfl rfl (((((HB9.out.set0 _).set1 _).set2 _).set3 _).set4 _)) rfl ?_
          have hwE := fun (t0 t1 t2 t3 t4 : Value) => (((((hw9.setCell (p := ⟨w.heap.size, 0, none⟩) (Nat.le_refl _) t0).setCell (p := ⟨w.heap.size, 1, none⟩) (Nat.le_refl _) t1).setCell (p := ⟨w.heap.size, 2, none⟩) (Nat.le_refl _) t2).setCell (p := ⟨w.heap.size, 3, none⟩) (Nat.le_refl _) t3).setCell (p := ⟨w.heap.size, 4, none⟩) (Nat.le_refl _) t4)
          have hsE := fun (t0 t1 t2 t3 t4 : Value) => slG_set (slG_set (slG_set (slG_set (slG_set HSF.out hneq (o := 0) (v := t0)) hneq (o := 1) (v := t1)) hneq (o := 2) (v := t2)) hneq (o := 3) (v := t3)) hneq (o := 4) (v := t4)
          rw [HQE.out, HQX.out]
          exact ⟨_, rfl, ⟨_, _, _, rfl, hsE _ _ _ _ _, hnew⟩, hwE _ _ _ _ _⟩
        · have HQE := Lib.hid (show RE = 8 by rw [HRE.out, if_pos (Or.inr hab)])
          have HQX := Lib.hid (show RX = vr0 by rw [HRX.out, if_pos (Or.inr hab)])
          rw [hab] at HKF
          clear h5 hab
          go_wp2_with (first
            | (go_at_call 34; (with_reducible refine (HSP.out _ hVc).mono ?_); rintro e w8 ⟨g8, n8, rfl, hn8, hsl8, hg8, hb8⟩; subst hn8; have HB8 := Lib.hid (HBX.out.below hb8); have HS8 := Lib.hid (HB8.out.set4 (.slice (some ⟨g8, 0, none⟩) P.length P.length)); have hwS := (below_call HBW.out HBW.out.size hb8).setCell (p := ⟨w.heap.size, 4, none⟩) (Nat.le_refl _) (.slice (some ⟨g8, 0, none⟩) P.length P.length); have hneq : (∀ a, (some (⟨g8, 0, none⟩ : Addr)) = some a → a.block ≠ w.heap.size) := (fun a e => by cases e; show g8 ≠ w.heap.size; omega); have hnew : (∀ a, (some (⟨g8, 0, none⟩ : Addr)) = some a → w.heap.size ≤ a.block) := (fun a e => by cases e; show w.heap.size ≤ g8; omega); have hslS := slG_set hsl8 hneq (o := 4) (v := .slice (some ⟨g8, 0, none⟩) P.length P.length); have y0 := HB8.out.c0; have z0 := HB8.out.f0; have y1 := HB8.out.c1; have z1 := HB8.out.f1; have y2 := HB8.out.c2; have z2 := HB8.out.f2; have y3 := HB8.out.c3; have z3 := HB8.out.f3; have y4 := HB8.out.c4; have z4 := HB8.out.f4)
            | (go_at_call 15; (with_reducible refine (HKF.out _ _ hslS).mono ?_); rintro e w9 ⟨rfl, hb9⟩; have HB9 := Lib.hid (HS8.out.below hb9); have hw9 := below_call hwS hwS.size hb9; have HSF := Lib.hid (hslS.below (Nat.le_refl _) hb9); clear y0 y1 y2 y3 y4 z0 z1 z2 z3 z4; have q0 := HB9.out.c0; have r0 := HB9.out.f0; have q1 := HB9.out.c1; have r1 := HB9.out.f1; have q2 := HB9.out.c2; have r2 := HB9.out.f2; have q3 := HB9.out.c3; have r3 := HB9.out.f3; have q4 := HB9.out.c4; have r4 := HB9.out.f4))
          refine bodyPost_ret (results_vr rfl _ _ _ rfl rfl (((((HB9.out.set0 _).set1 _).set2 _).set3 _).set4 _)) rfl ?_
          have hwE := fun (t0 t1 t2 t3 t4 : Value) => (((((hw9.setCell (p := ⟨w.heap.size, 0, none⟩) (Nat.le_refl _) t0).setCell (p := ⟨w.heap.size, 1, none⟩) (Nat.le_refl _) t1).setCell (p := ⟨w.heap.size, 2, none⟩) (Nat.le_refl _) t2).setCell (p := ⟨w.heap.size, 3, none⟩) (Nat.le_refl _) t3).setCell (p := ⟨w.heap.size, 4, none⟩) (Nat.le_refl _) t4)
          rw [HQE.out, HQX.out]
          exact ⟨_, rfl, VrN.zero _ _, hwE _ _ _ _ _⟩
end Go.Proofs.YtnpnoohnkbpokaaGreatDoor

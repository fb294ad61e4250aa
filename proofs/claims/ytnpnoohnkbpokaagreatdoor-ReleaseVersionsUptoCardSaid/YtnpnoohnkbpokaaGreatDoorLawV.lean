/- The law ReleaseVersions, walked. -/
import Derived.Test.YtnpnoohnkbpokaaGreatDoorLawVA
import Derived.Deep.RegionHeld3
namespace Go.Proofs.YtnpnoohnkbpokaaGreatDoor
open Go.RowKit Go.Lib

/-- The two boxes of the arguments, and all that was there. -/
structure LS (w W : World) (x0 : ByteArray) (x1 x2 x3 : Int) (x4 : Value) (y0 : ByteArray) (y1 y2 y3 : Int) (y4 : Value) : Prop where
  bx : Bx5 W w.heap.size (.string x0) (.int .i64 x1) (.int .i64 x2) (.int .i64 x3) x4
  ux : Bx5 W (w.heap.size + 1) (.string y0) (.int .i64 y1) (.int .i64 y2) (.int .i64 y3) y4
  bw : Below w.heap.size w W
theorem LS.drew {w W : World} {x0 : ByteArray} {x1 x2 x3 : Int} {x4 : Value} {y0 : ByteArray} {y1 y2 y3 : Int} {y4 : Value} (h : LS w W x0 x1 x2 x3 x4 y0 y1 y2 y3 y4) : LS w W.drew x0 x1 x2 x3 x4 y0 y1 y2 y3 y4 := ⟨h.bx.drew, h.ux.drew, h.bw.drew⟩
theorem LS.below {w W W' : World} {x0 : ByteArray} {x1 x2 x3 : Int} {x4 : Value} {y0 : ByteArray} {y1 y2 y3 : Int} {y4 : Value} (h : LS w W x0 x1 x2 x3 x4 y0 y1 y2 y3 y4) (hb : Below W.heap.size W W') : LS w W' x0 x1 x2 x3 x4 y0 y1 y2 y3 y4 := ⟨h.bx.below hb, h.ux.below hb, below_call h.bw h.bw.size hb⟩

theorem vrv_mk {w : World} {V0 : ByteArray} {V1 V2 V3 : Int} {V4 : List ByteArray} {p : Value} (h : SlG encS 1 fitP w p V4) : VrV w (.agg #[.string V0, .int .i64 V1, .int .i64 V2, .int .i64 V3, p]) ⟨V0, V1, V2, V3, V4⟩ := ⟨p, rfl, h⟩
set_option maxHeartbeats 4000000 in
set_option maxRecDepth 100000 in
theorem versions_law (v u : Value) (x y : Vr) (s : ByteArray) (w : World) (h1 : VrV w v x) (h2 : VrV w u y) (he : Env w) (hz : x.pj.size ≤ 1048576) (hs : s.size ≤ 1048576) :
    Calls Tryz.prog 3 #[v, u, .string s] w fun e w' => e = .returned (.bool true) ∧ Below w.heap.size w w' := by
  obtain ⟨p, rfl, hsl⟩ := h1
  obtain ⟨q, rfl, hsm⟩ := h2
  obtain ⟨a, cap, rfl, _⟩ := id hsl
  obtain ⟨b, cup, rfl, _⟩ := id hsm
  have H4 := Lib.hid (fun (W : World) (hW : Below w.heap.size w W) => Text_any _ x W ⟨_, rfl, hsl.below (Nat.le_refl _) hW⟩ (he.keep hW) hz)
  have H5 := Lib.hid (fun (W : World) (hW : Below w.heap.size w W) => VText_any _ x W ⟨_, rfl, hsl.below (Nat.le_refl _) hW⟩ (he.keep hW) hz)
  have H7 := Lib.hid (fun (W : World) (hW : Below w.heap.size w W) => Compare_any _ _ x y W ⟨_, rfl, hsl.below (Nat.le_refl _) hW⟩ ⟨_, rfl, hsm.below (Nat.le_refl _) hW⟩ (he.keep hW))
  have H8 := Lib.hid (fun (W : World) (hW : Below w.heap.size w W) => VCompare_any _ _ x y W ⟨_, rfl, hsl.below (Nat.le_refl _) hW⟩ ⟨_, rfl, hsm.below (Nat.le_refl _) hW⟩)
  have H6 := Lib.hid (fun (W : World) => told_same (txtOf x) (txtErr x) W (fun h => txt_none x h))
  have HTZ := Lib.hid (show (txtOf x).size ≤ 1048576 by have := txtOf_le x; omega)
  have H9 := Lib.hid (fun (X : ByteArray) (hX : X.size ≤ 1048576) (W : World) (hW : Below w.heap.size w W) => Parse_same X W hX (he.keep hW))
  have H10 := Lib.hid (fun (X : ByteArray) (hX : X.size ≤ 1048576) (W : World) (hW : Below w.heap.size w W) => VOf_same X W hX (he.keep hW))
  have HSZ := Lib.hid hs
  unfold TxtPost at H4 H5
  generalize txtOf x = T at *
  generalize txtErr x = E at *
  generalize cmpV x y = C at *
  obtain ⟨x0, x1, x2, x3, x4⟩ := x
  obtain ⟨y0, y1, y2, y3, y4⟩ := y
  simp only at H4 H5 H7 H8 hsl hsm hz ⊢
  have HA0 := Lib.hid (((Below.refl w.heap.size w).alloc (Nat.le_refl _) (.cells #[.string x0, .int .i64 x1, .int .i64 x2, .int .i64 x3, .slice a x4.length cap] 24)).alloc (by simp) (.cells #[.string y0, .int .i64 y1, .int .i64 y2, .int .i64 y3, .slice b y4.length cup] 24))
  have hBX := (bx5_new w (.string x0) (.int .i64 x1) (.int .i64 x2) (.int .i64 x3) (.slice a x4.length cap) 24).alloc (.cells #[.string y0, .int .i64 y1, .int .i64 y2, .int .i64 y3, .slice b y4.length cup] 24)
  have hUX := bx5_new (w.alloc (.cells #[.string x0, .int .i64 x1, .int .i64 x2, .int .i64 x3, .slice a x4.length cap] 24)) (.string y0) (.int .i64 y1) (.int .i64 y2) (.int .i64 y3) (.slice b y4.length cup) 24
  rw [show (w.alloc (.cells #[.string x0, .int .i64 x1, .int .i64 x2, .int .i64 x3, .slice a x4.length cap] 24)).heap.size = w.heap.size + 1 by simp] at hUX
  have HLS := Lib.hid (LS.mk hBX hUX HA0.out)
  clear hBX hUX hsl hsm he hz hs
  go_enter Tryz.func3, Tryz.ntmps3
  go_upto_region 3 with (first
    | (go_at_call 4; (with_reducible refine (H4.out _ HA0.out).mono ?_); rintro e w1 ⟨rfl, hb1⟩; have HL1 := Lib.hid (HLS.out.below hb1); have k0 := HL1.out.bx.c0; have k1 := HL1.out.bx.c1; have k2 := HL1.out.bx.c2; have k3 := HL1.out.bx.c3; have k4 := HL1.out.bx.c4)
    | (go_at_call 5; (with_reducible refine (H5.out _ HL1.out.bw).mono ?_); rintro e w2 ⟨rfl, hb2⟩; have HL2 := Lib.hid (HL1.out.below hb2)))
  refine wp_region_held_drew (S := (fun w' => LS w w' x0 x1 x2 x3 (.slice a x4.length cap) y0 y1 y2 y3 (.slice b y4.length cup))) (by kernel_rfl) ?_ (fun hHeld => ?_)
  · exact HL2.out.drew
  refine wpAnyH_take (i := 0) (v := ?_) rfl (by kernel_rfl) (by kernel_rfl) (by kernel_rfl) (fun _ _ _ h => h) (Or.inl ⟨by kernel_rfl, ?_⟩) (by assumption) ?_
  rotate_left
  · intro w hSw; obtain ⟨⟨c0, c1, c2, c3, c4, _⟩, ⟨d0, d1, d2, d3, d4, _⟩, _⟩ := hSw; go_simp; (try with_reducible rfl)
  (try simp only [Act.put, List.setIfInBounds_toArray])
  refine wpAnyH_take (i := 1) (v := ?_) rfl (by kernel_rfl) (by kernel_rfl) (by kernel_rfl) (fun _ _ _ h => h) (Or.inl ⟨by kernel_rfl, ?_⟩) (by assumption) ?_
  rotate_left
  · intro w hSw; obtain ⟨⟨c0, c1, c2, c3, c4, _⟩, ⟨d0, d1, d2, d3, d4, _⟩, _⟩ := hSw; go_simp; (try with_reducible rfl)
  (try simp only [Act.put])
  refine wpAnyH_take (i := 2) (v := ?_) rfl (by kernel_rfl) (by kernel_rfl) (by kernel_rfl) (fun _ _ _ h => h) (Or.inl ⟨by kernel_rfl, ?_⟩) (by assumption) ?_
  rotate_left
  · intro w hSw; obtain ⟨⟨c0, c1, c2, c3, c4, _⟩, ⟨d0, d1, d2, d3, d4, _⟩, _⟩ := hSw; go_simp; (try with_reducible rfl)
  (try simp only [Act.put])
  refine wpAnyH_take (i := 3) (v := ?_) rfl (by kernel_rfl) (by kernel_rfl) (by kernel_rfl) (fun _ _ _ h => h) (Or.inl ⟨by kernel_rfl, ?_⟩) (by assumption) ?_
  rotate_left
  · intro w hSw; obtain ⟨⟨c0, c1, c2, c3, c4, _⟩, ⟨d0, d1, d2, d3, d4, _⟩, _⟩ := hSw; go_simp; (try with_reducible rfl)
  (try simp only [Act.put])
  refine wpAnyH_ready (rs := [4]) (by kernel_rfl) (by simp) ?_
  refine AllReadyH.cons (o := { dst := some 31, op := Op.call { callee := .value (.func 6), args := #[.tmp 27, .tmp 28, .tmp 29, .tmp 30], argTypes := #[9, 25, 9, 25] }, type := 4, pos := "release.go:15", after := _, guard := none }) rfl ?_ AllReadyH.nil
  intro K hK
  have HK := Lib.hid hK
  clear hK
  simp only [Region.wanted, if_true]
  go_simp
  go_at_call 6; refine (H6.out _).mono ?_; rintro e w3 ⟨rfl, rfl⟩
  (try dsimp only)
  refine HK.out.out _ _ ?_ ?_
  · exact HL2.out.drew
  intro hHeld4
  clear HK
  (try simp only [Act.put, List.setIfInBounds_toArray, List.set_cons_zero, List.set_cons_succ])
  clear hHeld
  refine wpAnyH_take (i := 5) (v := ?_) rfl (by kernel_rfl) (by kernel_rfl) (by kernel_rfl) (fun _ _ _ h => h) (Or.inl ⟨by kernel_rfl, ?_⟩) (by assumption) ?_
  rotate_left
  · intro w hSw; obtain ⟨⟨c0, c1, c2, c3, c4, _⟩, ⟨d0, d1, d2, d3, d4, _⟩, _⟩ := hSw; go_simp; (try with_reducible rfl)
  (try simp only [Act.put, List.setIfInBounds_toArray])
  refine wpAnyH_take (i := 6) (v := ?_) rfl (by kernel_rfl) (by kernel_rfl) (by kernel_rfl) (fun _ _ _ h => h) (Or.inl ⟨by kernel_rfl, ?_⟩) (by assumption) ?_
  rotate_left
  · intro w hSw; obtain ⟨⟨c0, c1, c2, c3, c4, _⟩, ⟨d0, d1, d2, d3, d4, _⟩, _⟩ := hSw; go_simp; (try with_reducible rfl)
  (try simp only [Act.put])
  refine wpAnyH_take (i := 7) (v := ?_) rfl (by kernel_rfl) (by kernel_rfl) (by kernel_rfl) (fun _ _ _ h => h) (Or.inl ⟨by kernel_rfl, ?_⟩) (by assumption) ?_
  rotate_left
  · intro w hSw; obtain ⟨⟨c0, c1, c2, c3, c4, _⟩, ⟨d0, d1, d2, d3, d4, _⟩, _⟩ := hSw; go_simp; (try with_reducible rfl)
  (try simp only [Act.put])
  refine wpAnyH_take (i := 8) (v := ?_) rfl (by kernel_rfl) (by kernel_rfl) (by kernel_rfl) (fun _ _ _ h => h) (Or.inl ⟨by kernel_rfl, ?_⟩) (by assumption) ?_
  rotate_left
  · intro w hSw; obtain ⟨⟨c0, c1, c2, c3, c4, _⟩, ⟨d0, d1, d2, d3, d4, _⟩, _⟩ := hSw; go_simp; (try with_reducible rfl)
  (try simp only [Act.put])
  refine wpAnyH_take (i := 10) (v := ?_) rfl (by kernel_rfl) (by kernel_rfl) (by kernel_rfl) (fun _ _ _ h => h) (Or.inl ⟨by kernel_rfl, ?_⟩) (by assumption) ?_
  rotate_left
  · intro w hSw; obtain ⟨⟨c0, c1, c2, c3, c4, _⟩, ⟨d0, d1, d2, d3, d4, _⟩, _⟩ := hSw; go_simp; (try with_reducible rfl)
  (try simp only [Act.put])
  refine wpAnyH_take (i := 11) (v := ?_) rfl (by kernel_rfl) (by kernel_rfl) (by kernel_rfl) (fun _ _ _ h => h) (Or.inl ⟨by kernel_rfl, ?_⟩) (by assumption) ?_
  rotate_left
  · intro w hSw; obtain ⟨⟨c0, c1, c2, c3, c4, _⟩, ⟨d0, d1, d2, d3, d4, _⟩, _⟩ := hSw; go_simp; (try with_reducible rfl)
  (try simp only [Act.put])
  refine wpAnyH_ready (rs := [9]) (by kernel_rfl) (by simp) ?_
  refine AllReadyH.cons (o := { dst := some 36, op := Op.call { callee := .value (.func 7), args := #[.tmp 34, .tmp 35], argTypes := #[24, 24] }, type := 3, pos := "release.go:15", after := _, guard := some (6, false) }) rfl ?_ AllReadyH.nil
  intro K hK
  have HK := Lib.hid hK
  clear hK
  rw [if_pos (by kernel_rfl)]
  go_simp
  go_at_call 7; (with_reducible refine (H7.out _ HL2.out.drew.bw).mono ?_); rintro e w4 ⟨rfl, hb4⟩; have HL4 := Lib.hid (HL2.out.drew.below hb4)
  (try dsimp only)
  refine HK.out.out _ _ ?_ ?_
  · exact HL4.out
  intro hHeld9
  clear HK
  (try simp only [Act.put, List.setIfInBounds_toArray, List.set_cons_zero, List.set_cons_succ])
  clear hHeld4
  refine wpAnyH_ready (rs := [12]) (by kernel_rfl) (by simp) ?_
  refine AllReadyH.cons (o := { dst := some 39, op := Op.call { callee := .value (.func 8), args := #[.tmp 37, .tmp 38], argTypes := #[24, 24] }, type := 3, pos := "release.go:15", after := _, guard := some (6, false) }) rfl ?_ AllReadyH.nil
  intro K hK
  have HK := Lib.hid hK
  clear hK
  rw [if_pos (by kernel_rfl)]
  go_simp
  go_at_call 8; (with_reducible refine (H8.out _ HL4.out.bw).mono ?_); rintro e w5 ⟨rfl, hb5⟩; have HL5 := Lib.hid (HL4.out.below hb5)
  (try dsimp only)
  refine HK.out.out _ _ ?_ ?_
  · exact HL5.out
  intro hHeld12
  clear HK
  (try simp only [Act.put, List.setIfInBounds_toArray, List.set_cons_zero, List.set_cons_succ])
  clear hHeld9
  refine wpAnyH_take (i := 13) (v := ?_) rfl (by kernel_rfl) (by kernel_rfl) (by kernel_rfl) (fun _ _ _ h => h) (Or.inl ⟨by kernel_rfl, ?_⟩) (by assumption) ?_
  rotate_left
  · intro w hSw; obtain ⟨⟨c0, c1, c2, c3, c4, _⟩, ⟨d0, d1, d2, d3, d4, _⟩, _⟩ := hSw; go_simp; (try with_reducible rfl)
  (try simp only [Act.put, List.setIfInBounds_toArray])
  refine wpAnyH_take (i := 14) (v := ?_) rfl (by kernel_rfl) (by kernel_rfl) (by kernel_rfl) (fun _ _ _ h => h) (Or.inl ⟨by kernel_rfl, ?_⟩) (by assumption) ?_
  rotate_left
  · intro w hSw; obtain ⟨⟨c0, c1, c2, c3, c4, _⟩, ⟨d0, d1, d2, d3, d4, _⟩, _⟩ := hSw; go_simp; (try with_reducible rfl)
  (try simp only [Act.put])
  refine wpAnyH_done (by kernel_rfl) ?_ _
  (try simp only [List.getElem_toArray, List.getElem_cons_succ, List.getElem_cons_zero, List.setIfInBounds_toArray, List.set_cons_zero, List.set_cons_succ])
  have HB5 := Lib.hid HL5.out.bw
  have H11 := Lib.hid (fun (v u : Value) (x : Vr) (W : World) (h1 : VrV W v x) (h2 : VrV W u x) => same_any v u x W h1 h2)
  clear hHeld12 hb1 hb2 hb4 hb5 k0 k1 k2 k3 k4 HLS HL1 HL2 HL4 HL5 H4 H5 H6 H7 H8
  go_wp2_with fail
  go_loopw [46] (fun v wr => ∃ k : Nat, v = .int .i64 k ∧ k ≤ 2 ∧ wr.cell? ⟨w5.heap.size, 0, none⟩ = some (.string s) ∧ wr.cell? ⟨w5.heap.size, 1, none⟩ = some (.string T) ∧ Below w.heap.size w wr) (fun v _ => 2 - (RowKit.intOf v).toNat)
  case atStart => exact ⟨0, rfl, by omega, by go_simp, by go_simp, HB5.out.alloc HB5.out.size _⟩
  case round =>
    obtain ⟨k, rfl, hk, c0, c1, hbw⟩ := hrel
    by_cases hlt : k < 2
    · obtain ⟨X, hX, hXc⟩ : ∃ X : ByteArray, X.size ≤ 1048576 ∧ wr.cell? ⟨w5.heap.size, k, none⟩ = some (.string X) := by
        obtain rfl | rfl : k = 0 ∨ k = 1 := by omega
        · exact ⟨s, HSZ.out, c0⟩
        · exact ⟨T, HTZ.out, c1⟩
      have G9 := Lib.hid (fun W hW => H9.out X hX W hW)
      have G10 := Lib.hid (fun W hW => H10.out X hX W hW)
      have HC0 := Lib.hid c0
      have HC1 := Lib.hid c1
      clear c0 c1 hX H9 H10
      generalize verOf X = V at *
      generalize verErr X = F at *
      obtain ⟨V0, V1, V2, V3, V4⟩ := V
      go_wp2_with (first
        | (go_at_call 9; (with_reducible refine (G9.out _ hbw).mono ?_); rintro e w6 ⟨v6, rfl, ⟨p6, rfl, hs6⟩, hb6⟩; obtain ⟨a6, n6, rfl, _⟩ := id hs6; have hw6 := hb6.alloc hb6.size (.cells #[.string V0, .int .i64 V1, .int .i64 V2, .int .i64 V3, .slice a6 V4.length n6] 24); have HS6 := Lib.hid hs6; clear hs6)
        | (go_at_call 10; (with_reducible refine (G10.out _ (below_call hbw hbw.size hw6)).mono ?_); rintro e w7 ⟨v7, rfl, ⟨p7, rfl, hs7⟩, hb7⟩; obtain ⟨a7, n7, rfl, _⟩ := id hs7; have HX7 := Lib.hid ((bx5_new w6 (.string V0) (.int .i64 V1) (.int .i64 V2) (.int .i64 V3) (.slice a6 V4.length n6) 24).below hb7); have k0 := HX7.out.c0; have k1 := HX7.out.c1; have k2 := HX7.out.c2; have k3 := HX7.out.c3; have k4 := HX7.out.c4; have hl7 := HX7.out.lt; have hw7 := below_call hw6 hw6.size hb7; have hw8 := hw7.alloc hw7.size (.cells #[.string V0, .int .i64 V1, .int .i64 V2, .int .i64 V3, .slice a7 V4.length n7] 24); have HS7 := Lib.hid (SlG.below hs7 (Nat.le_refl _) ((Below.refl _ _).alloc (Nat.le_refl _) (.cells #[.string V0, .int .i64 V1, .int .i64 V2, .int .i64 V3, .slice a7 V4.length n7] 24))); have HS8 := Lib.hid (SlG.below HS6.out (Nat.le_refl _) (((((Below.refl w6.heap.size w6).alloc (Nat.le_refl _) _).trans (hb7.mono (by simp))).alloc (by have := hb7.size; simp at this; omega) (.cells #[.string V0, .int .i64 V1, .int .i64 V2, .int .i64 V3, .slice a7 V4.length n7] 24)))); have HV7 := Lib.hid (vrv_mk (V0 := V0) (V1 := V1) (V2 := V2) (V3 := V3) HS7.out); have HV8 := Lib.hid (vrv_mk (V0 := V0) (V1 := V1) (V2 := V2) (V3 := V3) HS8.out); clear hs7)
        | (go_at_call 11; (with_reducible refine (H11.out _ _ _ _ HV8.out HV7.out).mono ?_); rintro e w9 ⟨rfl, hb9⟩; have hw9 := below_call hw8 hw8.size hb9))
      exact ⟨⟨k + 1, by go_num, by omega, cell_keep HC0.out hw9, cell_keep HC1.out hw9, below_call hbw hbw.size hw9⟩, by simp [RowKit.intOf]; omega⟩
    · obtain rfl : k = 2 := by omega
      go_wp2_with fail
      go_ret
      exact ⟨rfl, hbw⟩
end Go.Proofs.YtnpnoohnkbpokaaGreatDoor

/- The table of the reference, and its pairs. -/
import Derived.Test.YtffjnomaebjbdaaMost
import Derived.Test.YtffjnomaebjbdaaPairs
import Derived.Deep.RegionHeld3
namespace Go.Proofs.Ytffjnomaebjbdaa
open Go.RowKit Go.Deep

theorem meas_step {n m x y : Nat} (hy : y < m) : (n - (intOf (.int .i64 (x : Int))).toNat) * (m + 1) + (m - (intOf (.int .i64 ((y : Int) + 1))).toNat) < (n - (intOf (.int .i64 (x : Int))).toNat) * (m + 1) + (m - (intOf (.int .i64 (y : Int))).toNat) := by
  simp only [intOf]; omega
theorem meas_next {n m x y j : Nat} (hx : x < n) (hy : y < m) : (n - (intOf (.int .i64 ((x : Int) + 1))).toNat) * (m + 1) + (m - (intOf (.int .i64 (j : Int))).toNat) < (n - (intOf (.int .i64 (x : Int))).toNat) * (m + 1) + (m - (intOf (.int .i64 (y : Int))).toNat) := by
  simp only [intOf]
  have e : ((n - (x : Int).toNat)) * (m + 1) = (n - ((x : Int) + 1).toNat) * (m + 1) + (m + 1) := by
    rw [← Nat.succ_mul]; congr 1; omega
  omega
theorem own_base {w : World} {B B' : Nat} {e : TypeId} {size : Nat} {v : Value} {n : Nat} {xs : List Value} (h : w.ownsRow B e size v n xs) (hB : B' ≤ B) : w.ownsRow B' e size v n xs := by
  obtain ⟨h1, h2⟩ := h
  refine ⟨h1, ?_⟩
  rcases h2 with h2 | ⟨g, cap, cur, hv, hg, r⟩
  · exact Or.inl h2
  · exact Or.inr ⟨g, cap, cur, hv, by omega, r⟩
theorem part_set2 {Z : Nat → Nat → Int} {k c : Nat} {u v : Int} (hv : v = Z k c) (r j : Nat) : (if r = k ∧ j = c then v else (if r = k ∧ j = c then u else part Z k (c + 1) r j)) = part Z k c r j := by
  rw [← part_set hv]
  split
  · rfl
  · rfl

set_option maxHeartbeats 40000000 in
set_option maxRecDepth 100000 in
theorem aligned_some (pa pb : Option Addr) (ba oa ca bb ob cb n m n1 m1 : Nat) (a b : List Fr) (w : World) (hn : a.length = n) (hm : b.length = m) (hn1 : n1 = n + 1) (hm1 : m1 = m + 1) (hpa : 0 < n → pa = some ⟨ba, oa, none⟩ ∧ ba < w.heap.size) (hpb : 0 < m → pb = some ⟨bb, ob, none⟩ ∧ bb < w.heap.size) (hla : n ≤ 200) (hlb : m ≤ 200) (hca : FrsAt w ba oa a) (hcb : FrsAt w bb ob b) :
    Calls Try.prog 32 #[.slice pa n ca, .slice pb m cb] w fun e w' => ∃ v, e = .returned v ∧ w'.ownsRow w.heap.size 62 2 v (prg a b n 0 0).length (cellsP (prg a b n 0 0)) ∧ Below w.heap.size w w' := by
  have hmk76 := run_make_row' (P := Try.prog) 76 79 (.slice none 0 0) 24 Try.underlying76 Try.info79 rfl .i64 .i64 n1 (by omega) (by omega)
  have hmk79 := run_make_row' (P := Try.prog) 79 3 (.int .i64 0) 8 Try.underlying79 Try.info3 rfl .i64 .i64 m1 (by omega) (by omega)
  rw [show ((n1 : Nat) : Int) = (n : Int) + 1 by omega] at hmk76
  rw [show ((m1 : Nat) : Int) = (m : Int) + 1 by omega] at hmk79
  have HZm := Lib.hid (show ∀ r, Zf a b r m = 0 from fun r => by unfold Zf; rw [T_b a b r (by omega)]; rfl)
  have HZn := Lib.hid (show ∀ j, Zf a b n j = 0 from fun j => by unfold Zf; rw [T_a a b j (by omega)]; rfl)
  have hF0 := fun G => Ful.start (n1 := n1) (m1 := m1) (G := G) (tr := 79) (ti := 3) (Nat.le_refl _) (Below.refl w.heap.size w) (fun _ _ => 0)
  have HF0 := Lib.hid hF0
  clear hF0
  have HN1 := Lib.hid hn1
  have HM1 := Lib.hid hm1
  have hn1a : n1 ≤ n + 1 := by omega
  have hn1b : n + 1 ≤ n1 := by omega
  have hm1a : m1 ≤ m + 1 := by omega
  have hm1b : m + 1 ≤ m1 := by omega
  clear hn1 hm1
  go_enter Try.func32, Try.ntmps32
  go_wp2_with fail
  go_loopw [20] (fun v wr => ∃ (i : Nat) (G : Nat → Nat), i ≤ n1 ∧ v = .int .i64 i ∧ Ful w.heap.size w wr 79 3 w.heap.size n1 m1 i G (fun _ _ => 0)) (fun v _ => n1 - (intOf v).toNat)
  case atStart => exact ⟨0, id, Nat.zero_le _, rfl, HF0.out id⟩
  case round =>
    obtain ⟨wo, rfl⟩ : ∃ wo : World, wo = wr := ⟨_, rfl⟩
    obtain ⟨i, G, hi, rfl, hF⟩ := hrel
    by_cases hlt : i < n1
    · have HR := Lib.hid (hF.make (fun _ _ => rfl))
      have c1 := hF.row_nil (Nat.le_refl i) hlt (.cells (madeCells #[.int .i64 0] m1) 3)
      have c2 := hF.row_frozen i (.cells (madeCells #[.int .i64 0] m1) 3)
      have HF := Lib.hid hF
      clear hF
      go_wp2_with fail
      exact ⟨⟨i + 1, _, by omega, by go_num, HR.out⟩, by simp [intOf]; omega⟩
    · obtain rfl : n1 = i := by omega
      have HF2 := Lib.hid <| hF.congr (F' := part (Zf a b) n 0) (fun r j hr hj => part_none HZn.out r j (by have := HN1.out; omega))
      have HF := Lib.hid hF
      clear hF
      go_wp2_with fail

      go_loopw [7] (fun v wr => ∃ k : Nat, k ≤ n ∧ v = .int .i64 ((k : Int) - 1) ∧ Ful w.heap.size w wr 79 3 w.heap.size n1 m1 n1 G (part (Zf a b) k 0)) (fun v _ => (intOf v + 1).toNat)
      case atStart => exact ⟨n, Nat.le_refl _, rfl, HF2.out⟩
      obtain ⟨k, hk, rfl, hF⟩ := hrel
      cases k with
      | zero =>
        have HFZ := Lib.hid (hF.congr (F' := Zf a b) (fun r j _ _ => part_all r j))
        clear hF
        have hT0 := HFZ.out.tab
        have HB0 := Lib.hid HFZ.out.since
        obtain ⟨i62, hi62, hz0, hz1, hz2⟩ := info_parts Try.info62
        clear HFZ
        obtain ⟨wm, rfl⟩ : ∃ wm : World, wm = wr := ⟨_, rfl⟩
        have HW := Lib.hid (show w.heap.size ≤ wm.heap.size from HB0.out.size)
        have h00 := hT0.row 0 (by omega)
        have z00 := hT0.cell 0 0 (by omega) (by omega)
        have HT := Lib.hid hT0
        clear hT0
        go_wp2_with fail
        go_loopw [9, 10, 11] (fun v9 v10 v11 wr => ∃ (i j : Nat) (acc : List (Nat × Nat)), i ≤ n ∧ j ≤ m ∧ acc.length ≤ i ∧ v10 = .int .i64 i ∧ v11 = .int .i64 j ∧ acc ++ prg a b (n - i) i j = prg a b n 0 0 ∧ wr.ownsRow wm.heap.size 62 2 v9 acc.length (cellsP acc) ∧ Below wm.heap.size wm wr) (fun _ v10 _ _ => n - (intOf v10).toNat)
        case atStart => exact ⟨0, 0, [], Nat.zero_le _, Nat.zero_le _, Nat.zero_le _, rfl, rfl, rfl, ⟨rfl, .inl ⟨rfl, rfl⟩⟩, Below.refl _ _⟩
        obtain ⟨wo, rfl⟩ : ∃ wo : World, wo = wr := ⟨_, rfl⟩
        obtain ⟨i, j, acc, hi, hj, hacc, rfl, rfl, heq, hown, hbw⟩ := hrel
        clear h00 z00
        have hTo := HT.out.below (Nat.le_refl _) hbw
        have hin1 : (i : Int) < (n1 : Int) := by omega
        have hjm1 : (j : Int) < (m1 : Int) := by omega
        have h0 := hTo.row i (by omega)
        have z0 := hTo.cell i j (by omega) (by omega)
        have HTo := Lib.hid hTo
        clear hTo
        have HEQ := Lib.hid heq
        clear heq
        have hzn : (0 : Int) ≤ Zf a b i j := by unfold Zf; omega
        by_cases hT : Zf a b i j = 0
        · have hT' : T a b i j = 0 := by unfold Zf at hT; omega
          have HX := Lib.hid (HEQ.out)
          rw [prg_zero hT', List.append_nil] at HX
          rw [hT] at z0
          clear hT hT'
          go_wp2_with fail
          go_ret
          rw [← HX.out]
          exact ⟨_, rfl, own_base hown HW.out, HB0.out.trans (hbw.mono HW.out)⟩
        · have hTp : (0 : Int) < Zf a b i j := by omega
          have hTn : 0 < T a b i j := by unfold Zf at hTp; omega
          have hi2 : i < n := by
            apply Classical.byContradiction; intro hh
            rw [T_a a b j (by omega)] at hTn; omega
          have hj2 : j < m := by
            apply Classical.byContradiction; intro hh
            rw [T_b a b i (by omega)] at hTn; omega
          clear hT
          go_wp2_with fail
          go_loopw [12, 13] (fun v12 v13 wx => ∃ x y : Nat, i ≤ x ∧ x < n ∧ j ≤ y ∧ y < m ∧ v12 = .int .i64 x ∧ v13 = .int .i64 y ∧ prg a b (n - i) i j = prg a b (n - x) x j ∧ T a b x j = T a b i j ∧ (∀ z (hz : z < b.length) (hx : x < a.length), j ≤ z → z < y → ¬ (alk a[x] b[z] = true ∧ T a b (x + 1) (z + 1) + 1 = T a b i j)) ∧ Below wo.heap.size wo wx) (fun v12 v13 _ => (n - (intOf v12).toNat) * (m + 1) + (m - (intOf v13).toNat))
          case atStart => exact ⟨i, j, Nat.le_refl _, hi2, Nat.le_refl _, hj2, rfl, rfl, rfl, rfl, fun z hz hx h1 h2 => by omega, Below.refl _ _⟩
          obtain ⟨x, y, hix, hxn, hjy, hym, rfl, rfl, hpr, htx, hno, hbx⟩ := hrel
          clear h0 z0
          have hTr := HTo.out.below (Nat.le_refl _) hbx
          have r1 := hTr.row (x + 1) (by omega)
          have r2 := hTr.row i (by omega)
          have z1 := hTr.cell (x + 1) (y + 1) (by omega) (by omega)
          have z2 := hTr.cell i j (by omega) (by omega)
          clear hTr
          obtain ⟨rfl, hba⟩ := hpa (by omega)
          obtain ⟨rfl, hbb⟩ := hpb (by omega)
          have hxa : x < a.length := by omega
          have hyb : y < b.length := by omega
          obtain ⟨a0, a1, a2, a3, a4, a5⟩ := (hca x hxa).below hba (HB0.out.trans ((hbw.trans (hbx.mono (by have := hbw.size; omega))).mono HW.out))
          obtain ⟨b0, b1, b2, b3, b4, b5⟩ := (hcb y hyb).below hbb (HB0.out.trans ((hbw.trans (hbx.mono (by have := hbw.size; omega))).mono HW.out))
          have hr : Below wr.heap.size wr wr := Below.refl _ _
          have HP := Lib.hid hpr
          have HTX := Lib.hid htx
          have HNO := Lib.hid hno
          clear hpr htx hno
          have hxz : (x : Int) < (n : Int) := by omega
          have hyz : (y : Int) < (m : Int) := by omega
          have hx1 : (x : Int) + 1 < (n1 : Int) := by omega
          have hy1 : (y : Int) + 1 < (m1 : Int) := by omega
          have hw1 : IntKind.i64.wrap ((x : Int) + 1) = (x : Int) + 1 := IntWalk.i64_in _ ⟨by omega, by omega⟩
          have hw2 : IntKind.i64.wrap ((y : Int) + 1) = (y : Int) + 1 := IntWalk.i64_in _ ⟨by omega, by omega⟩
          have hp1 : (0 : Int) ≤ (x : Int) + 1 := by omega
          have hp2 : (0 : Int) ≤ (y : Int) + 1 := by omega
          have hw3 : IntKind.i64.wrap (Zf a b (x + 1) (y + 1) + 1) = Zf a b (x + 1) (y + 1) + 1 := IntWalk.i64_in _ ⟨by unfold Zf; omega, by have := T_le a b a.length (x + 1) (y + 1) (by omega); unfold Zf; omega⟩
          have hw4 : IntKind.i64.wrap (Zf a b i j) = Zf a b i j := IntWalk.i64_in _ ⟨by unfold Zf; omega, by have := T_le a b a.length i j (by omega); unfold Zf; omega⟩
          have HA := Lib.hid (fun W => alike_R a[x] b[y] W)
          have HFND := Lib.hid (fun h1 h2 => prg_found (n := n - x - 1) hxa hyb hjy HTX.out h1 h2 (fun z hz => HNO.out z hz hxa))
          have HPASS := Lib.hid (fun (hz : ∀ z (hz : z < b.length), j ≤ z → ¬ (alk a[x] b[z] = true ∧ T a b (x + 1) (z + 1) + 1 = T a b i j)) => prg_pass (n := n - x - 1) hxa HTX.out hz)
          have HNO2 := Lib.hid (fun (hn : ¬ (alk a[x] b[y] = true ∧ T a b (x + 1) (y + 1) + 1 = T a b i j)) (z : Nat) (hz : z < b.length) (h1 : j ≤ z) (h2 : z < y + 1) => (show ¬ (alk a[x] b[z] = true ∧ T a b (x + 1) (z + 1) + 1 = T a b i j) by
            by_cases h3 : z = y
            · subst h3; exact hn
            · exact HNO.out z hz hxa h1 (by omega)))
          rcases ha : alk a[x] b[y] with _ | _
          · rw [ha] at HA
            have HNO3 := Lib.hid (HNO2.out (by rw [ha]; simp))
            clear ha
            have HPS := Lib.hid (fun (hye : y + 1 = m) => HPASS.out (fun z hz h1 => HNO3.out z hz h1 (by omega)))
            generalize hgx : a[x] = xx at *
            have HGX := Lib.hid hgx
            clear hgx
            generalize b[y] = yy at *
            go_wp2_with fail
            refine wp_region_held_drew (S := (fun w' => w'.cell? ⟨ba, oa + x * 6, none⟩ = some (.string xx.m) ∧ w'.cell? ⟨ba, oa + x * 6 + 1, none⟩ = some (.string xx.f) ∧ w'.cell? ⟨ba, oa + x * 6 + 2, none⟩ = some (.string xx.i) ∧ w'.cell? ⟨ba, oa + x * 6 + 3, none⟩ = some (.int .i64 xx.line) ∧ w'.cell? ⟨ba, oa + x * 6 + 4, none⟩ = some (.int .i64 xx.addr) ∧ w'.cell? ⟨ba, oa + x * 6 + 5, none⟩ = some (.bool xx.own) ∧
                w'.cell? ⟨bb, ob + y * 6, none⟩ = some (.string yy.m) ∧ w'.cell? ⟨bb, ob + y * 6 + 1, none⟩ = some (.string yy.f) ∧ w'.cell? ⟨bb, ob + y * 6 + 2, none⟩ = some (.string yy.i) ∧ w'.cell? ⟨bb, ob + y * 6 + 3, none⟩ = some (.int .i64 yy.line) ∧ w'.cell? ⟨bb, ob + y * 6 + 4, none⟩ = some (.int .i64 yy.addr) ∧ w'.cell? ⟨bb, ob + y * 6 + 5, none⟩ = some (.bool yy.own) ∧
                w'.cell? ⟨w.heap.size, x + 1, none⟩ = some (.slice (some ⟨G (x + 1), 0, none⟩) m1 m1) ∧ w'.cell? ⟨w.heap.size, i, none⟩ = some (.slice (some ⟨G i, 0, none⟩) m1 m1) ∧ w'.cell? ⟨G (x + 1), y + 1, none⟩ = some (.int .i64 (Zf a b (x + 1) (y + 1))) ∧ w'.cell? ⟨G i, j, none⟩ = some (.int .i64 (Zf a b i j)) ∧ Below wr.heap.size wr w')) (by kernel_rfl) ?_ (fun hHeld => ?_)
            · (repeat' apply And.intro) <;> first | assumption | exact Below.drew (by assumption) | exact cell_keep (by assumption) hbX | exact below_keep (by first | assumption | exact Below.drew (by assumption)) (Nat.le_refl _) hbX
            refine wpAnyH_take (i := 0) (v := ?_) rfl (by kernel_rfl) (by kernel_rfl) (by kernel_rfl) (fun _ _ _ h => h) (Or.inl ⟨by rfl, ?_⟩) (by assumption) ?_
            rotate_left
            · intro w hSw; (try dsimp only at hSw); go_simp; (try with_reducible rfl)
            (try simp only [Act.put, List.setIfInBounds_toArray])
            refine wpAnyH_take (i := 1) (v := ?_) rfl (by kernel_rfl) (by kernel_rfl) (by kernel_rfl) (fun _ _ _ h => h) (Or.inl ⟨by rfl, ?_⟩) (by assumption) ?_
            rotate_left
            · intro w hSw; (try dsimp only at hSw); go_simp; (try with_reducible rfl)
            (try simp only [Act.put])
            refine wpAnyH_take (i := 2) (v := ?_) rfl (by kernel_rfl) (by kernel_rfl) (by kernel_rfl) (fun _ _ _ h => h) (Or.inl ⟨by rfl, ?_⟩) (by assumption) ?_
            rotate_left
            · intro w hSw; (try dsimp only at hSw); go_simp; (try with_reducible rfl)
            (try simp only [Act.put])
            refine wpAnyH_take (i := 3) (v := ?_) rfl (by kernel_rfl) (by kernel_rfl) (by kernel_rfl) (fun _ _ _ h => h) (Or.inl ⟨by rfl, ?_⟩) (by assumption) ?_
            rotate_left
            · intro w hSw; (try dsimp only at hSw); go_simp; (try with_reducible rfl)
            (try simp only [Act.put])
            refine wpAnyH_take (i := 4) (v := ?_) rfl (by kernel_rfl) (by kernel_rfl) (by kernel_rfl) (fun _ _ _ h => h) (Or.inl ⟨by rfl, ?_⟩) (by assumption) ?_
            rotate_left
            · intro w hSw; (try dsimp only at hSw); go_simp; (try with_reducible rfl)
            (try simp only [Act.put])
            refine wpAnyH_take (i := 5) (v := ?_) rfl (by kernel_rfl) (by kernel_rfl) (by kernel_rfl) (fun _ _ _ h => h) (Or.inl ⟨by rfl, ?_⟩) (by assumption) ?_
            rotate_left
            · intro w hSw; (try dsimp only at hSw); go_simp; (try with_reducible rfl)
            (try simp only [Act.put])
            refine wpAnyH_take (i := 6) (v := ?_) rfl (by kernel_rfl) (by kernel_rfl) (by kernel_rfl) (fun _ _ _ h => h) (Or.inl ⟨by rfl, ?_⟩) (by assumption) ?_
            rotate_left
            · intro w hSw; (try dsimp only at hSw); go_simp; (try with_reducible rfl)
            (try simp only [Act.put])
            refine wpAnyH_take (i := 7) (v := ?_) rfl (by kernel_rfl) (by kernel_rfl) (by kernel_rfl) (fun _ _ _ h => h) (Or.inl ⟨by rfl, ?_⟩) (by assumption) ?_
            rotate_left
            · intro w hSw; (try dsimp only at hSw); go_simp; (try with_reducible rfl)
            (try simp only [Act.put])
            refine wpAnyH_ready (rs := [8]) (by kernel_rfl) (by simp) ?_
            refine AllReadyH.cons rfl (fun K hK => ?_) AllReadyH.nil
            go_simp
            (go_at_call 51; refine (HA.out _).mono ?_; rintro e w' ⟨rfl, hbX⟩)
            dsimp only
            refine hK.out _ _ ?_ (fun hHeld2 => ?_)
            · (repeat' apply And.intro) <;> first | assumption | exact Below.drew (by assumption) | exact cell_keep (by assumption) hbX | exact below_keep (by first | assumption | exact Below.drew (by assumption)) (Nat.le_refl _) hbX
            clear hK hHeld
            (try simp only [Act.put, List.setIfInBounds_toArray, List.set_cons_zero, List.set_cons_succ])
            refine wpAnyH_take (i := 9) (v := ?_) rfl (by kernel_rfl) (by kernel_rfl) (by kernel_rfl) (fun _ _ _ h => h) (Or.inl ⟨by rfl, ?_⟩) (by assumption) ?_
            rotate_left
            · intro w hSw; (try dsimp only at hSw); go_simp; (try with_reducible rfl)
            (try simp only [Act.put, List.setIfInBounds_toArray])
            refine wpAnyH_take (i := 10) (v := ?_) rfl (by kernel_rfl) (by kernel_rfl) (by kernel_rfl) (fun _ _ _ h => h) (Or.inl ⟨by rfl, ?_⟩) (by assumption) ?_
            rotate_left
            · intro w hSw; (try dsimp only at hSw); go_simp; (try with_reducible rfl)
            (try simp only [Act.put])
            refine wpAnyH_take (i := 11) (v := undef) rfl (by kernel_rfl) (by kernel_rfl) (by kernel_rfl) (fun _ _ _ h => h) (Or.inr ⟨by kernel_rfl, rfl⟩) (by assumption) ?_
            (try simp only [Act.put])
            refine wpAnyH_take (i := 12) (v := undef) rfl (by kernel_rfl) (by kernel_rfl) (by kernel_rfl) (fun _ _ _ h => h) (Or.inr ⟨by kernel_rfl, rfl⟩) (by assumption) ?_
            (try simp only [Act.put])
            refine wpAnyH_take (i := 13) (v := undef) rfl (by kernel_rfl) (by kernel_rfl) (by kernel_rfl) (fun _ _ _ h => h) (Or.inr ⟨by kernel_rfl, rfl⟩) (by assumption) ?_
            (try simp only [Act.put])
            refine wpAnyH_take (i := 14) (v := undef) rfl (by kernel_rfl) (by kernel_rfl) (by kernel_rfl) (fun _ _ _ h => h) (Or.inr ⟨by kernel_rfl, rfl⟩) (by assumption) ?_
            (try simp only [Act.put])
            refine wpAnyH_take (i := 15) (v := undef) rfl (by kernel_rfl) (by kernel_rfl) (by kernel_rfl) (fun _ _ _ h => h) (Or.inr ⟨by kernel_rfl, rfl⟩) (by assumption) ?_
            (try simp only [Act.put])
            refine wpAnyH_take (i := 16) (v := undef) rfl (by kernel_rfl) (by kernel_rfl) (by kernel_rfl) (fun _ _ _ h => h) (Or.inr ⟨by kernel_rfl, rfl⟩) (by assumption) ?_
            (try simp only [Act.put])
            refine wpAnyH_take (i := 17) (v := undef) rfl (by kernel_rfl) (by kernel_rfl) (by kernel_rfl) (fun _ _ _ h => h) (Or.inr ⟨by kernel_rfl, rfl⟩) (by assumption) ?_
            (try simp only [Act.put])
            refine wpAnyH_take (i := 18) (v := undef) rfl (by kernel_rfl) (by kernel_rfl) (by kernel_rfl) (fun _ _ _ h => h) (Or.inr ⟨by kernel_rfl, rfl⟩) (by assumption) ?_
            (try simp only [Act.put])
            refine wpAnyH_take (i := 19) (v := undef) rfl (by kernel_rfl) (by kernel_rfl) (by kernel_rfl) (fun _ _ _ h => h) (Or.inr ⟨by kernel_rfl, rfl⟩) (by assumption) ?_
            (try simp only [Act.put])
            refine wpAnyH_take (i := 20) (v := undef) rfl (by kernel_rfl) (by kernel_rfl) (by kernel_rfl) (fun _ _ _ h => h) (Or.inr ⟨by kernel_rfl, rfl⟩) (by assumption) ?_
            (try simp only [Act.put])
            refine wpAnyH_take (i := 21) (v := undef) rfl (by kernel_rfl) (by kernel_rfl) (by kernel_rfl) (fun _ _ _ h => h) (Or.inr ⟨by kernel_rfl, rfl⟩) (by assumption) ?_
            (try simp only [Act.put])
            refine wpAnyH_take (i := 22) (v := undef) rfl (by kernel_rfl) (by kernel_rfl) (by kernel_rfl) (fun _ _ _ h => h) (Or.inr ⟨by kernel_rfl, rfl⟩) (by assumption) ?_
            (try simp only [Act.put])
            refine wpAnyH_take (i := 23) (v := undef) rfl (by kernel_rfl) (by kernel_rfl) (by kernel_rfl) (fun _ _ _ h => h) (Or.inr ⟨by kernel_rfl, rfl⟩) (by assumption) ?_
            (try simp only [Act.put])
            refine wpAnyH_take (i := 24) (v := undef) rfl (by kernel_rfl) (by kernel_rfl) (by kernel_rfl) (fun _ _ _ h => h) (Or.inr ⟨by kernel_rfl, rfl⟩) (by assumption) ?_
            (try simp only [Act.put])
            refine wpAnyH_take (i := 25) (v := undef) rfl (by kernel_rfl) (by kernel_rfl) (by kernel_rfl) (fun _ _ _ h => h) (Or.inr ⟨by kernel_rfl, rfl⟩) (by assumption) ?_
            (try simp only [Act.put])
            refine wpAnyH_take (i := 26) (v := undef) rfl (by kernel_rfl) (by kernel_rfl) (by kernel_rfl) (fun _ _ _ h => h) (Or.inr ⟨by kernel_rfl, rfl⟩) (by assumption) ?_
            (try simp only [Act.put])
            refine wpAnyH_take (i := 27) (v := undef) rfl (by kernel_rfl) (by kernel_rfl) (by kernel_rfl) (fun _ _ _ h => h) (Or.inr ⟨by kernel_rfl, rfl⟩) (by assumption) ?_
            (try simp only [Act.put])
            refine wpAnyH_take (i := 28) (v := undef) rfl (by kernel_rfl) (by kernel_rfl) (by kernel_rfl) (fun _ _ _ h => h) (Or.inr ⟨by kernel_rfl, rfl⟩) (by assumption) ?_
            (try simp only [Act.put])
            refine wpAnyH_take (i := 29) (v := ?_) rfl (by kernel_rfl) (by kernel_rfl) (by kernel_rfl) (fun _ _ _ h => h) (Or.inl ⟨by rfl, ?_⟩) (by assumption) ?_
            rotate_left
            · intro w hSw; (try dsimp only at hSw); go_simp; (try with_reducible rfl)
            (try simp only [Act.put])
            refine wpAnyH_done (by kernel_rfl) ?_ _
            (try simp only [List.getElem_toArray, List.getElem_cons_succ, List.getElem_cons_zero, List.setIfInBounds_toArray, List.set_cons_zero, List.set_cons_succ])
            go_wp2_with fail
            · go_simp
              have hye : y + 1 = m := by have h := ‹((y : Int) + 1 == (m : Int)) = true›; rw [beq_iff_eq] at h; omega
              have hps := HPS.out hye
              have hxn2 : x + 1 < n := by
                apply Classical.byContradiction; intro hh
                have := hps.2
                rw [T_a a b j (by omega)] at this; omega
              have hB : Below wo.heap.size wo w' := hbx.trans ((Below.refl _ wr).drew.trans hbX |>.mono hbx.size)
              have hpx : prg a b (n - i) i j = prg a b (n - (x + 1)) (x + 1) j := by rw [HP.out, show n - x = n - x - 1 + 1 by omega, hps.1]; congr 1
              have HE1 := Lib.hid hpx
              have HE2 := Lib.hid hps.2
              clear hps hpx
              exact ⟨⟨x + 1, by omega, hxn2, j, Nat.le_refl _, hj2, by go_num, rfl, HE1.out, HE2.out, fun z hz hx h1 h2 => by omega, hB⟩, meas_next hxn hym⟩
            · go_simp
              have hye : ¬ y + 1 = m := by have h := ‹((y : Int) + 1 == (m : Int)) = false›; rw [beq_eq_false_iff_ne] at h; omega
              have hB : Below wo.heap.size wo w' := hbx.trans ((Below.refl _ wr).drew.trans hbX |>.mono hbx.size)
              exact ⟨⟨x, hix, hxn, y + 1, by omega, by omega, rfl, by go_num, HP.out, HTX.out, fun z hz _ h1 h2 => by have := HNO3.out z (by omega) h1 h2; rw [← HGX.out] at this; simpa using this, hB⟩, by simp only [intOf]; omega⟩
          · by_cases hq : Zf a b (x + 1) (y + 1) + 1 = Zf a b i j
            · have HF2 := Lib.hid (HFND.out ha (by unfold Zf at hq; omega))
              rw [ha] at HA
              clear ha
              generalize hgx : a[x] = xx at *
              have HGX := Lib.hid hgx
              clear hgx
              generalize b[y] = yy at *
              go_wp2_with fail
              go_region_held3 (fun w' => w'.cell? ⟨ba, oa + x * 6, none⟩ = some (.string xx.m) ∧ w'.cell? ⟨ba, oa + x * 6 + 1, none⟩ = some (.string xx.f) ∧ w'.cell? ⟨ba, oa + x * 6 + 2, none⟩ = some (.string xx.i) ∧ w'.cell? ⟨ba, oa + x * 6 + 3, none⟩ = some (.int .i64 xx.line) ∧ w'.cell? ⟨ba, oa + x * 6 + 4, none⟩ = some (.int .i64 xx.addr) ∧ w'.cell? ⟨ba, oa + x * 6 + 5, none⟩ = some (.bool xx.own) ∧
                    w'.cell? ⟨bb, ob + y * 6, none⟩ = some (.string yy.m) ∧ w'.cell? ⟨bb, ob + y * 6 + 1, none⟩ = some (.string yy.f) ∧ w'.cell? ⟨bb, ob + y * 6 + 2, none⟩ = some (.string yy.i) ∧ w'.cell? ⟨bb, ob + y * 6 + 3, none⟩ = some (.int .i64 yy.line) ∧ w'.cell? ⟨bb, ob + y * 6 + 4, none⟩ = some (.int .i64 yy.addr) ∧ w'.cell? ⟨bb, ob + y * 6 + 5, none⟩ = some (.bool yy.own) ∧
                    w'.cell? ⟨w.heap.size, x + 1, none⟩ = some (.slice (some ⟨G (x + 1), 0, none⟩) m1 m1) ∧ w'.cell? ⟨w.heap.size, i, none⟩ = some (.slice (some ⟨G i, 0, none⟩) m1 m1) ∧ w'.cell? ⟨G (x + 1), y + 1, none⟩ = some (.int .i64 (Zf a b (x + 1) (y + 1))) ∧ w'.cell? ⟨G i, j, none⟩ = some (.int .i64 (Zf a b i j)) ∧ Below wr.heap.size wr w')
                  ((repeat' apply And.intro) <;> first | assumption | exact Below.drew (by assumption) | exact cell_keep (by assumption) hbX | exact below_keep (by first | assumption | exact Below.drew (by assumption)) (Nat.le_refl _) hbX)
                  (first | (go_at_call 51; refine (HA.out _).mono ?_; rintro e w' ⟨rfl, hbX⟩))
              have hB : Below wr.heap.size wr w' := (Below.refl _ wr).drew.trans hbX
              have hown2 := (own_keeps (own_keeps hown hbx) hB).alloc (.cells #[.int .i64 x, .int .i64 y] 62)
              have hbm : Below wm.heap.size wm w' := (hbw.trans (hbx.mono hbw.size)).trans (hB.mono (Nat.le_trans hbw.size hbx.size))
              have hk1 : ∀ (q : Nat) (u : Value), [Value.int .i64 x, Value.int .i64 y][q]? = some u → (w'.alloc (.cells #[.int .i64 x, .int .i64 y] 62)).cell? (Addr.add ⟨w'.heap.size, 0, none⟩ q) = some u := by
                intro q u hq
                match q, hq with
                | 0, hq => simp at hq; subst hq; simp [Addr.add]
                | 1, hq => simp at hq; subst hq; simp [Addr.add]
              have hge := own_ge hown2
              have hone : ∀ u ∈ [Value.int .i64 x, Value.int .i64 y], u.oneCell' = true := by intro u hu; simp at hu; rcases hu with rfl | rfl <;> rfl
              have q1 : acc.length + 1 ≤ maxLen := by unfold maxLen; omega
              have q2 : (acc.length + 1) * 16 ≤ 140737488355328 := by omega
              have q3 : wm.heap.size ≤ (w'.alloc (.cells #[.int .i64 x, .int .i64 y] 62)).heap.size := by have := hbm.size; simp; omega
              clear hbX
              go_wp2_with (at_builtin; (refine wpList_append_own _ rfl _ _ 55 rfl wm.heap.size 62 i62 (.agg #[.int .i64 0, .int .i64 0]) 2 16 Try.underlying55 hi62 hz0 hz1 hz2 rfl (by decide) _ acc.length (cellsP acc) rfl hown2 ⟨w'.heap.size, 0, none⟩ 1 1 [.int .i64 x, .int .i64 y] rfl rfl hk1 hone q1 q2 q3 ?_; intro v' w3 hown3 hgrow _))
              go_simp
              refine ⟨⟨v', .int .i64 ((x : Int) + 1), .int .i64 ((y : Int) + 1), ⟨x + 1, by omega, y + 1, by omega, acc ++ [(x, y)], by rw [List.length_append]; simp only [List.length_singleton]; omega, by rw [Int.natCast_add]; rfl, by rw [Int.natCast_add]; rfl, ?_, ?_, ?_⟩, rfl, rfl, rfl⟩, by simp only [intOf]; omega⟩
              · rw [← HEQ.out, HP.out, show n - x = n - x - 1 + 1 by omega, HF2.out, List.append_assoc]; congr 1
              · rw [List.length_append, cellsP_snoc]; exact hown3
              · exact (hbm.alloc (by have := hbm.size; omega) _).grown hgrow (by have := hbm.size; simp; omega) hge
            · have HNO3 := Lib.hid (HNO2.out (fun h => hq (by unfold Zf; omega)))
              rw [ha] at HA
              clear ha
              have HPS := Lib.hid (fun (hye : y + 1 = m) => HPASS.out (fun z hz h1 => HNO3.out z hz h1 (by omega)))
              generalize hgx : a[x] = xx at *
              have HGX := Lib.hid hgx
              clear hgx
              generalize b[y] = yy at *
              go_wp2_with fail
              go_region_held3 (fun w' => w'.cell? ⟨ba, oa + x * 6, none⟩ = some (.string xx.m) ∧ w'.cell? ⟨ba, oa + x * 6 + 1, none⟩ = some (.string xx.f) ∧ w'.cell? ⟨ba, oa + x * 6 + 2, none⟩ = some (.string xx.i) ∧ w'.cell? ⟨ba, oa + x * 6 + 3, none⟩ = some (.int .i64 xx.line) ∧ w'.cell? ⟨ba, oa + x * 6 + 4, none⟩ = some (.int .i64 xx.addr) ∧ w'.cell? ⟨ba, oa + x * 6 + 5, none⟩ = some (.bool xx.own) ∧
                    w'.cell? ⟨bb, ob + y * 6, none⟩ = some (.string yy.m) ∧ w'.cell? ⟨bb, ob + y * 6 + 1, none⟩ = some (.string yy.f) ∧ w'.cell? ⟨bb, ob + y * 6 + 2, none⟩ = some (.string yy.i) ∧ w'.cell? ⟨bb, ob + y * 6 + 3, none⟩ = some (.int .i64 yy.line) ∧ w'.cell? ⟨bb, ob + y * 6 + 4, none⟩ = some (.int .i64 yy.addr) ∧ w'.cell? ⟨bb, ob + y * 6 + 5, none⟩ = some (.bool yy.own) ∧
                    w'.cell? ⟨w.heap.size, x + 1, none⟩ = some (.slice (some ⟨G (x + 1), 0, none⟩) m1 m1) ∧ w'.cell? ⟨w.heap.size, i, none⟩ = some (.slice (some ⟨G i, 0, none⟩) m1 m1) ∧ w'.cell? ⟨G (x + 1), y + 1, none⟩ = some (.int .i64 (Zf a b (x + 1) (y + 1))) ∧ w'.cell? ⟨G i, j, none⟩ = some (.int .i64 (Zf a b i j)) ∧ Below wr.heap.size wr w')
                  ((repeat' apply And.intro) <;> first | assumption | exact Below.drew (by assumption) | exact cell_keep (by assumption) hbX | exact below_keep (by first | assumption | exact Below.drew (by assumption)) (Nat.le_refl _) hbX)
                  (first | (go_at_call 51; refine (HA.out _).mono ?_; rintro e w' ⟨rfl, hbX⟩))
              go_wp2_with fail
              · go_simp
                have hye : y + 1 = m := by have h := ‹((y : Int) + 1 == (m : Int)) = true›; rw [beq_iff_eq] at h; omega
                have hps := HPS.out hye
                have hxn2 : x + 1 < n := by
                  apply Classical.byContradiction; intro hh
                  have := hps.2
                  rw [T_a a b j (by omega)] at this; omega
                have hB : Below wo.heap.size wo w' := hbx.trans ((Below.refl _ wr).drew.trans hbX |>.mono hbx.size)
                have hpx : prg a b (n - i) i j = prg a b (n - (x + 1)) (x + 1) j := by rw [HP.out, show n - x = n - x - 1 + 1 by omega, hps.1]; congr 1
                have HE1 := Lib.hid hpx
                have HE2 := Lib.hid hps.2
                clear hps hpx
                exact ⟨⟨x + 1, by omega, hxn2, j, Nat.le_refl _, hj2, by go_num, rfl, HE1.out, HE2.out, fun z hz hx h1 h2 => by omega, hB⟩, meas_next hxn hym⟩
              · go_simp
                have hye : ¬ y + 1 = m := by have h := ‹((y : Int) + 1 == (m : Int)) = false›; rw [beq_eq_false_iff_ne] at h; omega
                have hB : Below wo.heap.size wo w' := hbx.trans ((Below.refl _ wr).drew.trans hbX |>.mono hbx.size)
                exact ⟨⟨x, hix, hxn, y + 1, by omega, by omega, rfl, by go_num, HP.out, HTX.out, fun z hz _ h1 h2 => by have := HNO3.out z (by omega) h1 h2; rw [← HGX.out] at this; simpa using this, hB⟩, by simp only [intOf]; omega⟩
      | succ k =>
        rw [show ((k + 1 : Nat) : Int) - 1 = (k : Int) by omega]
        have HK := Lib.hid (hF.congr (F' := part (Zf a b) k m) (fun r j _ hj => part_row HZm.out r j (by have := HM1.out; omega)))
        clear hF
        have hkn : (k : Int) < (n1 : Int) := by omega
        go_wp2_with fail
        go_loopw [8] (fun v wi => ∃ c : Nat, c ≤ m ∧ v = .int .i64 ((c : Int) - 1) ∧ Ful w.heap.size w wi 79 3 w.heap.size n1 m1 n1 G (part (Zf a b) k c)) (fun v _ => (intOf v + 1).toNat)
        case atStart => exact ⟨m, Nat.le_refl _, rfl, HK.out⟩
        obtain ⟨c, hc, rfl, hI⟩ := hrel
        cases c with
        | zero =>
          have HI := Lib.hid hI
          clear hI
          go_wp2_with fail
          exact ⟨⟨k, by omega, rfl, HI.out⟩, by simp [intOf]⟩
        | succ c =>
          rw [show ((c + 1 : Nat) : Int) - 1 = (c : Int) by omega]
          obtain ⟨rfl, hba⟩ := hpa (by omega)
          obtain ⟨rfl, hbb⟩ := hpb (by omega)
          have hkz : (k : Int) < (n : Int) := by omega
          have hcz : (c : Int) < (m : Int) := by omega
          have hka : k < a.length := by omega
          have hcb' : c < b.length := by omega
          have HI := Lib.hid hI
          clear hI
          have HH := Lib.hid (fun h => T_hit' hka hcb' h)
          have HM := Lib.hid (fun h => T_miss hka hcb' h)
          have HT := Lib.hid (fun h => T_hit hka hcb' h)
          have hkz2 : (k : Int) + 1 < (n1 : Int) := by omega
          have hcz1 : (c : Int) < (m1 : Int) := by omega
          have hcz2 : (c : Int) + 1 < (m1 : Int) := by omega
          have hw1 : IntKind.i64.wrap ((k : Int) + 1) = (k : Int) + 1 := IntWalk.i64_in _ ⟨by omega, by omega⟩
          have hw2 : IntKind.i64.wrap ((c : Int) + 1) = (c : Int) + 1 := IntWalk.i64_in _ ⟨by omega, by omega⟩
          have hp1 : (0 : Int) ≤ (k : Int) + 1 := by omega
          have hp2 : (0 : Int) ≤ (c : Int) + 1 := by omega
          rcases ha : alk a[k] b[c] with _ | _
          · by_cases hmx : Zf a b (k + 1) c < Zf a b k (c + 1)
            · have HV := Lib.hid (show Zf a b k (c + 1) = Zf a b k c by have := HM.out ha; unfold Zf at hmx ⊢; rw [this]; omega)
              have hI := HI.out
              have r0 := hI.row_cell (r := k) (by omega) (by omega)
              have r1 := hI.row_cell (r := k + 1) (by omega) (by omega)
              have z1 : wr.cell? ⟨G (k + 1), c, none⟩ = some (.int .i64 (Zf a b (k + 1) c)) := by rw [hI.cell (by omega) (by omega), part_at (by omega)]
              have z2 : wr.cell? ⟨G k, c + 1, none⟩ = some (.int .i64 (Zf a b k (c + 1))) := by rw [hI.cell (by omega) (by omega), part_at (by omega)]
              clear hI
              go_wp2_with fail
              go_still_tail 23, (by kernel_rfl)
              change wpList _ _ _ _ _ wr.drew
              have hI3 := HI.out.on (Nat.le_refl _) ((Below.refl wr.heap.size wr).drew)
              clear r0 r1 z1 z2
              generalize wr.drew = wd at hI3 ⊢
              have s1 : wd.cell? ⟨G k, c, none⟩ = some (.int .i64 0) := by rw [hI3.cell (by omega) (by omega), part_zero (by omega)]
              have s2 := hI3.frozen (r := k) (by omega) c
              have HS := Lib.hid (fun v => hI3.set (k := k) (c := c) (by omega) v)
              clear hI3
              go_wp2_with fail
              have hJ := HS.out (Zf a b k (c + 1))
              clear s1 s2 HS
              generalize hw2 : wd.setCell ⟨G k, c, none⟩ (.int .i64 (Zf a b k (c + 1))) = w2 at hJ ⊢
              clear hw2
              obtain ⟨a0, a1, a2, a3, a4, a5⟩ := (hca k hka).below hba hJ.since
              obtain ⟨b0, b1, b2, b3, b4, b5⟩ := (hcb c hcb').below hbb hJ.since
              have hr : Below w2.heap.size w2 w2 := Below.refl _ _
              have HJ := Lib.hid hJ
              clear hJ
              have HA := Lib.hid (fun W => alike_R a[k] b[c] W)
              rw [ha] at HA
              generalize a[k] = x at *
              generalize b[c] = y at *
              clear ha
              go_region_held3 (fun w' => w'.cell? ⟨ba, oa + k * 6, none⟩ = some (.string x.m) ∧ w'.cell? ⟨ba, oa + k * 6 + 1, none⟩ = some (.string x.f) ∧ w'.cell? ⟨ba, oa + k * 6 + 2, none⟩ = some (.string x.i) ∧ w'.cell? ⟨ba, oa + k * 6 + 3, none⟩ = some (.int .i64 x.line) ∧ w'.cell? ⟨ba, oa + k * 6 + 4, none⟩ = some (.int .i64 x.addr) ∧ w'.cell? ⟨ba, oa + k * 6 + 5, none⟩ = some (.bool x.own) ∧
                  w'.cell? ⟨bb, ob + c * 6, none⟩ = some (.string y.m) ∧ w'.cell? ⟨bb, ob + c * 6 + 1, none⟩ = some (.string y.f) ∧ w'.cell? ⟨bb, ob + c * 6 + 2, none⟩ = some (.string y.i) ∧ w'.cell? ⟨bb, ob + c * 6 + 3, none⟩ = some (.int .i64 y.line) ∧ w'.cell? ⟨bb, ob + c * 6 + 4, none⟩ = some (.int .i64 y.addr) ∧ w'.cell? ⟨bb, ob + c * 6 + 5, none⟩ = some (.bool y.own) ∧ Below w2.heap.size w2 w')
                ((repeat' apply And.intro) <;> first | assumption | exact Below.drew (by assumption) | exact cell_keep (by assumption) hbX | exact below_keep (by first | assumption | exact Below.drew (by assumption)) (Nat.le_refl _) hbX)
                (first | (go_at_call 51; refine (HA.out _).mono ?_; rintro e w' ⟨rfl, hbX⟩))
              go_wp2_with fail
              have hB : Below w2.heap.size w2 w' := (Below.refl _ w2).drew.trans hbX
              exact ⟨⟨c, by omega, by go_num, (HJ.out.on (Nat.le_refl _) hB).congr (fun r j _ _ => part_set HV.out r j)⟩, by simp [intOf]⟩
            · have HV := Lib.hid (show Zf a b (k + 1) c = Zf a b k c by have := HM.out ha; unfold Zf at hmx ⊢; rw [this]; omega)
              have hI := HI.out
              have r0 := hI.row_cell (r := k) (by omega) (by omega)
              have r1 := hI.row_cell (r := k + 1) (by omega) (by omega)
              have z1 : wr.cell? ⟨G (k + 1), c, none⟩ = some (.int .i64 (Zf a b (k + 1) c)) := by rw [hI.cell (by omega) (by omega), part_at (by omega)]
              have z2 : wr.cell? ⟨G k, c + 1, none⟩ = some (.int .i64 (Zf a b k (c + 1))) := by rw [hI.cell (by omega) (by omega), part_at (by omega)]
              clear hI
              go_wp2_with fail
              go_still_tail 23, (by kernel_rfl)
              change wpList _ _ _ _ _ wr.drew
              have hI3 := HI.out.on (Nat.le_refl _) ((Below.refl wr.heap.size wr).drew)
              clear r0 r1 z1 z2
              generalize wr.drew = wd at hI3 ⊢
              have s1 : wd.cell? ⟨G k, c, none⟩ = some (.int .i64 0) := by rw [hI3.cell (by omega) (by omega), part_zero (by omega)]
              have s2 := hI3.frozen (r := k) (by omega) c
              have HS := Lib.hid (fun v => hI3.set (k := k) (c := c) (by omega) v)
              clear hI3
              go_wp2_with fail
              have hJ := HS.out (Zf a b (k + 1) c)
              clear s1 s2 HS
              generalize hw2 : wd.setCell ⟨G k, c, none⟩ (.int .i64 (Zf a b (k + 1) c)) = w2 at hJ ⊢
              clear hw2
              obtain ⟨a0, a1, a2, a3, a4, a5⟩ := (hca k hka).below hba hJ.since
              obtain ⟨b0, b1, b2, b3, b4, b5⟩ := (hcb c hcb').below hbb hJ.since
              have hr : Below w2.heap.size w2 w2 := Below.refl _ _
              have HJ := Lib.hid hJ
              clear hJ
              have HA := Lib.hid (fun W => alike_R a[k] b[c] W)
              rw [ha] at HA
              generalize a[k] = x at *
              generalize b[c] = y at *
              clear ha
              go_region_held3 (fun w' => w'.cell? ⟨ba, oa + k * 6, none⟩ = some (.string x.m) ∧ w'.cell? ⟨ba, oa + k * 6 + 1, none⟩ = some (.string x.f) ∧ w'.cell? ⟨ba, oa + k * 6 + 2, none⟩ = some (.string x.i) ∧ w'.cell? ⟨ba, oa + k * 6 + 3, none⟩ = some (.int .i64 x.line) ∧ w'.cell? ⟨ba, oa + k * 6 + 4, none⟩ = some (.int .i64 x.addr) ∧ w'.cell? ⟨ba, oa + k * 6 + 5, none⟩ = some (.bool x.own) ∧
                  w'.cell? ⟨bb, ob + c * 6, none⟩ = some (.string y.m) ∧ w'.cell? ⟨bb, ob + c * 6 + 1, none⟩ = some (.string y.f) ∧ w'.cell? ⟨bb, ob + c * 6 + 2, none⟩ = some (.string y.i) ∧ w'.cell? ⟨bb, ob + c * 6 + 3, none⟩ = some (.int .i64 y.line) ∧ w'.cell? ⟨bb, ob + c * 6 + 4, none⟩ = some (.int .i64 y.addr) ∧ w'.cell? ⟨bb, ob + c * 6 + 5, none⟩ = some (.bool y.own) ∧ Below w2.heap.size w2 w')
                ((repeat' apply And.intro) <;> first | assumption | exact Below.drew (by assumption) | exact cell_keep (by assumption) hbX | exact below_keep (by first | assumption | exact Below.drew (by assumption)) (Nat.le_refl _) hbX)
                (first | (go_at_call 51; refine (HA.out _).mono ?_; rintro e w' ⟨rfl, hbX⟩))
              go_wp2_with fail
              have hB : Below w2.heap.size w2 w' := (Below.refl _ w2).drew.trans hbX
              exact ⟨⟨c, by omega, by go_num, (HJ.out.on (Nat.le_refl _) hB).congr (fun r j _ _ => part_set HV.out r j)⟩, by simp [intOf]⟩
          · by_cases hmx : Zf a b (k + 1) c < Zf a b k (c + 1)
            · by_cases hm2 : Zf a b k (c + 1) < Zf a b (k + 1) (c + 1) + 1
              · have HV := Lib.hid (show Zf a b (k + 1) (c + 1) + 1 = Zf a b k c by have h1 := HH.out ha; have h2 := HT.out ha; unfold Zf at hmx hm2 ⊢; rw [h2] at h1 ⊢; omega)
                have hI := HI.out
                have r0 := hI.row_cell (r := k) (by omega) (by omega)
                have r1 := hI.row_cell (r := k + 1) (by omega) (by omega)
                have z1 : wr.cell? ⟨G (k + 1), c, none⟩ = some (.int .i64 (Zf a b (k + 1) c)) := by rw [hI.cell (by omega) (by omega), part_at (by omega)]
                have z2 : wr.cell? ⟨G k, c + 1, none⟩ = some (.int .i64 (Zf a b k (c + 1))) := by rw [hI.cell (by omega) (by omega), part_at (by omega)]
                clear hI
                go_wp2_with fail
                go_still_tail 23, (by kernel_rfl)
                change wpList _ _ _ _ _ wr.drew
                have hI3 := HI.out.on (Nat.le_refl _) ((Below.refl wr.heap.size wr).drew)
                clear r0 r1 z1 z2
                generalize wr.drew = wd at hI3 ⊢
                have s1 : wd.cell? ⟨G k, c, none⟩ = some (.int .i64 0) := by rw [hI3.cell (by omega) (by omega), part_zero (by omega)]
                have s2 := hI3.frozen (r := k) (by omega) c
                have HS := Lib.hid (fun v => hI3.set (k := k) (c := c) (by omega) v)
                clear hI3
                go_wp2_with fail
                have hJ := HS.out (Zf a b k (c + 1))
                clear s1 s2 HS
                generalize hw2 : wd.setCell ⟨G k, c, none⟩ (.int .i64 (Zf a b k (c + 1))) = w2 at hJ ⊢
                clear hw2
                obtain ⟨a0, a1, a2, a3, a4, a5⟩ := (hca k hka).below hba hJ.since
                obtain ⟨b0, b1, b2, b3, b4, b5⟩ := (hcb c hcb').below hbb hJ.since
                have hr : Below w2.heap.size w2 w2 := Below.refl _ _
                have HJ := Lib.hid hJ
                clear hJ
                have HA := Lib.hid (fun W => alike_R a[k] b[c] W)
                rw [ha] at HA
                generalize a[k] = x at *
                generalize b[c] = y at *
                clear ha
                go_region_held3 (fun w' => w'.cell? ⟨ba, oa + k * 6, none⟩ = some (.string x.m) ∧ w'.cell? ⟨ba, oa + k * 6 + 1, none⟩ = some (.string x.f) ∧ w'.cell? ⟨ba, oa + k * 6 + 2, none⟩ = some (.string x.i) ∧ w'.cell? ⟨ba, oa + k * 6 + 3, none⟩ = some (.int .i64 x.line) ∧ w'.cell? ⟨ba, oa + k * 6 + 4, none⟩ = some (.int .i64 x.addr) ∧ w'.cell? ⟨ba, oa + k * 6 + 5, none⟩ = some (.bool x.own) ∧
                    w'.cell? ⟨bb, ob + c * 6, none⟩ = some (.string y.m) ∧ w'.cell? ⟨bb, ob + c * 6 + 1, none⟩ = some (.string y.f) ∧ w'.cell? ⟨bb, ob + c * 6 + 2, none⟩ = some (.string y.i) ∧ w'.cell? ⟨bb, ob + c * 6 + 3, none⟩ = some (.int .i64 y.line) ∧ w'.cell? ⟨bb, ob + c * 6 + 4, none⟩ = some (.int .i64 y.addr) ∧ w'.cell? ⟨bb, ob + c * 6 + 5, none⟩ = some (.bool y.own) ∧ Below w2.heap.size w2 w')
                  ((repeat' apply And.intro) <;> first | assumption | exact Below.drew (by assumption) | exact cell_keep (by assumption) hbX | exact below_keep (by first | assumption | exact Below.drew (by assumption)) (Nat.le_refl _) hbX)
                  (first | (go_at_call 51; refine (HA.out _).mono ?_; rintro e w' ⟨rfl, hbX⟩))
                go_wp2_with fail
                have hB : Below w2.heap.size w2 w' := (Below.refl _ w2).drew.trans hbX
                have hL := HJ.out.on (Nat.le_refl _) hB
                have HJ2 := Lib.hid hL
                have r0 := hL.row_cell (r := k) (by omega) (by omega)
                have r1 := hL.row_cell (r := k + 1) (by omega) (by omega)
                have z1 : w'.cell? ⟨G (k + 1), c + 1, none⟩ = some (.int .i64 (Zf a b (k + 1) (c + 1))) := by rw [hL.cell (by omega) (by omega), if_neg (by omega), part_at (by omega)]
                have z2 : w'.cell? ⟨G k, c, none⟩ = some (.int .i64 (Zf a b k (c + 1))) := by rw [hL.cell (by omega) (by omega), if_pos ⟨rfl, rfl⟩]
                have hw3 : IntKind.i64.wrap (Zf a b (k + 1) (c + 1) + 1) = Zf a b (k + 1) (c + 1) + 1 := IntWalk.i64_in _ ⟨by unfold Zf; omega, by have := T_le a b a.length (k + 1) (c + 1) (by omega); unfold Zf; omega⟩
                clear hL a0 a1 a2 a3 a4 a5 b0 b1 b2 b3 b4 b5 hr HJ
                go_still_tail 24, (by kernel_rfl)
                change wpList _ _ _ _ _ w'.drew
                have hI3 := HJ2.out.on (Nat.le_refl _) ((Below.refl w'.heap.size w').drew)
                clear r0 r1 z1 z2
                generalize w'.drew = we at hI3 ⊢
                have s1 : we.cell? ⟨G k, c, none⟩ = some (.int .i64 (Zf a b k (c + 1))) := by rw [hI3.cell (by omega) (by omega), if_pos ⟨rfl, rfl⟩]
                have s2 := hI3.frozen (r := k) (by omega) c
                have HS := Lib.hid (hI3.set (k := k) (c := c) (by omega) ((Zf a b (k + 1) (c + 1) + 1)))
                clear hI3
                go_wp2_with fail
                exact ⟨⟨c, by omega, by go_num, HS.out.congr (fun r j _ _ => part_set2 HV.out r j)⟩, by simp [intOf]⟩
              · have HV := Lib.hid (show Zf a b k (c + 1) = Zf a b k c by have h1 := HH.out ha; have h2 := HT.out ha; unfold Zf at hmx hm2 ⊢; rw [h2] at h1 ⊢; omega)
                have hI := HI.out
                have r0 := hI.row_cell (r := k) (by omega) (by omega)
                have r1 := hI.row_cell (r := k + 1) (by omega) (by omega)
                have z1 : wr.cell? ⟨G (k + 1), c, none⟩ = some (.int .i64 (Zf a b (k + 1) c)) := by rw [hI.cell (by omega) (by omega), part_at (by omega)]
                have z2 : wr.cell? ⟨G k, c + 1, none⟩ = some (.int .i64 (Zf a b k (c + 1))) := by rw [hI.cell (by omega) (by omega), part_at (by omega)]
                clear hI
                go_wp2_with fail
                go_still_tail 23, (by kernel_rfl)
                change wpList _ _ _ _ _ wr.drew
                have hI3 := HI.out.on (Nat.le_refl _) ((Below.refl wr.heap.size wr).drew)
                clear r0 r1 z1 z2
                generalize wr.drew = wd at hI3 ⊢
                have s1 : wd.cell? ⟨G k, c, none⟩ = some (.int .i64 0) := by rw [hI3.cell (by omega) (by omega), part_zero (by omega)]
                have s2 := hI3.frozen (r := k) (by omega) c
                have HS := Lib.hid (fun v => hI3.set (k := k) (c := c) (by omega) v)
                clear hI3
                go_wp2_with fail
                have hJ := HS.out (Zf a b k (c + 1))
                clear s1 s2 HS
                generalize hw2 : wd.setCell ⟨G k, c, none⟩ (.int .i64 (Zf a b k (c + 1))) = w2 at hJ ⊢
                clear hw2
                obtain ⟨a0, a1, a2, a3, a4, a5⟩ := (hca k hka).below hba hJ.since
                obtain ⟨b0, b1, b2, b3, b4, b5⟩ := (hcb c hcb').below hbb hJ.since
                have hr : Below w2.heap.size w2 w2 := Below.refl _ _
                have HJ := Lib.hid hJ
                clear hJ
                have HA := Lib.hid (fun W => alike_R a[k] b[c] W)
                rw [ha] at HA
                generalize a[k] = x at *
                generalize b[c] = y at *
                clear ha
                go_region_held3 (fun w' => w'.cell? ⟨ba, oa + k * 6, none⟩ = some (.string x.m) ∧ w'.cell? ⟨ba, oa + k * 6 + 1, none⟩ = some (.string x.f) ∧ w'.cell? ⟨ba, oa + k * 6 + 2, none⟩ = some (.string x.i) ∧ w'.cell? ⟨ba, oa + k * 6 + 3, none⟩ = some (.int .i64 x.line) ∧ w'.cell? ⟨ba, oa + k * 6 + 4, none⟩ = some (.int .i64 x.addr) ∧ w'.cell? ⟨ba, oa + k * 6 + 5, none⟩ = some (.bool x.own) ∧
                    w'.cell? ⟨bb, ob + c * 6, none⟩ = some (.string y.m) ∧ w'.cell? ⟨bb, ob + c * 6 + 1, none⟩ = some (.string y.f) ∧ w'.cell? ⟨bb, ob + c * 6 + 2, none⟩ = some (.string y.i) ∧ w'.cell? ⟨bb, ob + c * 6 + 3, none⟩ = some (.int .i64 y.line) ∧ w'.cell? ⟨bb, ob + c * 6 + 4, none⟩ = some (.int .i64 y.addr) ∧ w'.cell? ⟨bb, ob + c * 6 + 5, none⟩ = some (.bool y.own) ∧ Below w2.heap.size w2 w')
                  ((repeat' apply And.intro) <;> first | assumption | exact Below.drew (by assumption) | exact cell_keep (by assumption) hbX | exact below_keep (by first | assumption | exact Below.drew (by assumption)) (Nat.le_refl _) hbX)
                  (first | (go_at_call 51; refine (HA.out _).mono ?_; rintro e w' ⟨rfl, hbX⟩))
                go_wp2_with fail
                have hB : Below w2.heap.size w2 w' := (Below.refl _ w2).drew.trans hbX
                have hL := HJ.out.on (Nat.le_refl _) hB
                have HJ2 := Lib.hid hL
                have r0 := hL.row_cell (r := k) (by omega) (by omega)
                have r1 := hL.row_cell (r := k + 1) (by omega) (by omega)
                have z1 : w'.cell? ⟨G (k + 1), c + 1, none⟩ = some (.int .i64 (Zf a b (k + 1) (c + 1))) := by rw [hL.cell (by omega) (by omega), if_neg (by omega), part_at (by omega)]
                have z2 : w'.cell? ⟨G k, c, none⟩ = some (.int .i64 (Zf a b k (c + 1))) := by rw [hL.cell (by omega) (by omega), if_pos ⟨rfl, rfl⟩]
                have hw3 : IntKind.i64.wrap (Zf a b (k + 1) (c + 1) + 1) = Zf a b (k + 1) (c + 1) + 1 := IntWalk.i64_in _ ⟨by unfold Zf; omega, by have := T_le a b a.length (k + 1) (c + 1) (by omega); unfold Zf; omega⟩
                clear hL a0 a1 a2 a3 a4 a5 b0 b1 b2 b3 b4 b5 hr HJ
                go_still_tail 24, (by kernel_rfl)
                change wpList _ _ _ _ _ w'.drew
                have hI3 := HJ2.out.on (Nat.le_refl _) ((Below.refl w'.heap.size w').drew)
                clear r0 r1 z1 z2
                generalize w'.drew = we at hI3 ⊢
                have s1 : we.cell? ⟨G k, c, none⟩ = some (.int .i64 (Zf a b k (c + 1))) := by rw [hI3.cell (by omega) (by omega), if_pos ⟨rfl, rfl⟩]
                have s2 := hI3.frozen (r := k) (by omega) c
                have HS := Lib.hid (hI3.set (k := k) (c := c) (by omega) (Zf a b k (c + 1)))
                clear hI3
                go_wp2_with fail
                exact ⟨⟨c, by omega, by go_num, HS.out.congr (fun r j _ _ => part_set2 HV.out r j)⟩, by simp [intOf]⟩
            · by_cases hm2 : Zf a b (k + 1) c < Zf a b (k + 1) (c + 1) + 1
              · have HV := Lib.hid (show Zf a b (k + 1) (c + 1) + 1 = Zf a b k c by have h1 := HH.out ha; have h2 := HT.out ha; unfold Zf at hmx hm2 ⊢; rw [h2] at h1 ⊢; omega)
                have hI := HI.out
                have r0 := hI.row_cell (r := k) (by omega) (by omega)
                have r1 := hI.row_cell (r := k + 1) (by omega) (by omega)
                have z1 : wr.cell? ⟨G (k + 1), c, none⟩ = some (.int .i64 (Zf a b (k + 1) c)) := by rw [hI.cell (by omega) (by omega), part_at (by omega)]
                have z2 : wr.cell? ⟨G k, c + 1, none⟩ = some (.int .i64 (Zf a b k (c + 1))) := by rw [hI.cell (by omega) (by omega), part_at (by omega)]
                clear hI
                go_wp2_with fail
                go_still_tail 23, (by kernel_rfl)
                change wpList _ _ _ _ _ wr.drew
                have hI3 := HI.out.on (Nat.le_refl _) ((Below.refl wr.heap.size wr).drew)
                clear r0 r1 z1 z2
                generalize wr.drew = wd at hI3 ⊢
                have s1 : wd.cell? ⟨G k, c, none⟩ = some (.int .i64 0) := by rw [hI3.cell (by omega) (by omega), part_zero (by omega)]
                have s2 := hI3.frozen (r := k) (by omega) c
                have HS := Lib.hid (fun v => hI3.set (k := k) (c := c) (by omega) v)
                clear hI3
                go_wp2_with fail
                have hJ := HS.out (Zf a b (k + 1) c)
                clear s1 s2 HS
                generalize hw2 : wd.setCell ⟨G k, c, none⟩ (.int .i64 (Zf a b (k + 1) c)) = w2 at hJ ⊢
                clear hw2
                obtain ⟨a0, a1, a2, a3, a4, a5⟩ := (hca k hka).below hba hJ.since
                obtain ⟨b0, b1, b2, b3, b4, b5⟩ := (hcb c hcb').below hbb hJ.since
                have hr : Below w2.heap.size w2 w2 := Below.refl _ _
                have HJ := Lib.hid hJ
                clear hJ
                have HA := Lib.hid (fun W => alike_R a[k] b[c] W)
                rw [ha] at HA
                generalize a[k] = x at *
                generalize b[c] = y at *
                clear ha
                go_region_held3 (fun w' => w'.cell? ⟨ba, oa + k * 6, none⟩ = some (.string x.m) ∧ w'.cell? ⟨ba, oa + k * 6 + 1, none⟩ = some (.string x.f) ∧ w'.cell? ⟨ba, oa + k * 6 + 2, none⟩ = some (.string x.i) ∧ w'.cell? ⟨ba, oa + k * 6 + 3, none⟩ = some (.int .i64 x.line) ∧ w'.cell? ⟨ba, oa + k * 6 + 4, none⟩ = some (.int .i64 x.addr) ∧ w'.cell? ⟨ba, oa + k * 6 + 5, none⟩ = some (.bool x.own) ∧
                    w'.cell? ⟨bb, ob + c * 6, none⟩ = some (.string y.m) ∧ w'.cell? ⟨bb, ob + c * 6 + 1, none⟩ = some (.string y.f) ∧ w'.cell? ⟨bb, ob + c * 6 + 2, none⟩ = some (.string y.i) ∧ w'.cell? ⟨bb, ob + c * 6 + 3, none⟩ = some (.int .i64 y.line) ∧ w'.cell? ⟨bb, ob + c * 6 + 4, none⟩ = some (.int .i64 y.addr) ∧ w'.cell? ⟨bb, ob + c * 6 + 5, none⟩ = some (.bool y.own) ∧ Below w2.heap.size w2 w')
                  ((repeat' apply And.intro) <;> first | assumption | exact Below.drew (by assumption) | exact cell_keep (by assumption) hbX | exact below_keep (by first | assumption | exact Below.drew (by assumption)) (Nat.le_refl _) hbX)
                  (first | (go_at_call 51; refine (HA.out _).mono ?_; rintro e w' ⟨rfl, hbX⟩))
                go_wp2_with fail
                have hB : Below w2.heap.size w2 w' := (Below.refl _ w2).drew.trans hbX
                have hL := HJ.out.on (Nat.le_refl _) hB
                have HJ2 := Lib.hid hL
                have r0 := hL.row_cell (r := k) (by omega) (by omega)
                have r1 := hL.row_cell (r := k + 1) (by omega) (by omega)
                have z1 : w'.cell? ⟨G (k + 1), c + 1, none⟩ = some (.int .i64 (Zf a b (k + 1) (c + 1))) := by rw [hL.cell (by omega) (by omega), if_neg (by omega), part_at (by omega)]
                have z2 : w'.cell? ⟨G k, c, none⟩ = some (.int .i64 (Zf a b (k + 1) c)) := by rw [hL.cell (by omega) (by omega), if_pos ⟨rfl, rfl⟩]
                have hw3 : IntKind.i64.wrap (Zf a b (k + 1) (c + 1) + 1) = Zf a b (k + 1) (c + 1) + 1 := IntWalk.i64_in _ ⟨by unfold Zf; omega, by have := T_le a b a.length (k + 1) (c + 1) (by omega); unfold Zf; omega⟩
                clear hL a0 a1 a2 a3 a4 a5 b0 b1 b2 b3 b4 b5 hr HJ
                go_still_tail 24, (by kernel_rfl)
                change wpList _ _ _ _ _ w'.drew
                have hI3 := HJ2.out.on (Nat.le_refl _) ((Below.refl w'.heap.size w').drew)
                clear r0 r1 z1 z2
                generalize w'.drew = we at hI3 ⊢
                have s1 : we.cell? ⟨G k, c, none⟩ = some (.int .i64 (Zf a b (k + 1) c)) := by rw [hI3.cell (by omega) (by omega), if_pos ⟨rfl, rfl⟩]
                have s2 := hI3.frozen (r := k) (by omega) c
                have HS := Lib.hid (hI3.set (k := k) (c := c) (by omega) ((Zf a b (k + 1) (c + 1) + 1)))
                clear hI3
                go_wp2_with fail
                exact ⟨⟨c, by omega, by go_num, HS.out.congr (fun r j _ _ => part_set2 HV.out r j)⟩, by simp [intOf]⟩
              · have HV := Lib.hid (show Zf a b (k + 1) c = Zf a b k c by have h1 := HH.out ha; have h2 := HT.out ha; unfold Zf at hmx hm2 ⊢; rw [h2] at h1 ⊢; omega)
                have hI := HI.out
                have r0 := hI.row_cell (r := k) (by omega) (by omega)
                have r1 := hI.row_cell (r := k + 1) (by omega) (by omega)
                have z1 : wr.cell? ⟨G (k + 1), c, none⟩ = some (.int .i64 (Zf a b (k + 1) c)) := by rw [hI.cell (by omega) (by omega), part_at (by omega)]
                have z2 : wr.cell? ⟨G k, c + 1, none⟩ = some (.int .i64 (Zf a b k (c + 1))) := by rw [hI.cell (by omega) (by omega), part_at (by omega)]
                clear hI
                go_wp2_with fail
                go_still_tail 23, (by kernel_rfl)
                change wpList _ _ _ _ _ wr.drew
                have hI3 := HI.out.on (Nat.le_refl _) ((Below.refl wr.heap.size wr).drew)
                clear r0 r1 z1 z2
                generalize wr.drew = wd at hI3 ⊢
                have s1 : wd.cell? ⟨G k, c, none⟩ = some (.int .i64 0) := by rw [hI3.cell (by omega) (by omega), part_zero (by omega)]
                have s2 := hI3.frozen (r := k) (by omega) c
                have HS := Lib.hid (fun v => hI3.set (k := k) (c := c) (by omega) v)
                clear hI3
                go_wp2_with fail
                have hJ := HS.out (Zf a b (k + 1) c)
                clear s1 s2 HS
                generalize hw2 : wd.setCell ⟨G k, c, none⟩ (.int .i64 (Zf a b (k + 1) c)) = w2 at hJ ⊢
                clear hw2
                obtain ⟨a0, a1, a2, a3, a4, a5⟩ := (hca k hka).below hba hJ.since
                obtain ⟨b0, b1, b2, b3, b4, b5⟩ := (hcb c hcb').below hbb hJ.since
                have hr : Below w2.heap.size w2 w2 := Below.refl _ _
                have HJ := Lib.hid hJ
                clear hJ
                have HA := Lib.hid (fun W => alike_R a[k] b[c] W)
                rw [ha] at HA
                generalize a[k] = x at *
                generalize b[c] = y at *
                clear ha
                go_region_held3 (fun w' => w'.cell? ⟨ba, oa + k * 6, none⟩ = some (.string x.m) ∧ w'.cell? ⟨ba, oa + k * 6 + 1, none⟩ = some (.string x.f) ∧ w'.cell? ⟨ba, oa + k * 6 + 2, none⟩ = some (.string x.i) ∧ w'.cell? ⟨ba, oa + k * 6 + 3, none⟩ = some (.int .i64 x.line) ∧ w'.cell? ⟨ba, oa + k * 6 + 4, none⟩ = some (.int .i64 x.addr) ∧ w'.cell? ⟨ba, oa + k * 6 + 5, none⟩ = some (.bool x.own) ∧
                    w'.cell? ⟨bb, ob + c * 6, none⟩ = some (.string y.m) ∧ w'.cell? ⟨bb, ob + c * 6 + 1, none⟩ = some (.string y.f) ∧ w'.cell? ⟨bb, ob + c * 6 + 2, none⟩ = some (.string y.i) ∧ w'.cell? ⟨bb, ob + c * 6 + 3, none⟩ = some (.int .i64 y.line) ∧ w'.cell? ⟨bb, ob + c * 6 + 4, none⟩ = some (.int .i64 y.addr) ∧ w'.cell? ⟨bb, ob + c * 6 + 5, none⟩ = some (.bool y.own) ∧ Below w2.heap.size w2 w')
                  ((repeat' apply And.intro) <;> first | assumption | exact Below.drew (by assumption) | exact cell_keep (by assumption) hbX | exact below_keep (by first | assumption | exact Below.drew (by assumption)) (Nat.le_refl _) hbX)
                  (first | (go_at_call 51; refine (HA.out _).mono ?_; rintro e w' ⟨rfl, hbX⟩))
                go_wp2_with fail
                have hB : Below w2.heap.size w2 w' := (Below.refl _ w2).drew.trans hbX
                have hL := HJ.out.on (Nat.le_refl _) hB
                have HJ2 := Lib.hid hL
                have r0 := hL.row_cell (r := k) (by omega) (by omega)
                have r1 := hL.row_cell (r := k + 1) (by omega) (by omega)
                have z1 : w'.cell? ⟨G (k + 1), c + 1, none⟩ = some (.int .i64 (Zf a b (k + 1) (c + 1))) := by rw [hL.cell (by omega) (by omega), if_neg (by omega), part_at (by omega)]
                have z2 : w'.cell? ⟨G k, c, none⟩ = some (.int .i64 (Zf a b (k + 1) c)) := by rw [hL.cell (by omega) (by omega), if_pos ⟨rfl, rfl⟩]
                have hw3 : IntKind.i64.wrap (Zf a b (k + 1) (c + 1) + 1) = Zf a b (k + 1) (c + 1) + 1 := IntWalk.i64_in _ ⟨by unfold Zf; omega, by have := T_le a b a.length (k + 1) (c + 1) (by omega); unfold Zf; omega⟩
                clear hL a0 a1 a2 a3 a4 a5 b0 b1 b2 b3 b4 b5 hr HJ
                go_still_tail 24, (by kernel_rfl)
                change wpList _ _ _ _ _ w'.drew
                have hI3 := HJ2.out.on (Nat.le_refl _) ((Below.refl w'.heap.size w').drew)
                clear r0 r1 z1 z2
                generalize w'.drew = we at hI3 ⊢
                have s1 : we.cell? ⟨G k, c, none⟩ = some (.int .i64 (Zf a b (k + 1) c)) := by rw [hI3.cell (by omega) (by omega), if_pos ⟨rfl, rfl⟩]
                have s2 := hI3.frozen (r := k) (by omega) c
                have HS := Lib.hid (hI3.set (k := k) (c := c) (by omega) (Zf a b (k + 1) c))
                clear hI3
                go_wp2_with fail
                exact ⟨⟨c, by omega, by go_num, HS.out.congr (fun r j _ _ => part_set2 HV.out r j)⟩, by simp [intOf]⟩


end Go.Proofs.Ytffjnomaebjbdaa

/- The table of the program: mostPairs. -/
import Derived.Test.YtkenckolkpgebaaGreatDoorAlike
import Derived.Test.YtkenckolkpgebaaGreatDoorMat
import Derived.StillTailTactics
namespace Go.Proofs.YtkenckolkpgebaaGreatDoor
open Go.RowKit Go.Deep

theorem Tryz.info3 : (Tryz.prog.info? 3).map (fun i => (i.zero, i.size, i.bytes)) = some (some (.int .i64 0), 1, 8) := by kernel_rfl
theorem Tryz.info79 : (Tryz.prog.info? 43).map (fun i => (i.zero, i.size, i.bytes)) = some (some (.slice none 0 0), 1, 24) := by kernel_rfl

/-- The table's entries. -/
def Zf (a b : List Fr) (i j : Nat) : Int := (T a b i j : Nat)

set_option maxHeartbeats 2000000 in
set_option maxRecDepth 100000 in
theorem mostPairs_some (pa pb : Option Addr) (ba oa ca bb ob cb n m n1 m1 : Nat) (a b : List Fr) (w : World) (hn : a.length = n) (hm : b.length = m) (hn1 : n1 = n + 1) (hm1 : m1 = m + 1) (hpa : 0 < n → pa = some ⟨ba, oa, none⟩ ∧ ba < w.heap.size) (hpb : 0 < m → pb = some ⟨bb, ob, none⟩ ∧ bb < w.heap.size) (hla : n ≤ 200) (hlb : m ≤ 200) (hca : FrsAt w ba oa a) (hcb : FrsAt w bb ob b) :
    Calls Tryz.prog 9 #[.slice pa n ca, .slice pb m cb] w fun e w' => ∃ G : Nat → Nat, e = .returned (.slice (some ⟨w.heap.size, 0, none⟩) n1 n1) ∧ Mat w.heap.size w w' 43 3 w.heap.size n m 0 G (Zf a b) := by
  have hmk76 := run_make_row' (P := Tryz.prog) 40 43 (.slice none 0 0) 24 Tryz.underlying40 Tryz.info79 rfl .i64 .i64 n1 (by omega) (by omega)
  have hmk79 := run_make_row' (P := Tryz.prog) 43 3 (.int .i64 0) 8 Tryz.underlying43 Tryz.info3 rfl .i64 .i64 m1 (by omega) (by omega)
  rw [show ((n1 : Nat) : Int) = (n : Int) + 1 by omega] at hmk76
  rw [show ((m1 : Nat) : Int) = (m : Int) + 1 by omega] at hmk79
  have hM0 := fun G => Mat.start (G := G) (n := n) (m := m) (tr := 43) (ti := 3) (Nat.le_refl _) (Below.refl w.heap.size w) (Zf a b)
  have hz1 : Zf a b n m = 0 := by unfold Zf; rw [T_a a b m (by omega)]; rfl
  have hz2 : ∀ j, j < m → Zf a b n j = 0 := fun j _ => by unfold Zf; rw [T_a a b j (by omega)]; rfl
  have hM1 := fun G => (((hM0 G).row (Nat.le_refl _) hz1).zeros hz2).full
  rw [← hn1] at hM0
  rw [← hm1, ← hn1] at hM1
  have HM1 := Lib.hid hM1
  have q1 : ((w.alloc (.cells (madeCells #[.slice none 0 0] n1) 43)).alloc (.cells (madeCells #[.int .i64 0] m1) 3)).cell? ⟨w.heap.size, n, none⟩ = some (.slice none 0 0) := by
    have := ((hM0 id).top.alloc (.cells (madeCells #[.int .i64 0] m1) 3)).cell (i := n) (by omega)
    rw [if_neg (by omega)] at this
    exact this
  have q2 : ((w.alloc (.cells (madeCells #[.slice none 0 0] n1) 43)).alloc (.cells (madeCells #[.int .i64 0] m1) 3)).frozen? ⟨w.heap.size, n, none⟩ = false :=
    ((hM0 id).top.alloc (.cells (madeCells #[.int .i64 0] m1) 3)).frozen n
  have q3 : (n : Int) < (n1 : Int) := by omega
  clear hM0 hM1 hz1 hz2
  have HN1 := Lib.hid hn1
  have HM1' := Lib.hid hm1
  have hn1a : n1 ≤ n + 1 := by omega
  have hn1b : n + 1 ≤ n1 := by omega
  have hm1a : m1 ≤ m + 1 := by omega
  have hm1b : m + 1 ≤ m1 := by omega
  clear hn1 hm1
  go_enter Tryz.func9, Tryz.ntmps9
  go_wp2_with fail
  go_loopw [6] (fun v wr => ∃ (k : Nat) (G : Nat → Nat), k ≤ n ∧ v = .int .i64 ((k : Int) - 1) ∧ Mat w.heap.size w wr 43 3 w.heap.size n m k G (Zf a b)) (fun v _ => (intOf v + 1).toNat)
  case atStart =>
    refine ⟨n, (fun r => if r = n then w.heap.size + 1 else r), Nat.le_refl _, rfl, ?_⟩
    have h := HM1.out id
    revert h
    go_simp
  case round =>
    obtain ⟨wo, rfl⟩ : ∃ wo : World, wo = wr := ⟨_, rfl⟩
    obtain ⟨k, G, hk, rfl, hM⟩ := hrel
    cases k with
    | zero =>
      go_wp2_with fail
      go_ret
      exact ⟨G, rfl, hM⟩
    | succ k =>
      rw [show ((k + 1 : Nat) : Int) - 1 = (k : Int) by omega]
      have hkn : (k : Int) < (n1 : Int) := by omega
      have hwo : Below w.heap.size w wo := hM.since
      have hr1 := hM.row (by omega) (show Zf a b k m = 0 by unfold Zf; rw [T_b a b k (by omega)]; rfl)
      rw [← HM1'.out] at hr1
      have HR1 := Lib.hid hr1
      clear hr1
      have c1 : (wo.alloc (.cells (madeCells #[.int .i64 0] m1) 3)).cell? ⟨w.heap.size, k, none⟩ = some (.slice none 0 0) := by
        have := (hM.top.alloc (.cells (madeCells #[.int .i64 0] m1) 3)).cell (i := k) (by omega)
        rw [if_neg (by omega)] at this
        exact this
      have c2 : (wo.alloc (.cells (madeCells #[.int .i64 0] m1) 3)).frozen? ⟨w.heap.size, k, none⟩ = false :=
        (hM.top.alloc (.cells (madeCells #[.int .i64 0] m1) 3)).frozen k
      go_wp2_with fail
      go_loopw [7] (fun v wi => ∃ c : Nat, c ≤ m ∧ v = .int .i64 ((c : Int) - 1) ∧ MatIn w.heap.size w wi 43 3 w.heap.size n m k c (fun r => if r = k then wo.heap.size else G r) (Zf a b)) (fun v _ => (intOf v + 1).toNat)
      case atStart => exact ⟨m, Nat.le_refl _, rfl, HR1.out⟩
      clear c1 c2 HR1
      obtain ⟨c, hc, rfl, hI⟩ := hrel
      generalize hG : (fun r => if r = k then wo.heap.size else G r) = G' at hI ⊢
      clear hG
      cases c with
      | zero =>
        have HI := Lib.hid hI
        clear hI
        go_wp2_with fail
        exact ⟨⟨k, G', by omega, rfl, HI.out.full⟩, by simp [intOf]⟩
      | succ c =>
        rw [show ((c + 1 : Nat) : Int) - 1 = (c : Int) by omega]
        obtain ⟨rfl, hba⟩ := hpa (by omega)
        obtain ⟨rfl, hbb⟩ := hpb (by omega)
        obtain ⟨a0, a1, a2, a3, a4, a5⟩ := (hca k (by omega)).below hba hI.since
        obtain ⟨b0, b1, b2, b3, b4, b5⟩ := (hcb c (by omega)).below hbb hI.since
        have hkz : (k : Int) < (n : Int) := by omega
        have hcz : (c : Int) < (m : Int) := by omega
        have hr : Below wr.heap.size wr wr := Below.refl _ _
        have HI := Lib.hid hI
        clear hI
        have hka : k < a.length := by omega
        have hcb' : c < b.length := by omega
        have HH := Lib.hid (fun h => T_hit hka hcb' h)
        have HM := Lib.hid (fun h => T_miss hka hcb' h)
        generalize a[k] = x at *
        generalize b[c] = y at *
        rcases ha : alk x y with _ | _
        · have HA := Lib.hid (fun W => alike_P x y W)
          rw [ha] at HA
          have HF := Lib.hid (HM.out ha)
          clear ha
          go_wp2_with fail
          go_region_held3 (fun w' => w'.cell? ⟨ba, oa + k * 6, none⟩ = some (.string x.m) ∧ w'.cell? ⟨ba, oa + k * 6 + 1, none⟩ = some (.string x.f) ∧ w'.cell? ⟨ba, oa + k * 6 + 2, none⟩ = some (.string x.i) ∧ w'.cell? ⟨ba, oa + k * 6 + 3, none⟩ = some (.int .i64 x.line) ∧ w'.cell? ⟨ba, oa + k * 6 + 4, none⟩ = some (.int .i64 x.addr) ∧ w'.cell? ⟨ba, oa + k * 6 + 5, none⟩ = some (.bool x.own) ∧
            w'.cell? ⟨bb, ob + c * 6, none⟩ = some (.string y.m) ∧ w'.cell? ⟨bb, ob + c * 6 + 1, none⟩ = some (.string y.f) ∧ w'.cell? ⟨bb, ob + c * 6 + 2, none⟩ = some (.string y.i) ∧ w'.cell? ⟨bb, ob + c * 6 + 3, none⟩ = some (.int .i64 y.line) ∧ w'.cell? ⟨bb, ob + c * 6 + 4, none⟩ = some (.int .i64 y.addr) ∧ w'.cell? ⟨bb, ob + c * 6 + 5, none⟩ = some (.bool y.own) ∧ Below wr.heap.size wr w')
          ((repeat' apply And.intro) <;> first | assumption | exact Below.drew (by assumption) | exact cell_keep (by assumption) hbX | exact below_keep (by first | assumption | exact Below.drew (by assumption)) (Nat.le_refl _) hbX)
          (first | (go_at_call 18; refine (HA.out _).mono ?_; rintro e w' ⟨rfl, hbX⟩))
          go_wp2_with fail
          have hB : Below wr.heap.size wr w' := (Below.refl _ wr).drew.trans hbX
          have hI2 := HI.out.on (Nat.le_refl _) hB
          have hkz1 : (k : Int) < (n1 : Int) := by omega
          have hkz2 : (k : Int) + 1 < (n1 : Int) := by omega
          have hcz1 : (c : Int) < (m1 : Int) := by omega
          have hcz2 : (c : Int) + 1 < (m1 : Int) := by omega
          have hw1 : IntKind.i64.wrap ((k : Int) + 1) = (k : Int) + 1 := IntWalk.i64_in _ ⟨by omega, by omega⟩
          have hw2 : IntKind.i64.wrap ((c : Int) + 1) = (c : Int) + 1 := IntWalk.i64_in _ ⟨by omega, by omega⟩
          have hp1 : (0 : Int) ≤ (k : Int) + 1 := by omega
          have hp2 : (0 : Int) ≤ (c : Int) + 1 := by omega
          have r0 : w'.cell? ⟨w.heap.size, k, none⟩ = some (.slice (some ⟨G' k, 0, none⟩) m1 m1) := by rw [HM1'.out]; exact hI2.row_cell (Nat.le_refl _) (by omega)
          have r1 : w'.cell? ⟨w.heap.size, k + 1, none⟩ = some (.slice (some ⟨G' (k + 1), 0, none⟩) m1 m1) := by rw [HM1'.out]; exact hI2.row_cell (by omega) (by omega)
          have z1 : w'.cell? ⟨G' (k + 1), c, none⟩ = some (.int .i64 (Zf a b (k + 1) c)) := hI2.cell (by omega) (by omega) (by omega)
          have z2 : w'.cell? ⟨G' k, c + 1, none⟩ = some (.int .i64 (Zf a b k (c + 1))) := hI2.curCell (by omega) (by omega)
          have HV := Lib.hid (show Zf a b k c = (if Zf a b (k + 1) c < Zf a b k (c + 1) then Zf a b k (c + 1) else Zf a b (k + 1) c) by unfold Zf; rw [HF.out]; split <;> omega)
          have HI2 := Lib.hid hI2
          clear hI2 hr a0 a1 a2 a3 a4 a5 b0 b1 b2 b3 b4 b5
          generalize Zf a b (k + 1) c = u1 at *
          generalize Zf a b k (c + 1) = u2 at *
          go_still_tail 23, (by kernel_rfl)
          change wpList _ _ _ _ _ w'.drew
          have hI3 := HI2.out.on (Nat.le_refl _) ((Below.refl w'.heap.size w').drew)
          clear r0 r1 z1 z2 HI2
          generalize w'.drew = wd at hI3 ⊢
          have s1 : wd.cell? ⟨G' k, c, none⟩ = some (.int .i64 0) := by rw [hI3.curAny (by omega), if_neg (by omega)]
          have s2 := hI3.curFrozen c
          have HS := Lib.hid (hI3.set HV.out.symm)
          clear hI3
          go_wp2_with fail
          exact ⟨⟨c, by omega, by go_num, HS.out⟩, by simp [intOf]⟩
        · have HA := Lib.hid (fun W => alike_P x y W)
          rw [ha] at HA
          have HF := Lib.hid (HH.out ha)
          clear ha
          go_wp2_with fail
          go_region_held3 (fun w' => w'.cell? ⟨ba, oa + k * 6, none⟩ = some (.string x.m) ∧ w'.cell? ⟨ba, oa + k * 6 + 1, none⟩ = some (.string x.f) ∧ w'.cell? ⟨ba, oa + k * 6 + 2, none⟩ = some (.string x.i) ∧ w'.cell? ⟨ba, oa + k * 6 + 3, none⟩ = some (.int .i64 x.line) ∧ w'.cell? ⟨ba, oa + k * 6 + 4, none⟩ = some (.int .i64 x.addr) ∧ w'.cell? ⟨ba, oa + k * 6 + 5, none⟩ = some (.bool x.own) ∧
            w'.cell? ⟨bb, ob + c * 6, none⟩ = some (.string y.m) ∧ w'.cell? ⟨bb, ob + c * 6 + 1, none⟩ = some (.string y.f) ∧ w'.cell? ⟨bb, ob + c * 6 + 2, none⟩ = some (.string y.i) ∧ w'.cell? ⟨bb, ob + c * 6 + 3, none⟩ = some (.int .i64 y.line) ∧ w'.cell? ⟨bb, ob + c * 6 + 4, none⟩ = some (.int .i64 y.addr) ∧ w'.cell? ⟨bb, ob + c * 6 + 5, none⟩ = some (.bool y.own) ∧ Below wr.heap.size wr w')
          ((repeat' apply And.intro) <;> first | assumption | exact Below.drew (by assumption) | exact cell_keep (by assumption) hbX | exact below_keep (by first | assumption | exact Below.drew (by assumption)) (Nat.le_refl _) hbX)
          (first | (go_at_call 18; refine (HA.out _).mono ?_; rintro e w' ⟨rfl, hbX⟩))
          go_wp2_with fail
          have hB : Below wr.heap.size wr w' := (Below.refl _ wr).drew.trans hbX
          have hI2 := HI.out.on (Nat.le_refl _) hB
          have hkz1 : (k : Int) < (n1 : Int) := by omega
          have hkz2 : (k : Int) + 1 < (n1 : Int) := by omega
          have hcz1 : (c : Int) < (m1 : Int) := by omega
          have hcz2 : (c : Int) + 1 < (m1 : Int) := by omega
          have hw1 : IntKind.i64.wrap ((k : Int) + 1) = (k : Int) + 1 := IntWalk.i64_in _ ⟨by omega, by omega⟩
          have hw2 : IntKind.i64.wrap ((c : Int) + 1) = (c : Int) + 1 := IntWalk.i64_in _ ⟨by omega, by omega⟩
          have hp1 : (0 : Int) ≤ (k : Int) + 1 := by omega
          have hp2 : (0 : Int) ≤ (c : Int) + 1 := by omega
          have r0 : w'.cell? ⟨w.heap.size, k, none⟩ = some (.slice (some ⟨G' k, 0, none⟩) m1 m1) := by rw [HM1'.out]; exact hI2.row_cell (Nat.le_refl _) (by omega)
          have r1 : w'.cell? ⟨w.heap.size, k + 1, none⟩ = some (.slice (some ⟨G' (k + 1), 0, none⟩) m1 m1) := by rw [HM1'.out]; exact hI2.row_cell (by omega) (by omega)
          have z1 : w'.cell? ⟨G' (k + 1), c + 1, none⟩ = some (.int .i64 (Zf a b (k + 1) (c + 1))) := hI2.cell (by omega) (by omega) (by omega)
          have hw3 : IntKind.i64.wrap (1 + Zf a b (k + 1) (c + 1)) = 1 + Zf a b (k + 1) (c + 1) := IntWalk.i64_in _ ⟨by unfold Zf; omega, by have := T_le a b a.length (k + 1) (c + 1) (by omega); unfold Zf; omega⟩
          have HV := Lib.hid (show Zf a b k c = 1 + Zf a b (k + 1) (c + 1) by unfold Zf; rw [HF.out]; omega)
          have HI2 := Lib.hid hI2
          clear hI2 hr a0 a1 a2 a3 a4 a5 b0 b1 b2 b3 b4 b5
          generalize Zf a b (k + 1) (c + 1) = u1 at *
          go_still_tail 16, (by kernel_rfl)
          change wpList _ _ _ _ _ w'.drew
          have hI3 := HI2.out.on (Nat.le_refl _) ((Below.refl w'.heap.size w').drew)
          clear r0 r1 z1 HI2
          generalize w'.drew = wd at hI3 ⊢
          have s1 : wd.cell? ⟨G' k, c, none⟩ = some (.int .i64 0) := by rw [hI3.curAny (by omega), if_neg (by omega)]
          have s2 := hI3.curFrozen c
          have HS := Lib.hid (hI3.set HV.out.symm)
          clear hI3
          go_wp2_with fail
          exact ⟨⟨c, by omega, by go_num, HS.out⟩, by simp [intOf]⟩

end Go.Proofs.YtkenckolkpgebaaGreatDoor

/- The law StackFaults, walked. -/
import Derived.Test.YtihnpbhcddapdaaCulprit
import Derived.Test.YtihnpbhcddapdaaSame
import Derived.Test.YtihnpbhcddapdaaShared
import Derived.Deep.RegionHeld3
namespace Go.Proofs.Ytihnpbhcddapdaa
open Go.RowKit

theorem below_on {B : Nat} {w W W' : World} (h : Below B w W) (hk : Below W.heap.size W W') (hB : B ≤ w.heap.size) : Below B w W' := h.trans (hk.mono (by have := h.size; omega))
theorem cell_on {w W W' : World} {b o : Nat} {u : Value} (h : W.cell? ⟨b, o, none⟩ = some u) (hw : Below w.heap.size w W) (hb : b < w.heap.size) (hk : Below W.heap.size W W') : W'.cell? ⟨b, o, none⟩ = some u :=
  (hk.cell (p := ⟨b, o, none⟩) (by have := hw.size; simp only; omega)).trans h

theorem keep_all {w w1 W W' : World} {x : Fr} {kd tx : ByteArray} {p : Option Addr} {n c : Nat} (hS : W.cell? ⟨w.heap.size, 0, none⟩ = some (.string x.m) ∧ W.cell? ⟨w.heap.size, 1, none⟩ = some (.string x.f) ∧ W.cell? ⟨w.heap.size, 2, none⟩ = some (.string x.i) ∧ W.cell? ⟨w.heap.size, 3, none⟩ = some (.int .i64 x.line) ∧ W.cell? ⟨w.heap.size, 4, none⟩ = some (.int .i64 x.addr) ∧ W.cell? ⟨w.heap.size, 5, none⟩ = some (.bool x.own) ∧ W.cell? ⟨w.heap.size + 1, 0, none⟩ = some (.string kd) ∧ W.cell? ⟨w.heap.size + 1, 1, none⟩ = some (.string tx) ∧ W.cell? ⟨w.heap.size + 1, 2, none⟩ = some (.slice p n c) ∧ Below w.heap.size w W ∧ Below w1.heap.size w1 W) (hk : Below W.heap.size W W') (hs : w.heap.size + 2 ≤ w1.heap.size) :
    W'.cell? ⟨w.heap.size, 0, none⟩ = some (.string x.m) ∧ W'.cell? ⟨w.heap.size, 1, none⟩ = some (.string x.f) ∧ W'.cell? ⟨w.heap.size, 2, none⟩ = some (.string x.i) ∧ W'.cell? ⟨w.heap.size, 3, none⟩ = some (.int .i64 x.line) ∧ W'.cell? ⟨w.heap.size, 4, none⟩ = some (.int .i64 x.addr) ∧ W'.cell? ⟨w.heap.size, 5, none⟩ = some (.bool x.own) ∧ W'.cell? ⟨w.heap.size + 1, 0, none⟩ = some (.string kd) ∧ W'.cell? ⟨w.heap.size + 1, 1, none⟩ = some (.string tx) ∧ W'.cell? ⟨w.heap.size + 1, 2, none⟩ = some (.slice p n c) ∧ Below w.heap.size w W' ∧ Below w1.heap.size w1 W' := by
  obtain ⟨a0, a1, a2, a3, a4, a5, a6, a7, a8, b1, b2⟩ := hS
  exact ⟨cell_on a0 b2 (by omega) hk, cell_on a1 b2 (by omega) hk, cell_on a2 b2 (by omega) hk, cell_on a3 b2 (by omega) hk, cell_on a4 b2 (by omega) hk, cell_on a5 b2 (by omega) hk, cell_on a6 b2 (by omega) hk, cell_on a7 b2 (by omega) hk, cell_on a8 b2 (by omega) hk, below_on b1 hk (Nat.le_refl _), below_on b2 hk (Nat.le_refl _)⟩

theorem held_below {w w1 W : World} {x : Fr} {kd tx : ByteArray} {p : Option Addr} {n c : Nat} (hS : W.cell? ⟨w.heap.size, 0, none⟩ = some (.string x.m) ∧ W.cell? ⟨w.heap.size, 1, none⟩ = some (.string x.f) ∧ W.cell? ⟨w.heap.size, 2, none⟩ = some (.string x.i) ∧ W.cell? ⟨w.heap.size, 3, none⟩ = some (.int .i64 x.line) ∧ W.cell? ⟨w.heap.size, 4, none⟩ = some (.int .i64 x.addr) ∧ W.cell? ⟨w.heap.size, 5, none⟩ = some (.bool x.own) ∧ W.cell? ⟨w.heap.size + 1, 0, none⟩ = some (.string kd) ∧ W.cell? ⟨w.heap.size + 1, 1, none⟩ = some (.string tx) ∧ W.cell? ⟨w.heap.size + 1, 2, none⟩ = some (.slice p n c) ∧ Below w.heap.size w W ∧ Below w1.heap.size w1 W) : Below w.heap.size w W := hS.2.2.2.2.2.2.2.2.2.1

set_option maxHeartbeats 4000000 in
set_option maxRecDepth 100000 in
theorem lawFaults_A (x : Fr) (f : Fa) (v1 v2 v3 v4 : Value) (l m : List Fa) (a b : List Fr) (w : World) (hx : x.fit) (hf : f.ok w) (h1 : SlA w v1 l) (h2 : SlA w v2 m) (h3 : SlF w v3 a) (h4 : SlF w v4 b) (he : fasErr l = 0) :
    Calls Try.prog 3 #[.agg #[.string x.m, .string x.f, .string x.i, .int .i64 x.line, .int .i64 x.addr, .bool x.own], .agg #[.string f.kind, .string f.text, f.fv], v1, v2, v3, v4] w fun e w' => e = .returned (.bool true) ∧ Below w.heap.size w w' := by
  obtain ⟨kd, tx, fv, fr⟩ := f
  have hfv : SlF w fv fr := hf.2.2
  have HE := Lib.hid he
  clear he
  have H8 := Lib.hid (fun W => checkFrame_v x W hx)
  have H9 := Lib.hid (fun W => frameError_v x W hx)
  have H10 := Lib.hid (fun (W : World) (hb : Below w.heap.size w W) => checkFault_v ⟨kd, tx, fv, fr⟩ W (hf.below (Nat.le_refl _) hb))
  have H11 := Lib.hid (fun (W : World) (hb : Below w.heap.size w W) => faultError_v ⟨kd, tx, fv, fr⟩ W (hf.below (Nat.le_refl _) hb))
  have H12 := Lib.hid (fun (W : World) (hb : Below w.heap.size w W) => check_any v1 l W (h1.below (Nat.le_refl _) hb))
  have H13 := Lib.hid (fun (W : World) (hb : Below w.heap.size w W) => faultsError_any v1 l W (h1.below (Nat.le_refl _) hb))
  have H14 := Lib.hid (fun (W : World) (hb : Below w.heap.size w W) => same_any v1 v2 l m W (h1.below (Nat.le_refl _) hb) (h2.below (Nat.le_refl _) hb))
  have H14' := Lib.hid (fun (W : World) (hb : Below w.heap.size w W) => same_any v1 v1 l l W (h1.below (Nat.le_refl _) hb) (h1.below (Nat.le_refl _) hb))
  have H15 := Lib.hid (fun (W : World) (hb : Below w.heap.size w W) => sameFaults_any v1 v2 l m W (h1.below (Nat.le_refl _) hb) (h2.below (Nat.le_refl _) hb))
  have H16 := Lib.hid (fun (W : World) (hb : Below w.heap.size w W) => shared_any v3 v4 a b W (h3.below (Nat.le_refl _) hb) (h4.below (Nat.le_refl _) hb))
  have H17 := Lib.hid (fun (W : World) (hb : Below w.heap.size w W) => sharedOf_any v3 v4 a b W (h3.below (Nat.le_refl _) hb) (h4.below (Nat.le_refl _) hb))
  have H7 := Lib.hid (fun (W : World) (hb : Below w.heap.size w W) => culprit_good v1 l W (h1.below (Nat.le_refl _) hb) HE.out)
  have H18 := Lib.hid (fun (W : World) (hb : Below w.heap.size w W) => culpritOf_good v1 l W (h1.below (Nat.le_refl _) hb) HE.out)
  rw [fasSame_refl] at H14'
  rw [HE.out] at H13 H12
  clear hf h1 h2 h3 h4
  obtain ⟨p, c, rfl, _⟩ := hfv
  simp only at H10 H11
  have hA : Below w.heap.size w ((w.alloc (.cells #[.string x.m, .string x.f, .string x.i, .int .i64 x.line, .int .i64 x.addr, .bool x.own] 23)).alloc (.cells #[.string kd, .string tx, .slice p fr.length c] 26)) := ((Below.refl _ _).alloc (Nat.le_refl _) _).alloc (by simp) _
  go_enter Try.func3, Try.ntmps3
  go_wp2_with (go_at_call 7; refine (H7.out _ hA).mono ?_; rintro e w1 ⟨rfl, hb1⟩)
  have hs1 : w.heap.size + 2 ≤ w1.heap.size := by have := hb1.size; simp at this; omega
  have g0 : w1.cell? ⟨w.heap.size, 0, none⟩ = some (.string x.m) := (hb1.cell (p := ⟨w.heap.size, 0, none⟩) (by simp; omega)).trans (by go_simp)
  have g1 : w1.cell? ⟨w.heap.size, 1, none⟩ = some (.string x.f) := (hb1.cell (p := ⟨w.heap.size, 1, none⟩) (by simp; omega)).trans (by go_simp)
  have g2 : w1.cell? ⟨w.heap.size, 2, none⟩ = some (.string x.i) := (hb1.cell (p := ⟨w.heap.size, 2, none⟩) (by simp; omega)).trans (by go_simp)
  have g3 : w1.cell? ⟨w.heap.size, 3, none⟩ = some (.int .i64 x.line) := (hb1.cell (p := ⟨w.heap.size, 3, none⟩) (by simp; omega)).trans (by go_simp)
  have g4 : w1.cell? ⟨w.heap.size, 4, none⟩ = some (.int .i64 x.addr) := (hb1.cell (p := ⟨w.heap.size, 4, none⟩) (by simp; omega)).trans (by go_simp)
  have g5 : w1.cell? ⟨w.heap.size, 5, none⟩ = some (.bool x.own) := (hb1.cell (p := ⟨w.heap.size, 5, none⟩) (by simp; omega)).trans (by go_simp)
  have k0 : w1.cell? ⟨w.heap.size + 1, 0, none⟩ = some (.string kd) := (hb1.cell (p := ⟨w.heap.size + 1, 0, none⟩) (by simp)).trans (by go_simp)
  have k1 : w1.cell? ⟨w.heap.size + 1, 1, none⟩ = some (.string tx) := (hb1.cell (p := ⟨w.heap.size + 1, 1, none⟩) (by simp)).trans (by go_simp)
  have k2 : w1.cell? ⟨w.heap.size + 1, 2, none⟩ = some (.slice p fr.length c) := (hb1.cell (p := ⟨w.heap.size + 1, 2, none⟩) (by simp)).trans (by go_simp)
  have hw1 : Below w.heap.size w w1 := hA.trans (hb1.mono (by simp; omega))
  have hr : Below w1.heap.size w1 w1 := Below.refl _ _
  clear hb1 hA
  go_region_held3 (fun w' => w'.cell? ⟨w.heap.size, 0, none⟩ = some (.string x.m) ∧ w'.cell? ⟨w.heap.size, 1, none⟩ = some (.string x.f) ∧ w'.cell? ⟨w.heap.size, 2, none⟩ = some (.string x.i) ∧ w'.cell? ⟨w.heap.size, 3, none⟩ = some (.int .i64 x.line) ∧ w'.cell? ⟨w.heap.size, 4, none⟩ = some (.int .i64 x.addr) ∧ w'.cell? ⟨w.heap.size, 5, none⟩ = some (.bool x.own) ∧ w'.cell? ⟨w.heap.size + 1, 0, none⟩ = some (.string kd) ∧ w'.cell? ⟨w.heap.size + 1, 1, none⟩ = some (.string tx) ∧ w'.cell? ⟨w.heap.size + 1, 2, none⟩ = some (.slice p fr.length c) ∧ Below w.heap.size w w' ∧ Below w1.heap.size w1 w')
    (first
      | exact keep_all (by assumption) hbX hs1
      | ((repeat' apply And.intro) <;> first
        | assumption
        | exact Below.drew (by assumption)
        | exact cell_on (w := w1) (by assumption) (by first | assumption | exact Below.drew (by assumption)) (by omega) hbX
        | exact below_on (by first | assumption | exact Below.drew (by assumption)) hbX (Nat.le_refl _)))
    (first
      | (go_at_call 8; refine (H8.out _).mono ?_; rintro e w' ⟨rfl, hbX⟩)
      | (go_at_call 9; refine (H9.out _).mono ?_; rintro e w' ⟨rfl, hbX⟩)
      | (go_at_call 10; refine (H10.out _ (by first | assumption | exact held_below (x := x) (kd := kd) (tx := tx) (p := p) (n := fr.length) (c := c) (w1 := w1) (by assumption))).mono ?_; rintro e w' ⟨rfl, hbX⟩)
      | (go_at_call 11; refine (H11.out _ (by first | assumption | exact held_below (x := x) (kd := kd) (tx := tx) (p := p) (n := fr.length) (c := c) (w1 := w1) (by assumption))).mono ?_; rintro e w' ⟨rfl, hbX⟩)
      | (go_at_call 12; refine (H12.out _ (by first | assumption | exact held_below (x := x) (kd := kd) (tx := tx) (p := p) (n := fr.length) (c := c) (w1 := w1) (by assumption))).mono ?_; rintro e w' ⟨rfl, hbX⟩)
      | (go_at_call 13; refine (H13.out _ (by first | assumption | exact held_below (x := x) (kd := kd) (tx := tx) (p := p) (n := fr.length) (c := c) (w1 := w1) (by assumption))).mono ?_; rintro e w' ⟨rfl, hbX⟩)
      | (go_at_call 14; ((with_reducible refine (H14.out _ (by first | assumption | exact held_below (x := x) (kd := kd) (tx := tx) (p := p) (n := fr.length) (c := c) (w1 := w1) (by assumption))).mono ?_); rintro e w' ⟨rfl, hbX⟩))
      | (go_at_call 14; ((with_reducible refine (H14'.out _ (by first | assumption | exact held_below (x := x) (kd := kd) (tx := tx) (p := p) (n := fr.length) (c := c) (w1 := w1) (by assumption))).mono ?_); rintro e w' ⟨rfl, hbX⟩))
      | (go_at_call 15; refine (H15.out _ (by first | assumption | exact held_below (x := x) (kd := kd) (tx := tx) (p := p) (n := fr.length) (c := c) (w1 := w1) (by assumption))).mono ?_; rintro e w' ⟨rfl, hbX⟩)
      | (go_at_call 16; refine (H16.out _ (by first | assumption | exact held_below (x := x) (kd := kd) (tx := tx) (p := p) (n := fr.length) (c := c) (w1 := w1) (by assumption))).mono ?_; rintro e w' ⟨rfl, hbX⟩)
      | (go_at_call 17; refine (H17.out _ (by first | assumption | exact held_below (x := x) (kd := kd) (tx := tx) (p := p) (n := fr.length) (c := c) (w1 := w1) (by assumption))).mono ?_; rintro e w' ⟨rfl, hbX⟩))
  have hbR := held_below (x := x) (kd := kd) (tx := tx) (p := p) (n := fr.length) (c := c) (w := w) (w1 := w1) (by assumption)
  go_wp2_with (first
    | (go_at_call 13; refine (H13.out _ hbR).mono ?_; rintro e w5 ⟨rfl, hbY⟩)
    | (go_at_call 18; refine (H18.out _ (below_on hbR hbY (Nat.le_refl _))).mono ?_; rintro e w6 ⟨rfl, hbZ⟩))
  go_ret
  exact ⟨by simp, below_on (below_on hbR hbY (Nat.le_refl _)) hbZ (Nat.le_refl _)⟩
set_option maxHeartbeats 4000000 in
set_option maxRecDepth 100000 in
theorem lawFaults_B (x : Fr) (f : Fa) (v1 v2 v3 v4 : Value) (l m : List Fa) (a b : List Fr) (w : World) (hx : x.fit) (hf : f.ok w) (h1 : SlA w v1 l) (h2 : SlA w v2 m) (h3 : SlF w v3 a) (h4 : SlF w v4 b) (he : fasErr l ≠ 0) :
    Calls Try.prog 3 #[.agg #[.string x.m, .string x.f, .string x.i, .int .i64 x.line, .int .i64 x.addr, .bool x.own], .agg #[.string f.kind, .string f.text, f.fv], v1, v2, v3, v4] w fun e w' => e = .returned (.bool true) ∧ Below w.heap.size w w' := by
  obtain ⟨kd, tx, fv, fr⟩ := f
  have hfv : SlF w fv fr := hf.2.2
  have HE := Lib.hid he
  clear he
  have H8 := Lib.hid (fun W => checkFrame_v x W hx)
  have H9 := Lib.hid (fun W => frameError_v x W hx)
  have H10 := Lib.hid (fun (W : World) (hb : Below w.heap.size w W) => checkFault_v ⟨kd, tx, fv, fr⟩ W (hf.below (Nat.le_refl _) hb))
  have H11 := Lib.hid (fun (W : World) (hb : Below w.heap.size w W) => faultError_v ⟨kd, tx, fv, fr⟩ W (hf.below (Nat.le_refl _) hb))
  have H12 := Lib.hid (fun (W : World) (hb : Below w.heap.size w W) => check_any v1 l W (h1.below (Nat.le_refl _) hb))
  have H13 := Lib.hid (fun (W : World) (hb : Below w.heap.size w W) => faultsError_any v1 l W (h1.below (Nat.le_refl _) hb))
  have H14 := Lib.hid (fun (W : World) (hb : Below w.heap.size w W) => same_any v1 v2 l m W (h1.below (Nat.le_refl _) hb) (h2.below (Nat.le_refl _) hb))
  have H14' := Lib.hid (fun (W : World) (hb : Below w.heap.size w W) => same_any v1 v1 l l W (h1.below (Nat.le_refl _) hb) (h1.below (Nat.le_refl _) hb))
  have H15 := Lib.hid (fun (W : World) (hb : Below w.heap.size w W) => sameFaults_any v1 v2 l m W (h1.below (Nat.le_refl _) hb) (h2.below (Nat.le_refl _) hb))
  have H16 := Lib.hid (fun (W : World) (hb : Below w.heap.size w W) => shared_any v3 v4 a b W (h3.below (Nat.le_refl _) hb) (h4.below (Nat.le_refl _) hb))
  have H17 := Lib.hid (fun (W : World) (hb : Below w.heap.size w W) => sharedOf_any v3 v4 a b W (h3.below (Nat.le_refl _) hb) (h4.below (Nat.le_refl _) hb))
  have H7 := Lib.hid (fun (W : World) (hb : Below w.heap.size w W) => culprit_bad v1 l W (h1.below (Nat.le_refl _) hb) HE.out)
  rw [fasSame_refl] at H14'
  have hq : (fasErr l != 0) = true := by simpa using HE.out
  clear hf h1 h2 h3 h4
  obtain ⟨p, c, rfl, _⟩ := hfv
  simp only at H10 H11
  have hA : Below w.heap.size w ((w.alloc (.cells #[.string x.m, .string x.f, .string x.i, .int .i64 x.line, .int .i64 x.addr, .bool x.own] 23)).alloc (.cells #[.string kd, .string tx, .slice p fr.length c] 26)) := ((Below.refl _ _).alloc (Nat.le_refl _) _).alloc (by simp) _
  go_enter Try.func3, Try.ntmps3
  go_wp2_with (go_at_call 7; refine (H7.out _ hA).mono ?_; rintro e w1 ⟨rfl, hb1⟩)
  have hs1 : w.heap.size + 2 ≤ w1.heap.size := by have := hb1.size; simp at this; omega
  have g0 : w1.cell? ⟨w.heap.size, 0, none⟩ = some (.string x.m) := (hb1.cell (p := ⟨w.heap.size, 0, none⟩) (by simp; omega)).trans (by go_simp)
  have g1 : w1.cell? ⟨w.heap.size, 1, none⟩ = some (.string x.f) := (hb1.cell (p := ⟨w.heap.size, 1, none⟩) (by simp; omega)).trans (by go_simp)
  have g2 : w1.cell? ⟨w.heap.size, 2, none⟩ = some (.string x.i) := (hb1.cell (p := ⟨w.heap.size, 2, none⟩) (by simp; omega)).trans (by go_simp)
  have g3 : w1.cell? ⟨w.heap.size, 3, none⟩ = some (.int .i64 x.line) := (hb1.cell (p := ⟨w.heap.size, 3, none⟩) (by simp; omega)).trans (by go_simp)
  have g4 : w1.cell? ⟨w.heap.size, 4, none⟩ = some (.int .i64 x.addr) := (hb1.cell (p := ⟨w.heap.size, 4, none⟩) (by simp; omega)).trans (by go_simp)
  have g5 : w1.cell? ⟨w.heap.size, 5, none⟩ = some (.bool x.own) := (hb1.cell (p := ⟨w.heap.size, 5, none⟩) (by simp; omega)).trans (by go_simp)
  have k0 : w1.cell? ⟨w.heap.size + 1, 0, none⟩ = some (.string kd) := (hb1.cell (p := ⟨w.heap.size + 1, 0, none⟩) (by simp)).trans (by go_simp)
  have k1 : w1.cell? ⟨w.heap.size + 1, 1, none⟩ = some (.string tx) := (hb1.cell (p := ⟨w.heap.size + 1, 1, none⟩) (by simp)).trans (by go_simp)
  have k2 : w1.cell? ⟨w.heap.size + 1, 2, none⟩ = some (.slice p fr.length c) := (hb1.cell (p := ⟨w.heap.size + 1, 2, none⟩) (by simp)).trans (by go_simp)
  have hw1 : Below w.heap.size w w1 := hA.trans (hb1.mono (by simp; omega))
  have hr : Below w1.heap.size w1 w1 := Below.refl _ _
  clear hb1 hA
  go_region_held3 (fun w' => w'.cell? ⟨w.heap.size, 0, none⟩ = some (.string x.m) ∧ w'.cell? ⟨w.heap.size, 1, none⟩ = some (.string x.f) ∧ w'.cell? ⟨w.heap.size, 2, none⟩ = some (.string x.i) ∧ w'.cell? ⟨w.heap.size, 3, none⟩ = some (.int .i64 x.line) ∧ w'.cell? ⟨w.heap.size, 4, none⟩ = some (.int .i64 x.addr) ∧ w'.cell? ⟨w.heap.size, 5, none⟩ = some (.bool x.own) ∧ w'.cell? ⟨w.heap.size + 1, 0, none⟩ = some (.string kd) ∧ w'.cell? ⟨w.heap.size + 1, 1, none⟩ = some (.string tx) ∧ w'.cell? ⟨w.heap.size + 1, 2, none⟩ = some (.slice p fr.length c) ∧ Below w.heap.size w w' ∧ Below w1.heap.size w1 w')
    (first
      | exact keep_all (by assumption) hbX hs1
      | ((repeat' apply And.intro) <;> first
        | assumption
        | exact Below.drew (by assumption)
        | exact cell_on (w := w1) (by assumption) (by first | assumption | exact Below.drew (by assumption)) (by omega) hbX
        | exact below_on (by first | assumption | exact Below.drew (by assumption)) hbX (Nat.le_refl _)))
    (first
      | (go_at_call 8; refine (H8.out _).mono ?_; rintro e w' ⟨rfl, hbX⟩)
      | (go_at_call 9; refine (H9.out _).mono ?_; rintro e w' ⟨rfl, hbX⟩)
      | (go_at_call 10; refine (H10.out _ (by first | assumption | exact held_below (x := x) (kd := kd) (tx := tx) (p := p) (n := fr.length) (c := c) (w1 := w1) (by assumption))).mono ?_; rintro e w' ⟨rfl, hbX⟩)
      | (go_at_call 11; refine (H11.out _ (by first | assumption | exact held_below (x := x) (kd := kd) (tx := tx) (p := p) (n := fr.length) (c := c) (w1 := w1) (by assumption))).mono ?_; rintro e w' ⟨rfl, hbX⟩)
      | (go_at_call 12; refine (H12.out _ (by first | assumption | exact held_below (x := x) (kd := kd) (tx := tx) (p := p) (n := fr.length) (c := c) (w1 := w1) (by assumption))).mono ?_; rintro e w' ⟨rfl, hbX⟩)
      | (go_at_call 13; refine (H13.out _ (by first | assumption | exact held_below (x := x) (kd := kd) (tx := tx) (p := p) (n := fr.length) (c := c) (w1 := w1) (by assumption))).mono ?_; rintro e w' ⟨rfl, hbX⟩)
      | (go_at_call 14; ((with_reducible refine (H14.out _ (by first | assumption | exact held_below (x := x) (kd := kd) (tx := tx) (p := p) (n := fr.length) (c := c) (w1 := w1) (by assumption))).mono ?_); rintro e w' ⟨rfl, hbX⟩))
      | (go_at_call 14; ((with_reducible refine (H14'.out _ (by first | assumption | exact held_below (x := x) (kd := kd) (tx := tx) (p := p) (n := fr.length) (c := c) (w1 := w1) (by assumption))).mono ?_); rintro e w' ⟨rfl, hbX⟩))
      | (go_at_call 15; refine (H15.out _ (by first | assumption | exact held_below (x := x) (kd := kd) (tx := tx) (p := p) (n := fr.length) (c := c) (w1 := w1) (by assumption))).mono ?_; rintro e w' ⟨rfl, hbX⟩)
      | (go_at_call 16; refine (H16.out _ (by first | assumption | exact held_below (x := x) (kd := kd) (tx := tx) (p := p) (n := fr.length) (c := c) (w1 := w1) (by assumption))).mono ?_; rintro e w' ⟨rfl, hbX⟩)
      | (go_at_call 17; refine (H17.out _ (by first | assumption | exact held_below (x := x) (kd := kd) (tx := tx) (p := p) (n := fr.length) (c := c) (w1 := w1) (by assumption))).mono ?_; rintro e w' ⟨rfl, hbX⟩))
  have hbR := held_below (x := x) (kd := kd) (tx := tx) (p := p) (n := fr.length) (c := c) (w := w) (w1 := w1) (by assumption)
  go_wp2_with (go_at_call 13; refine (H13.out _ hbR).mono ?_; rintro e w5 ⟨rfl, hbY⟩)
  go_ret
  exact ⟨by simp, below_on hbR hbY (Nat.le_refl _)⟩

theorem lawFaults (x : Fr) (f : Fa) (v1 v2 v3 v4 : Value) (l m : List Fa) (a b : List Fr) (w : World) (hx : x.fit) (hf : f.ok w) (h1 : SlA w v1 l) (h2 : SlA w v2 m) (h3 : SlF w v3 a) (h4 : SlF w v4 b) :
    Calls Try.prog 3 #[.agg #[.string x.m, .string x.f, .string x.i, .int .i64 x.line, .int .i64 x.addr, .bool x.own], .agg #[.string f.kind, .string f.text, f.fv], v1, v2, v3, v4] w fun e w' => e = .returned (.bool true) ∧ Below w.heap.size w w' := by
  by_cases he : fasErr l = 0
  · exact lawFaults_A x f v1 v2 v3 v4 l m a b w hx hf h1 h2 h3 h4 he
  · exact lawFaults_B x f v1 v2 v3 v4 l m a b w hx hf h1 h2 h3 h4 he
end Go.Proofs.Ytihnpbhcddapdaa

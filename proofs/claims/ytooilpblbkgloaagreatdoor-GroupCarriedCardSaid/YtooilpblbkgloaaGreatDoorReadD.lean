/- A reader's deeds: the closure of act, find over deeds. -/
import Derived.Test.YtooilpblbkgloaaGreatDoorReadM
import Derived.Test.YtooilpblbkgloaaGreatDoorRuleE
namespace Go.Proofs.YtooilpblbkgloaaGreatDoor
open Go.RowKit Go.Lib

/-- The cells of the row of deeds. -/
def DeedRow (w : World) (B : Nat) : Prop := ∀ j, j < 6 → w.cell? ⟨B, j * 2, none⟩ = some (.string (bs (aWord ((j : Int) + 1)))) ∧ ∃ f x y, w.cell? ⟨B, j * 2 + 1, none⟩ = some (.func f x y)
theorem DeedRow.lt {w : World} {B : Nat} (h : DeedRow w B) : B < w.heap.size := World.block_lt_of_cell? _ _ (h 0 (by omega)).1
theorem DeedRow.below {w w' : World} {B : Nat} (h : DeedRow w B) (hb : Below w.heap.size w w') : DeedRow w' B := by
  intro j hj
  obtain ⟨h0, f, x, y, h1⟩ := h j hj
  exact ⟨cell_keep h0 hb, f, x, y, cell_keep h1 hb⟩
set_option maxHeartbeats 2000000 in
set_option maxRecDepth 100000 in
theorem deedRow_any (w : World) : Calls Tryz.prog 50 #[] w fun e w' => ∃ B, e = .returned (.slice (some ⟨B, 0, none⟩) 6 6) ∧ DeedRow w' B ∧ Below w.heap.size w w' := by
  have H1 := Lib.hid (fun f W => each_any f W)
  go_enter Tryz.func50, Tryz.ntmps50
  go_wp2_with fail
  refine (H1.out _ _).mono ?_
  rintro e w1 ⟨rfl, hb1⟩
  have k1 := hb1
  go_wp2_with fail
  refine (H1.out _ _).mono ?_
  rintro e w2 ⟨rfl, hb2⟩
  have k2 := below_keep k1 (Nat.le_refl _) hb2
  go_wp2_with fail
  refine (H1.out _ _).mono ?_
  rintro e w3 ⟨rfl, hb3⟩
  have k3 := below_keep k2 (Nat.le_refl _) hb3
  go_wp2_with fail
  refine (H1.out _ _).mono ?_
  rintro e w4 ⟨rfl, hb4⟩
  have k4 := below_keep k3 (Nat.le_refl _) hb4
  go_wp2_with fail
  go_ret
  refine ⟨w4.heap.size, rfl, ?_, k4.alloc k4.size _⟩
  intro j hj
  obtain rfl | rfl | rfl | rfl | rfl | rfl : j = 0 ∨ j = 1 ∨ j = 2 ∨ j = 3 ∨ j = 4 ∨ j = 5 := by omega
  all_goals exact ⟨by go_simp; rfl, _, _, _, by go_simp; exact ⟨rfl, rfl, rfl⟩⟩

set_option maxHeartbeats 1000000 in
set_option maxRecDepth 100000 in
theorem clo_hit (b n : Nat) (m l : List UInt8) (f : Fn) (x y : Array Value) (w : World) (hR : RdC w b (bs (m ++ l))) (hn : w.cell? ⟨n, 0, none⟩ = some (.pointer (some ⟨b, 0, none⟩))) :
    Calls Tryz.prog 51 #[.agg #[.string (bs m), .func f x y], .pointer (some ⟨n, 0, none⟩)] w fun e w' => e = .returned (.bool true) ∧ RdC w' b (bs l) ∧ w.grownBy w' (some b) := by
  have hb := hR.lt
  have hnl : n < w.heap.size := World.block_lt_of_cell? _ _ hn
  have hne : ¬ n = w.heap.size := by omega
  have H0 := Lib.hid (fun (W : World) (hr : RdC W b _) => skip_hit b m l W hr)
  have HR := Lib.hid (hR.below ((Below.refl w.heap.size w).alloc (Nat.le_refl _) (.cells #[.string (bs m), .func f x y] 90)) hb)
  have HG := Lib.hid (World.grownBy_alloc w (.cells #[.string (bs m), .func f x y] 90) (some b))
  clear hR
  go_enter Tryz.func51, Tryz.ntmps51
  go_wp2_with (go_at_call 25; (with_reducible refine (H0.out _ HR.out).mono ?_); rintro e w1 ⟨rfl, hR1, hg1⟩)
  go_ret
  exact ⟨rfl, hR1, grownBy_trans HG.out hg1⟩
set_option maxHeartbeats 1000000 in
set_option maxRecDepth 100000 in
theorem clo_miss (b n : Nat) (m s : ByteArray) (f : Fn) (x y : Array Value) (w : World) (hR : RdC w b s) (hn : w.cell? ⟨n, 0, none⟩ = some (.pointer (some ⟨b, 0, none⟩))) (hp : Lib.hasPrefix s.data.toList m.data.toList = false) :
    Calls Tryz.prog 51 #[.agg #[.string m, .func f x y], .pointer (some ⟨n, 0, none⟩)] w fun e w' => e = .returned (.bool false) ∧ Below w.heap.size w w' := by
  have hb := hR.lt
  have hnl : n < w.heap.size := World.block_lt_of_cell? _ _ hn
  have hne : ¬ n = w.heap.size := by omega
  have H0 := Lib.hid (fun (W : World) (hr : RdC W b _) => skip_miss b m s W hr hp)
  have HR := Lib.hid (hR.below ((Below.refl w.heap.size w).alloc (Nat.le_refl _) (.cells #[.string m, .func f x y] 90)) hb)
  have HG := Lib.hid ((Below.refl w.heap.size w).alloc (Nat.le_refl _) (.cells #[.string m, .func f x y] 90))
  clear hR hp
  go_enter Tryz.func51, Tryz.ntmps51
  go_wp2_with (go_at_call 25; (with_reducible refine (H0.out _ HR.out).mono ?_); rintro e w1 ⟨rfl, rfl⟩)
  go_ret
  exact ⟨rfl, HG.out⟩

theorem deeds_off (i j : Nat) (hi : i < 6) (hj : j < i) (R : List UInt8) : Lib.hasPrefix (aWord ((i : Int) + 1) ++ R) (aWord ((j : Int) + 1)) = false := by
  obtain rfl | rfl | rfl | rfl | rfl | rfl : i = 0 ∨ i = 1 ∨ i = 2 ∨ i = 3 ∨ i = 4 ∨ i = 5 := by omega
  all_goals
    obtain rfl | rfl | rfl | rfl | rfl : j = 0 ∨ j = 1 ∨ j = 2 ∨ j = 3 ∨ j = 4 := by omega
    all_goals first | rfl | (exfalso; omega)

set_option maxHeartbeats 1000000 in
set_option maxRecDepth 100000 in
theorem dfind_hit (B b n i : Nat) (l : List UInt8) (w : World) (hi : i < 6) (hw : DeedRow w B) (hR : RdC w b (bs (aWord ((i : Int) + 1) ++ l))) (hn : w.cell? ⟨n, 0, none⟩ = some (.pointer (some ⟨b, 0, none⟩))) :
    Calls Tryz.prog 49 #[.slice (some ⟨B, 0, none⟩) 6 6, .func (.func 51) #[] #[.pointer (some ⟨n, 0, none⟩)]] w fun e w' => e = .returned (.tuple #[.int .i64 i, .bool true]) ∧ RdC w' b (bs l) ∧ w.grownBy w' (some b) := by
  have HW := Lib.hid hw
  have HR := Lib.hid hR
  have HN := Lib.hid hn
  have hbl := hR.lt
  have hBl := hw.lt
  have hnl : n < w.heap.size := World.block_lt_of_cell? _ _ hn
  clear hw hR hn
  go_enter Tryz.func49, Tryz.ntmps49
  go_wp2_with fail
  go_loopw [10] (fun v wr => ∃ k : Nat, v = .int .i64 k ∧ k ≤ i ∧ Below w.heap.size w wr) (fun v _ => i + 1 - (RowKit.intOf v).toNat)
  case atStart => exact ⟨0, rfl, Nat.zero_le _, Below.refl _ _⟩
  case round =>
    obtain ⟨k, rfl, hk, hbw⟩ := hrel
    obtain ⟨q0, f, x, y, q1⟩ := (HW.out.below hbw) k (by omega)
    have hk6 : k < 6 := by omega
    have hbs := hbw.size
    have HA := Lib.hid ((Below.refl wr.heap.size wr).alloc (Nat.le_refl _) (.cells #[.string (bs (aWord ((k : Int) + 1))), .func f x y] 90))
    have HR1 := Lib.hid ((HR.out.below hbw hbl).below HA.out (by omega))
    have HN1 := Lib.hid (cell_keep (cell_keep HN.out hbw) HA.out)
    by_cases hlt : k < i
    · have HC := Lib.hid (clo_miss b n (bs (aWord ((k : Int) + 1))) _ f x y _ HR1.out HN1.out (deeds_off i k hi hlt l))
      clear hk
      go_wp2_with (go_at_call 51; (with_reducible refine HC.out.mono ?_); rintro e w1 ⟨rfl, hb1⟩)
      exact ⟨⟨k + 1, rfl, hlt, below_keep hbw (Nat.le_refl _) (below_keep HA.out (Nat.le_refl _) hb1)⟩, by simp [RowKit.intOf]; omega⟩
    · obtain rfl : k = i := by omega
      have HC := Lib.hid (clo_hit b n (aWord ((k : Int) + 1)) l f x y _ HR1.out HN1.out)
      go_wp2_with (go_at_call 51; (with_reducible refine HC.out.mono ?_); rintro e w1 ⟨rfl, hR1, hg1⟩)
      go_ret2
      exact ⟨rfl, hR1, grownBy_trans (grownBy_of_below (below_keep hbw (Nat.le_refl _) HA.out)) hg1⟩
end Go.Proofs.YtooilpblbkgloaaGreatDoor

/- A reader's number. -/
import Derived.Test.YtooilpblbkgloaaGreatDoorReadA
import Derived.Test.YtooilpblbkgloaaGreatDoorReadN
import Derived.Lib.AtoiErrMem
namespace Go.Proofs.YtooilpblbkgloaaGreatDoor
open Go.RowKit Go.Lib

theorem cut_rd (b : Nat) (c : UInt8) (s : ByteArray) (T : List UInt8 × List UInt8 × Bool) (w : World) (hs : s.size ≤ 1000000) (hR : RdC w b s) (hE : Env w) (hT : Lib.cut s.data.toList [c] = T) :
    Calls Tryz.prog 10 #[.string s, .string (bs [c])] w fun e w' => e = .returned (.tuple #[.string (bs T.1), .string (bs T.2.1), .bool T.2.2]) ∧ RdC w' b s ∧ Env w' ∧ Below w.heap.size w w' := by
  obtain ⟨m, hm⟩ := hE.1
  refine (Tryz.strings_Cut s (bs [c]) m w (by omega) hm).mono ?_
  rintro e w' ⟨rfl, n, rfl⟩
  have hb : Below w.heap.size w (w.drewN n) := below_drewN (Below.refl _ _) n
  exact ⟨by rw [show Lib.cut s.data.toList (bs [c]).data.toList = T from hT]; rfl, hR.below hb hR.lt, hE.keep hb, hb⟩
theorem atoi_rd (b : Nat) (s : ByteArray) (n : Int) (w : World) (hR : RdC w b s) (hE : Env w) (h0 : 0 ≤ n) (h1 : n ≤ 200) :
    Calls Tryz.prog 81 #[.string (bs (digs n))] w fun e w' => e = .returned (.tuple #[.int .i64 n, .nilIface]) ∧ RdC w' b s ∧ Env w' ∧ Below w.heap.size w w' := by
  obtain ⟨f1, f2, f3, f4⟩ := digs_facts h0 h1
  refine (Tryz.strconv_Atoi (bs (digs n)) n (by rw [bs_size]; omega) f1 w).mono ?_
  rintro e w' ⟨rfl, t, rfl⟩
  have hb : Below w.heap.size w (Lib.bytesWorld w 5 t) := Lib.bytesWorld_below w 5 t
  exact ⟨rfl, hR.below hb hR.lt, hE.keep hb, hb⟩
theorem itoa_rd (b : Nat) (s : ByteArray) (n : Int) (w : World) (hR : RdC w b s) (hE : Env w) (h0 : 0 ≤ n) (h1 : n ≤ 200) :
    Calls Tryz.prog 67 #[.int .i64 n] w fun e w' => e = .returned (.string (bs (digs n))) ∧ RdC w' b s ∧ Env w' ∧ Below w.heap.size w w' := by
  refine (itoa_any n w h0 h1 hE).mono ?_
  rintro e w' ⟨rfl, hb⟩
  exact ⟨rfl, hR.below hb hR.lt, hE.keep hb, hb⟩
theorem bs_drop (a l : List UInt8) : (bs (a ++ l)).extract a.length (bs (a ++ l)).size = bs l := by
  rw [← Lib.mk_data ((bs (a ++ l)).extract a.length (bs (a ++ l)).size)]
  show bs _ = _
  rw [bs_size]
  simp [bs]

set_option maxHeartbeats 1000000 in
set_option maxRecDepth 100000 in
theorem number_hit (b : Nat) (n : Int) (l : List UInt8) (w : World) (h0 : 0 ≤ n) (h1 : n ≤ 200) (hs : (digs n ++ l).length ≤ 1000000) (hl : l = [] ∨ ∃ t, l = 32 :: t) (hR : RdC w b (bs (digs n ++ l))) (hE : Env w) :
    Calls Tryz.prog 52 #[.pointer (some ⟨b, 0, none⟩)] w fun e w' => e = .returned (.int .i64 n) ∧ RdC w' b (bs l) ∧ w.grownBy w' (some b) := by
  obtain ⟨f1, f2, f3, f4⟩ := digs_facts h0 h1
  obtain ⟨T, hT, hT1⟩ : ∃ T, Lib.cut (bs (digs n ++ l)).data.toList [32] = T ∧ T.1 = digs n := by
    rcases hl with rfl | ⟨t, rfl⟩
    · exact ⟨(digs n, [], false), by rw [List.append_nil]; exact cut_out 32 _ (fun x hx => (f2 x hx).1), rfl⟩
    · exact ⟨_, cut_at 32 _ _ (fun x hx => (f2 x hx).1), rfl⟩
  obtain ⟨s, hsd⟩ : ∃ s, s = bs (digs n ++ l) := ⟨_, rfl⟩
  obtain ⟨D, hD⟩ : ∃ D, D = bs (digs n) := ⟨_, rfl⟩
  have hDs : (D.size : Int) ≤ 3 := by rw [hD, bs_size]; omega
  have hDl : (D.size : Int) ≤ s.size := by rw [hD, hsd, bs_size, bs_size, List.length_append]; omega
  have HX := Lib.hid (show s.extract D.size s.size = bs l from by rw [hD, hsd, bs_size]; exact bs_drop _ _)
  rw [← hsd] at hR hT
  have HC := Lib.hid (fun (W : World) (hr : RdC W b s) (he : Env W) => cut_rd b 32 s T W (by rw [hsd, bs_size]; omega) hr he hT)
  rw [hT1, ← hD] at HC
  have HA := Lib.hid (fun (W : World) (hr : RdC W b s) (he : Env W) => atoi_rd b s n W hr he h0 h1)
  have HI := Lib.hid (fun (W : World) (hr : RdC W b s) (he : Env W) => itoa_rd b s n W hr he h0 h1)
  rw [← hD] at HA HI
  have h00 := hR.c0
  have hf := hR.f0
  have HR := Lib.hid hR
  have HE := Lib.hid hE
  clear f1 f2 f3 f4 hT hT1 hs hl hsd hD hR hE
  go_enter Tryz.func52, Tryz.ntmps52
  go_wp2_with (first
    | (go_at_call 10; refine (HC.out _ HR.out HE.out).mono ?_; rintro e w1 ⟨rfl, hR1, hE1, hb1⟩; have x1 := hR1.c0; have y1 := hR1.f0)
    | (go_at_call 81; refine (HA.out _ hR1 hE1).mono ?_; rintro e w2 ⟨rfl, hR2, hE2, hb2⟩; have x2 := hR2.c0; have y2 := hR2.f0)
    | (go_at_call 67; refine (HI.out _ hR2 hE2).mono ?_; rintro e w3 ⟨rfl, hR3, hE3, hb3⟩; have x3 := hR3.c0; have y3 := hR3.f0))
  go_ret
  rw [HX.out]
  exact ⟨rfl, hR3.set _, grownBy_trans (grownBy_of_below (below_keep (below_keep hb1 (Nat.le_refl _) hb2) (Nat.le_refl _) hb3)) (grownBy_set _ _ _)⟩
end Go.Proofs.YtooilpblbkgloaaGreatDoor

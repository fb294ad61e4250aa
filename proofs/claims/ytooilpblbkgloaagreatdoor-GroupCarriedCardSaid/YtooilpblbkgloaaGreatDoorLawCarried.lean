/- The law GroupCarried, walked. -/
import Derived.Test.YtooilpblbkgloaaGreatDoorReadS
import Derived.Test.YtooilpblbkgloaaGreatDoorLawGlobs
namespace Go.Proofs.YtooilpblbkgloaaGreatDoor
open Go.RowKit Go.Lib

set_option maxHeartbeats 2000000 in
set_option maxRecDepth 100000 in
theorem carried_any (v : Value) (l : List Ru) (w : World) (h : RsV w v l) (henv : Env w) :
    Calls Tryz.prog 4 #[v] w fun e w' => e = .returned (.bool true) ∧ Below w.heap.size w w' := by
  have HA := Lib.hid (fun W => awake_any W)
  have H := Lib.hid h
  have HE := Lib.hid henv
  clear h henv
  by_cases hf : rulesErr l = 0
  · have HT := Lib.hid (fun (u : Value) (W : World) (hR : RsV W u l) (hE : Env W) => rulesText_good u l W hR hf hE)
    have HR := Lib.hid (fun (W : World) (hE : Env W) => readRules_good l W hf hE)
    clear hf
    generalize bs (rsText l) = S at *
    go_enter Tryz.func4, Tryz.ntmps4
    go_wp2_with (first
      | (go_at_call 8; (with_reducible refine (HA.out _).mono ?_); rintro e w1 ⟨rfl, hb1⟩)
      | (go_at_call 5; (with_reducible refine (HR.out _ ((HE.out.keep hb1).keep hb2)).mono ?_); rintro e w3 ⟨m, rfl, hm, hb3⟩)
      | (go_at_call 9; first
          | ((with_reducible refine (HT.out _ _ hm (((HE.out.keep hb1).keep hb2).keep hb3)).mono ?_); rintro e w4 ⟨rfl, hb4⟩)
          | ((with_reducible refine (HT.out _ _ (H.out.below (Nat.le_refl _) hb1) (HE.out.keep hb1)).mono ?_); rintro e w2 ⟨rfl, hb2⟩)))
    go_ret
    exact ⟨by simp, below_keep (below_keep (below_keep hb1 (Nat.le_refl _) hb2) (Nat.le_refl _) hb3) (Nat.le_refl _) hb4⟩
  · have HT := Lib.hid (fun (u : Value) (W : World) (hR : RsV W u l) => rulesText_bad u l W hR hf)
    have h0 : (rulesErr l != 0) = true := by simpa using hf
    have HF := Lib.hid hf
    clear hf
    generalize rulesErr l = E at *
    go_enter Tryz.func4, Tryz.ntmps4
    go_wp2_with (first
      | (go_at_call 8; (with_reducible refine (HA.out _).mono ?_); rintro e w1 ⟨rfl, hb1⟩)
      | (go_at_call 9; (with_reducible refine (HT.out _ _ (H.out.below (Nat.le_refl _) hb1)).mono ?_); rintro e w2 ⟨rfl, hb2⟩))
    go_ret
    exact ⟨rfl, below_keep hb1 (Nat.le_refl _) hb2⟩
end Go.Proofs.YtooilpblbkgloaaGreatDoor

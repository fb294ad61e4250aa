/- What told and SameVersion answer where both sides are the same; rows of whole numbers. -/
import Derived.Test.YtnpnoohnkbpokaaGreatDoorVerG
import Derived.Deep.RegionHeld3
namespace Go.Proofs.YtnpnoohnkbpokaaGreatDoor
open Go.RowKit Go.Lib

set_option maxHeartbeats 1000000 in
set_option maxRecDepth 100000 in
theorem told_same (T : ByteArray) (E : Int) (w : World) (h : E ≠ 0 → T = ⟨#[]⟩) :
    Calls Tryz.prog 6 #[.string T, .int .i64 E, .string T, .int .i64 E] w fun e w' => e = .returned (.bool true) ∧ w' = w := by
  by_cases hE : E = 0
  · subst hE
    clear h
    go_enter Tryz.func6, Tryz.ntmps6
    go_wp2_with fail
    go_ret
    exact ⟨by simp, rfl⟩
  · obtain rfl := h hE
    have hq : (E != 0) = true := by simpa using hE
    clear h hE
    go_enter Tryz.func6, Tryz.ntmps6
    go_wp2_with fail
    go_ret
    exact ⟨by simp, rfl⟩

theorem SlG.cells {w : World} {v : Value} {l : List ByteArray} (h : SlG encS 1 fitP w v l) : ∃ p cap, v = .slice p l.length cap ∧ l.length ≤ cap ∧ cap ≤ 9223372036854775807 ∧ (l = [] ∨ ∃ b off, p = some ⟨b, off, none⟩ ∧ ∀ j, j < l.length → w.cell? ⟨b, off + j, none⟩ = some (.string (l.getD j ByteArray.empty))) := by
  obtain ⟨p, cap, hv, h1, h2, _, h4⟩ := h
  refine ⟨p, cap, hv, h1, by unfold maxLen at h2; omega, ?_⟩
  rcases h4 with h4 | ⟨b, off, hp, hb, hat⟩
  · exact Or.inl h4
  · refine Or.inr ⟨b, off, hp, fun j hj => ?_⟩
    rw [hat.str hj]; simp [List.getD, hj]
theorem equal_same (v u : Value) (l : List ByteArray) (w : World) (h1 : SlG encS 1 fitP w v l) (h2 : SlG encS 1 fitP w u l) :
    Calls Tryz.prog 37 #[v, u] w fun e w' => e = .returned (.bool true) ∧ Below w.heap.size w w' := by
  obtain ⟨p, c, rfl, hc1, hc2, hp⟩ := h1.cells
  obtain ⟨q, d, rfl, hd1, hd2, hq⟩ := h2.cells
  rcases hp with rfl | ⟨b, off, rfl, hp⟩
  · refine (Tryz.slices_Equal_string_empty p q c 0 d w (by omega)).mono ?_
    rintro e w' ⟨rfl, rfl⟩
    exact ⟨by simp, Below.refl _ _⟩
  · rcases hq with rfl | ⟨b', off', rfl, hq⟩
    · refine (Tryz.slices_Equal_string_empty _ q c 0 d w (by omega)).mono ?_
      rintro e w' ⟨rfl, rfl⟩
      exact ⟨by simp, Below.refl _ _⟩
    · refine (Tryz.slices_Equal_string b off l.length c b' off' l.length d l l w (Nat.le_refl _) (Nat.le_refl _) (by omega) (by omega) hp hq).mono ?_
      rintro e w' ⟨rfl, k, rfl⟩
      exact ⟨by simp, below_drewE (Below.refl _ _) k⟩

set_option maxHeartbeats 2000000 in
set_option maxRecDepth 100000 in
theorem same_any (v u : Value) (x : Vr) (w : World) (h1 : VrV w v x) (h2 : VrV w u x) :
    Calls Tryz.prog 11 #[v, u] w fun e w' => e = .returned (.bool true) ∧ Below w.heap.size w w' := by
  obtain ⟨p, rfl, hsl⟩ := h1
  obtain ⟨q, rfl, hsm⟩ := h2
  obtain ⟨a, cap, rfl, _⟩ := id hsl
  obtain ⟨b, cup, rfl, _⟩ := id hsm
  obtain ⟨pj, ma, mi, pa, pre⟩ := x
  simp only at hsl hsm ⊢
  have HQ := Lib.hid (fun (W : World) (hW : Below w.heap.size w W) => equal_same _ _ pre W (hsl.below (Nat.le_refl _) hW) (hsm.below (Nat.le_refl _) hW))
  have hb2 : Below w.heap.size w ((w.alloc (.cells #[.string pj, .int .i64 ma, .int .i64 mi, .int .i64 pa, .slice a pre.length cap] 24)).alloc (.cells #[.string pj, .int .i64 ma, .int .i64 mi, .int .i64 pa, .slice b pre.length cup] 24)) := ((Below.refl _ _).alloc (Nat.le_refl _) _).alloc (by simp) _
  have HB2 := Lib.hid hb2
  clear hsl hsm hb2
  go_enter Tryz.func11, Tryz.ntmps11
  go_wp2_with (go_at_call 37; (with_reducible refine (HQ.out _ HB2.out).mono ?_); rintro e w1 ⟨rfl, hb1⟩)
  go_ret
  exact ⟨rfl, below_call HB2.out HB2.out.size hb1⟩
end Go.Proofs.YtnpnoohnkbpokaaGreatDoor

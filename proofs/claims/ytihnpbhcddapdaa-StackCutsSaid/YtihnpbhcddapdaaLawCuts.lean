/- The law StackCuts, walked. -/
import Derived.Test.YtihnpbhcddapdaaFolded
import Derived.Test.YtihnpbhcddapdaaCutOf
import Derived.Test.YtihnpbhcddapdaaEqualR
namespace Go.Proofs.Ytihnpbhcddapdaa
open Go.RowKit

set_option maxHeartbeats 1000000 in
set_option maxRecDepth 100000 in
theorem folded_none (p : Option Addr) (cap : Nat) (w : World) : Calls Try.prog 23 #[.slice p 0 cap] w (MadeR1 (foldN []) w) := by
  have HM := Lib.hid (show MadeR1 (foldN []) w (.returned (.slice none 0 0)) w from ⟨_, rfl, ⟨rfl, .inl ⟨rfl, rfl⟩⟩, Below.refl _ _⟩)
  go_enter Try.func23, Try.ntmps23
  go_wp2_with fail
  go_loop [3, 4] (fun v5 v6 => v5 = .slice none 0 0 ∧ v6 = .int .i64 0) (fun _ _ => 0)
  case atStart => exact ⟨rfl, rfl⟩
  case round =>
    obtain ⟨rfl, rfl⟩ := hrel
    go_wp2_with fail
    go_ret
    exact HM.out
theorem folded_good (v : Value) (l : List Fr) (w : World) (h : SlF w v l) (he : frsErr l = 0) : Calls Try.prog 23 #[v] w (MadeR1 (foldN l) w) := by
  obtain ⟨p, cap, rfl, h1, h2, h3, h4⟩ := h
  rcases h4 with rfl | ⟨b, off, rfl, hb, hc⟩
  · exact folded_none p cap w
  · exact folded_some b off cap l w hb h1 h2 h3 hc (frsErr_zero he)

/-- How many frames are gone. -/
def gone (l : List Fr) (m : Nat) : Int := if l.length ≤ m then 0 else l.length - m
theorem cut_good (v : Value) (l : List Fr) (m : Nat) (w : World) (h : SlF w v l) (he : frsErr l = 0) (hm : 1 ≤ m) (hm2 : m ≤ 200) :
    Calls Try.prog 19 #[v, .int .i64 m] w (Made3 (cutL l m) (gone l m) w) := by
  by_cases hl : l.length ≤ m
  · rw [show gone l m = 0 by unfold gone; rw [if_pos hl]]
    exact cut_whole v l m w h he hm hm2 hl
  · rw [show gone l m = l.length - m by unfold gone; rw [if_neg hl]]
    obtain ⟨p, cap, rfl, h1, h2, h3, h4⟩ := h
    rcases h4 with rfl | ⟨b, off, rfl, hb, hc⟩
    · simp at hl
    · exact cut_part b off cap l m w hb h1 h2 h3 hc he hm hm2 (by omega)
theorem cutOf_good (v : Value) (l : List Fr) (m : Nat) (w : World) (h : SlF w v l) (he : frsErr l = 0) (hm : 1 ≤ m) (hm2 : m ≤ 200) :
    Calls Try.prog 24 #[v, .int .i64 m] w (Made2 (cutL l m) (gone l m) w) := by
  by_cases hl : l.length ≤ m
  · rw [show gone l m = 0 by unfold gone; rw [if_pos hl]]
    exact cutOf_whole v l m w h he hl
  · rw [show gone l m = l.length - m by unfold gone; rw [if_neg hl]]
    obtain ⟨p, cap, rfl, h1, h2, h3, h4⟩ := h
    rcases h4 with rfl | ⟨b, off, rfl, hb, hc⟩
    · simp at hl
    · exact cutOf_part b off cap l m w hb h1 h2 h3 hc he hm hm2 (by omega)
theorem cutL_fit {l : List Fr} {m : Nat} (h : ∀ x ∈ l, x.fit) : ∀ x ∈ cutL l m, x.fit := by
  intro x hx
  unfold cutL at hx
  split at hx
  · exact h x hx
  · rcases List.mem_append.1 hx with hx | hx
    · exact h x (List.mem_of_mem_take hx)
    · exact h x (List.mem_of_mem_drop hx)

set_option maxHeartbeats 1000000 in
set_option maxRecDepth 100000 in
theorem lawCuts_A (v : Value) (l : List Fr) (m : Int) (w : World) (h : SlF w v l) (he : frsErr l ≠ 0) :
    Calls Try.prog 4 #[v, .int .i64 m] w fun e w' => e = .returned (.bool true) ∧ Below w.heap.size w w' := by
  have HN := Lib.hid he
  have hq : (frsErr l != 0) = true := by simpa using he
  clear he
  go_enter Try.func4, Try.ntmps4
  go_wp2_with (first
    | (go_at_call 19; refine (cut_bad v l m _ h HN.out).mono ?_; rintro e w1 ⟨rfl, hb1⟩)
    | (go_at_call 20; refine (fold_bad v l _ (h.below (Nat.le_refl _) hb1) HN.out).mono ?_; rintro e w2 ⟨rfl, hb2⟩)
    | (go_at_call 21; refine (framesError_any _ l _ ((h.below (Nat.le_refl _) hb1).below (Nat.le_refl _) hb2)).mono ?_; rintro e w3 ⟨rfl, hb3⟩))
  go_ret
  exact ⟨rfl, below_call (below_call hb1 hb1.size hb2) (by have := hb1.size; have := hb2.size; omega) hb3⟩

set_option maxHeartbeats 1000000 in
set_option maxRecDepth 100000 in
theorem lawCuts_B (v : Value) (l : List Fr) (m : Int) (w : World) (h : SlF w v l) (he : frsErr l = 0) (hm : m < 1 ∨ 200 < m) :
    Calls Try.prog 4 #[v, .int .i64 m] w fun e w' => e = .returned (.bool true) ∧ Below w.heap.size w w' := by
  have HN := Lib.hid he
  have HC := Lib.hid (cut_range v l m w h he hm)
  clear he
  have main : (m < 1 → Calls Try.prog 4 #[v, .int .i64 m] w fun e w' => e = .returned (.bool true) ∧ Below w.heap.size w w') ∧ (1 ≤ m → 200 < m → Calls Try.prog 4 #[v, .int .i64 m] w fun e w' => e = .returned (.bool true) ∧ Below w.heap.size w w') := by
    clear hm
    constructor
    all_goals
      intros
      go_enter Try.func4, Try.ntmps4
      go_wp2_with (first
        | (go_at_call 19; refine HC.out.mono ?_; rintro e w1 ⟨rfl, hb1⟩)
        | (go_at_call 20; refine (fold_good v l _ (h.below (Nat.le_refl _) hb1) HN.out).mono ?_; rintro e w2 ⟨r, rfl, ho2, hb2⟩)
        | (go_at_call 21; refine (framesError_any _ l _ ((h.below (Nat.le_refl _) hb1).below (Nat.le_refl _) hb2)).mono ?_; rintro e w3 ⟨rfl, hb3⟩; rw [HN.out])
        | (go_at_call 23; refine (folded_good v l _ (((h.below (Nat.le_refl _) hb1).below (Nat.le_refl _) hb2).below (Nat.le_refl _) hb3) HN.out).mono ?_; rintro e w4 ⟨r', rfl, ho4, hb4⟩)
        | (go_at_call 22; refine (equalR_any _ _ (foldN l) (foldN l) _ (((slR0_of_owns ho2).below (Nat.le_refl _) hb3).below (Nat.le_refl _) hb4) (slR0_of_owns ho4)).mono ?_; rintro e w5 ⟨rfl, hb5⟩; rw [show decide (foldN l = foldN l) = true by simp]))
      go_ret
      exact ⟨by simp, below_call (below_call (below_call (below_call hb1 hb1.size hb2) (by have := hb1.size; have := hb2.size; omega) hb3) (by have := hb1.size; have := hb2.size; have := hb3.size; omega) hb4) (by have := hb1.size; have := hb2.size; have := hb3.size; have := hb4.size; omega) hb5⟩
  rcases hm with hm | hm
  · exact main.1 hm
  · exact main.2 (by omega) hm

set_option maxHeartbeats 1000000 in
set_option maxRecDepth 100000 in
theorem lawCuts_C (v : Value) (l : List Fr) (m : Nat) (w : World) (h : SlF w v l) (he : frsErr l = 0) (hm : 1 ≤ m) (hm2 : m ≤ 200) :
    Calls Try.prog 4 #[v, .int .i64 m] w fun e w' => e = .returned (.bool true) ∧ Below w.heap.size w w' := by
  have HN := Lib.hid he
  have HC := Lib.hid (cut_good v l m w h he hm hm2)
  have HO := Lib.hid (fun W hW => cutOf_good v l m W hW he hm hm2)
  have hfit : ∀ x ∈ cutL l m, x.fit := by obtain ⟨_, _, _, _, _, hf, _⟩ := h; exact cutL_fit hf
  have HFI := Lib.hid hfit
  clear he hfit
  generalize gone l m = gn at *
  go_enter Try.func4, Try.ntmps4
  go_wp2_with (first
    | (go_at_call 19; refine HC.out.mono ?_; rintro e w1 ⟨c, rfl, ho1, hb1⟩)
    | (go_at_call 20; refine (fold_good v l _ (h.below (Nat.le_refl _) hb1) HN.out).mono ?_; rintro e w2 ⟨r, rfl, ho2, hb2⟩)
    | (go_at_call 21; refine (framesError_any _ l _ ((h.below (Nat.le_refl _) hb1).below (Nat.le_refl _) hb2)).mono ?_; rintro e w3 ⟨rfl, hb3⟩; rw [HN.out])
    | (go_at_call 23; refine (folded_good v l _ (((h.below (Nat.le_refl _) hb1).below (Nat.le_refl _) hb2).below (Nat.le_refl _) hb3) HN.out).mono ?_; rintro e w4 ⟨r', rfl, ho4, hb4⟩)
    | (go_at_call 22; refine (equalR_any _ _ (foldN l) (foldN l) _ (((slR0_of_owns ho2).below (Nat.le_refl _) hb3).below (Nat.le_refl _) hb4) (slR0_of_owns ho4)).mono ?_; rintro e w5 ⟨rfl, hb5⟩; rw [show decide (foldN l = foldN l) = true by simp])
    | (go_at_call 24; refine (HO.out _ (((((h.below (Nat.le_refl _) hb1).below (Nat.le_refl _) hb2).below (Nat.le_refl _) hb3).below (Nat.le_refl _) hb4).below (Nat.le_refl _) hb5)).mono ?_; rintro e w6 ⟨d, rfl, ho6, hb6⟩)
    | (go_at_call 25; refine (equal_any _ _ (cutL l m) (cutL l m) _ ((((((slF_of_owns ho1 HFI.out).below (Nat.le_refl _) hb2).below (Nat.le_refl _) hb3).below (Nat.le_refl _) hb4).below (Nat.le_refl _) hb5).below (Nat.le_refl _) hb6) (slF_of_owns ho6 HFI.out)).mono ?_; rintro e w7 ⟨rfl, hb7⟩))
  go_ret
  have s1 := hb1.size
  have s2 := hb2.size
  have s3 := hb3.size
  have s4 := hb4.size
  have s5 := hb5.size
  have s6 := hb6.size
  exact ⟨by simp, below_call (below_call (below_call (below_call (below_call (below_call hb1 s1 hb2) (by omega) hb3) (by omega) hb4) (by omega) hb5) (by omega) hb6) (by omega) hb7⟩

theorem lawCuts (v : Value) (l : List Fr) (m : Int) (w : World) (h : SlF w v l) :
    Calls Try.prog 4 #[v, .int .i64 m] w fun e w' => e = .returned (.bool true) ∧ Below w.heap.size w w' := by
  by_cases he : frsErr l = 0
  · by_cases hm : m < 1 ∨ 200 < m
    · exact lawCuts_B v l m w h he hm
    · obtain ⟨k, rfl⟩ := Int.eq_ofNat_of_zero_le (show 0 ≤ m by omega)
      exact lawCuts_C v l k w h he (by omega) (by omega)
  · exact lawCuts_A v l m w h he
end Go.Proofs.Ytihnpbhcddapdaa

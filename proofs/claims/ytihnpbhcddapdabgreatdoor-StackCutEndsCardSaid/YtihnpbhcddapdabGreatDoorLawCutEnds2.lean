/- The law StackCutEnds at every list and number. -/
import Derived.Test.YtihnpbhcddapdabGreatDoorLawCutEnds
namespace Go.Proofs.YtihnpbhcddapdabGreatDoor
open Go.RowKit

set_option maxHeartbeats 1000000 in
set_option maxRecDepth 100000 in
theorem cutEnds_bad (v : Value) (l : List Fr) (m : Int) (w : World) (h : SlF w v l) (he : frsErr l ≠ 0) :
    Calls Tryz.prog 6 #[v, .int .i64 m] w fun e w' => e = .returned (.bool true) ∧ Below w.heap.size w w' := by
  have HN := Lib.hid he
  have hq : (frsErr l != 0) = true := by simpa using he
  clear he
  go_enter Tryz.func6, Tryz.ntmps6
  go_wp2_with (first
    | (go_at_call 7; refine (awake_any _).mono ?_; rintro e w0 ⟨rfl, hb0⟩)
    | (go_at_call 17; refine (cut_bad v l m _ (h.below (Nat.le_refl _) hb0) HN.out).mono ?_; rintro e w1 ⟨rfl, hb1⟩))
  go_ret
  exact ⟨rfl, below_call hb0 hb0.size hb1⟩

set_option maxHeartbeats 1000000 in
set_option maxRecDepth 100000 in
theorem cutEnds_range (v : Value) (l : List Fr) (m : Int) (w : World) (h : SlF w v l) (he : frsErr l = 0) (hm : m < 1 ∨ 200 < m) :
    Calls Tryz.prog 6 #[v, .int .i64 m] w fun e w' => e = .returned (.bool true) ∧ Below w.heap.size w w' := by
  have HC := Lib.hid (fun (W : World) (hW : SlF W v l) => cut_range v l m W hW he hm)
  clear he hm
  go_enter Tryz.func6, Tryz.ntmps6
  go_wp2_with (first
    | (go_at_call 7; refine (awake_any _).mono ?_; rintro e w0 ⟨rfl, hb0⟩)
    | (go_at_call 17; refine (HC.out _ (h.below (Nat.le_refl _) hb0)).mono ?_; rintro e w1 ⟨rfl, hb1⟩))
  go_ret
  exact ⟨rfl, below_call hb0 hb0.size hb1⟩

theorem equal_empty (p q : Option Addr) (c d : Nat) (w : World) (hc : c ≤ maxLen) (hd : d ≤ maxLen) :
    Calls Tryz.prog 14 #[.slice p 0 c, .slice q 0 d] w fun e w' => e = .returned (.bool true) ∧ Below w.heap.size w w' :=
  equal_any _ _ [] [] w ⟨p, c, rfl, Nat.zero_le _, hc, (by intro x hx; cases hx), .inl rfl⟩ ⟨q, d, rfl, Nat.zero_le _, hd, (by intro x hx; cases hx), .inl rfl⟩

set_option maxHeartbeats 40000000 in
set_option maxRecDepth 100000 in
theorem cutEnds_none (p : Option Addr) (cap m : Nat) (w : World) (hcm : cap ≤ maxLen) (hm : 1 ≤ m) (hm2 : m ≤ 200) :
    Calls Tryz.prog 6 #[.slice p 0 cap, .int .i64 m] w fun e w' => e = .returned (.bool true) ∧ Below w.heap.size w w' := by
  have h : SlF w (.slice p 0 cap) [] := ⟨p, cap, rfl, Nat.zero_le _, hcm, (by intro x hx; cases hx), .inl rfl⟩
  have HC := Lib.hid (fun (W : World) (hW : SlF W (.slice p 0 cap) []) => cut_good _ [] m W hW rfl hm hm2)
  go_enter Tryz.func6, Tryz.ntmps6
  go_wp2_with (go_at_call 7; refine (awake_any _).mono ?_; rintro e w0 ⟨rfl, hb0⟩)
  refine (HC.out _ (h.below (Nat.le_refl _) hb0)).mono ?_
  rintro e w1 ⟨c, rfl, ho1, hb1⟩
  obtain ⟨q, capc, rfl, hcc⟩ : ∃ q capc, c = .slice q 0 capc ∧ capc ≤ maxLen := by
    rcases ho1.2 with ⟨rfl, h0⟩ | ⟨g, cap, cur, hv, _, _, _, a2, _⟩
    · exact ⟨none, 0, rfl, by decide⟩
    · exact ⟨some ⟨g, 0, none⟩, cap, by rw [hv]; simp [cutL], a2⟩
  have hbw : Below w.heap.size w w1 := below_call hb0 hb0.size hb1
  have s1 := hbw.size
  rw [show gone [] m = 0 by simp [gone]]
  have HQ := Lib.hid (fun (a b : Option Addr) (c d : Nat) (W : World) (hc : c ≤ maxLen) (hd : d ≤ maxLen) => equal_empty a b c d W hc hd)
  clear ho1 hb1 HC h
  have hr : Below w1.heap.size w1 w1 := Below.refl _ _
  have hm0 : (m : Int) ≥ 0 := by omega
  unfold maxLen at hcm hcc
  have HQ' : Hid (∀ (a b : Option Addr) (c d : Nat) (W : World), c ≤ 2 ^ 63 - 1 → d ≤ 2 ^ 63 - 1 → Calls Tryz.prog 14 #[.slice a 0 c, .slice b 0 d] W fun e w' => e = .returned (.bool true) ∧ Below W.heap.size W w') := HQ
  clear HQ
  go_wp2_with fail
  rcases p with _ | ⟨b, off, lo⟩ <;> rcases q with _ | ⟨g, og, lg⟩
  all_goals by_cases z1 : cap = 0 <;> by_cases z2 : capc = 0
  all_goals first | subst z1 | skip
  all_goals first | subst z2 | skip
  all_goals
    go_region_held3 (fun w' => Below w1.heap.size w1 w')
        (first | assumption | exact Below.drew (by assumption) | exact below_on (by first | assumption | exact Below.drew (by assumption)) hbX (Nat.le_refl _))
        (first | (go_at_call 14; with_reducible refine (HQ'.out _ _ _ _ _ (by first | assumption | omega) (by first | assumption | omega)).mono ?_; rintro e' w' ⟨rfl, hbX⟩))
    go_wp2_with fail
    go_ret
    exact ⟨rfl, hbw.trans (Below.mono (by assumption) s1)⟩

theorem lawCutEnds (v : Value) (l : List Fr) (m : Int) (w : World) (h : SlF w v l) :
    Calls Tryz.prog 6 #[v, .int .i64 m] w fun e w' => e = .returned (.bool true) ∧ Below w.heap.size w w' := by
  by_cases he : frsErr l = 0
  · by_cases hm : m < 1 ∨ 200 < m
    · exact cutEnds_range v l m w h he hm
    · obtain ⟨k, rfl⟩ := Int.eq_ofNat_of_zero_le (show 0 ≤ m by omega)
      obtain ⟨p, cap, rfl, h1, h2, h3, h4⟩ := h
      rcases h4 with rfl | ⟨b, off, rfl, hb, hc⟩
      · exact cutEnds_none p cap k w h2 (by omega) (by omega)
      · by_cases h0 : l = []
        · subst h0
          exact cutEnds_none _ cap k w h2 (by omega) (by omega)
        · exact cutEnds_some b off cap l k w hb h1 h2 h3 hc he (by omega) (by omega) (List.length_pos_iff.2 h0)
  · exact cutEnds_bad v l m w h he
end Go.Proofs.YtihnpbhcddapdabGreatDoor

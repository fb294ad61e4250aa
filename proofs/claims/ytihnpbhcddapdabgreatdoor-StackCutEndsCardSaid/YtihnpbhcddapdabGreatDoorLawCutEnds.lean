/- The walk of the law StackCutEnds. -/
import Derived.Test.YtihnpbhcddapdabGreatDoorAwake
import Derived.Test.YtihnpbhcddapdabGreatDoorCut
import Derived.Test.YtihnpbhcddapdabGreatDoorEqual
namespace Go.Proofs.YtihnpbhcddapdabGreatDoor
open Go.RowKit

theorem cutL_fit {l : List Fr} {m : Nat} (h : ∀ x ∈ l, x.fit) : ∀ x ∈ cutL l m, x.fit := by
  intro x hx
  unfold cutL at hx
  split at hx
  · exact h x hx
  · rcases List.mem_append.1 hx with hx | hx
    · exact h x (List.mem_of_mem_take hx)
    · exact h x (List.mem_of_mem_drop hx)
def gone (l : List Fr) (m : Nat) : Int := if l.length ≤ m then 0 else l.length - m
theorem cut_good (v : Value) (l : List Fr) (m : Nat) (w : World) (h : SlF w v l) (he : frsErr l = 0) (hm : 1 ≤ m) (hm2 : m ≤ 200) :
    Calls Tryz.prog 17 #[v, .int .i64 m] w (Made3 (cutL l m) (gone l m) w) := by
  by_cases hl : l.length ≤ m
  · rw [show gone l m = 0 by unfold gone; rw [if_pos hl]]
    exact cut_whole v l m w h he hm hm2 hl
  · rw [show gone l m = l.length - m by unfold gone; rw [if_neg hl]]
    obtain ⟨p, cap, rfl, h1, h2, h3, h4⟩ := h
    rcases h4 with rfl | ⟨b, off, rfl, hb, hc⟩
    · simp at hl
    · exact cut_part b off cap l m w hb h1 h2 h3 hc he hm hm2 (by omega)

theorem cutL_length {l : List Fr} {m : Nat} : (cutL l m).length = min l.length m := by
  unfold cutL
  split
  · omega
  · simp; omega
theorem cutL_first {l : List Fr} {m k : Nat} (hk : k = (min l.length m + 1) / 2) : (cutL l m).take k = l.take k := by
  unfold cutL
  split
  · rfl
  · rw [show k = (m + 1) / 2 by omega, List.take_append_of_le_length (by simp; omega), List.take_take, Nat.min_self]
theorem cutL_last {l : List Fr} {m k : Nat} (hk : k = (min l.length m + 1) / 2) : (cutL l m).drop k = l.drop (l.length - (min l.length m - k)) := by
  unfold cutL
  split
  · rw [show l.length - (min l.length m - k) = k by omega]
  · rw [show k = (m + 1) / 2 by omega, List.drop_append_of_le_length (by simp; omega), List.drop_take_self, List.nil_append]
    congr 1
    omega

set_option maxHeartbeats 1000000 in
set_option maxRecDepth 100000 in
theorem cutEnds_some (b off cap : Nat) (l : List Fr) (m : Nat) (w : World) (hb : b < w.heap.size) (hcap : l.length ≤ cap) (hcm : cap ≤ maxLen) (hf : ∀ x ∈ l, x.fit) (hc : FrsAt w b off l) (he : frsErr l = 0) (hm : 1 ≤ m) (hm2 : m ≤ 200) (hl0 : 0 < l.length) :
    Calls Tryz.prog 6 #[.slice (some ⟨b, off, none⟩) l.length cap, .int .i64 m] w fun e w' => e = .returned (.bool true) ∧ Below w.heap.size w w' := by
  have h : SlF w (.slice (some ⟨b, off, none⟩) l.length cap) l := ⟨_, cap, rfl, hcap, hcm, hf, .inr ⟨b, off, rfl, hb, hc⟩⟩
  have hl2 : l.length ≤ 200 := frsErr_zero he
  have HC := Lib.hid (fun (W : World) (hW : SlF W (.slice (some ⟨b, off, none⟩) l.length cap) l) => cut_good _ l m W hW he hm hm2)
  have HCL := Lib.hid (cutL_length (l := l) (m := m))
  have HG := Lib.hid (show gone l m = l.length - (min l.length m : Nat) by unfold gone; split <;> omega)
  have HFI := Lib.hid (cutL_fit (m := m) hf)
  clear he
  go_enter Tryz.func6, Tryz.ntmps6
  go_wp2_with (go_at_call 7; refine (awake_any _).mono ?_; rintro e w0 ⟨rfl, hb0⟩)
  refine (HC.out _ (h.below (Nat.le_refl _) hb0)).mono ?_
  rintro e w1 ⟨c, rfl, ho1, hb1⟩
  have hn0 : 0 < (cutL l m).length := by have := HCL.out; omega
  obtain ⟨g, capc, rfl⟩ : ∃ g capc, c = .slice (some ⟨g, 0, none⟩) (cutL l m).length capc := by
    rcases ho1.2 with ⟨_, h0⟩ | ⟨g, cap, cur, hv, _⟩
    · omega
    · exact ⟨g, cap, hv⟩
  rw [HCL.out] at ho1 ⊢
  rw [HG.out]
  have hlc : (cutL l m).length = min l.length m := HCL.out
  have hcc : min l.length m ≤ capc ∧ capc ≤ maxLen := by
    rcases ho1.2 with ⟨_, h0⟩ | ⟨g', cap', cur, hv, _, _, a1, a2, _⟩
    · omega
    · cases hv; exact ⟨a1, a2⟩
  have hgw : g < w1.heap.size := (ho1.lt g rfl).2
  have hcg : FrsAt w1 g 0 (cutL l m) := by
    obtain ⟨p, cc, hp, _, _, _, a4⟩ := slF_of_owns ho1 (cutL_fit hf)
    injection hp with e1
    rcases a4 with a4 | ⟨b', off', e2, _, a5⟩
    · rw [a4] at hn0; simp at hn0
    · rw [← e1] at e2; cases e2; exact a5
  have hm0 := hm
  have HQ1 := Lib.hid (fun (W : World) (hW : Below w1.heap.size w1 W) => equal_any _ _ _ _ W
    ((slF_take (n := (min l.length m + 1) / 2) (by omega) hcc.2 (cutL_fit hf) hgw hcg (by omega)).below (Nat.le_refl _) hW)
    (((slF_take (n := (min l.length m + 1) / 2) hcap hcm hf hb hc (by omega)).below (Nat.le_refl _) hb0).below (Nat.le_refl _) hb1 |>.below (Nat.le_refl _) hW))
  have HQ2 := Lib.hid (fun (W : World) (hW : Below w1.heap.size w1 W) => equal_any _ _ _ _ W
    ((slF_drop (n := (min l.length m + 1) / 2) (by omega) hcc.2 (cutL_fit hf) hgw hcg (by omega)).below (Nat.le_refl _) hW)
    (((slF_drop (n := l.length - (min l.length m - (min l.length m + 1) / 2)) hcap hcm hf hb hc (by omega)).below (Nat.le_refl _) hb0).below (Nat.le_refl _) hb1 |>.below (Nat.le_refl _) hW))
  rw [cutL_first rfl, show decide (l.take ((min l.length m + 1) / 2) = l.take ((min l.length m + 1) / 2)) = true by simp] at HQ1
  rw [cutL_last rfl, show ∀ x : List Fr, decide (x = x) = true by simp, HCL.out] at HQ2
  have e1 : ((min l.length m : Nat) + 1 : Int) / 2 = ((min l.length m + 1) / 2 : Nat) := by omega
  have s0 := hb0.size
  have hbw : Below w.heap.size w w1 := below_call hb0 s0 hb1
  have s1 := hbw.size
  clear hcg hgw ho1 hn0 hc HC HG HFI h hlc hb1 hb0 s0 hf HCL
  have hnm : min l.length m ≤ m := by omega
  have hnl : min l.length m ≤ l.length := by omega
  have hn0 : 0 < min l.length m := by omega
  unfold maxLen at hcc hcm
  generalize l.length = nl at *
  generalize min nl m = nc at *
  go_wp2_with fail
  rw [e1]
  have hk1 : (nc + 1) / 2 ≤ nc := by omega
  have hk0 : 0 < (nc + 1) / 2 := by omega
  clear e1
  generalize (nc + 1) / 2 = k at *
  have hs1 : IntKind.i64.wrap ((nc : Int) + ((nl : Int) - (nc : Int))) = (nl : Int) := by rw [IntWalk.i64_in _ ⟨by omega, by omega⟩]; omega
  have hs2 : IntKind.i64.wrap ((nc : Int) - (k : Int)) = ((nc - k : Nat) : Int) := by rw [IntWalk.i64_in _ ⟨by omega, by omega⟩]; omega
  have hs3 : IntKind.i64.wrap ((nl : Int) - ((nc - k : Nat) : Int)) = ((nl - (nc - k) : Nat) : Int) := by rw [IntWalk.i64_in _ ⟨by omega, by omega⟩]; omega
  have k1 : k ≤ capc := by omega
  have k2 : k ≤ cap := by omega
  have k3 : nl - (nc - k) ≤ nl := by omega
  have k4 : nl - (nc - k) ≤ cap := by omega
  have k5 : nl - (nl - (nc - k)) = nc - k := by omega
  rw [k5] at HQ2
  generalize hne : nl - (nc - k) = ne at *
  have hcc1 := hcc.1
  have hcc2 := hcc.2
  clear hcc
  have hr : Below w1.heap.size w1 w1 := Below.refl _ _
  by_cases hcl : cap = ne
  · have hz : nc - k = 0 := by omega
    have hz2 : nl - ne = 0 := by omega
    have hs2' : IntKind.i64.wrap ((nc : Int) - (k : Int)) = 0 := by rw [IntWalk.i64_in _ ⟨by omega, by omega⟩]; omega
    have hs4 : IntKind.i64.wrap (nl : Int) = (ne : Int) := by rw [IntWalk.i64_in _ ⟨by omega, by omega⟩]; omega
    rw [if_pos hcl, hz] at HQ2
    clear hne k5 hs2 hs3
    subst hcl
    by_cases hcl2 : capc = k
    · rw [if_pos hcl2] at HQ2
      subst hcl2
      simp only [Nat.sub_self] at HQ2
      go_region_held3 (fun w' => Below w1.heap.size w1 w')
        (first | assumption | exact Below.drew (by assumption) | exact below_on (by first | assumption | exact Below.drew (by assumption)) hbX (Nat.le_refl _))
        (first | (go_at_call 14; with_reducible (first | refine (HQ1.out _ (by first | assumption | exact Below.drew (by assumption))).mono ?_ | refine (HQ2.out _ (by first | assumption | exact Below.drew (by assumption))).mono ?_); rintro e' w' ⟨rfl, hbX⟩))
      go_wp2_with fail
      go_ret
      exact ⟨rfl, hbw.trans (Below.mono (by assumption) s1)⟩
    · rw [if_neg hcl2] at HQ2
      simp only [Nat.zero_add, Nat.sub_self] at HQ2
      go_region_held3 (fun w' => Below w1.heap.size w1 w')
        (first | assumption | exact Below.drew (by assumption) | exact below_on (by first | assumption | exact Below.drew (by assumption)) hbX (Nat.le_refl _))
        (first | (go_at_call 14; with_reducible (first | refine (HQ1.out _ (by first | assumption | exact Below.drew (by assumption))).mono ?_ | refine (HQ2.out _ (by first | assumption | exact Below.drew (by assumption))).mono ?_); rintro e' w' ⟨rfl, hbX⟩))
      go_wp2_with fail
      go_ret
      exact ⟨rfl, hbw.trans (Below.mono (by assumption) s1)⟩
  · by_cases hcl2 : capc = k
    · have hz : nc - k = 0 := by omega
      have hz2 : nl - ne = 0 := by omega
      have hs2' : IntKind.i64.wrap ((nc : Int) - (k : Int)) = 0 := by rw [IntWalk.i64_in _ ⟨by omega, by omega⟩]; omega
      have hs4 : IntKind.i64.wrap (nl : Int) = (ne : Int) := by rw [IntWalk.i64_in _ ⟨by omega, by omega⟩]; omega
      rw [if_neg hcl, if_pos hcl2, hz] at HQ2
      clear hne k5 hs2 hs3
      subst hcl2
      simp only [Nat.sub_self] at HQ2
      go_region_held3 (fun w' => Below w1.heap.size w1 w')
        (first | assumption | exact Below.drew (by assumption) | exact below_on (by first | assumption | exact Below.drew (by assumption)) hbX (Nat.le_refl _))
        (first | (go_at_call 14; with_reducible (first | refine (HQ1.out _ (by first | assumption | exact Below.drew (by assumption))).mono ?_ | refine (HQ2.out _ (by first | assumption | exact Below.drew (by assumption))).mono ?_); rintro e' w' ⟨rfl, hbX⟩))
      go_wp2_with fail
      go_ret
      exact ⟨rfl, hbw.trans (Below.mono (by assumption) s1)⟩
    · rw [if_neg hcl, if_neg hcl2] at HQ2
      simp only [Nat.zero_add] at HQ2
      go_region_held3 (fun w' => Below w1.heap.size w1 w')
        (first | assumption | exact Below.drew (by assumption) | exact below_on (by first | assumption | exact Below.drew (by assumption)) hbX (Nat.le_refl _))
        (first | (go_at_call 14; with_reducible (first | refine (HQ1.out _ (by first | assumption | exact Below.drew (by assumption))).mono ?_ | refine (HQ2.out _ (by first | assumption | exact Below.drew (by assumption))).mono ?_); rintro e' w' ⟨rfl, hbX⟩))
      go_wp2_with fail
      go_ret
      exact ⟨rfl, hbw.trans (Below.mono (by assumption) s1)⟩
end Go.Proofs.YtihnpbhcddapdabGreatDoor

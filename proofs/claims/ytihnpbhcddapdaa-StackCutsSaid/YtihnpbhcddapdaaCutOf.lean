/- What the reference's CutOf answers. -/
import Derived.Test.YtihnpbhcddapdaaCut
namespace Go.Proofs.Ytihnpbhcddapdaa
open Go.RowKit

set_option maxHeartbeats 1000000 in
set_option maxRecDepth 100000 in
theorem cutOf_whole (v : Value) (l : List Fr) (m : Nat) (w : World) (h : SlF w v l) (he : frsErr l = 0) (hl : l.length ≤ m) :
    Calls Try.prog 24 #[v, .int .i64 m] w (Made2 (cutL l m) 0 w) := by
  have hl2 : l.length ≤ 200 := frsErr_zero he
  rw [show cutL l m = l by unfold cutL; rw [if_pos hl]]
  have HC := Lib.hid (fun (W : World) (hb : Below w.heap.size w W) => clone_any v l W hl2 (h.below (Nat.le_refl _) hb))
  have HM := Lib.hid (fun (v' : Value) (w1 : World) (hh : Made l w (.returned v') w1) => (show Made2 l 0 w (.returned (.tuple #[v', .int .i64 0])) w1 by
    obtain ⟨u, hu, h1, h2⟩ := hh
    cases hu
    exact ⟨_, rfl, h1, h2⟩))
  clear he
  obtain ⟨p, cap, rfl, _⟩ := h
  go_enter Try.func24, Try.ntmps24
  go_wp2_with (go_at_call 44; refine (HC.out _ (Below.refl _ _)).mono ?_; rintro e w2 hmd; obtain ⟨u, rfl, hrow⟩ := id hmd; have HD := Lib.hid hmd; clear hmd hrow)
  go_ret2
  exact HM.out _ _ HD.out

set_option maxHeartbeats 2000000 in
set_option maxRecDepth 100000 in
theorem cutOf_part (b off cap : Nat) (l : List Fr) (m : Nat) (w : World) (hb : b < w.heap.size) (hcap : l.length ≤ cap) (hcm : cap ≤ maxLen) (hf : ∀ x ∈ l, x.fit) (hc : FrsAt w b off l) (he : frsErr l = 0) (hm : 1 ≤ m) (hm2 : m ≤ 200) (hl : m < l.length) :
    Calls Try.prog 24 #[.slice (some ⟨b, off, none⟩) l.length cap, .int .i64 m] w (Made2 (cutL l m) (l.length - m) w) := by
  have h : SlF w (.slice (some ⟨b, off, none⟩) l.length cap) l := ⟨_, cap, rfl, hcap, hcm, hf, .inr ⟨b, off, rfl, hb, hc⟩⟩
  have hl2 : l.length ≤ 200 := frsErr_zero he
  rw [show cutL l m = l.take ((m + 1) / 2) ++ l.drop (l.length - m / 2) by unfold cutL; rw [if_neg (by omega)]]
  have HT := Lib.hid (slF_take (n := (m + 1) / 2) hcap hcm hf hb hc (by omega))
  have HD := Lib.hid (slF_drop (n := l.length - m / 2) hcap hcm hf hb hc (by omega))
  unfold maxLen at hcm
  clear he hc h
  generalize l.length = n at *
  go_enter Try.func24, Try.ntmps24
  go_wp2_with fail
  have HM := Lib.hid (fun (v' : Value) (W W' : World) (hW : Below w.heap.size w W) (hh : Made (l.take ((m + 1) / 2) ++ l.drop (n - m / 2)) W (.returned v') W') => (show Made2 (l.take ((m + 1) / 2) ++ l.drop (n - m / 2)) (n - m) w (.returned (.tuple #[v', .int .i64 (n - m)])) W' by
    obtain ⟨u, hu, h1, h2⟩ := hh.on hW
    cases hu
    exact ⟨_, rfl, h1, h2⟩))
  have e0 : IntKind.i64.wrap ((m : Int) + 1) = (m : Int) + 1 := IntWalk.i64_in _ ⟨by omega, by omega⟩
  have e1 : Int.tdiv ((m : Int) + 1) 2 = ((m + 1) / 2 : Nat) := by rw [Int.tdiv_eq_ediv_of_nonneg (by omega)]; omega
  have e2 : Int.tdiv (m : Int) 2 = (m / 2 : Nat) := by rw [Int.tdiv_eq_ediv_of_nonneg (by omega)]; omega
  have e3 : IntKind.i64.wrap (((m + 1) / 2 : Nat) : Int) = ((m + 1) / 2 : Nat) := IntWalk.i64_in _ ⟨by omega, by omega⟩
  have e4 : IntKind.i64.wrap ((m / 2 : Nat) : Int) = (m / 2 : Nat) := IntWalk.i64_in _ ⟨by omega, by omega⟩
  have hk1 : (m + 1) / 2 ≤ cap := by omega
  have hk0 : 0 < (m + 1) / 2 + (n - (n - m / 2)) := by omega
  have hkn : (m + 1) / 2 + (n - (n - m / 2)) ≤ 200 := by omega
  have hs : IntKind.i64.wrap ((n : Int) - (m / 2 : Nat)) = (n - m / 2 : Nat) := by rw [IntWalk.i64_in _ ⟨by omega, by omega⟩]; omega
  have hs2 : IntKind.i64.wrap ((n : Int) - (m : Int)) = (n : Int) - m := IntWalk.i64_in _ ⟨by omega, by omega⟩
  have hlo : n - m / 2 ≤ n := by omega
  have hlc : n - m / 2 ≤ cap := by omega
  generalize (m + 1) / 2 = k1 at *
  generalize n - m / 2 = lo at *
  generalize m / 2 = k2 at *
  have hr : Below w.heap.size w w := Below.refl _ _
  by_cases hcl : cap = lo
  · subst hcl
    rw [if_pos rfl, Nat.sub_self, show n - cap = 0 by omega] at HD
    rw [show n - cap = 0 by omega] at hk0 hkn
    have hA : Below w.heap.size w (w.alloc (.cells #[.slice (some ⟨b, off, none⟩) k1 cap, .slice (some ⟨b, off, none⟩) 0 0] 24)).drew := (hr.alloc hr.size _).drew
    have HCC := Lib.hid (concat_two w.heap.size k1 cap 0 0 ⟨b, off, none⟩ ⟨b, off, none⟩ (l.take k1) (l.drop cap) (w.alloc (.cells #[.slice (some ⟨b, off, none⟩) k1 cap, .slice (some ⟨b, off, none⟩) 0 0] 24)).drew (by simp) hkn hk0 (by go_simp) (by go_simp) (HT.out.below (Nat.le_refl _) hA) (HD.out.below (Nat.le_refl _) hA))
    have HA := Lib.hid hA
    clear hA
    go_region_held3 (fun w' => Below w.heap.size w w')
      (first | assumption | exact Below.drew (by assumption) | exact Below.alloc (by assumption) (Below.size (by assumption)) _ | exact Below.drew (Below.alloc (by assumption) (Below.size (by assumption)) _) | exact below_on HA.out hbX (Nat.le_refl _))
      (first | (go_at_call 45; (refine HCC.out.mono ?_); rintro e w2 hmd; obtain ⟨u, rfl, hrow, hbX⟩ := id hmd; have HX := Lib.hid (HM.out _ _ _ HA.out hmd); clear hmd hrow))
    go_wp2_with fail
    go_ret2
    exact HX.out
  · rw [if_neg hcl] at HD
    have hA : Below w.heap.size w (w.alloc (.cells #[.slice (some ⟨b, off, none⟩) k1 cap, .slice (some ⟨b, off + lo * 6, none⟩) (n - lo) (cap - lo)] 24)).drew := (hr.alloc hr.size _).drew
    have HCC := Lib.hid (concat_two w.heap.size k1 cap (n - lo) (cap - lo) ⟨b, off, none⟩ ⟨b, off + lo * 6, none⟩ (l.take k1) (l.drop lo) (w.alloc (.cells #[.slice (some ⟨b, off, none⟩) k1 cap, .slice (some ⟨b, off + lo * 6, none⟩) (n - lo) (cap - lo)] 24)).drew (by simp) hkn hk0 (by go_simp) (by go_simp) (HT.out.below (Nat.le_refl _) hA) (HD.out.below (Nat.le_refl _) hA))
    have HA := Lib.hid hA
    clear hA
    go_region_held3 (fun w' => Below w.heap.size w w')
      (first | assumption | exact Below.drew (by assumption) | exact Below.alloc (by assumption) (Below.size (by assumption)) _ | exact Below.drew (Below.alloc (by assumption) (Below.size (by assumption)) _) | exact below_on HA.out hbX (Nat.le_refl _))
      (first | (go_at_call 45; (refine HCC.out.mono ?_); rintro e w2 hmd; obtain ⟨u, rfl, hrow, hbX⟩ := id hmd; have HX := Lib.hid (HM.out _ _ _ HA.out hmd); clear hmd hrow))
    go_wp2_with fail
    go_ret2
    exact HX.out
end Go.Proofs.Ytihnpbhcddapdaa

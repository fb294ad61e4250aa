/- What Cut and the reference's CutOf answer. -/
import Derived.Test.YtihnpbhcddapdabGreatDoorGrow
import Derived.Test.YtihnpbhcddapdabGreatDoorEqual
import Derived.Deep.RegionHeld3
namespace Go.Proofs.YtihnpbhcddapdabGreatDoor
open Go.RowKit

/-- The frames that stay. -/
def cutL (l : List Fr) (m : Nat) : List Fr := if l.length ≤ m then l else l.take ((m + 1) / 2) ++ l.drop (l.length - m / 2)

/-- A slice that the call has made, and a number and an error beside it. -/
def Made3 (l : List Fr) (n : Int) (w : World) (e : Ending) (w' : World) : Prop := ∃ v, e = .returned (.tuple #[v, .int .i64 n, .int .i64 0]) ∧ w'.ownsRow w.heap.size 42 6 v l.length (cellsOf l) ∧ Below w.heap.size w w'
def Made2 (l : List Fr) (n : Int) (w : World) (e : Ending) (w' : World) : Prop := ∃ v, e = .returned (.tuple #[v, .int .i64 n]) ∧ w'.ownsRow w.heap.size 42 6 v l.length (cellsOf l) ∧ Below w.heap.size w w'

set_option maxHeartbeats 1000000 in
set_option maxRecDepth 100000 in
theorem cut_bad (v : Value) (l : List Fr) (m : Int) (w : World) (h : SlF w v l) (he : frsErr l ≠ 0) :
    Calls Tryz.prog 17 #[v, .int .i64 m] w fun e w' => e = .returned (.tuple #[.slice none 0 0, .int .i64 0, .int .i64 (frsErr l)]) ∧ Below w.heap.size w w' := by
  have hq : (frsErr l != 0) = true := by simpa using he
  go_enter Tryz.func17, Tryz.ntmps17
  go_wp2_with (go_at_call 26; refine (checkFrames_any _ l _ h).mono ?_; rintro e w1 ⟨rfl, hb1⟩)
  go_ret3
  exact ⟨rfl, hb1⟩

set_option maxHeartbeats 1000000 in
set_option maxRecDepth 100000 in
theorem cut_range (v : Value) (l : List Fr) (m : Int) (w : World) (h : SlF w v l) (he : frsErr l = 0) (hm : m < 1 ∨ 200 < m) :
    Calls Tryz.prog 17 #[v, .int .i64 m] w fun e w' => e = .returned (.tuple #[.slice none 0 0, .int .i64 0, .int .i64 2]) ∧ Below w.heap.size w w' := by
  have HE := Lib.hid he
  clear he
  by_cases h1 : m < 1
  · clear hm
    go_enter Tryz.func17, Tryz.ntmps17
    go_wp2_with (go_at_call 26; refine (checkFrames_any _ l _ h).mono ?_; rintro e w1 ⟨rfl, hb1⟩; rw [HE.out])
    go_ret3
    exact ⟨rfl, hb1⟩
  · have h2 : 200 < m := by omega
    clear hm
    go_enter Tryz.func17, Tryz.ntmps17
    go_wp2_with (go_at_call 26; refine (checkFrames_any _ l _ h).mono ?_; rintro e w1 ⟨rfl, hb1⟩; rw [HE.out])
    go_ret3
    exact ⟨rfl, hb1⟩

theorem Made.on {l : List Fr} {w w1 w2 : World} {e : Ending} (h : Made l w1 e w2) (hb : Below w.heap.size w w1) : Made l w e w2 := by
  obtain ⟨v, he, ⟨h1, h2⟩, h3⟩ := h
  refine ⟨v, he, ⟨h1, ?_⟩, below_call hb hb.size h3⟩
  rcases h2 with h2 | ⟨g, cap, cur, a1, a2, a3⟩
  · exact .inl h2
  · exact .inr ⟨g, cap, cur, a1, Nat.le_trans hb.size a2, a3⟩

set_option maxHeartbeats 1000000 in
set_option maxRecDepth 100000 in
theorem cut_whole (v : Value) (l : List Fr) (m : Nat) (w : World) (h : SlF w v l) (he : frsErr l = 0) (hm : 1 ≤ m) (hm2 : m ≤ 200) (hl : l.length ≤ m) :
    Calls Tryz.prog 17 #[v, .int .i64 m] w (Made3 (cutL l m) 0 w) := by
  have HE := Lib.hid he
  have hl2 : l.length ≤ 200 := frsErr_zero he
  rw [show cutL l m = l by unfold cutL; rw [if_pos hl]]
  have HC := Lib.hid (fun (W : World) (hb : Below w.heap.size w W) => clone_any v l W hl2 (h.below (Nat.le_refl _) hb))
  have HK := Lib.hid (checkFrames_any v l w h)
  have HM := Lib.hid (fun (v' : Value) (w1 : World) (hh : Made l w (.returned v') w1) => (show Made3 l 0 w (.returned (.tuple #[v', .int .i64 0, .int .i64 0])) w1 by
    obtain ⟨u, hu, h1, h2⟩ := hh
    cases hu
    exact ⟨_, rfl, h1, h2⟩))
  clear he
  obtain ⟨p, cap, rfl, _⟩ := h
  go_enter Tryz.func17, Tryz.ntmps17
  go_wp2_with (first
    | (go_at_call 26; refine HK.out.mono ?_; rintro e w1 ⟨rfl, hb1⟩; rw [HE.out])
    | (go_at_call 32; refine (HC.out _ (by assumption)).mono ?_; rintro e w2 hmd; obtain ⟨u, rfl, hrow⟩ := id hmd; have HD := Lib.hid (hmd.on hb1); clear hmd hrow))
  go_ret3
  exact HM.out _ _ HD.out

theorem below_on {B : Nat} {w W W' : World} (h : Below B w W) (hk : Below W.heap.size W W') (hB : B ≤ w.heap.size) : Below B w W' := h.trans (hk.mono (by have := h.size; omega))

set_option maxHeartbeats 2000000 in
set_option maxRecDepth 100000 in
theorem cut_part (b off cap : Nat) (l : List Fr) (m : Nat) (w : World) (hb : b < w.heap.size) (hcap : l.length ≤ cap) (hcm : cap ≤ maxLen) (hf : ∀ x ∈ l, x.fit) (hc : FrsAt w b off l) (he : frsErr l = 0) (hm : 1 ≤ m) (hm2 : m ≤ 200) (hl : m < l.length) :
    Calls Tryz.prog 17 #[.slice (some ⟨b, off, none⟩) l.length cap, .int .i64 m] w (Made3 (cutL l m) (l.length - m) w) := by
  have h : SlF w (.slice (some ⟨b, off, none⟩) l.length cap) l := ⟨_, cap, rfl, hcap, hcm, hf, .inr ⟨b, off, rfl, hb, hc⟩⟩
  have HE := Lib.hid he
  have hl2 : l.length ≤ 200 := frsErr_zero he
  rw [show cutL l m = l.take ((m + 1) / 2) ++ l.drop (l.length - m / 2) by unfold cutL; rw [if_neg (by omega)]]
  have HK := Lib.hid (checkFrames_any _ l w h)
  have HT := Lib.hid (slF_take (n := (m + 1) / 2) hcap hcm hf hb hc (by omega))
  have HD := Lib.hid (slF_drop (n := l.length - m / 2) hcap hcm hf hb hc (by omega))
  unfold maxLen at hcm
  clear he hc h
  generalize l.length = n at *
  go_enter Tryz.func17, Tryz.ntmps17
  go_wp2_with (go_at_call 26; refine HK.out.mono ?_; rintro e w1 ⟨rfl, hb1⟩; rw [HE.out])
  have HM := Lib.hid (fun (v' : Value) (W W' : World) (hW : Below w.heap.size w W) (hh : Made (l.take ((m + 1) / 2) ++ l.drop (n - m / 2)) W (.returned v') W') => (show Made3 (l.take ((m + 1) / 2) ++ l.drop (n - m / 2)) (n - m) w (.returned (.tuple #[v', .int .i64 (n - m), .int .i64 0])) W' by
    obtain ⟨u, hu, h1, h2⟩ := hh.on hW
    cases hu
    exact ⟨_, rfl, h1, h2⟩))
  have e1 : ((m : Int) + 1) / 2 = ((m + 1) / 2 : Nat) := by omega
  have e2 : (m : Int) / 2 = (m / 2 : Nat) := by omega
  rw [e1, e2]
  clear e1 e2
  have hk1 : (m + 1) / 2 ≤ cap := by omega
  have hk0 : 0 < (m + 1) / 2 + (n - (n - m / 2)) := by omega
  have hkn : (m + 1) / 2 + (n - (n - m / 2)) ≤ 200 := by omega
  have hs : IntKind.i64.wrap ((n : Int) - (m / 2 : Nat)) = (n - m / 2 : Nat) := by rw [IntWalk.i64_in _ ⟨by omega, by omega⟩]; omega
  have hs2 : IntKind.i64.wrap ((n : Int) - (m : Int)) = (n : Int) - m := IntWalk.i64_in _ ⟨by omega, by omega⟩
  have hlo : n - m / 2 ≤ n := by omega
  have hlc : n - m / 2 ≤ cap := by omega
  generalize (m + 1) / 2 = k1 at *
  generalize n - m / 2 = lo at *
  generalize m / 2 = k2 at *
  have hr : Below w.heap.size w w1 := hb1
  by_cases hcl : cap = lo
  · subst hcl
    rw [if_pos rfl, Nat.sub_self, show n - cap = 0 by omega] at HD
    rw [show n - cap = 0 by omega] at hk0 hkn
    have hA : Below w.heap.size w (w1.alloc (.cells #[.slice (some ⟨b, off, none⟩) k1 cap, .slice (some ⟨b, off, none⟩) 0 0] 32)).drew := (hr.alloc hr.size _).drew
    have HCC := Lib.hid (concat_two w1.heap.size k1 cap 0 0 ⟨b, off, none⟩ ⟨b, off, none⟩ (l.take k1) (l.drop cap) (w1.alloc (.cells #[.slice (some ⟨b, off, none⟩) k1 cap, .slice (some ⟨b, off, none⟩) 0 0] 32)).drew (by simp) hkn hk0 (by go_simp) (by go_simp) (HT.out.below (Nat.le_refl _) hA) (HD.out.below (Nat.le_refl _) hA))
    have HA := Lib.hid hA
    clear hA
    go_region_held3 (fun w' => Below w.heap.size w w')
      (first | assumption | exact Below.drew (by assumption) | exact Below.alloc (by assumption) (Below.size (by assumption)) _ | exact Below.drew (Below.alloc (by assumption) (Below.size (by assumption)) _) | exact below_on HA.out hbX (Nat.le_refl _))
      (first | (go_at_call 33; (refine HCC.out.mono ?_); rintro e w2 hmd; obtain ⟨u, rfl, hrow, hbX⟩ := id hmd; have HX := Lib.hid (HM.out _ _ _ HA.out hmd); clear hmd hrow))
    go_wp2_with fail
    go_ret3
    exact HX.out
  · rw [if_neg hcl] at HD
    have hA : Below w.heap.size w (w1.alloc (.cells #[.slice (some ⟨b, off, none⟩) k1 cap, .slice (some ⟨b, off + lo * 6, none⟩) (n - lo) (cap - lo)] 32)).drew := (hr.alloc hr.size _).drew
    have HCC := Lib.hid (concat_two w1.heap.size k1 cap (n - lo) (cap - lo) ⟨b, off, none⟩ ⟨b, off + lo * 6, none⟩ (l.take k1) (l.drop lo) (w1.alloc (.cells #[.slice (some ⟨b, off, none⟩) k1 cap, .slice (some ⟨b, off + lo * 6, none⟩) (n - lo) (cap - lo)] 32)).drew (by simp) hkn hk0 (by go_simp) (by go_simp) (HT.out.below (Nat.le_refl _) hA) (HD.out.below (Nat.le_refl _) hA))
    have HA := Lib.hid hA
    clear hA
    go_region_held3 (fun w' => Below w.heap.size w w')
      (first | assumption | exact Below.drew (by assumption) | exact Below.alloc (by assumption) (Below.size (by assumption)) _ | exact Below.drew (Below.alloc (by assumption) (Below.size (by assumption)) _) | exact below_on HA.out hbX (Nat.le_refl _))
      (first | (go_at_call 33; (refine HCC.out.mono ?_); rintro e w2 hmd; obtain ⟨u, rfl, hrow, hbX⟩ := id hmd; have HX := Lib.hid (HM.out _ _ _ HA.out hmd); clear hmd hrow))
    go_wp2_with fail
    go_ret3
    exact HX.out
end Go.Proofs.YtihnpbhcddapdabGreatDoor

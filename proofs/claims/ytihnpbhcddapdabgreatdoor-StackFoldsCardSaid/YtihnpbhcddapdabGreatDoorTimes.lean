/- What timesOf answers. -/
import Derived.Test.YtihnpbhcddapdabGreatDoorFoldPlain
import Derived.Test.YtihnpbhcddapdabGreatDoorCut
namespace Go.Proofs.YtihnpbhcddapdabGreatDoor
open Go.RowKit

set_option maxHeartbeats 2000000 in
set_option maxRecDepth 100000 in
theorem timesOf_any (b off cap long : Nat) (l : List Fr) (w : World) (hb : b < w.heap.size) (hcap : l.length ≤ cap) (hcm : cap ≤ maxLen) (hf : ∀ x ∈ l, x.fit) (hc : FrsAt w b off l) (hl2 : l.length ≤ 200) (h1 : 1 ≤ long) (h2 : long ≤ l.length) :
    Calls Tryz.prog 46 #[.slice (some ⟨b, off, none⟩) l.length cap, .int .i64 long] w fun e w' => e = .returned (.int .i64 (timesN l long)) ∧ Below w.heap.size w w' := by
  have HS := Lib.hid (fun (lo hi : Nat) (g1 : lo ≤ hi) (g2 : hi ≤ l.length) => slF_sub (lo := lo) (hi := hi) hcap hcm hf hb hc g1 g2)
  have HT := Lib.hid (slF_take (n := long) hcap hcm hf hb hc h2)
  unfold maxLen at hcm
  have HEQ := Lib.hid (fun t => timesN_eq (l := l) (t := t) h1)
  have HMT := Lib.hid (fun j => show mtch l long j = (decide ((j + 1) * long ≤ l.length) && decide (l.take long = (l.drop (j * long)).take long)) from rfl)
  clear hc hf
  generalize hn : l.length = n at *
  clear hn
  go_enter Tryz.func46, Tryz.ntmps46
  go_wp2_with fail
  go_loopw [5, 6] (fun v5 v6 wr => ∃ t e : Nat, 1 ≤ t ∧ t ≤ 201 ∧ e ≤ 400 ∧ (t + 1) * long = e ∧ (∀ i, 1 ≤ i → i < t → mtch l long i = true) ∧ v5 = .int .i64 t ∧ v6 = .int .i64 e ∧ Below w.heap.size w wr) (fun _ v _ => 401 - (intOf v).toNat)
  case atStart => exact ⟨1, 2 * long, by omega, by omega, by omega, by omega, by omega, rfl, by go_num, Below.refl _ _⟩
  case round =>
    obtain ⟨t, e, g1, g2, g3, g4, hz, rfl, rfl, hbw⟩ := hrel
    have HZ := Lib.hid hz
    have H4 := Lib.hid g4
    clear hz g4
    by_cases he : e ≤ n
    · have hlo : t * long + long = e := by have := H4.out; rw [Nat.succ_mul] at this; exact this
      have HLO := Lib.hid hlo
      have hs : IntKind.i64.wrap ((e : Int) - (long : Int)) = ((t * long : Nat) : Int) := by rw [IntWalk.i64_in _ ⟨by omega, by omega⟩]; omega
      have k1 : t * long ≤ e := by omega
      have k2 : t * long < cap := by omega
      have k3 : long ≤ e := by omega
      have k4 : long ≤ cap := by omega
      have k5 : e ≤ cap := by omega
      have k6 : ¬ cap = t * long := by omega
      have hsub : e - t * long = long := by omega
      have HB := Lib.hid (HS.out (t * long) e k1 he)
      rw [hsub] at HB
      have HMT' := Lib.hid (HMT.out t)
      generalize t * long = lo at *
      clear hlo
      by_cases heq : l.take long = (l.drop lo).take long
      · have hd1 : decide ((e : Int) ≤ (n : Int)) = true := by simp; omega
        have HQ := Lib.hid (fun (W : World) (hW : Below w.heap.size w W) => equal_any _ _ _ _ W (HT.out.below (Nat.le_refl _) hW) (HB.out.below (Nat.le_refl _) hW))
        rw [show decide (l.take long = (l.drop lo).take long) = true by simpa using heq] at HQ
        have HE := Lib.hid heq
        clear heq
        go_wp2_with fail
        go_region_held3 (fun w' => Below w.heap.size w w')
          (first | assumption | exact Below.drew (by assumption) | exact below_on (by first | assumption | exact Below.drew (by assumption)) hbX (Nat.le_refl _))
          (first | (go_at_call 14; (refine (HQ.out _ (by first | assumption | exact Below.drew (by assumption))).mono ?_); rintro e' w' ⟨rfl, hbX⟩))
        go_wp2_with fail
        have hm : mtch l long t = true := by rw [HMT'.out]; simp only [H4.out, HE.out, decide_true, Bool.and_true, decide_eq_true_eq]; exact he
        have ht : t + 1 ≤ 201 := by
          have e1 : (t + 1) * 1 ≤ (t + 1) * long := Nat.mul_le_mul_left _ h1
          rw [H4.out] at e1
          omega
        exact ⟨⟨t + 1, e + long, by omega, ht, by omega, by rw [Nat.succ_mul, H4.out], fun i hi hit => by
          by_cases hx : i < t
          · exact HZ.out i hi hx
          · obtain rfl : i = t := by omega
            exact hm, by go_num, by go_num, by assumption⟩, by simp [intOf]; omega⟩
      · have hd1 : decide ((e : Int) ≤ (n : Int)) = true := by simp; omega
        have HQ := Lib.hid (fun (W : World) (hW : Below w.heap.size w W) => equal_any _ _ _ _ W (HT.out.below (Nat.le_refl _) hW) (HB.out.below (Nat.le_refl _) hW))
        rw [show decide (l.take long = (l.drop lo).take long) = false by simpa using heq] at HQ
        have HE := Lib.hid heq
        clear heq
        go_wp2_with fail
        go_region_held3 (fun w' => Below w.heap.size w w')
          (first | assumption | exact Below.drew (by assumption) | exact below_on (by first | assumption | exact Below.drew (by assumption)) hbX (Nat.le_refl _))
          (first | (go_at_call 14; (refine (HQ.out _ (by first | assumption | exact Below.drew (by assumption))).mono ?_); rintro e' w' ⟨rfl, hbX⟩))
        go_wp2_with fail
        go_ret
        exact ⟨ret_int (congrArg Int.ofNat (HEQ.out t g1 HZ.out (by rw [HMT'.out]; simp only [Bool.and_eq_false_iff, decide_eq_false_iff_not]; exact .inr HE.out)).symm), by assumption⟩
    · have hd1 : decide ((e : Int) ≤ (n : Int)) = false := by simp; omega
      go_wp2_with fail
      go_quiet (fail)
      go_wp2_with fail
      go_ret
      exact ⟨ret_int (congrArg Int.ofNat (HEQ.out t g1 HZ.out (by rw [HMT.out, H4.out]; simp; omega)).symm), below_drewN hbw _⟩
end Go.Proofs.YtihnpbhcddapdabGreatDoor

/- What the check of runs answers. -/
import Derived.Test.YtihnpbhcddapdabGreatDoorRunsPlain
import Derived.Test.YtihnpbhcddapdabGreatDoorLeaf
namespace Go.Proofs.YtihnpbhcddapdabGreatDoor
open Go.RowKit

set_option maxHeartbeats 1000000 in
set_option maxRecDepth 100000 in
theorem checkRuns_some (b off cap : Nat) (l : List Rn) (n : Int) (w : World) (hb : b < w.heap.size) (hl : l.length ≤ 5864062014634) (hcell : RnsAt w b off l) :
    Calls Tryz.prog 28 #[.slice (some ⟨b, off, none⟩) l.length cap, .int .i64 n] w fun e w' => e = .returned (.int .i64 (runsErr l n)) ∧ Below w.heap.size w w' := by
  go_enter Tryz.func28, Tryz.ntmps28
  go_wp2_with fail
  go_loopw [5, 13] (fun s v wr => ∃ k : Nat, k ≤ l.length ∧ (∀ x ∈ l.take k, x.ok = true) ∧ s = .int .i64 (sumL (l.take k)) ∧ v = .int .i64 k ∧ Below w.heap.size w wr) (fun _ v _ => l.length - (intOf v).toNat)
  case atStart => exact ⟨0, Nat.zero_le _, by simp, rfl, rfl, Below.refl _ _⟩
  case round =>
    obtain ⟨k, hk, hz, rfl, rfl, hbw⟩ := hrel
    have hsl := sumL_le hz
    have HZ := Lib.hid hz
    clear hz
    rw [List.length_take, Nat.min_eq_left hk] at hsl
    by_cases hlt : k < l.length
    · obtain ⟨c0, c1, c2⟩ := (hcell k hlt).below hb hbw
      have HS := Lib.hid (sumL_succ hlt)
      have HA := Lib.hid (allz_succ (p := fun x : Rn => x.ok = true) hlt HZ.out)
      have HN := Lib.hid (runsErr_ok (n := n) hlt)
      have HK := Lib.hid l[k].ok_iff
      generalize l[k] = r at *
      go_wp2_with fail
      case roundEnd =>
        exact ⟨⟨k + 1, by omega, HA.out (HK.out.2 (by omega)), by rw [HS.out], by go_num, hbw.alloc hbw.size _⟩, by simp [intOf]; omega⟩
      all_goals
        go_ret
        refine ⟨ret_int (HN.out ?_).symm, hbw.alloc hbw.size _⟩
        rw [Bool.eq_false_iff, ne_eq, HK.out]
        omega
    · have HE := Lib.hid (runsErr_sum (n := n) (all_of_take (by omega) HZ.out))
      have HO := Lib.hid (all_of_take (by omega) HZ.out)
      have HT := Lib.hid (show sumL (l.take k) = sumL l by rw [List.take_of_length_le (by omega)])
      clear HZ
      go_wp2_with fail
      · go_ret
        exact ⟨ret_int (HE.out (by rw [← HT.out]; simpa using ‹(sumL (List.take k l) != n) = true›)).symm, hbw⟩
      have hsum : sumL l = n := by rw [← HT.out]; simpa using ‹(sumL (List.take k l) != n) = false›
      clear HE HT hsl
      have HSU := Lib.hid hsum
      clear hsum
      go_loopw [8, 45] (fun s v wr => ∃ k : Nat, k ≤ l.length ∧ (∀ i, i < k → (l.getD i default).start = totL (l.take i)) ∧ s = .int .i64 (totL (l.take k)) ∧ v = .int .i64 k ∧ Below w.heap.size w wr) (fun _ v _ => l.length - (intOf v).toNat)
      case atStart => exact ⟨0, Nat.zero_le _, by omega, rfl, rfl, hbw⟩
      clear hk hlt hbw
      obtain ⟨j, hk, hz, rfl, rfl, hbw⟩ := hrel
      have htl := totL_le (l := l.take j) fun x hx => HO.out x (List.mem_of_mem_take hx)
      have HZ := Lib.hid hz
      clear hz
      rw [List.length_take, Nat.min_eq_left hk] at htl
      by_cases hlt : j < l.length
      · obtain ⟨c0, c1, c2⟩ := (hcell j hlt).below hb hbw
        have HS := Lib.hid (totL_succ hlt)
        have hpr := Rn.prod (HO.out l[j] (List.getElem_mem hlt))
        have HN := Lib.hid (runsErr_start (n := n) hlt HO.out HSU.out)
        have HG := Lib.hid (show l.getD j default = l[j] by simp [List.getD_eq_getElem?_getD, hlt])
        generalize l[j] = r at *
        go_wp2_with fail
        case roundEnd =>
          have hst : r.start = totL (l.take j) := by simpa using ‹(r.start != totL (List.take j l)) = false›
          exact ⟨⟨j + 1, by omega, starts_succ HZ.out (by rw [HG.out]; exact hst), by rw [HS.out], by go_num, hbw.alloc hbw.size _⟩, by simp [intOf]; omega⟩
        go_ret
        exact ⟨ret_int (HN.out (by simpa using ‹(r.start != totL (List.take j l)) = true›)).symm, hbw.alloc hbw.size _⟩
      · have HE := Lib.hid (runsErr_end (n := n) (by omega) HO.out HSU.out HZ.out)
        have HT := Lib.hid (show totL (l.take j) = totL l by rw [List.take_of_length_le (by omega)])
        go_wp2_with fail
        all_goals
          go_ret
          refine ⟨ret_int ?_, hbw⟩
          rw [HE.out, ← HT.out]
          first | rw [if_pos ‹_›] | rw [if_neg (by omega)]

theorem checkRuns_none (p : Option Addr) (cap : Nat) (n : Int) (w : World) :
    Calls Tryz.prog 28 #[.slice p 0 cap, .int .i64 n] w fun e w' => e = .returned (.int .i64 (runsErr [] n)) ∧ Below w.heap.size w w' := by
  have he : runsErr [] n = if n = 0 then 0 else 1 := by
    by_cases hn : n = 0
    · subst hn; rfl
    · rw [if_neg hn]; unfold runsErr; simp [sumL]; omega
  have HE := Lib.hid he
  clear he
  go_enter Tryz.func28, Tryz.ntmps28
  go_wp2_with fail
  go_loop [5, 13] (fun s v => s = .int .i64 0 ∧ v = .int .i64 0) (fun _ _ => 0)
  case atStart => exact ⟨rfl, rfl⟩
  case round =>
    obtain ⟨rfl, rfl⟩ := hrel
    go_wp2_with fail
    · go_ret
      have hn : (0 != n) = true := by assumption
      exact ⟨ret_int (by rw [HE.out, if_neg (by intro h; subst h; simp at hn)]), Below.refl _ _⟩
    · have hn : (0 != n) = false := by assumption
      obtain rfl : 0 = n := by simpa using hn
      go_loop [8, 45] (fun s v => s = .int .i64 0 ∧ v = .int .i64 0) (fun _ _ => 0)
      case atStart => exact ⟨rfl, rfl⟩
      obtain ⟨rfl, rfl⟩ := hrel
      go_wp2_with fail
      go_ret
      exact ⟨ret_int (by rw [HE.out]; simp), Below.refl _ _⟩

theorem checkRuns_any (v : Value) (l : List Rn) (n : Int) (w : World) (hv : SlR w v l) :
    Calls Tryz.prog 28 #[v, .int .i64 n] w fun e w' => e = .returned (.int .i64 (runsErr l n)) ∧ Below w.heap.size w w' := by
  obtain ⟨p, cap, rfl, h1, h2, h4⟩ := hv
  rcases h4 with rfl | ⟨b, off, rfl, hb, hc⟩
  · exact checkRuns_none p cap n w
  · exact checkRuns_some b off cap l n w hb (by omega) hc
end Go.Proofs.YtihnpbhcddapdabGreatDoor

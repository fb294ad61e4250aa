/- What the reference's Unfolded answers: the frames of the runs, or the first error of the runs. -/
import Derived.Test.YtihnpbhcddapdaaUnfold
namespace Go.Proofs.Ytihnpbhcddapdaa
open Go.RowKit

/-- The reference's answer, of at most 200 frames. -/
def UnfPost (l : List Fr) (rs : List Rn) (w : World) (e : Ending) (w' : World) : Prop :=
  ∃ v, e = .returned (.tuple #[v, .int .i64 (runsErr rs l.length)]) ∧ (runsErr rs l.length ≠ 0 → v = .slice none 0 0) ∧ (runsErr rs l.length = 0 → w'.ownsRow w.heap.size 23 6 v (unf l rs).length (cellsOf (unf l rs))) ∧ Below w.heap.size w w'
theorem UnfPost.bad {l : List Fr} {rs : List Rn} {w w' : World} {n : Int} (hn : runsErr rs l.length = n) (h0 : n ≠ 0) (hb : Below w.heap.size w w') : UnfPost l rs w (.returned (.tuple #[.slice none 0 0, .int .i64 n])) w' :=
  ⟨_, by rw [hn], fun _ => rfl, fun h => absurd (hn.symm.trans h) h0, hb⟩
theorem UnfPost.good {l : List Fr} {rs : List Rn} {w w' : World} {v : Value} (hn : runsErr rs l.length = 0) (h : w'.ownsRow w.heap.size 23 6 v (unf l rs).length (cellsOf (unf l rs))) (hb : Below w.heap.size w w') : UnfPost l rs w (.returned (.tuple #[v, .int .i64 0])) w' :=
  ⟨_, by rw [hn], fun h' => absurd hn h', fun _ => h, hb⟩

set_option maxHeartbeats 2000000 in
set_option maxRecDepth 100000 in
theorem unfolded_some (v1 : Value) (b off cap : Nat) (l : List Fr) (rs : List Rn) (w : World) (h1 : SlF w v1 l) (hl200 : l.length ≤ 200) (hb : b < w.heap.size) (h2 : RnsAt w b off rs) (hcap : rs.length ≤ cap) (hcm : cap ≤ 5864062014634) :
    Calls Try.prog 27 #[v1, .slice (some ⟨b, off, none⟩) rs.length cap] w (UnfPost l rs w) := by
  obtain ⟨i0, hi, hz0, hz1, hz2⟩ := info_parts Try.info23
  obtain ⟨p, cap1, rfl, hl, hc, hf, hp⟩ := id h1
  go_enter Try.func27, Try.ntmps27
  go_wp2_with fail
  go_loopw [6, 17] (fun s v wr => ∃ k : Nat, k ≤ rs.length ∧ (∀ x ∈ rs.take k, x.ok = true) ∧ s = .int .i64 (sumL (rs.take k)) ∧ v = .int .i64 k ∧ Below w.heap.size w wr) (fun _ v _ => rs.length - (intOf v).toNat)
  case atStart => exact ⟨0, Nat.zero_le _, by simp, rfl, rfl, Below.refl _ _⟩
  case round =>
    obtain ⟨k, hk, hz, rfl, rfl, hbw⟩ := hrel
    have hsl := sumL_le hz
    have HZ := Lib.hid hz
    clear hz
    rw [List.length_take, Nat.min_eq_left hk] at hsl
    by_cases hlt : k < rs.length
    · obtain ⟨c0, c1, c2⟩ := (h2 k hlt).below hb hbw
      have HS := Lib.hid (sumL_succ hlt)
      have HA := Lib.hid (allz_succ (p := fun x : Rn => x.ok = true) hlt HZ.out)
      have HN := Lib.hid (runsErr_ok (n := l.length) hlt)
      have HK := Lib.hid rs[k].ok_iff
      generalize rs[k] = r at *
      go_wp2_with (go_at_call 37; refine (in_any _ _ _ _).mono ?_; rintro e w' ⟨rfl, rfl⟩)
      case roundEnd =>
        exact ⟨⟨k + 1, by omega, HA.out (HK.out.2 (by simp at *; omega)), by rw [HS.out], by go_num, hbw.alloc hbw.size _⟩, by simp [intOf]; omega⟩
      all_goals
        go_ret2
        refine UnfPost.bad (HN.out ?_) (by decide) (hbw.alloc hbw.size _)
        rw [Bool.eq_false_iff, ne_eq, HK.out]
        intro hh
        simp at *
        omega
    · have HE := Lib.hid (runsErr_sum (n := l.length) (all_of_take (by omega) HZ.out))
      have HO := Lib.hid (all_of_take (by omega) HZ.out)
      have HT := Lib.hid (show sumL (rs.take k) = sumL rs by rw [List.take_of_length_le (by omega)])
      clear HZ
      go_wp2_with fail
      · go_ret2
        exact UnfPost.bad (HE.out (by rw [← HT.out]; simpa using ‹(sumL (List.take k rs) != ↑l.length) = true›)) (by decide) hbw
      have hsum : sumL rs = l.length := by rw [← HT.out]; simpa using ‹(sumL (List.take k rs) != ↑l.length) = false›
      have hrl := sumL_le HO.out
      clear HE HT hsl
      have HSU := Lib.hid hsum
      rw [hsum] at hrl
      clear hsum
      rw [show (sumL (List.take k rs) != (l.length : Int)) = false from by assumption]
      go_loopw [9, 42] (fun s v wr => ∃ k : Nat, k ≤ rs.length ∧ (∀ i, i < k → (rs.getD i default).start = totL (rs.take i)) ∧ s = .int .i64 (totL (rs.take k)) ∧ v = .int .i64 k ∧ Below w.heap.size w wr) (fun _ v _ => rs.length - (intOf v).toNat)
      case atStart => exact ⟨0, Nat.zero_le _, by omega, rfl, rfl, hbw⟩
      clear hk hlt hbw
      obtain ⟨j, hk, hz, rfl, rfl, hbw⟩ := hrel
      have htl := totL_le (l := rs.take j) fun x hx => HO.out x (List.mem_of_mem_take hx)
      have HZ := Lib.hid hz
      clear hz
      rw [List.length_take, Nat.min_eq_left hk] at htl
      by_cases hlt : j < rs.length
      · obtain ⟨c0, c1, c2⟩ := (h2 j hlt).below hb hbw
        have HS := Lib.hid (totL_succ hlt)
        have hpr := Rn.prod (HO.out rs[j] (List.getElem_mem hlt))
        have HN := Lib.hid (runsErr_start (n := l.length) hlt HO.out HSU.out)
        have HG := Lib.hid (show rs.getD j default = rs[j] by simp [List.getD_eq_getElem?_getD, hlt])
        generalize rs[j] = r at *
        go_wp2_with fail
        case roundEnd =>
          have hst : r.start = totL (rs.take j) := by simpa using ‹(r.start != totL (List.take j rs)) = false›
          exact ⟨⟨j + 1, by omega, starts_succ HZ.out (by rw [HG.out]; exact hst), by rw [HS.out], by go_num, hbw.alloc hbw.size _⟩, by simp [intOf]; omega⟩
        go_ret2
        exact UnfPost.bad (HN.out (by simpa using ‹(r.start != totL (List.take j rs)) = true›)) (by decide) (hbw.alloc hbw.size _)
      have HE := Lib.hid (runsErr_end (n := l.length) (by omega) HO.out HSU.out HZ.out)
      have HT := Lib.hid (show totL (rs.take j) = totL rs by rw [List.take_of_length_le (by omega)])
      go_wp2_with fail
      · go_ret2
        exact UnfPost.bad (by rw [HE.out, ← HT.out, if_pos ‹_›]) (by decide) hbw
      have htot : totL rs ≤ 200 := by rw [← HT.out]; assumption
      have HRE := Lib.hid (show runsErr rs l.length = 0 by rw [HE.out, if_neg (by omega)])
      clear HE HT htl HZ hk hlt
      go_loopw [0, 12, 62] (fun v0 v8 v wr => ∃ k : Nat, k ≤ rs.length ∧ SlF w v0 (eat l (rs.take k)) ∧ wr.ownsRow w.heap.size 23 6 v8 (unf l (rs.take k)).length (cellsOf (unf l (rs.take k))) ∧ v = .int .i64 k ∧ Below w.heap.size w wr) (fun _ _ v _ => rs.length - (intOf v).toNat)
      case atStart => exact ⟨0, Nat.zero_le _, h1, ⟨rfl, .inl ⟨rfl, rfl⟩⟩, rfl, hbw⟩
      clear hbw
      obtain ⟨wo, rfl⟩ : ∃ wo : World, wo = wr := ⟨_, rfl⟩
      obtain ⟨kk, hk, hs0, hown, rfl, hbw⟩ := hrel
      by_cases hlt : kk < rs.length
      · obtain ⟨hlong, htk⟩ := round_fits hlt HO.out HSU.out htot
        have HU := Lib.hid (unf_snoc rs[kk] l (rs.take kk))
        have HE := Lib.hid (eat_snoc rs[kk] l (rs.take kk))
        have HK := Lib.hid (take_rn_succ hlt)
        obtain ⟨k1, k2, k3, k4⟩ := (rs[kk]).ok_iff.1 (HO.out _ (List.getElem_mem hlt))
        have hc012 := (h2 kk hlt).below hb hbw
        have hfU : ∀ x ∈ unf l (rs.take kk), x.fit := fun x hx => hf x (mem_unf hx)
        generalize rs[kk] = r at *
        obtain ⟨st, lg, tm⟩ := r
        simp only at hlong htk k1 k2 k3 k4
        obtain ⟨lo, rfl⟩ := Int.eq_ofNat_of_zero_le (show 0 ≤ lg by omega)
        obtain ⟨ti, rfl⟩ := Int.eq_ofNat_of_zero_le (show 0 ≤ tm by omega)
        obtain ⟨c0, c1, c2⟩ := hc012
        simp only at c0 c1 c2
        generalize eat l (rs.take kk) = E at *
        generalize unf l (rs.take kk) = U at *
        obtain ⟨p', cap', rfl, hl', hc', hf', hp'⟩ := hs0
        rcases hp' with rfl | ⟨b', off', rfl, hb', hfr⟩
        · simp at hlong; omega
        unfold maxLen at hc'
        have htk' : U.length + lo * ti ≤ 200 := by
          have e : ((lo * ti : Nat) : Int) = (lo : Int) * ti := Int.natCast_mul lo ti
          omega
        go_wp2_with fail
        go_loopw [12, 68] (fun v8 v wr2 => ∃ jj : Nat, jj ≤ ti ∧ wr2.ownsRow w.heap.size 23 6 v8 (U ++ rep jj (E.take lo)).length (cellsOf (U ++ rep jj (E.take lo))) ∧ v = .int .i64 jj ∧ wr2.heap[wo.heap.size]? = some (.cells #[.int .i64 st, .int .i64 lo, .int .i64 ti] 46 (0, 0)) ∧ Below w.heap.size w wr2) (fun _ v _ => ti - (intOf v).toNat)
        case atStart =>
          refine ⟨0, Nat.zero_le _, ?_, rfl, ?_, hbw.alloc hbw.size _⟩
          · simp only [rep, List.replicate_zero, List.flatten_nil, List.append_nil]
            exact hown.alloc _
          · show (wo.heap.push _)[wo.heap.size]? = _
            exact Array.getElem?_push_size ..
        obtain ⟨jj, hjj, hown2, rfl, hbox, hbw2⟩ := hrel
        by_cases hjt : jj < ti
        · have d1 : wr.cell? ⟨wo.heap.size, 1, none⟩ = some (.int .i64 lo) := by simp [World.cell?, hbox]
          have hl2 : (cellsOf (E.take lo)).length = lo * 6 := by rw [cellsOf_length, List.length_take, Nat.min_eq_left (by omega)]
          have hsrc : ∀ i u, (cellsOf (E.take lo))[i]? = some u → wr.cell? ((⟨b', off', none⟩ : Addr).add i) = some u := fun i u hu => by rw [add_none]; exact ((hfr.take lo).below hb' hbw2).cells i u hu
          have hlen : (U ++ rep jj (E.take lo)).length = U.length + jj * lo := by rw [List.length_append, rep_length, List.length_take, Nat.min_eq_left (by omega)]
          have hjl : jj * lo + lo ≤ lo * ti := by
            have e : (jj + 1) * lo ≤ ti * lo := Nat.mul_le_mul_right _ hjt
            rw [Nat.succ_mul, Nat.mul_comm ti] at e; exact e
          have HC := Lib.hid (show cellsOf (U ++ rep (jj + 1) (E.take lo)) = cellsOf (U ++ rep jj (E.take lo)) ++ cellsOf (E.take lo) by rw [rep_succ, ← List.append_assoc, cellsOf_append])
          have HL := Lib.hid (show (U ++ rep (jj + 1) (E.take lo)).length = (U ++ rep jj (E.take lo)).length + lo by rw [rep_succ, ← List.append_assoc, List.length_append, List.length_take, Nat.min_eq_left (by omega)])
          have hge := own_ge hown2
          have hne := own_ne hown2 hbox (by decide)
          have hn2 : (U ++ rep jj (E.take lo)).length + lo ≤ 200 := by omega
          have hz6 : (Value.agg #[.string ⟨#[]⟩, .string ⟨#[]⟩, .string ⟨#[]⟩, .int .i64 0, .int .i64 0, .bool false]).cells.size = 6 := rfl
          generalize (U ++ rep jj (E.take lo)).length = n2 at *
          generalize cellsOf (U ++ rep jj (E.take lo)) = xs2 at *
          have hone := cellsOf_one (l := E.take lo)
          generalize cellsOf (E.take lo) = news at *
          clear hlen hjl
          have q1 : n2 + lo ≤ maxLen := by unfold maxLen; omega
          have q2 : (n2 + lo) * 72 ≤ 140737488355328 := by omega
          have q3 := hbw2.size
          have Hl2 := Lib.hid hl2
          clear hl2
          go_wp2_with (at_builtin; (refine wpList_append_own _ rfl _ _ 24 rfl w.heap.size 23 i0 _ 6 72 Try.underlying24 hi hz0 hz1 hz2 hz6 (by decide) _ n2 xs2 rfl hown2 ⟨b', off', none⟩ lo cap' news rfl Hl2.out hsrc hone q1 q2 q3 ?_; intro v' w1 hown3 hgrow _))
          exact ⟨⟨jj + 1, by omega, by rw [HL.out, HC.out]; exact hown3, by go_num, box_kept hgrow hbox hne, hbw2.grown hgrow q3 hge⟩, by simp [intOf]; omega⟩
        · obtain rfl : jj = ti := by omega
          have d1 : wr.cell? ⟨wo.heap.size, 1, none⟩ = some (.int .i64 lo) := by simp [World.cell?, hbox]
          have hlo : lo ≤ E.length := by omega
          have HD := Lib.hid (slF_drop hl' (by unfold maxLen; omega) hf' hb' hfr hlo)
          by_cases hcl : cap' = lo
          · subst hcl
            rw [if_pos rfl, Nat.sub_self, show E.length - cap' = 0 by omega] at HD
            go_wp2_with fail
            exact ⟨⟨kk + 1, by omega, by rw [HK.out, HE.out]; exact HD.out, by rw [HK.out, HU.out]; exact hown2, by go_num, hbw2⟩, by simp [intOf]; omega⟩
          · rw [if_neg hcl] at HD
            go_wp2_with fail
            exact ⟨⟨kk + 1, by omega, by rw [HK.out, HE.out]; exact HD.out, by rw [HK.out, HU.out]; exact hown2, by go_num, hbw2⟩, by simp [intOf]; omega⟩
      · go_wp2_with fail
        have hk' : rs.take kk = rs := List.take_of_length_le (by omega)
        rw [hk'] at hown
        go_ret2
        exact UnfPost.good HRE.out hown hbw

set_option maxHeartbeats 1000000 in
set_option maxRecDepth 100000 in
theorem unfolded_none (v1 : Value) (q : Option Addr) (cap : Nat) (l : List Fr) (w : World) (h1 : SlF w v1 l) :
    Calls Try.prog 27 #[v1, .slice q 0 cap] w (UnfPost l [] w) := by
  have he : runsErr [] l.length = if (0 : Int) = l.length then 0 else 1 := by
    by_cases hn : (0 : Int) = l.length
    · rw [if_pos hn, ← hn]; rfl
    · rw [if_neg hn]; exact runsErr_sum (by simp) (by simpa [sumL] using hn)
  have HE := Lib.hid he
  clear he
  obtain ⟨p, cap1, rfl, hl, hc, hf, hp⟩ := id h1
  go_enter Try.func27, Try.ntmps27
  go_wp2_with fail
  go_loop [6, 17] (fun s v => s = .int .i64 0 ∧ v = .int .i64 0) (fun _ _ => 0)
  case atStart => exact ⟨rfl, rfl⟩
  case round =>
    obtain ⟨rfl, rfl⟩ := hrel
    go_wp2_with fail
    · go_ret2
      have hn : (0 != (l.length : Int)) = true := by assumption
      exact UnfPost.bad (by rw [HE.out, if_neg (by simpa using hn)]) (by decide) (Below.refl _ _)
    · have hn : (0 != (l.length : Int)) = false := by assumption
      have HN := Lib.hid hn
      go_loop [9, 42] (fun s v => s = .int .i64 0 ∧ v = .int .i64 0) (fun _ _ => 0)
      case atStart => exact ⟨rfl, rfl⟩
      obtain ⟨rfl, rfl⟩ := hrel
      go_wp2_with fail
      go_loop [12, 62] (fun s v => s = .slice none 0 0 ∧ v = .int .i64 0) (fun _ _ => 0)
      case atStart => exact ⟨rfl, rfl⟩
      obtain ⟨rfl, rfl⟩ := hrel
      go_wp2_with fail
      go_ret2
      exact UnfPost.good (by rw [HE.out, if_pos (by simpa using HN.out)]) ⟨rfl, .inl ⟨rfl, rfl⟩⟩ (Below.refl _ _)

theorem unfolded_any (v1 v2 : Value) (l : List Fr) (rs : List Rn) (w : World) (h1 : SlF w v1 l) (h2 : SlR w v2 rs) (hl200 : l.length ≤ 200) :
    Calls Try.prog 27 #[v1, v2] w (UnfPost l rs w) := by
  obtain ⟨p, cap, rfl, g1, g2, g4⟩ := h2
  rcases g4 with rfl | ⟨b, off, rfl, hb, hc⟩
  · exact unfolded_none v1 p cap l w h1
  · exact unfolded_some v1 b off cap l rs w h1 hl200 hb hc g1 g2
end Go.Proofs.Ytihnpbhcddapdaa

/- What Unfold answers: the frames of the runs, or the first error. -/
import Derived.Test.YtihnpbhcddapdabGreatDoorRowPlain
import Derived.Test.YtihnpbhcddapdabGreatDoorRuns
import Derived.Test.YtihnpbhcddapdabGreatDoorFrames
namespace Go.Proofs.YtihnpbhcddapdabGreatDoor
open Go.RowKit

theorem Tryz.info23 : (Tryz.prog.info? 42).map (fun i => (i.zero, i.size, i.bytes)) = some (some (.agg #[.string ⟨#[]⟩, .string ⟨#[]⟩, .string ⟨#[]⟩, .int .i64 0, .int .i64 0, .bool false]), 6, 72) := by kernel_rfl

/-- The error of Unfold. -/
def unfErr (l : List Fr) (rs : List Rn) : Int := if frsErr l ≠ 0 then frsErr l else runsErr rs l.length

set_option maxHeartbeats 1000000 in
set_option maxRecDepth 100000 in
theorem unfold_bad (v1 v2 : Value) (l : List Fr) (rs : List Rn) (w : World) (h1 : SlF w v1 l) (h2 : SlR w v2 rs) (he : unfErr l rs ≠ 0) :
    Calls Tryz.prog 13 #[v1, v2] w fun e w' => e = .returned (.tuple #[.slice none 0 0, .int .i64 (unfErr l rs)]) ∧ Below w.heap.size w w' := by
  have HE := Lib.hid (show unfErr l rs = if frsErr l ≠ 0 then frsErr l else runsErr rs l.length from rfl)
  have HN := Lib.hid he
  clear he
  obtain ⟨p, cap, rfl, hl, hc, hf, hp⟩ := id h1
  go_enter Tryz.func13, Tryz.ntmps13
  go_wp2_with (first
    | (go_at_call 26; refine (checkFrames_any _ l _ h1).mono ?_; rintro e w1 ⟨rfl, hb1⟩)
    | (go_at_call 28; refine (checkRuns_any _ rs _ _ (h2.below (Nat.le_refl _) (by assumption))).mono ?_; rintro e w2 ⟨rfl, hb2⟩))
  · go_ret2
    have hq : (frsErr l != 0) = true := by assumption
    exact ⟨ret2i (by rw [HE.out, if_pos (by simpa using hq)]), hb1⟩
  · go_ret2
    have hq : (frsErr l != 0) = false := by assumption
    exact ⟨ret2i (by rw [HE.out, if_neg (by simpa using hq)]), below_call hb1 hb1.size hb2⟩
  · exfalso
    have hq : (frsErr l != 0) = false := by assumption
    have hr : (runsErr rs l.length != 0) = false := by assumption
    apply HN.out
    rw [HE.out, if_neg (by simpa using hq)]
    simpa using hr

set_option maxHeartbeats 2000000 in
set_option maxRecDepth 100000 in
theorem unfold_some (v1 : Value) (b off cap : Nat) (l : List Fr) (rs : List Rn) (w : World) (h1 : SlF w v1 l) (hb : b < w.heap.size) (h2 : RnsAt w b off rs) (hcap : rs.length ≤ cap) (hcm : rs.length ≤ 5864062014634) (he : unfErr l rs = 0) :
    Calls Tryz.prog 13 #[v1, .slice (some ⟨b, off, none⟩) rs.length cap] w fun e w' => ∃ v, e = .returned (.tuple #[v, .int .i64 0]) ∧ w'.ownsRow w.heap.size 42 6 v (unf l rs).length (cellsOf (unf l rs)) ∧ Below w.heap.size w w' := by
  obtain ⟨i0, hi, hz0, hz1, hz2⟩ := info_parts Tryz.info23
  have h2' : SlR w (.slice (some ⟨b, off, none⟩) rs.length cap) rs := ⟨_, cap, rfl, hcap, hcm, .inr ⟨b, off, rfl, hb, h2⟩⟩
  have hfe : frsErr l = 0 := by
    unfold unfErr at he
    split at he
    · omega
    · omega
  have hre : runsErr rs l.length = 0 := by
    unfold unfErr at he
    rw [if_neg (by omega)] at he
    exact he
  obtain ⟨hok, hsum, htot⟩ := runsErr_zero hre
  have hl200 := frsErr_zero hfe
  have hsl := sumL_le hok
  have HF := Lib.hid hfe
  have HR := Lib.hid hre
  have HS := Lib.hid hsum
  clear hfe hre hsum he
  obtain ⟨p, cap1, rfl, hl, hc, hf, hp⟩ := id h1
  have hrl : rs.length ≤ 200 := by have := HS.out; omega
  clear hsl
  go_enter Tryz.func13, Tryz.ntmps13
  go_wp2_with (first
    | (go_at_call 26; refine (checkFrames_any _ l _ h1).mono ?_; rintro e w1 ⟨rfl, hb1⟩; rw [HF.out])
    | (go_at_call 28; refine (checkRuns_any _ rs _ _ (h2'.below (Nat.le_refl _) (by assumption))).mono ?_; rintro e w2 ⟨rfl, hb2⟩; rw [HR.out]))
  go_loopw [0, 8, 25] (fun v0 v8 v wr => ∃ k : Nat, k ≤ rs.length ∧ SlF w v0 (eat l (rs.take k)) ∧ wr.ownsRow w.heap.size 42 6 v8 (unf l (rs.take k)).length (cellsOf (unf l (rs.take k))) ∧ v = .int .i64 k ∧ Below w.heap.size w wr) (fun _ _ v _ => rs.length - (intOf v).toNat)
  case atStart => exact ⟨0, Nat.zero_le _, h1, ⟨rfl, .inl ⟨rfl, rfl⟩⟩, rfl, below_call hb1 hb1.size hb2⟩
  case round =>
    obtain ⟨wo, rfl⟩ : ∃ wo : World, wo = wr := ⟨_, rfl⟩
    obtain ⟨k, hk, hs0, hown, rfl, hbw⟩ := hrel
    by_cases hlt : k < rs.length
    · obtain ⟨hlong, htk⟩ := round_fits hlt hok HS.out htot
      have HU := Lib.hid (unf_snoc rs[k] l (rs.take k))
      have HE := Lib.hid (eat_snoc rs[k] l (rs.take k))
      have HK := Lib.hid (take_rn_succ hlt)
      obtain ⟨k1, k2, k3, k4⟩ := (rs[k]).ok_iff.1 (hok _ (List.getElem_mem hlt))
      have hc012 := (h2 k hlt).below hb hbw
      have hfU : ∀ x ∈ unf l (rs.take k), x.fit := fun x hx => hf x (mem_unf hx)
      generalize rs[k] = r at *
      obtain ⟨st, lg, tm⟩ := r
      simp only at hlong htk k1 k2 k3 k4
      obtain ⟨lo, rfl⟩ := Int.eq_ofNat_of_zero_le (show 0 ≤ lg by omega)
      obtain ⟨ti, rfl⟩ := Int.eq_ofNat_of_zero_le (show 0 ≤ tm by omega)
      obtain ⟨c0, c1, c2⟩ := hc012
      simp only at c0 c1 c2
      generalize eat l (rs.take k) = E at *
      generalize unf l (rs.take k) = U at *
      obtain ⟨p', cap', rfl, hl', hc', hf', hp'⟩ := hs0
      rcases hp' with rfl | ⟨b', off', rfl, hb', hfr⟩
      · simp at hlong; omega
      unfold maxLen at hc'
      have htk' : U.length + lo * ti ≤ 200 := by
        have e : ((lo * ti : Nat) : Int) = (lo : Int) * ti := Int.natCast_mul lo ti
        omega
      go_wp2_with fail
      go_loopw [8, 31] (fun v8 v wr2 => ∃ j : Nat, j ≤ ti ∧ wr2.ownsRow w.heap.size 42 6 v8 (U ++ rep j (E.take lo)).length (cellsOf (U ++ rep j (E.take lo))) ∧ v = .int .i64 j ∧ wr2.heap[wo.heap.size]? = some (.cells #[.int .i64 st, .int .i64 lo, .int .i64 ti] 37 (0, 0)) ∧ Below w.heap.size w wr2) (fun _ v _ => ti - (intOf v).toNat)
      case atStart =>
        refine ⟨0, Nat.zero_le _, ?_, rfl, ?_, hbw.alloc hbw.size _⟩
        · simp only [rep, List.replicate_zero, List.flatten_nil, List.append_nil]
          exact hown.alloc _
        · show (wo.heap.push _)[wo.heap.size]? = _
          exact Array.getElem?_push_size ..
      obtain ⟨j, hj, hown2, rfl, hbox, hbw2⟩ := hrel
      by_cases hjt : j < ti
      · have d1 : wr.cell? ⟨wo.heap.size, 1, none⟩ = some (.int .i64 lo) := by simp [World.cell?, hbox]
        have hl2 : (cellsOf (E.take lo)).length = lo * 6 := by rw [cellsOf_length, List.length_take, Nat.min_eq_left (by omega)]
        have hsrc : ∀ i u, (cellsOf (E.take lo))[i]? = some u → wr.cell? ((⟨b', off', none⟩ : Addr).add i) = some u := fun i u hu => by rw [add_none]; exact ((hfr.take lo).below hb' hbw2).cells i u hu
        have hlen : (U ++ rep j (E.take lo)).length = U.length + j * lo := by rw [List.length_append, rep_length, List.length_take, Nat.min_eq_left (by omega)]
        have hjl : j * lo + lo ≤ lo * ti := by
          have e : (j + 1) * lo ≤ ti * lo := Nat.mul_le_mul_right _ hjt
          rw [Nat.succ_mul, Nat.mul_comm ti] at e; exact e
        have HC := Lib.hid (show cellsOf (U ++ rep (j + 1) (E.take lo)) = cellsOf (U ++ rep j (E.take lo)) ++ cellsOf (E.take lo) by rw [rep_succ, ← List.append_assoc, cellsOf_append])
        have HL := Lib.hid (show (U ++ rep (j + 1) (E.take lo)).length = (U ++ rep j (E.take lo)).length + lo by rw [rep_succ, ← List.append_assoc, List.length_append, List.length_take, Nat.min_eq_left (by omega)])
        have hge := own_ge hown2
        have hne := own_ne hown2 hbox (by decide)
        have hn2 : (U ++ rep j (E.take lo)).length + lo ≤ 200 := by omega
        have hz6 : (Value.agg #[.string ⟨#[]⟩, .string ⟨#[]⟩, .string ⟨#[]⟩, .int .i64 0, .int .i64 0, .bool false]).cells.size = 6 := rfl
        generalize (U ++ rep j (E.take lo)).length = n2 at *
        generalize cellsOf (U ++ rep j (E.take lo)) = xs2 at *
        have hone := cellsOf_one (l := E.take lo)
        generalize cellsOf (E.take lo) = news at *
        clear hlen hjl
        have q1 : n2 + lo ≤ maxLen := by unfold maxLen; omega
        have q2 : (n2 + lo) * 72 ≤ 140737488355328 := by omega
        have q3 := hbw2.size
        have Hl2 := Lib.hid hl2
        clear hl2
        go_wp2_with (at_builtin; (refine wpList_append_own _ rfl _ _ 32 rfl w.heap.size 42 i0 _ 6 72 Tryz.underlying32 hi hz0 hz1 hz2 hz6 (by decide) _ n2 xs2 rfl hown2 ⟨b', off', none⟩ lo cap' news rfl Hl2.out hsrc hone q1 q2 q3 ?_; intro v' w1 hown3 hgrow _))
        exact ⟨⟨j + 1, by omega, by rw [HL.out, HC.out]; exact hown3, by go_num, box_kept hgrow hbox hne, hbw2.grown hgrow q3 hge⟩, by simp [intOf]; omega⟩
      · obtain rfl : j = ti := by omega
        have d1 : wr.cell? ⟨wo.heap.size, 1, none⟩ = some (.int .i64 lo) := by simp [World.cell?, hbox]
        go_wp2_with fail
        have hlo : lo ≤ E.length := by omega
        exact ⟨⟨k + 1, by omega, by rw [HK.out, HE.out]; exact slF_drop hl' (by unfold maxLen; omega) hf' hb' hfr hlo, by rw [HK.out, HU.out]; exact hown2, by go_num, hbw2⟩, by simp [intOf]; omega⟩
    · go_wp2_with fail
      have hk' : rs.take k = rs := List.take_of_length_le (by omega)
      rw [hk'] at hown
      go_ret2
      exact ⟨_, rfl, hown, hbw⟩

set_option maxHeartbeats 1000000 in
set_option maxRecDepth 100000 in
theorem unfold_none (v1 : Value) (q : Option Addr) (cap : Nat) (l : List Fr) (w : World) (h1 : SlF w v1 l) (he : unfErr l [] = 0) :
    Calls Tryz.prog 13 #[v1, .slice q 0 cap] w fun e w' => ∃ v, e = .returned (.tuple #[v, .int .i64 0]) ∧ w'.ownsRow w.heap.size 42 6 v (unf l []).length (cellsOf (unf l [])) ∧ Below w.heap.size w w' := by
  have h2' : SlR w (.slice q 0 cap) [] := ⟨_, cap, rfl, by simp, by simp, .inl rfl⟩
  have hfe : frsErr l = 0 := by
    unfold unfErr at he
    split at he
    · omega
    · omega
  have hre : runsErr [] l.length = 0 := by
    unfold unfErr at he
    rw [if_neg (by omega)] at he
    exact he
  have HF := Lib.hid hfe
  have HR := Lib.hid hre
  clear hfe hre he
  obtain ⟨p, cap1, rfl, hl, hc, hf, hp⟩ := id h1
  go_enter Tryz.func13, Tryz.ntmps13
  go_wp2_with (first
    | (go_at_call 26; refine (checkFrames_any _ l _ h1).mono ?_; rintro e w1 ⟨rfl, hb1⟩; rw [HF.out])
    | (go_at_call 28; refine (checkRuns_any _ [] _ _ (h2'.below (Nat.le_refl _) (by assumption))).mono ?_; rintro e w2 ⟨rfl, hb2⟩; rw [HR.out]))
  go_loop [8, 25] (fun v8 v => v8 = .slice none 0 0 ∧ v = .int .i64 0) (fun _ _ => 0)
  case atStart => exact ⟨rfl, rfl⟩
  case round =>
    obtain ⟨rfl, rfl⟩ := hrel
    go_wp2_with fail
    go_ret2
    exact ⟨.slice none 0 0, rfl, ⟨rfl, .inl ⟨rfl, rfl⟩⟩, below_call hb1 hb1.size hb2⟩

theorem unfold_good (v1 v2 : Value) (l : List Fr) (rs : List Rn) (w : World) (h1 : SlF w v1 l) (h2 : SlR w v2 rs) (he : unfErr l rs = 0) :
    Calls Tryz.prog 13 #[v1, v2] w fun e w' => ∃ v, e = .returned (.tuple #[v, .int .i64 0]) ∧ w'.ownsRow w.heap.size 42 6 v (unf l rs).length (cellsOf (unf l rs)) ∧ Below w.heap.size w w' := by
  obtain ⟨p, cap, rfl, g1, g2, g4⟩ := h2
  rcases g4 with rfl | ⟨b, off, rfl, hb, hc⟩
  · exact unfold_none v1 p cap l w h1 he
  · exact unfold_some v1 b off cap l rs w h1 hb hc g1 g2 he
end Go.Proofs.YtihnpbhcddapdabGreatDoor

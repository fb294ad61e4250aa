/- What the reference FitsIn answers. -/
import Derived.Test.YtooilpblbkgloaaDoorFitsP
import Derived.Deep.OwnRows
import Derived.Below
import Derived.Test.YtooilpblbkgloaaDoorQTail
namespace Go.Proofs.YtooilpblbkgloaaDoor
open Go.RowKit Go.Lib Go.Deep

theorem Tryd.info4 : (Tryd.prog.info? 4).map (fun i => (i.zero, i.size, i.bytes)) = some (some (.bool false), 1, 1) := by kernel_rfl

theorem can_start {G S : List UInt8} {n : Nat} (hn : n ≤ S.length) : can G S 0 n = decide (n = 0) := by
  rw [Bool.eq_iff_iff, can_true, List.take_zero, decide_eq_true_eq]
  constructor
  · intro h
    have := congrArg List.length h.nil_left
    rw [List.length_take, List.length_nil] at this
    omega
  · rintro rfl
    exact .nil
theorem take_succ' {l : List UInt8} {k : Nat} (h : k < l.length) : l.take (k + 1) = l.take k ++ [l[k]] := List.take_succ_eq_append_getElem h
theorem can_star_zero {G S : List UInt8} {k : Nat} (hk : k < G.length) (hc : G[k] = 42) : can G S (k + 1) 0 = can G S k 0 := by
  rw [Bool.eq_iff_iff, can_true, can_true, take_succ' hk, hc, List.take_zero]
  exact M.snoc_star_zero
theorem can_star_succ {G S : List UInt8} {k n : Nat} (hk : k < G.length) (hn : n < S.length) (hc : G[k] = 42) : can G S (k + 1) (n + 1) = (can G S k (n + 1) || can G S (k + 1) n) := by
  rw [Bool.eq_iff_iff, Bool.or_eq_true, can_true, can_true, can_true, take_succ' hk, hc, take_succ' hn]
  exact M.snoc_star_succ
theorem can_one_zero {G S : List UInt8} {k : Nat} (hk : k < G.length) (hc : G[k] ≠ 42) : can G S (k + 1) 0 = false := by
  rw [Bool.eq_false_iff]
  intro h
  rw [can_true, take_succ' hk, List.take_zero] at h
  exact M.snoc_one_zero hc h
theorem can_one_succ {G S : List UInt8} {k n : Nat} (hk : k < G.length) (hn : n < S.length) (hc : G[k] ≠ 42) : can G S (k + 1) (n + 1) = (can G S k n && (decide (G[k] = 63) || decide (G[k] = S[n]))) := by
  rw [Bool.eq_iff_iff, Bool.and_eq_true, Bool.or_eq_true, decide_eq_true_eq, decide_eq_true_eq, can_true, can_true, take_succ' hk, take_succ' hn]
  exact (M.snoc_one_succ hc).trans And.comm
theorem can_end {G S : List UInt8} (h : G.length ≤ 100) : can G S G.length S.length = fitsB G S := by
  rw [Bool.eq_iff_iff, can_true, fitsB_iff h, List.take_length, List.take_length]

theorem u8_dec (a b : UInt8) : ((a.toNat : Int) == (b.toNat : Int)) = decide (a = b) := by
  rw [Bool.eq_iff_iff, u8_eq, decide_eq_true_eq]
theorem getB (s : ByteArray) (k : Nat) (_h : k < s.data.toList.length) (_h' : k < s.size) : s.data.toList[k] = s[k] := rfl

/-- The row that is filled. -/
noncomputable def Part (G S : List UInt8) (k n : Nat) : Nat → Value := fun j => .bool (if j < n then can G S (k + 1) j else false)
theorem Part.zero (G S : List UInt8) (k : Nat) : ∀ j, (fun _ => Value.bool false) j = Part G S k 0 j := fun j => by unfold Part; rw [if_neg (by omega)]
theorem Part.set {G S : List UInt8} {k n : Nat} {b : Bool} (hb : b = can G S (k + 1) n) : ∀ j, (if j = n then Value.bool b else Part G S k n j) = Part G S k (n + 1) j := fun j => by
  unfold Part
  by_cases e : j = n
  · subst e; rw [if_pos rfl, if_pos (by omega), hb]
  · rw [if_neg e]
    by_cases h : j < n
    · rw [if_pos h, if_pos (by omega)]
    · rw [if_neg h, if_neg (by omega)]

set_option maxHeartbeats 4000000 in
set_option maxRecDepth 100000 in
theorem fitsIn_any (G S : ByteArray) (w : World) (hS : S.size ≤ 70368744177664) :
    Calls Tryd.prog 7 #[.string G, .string S] w fun e w' => e = .returned (.bool (fitsB G.data.toList S.data.toList)) ∧ Below w.heap.size w w' := by
  by_cases hlen : 100 < G.size
  · have HE := Lib.hid (show fitsB G.data.toList S.data.toList = false from fitsB_long (by rw [← Lib.size_eq]; exact hlen))
    go_enter Tryd.func7, Tryd.ntmps7
    go_wp2_with fail
    go_ret
    exact ⟨ret_bool HE.out.symm, Below.refl _ _⟩
  · have hlG := Lib.hid (Lib.size_eq G)
    have hlS := Lib.hid (Lib.size_eq S)
    obtain ⟨n1, hn1⟩ : ∃ n1, n1 = S.size + 1 := ⟨_, rfl⟩
    have hmk := run_make_row' (P := Tryd.prog) 33 4 (.bool false) 1 Tryd.underlying33 Tryd.info4 rfl .i64 .i64 n1 (by omega) (by omega)
    rw [show ((n1 : Nat) : Int) = (S.size : Int) + 1 by omega] at hmk
    have hn1a : n1 ≤ S.size + 1 := by omega
    have hn1b : S.size + 1 ≤ n1 := by omega
    have hn1c : (0 : Int) < (n1 : Int) := by omega
    have HN1 := Lib.hid hn1
    clear hn1
    have hr0 : (w.alloc (.cells (madeCells #[.bool false] n1) 4)).rowIs w.heap.size 4 n1 (fun _ => .bool false) := World.rowIs_made w (.bool false) n1 4
    have q0 : (w.alloc (.cells (madeCells #[.bool false] n1) 4)).cell? ⟨w.heap.size, 0, none⟩ = some (.bool false) := hr0.cell (i := 0) (by omega)
    have q1 : (w.alloc (.cells (madeCells #[.bool false] n1) 4)).frozen? ⟨w.heap.size, 0, none⟩ = false := hr0.frozen 0
    have HR0 := Lib.hid ((hr0.set 0 (.bool true)).congr (g := fun n => .bool (can G.data.toList S.data.toList 0 n)) (fun j hj => by
      rw [can_start (by rw [← hlS.out]; omega)]
      by_cases e : j = 0
      · rw [if_pos e, decide_eq_true e]
      · rw [if_neg e, decide_eq_false e]))
    clear hr0
    go_enter Tryd.func7, Tryd.ntmps7
    go_wp2_with fail
    go_loopw [5, 20] (fun v5 v20 wr => ∃ k g : Nat, v5 = .slice (some ⟨g, 0, none⟩) n1 n1 ∧ v20 = .int .i64 k ∧ k ≤ G.size ∧ w.heap.size ≤ g ∧ g < wr.heap.size ∧ wr.rowIs g 4 n1 (fun n => .bool (can G.data.toList S.data.toList k n)) ∧ Below w.heap.size w wr) (fun _ v _ => G.size - (RowKit.intOf v).toNat)
    case atStart => 
      refine ⟨0, w.heap.size, rfl, rfl, Nat.zero_le _, Nat.le_refl _, by simp, ?_, (Below.refl _ _).alloc (Nat.le_refl _) _⟩
      have h := HR0.out
      revert h
      go_simp
    case round =>
      obtain ⟨wo, rfl⟩ : ∃ wo : World, wo = wr := ⟨_, rfl⟩
      obtain ⟨k, g, rfl, rfl, hk, hg, hgl, hrow, hbw⟩ := hrel
      by_cases hlt : k < G.size
      · have hkl : k < G.data.toList.length := by rw [← hlG.out]; exact hlt
        have HROW := Lib.hid hrow
        clear hrow q0 q1 HR0
        -- BEGIN
        have hgk : k < G.size := hlt
        go_wp2_with fail
        go_loopw [30] (fun v wi => ∃ n : Nat, v = .int .i64 n ∧ n ≤ n1 ∧ wi.rowIs g 4 n1 (fun n => .bool (can G.data.toList S.data.toList k n)) ∧ wi.rowIs wo.heap.size 4 n1 (Part G.data.toList S.data.toList k n) ∧ Below w.heap.size w wi ∧ wo.heap.size < wi.heap.size) (fun v _ => n1 - (RowKit.intOf v).toNat)
        case atStart => exact ⟨0, rfl, Nat.zero_le _, HROW.out.alloc _, (World.rowIs_made wo (.bool false) n1 4).congr (fun j _ => Part.zero _ _ _ j), hbw.alloc (Nat.le_trans hg (Nat.le_of_lt hgl)) _, by simp⟩
        obtain ⟨n, rfl, hn, hr1, hr2, hbi, hsz⟩ := hrel
        clear HROW
        have hgn : g ≠ wo.heap.size := by omega
        by_cases hnl : n < n1
        · have hns : n ≤ S.size := by omega
          have hni : (n : Int) < (n1 : Int) := by omega
          have s1 : wr.cell? ⟨wo.heap.size, n, none⟩ = some (.bool false) := by have := hr2.cell (i := n) hnl; unfold Part at this; rwa [if_neg (by omega)] at this
          have s2 : wr.frozen? ⟨wo.heap.size, n, none⟩ = false := hr2.frozen n
          have c0 : wr.cell? ⟨g, n, none⟩ = some (.bool (can G.data.toList S.data.toList k n)) := hr1.cell hnl
          by_cases hc : G[k] = 42
          · have hq : ((G[k].toNat : Int) == 42) = true := by rw [hc]; rfl
            cases n with
            | zero =>
              have HV := Lib.hid (can_star_zero (S := S.data.toList) hkl hc)
              have HR1 := Lib.hid hr1
              have HR2 := Lib.hid hr2
              clear hr1 hr2 hc
              cases hb : can G.data.toList S.data.toList k 0
              all_goals
                rw [hb] at c0 HV
                clear hb
                go_wp2_with fail
                exact ⟨⟨1, rfl, hnl, HR1.out.setOther hgn _, (HR2.out.set 0 (.bool _)).congr (fun j _ => Part.set HV.out.symm j), hbi.setCell (p := ⟨wo.heap.size, 0, none⟩) (Nat.le_trans hg (Nat.le_of_lt hgl)) _, by simpa [World.setCell] using hsz⟩, by simp [RowKit.intOf]; omega⟩
            | succ m =>
              have hml : m < S.data.toList.length := by rw [← hlS.out]; omega
              have HV := Lib.hid (can_star_succ hkl hml hc)
              have c1 : wr.cell? ⟨wo.heap.size, m, none⟩ = some (.bool (can G.data.toList S.data.toList (k + 1) m)) := by have := hr2.cell (i := m) (by omega); unfold Part at this; rwa [if_pos (by omega)] at this
              have HR1 := Lib.hid hr1
              have HR2 := Lib.hid hr2
              have hmi : (m : Int) < (n1 : Int) := by omega
              have hmj : (m : Int) + 1 < (n1 : Int) := by omega
              have hw1 : IntKind.i64.wrap ((m : Int) + 1) = (m : Int) + 1 := IntWalk.i64_in _ (by omega)
              clear hr1 hr2 hc
              cases hb : can G.data.toList S.data.toList k (m + 1)
              all_goals
                rw [hb] at c0 HV
                clear hb
                cases hb1 : can G.data.toList S.data.toList (k + 1) m
                all_goals
                  rw [hb1] at c1 HV
                  clear hb1
                  go_wp2_with fail
                  exact ⟨⟨m + 1 + 1, rfl, hnl, HR1.out.setOther hgn _, (HR2.out.set (m + 1) (.bool _)).congr (fun j _ => Part.set HV.out.symm j), hbi.setCell (p := ⟨wo.heap.size, m + 1, none⟩) (Nat.le_trans hg (Nat.le_of_lt hgl)) _, by simpa [World.setCell] using hsz⟩, by simp [RowKit.intOf]; omega⟩
          · have hq : ((G[k].toNat : Int) == 42) = false := u8_ne hc
            cases n with
            | zero =>
              have HV := Lib.hid (can_one_zero (S := S.data.toList) hkl hc)
              have HR1 := Lib.hid hr1
              have HR2 := Lib.hid hr2
              have hz : decide ((0 : Int) < ((0 : Nat) : Int)) = false := by decide
              clear hr1 hr2 hc
              go_wp2_with fail
              refine wp_region_quiet_tail 28 (by kernel_rfl) (by kernel_rfl) ?_
              simp only [List.take_succ_cons, List.take_zero, List.drop_succ_cons, List.drop_zero]
              repeat (go_big_quiet_step (fail))
              refine wpQuiet_nil ?_
              have s1d : (wr.drewN 1).cell? ⟨wo.heap.size, 0, none⟩ = some (.bool false) := s1
              have s2d : (wr.drewN 1).frozen? ⟨wo.heap.size, 0, none⟩ = false := s2
              have HR1d := Lib.hid (show (wr.drewN 1).rowIs g 4 n1 (fun n => .bool (can G.data.toList S.data.toList k n)) from HR1.out)
              have HR2d := Lib.hid (show (wr.drewN 1).rowIs wo.heap.size 4 n1 (Part G.data.toList S.data.toList k 0) from HR2.out)
              have hbid := below_drewN hbi 1
              have hszd : wo.heap.size < (wr.drewN 1).heap.size := hsz
              clear s1 s2 HR1 HR2 hbi hsz c0
              generalize wr.drewN 1 = wd at *
              go_wp2_with fail
              exact ⟨⟨1, rfl, hnl, HR1d.out.setOther hgn _, (HR2d.out.set 0 (.bool _)).congr (fun j _ => Part.set HV.out.symm j), hbid.setCell (p := ⟨wo.heap.size, 0, none⟩) (Nat.le_trans hg (Nat.le_of_lt hgl)) _, by simpa [World.setCell] using hszd⟩, by simp [RowKit.intOf]; omega⟩
            | succ m =>
              have hml : m < S.data.toList.length := by rw [← hlS.out]; omega
              have HV := Lib.hid (can_one_succ hkl hml hc)
              have c1 : wr.cell? ⟨g, m, none⟩ = some (.bool (can G.data.toList S.data.toList k m)) := hr1.cell (by omega)
              have hq63 : ((G[k].toNat : Int) == 63) = decide (G[k] = 63) := u8_dec G[k] 63
              have hqS := u8_dec G[k] (S[m]'(by omega))
              have HR1 := Lib.hid hr1
              have HR2 := Lib.hid hr2
              have hmi : (m : Int) < (n1 : Int) := by omega
              have hmj : (m : Int) + 1 < (n1 : Int) := by omega
              have hz : decide ((0 : Int) < (m : Int) + 1) = true := decide_eq_true (by omega)
              have hw1 : IntKind.i64.wrap ((m : Int) + 1) = (m : Int) + 1 := IntWalk.i64_in _ (by omega)
              have hw2 : IntKind.i64.wrap ((m : Int) + 1 - 1) = (m : Int) := by rw [show (m : Int) + 1 - 1 = (m : Int) by omega]; exact IntWalk.i64_in _ (by omega)
              rw [getB S m hml (by omega), getB G k hkl hgk] at HV
              clear hr1 hr2 hc
              cases hb : can G.data.toList S.data.toList k m
              all_goals
                rw [hb] at c1 HV
                clear hb
                cases hb1 : decide (G[k] = 63)
                all_goals
                  rw [hb1] at hq63 HV
                  clear hb1
                  cases hb2 : decide (G[k] = S[m]'(by omega))
                  all_goals
                    rw [hb2] at hqS HV
                    clear hb2
                    go_wp2_with fail
                    refine wp_region_quiet_tail 28 (by kernel_rfl) (by kernel_rfl) ?_
                    simp only [List.take_succ_cons, List.take_zero, List.drop_succ_cons, List.drop_zero]
                    repeat (go_big_quiet_step (fail))
                    refine wpQuiet_nil ?_
                    have s1d : (wr.drewN 1).cell? ⟨wo.heap.size, m + 1, none⟩ = some (.bool false) := s1
                    have s2d : (wr.drewN 1).frozen? ⟨wo.heap.size, m + 1, none⟩ = false := s2
                    have HR1d := Lib.hid (show (wr.drewN 1).rowIs g 4 n1 (fun n => .bool (can G.data.toList S.data.toList k n)) from HR1.out)
                    have HR2d := Lib.hid (show (wr.drewN 1).rowIs wo.heap.size 4 n1 (Part G.data.toList S.data.toList k (m + 1)) from HR2.out)
                    have hbid := below_drewN hbi 1
                    have hszd : wo.heap.size < (wr.drewN 1).heap.size := hsz
                    clear s1 s2 HR1 HR2 hbi hsz c0 c1
                    generalize wr.drewN 1 = wd at *
                    go_wp2_with fail
                    exact ⟨⟨m + 1 + 1, rfl, hnl, HR1d.out.setOther hgn _, (HR2d.out.set (m + 1) (.bool _)).congr (fun j _ => Part.set HV.out.symm j), hbid.setCell (p := ⟨wo.heap.size, m + 1, none⟩) (Nat.le_trans hg (Nat.le_of_lt hgl)) _, by simpa [World.setCell] using hszd⟩, by simp [RowKit.intOf]; omega⟩
        · obtain rfl : n = n1 := by omega
          have HR2 := Lib.hid (hr2.congr (g := fun n => .bool (can G.data.toList S.data.toList (k + 1) n)) (fun j hj => by unfold Part; rw [if_pos hj]))
          clear hr1 hr2
          go_wp2_with fail
          exact ⟨⟨k + 1, wo.heap.size, rfl, rfl, hlt, Nat.le_trans hg (Nat.le_of_lt hgl), hsz, HR2.out, hbi⟩, by simp [RowKit.intOf]; omega⟩
      · have HV := Lib.hid (show can G.data.toList S.data.toList k S.size = fitsB G.data.toList S.data.toList by
          rw [show k = G.data.toList.length by rw [← hlG.out]; omega, hlS.out]; exact can_end (by rw [← hlG.out]; omega))
        have c0 : wo.cell? ⟨g, S.size, none⟩ = some (.bool (can G.data.toList S.data.toList k S.size)) := hrow.cell (by omega)
        clear hrow q0 q1 HR0
        have hs1 : (S.size : Int) < (n1 : Int) := by omega
        go_wp2_with fail
        go_ret
        exact ⟨ret_bool HV.out, hbw⟩
end Go.Proofs.YtooilpblbkgloaaDoor

/- What CheckTable answers. -/
import Derived.Test.YtcdaalnjanncmaaDoorSymP
import Derived.Laws.EntriesVeiled
namespace Go.Proofs.YtcdaalnjanncmaaDoor
open Go.RowKit Go.Deep Go.Lib

section
variable {t : Tb}
theorem tab_id (h : isIdB t.id = false) : tabErr t = 1 := by unfold tabErr; rw [if_pos h]
theorem tab_size (h : isIdB t.id = true) (h2 : t.size < 1 ∨ 4294967296 < t.size) : tabErr t = 2 := by unfold tabErr; rw [if_neg (by simp [h]), if_pos h2]
theorem tab_tail (h : isIdB t.id = true) (h2 : ¬ (t.size < 1 ∨ 4294967296 < t.size)) : tabErr t = if eFiles t ≠ 0 then eFiles t else if eFuncs t ≠ 0 then eFuncs t else if eRows t ≠ 0 then eRows t else eCalls t := by unfold tabErr; rw [if_neg (by simp [h]), if_neg h2]
theorem tab_files (h : isIdB t.id = true) (h2 : ¬ (t.size < 1 ∨ 4294967296 < t.size)) (hn : eFiles t ≠ 0) : tabErr t = eFiles t := by rw [tab_tail h h2, if_pos hn]
theorem tab_funcs (h : isIdB t.id = true) (h2 : ¬ (t.size < 1 ∨ 4294967296 < t.size)) (z1 : eFiles t = 0) (hn : eFuncs t ≠ 0) : tabErr t = eFuncs t := by rw [tab_tail h h2, if_neg (by simp [z1]), if_pos hn]
theorem tab_rows (h : isIdB t.id = true) (h2 : ¬ (t.size < 1 ∨ 4294967296 < t.size)) (z1 : eFiles t = 0) (z2 : eFuncs t = 0) (hn : eRows t ≠ 0) : tabErr t = eRows t := by rw [tab_tail h h2, if_neg (by simp [z1]), if_neg (by simp [z2]), if_pos hn]
theorem tab_calls (h : isIdB t.id = true) (h2 : ¬ (t.size < 1 ∨ 4294967296 < t.size)) (z1 : eFiles t = 0) (z2 : eFuncs t = 0) (z3 : eRows t = 0) : tabErr t = eCalls t := by rw [tab_tail h h2, if_neg (by simp [z1]), if_neg (by simp [z2]), if_neg (by simp [z3])]
end

set_option maxHeartbeats 4000000 in
set_option maxRecDepth 100000 in
theorem checkTable_any (v : Value) (t : Tb) (w : World) (hv : TbV w v t) :
    Calls Tryd.prog 35 #[v] w fun e w' => e = .returned (.int .i64 (tabErr t)) ∧ Below w.heap.size w w' := by
  obtain ⟨v1, v2, v3, v4, rfl, hid, hsz, ⟨p1, c1, rfl, l1, m1, f1, o1⟩, ⟨p2, c2, rfl, l2, m2, f2, o2⟩, ⟨p3, c3, rfl, l3, m3, f3, o3⟩, ⟨p4, c4, rfl, l4, m4, f4, o4⟩⟩ := id hv
  have i0 : ∀ w : World, (Instr.index 106 (.agg #[.func (.func 62) #[] #[], .func (.func 63) #[] #[], .func (.func 64) #[] #[], .func (.func 65) #[] #[]]) (.int .i64 0)).run Tryd.prog w = .ok (.func (.func 62) #[] #[]) w := fun _ => by kernel_rfl
  have i1 : ∀ w : World, (Instr.index 106 (.agg #[.func (.func 62) #[] #[], .func (.func 63) #[] #[], .func (.func 64) #[] #[], .func (.func 65) #[] #[]]) (.int .i64 1)).run Tryd.prog w = .ok (.func (.func 63) #[] #[]) w := fun _ => by kernel_rfl
  have i2 : ∀ w : World, (Instr.index 106 (.agg #[.func (.func 62) #[] #[], .func (.func 63) #[] #[], .func (.func 64) #[] #[], .func (.func 65) #[] #[]]) (.int .i64 2)).run Tryd.prog w = .ok (.func (.func 64) #[] #[]) w := fun _ => by kernel_rfl
  have i3 : ∀ w : World, (Instr.index 106 (.agg #[.func (.func 62) #[] #[], .func (.func 63) #[] #[], .func (.func 64) #[] #[], .func (.func 65) #[] #[]]) (.int .i64 3)).run Tryd.prog w = .ok (.func (.func 65) #[] #[]) w := fun _ => by kernel_rfl
  have HI := Lib.hid (fun W => isId_any t.id W hid)
  have HTV := Lib.hid hv
  clear hv f1 f2 f3 f4 o1 o2 o3 o4 m1 m2 m3 m4 l1 l2 l3 l4
  cases hi : isIdB t.id
  · rw [hi] at HI
    have HR := Lib.hid (tab_id hi)
    clear hi HTV
    go_enter Tryd.func35, Tryd.ntmps35
    go_wp2_with (go_at_call 61; with_reducible refine (HI.out _).mono ?_; rintro e w1 ⟨rfl, hb1⟩)
    go_ret
    exact ⟨ret_int HR.out.symm, below_a1 (Below.refl _ _) (Nat.le_refl _) hb1⟩
  · rw [hi] at HI
    have HID := Lib.hid hi
    clear hi
    by_cases hs : t.size < 1 ∨ 4294967296 < t.size
    · have HR := Lib.hid (tab_size HID.out hs)
      clear HTV
      go_enter Tryd.func35, Tryd.ntmps35
      go_wp2_with (go_at_call 61; with_reducible refine (HI.out _).mono ?_; rintro e w1 ⟨rfl, hb1⟩; have hbw1 := below_a1 (Below.refl w.heap.size w) (Nat.le_refl _) hb1; have g1 : w1.cell? ⟨w.heap.size, 1, none⟩ = some (.int .i64 t.size) := (hb1.cell (p := ⟨w.heap.size, 1, none⟩) (by simp)).trans (by go_simp))
      all_goals first
        | (go_ret; exact ⟨ret_int HR.out.symm, hbw1⟩)
        | (exfalso; omega)
    · have s1 : decide (t.size < 1) = false := decide_eq_false (by omega)
      have s2 : decide (4294967296 < t.size) = false := decide_eq_false (by omega)
      have HS := Lib.hid hs
      clear hs
      have HF1 := Lib.hid (fun (W : World) (hW : Below w.heap.size w W) => checkFiles_any _ t W (HTV.out.below (Nat.le_refl _) hW))
      have HF2 := Lib.hid (fun (W : World) (hW : Below w.heap.size w W) => checkFuncs_any _ t W (HTV.out.below (Nat.le_refl _) hW))
      have HF3 := Lib.hid (fun (W : World) (hW : Below w.heap.size w W) => checkRows_any _ t W (HTV.out.below (Nat.le_refl _) hW))
      have HF4 := Lib.hid (fun (h : eFuncs t = 0) (W : World) (hW : Below w.heap.size w W) => checkCalls_any _ t W (HTV.out.below (Nat.le_refl _) hW) h)
      clear HTV
      go_enter Tryd.func35, Tryd.ntmps35
      go_wp2_with (go_at_call 61; with_reducible refine (HI.out _).mono ?_; rintro e w1 ⟨rfl, hb1⟩; have hbw1 := below_a1 (Below.refl w.heap.size w) (Nat.le_refl _) hb1; have g0 : w1.cell? ⟨w.heap.size, 0, none⟩ = some (.string t.id) := (hb1.cell (p := ⟨w.heap.size, 0, none⟩) (by simp)).trans (by go_simp); have g1 : w1.cell? ⟨w.heap.size, 1, none⟩ = some (.int .i64 t.size) := (hb1.cell (p := ⟨w.heap.size, 1, none⟩) (by simp)).trans (by go_simp); have g2 : w1.cell? ⟨w.heap.size, 2, none⟩ = some (.slice p1 t.files.length c1) := (hb1.cell (p := ⟨w.heap.size, 2, none⟩) (by simp)).trans (by go_simp); have g3 : w1.cell? ⟨w.heap.size, 3, none⟩ = some (.slice p2 t.funcs.length c2) := (hb1.cell (p := ⟨w.heap.size, 3, none⟩) (by simp)).trans (by go_simp); have g4 : w1.cell? ⟨w.heap.size, 4, none⟩ = some (.slice p3 t.rows.length c3) := (hb1.cell (p := ⟨w.heap.size, 4, none⟩) (by simp)).trans (by go_simp); have g5 : w1.cell? ⟨w.heap.size, 5, none⟩ = some (.slice p4 t.calls.length c4) := (hb1.cell (p := ⟨w.heap.size, 5, none⟩) (by simp)).trans (by go_simp))
      go_loopw [19] (fun v wr => ∃ k : Nat, k ≤ 4 ∧ v = .int .i64 k ∧ (0 < k → eFiles t = 0) ∧ (1 < k → eFuncs t = 0) ∧ (2 < k → eRows t = 0) ∧ (3 < k → eCalls t = 0) ∧ wr.cell? ⟨w.heap.size, 0, none⟩ = some (.string t.id) ∧ wr.cell? ⟨w.heap.size, 1, none⟩ = some (.int .i64 t.size) ∧ wr.cell? ⟨w.heap.size, 2, none⟩ = some (.slice p1 t.files.length c1) ∧ wr.cell? ⟨w.heap.size, 3, none⟩ = some (.slice p2 t.funcs.length c2) ∧ wr.cell? ⟨w.heap.size, 4, none⟩ = some (.slice p3 t.rows.length c3) ∧ wr.cell? ⟨w.heap.size, 5, none⟩ = some (.slice p4 t.calls.length c4) ∧ Below w.heap.size w wr) (fun v _ => 4 - (RowKit.intOf v).toNat)
      case atStart => exact ⟨0, by omega, rfl, by omega, by omega, by omega, by omega, g0, g1, g2, g3, g4, g5, hbw1⟩
      case round =>
        clear g0 g1 g2 g3 g4 g5
        obtain ⟨k, hk, rfl, e1, e2, e3, e4, g0, g1, g2, g3, g4, g5, hbw⟩ := hrel
        obtain rfl | rfl | rfl | rfl | rfl : k = 0 ∨ k = 1 ∨ k = 2 ∨ k = 3 ∨ k = 4 := by omega
        · have HC := Lib.hid (HF1.out)
          by_cases hz : eFiles t = 0
          · rw [hz] at HC
            have Z := Lib.hid hz
            clear hz
            go_wp2_with (go_at_call 62; with_reducible refine (HC.out _ hbw).mono ?_; rintro e' w2 ⟨rfl, hb2⟩)
            exact ⟨⟨1, by omega, rfl, fun _ => Z.out, by omega, by omega, by omega, cell_keep g0 hb2, cell_keep g1 hb2, cell_keep g2 hb2, cell_keep g3 hb2, cell_keep g4 hb2, cell_keep g5 hb2, below_call hbw hbw.size hb2⟩, by simp [RowKit.intOf]⟩
          · have HR := Lib.hid (show tabErr t = eFiles t from tab_files HID.out HS.out hz)
            have hq : (eFiles t != 0) = true := by simpa using hz
            clear hz e1 e2 e3 e4
            generalize eFiles t = E at *
            go_wp2_with (go_at_call 62; with_reducible refine (HC.out _ hbw).mono ?_; rintro e' w2 ⟨rfl, hb2⟩)
            go_ret
            exact ⟨ret_int HR.out.symm, below_call hbw hbw.size hb2⟩
        · have HC := Lib.hid (HF2.out)
          by_cases hz : eFuncs t = 0
          · rw [hz] at HC
            have Z := Lib.hid hz
            clear hz
            go_wp2_with (go_at_call 63; with_reducible refine (HC.out _ hbw).mono ?_; rintro e' w2 ⟨rfl, hb2⟩)
            exact ⟨⟨2, by omega, rfl, fun _ => e1 (by omega), fun _ => Z.out, by omega, by omega, cell_keep g0 hb2, cell_keep g1 hb2, cell_keep g2 hb2, cell_keep g3 hb2, cell_keep g4 hb2, cell_keep g5 hb2, below_call hbw hbw.size hb2⟩, by simp [RowKit.intOf]⟩
          · have HR := Lib.hid (show tabErr t = eFuncs t from tab_funcs HID.out HS.out (e1 (by omega)) hz)
            have hq : (eFuncs t != 0) = true := by simpa using hz
            clear hz e1 e2 e3 e4
            generalize eFuncs t = E at *
            go_wp2_with (go_at_call 63; with_reducible refine (HC.out _ hbw).mono ?_; rintro e' w2 ⟨rfl, hb2⟩)
            go_ret
            exact ⟨ret_int HR.out.symm, below_call hbw hbw.size hb2⟩
        · have HC := Lib.hid (HF3.out)
          by_cases hz : eRows t = 0
          · rw [hz] at HC
            have Z := Lib.hid hz
            clear hz
            go_wp2_with (go_at_call 64; with_reducible refine (HC.out _ hbw).mono ?_; rintro e' w2 ⟨rfl, hb2⟩)
            exact ⟨⟨3, by omega, rfl, fun _ => e1 (by omega), fun _ => e2 (by omega), fun _ => Z.out, by omega, cell_keep g0 hb2, cell_keep g1 hb2, cell_keep g2 hb2, cell_keep g3 hb2, cell_keep g4 hb2, cell_keep g5 hb2, below_call hbw hbw.size hb2⟩, by simp [RowKit.intOf]⟩
          · have HR := Lib.hid (show tabErr t = eRows t from tab_rows HID.out HS.out (e1 (by omega)) (e2 (by omega)) hz)
            have hq : (eRows t != 0) = true := by simpa using hz
            clear hz e1 e2 e3 e4
            generalize eRows t = E at *
            go_wp2_with (go_at_call 64; with_reducible refine (HC.out _ hbw).mono ?_; rintro e' w2 ⟨rfl, hb2⟩)
            go_ret
            exact ⟨ret_int HR.out.symm, below_call hbw hbw.size hb2⟩
        · have HC := Lib.hid (HF4.out (e2 (by omega)))
          by_cases hz : eCalls t = 0
          · rw [hz] at HC
            have Z := Lib.hid hz
            clear hz
            go_wp2_with (go_at_call 65; with_reducible refine (HC.out _ hbw).mono ?_; rintro e' w2 ⟨rfl, hb2⟩)
            exact ⟨⟨4, by omega, rfl, fun _ => e1 (by omega), fun _ => e2 (by omega), fun _ => e3 (by omega), fun _ => Z.out, cell_keep g0 hb2, cell_keep g1 hb2, cell_keep g2 hb2, cell_keep g3 hb2, cell_keep g4 hb2, cell_keep g5 hb2, below_call hbw hbw.size hb2⟩, by simp [RowKit.intOf]⟩
          · have HR := Lib.hid (show tabErr t = eCalls t from tab_calls HID.out HS.out (e1 (by omega)) (e2 (by omega)) (e3 (by omega)))
            have hq : (eCalls t != 0) = true := by simpa using hz
            clear hz e1 e2 e3 e4
            generalize eCalls t = E at *
            go_wp2_with (go_at_call 65; with_reducible refine (HC.out _ hbw).mono ?_; rintro e' w2 ⟨rfl, hb2⟩)
            go_ret
            exact ⟨ret_int HR.out.symm, below_call hbw hbw.size hb2⟩
        · have HR := Lib.hid (show tabErr t = 0 by rw [tab_calls HID.out HS.out (e1 (by omega)) (e2 (by omega)) (e3 (by omega))]; exact e4 (by omega))
          clear e1 e2 e3 e4
          go_wp2_with fail
          go_ret
          exact ⟨ret_int HR.out.symm, hbw⟩
end Go.Proofs.YtcdaalnjanncmaaDoor

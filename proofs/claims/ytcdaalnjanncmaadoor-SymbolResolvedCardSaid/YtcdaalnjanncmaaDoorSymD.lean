/- What the check of the rows of a table answers. -/
import Derived.Test.YtcdaalnjanncmaaDoorSymC
namespace Go.Proofs.YtcdaalnjanncmaaDoor
open Go.RowKit

theorem rowsErr_bad {size nf e : Int} {r : Rw} {l : List Rw} (h : rowBad size nf r) : rowsErr size nf e (r :: l) = 2 := by rw [rowsErr, if_pos h]
theorem rowsErr_odd {size nf e : Int} {r : Rw} {l : List Rw} (h : ¬ rowBad size nf r) (h2 : rowOdd r) : rowsErr size nf e (r :: l) = 1 := by rw [rowsErr, if_neg h, if_pos h2]
theorem rowsErr_order {size nf e : Int} {r : Rw} {l : List Rw} (h : ¬ rowBad size nf r) (h2 : ¬ rowOdd r) (h3 : r.p ≤ e) : rowsErr size nf e (r :: l) = 5 := by rw [rowsErr, if_neg h, if_neg h2, if_pos h3]
theorem rowsErr_next {size nf e : Int} {r : Rw} {l : List Rw} (h : ¬ rowBad size nf r) (h2 : ¬ rowOdd r) (h3 : ¬ r.p ≤ e) : rowsErr size nf e (r :: l) = rowsErr size nf r.p l := by rw [rowsErr, if_neg h, if_neg h2, if_neg h3]

theorem odd_true {p f l : Int} (h : (!(f == -1) == (l == 0)) = true) : rowOdd ⟨p, f, l⟩ := by
  unfold rowOdd
  rcases hb : (f == -1) with _ | _ <;> rcases hc : (l == 0) with _ | _ <;> rw [hb, hc] at h <;> simp only [beq_iff_eq, beq_eq_false_iff_ne] at hb hc <;> first | (simp only; omega) | (simp at h)
theorem odd_false {p f l : Int} (h : (!(f == -1) == (l == 0)) = false) : ¬ rowOdd ⟨p, f, l⟩ := by
  unfold rowOdd
  rcases hb : (f == -1) with _ | _ <;> rcases hc : (l == 0) with _ | _ <;> rw [hb, hc] at h <;> simp only [beq_iff_eq, beq_eq_false_iff_ne] at hb hc <;> first | (simp only; omega) | (simp at h)

set_option maxHeartbeats 4000000 in
set_option maxRecDepth 100000 in
theorem checkRows_some (id : ByteArray) (size : Int) (b off n3 : Nat) (p1 p2 p4 : Option Addr) (n1 n2 n4 c1 c2 c3 c4 : Nat) (l : List Rw) (w : World) (hl : l.length = n3) (hn : n3 ≤ 5000) (hb : b < w.heap.size) (hc : AtG encR 3 w b off l) :
    Calls Tryd.prog 64 #[.agg #[.string id, .int .i64 size, .slice p1 n1 c1, .slice p2 n2 c2, .slice (some ⟨b, off, none⟩) n3 c3, .slice p4 n4 c4]] w fun e w' => e = .returned (.int .i64 (rowsErr size n1 (-1) l)) ∧ Below w.heap.size w w' := by
  have hd : decide (5000 < (n3 : Int)) = false := by simp; omega
  go_enter Tryd.func64, Tryd.ntmps64
  go_wp2_with fail
  go_loopw [3, 13] (fun v3 v wr => ∃ (k : Nat) (e : Int), k ≤ n3 ∧ v3 = .int .i64 e ∧ v = .int .i64 k ∧ rowsErr size n1 (-1) l = rowsErr size n1 e (l.drop k) ∧ wr.cell? ⟨w.heap.size, 1, none⟩ = some (.int .i64 size) ∧ wr.cell? ⟨w.heap.size, 2, none⟩ = some (.slice p1 n1 c1) ∧ Below w.heap.size w wr) (fun _ v _ => n3 - (RowKit.intOf v).toNat)
  case atStart => exact ⟨0, -1, Nat.zero_le _, rfl, rfl, rfl, by go_simp, by go_simp, (Below.refl _ _).alloc (Nat.le_refl _) _⟩
  case round =>
    obtain ⟨k, e, hk, rfl, rfl, heq, hbox, hbox2, hbw⟩ := hrel
    have HEQ := Lib.hid heq
    clear heq
    by_cases hlt : k < n3
    · have hkl : k < l.length := by omega
      have HD := Lib.hid (List.drop_eq_getElem_cons hkl)
      obtain ⟨c0, c1', c2'⟩ := hc.row hkl
      have c0 := (hbw.cell (p := ⟨b, _, none⟩) hb).trans c0
      have c1' := (hbw.cell (p := ⟨b, _, none⟩) hb).trans c1'
      have c2' := (hbw.cell (p := ⟨b, _, none⟩) hb).trans c2'
      generalize l[k] = r at *
      obtain ⟨rp, rf, rl⟩ := r
      simp only at c0 c1' c2'
      have hlt2 := World.block_lt_of_cell? _ _ hbox
      simp only at hlt2
      have g1 : (wr.alloc (.cells #[.int .i64 rp, .int .i64 rf, .int .i64 rl] 93)).cell? ⟨w.heap.size, 1, none⟩ = some (.int .i64 size) := by
        rw [World.cell?_alloc_lt _ _ _ hlt2]; exact hbox
      have g2 : (wr.alloc (.cells #[.int .i64 rp, .int .i64 rf, .int .i64 rl] 93)).cell? ⟨w.heap.size, 2, none⟩ = some (.slice p1 n1 c1) := by
        rw [World.cell?_alloc_lt _ _ _ hlt2]; exact hbox2
      have hbw1 := hbw.alloc hbw.size (.cells #[.int .i64 rp, .int .i64 rf, .int .i64 rl] 93)
      have HH := Lib.hid (fun v (h : rowsErr size n1 e (⟨rp, rf, rl⟩ :: l.drop (k + 1)) = v) => (show rowsErr size n1 (-1) l = v by rw [HEQ.out, HD.out]; exact h))
      have HB := Lib.hid (fun h => rowsErr_bad (size := size) (nf := n1) (e := e) (r := ⟨rp, rf, rl⟩) (l := l.drop (k + 1)) h)
      have HO := Lib.hid (fun h h2 => rowsErr_odd (size := size) (nf := n1) (e := e) (r := ⟨rp, rf, rl⟩) (l := l.drop (k + 1)) h h2)
      have HP := Lib.hid (fun h h2 h3 => rowsErr_order (size := size) (nf := n1) (e := e) (r := ⟨rp, rf, rl⟩) (l := l.drop (k + 1)) h h2 h3)
      have HX := Lib.hid (fun h h2 h3 => rowsErr_next (size := size) (nf := n1) (e := e) (r := ⟨rp, rf, rl⟩) (l := l.drop (k + 1)) h h2 h3)
      go_wp2_with fail
      all_goals first
        | (go_ret; exact ⟨ret_int (HH.out _ (HB.out (by unfold rowBad; simp only; omega))).symm, hbw1⟩)
        | (go_ret; exact ⟨ret_int (HH.out _ (HO.out (by unfold rowBad; simp only; omega) (odd_true (by assumption)))).symm, hbw1⟩)
        | (go_ret; exact ⟨ret_int (HH.out _ (HP.out (by unfold rowBad; simp only; omega) (odd_false (by assumption)) (by assumption))).symm, hbw1⟩)
        | exact ⟨⟨k + 1, rp, by omega, rfl, by go_num, HH.out _ (HX.out (by unfold rowBad; simp only; omega) (odd_false (by assumption)) (by simp only; omega)), g1, g2, hbw1⟩, by simp [RowKit.intOf]; omega⟩
    · have HR := Lib.hid (show rowsErr size n1 (-1) l = 0 by rw [HEQ.out, List.drop_of_length_le (by omega)]; rfl)
      go_wp2_with fail
      go_ret
      exact ⟨ret_int HR.out.symm, hbw⟩
end Go.Proofs.YtcdaalnjanncmaaDoor

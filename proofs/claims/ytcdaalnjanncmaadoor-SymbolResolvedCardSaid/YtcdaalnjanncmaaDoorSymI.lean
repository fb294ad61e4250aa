/- The reference's check of the functions of a table. -/
import Derived.Test.YtcdaalnjanncmaaDoorSymH
namespace Go.Proofs.YtcdaalnjanncmaaDoor
open Go.RowKit

theorem below_drewN {B : Nat} {a w : World} (h : Below B a w) (n : Nat) : Below B a (w.drewN n) := ⟨h.os, h.tape, h.output, h.size, h.block⟩
/-- Where the function before ends. -/
def prevB (l : List Fc) : Nat → Int
  | 0 => 0
  | k + 1 => ((l[k]?).map Fc.b).getD 0

set_option maxHeartbeats 2000000 in
set_option maxRecDepth 100000 in
theorem funcsFault_some (id : ByteArray) (size : Int) (b off n2 : Nat) (p1 p3 p4 : Option Addr) (n1 n3 n4 c1 c2 c3 c4 : Nat) (l : List Fc) (w : World) (hl : l.length = n2) (hn : n2 ≤ 1000) (hs1 : 1 ≤ size) (hs2 : size ≤ 4294967296) (hb : b < w.heap.size) (hc : AtG encF 3 w b off l) (hf : ∀ f ∈ l, fitF f) :
    Calls Tryd.prog 51 #[.agg #[.string id, .int .i64 size, .slice p1 n1 c1, .slice (some ⟨b, off, none⟩) n2 c2, .slice p3 n3 c3, .slice p4 n4 c4]] w fun e w' => e = .returned (.int .i64 (fncsErr size 0 l)) ∧ Below w.heap.size w w' := by
  have hd : decide (1000 < (n2 : Int)) = false := by simp; omega
  go_enter Tryd.func51, Tryd.ntmps51
  go_wp2_with fail
  go_loopw [14] (fun v wr => ∃ k : Nat, k ≤ n2 ∧ v = .int .i64 k ∧ fncsErr size 0 l = fncsErr size (prevB l k) (l.drop k) ∧ wr.cell? ⟨w.heap.size, 1, none⟩ = some (.int .i64 size) ∧ wr.cell? ⟨w.heap.size, 3, none⟩ = some (.slice (some ⟨b, off, none⟩) n2 c2) ∧ Below w.heap.size w wr) (fun v _ => n2 - (RowKit.intOf v).toNat)
  case atStart => exact ⟨0, Nat.zero_le _, rfl, rfl, by go_simp, by go_simp, (Below.refl _ _).alloc (Nat.le_refl _) _⟩
  case round =>
    obtain ⟨k, hk, rfl, heq, hbox, hbox3, hbw⟩ := hrel
    have HEQ := Lib.hid heq
    clear heq
    by_cases hlt : k < n2
    · have hkl : k < l.length := by omega
      have HD := Lib.hid (List.drop_eq_getElem_cons hkl)
      obtain ⟨c0, c1', c2'⟩ := hc.fnc hkl
      have c0 := (hbw.cell (p := ⟨b, _, none⟩) hb).trans c0
      have c1' := (hbw.cell (p := ⟨b, _, none⟩) hb).trans c1'
      have c2' := (hbw.cell (p := ⟨b, _, none⟩) hb).trans c2'
      have hfs := hf _ (List.getElem_mem hkl)
      have HPV := Lib.hid (show prevB l (k + 1) = (l[k]).b by show ((l[k]?).map Fc.b).getD 0 = _; rw [List.getElem?_eq_getElem hkl]; rfl)
      generalize l[k] = f at *
      obtain ⟨s, fa, fb⟩ := f
      simp only at c0 c1' c2'
      have HN := Lib.hid (fun W => nameFault_any s W hfs.1)
      have HS := Lib.hid (fun W => spanFault_any fa fb size W (by omega) (by omega))
      have hlt2 := World.block_lt_of_cell? _ _ hbox
      simp only at hlt2
      have HA := Lib.hid (show (wr.alloc (.cells #[.string s, .int .i64 fa, .int .i64 fb] 50)).cell? ⟨w.heap.size, 1, none⟩ = some (.int .i64 size) by rw [World.cell?_alloc_lt _ _ _ hlt2]; exact hbox)
      have HA3 := Lib.hid (show (wr.alloc (.cells #[.string s, .int .i64 fa, .int .i64 fb] 50)).cell? ⟨w.heap.size, 3, none⟩ = some (.slice (some ⟨b, off, none⟩) n2 c2) by rw [World.cell?_alloc_lt _ _ _ hlt2]; exact hbox3)
      by_cases hz : namErr s = 0
      · rw [hz] at HN
        by_cases hsp : spanOk fa fb size
        · rw [if_pos hsp] at HS
          cases k with
          | zero =>
            have HR := Lib.hid (show fncsErr size 0 l = fncsErr size fb (l.drop 1) by rw [HEQ.out, HD.out]; exact fncsErr_next hz hsp (by unfold spanOk at hsp; show ¬ fa < 0; omega))
            clear hz hsp
            simp only [Nat.zero_mul, Nat.add_zero] at c0 c1' c2'
            go_wp2_with (first
              | (go_at_call 75; refine (HN.out _).mono ?_; rintro e' w1 ⟨rfl, hb1⟩; have hbw1 := below_a1 hbw hbw.size hb1; have g1 := (hb1.cell (p := ⟨w.heap.size, 1, none⟩) (by simp; omega)).trans HA.out; have g3 := (hb1.cell (p := ⟨w.heap.size, 3, none⟩) (by simp; omega)).trans HA3.out; have f1 : w1.cell? ⟨wr.heap.size, 1, none⟩ = some (.int .i64 fa) := (hb1.cell (p := ⟨wr.heap.size, 1, none⟩) (by simp)).trans (by go_simp); have f2 : w1.cell? ⟨wr.heap.size, 2, none⟩ = some (.int .i64 fb) := (hb1.cell (p := ⟨wr.heap.size, 2, none⟩) (by simp)).trans (by go_simp))
              | (go_at_call 76; refine (HS.out _).mono ?_; rintro e' w2 ⟨rfl, rfl⟩))
            go_quiet (fail)
            go_wp2_with fail
            exact ⟨⟨1, by omega, rfl, by rw [HPV.out]; exact HR.out, g1, g3, below_drewN hbw1 _⟩, by simp [RowKit.intOf]; omega⟩
          | succ j =>
            obtain ⟨_, _, qb⟩ := hc.fnc (show j < l.length by omega)
            have HPJ := Lib.hid (show prevB l (j + 1) = (l[j]).b by show ((l[j]?).map Fc.b).getD 0 = _; rw [List.getElem?_eq_getElem (by omega)]; rfl)
            generalize l[j] = g at *
            obtain ⟨_, _, pb⟩ := g
            simp only at qb
            have hjz : (j : Int) < (n2 : Int) := by omega
            have hkp : decide ((0 : Int) < ((j : Int) + 1)) = true := by simp
            by_cases ho : fa < pb
            · have HR := Lib.hid (show fncsErr size 0 l = 5 by rw [HEQ.out, HD.out]; exact fncsErr_order hz hsp (by rw [HPJ.out]; exact ho))
              clear hz hsp
              go_wp2_with (first
                | (go_at_call 75; refine (HN.out _).mono ?_; rintro e' w1 ⟨rfl, hb1⟩; have hbw1 := below_a1 hbw hbw.size hb1; have g1 := (hb1.cell (p := ⟨w.heap.size, 1, none⟩) (by simp; omega)).trans HA.out; have g3 := (hb1.cell (p := ⟨w.heap.size, 3, none⟩) (by simp; omega)).trans HA3.out; have f1 : w1.cell? ⟨wr.heap.size, 1, none⟩ = some (.int .i64 fa) := (hb1.cell (p := ⟨wr.heap.size, 1, none⟩) (by simp)).trans (by go_simp); have f2 : w1.cell? ⟨wr.heap.size, 2, none⟩ = some (.int .i64 fb) := (hb1.cell (p := ⟨wr.heap.size, 2, none⟩) (by simp)).trans (by go_simp); have pv := (hbw1.cell (p := ⟨b, _, none⟩) hb).trans qb)
                | (go_at_call 76; refine (HS.out _).mono ?_; rintro e' w2 ⟨rfl, rfl⟩))
              go_quiet (fail)
              go_wp2_with fail
              go_ret
              exact ⟨ret_int HR.out.symm, below_drewN hbw1 _⟩
            · have HR := Lib.hid (show fncsErr size 0 l = fncsErr size fb (l.drop (j + 1 + 1)) by rw [HEQ.out, HD.out]; exact fncsErr_next hz hsp (by rw [HPJ.out]; exact ho))
              clear hz hsp
              go_wp2_with (first
                | (go_at_call 75; refine (HN.out _).mono ?_; rintro e' w1 ⟨rfl, hb1⟩; have hbw1 := below_a1 hbw hbw.size hb1; have g1 := (hb1.cell (p := ⟨w.heap.size, 1, none⟩) (by simp; omega)).trans HA.out; have g3 := (hb1.cell (p := ⟨w.heap.size, 3, none⟩) (by simp; omega)).trans HA3.out; have f1 : w1.cell? ⟨wr.heap.size, 1, none⟩ = some (.int .i64 fa) := (hb1.cell (p := ⟨wr.heap.size, 1, none⟩) (by simp)).trans (by go_simp); have f2 : w1.cell? ⟨wr.heap.size, 2, none⟩ = some (.int .i64 fb) := (hb1.cell (p := ⟨wr.heap.size, 2, none⟩) (by simp)).trans (by go_simp); have pv := (hbw1.cell (p := ⟨b, _, none⟩) hb).trans qb)
                | (go_at_call 76; refine (HS.out _).mono ?_; rintro e' w2 ⟨rfl, rfl⟩))
              go_quiet (fail)
              go_wp2_with fail
              exact ⟨⟨j + 1 + 1, by omega, by go_num, by rw [HPV.out]; exact HR.out, g1, g3, below_drewN hbw1 _⟩, by simp [RowKit.intOf]; omega⟩
        · rw [if_neg hsp] at HS
          have HR := Lib.hid (show fncsErr size 0 l = 2 by rw [HEQ.out, HD.out]; exact fncsErr_span hz hsp)
          clear hz hsp
          go_wp2_with (first
            | (go_at_call 75; refine (HN.out _).mono ?_; rintro e' w1 ⟨rfl, hb1⟩; have hbw1 := below_a1 hbw hbw.size hb1; have g1 := (hb1.cell (p := ⟨w.heap.size, 1, none⟩) (by simp; omega)).trans HA.out; have g3 := (hb1.cell (p := ⟨w.heap.size, 3, none⟩) (by simp; omega)).trans HA3.out; have f1 : w1.cell? ⟨wr.heap.size, 1, none⟩ = some (.int .i64 fa) := (hb1.cell (p := ⟨wr.heap.size, 1, none⟩) (by simp)).trans (by go_simp); have f2 : w1.cell? ⟨wr.heap.size, 2, none⟩ = some (.int .i64 fb) := (hb1.cell (p := ⟨wr.heap.size, 2, none⟩) (by simp)).trans (by go_simp))
            | (go_at_call 76; refine (HS.out _).mono ?_; rintro e' w2 ⟨rfl, rfl⟩))
          go_ret
          exact ⟨ret_int HR.out.symm, hbw1⟩
      · have hq : (namErr s != 0) = true := by simpa using hz
        have HR := Lib.hid (show fncsErr size 0 l = namErr s by rw [HEQ.out, HD.out]; exact fncsErr_name hz)
        clear hz
        generalize namErr s = E at *
        go_wp2_with (go_at_call 75; refine (HN.out _).mono ?_; rintro e' w1 ⟨rfl, hb1⟩; have hbw1 := below_a1 hbw hbw.size hb1)
        go_ret
        exact ⟨ret_int HR.out.symm, hbw1⟩
    · have HR := Lib.hid (show fncsErr size 0 l = 0 by rw [HEQ.out, List.drop_of_length_le (by omega)]; rfl)
      go_wp2_with fail
      go_ret
      exact ⟨ret_int HR.out.symm, hbw⟩
end Go.Proofs.YtcdaalnjanncmaaDoor

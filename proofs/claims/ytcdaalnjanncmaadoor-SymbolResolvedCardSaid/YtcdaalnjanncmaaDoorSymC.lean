/- What the check of the functions of a table answers. -/
import Derived.Test.YtcdaalnjanncmaaDoorSymB
namespace Go.Proofs.YtcdaalnjanncmaaDoor
open Go.RowKit

theorem fncsErr_name {size e : Int} {f : Fc} {l : List Fc} (h : namErr f.n ≠ 0) : fncsErr size e (f :: l) = namErr f.n := by rw [fncsErr, if_pos h]
theorem fncsErr_span {size e : Int} {f : Fc} {l : List Fc} (h : namErr f.n = 0) (h2 : ¬ spanOk f.a f.b size) : fncsErr size e (f :: l) = 2 := by rw [fncsErr, if_neg (by omega), if_pos h2]
theorem fncsErr_order {size e : Int} {f : Fc} {l : List Fc} (h : namErr f.n = 0) (h2 : spanOk f.a f.b size) (h3 : f.a < e) : fncsErr size e (f :: l) = 5 := by rw [fncsErr, if_neg (by omega), if_neg (by simpa using h2), if_pos h3]
theorem fncsErr_next {size e : Int} {f : Fc} {l : List Fc} (h : namErr f.n = 0) (h2 : spanOk f.a f.b size) (h3 : ¬ f.a < e) : fncsErr size e (f :: l) = fncsErr size f.b l := by rw [fncsErr, if_neg (by omega), if_neg (by simpa using h2), if_neg h3]

set_option maxHeartbeats 2000000 in
set_option maxRecDepth 100000 in
theorem checkFuncs_some (id : ByteArray) (size : Int) (b off n2 : Nat) (p1 p3 p4 : Option Addr) (n1 n3 n4 c1 c2 c3 c4 : Nat) (l : List Fc) (w : World) (hl : l.length = n2) (hn : n2 ≤ 1000) (hb : b < w.heap.size) (hc : AtG encF 3 w b off l) (hf : ∀ f ∈ l, fitF f) :
    Calls Tryd.prog 63 #[.agg #[.string id, .int .i64 size, .slice p1 n1 c1, .slice (some ⟨b, off, none⟩) n2 c2, .slice p3 n3 c3, .slice p4 n4 c4]] w fun e w' => e = .returned (.int .i64 (fncsErr size 0 l)) ∧ Below w.heap.size w w' := by
  have hd : decide (1000 < (n2 : Int)) = false := by simp; omega
  go_enter Tryd.func63, Tryd.ntmps63
  go_wp2_with fail
  go_loopw [3, 14] (fun v3 v wr => ∃ (k : Nat) (e : Int), k ≤ n2 ∧ v3 = .int .i64 e ∧ v = .int .i64 k ∧ fncsErr size 0 l = fncsErr size e (l.drop k) ∧ wr.cell? ⟨w.heap.size, 1, none⟩ = some (.int .i64 size) ∧ Below w.heap.size w wr) (fun _ v _ => n2 - (RowKit.intOf v).toNat)
  case atStart => exact ⟨0, 0, Nat.zero_le _, rfl, rfl, rfl, by go_simp, (Below.refl _ _).alloc (Nat.le_refl _) _⟩
  case round =>
    obtain ⟨k, e, hk, rfl, rfl, heq, hbox, hbw⟩ := hrel
    have HEQ := Lib.hid heq
    clear heq
    by_cases hlt : k < n2
    · have hkl : k < l.length := by omega
      have HD := Lib.hid (List.drop_eq_getElem_cons hkl)
      obtain ⟨c0, c1', c2'⟩ := hc.fnc hkl
      have c0 := (hbw.cell (p := ⟨b, _, none⟩) hb).trans c0
      have c1' := (hbw.cell (p := ⟨b, _, none⟩) hb).trans c1'
      have c2' := (hbw.cell (p := ⟨b, _, none⟩) hb).trans c2'
      have hfs := hf _ (List.getElem_mem hkl)
      generalize l[k] = f at *
      obtain ⟨s, fa, fb⟩ := f
      simp only at c0 c1' c2'
      have HN := Lib.hid (fun W => checkFuncName_any s W hfs.1)
      have hlt2 := World.block_lt_of_cell? _ _ hbox
      simp only at hlt2
      have hA : (wr.alloc (.cells #[.string s, .int .i64 fa, .int .i64 fb] 50)).cell? ⟨w.heap.size, 1, none⟩ = some (.int .i64 size) := by
        rw [World.cell?_alloc_lt _ _ _ hlt2]; exact hbox
      have HA := Lib.hid hA
      clear hA
      by_cases hz : namErr s = 0
      · rw [hz] at HN
        have HS := Lib.hid (fun W => isSpan_any fa fb size W)
        by_cases hsp : spanOk fa fb size
        · rw [decide_eq_true hsp] at HS
          by_cases ho : fa < e
          · have HR := Lib.hid (show fncsErr size 0 l = 5 by rw [HEQ.out, HD.out]; exact fncsErr_order hz hsp ho)
            clear hz hsp
            go_wp2_with (first
              | (go_at_call 86; refine (HN.out _).mono ?_; rintro e' w1 ⟨rfl, hb1⟩; have hbw1 := below_a1 hbw hbw.size hb1; have g1 := (hb1.cell (p := ⟨w.heap.size, 1, none⟩) (by simp; omega)).trans HA.out; have f1 : w1.cell? ⟨wr.heap.size, 1, none⟩ = some (.int .i64 fa) := (hb1.cell (p := ⟨wr.heap.size, 1, none⟩) (by simp)).trans (by go_simp); have f2 : w1.cell? ⟨wr.heap.size, 2, none⟩ = some (.int .i64 fb) := (hb1.cell (p := ⟨wr.heap.size, 2, none⟩) (by simp)).trans (by go_simp))
              | (go_at_call 83; refine (HS.out _).mono ?_; rintro e' w2 ⟨rfl, rfl⟩))
            go_ret
            exact ⟨ret_int HR.out.symm, hbw1⟩
          · have HR := Lib.hid (show fncsErr size 0 l = fncsErr size fb (l.drop (k + 1)) by rw [HEQ.out, HD.out]; exact fncsErr_next hz hsp ho)
            clear hz hsp
            go_wp2_with (first
              | (go_at_call 86; refine (HN.out _).mono ?_; rintro e' w1 ⟨rfl, hb1⟩; have hbw1 := below_a1 hbw hbw.size hb1; have g1 := (hb1.cell (p := ⟨w.heap.size, 1, none⟩) (by simp; omega)).trans HA.out; have f1 : w1.cell? ⟨wr.heap.size, 1, none⟩ = some (.int .i64 fa) := (hb1.cell (p := ⟨wr.heap.size, 1, none⟩) (by simp)).trans (by go_simp); have f2 : w1.cell? ⟨wr.heap.size, 2, none⟩ = some (.int .i64 fb) := (hb1.cell (p := ⟨wr.heap.size, 2, none⟩) (by simp)).trans (by go_simp))
              | (go_at_call 83; refine (HS.out _).mono ?_; rintro e' w2 ⟨rfl, rfl⟩))
            exact ⟨⟨k + 1, fb, by omega, rfl, by go_num, HR.out, g1, hbw1⟩, by simp [RowKit.intOf]; omega⟩
        · rw [decide_eq_false hsp] at HS
          have HR := Lib.hid (show fncsErr size 0 l = 2 by rw [HEQ.out, HD.out]; exact fncsErr_span hz hsp)
          clear hz hsp
          go_wp2_with (first
            | (go_at_call 86; refine (HN.out _).mono ?_; rintro e' w1 ⟨rfl, hb1⟩; have hbw1 := below_a1 hbw hbw.size hb1; have g1 := (hb1.cell (p := ⟨w.heap.size, 1, none⟩) (by simp; omega)).trans HA.out; have f1 : w1.cell? ⟨wr.heap.size, 1, none⟩ = some (.int .i64 fa) := (hb1.cell (p := ⟨wr.heap.size, 1, none⟩) (by simp)).trans (by go_simp); have f2 : w1.cell? ⟨wr.heap.size, 2, none⟩ = some (.int .i64 fb) := (hb1.cell (p := ⟨wr.heap.size, 2, none⟩) (by simp)).trans (by go_simp))
            | (go_at_call 83; refine (HS.out _).mono ?_; rintro e' w2 ⟨rfl, rfl⟩))
          go_ret
          exact ⟨ret_int HR.out.symm, hbw1⟩
      · have hq : (namErr s != 0) = true := by simpa using hz
        have HR := Lib.hid (show fncsErr size 0 l = namErr s by rw [HEQ.out, HD.out]; exact fncsErr_name hz)
        clear hz
        generalize namErr s = E at *
        go_wp2_with (go_at_call 86; refine (HN.out _).mono ?_; rintro e' w1 ⟨rfl, hb1⟩; have hbw1 := below_a1 hbw hbw.size hb1)
        go_ret
        exact ⟨ret_int HR.out.symm, hbw1⟩
    · have HR := Lib.hid (show fncsErr size 0 l = 0 by rw [HEQ.out, List.drop_of_length_le (by omega)]; rfl)
      go_wp2_with fail
      go_ret
      exact ⟨ret_int HR.out.symm, hbw⟩
end Go.Proofs.YtcdaalnjanncmaaDoor

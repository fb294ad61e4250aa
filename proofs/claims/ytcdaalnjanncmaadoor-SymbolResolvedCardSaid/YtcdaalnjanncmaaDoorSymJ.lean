/- The reference's check of the rows of a table. -/
import Derived.Test.YtcdaalnjanncmaaDoorSymI
import Derived.BigQuiet
namespace Go.Proofs.YtcdaalnjanncmaaDoor
open Go.RowKit

/-- What the reference's out answers. -/
def outB (n a b : Int) : Bool := decide (n < a) || decide (b < n)
theorem outB_iff {n a b : Int} {q : Bool} (h : outB n a b = q) : (q = true ∧ (n < a ∨ b < n)) ∨ (q = false ∧ ¬ (n < a ∨ b < n)) := by
  subst h
  by_cases h : n < a ∨ b < n
  · exact .inl ⟨by unfold outB; simpa using h, h⟩
  · exact .inr ⟨by unfold outB; simpa using h, h⟩
theorem outB_any (n a b : Int) (w : World) : Calls Tryd.prog 48 #[.int .i64 n, .int .i64 a, .int .i64 b] w fun e w' => e = .returned (.bool (outB n a b)) ∧ w' = w := outR_any n a b w

set_option maxHeartbeats 4000000 in
set_option maxRecDepth 100000 in
theorem rowsFault_some (id : ByteArray) (size : Int) (b off n3 : Nat) (p1 p2 p4 : Option Addr) (n1 n2 n4 c1 c2 c3 c4 : Nat) (l : List Rw) (w : World) (hl : l.length = n3) (hn : n3 ≤ 5000) (hs1 : 1 ≤ size) (hs2 : size ≤ 4294967296) (hn1 : n1 ≤ 200) (hb : b < w.heap.size) (hc : AtG encR 3 w b off l) :
    Calls Tryd.prog 52 #[.agg #[.string id, .int .i64 size, .slice p1 n1 c1, .slice p2 n2 c2, .slice (some ⟨b, off, none⟩) n3 c3, .slice p4 n4 c4]] w fun e w' => e = .returned (.int .i64 (rowsErr size n1 (-1) l)) ∧ Below w.heap.size w w' := by
  have hd : decide (5000 < (n3 : Int)) = false := decide_eq_false (by omega)
  have hws : IntKind.i64.wrap (size - 1) = size - 1 := IntWalk.i64_in _ ⟨by omega, by omega⟩
  have hwn : IntKind.i64.wrap ((n1 : Int) - 1) = (n1 : Int) - 1 := IntWalk.i64_in _ ⟨by omega, by omega⟩
  clear hs1 hs2 hn1
  go_enter Tryd.func52, Tryd.ntmps52
  go_wp2_with fail
  go_loopw [12] (fun v wr => ∃ (k : Nat) (e : Int), k ≤ n3 ∧ v = .int .i64 k ∧ (k = 0 ∧ e = -1 ∨ ∃ (j : Nat) (r : Rw), k = j + 1 ∧ l[j]? = some r ∧ e = r.p) ∧ rowsErr size n1 (-1) l = rowsErr size n1 e (l.drop k) ∧ wr.cell? ⟨w.heap.size, 1, none⟩ = some (.int .i64 size) ∧ wr.cell? ⟨w.heap.size, 2, none⟩ = some (.slice p1 n1 c1) ∧ wr.cell? ⟨w.heap.size, 4, none⟩ = some (.slice (some ⟨b, off, none⟩) n3 c3) ∧ Below w.heap.size w wr) (fun v _ => n3 - (RowKit.intOf v).toNat)
  case atStart => exact ⟨0, -1, Nat.zero_le _, rfl, .inl ⟨rfl, rfl⟩, rfl, by go_simp, by go_simp, by go_simp, (Below.refl _ _).alloc (Nat.le_refl _) _⟩
  case round =>
    obtain ⟨k, e, hk, rfl, hprev, heq, hbox, hbox2, hbox4, hbw⟩ := hrel
    have HEQ := Lib.hid heq
    clear heq
    by_cases hlt : k < n3
    · have hkl : k < l.length := by omega
      have HD := Lib.hid (List.drop_eq_getElem_cons hkl)
      have HGK := Lib.hid (List.getElem?_eq_getElem hkl)
      obtain ⟨c0, c1', c2'⟩ := hc.row hkl
      have c0 := (hbw.cell (p := ⟨b, _, none⟩) hb).trans c0
      have c1' := (hbw.cell (p := ⟨b, _, none⟩) hb).trans c1'
      have c2' := (hbw.cell (p := ⟨b, _, none⟩) hb).trans c2'
      generalize l[k] = r at *
      obtain ⟨rp, rf, rl⟩ := r
      simp only at c0 c1' c2'
      have hlt2 := World.block_lt_of_cell? _ _ hbox
      simp only at hlt2
      have g1 : (wr.alloc (.cells #[.int .i64 rp, .int .i64 rf, .int .i64 rl] 93)).cell? ⟨w.heap.size, 1, none⟩ = some (.int .i64 size) := by
        rw [World.cell?_alloc_lt _ _ _ hlt2]; exact hbox
      have g2 : (wr.alloc (.cells #[.int .i64 rp, .int .i64 rf, .int .i64 rl] 93)).cell? ⟨w.heap.size, 2, none⟩ = some (.slice p1 n1 c1) := by
        rw [World.cell?_alloc_lt _ _ _ hlt2]; exact hbox2
      have g4 : (wr.alloc (.cells #[.int .i64 rp, .int .i64 rf, .int .i64 rl] 93)).cell? ⟨w.heap.size, 4, none⟩ = some (.slice (some ⟨b, off, none⟩) n3 c3) := by
        rw [World.cell?_alloc_lt _ _ _ hlt2]; exact hbox4
      have hbw1 := hbw.alloc hbw.size (.cells #[.int .i64 rp, .int .i64 rf, .int .i64 rl] 93)
      have HH := Lib.hid (fun v (h : rowsErr size n1 e (⟨rp, rf, rl⟩ :: l.drop (k + 1)) = v) => (show rowsErr size n1 (-1) l = v by rw [HEQ.out, HD.out]; exact h))
      have HB := Lib.hid (fun h => rowsErr_bad (size := size) (nf := n1) (e := e) (r := ⟨rp, rf, rl⟩) (l := l.drop (k + 1)) h)
      have HO := Lib.hid (fun h h2 => rowsErr_odd (size := size) (nf := n1) (e := e) (r := ⟨rp, rf, rl⟩) (l := l.drop (k + 1)) h h2)
      have HP := Lib.hid (fun h h2 h3 => rowsErr_order (size := size) (nf := n1) (e := e) (r := ⟨rp, rf, rl⟩) (l := l.drop (k + 1)) h h2 h3)
      have HX := Lib.hid (fun h h2 h3 => rowsErr_next (size := size) (nf := n1) (e := e) (r := ⟨rp, rf, rl⟩) (l := l.drop (k + 1)) h h2 h3)
      clear HEQ HD
      have H1 := Lib.hid (fun W => outB_any rp 0 (size - 1) W)
      have H2 := Lib.hid (fun W => outB_any rf (-1) ((n1 : Int) - 1) W)
      have H3 := Lib.hid (fun W => outB_any rl 0 9999999 W)
      obtain ⟨q1, hq1⟩ : ∃ q, outB rp 0 (size - 1) = q := ⟨_, rfl⟩
      obtain ⟨q2, hq2⟩ : ∃ q, outB rf (-1) ((n1 : Int) - 1) = q := ⟨_, rfl⟩
      obtain ⟨q3, hq3⟩ : ∃ q, outB rl 0 9999999 = q := ⟨_, rfl⟩
      rw [hq1] at H1
      rw [hq2] at H2
      rw [hq3] at H3
      rcases outB_iff hq1 with ⟨rfl, b1⟩ | ⟨rfl, b1⟩
      · have HR := Lib.hid (HH.out _ (HB.out (by unfold rowBad; simp only; omega)))
        clear b1 hq1 hq2 hq3 HB HO HP HX HH hprev hbox hbox2 hbox4
        go_wp2_with (first
          | (go_at_call 48; with_reducible refine (H1.out _).mono ?_; rintro e' w2 ⟨rfl, rfl⟩))
        go_ret
        exact ⟨ret_int HR.out.symm, hbw1⟩
      rcases outB_iff hq2 with ⟨rfl, b2⟩ | ⟨rfl, b2⟩
      · have HR := Lib.hid (HH.out _ (HB.out (by unfold rowBad; simp only; omega)))
        clear b1 b2 hq1 hq2 hq3 HB HO HP HX HH hprev hbox hbox2 hbox4
        go_wp2_with (first
          | (go_at_call 48; with_reducible refine (H1.out _).mono ?_; rintro e' w2 ⟨rfl, rfl⟩)
          | (go_at_call 48; with_reducible refine (H2.out _).mono ?_; rintro e' w2 ⟨rfl, rfl⟩))
        go_ret
        exact ⟨ret_int HR.out.symm, hbw1⟩
      rcases outB_iff hq3 with ⟨rfl, b3⟩ | ⟨rfl, b3⟩
      · have HR := Lib.hid (HH.out _ (HB.out (by unfold rowBad; simp only; omega)))
        clear b1 b2 b3 hq1 hq2 hq3 HB HO HP HX HH hprev hbox hbox2 hbox4
        go_wp2_with (first
          | (go_at_call 48; with_reducible refine (H1.out _).mono ?_; rintro e' w2 ⟨rfl, rfl⟩)
          | (go_at_call 48; with_reducible refine (H2.out _).mono ?_; rintro e' w2 ⟨rfl, rfl⟩)
          | (go_at_call 48; with_reducible refine (H3.out _).mono ?_; rintro e' w2 ⟨rfl, rfl⟩))
        go_ret
        exact ⟨ret_int HR.out.symm, hbw1⟩
      have hnb : ¬ rowBad size n1 ⟨rp, rf, rl⟩ := by unfold rowBad; simp only; omega
      have HO := Lib.hid (fun h2 => HH.out _ (HO.out hnb h2))
      have HP := Lib.hid (fun h2 h3 => HH.out _ (HP.out hnb h2 h3))
      have HX := Lib.hid (fun h2 h3 => HH.out _ (HX.out hnb h2 h3))
      have hrp : 0 ≤ rp := by omega
      clear b1 b2 b3 hq1 hq2 hq3 HB HH hnb
      rcases hprev with ⟨hk0, he0⟩ | ⟨j, y, hj, hy, he1⟩
      · have hd0 : decide ((0 : Int) < (k : Int)) = false := decide_eq_false (by omega)
        have hd1 : decide (0 < k) = false := decide_eq_false (by omega)
        have hre : ¬ rp ≤ e := by omega
        have HX0 := Lib.hid (fun h2 => HX.out h2 hre)
        clear hre HX
        have HPV := Lib.hid (show (k + 1 = 0 ∧ rp = -1 ∨ ∃ (j : Nat) (r : Rw), k + 1 = j + 1 ∧ l[j]? = some r ∧ rp = r.p) from .inr ⟨k, _, rfl, HGK.out, rfl⟩)
        clear hk0 he0 HP hrp hbox hbox2 hbox4
        go_wp2_with (first
          | (go_at_call 48; with_reducible refine (H1.out _).mono ?_; rintro e' w2 ⟨rfl, rfl⟩)
          | (go_at_call 48; with_reducible refine (H2.out _).mono ?_; rintro e' w2 ⟨rfl, rfl⟩)
          | (go_at_call 48; with_reducible refine (H3.out _).mono ?_; rintro e' w2 ⟨rfl, rfl⟩))
        · go_ret; exact ⟨ret_int (HO.out (odd_true (by assumption))).symm, hbw1⟩
        · have HN := Lib.hid (HX0.out (odd_false (by assumption)))
          go_quiet (fail)
          go_wp2_with fail
          exact ⟨⟨k + 1, rp, by omega, by go_num, HPV.out, HN.out, g1, g2, g4, below_drewN hbw1 _⟩, by simp [RowKit.intOf]; omega⟩
      · have hd0 : decide ((0 : Int) < (k : Int)) = true := decide_eq_true (by omega)
        have hd1 : decide (0 < k) = true := decide_eq_true (by omega)
        have hjl : j < l.length := by omega
        have pv := (hc.row hjl).1
        rw [show l[j] = y from Option.some.inj ((List.getElem?_eq_getElem hjl).symm.trans hy)] at pv
        have pv := (hbw1.cell (p := ⟨b, _, none⟩) hb).trans pv
        have hji : (k : Int) - 1 = (j : Int) := by omega
        have hjn : (j : Int) < (n3 : Int) := by omega
        have HPV := Lib.hid (show (k + 1 = 0 ∧ rp = -1 ∨ ∃ (j : Nat) (r : Rw), k + 1 = j + 1 ∧ l[j]? = some r ∧ rp = r.p) from .inr ⟨k, _, rfl, HGK.out, rfl⟩)
        obtain ⟨yp, yf, yl⟩ := y
        simp only at he1 pv
        subst he1
        clear hj hy hjl
        by_cases ho : rp ≤ e
        · have hdo : decide (rp ≤ e) = true := decide_eq_true ho
          have HP0 := Lib.hid (fun h2 => HP.out h2 ho)
          clear ho HP HX hrp hbox hbox2 hbox4
          go_wp2_with (first
            | (go_at_call 48; with_reducible refine (H1.out _).mono ?_; rintro e' w2 ⟨rfl, rfl⟩)
            | (go_at_call 48; with_reducible refine (H2.out _).mono ?_; rintro e' w2 ⟨rfl, rfl⟩)
            | (go_at_call 48; with_reducible refine (H3.out _).mono ?_; rintro e' w2 ⟨rfl, rfl⟩))
          · go_ret; exact ⟨ret_int (HO.out (odd_true (by assumption))).symm, hbw1⟩
          · have HN := Lib.hid (HP0.out (odd_false (by assumption)))
            go_quiet (fail)
            go_wp2_with fail
            go_ret
            exact ⟨ret_int HN.out.symm, below_drewN hbw1 _⟩
        · have hdo : decide (rp ≤ e) = false := decide_eq_false ho
          have HX0 := Lib.hid (fun h2 => HX.out h2 ho)
          clear ho HX HP hrp hbox hbox2 hbox4
          go_wp2_with (first
            | (go_at_call 48; with_reducible refine (H1.out _).mono ?_; rintro e' w2 ⟨rfl, rfl⟩)
            | (go_at_call 48; with_reducible refine (H2.out _).mono ?_; rintro e' w2 ⟨rfl, rfl⟩)
            | (go_at_call 48; with_reducible refine (H3.out _).mono ?_; rintro e' w2 ⟨rfl, rfl⟩))
          · go_ret; exact ⟨ret_int (HO.out (odd_true (by assumption))).symm, hbw1⟩
          · have HN := Lib.hid (HX0.out (odd_false (by assumption)))
            go_quiet (fail)
            go_wp2_with fail
            exact ⟨⟨k + 1, rp, by omega, by go_num, HPV.out, HN.out, g1, g2, g4, below_drewN hbw1 _⟩, by simp [RowKit.intOf]; omega⟩
    · have HR := Lib.hid (show rowsErr size n1 (-1) l = 0 by rw [HEQ.out, List.drop_of_length_le (by omega)]; rfl)
      go_wp2_with fail
      go_ret
      exact ⟨ret_int HR.out.symm, hbw⟩
end Go.Proofs.YtcdaalnjanncmaaDoor

/- The program's check of the calls of a table. -/
import Derived.Test.YtcdaalnjanncmaaDoorSymL
import Derived.Deep.RegionHeld3
import Derived.BigQuiet
namespace Go.Proofs.YtcdaalnjanncmaaDoor
open Go.RowKit Go.Deep

theorem below_keepB {B : Nat} {a W W' : World} (h : Below B a W) (hB : B ≤ W.heap.size) (hb : Below W.heap.size W W') : Below B a W' := h.trans (hb.mono hB)
theorem cells5_new (w : World) (x : Cl) (t : TypeId) : ∀ j u, [Value.string x.n, .int .i64 x.a, .int .i64 x.b, .int .i64 x.f, .int .i64 x.l][j]? = some u → (w.alloc (.cells #[.string x.n, .int .i64 x.a, .int .i64 x.b, .int .i64 x.f, .int .i64 x.l] t)).cell? ((⟨w.heap.size, 0, none⟩ : Addr).add j) = some u := by
  intro j u hj
  match j, hj with
  | 0, hj => simp at hj; subst hj; simp [Addr.add]
  | 1, hj => simp at hj; subst hj; simp [Addr.add]
  | 2, hj => simp at hj; subst hj; simp [Addr.add]
  | 3, hj => simp at hj; subst hj; simp [Addr.add]
  | 4, hj => simp at hj; subst hj; simp [Addr.add]
theorem cells5_one (x : Cl) : ∀ u ∈ [Value.string x.n, .int .i64 x.a, .int .i64 x.b, .int .i64 x.f, .int .i64 x.l], u.oneCell' = true := by
  intro u hx
  simp only [List.mem_cons, List.not_mem_nil, or_false] at hx
  rcases hx with rfl | rfl | rfl | rfl | rfl <;> rfl
theorem drew_out {w w' : World} (h : Below w.drew.heap.size w.drew w') : Below w.heap.size w w' := (Below.refl _ w).drew.trans h
theorem ne_block {v : Value} {B : Nat} (h : ∀ q, v.ownBlock = some q → B + 1 ≤ q) : v.ownBlock ≠ some B := fun he => by have := h B he; omega
theorem inFB_within {fs : List Fc} {c : Cl} (h : fs.Pairwise (fun f g => f.b ≤ g.a)) (hc : c.a < c.b) : inFB fs c = true ↔ within fs c := by rw [inFB_iff, within_iff h hc]
theorem Tryd.info55 : (Tryd.prog.info? 84).map (fun i => (i.zero, i.size, i.bytes)) = some (some (.agg #[.string ⟨#[]⟩, .int .i64 0, .int .i64 0, .int .i64 0, .int .i64 0]), 5, 48) := by kernel_rfl

set_option maxHeartbeats 8000000 in
set_option maxRecDepth 100000 in
theorem checkCalls_some (id : ByteArray) (size : Int) (b off n4 : Nat) (p1 p2 p3 : Option Addr) (n1 n2 n3 c1 c2 c3 c4 : Nat) (fs : List Fc) (l : List Cl) (w : World) (hl : l.length = n4) (hn : n4 ≤ 1000) (hpw : fs.Pairwise (fun f g => f.b ≤ g.a)) (hb : b < w.heap.size) (hc : AtG encC 5 w b off l) (hf : ∀ f ∈ l, fitC f)
    (hin : ∀ (W : World) (c : Cl), Below w.heap.size w W → Calls Tryd.prog 90 #[.agg #[.string id, .int .i64 size, .slice p1 n1 c1, .slice p2 n2 c2, .slice p3 n3 c3, .slice (some ⟨b, off, none⟩) n4 c4], .agg #[.string c.n, .int .i64 c.a, .int .i64 c.b, .int .i64 c.f, .int .i64 c.l]] W fun e w' => e = .returned (.bool (inFB fs c)) ∧ Below W.heap.size W w') :
    Calls Tryd.prog 65 #[.agg #[.string id, .int .i64 size, .slice p1 n1 c1, .slice p2 n2 c2, .slice p3 n3 c3, .slice (some ⟨b, off, none⟩) n4 c4]] w fun e w' => e = .returned (.int .i64 (calsErr size n1 fs [] l)) ∧ Below w.heap.size w w' := by
  have hd : decide (1000 < (n4 : Int)) = false := decide_eq_false (by omega)
  have HIN := Lib.hid hin
  have HPW := Lib.hid hpw
  have HFT := Lib.hid hf
  clear hin hpw hf
  go_enter Tryd.func65, Tryd.ntmps65
  go_wp2_with fail
  go_loopw [3, 14] (fun v3 v wr => ∃ (k : Nat) (va : Value), k ≤ n4 ∧ va = v3 ∧ v = .int .i64 k ∧ calsErr size n1 fs [] l = calsErr size n1 fs (l.take k) (l.drop k) ∧ nests (l.take k) ∧ wr.ownsRow (w.heap.size + 1) 84 5 va (aroundOf (l.take k)).length (cellsG encC (aroundOf (l.take k))) ∧ wr.cell? ⟨w.heap.size, 0, none⟩ = some (.string id) ∧ wr.cell? ⟨w.heap.size, 1, none⟩ = some (.int .i64 size) ∧ wr.cell? ⟨w.heap.size, 2, none⟩ = some (.slice p1 n1 c1) ∧ wr.cell? ⟨w.heap.size, 3, none⟩ = some (.slice p2 n2 c2) ∧ wr.cell? ⟨w.heap.size, 4, none⟩ = some (.slice p3 n3 c3) ∧ wr.cell? ⟨w.heap.size, 5, none⟩ = some (.slice (some ⟨b, off, none⟩) n4 c4) ∧ Below w.heap.size w wr) (fun _ v _ => n4 - (RowKit.intOf v).toNat)
  case atStart => exact ⟨0, _, Nat.zero_le _, rfl, rfl, by simp, List.Pairwise.nil, ⟨rfl, .inl ⟨rfl, rfl⟩⟩, by go_simp, by go_simp, by go_simp, by go_simp, by go_simp, by go_simp, (Below.refl _ _).alloc (Nat.le_refl _) _⟩
  case round =>
    obtain ⟨k, va, hk, rfl, rfl, heq, hnest, hown, b0, b1, b2, b3, b4, b5, hbw⟩ := hrel
    have HEQ := Lib.hid heq
    clear heq
    by_cases hlt : k < n4
    · have hkl : k < l.length := by omega
      have HD := Lib.hid (List.drop_eq_getElem_cons hkl)
      have HT := Lib.hid (List.take_succ_eq_append_getElem hkl)
      obtain ⟨k0, k1, k2, k3, k4⟩ := hc.cal hkl
      have k0 := (hbw.cell (p := ⟨b, _, none⟩) hb).trans k0
      have k1 := (hbw.cell (p := ⟨b, _, none⟩) hb).trans k1
      have k2 := (hbw.cell (p := ⟨b, _, none⟩) hb).trans k2
      have k3 := (hbw.cell (p := ⟨b, _, none⟩) hb).trans k3
      have k4 := (hbw.cell (p := ⟨b, _, none⟩) hb).trans k4
      have hfs := HFT.out _ (List.getElem_mem hkl)
      have HGK := Lib.hid (List.getElem?_eq_getElem hkl)
      generalize l[k] = c at *
      have HPL := Lib.hid (show (l.take k).length = k by rw [List.length_take]; omega)
      have HH := Lib.hid (fun v (h : calsErr size n1 fs (l.take k) (c :: l.drop (k + 1)) = v) => (show calsErr size n1 fs [] l = v by rw [HEQ.out, HD.out]; exact h))
      have HNEST := Lib.hid hnest
      clear HEQ HD hnest
      have hlt2 := World.block_lt_of_cell? _ _ b0
      simp only at hlt2
      have HIN := Lib.hid (fun W => HIN.out W c)
      have HL := Lib.hid (Nat.le_trans (around_len (pre := l.take k)) (Nat.le_of_eq HPL.out))
      have HDIS := Lib.hid (fun (j : Nat) (d : Cl) (h : l[j]? = some d) (hj : k = j + 1) => (show disord (l.take k) c ↔ begB c d = true by rw [hj]; exact disord_take h))
      have HDIS0 := Lib.hid (fun (hj : k = 0) => (show ¬ disord (l.take k) c by rw [hj]; exact disord_nil))
      generalize hpre : l.take k = pre at *
      have HPRE := Lib.hid hpre
      clear hpre
      have HN := Lib.hid (fun W => checkFuncName_any c.n W hfs.1)
      have HS := Lib.hid (fun W => isSpan_any c.a c.b size W)
      have HBAD := Lib.hid (show (callBad size n1 c ↔ ¬ spanOk c.a c.b size ∨ c.f < 0 ∨ (n1 : Int) ≤ c.f ∨ c.l < 1 ∨ 9999999 < c.l) from Iff.rfl)
      have HE1 := Lib.hid (fun h => HH.out _ ((calsErr_err (size := size) (nf := n1) (fs := fs) (pre := pre) (c := c) (l := l.drop (k + 1)) h)))
      have HE0 := Lib.hid (fun h => HH.out _ ((calsErr_next (size := size) (nf := n1) (fs := fs) (pre := pre) (c := c) (l := l.drop (k + 1)) h)))
      clear HH
      have hA : Below w.heap.size w (wr.alloc (.cells #[.string c.n, .int .i64 c.a, .int .i64 c.b, .int .i64 c.f, .int .i64 c.l] 84)) := hbw.alloc hbw.size _
      have hoA : (wr.alloc (.cells #[.string c.n, .int .i64 c.a, .int .i64 c.b, .int .i64 c.f, .int .i64 c.l] 84)).ownsRow (w.heap.size + 1) 84 5 va (aroundOf pre).length (cellsG encC (aroundOf pre)) := hown.alloc _
      by_cases hz : namErr c.n = 0
      · have HN1 := HN
        rw [hz] at HN1
        clear HN
        by_cases hsp : spanOk c.a c.b size
        · rw [decide_eq_true hsp] at HS
          by_cases hq : c.f < 0 ∨ (n1 : Int) ≤ c.f ∨ c.l < 1 ∨ 9999999 < c.l
          · have HR := Lib.hid (show calsErr size n1 fs [] l = 2 by rw [HE1.out (by rw [callErr_bad hz (HBAD.out.2 (.inr hq))]; omega), callErr_bad hz (HBAD.out.2 (.inr hq))])
            clear hz hsp HBAD HE1 HE0 HIN HDIS HDIS0
            obtain ⟨cn, ca, cb, cf, cl⟩ := c
            simp only at *
            go_wp2_with (first | (go_at_call 86; refine (HN1.out _).mono ?_; rintro e' w1 ⟨rfl, hb1⟩; have hbw1 := below_a1 hbw hbw.size hb1; have g0 : w1.cell? ⟨w.heap.size, 0, none⟩ = some (.string id) := (hb1.cell (p := ⟨w.heap.size, 0, none⟩) (by simp; omega)).trans ((World.cell?_alloc_lt _ _ _ hlt2).trans b0); have g1 : w1.cell? ⟨w.heap.size, 1, none⟩ = some (.int .i64 size) := (hb1.cell (p := ⟨w.heap.size, 1, none⟩) (by simp; omega)).trans ((World.cell?_alloc_lt _ _ _ hlt2).trans b1); have g2 : w1.cell? ⟨w.heap.size, 2, none⟩ = some (.slice p1 n1 c1) := (hb1.cell (p := ⟨w.heap.size, 2, none⟩) (by simp; omega)).trans ((World.cell?_alloc_lt _ _ _ hlt2).trans b2); have g3 : w1.cell? ⟨w.heap.size, 3, none⟩ = some (.slice p2 n2 c2) := (hb1.cell (p := ⟨w.heap.size, 3, none⟩) (by simp; omega)).trans ((World.cell?_alloc_lt _ _ _ hlt2).trans b3); have g4 : w1.cell? ⟨w.heap.size, 4, none⟩ = some (.slice p3 n3 c3) := (hb1.cell (p := ⟨w.heap.size, 4, none⟩) (by simp; omega)).trans ((World.cell?_alloc_lt _ _ _ hlt2).trans b4); have g5 : w1.cell? ⟨w.heap.size, 5, none⟩ = some (.slice (some ⟨b, off, none⟩) n4 c4) := (hb1.cell (p := ⟨w.heap.size, 5, none⟩) (by simp; omega)).trans ((World.cell?_alloc_lt _ _ _ hlt2).trans b5); have f0 : w1.cell? ⟨wr.heap.size, 0, none⟩ = some (.string cn) := (hb1.cell (p := ⟨wr.heap.size, 0, none⟩) (by simp)).trans (by go_simp); have f1 : w1.cell? ⟨wr.heap.size, 1, none⟩ = some (.int .i64 ca) := (hb1.cell (p := ⟨wr.heap.size, 1, none⟩) (by simp)).trans (by go_simp); have f2 : w1.cell? ⟨wr.heap.size, 2, none⟩ = some (.int .i64 cb) := (hb1.cell (p := ⟨wr.heap.size, 2, none⟩) (by simp)).trans (by go_simp); have f3 : w1.cell? ⟨wr.heap.size, 3, none⟩ = some (.int .i64 cf) := (hb1.cell (p := ⟨wr.heap.size, 3, none⟩) (by simp)).trans (by go_simp); have f4 : w1.cell? ⟨wr.heap.size, 4, none⟩ = some (.int .i64 cl) := (hb1.cell (p := ⟨wr.heap.size, 4, none⟩) (by simp)).trans (by go_simp); have hown1 := own_keeps hoA hb1) | (go_at_call 83; refine (HS.out _).mono ?_; rintro e' w2 ⟨rfl, rfl⟩))
            all_goals first
              | (go_ret; exact ⟨ret_int HR.out.symm, hbw1⟩)
              | (exfalso; omega)
          · have hnb : ¬ callBad size n1 c := by rw [HBAD.out, not_or, Classical.not_not]; exact ⟨hsp, hq⟩
            have hcab : c.a < c.b := hsp.2.1
            have q1 : decide (c.f < 0) = false := decide_eq_false (by omega)
            have q2 : decide ((n1 : Int) ≤ c.f) = false := decide_eq_false (by omega)
            have q3 : decide (c.l < 1) = false := decide_eq_false (by omega)
            have q4 : decide (9999999 < c.l) = false := decide_eq_false (by omega)
            have HNB := Lib.hid hnb
            have HZ := Lib.hid hz
            have HSP := Lib.hid hsp
            clear hq hnb hz hsp
            cases k with
            | zero =>
              have hno := HDIS0.out rfl
              simp only [Nat.zero_mul, Nat.add_zero] at k0 k1 k2 k3 k4
              have hneC : va.ownBlock ≠ some wr.heap.size := by
                intro h
                have := (own_lt hown h).2
                omega
              have hneB : va.ownBlock ≠ some w.heap.size := by
                intro h
                have := (own_lt hown h).1
                omega
              have hBG : ∀ q, va.ownBlock = some q → w.heap.size ≤ q := fun q h => by have := (own_lt hown h).1; omega
              have HDEL := Lib.hid (fun (W : World) (h1 : W.ownsRow (w.heap.size + 1) 84 5 va (aroundOf pre).length (cellsG encC (aroundOf pre))) (h2 : W.cell? ⟨wr.heap.size, 1, none⟩ = some (.int .i64 c.a)) => delete31_own (w.heap.size + 1) wr.heap.size c.a va (aroundOf pre) W (by have := HL.out; omega) h1 h2 hneC)
              rw [around_left hno] at HDEL
              have HOUT := Lib.hid (fun h => callErr_out (size := size) (nf := n1) (fs := fs) HZ.out HNB.out hno h)
              have HOK := Lib.hid (fun h1 h2 h3 => callErr_ok (size := size) (nf := n1) (fs := fs) HZ.out HNB.out hno h1 h2 h3)
              have HDEEP := Lib.hid (fun h1 h2 h3 => callErr_deep (size := size) (nf := n1) (fs := fs) HZ.out HNB.out hno h1 h2 h3)
              have HCUT := Lib.hid (cuts_iff (size := size) (nf := n1) HNEST.out HNB.out hno)
              have HDP := Lib.hid (fun h => deep_eq (size := size) (nf := n1) HNEST.out HNB.out hno h)
              have HWI := Lib.hid (inFB_within (fs := fs) (c := c) HPW.out hcab)
              have HLEN := Lib.hid (show (aroundOf (pre ++ [c])).length = (opens pre c).length + 1 by rw [around_snoc (size := size) (nf := n1) HNB.out, List.length_append]; rfl)
              have HCEL := Lib.hid (show cellsG encC (aroundOf (pre ++ [c])) = cellsG encC (opens pre c) ++ [.string c.n, .int .i64 c.a, .int .i64 c.b, .int .i64 c.f, .int .i64 c.l] by rw [around_snoc (size := size) (nf := n1) HNB.out, cellsC_snoc]; rfl)
              have HOL := Lib.hid (show (opens pre c).length ≤ 1000 by have := HL.out; have := HPL.out; exact Nat.le_trans (List.length_filter_le _ _) (by omega))
              have HNS := Lib.hid (fun h => nests_snoc (size := size) (nf := n1) (fs := fs) (c := c) HNEST.out h)
              clear hcab HZ HSP HBAD
              rcases hqi : inFB fs c with _ | _
              · rw [hqi] at HIN
                have HR := Lib.hid (show calsErr size n1 fs [] l = 11 by
                  have hw : ¬ within fs c ∨ cuts pre c := .inl (fun h => by rw [HWI.out.2 h] at hqi; cases hqi)
                  rw [HE1.out (by rw [HOUT.out hw]; omega), HOUT.out hw])
                clear hqi HOUT HOK HDEEP HCUT HDP HWI HNS HE1 HE0 HDIS HDIS0 HL HPL HNEST HNB
                clear HLEN HCEL HOL HPRE HGK HT
                obtain ⟨cn, ca, cb, cf, cl⟩ := c
                simp only at *
                go_wp2_with (first | (go_at_call 86; refine (HN1.out _).mono ?_; rintro e' w1 ⟨rfl, hb1⟩; have hbw1 := below_a1 hbw hbw.size hb1; have g0 : w1.cell? ⟨w.heap.size, 0, none⟩ = some (.string id) := (hb1.cell (p := ⟨w.heap.size, 0, none⟩) (by simp; omega)).trans ((World.cell?_alloc_lt _ _ _ hlt2).trans b0); have g1 : w1.cell? ⟨w.heap.size, 1, none⟩ = some (.int .i64 size) := (hb1.cell (p := ⟨w.heap.size, 1, none⟩) (by simp; omega)).trans ((World.cell?_alloc_lt _ _ _ hlt2).trans b1); have g2 : w1.cell? ⟨w.heap.size, 2, none⟩ = some (.slice p1 n1 c1) := (hb1.cell (p := ⟨w.heap.size, 2, none⟩) (by simp; omega)).trans ((World.cell?_alloc_lt _ _ _ hlt2).trans b2); have g3 : w1.cell? ⟨w.heap.size, 3, none⟩ = some (.slice p2 n2 c2) := (hb1.cell (p := ⟨w.heap.size, 3, none⟩) (by simp; omega)).trans ((World.cell?_alloc_lt _ _ _ hlt2).trans b3); have g4 : w1.cell? ⟨w.heap.size, 4, none⟩ = some (.slice p3 n3 c3) := (hb1.cell (p := ⟨w.heap.size, 4, none⟩) (by simp; omega)).trans ((World.cell?_alloc_lt _ _ _ hlt2).trans b4); have g5 : w1.cell? ⟨w.heap.size, 5, none⟩ = some (.slice (some ⟨b, off, none⟩) n4 c4) := (hb1.cell (p := ⟨w.heap.size, 5, none⟩) (by simp; omega)).trans ((World.cell?_alloc_lt _ _ _ hlt2).trans b5); have f0 : w1.cell? ⟨wr.heap.size, 0, none⟩ = some (.string cn) := (hb1.cell (p := ⟨wr.heap.size, 0, none⟩) (by simp)).trans (by go_simp); have f1 : w1.cell? ⟨wr.heap.size, 1, none⟩ = some (.int .i64 ca) := (hb1.cell (p := ⟨wr.heap.size, 1, none⟩) (by simp)).trans (by go_simp); have f2 : w1.cell? ⟨wr.heap.size, 2, none⟩ = some (.int .i64 cb) := (hb1.cell (p := ⟨wr.heap.size, 2, none⟩) (by simp)).trans (by go_simp); have f3 : w1.cell? ⟨wr.heap.size, 3, none⟩ = some (.int .i64 cf) := (hb1.cell (p := ⟨wr.heap.size, 3, none⟩) (by simp)).trans (by go_simp); have f4 : w1.cell? ⟨wr.heap.size, 4, none⟩ = some (.int .i64 cl) := (hb1.cell (p := ⟨wr.heap.size, 4, none⟩) (by simp)).trans (by go_simp); have hown1 := own_keeps hoA hb1) | (go_at_call 83; refine (HS.out _).mono ?_; rintro e' w2 ⟨rfl, rfl⟩))
                go_quiet (fail)
                have hbwQ := below_drewN hbw1 nq
                have hown1 : (w2.drewN nq).ownsRow (w.heap.size + 1) 84 5 va (aroundOf pre).length (cellsG encC (aroundOf pre)) := hown1
                have g0 : (w2.drewN nq).cell? ⟨w.heap.size, 0, none⟩ = some (.string id) := g0
                have g1 : (w2.drewN nq).cell? ⟨w.heap.size, 1, none⟩ = some (.int .i64 size) := g1
                have g2 : (w2.drewN nq).cell? ⟨w.heap.size, 2, none⟩ = some (.slice p1 n1 c1) := g2
                have g3 : (w2.drewN nq).cell? ⟨w.heap.size, 3, none⟩ = some (.slice p2 n2 c2) := g3
                have g4 : (w2.drewN nq).cell? ⟨w.heap.size, 4, none⟩ = some (.slice p3 n3 c3) := g4
                have g5 : (w2.drewN nq).cell? ⟨w.heap.size, 5, none⟩ = some (.slice (some ⟨b, off, none⟩) n4 c4) := g5
                have f0 : (w2.drewN nq).cell? ⟨wr.heap.size, 0, none⟩ = some (.string cn) := f0
                have f1 : (w2.drewN nq).cell? ⟨wr.heap.size, 1, none⟩ = some (.int .i64 ca) := f1
                have f2 : (w2.drewN nq).cell? ⟨wr.heap.size, 2, none⟩ = some (.int .i64 cb) := f2
                have f3 : (w2.drewN nq).cell? ⟨wr.heap.size, 3, none⟩ = some (.int .i64 cf) := f3
                have f4 : (w2.drewN nq).cell? ⟨wr.heap.size, 4, none⟩ = some (.int .i64 cl) := f4
                generalize w2.drewN nq = wq at *
                go_wp2_with (first | (go_at_call 88; with_reducible refine (HDEL.out _ (by assumption) (by assumption)).mono ?_; rintro e' w3 ⟨v', rfl, hown3, hgr3, hsm3⟩; have g0 := cell_grown hgr3 g0 hneB; have g1 := cell_grown hgr3 g1 hneB; have g2 := cell_grown hgr3 g2 hneB; have g3 := cell_grown hgr3 g3 hneB; have g4 := cell_grown hgr3 g4 hneB; have g5 := cell_grown hgr3 g5 hneB; have f0 := cell_grown hgr3 f0 hneC; have f1 := cell_grown hgr3 f1 hneC; have f2 := cell_grown hgr3 f2 hneC; have f3 := cell_grown hgr3 f3 hneC; have f4 := cell_grown hgr3 f4 hneC; have hbw3 := below_grown hbwQ hgr3 hBG hbwQ.size))
                obtain ⟨p', cap', rfl⟩ := own_len hown3
                have hr3 : Below w3.heap.size w3 w3 := Below.refl _ _
                refine wp_region_held_drew (S := (fun w' => w'.cell? ⟨w.heap.size, 0, none⟩ = some (.string id) ∧ w'.cell? ⟨w.heap.size, 1, none⟩ = some (.int .i64 size) ∧ w'.cell? ⟨w.heap.size, 2, none⟩ = some (.slice p1 n1 c1) ∧ w'.cell? ⟨w.heap.size, 3, none⟩ = some (.slice p2 n2 c2) ∧ w'.cell? ⟨w.heap.size, 4, none⟩ = some (.slice p3 n3 c3) ∧ w'.cell? ⟨w.heap.size, 5, none⟩ = some (.slice (some ⟨b, off, none⟩) n4 c4) ∧ w'.cell? ⟨wr.heap.size, 0, none⟩ = some (.string cn) ∧ w'.cell? ⟨wr.heap.size, 1, none⟩ = some (.int .i64 ca) ∧ w'.cell? ⟨wr.heap.size, 2, none⟩ = some (.int .i64 cb) ∧ w'.cell? ⟨wr.heap.size, 3, none⟩ = some (.int .i64 cf) ∧ w'.cell? ⟨wr.heap.size, 4, none⟩ = some (.int .i64 cl) ∧ Below w3.heap.size w3 w')) (by kernel_rfl) ?_ (fun hHeld => ?_)
                · (repeat' apply And.intro) <;> first | assumption | exact Below.drew (by assumption) | exact cell_keep (by assumption) hbX | exact below_keep (by first | assumption | exact Below.drew (by assumption)) (Nat.le_refl _) hbX
                refine wpAnyH_take (i := 0) (v := ?_) rfl (by kernel_rfl) (by kernel_rfl) (by kernel_rfl) (fun _ _ _ h => h) (Or.inl ⟨by kernel_rfl, ?_⟩) (by assumption) ?_
                rotate_left
                · intro w hSw; (try dsimp only at hSw); go_simp; (try with_reducible rfl)
                (try simp only [Act.put, List.setIfInBounds_toArray])
                refine wpAnyH_take (i := 1) (v := ?_) rfl (by kernel_rfl) (by kernel_rfl) (by kernel_rfl) (fun _ _ _ h => h) (Or.inl ⟨by kernel_rfl, ?_⟩) (by assumption) ?_
                rotate_left
                · intro w hSw; (try dsimp only at hSw); go_simp; (try with_reducible rfl)
                (try simp only [Act.put])
                refine wpAnyH_ready (rs := [2]) (by kernel_rfl) (by simp) ?_
                refine AllReadyH.cons rfl (fun K hK => ?_) AllReadyH.nil
                go_simp
                (first | (go_at_call 90; with_reducible refine (HIN.out _ (below_keepB hbw3 hbw3.size (by first | assumption | exact Below.drew (by assumption)))).mono ?_; rintro e' wX ⟨rfl, hbX⟩))
                dsimp only
                refine hK.out _ _ ?_ (fun hHeld2 => ?_)
                · (repeat' apply And.intro) <;> first | assumption | exact Below.drew (by assumption) | exact cell_keep (by assumption) hbX | exact below_keep (by first | assumption | exact Below.drew (by assumption)) (Nat.le_refl _) hbX
                clear hK hHeld
                (try simp only [Act.put, List.setIfInBounds_toArray, List.set_cons_zero, List.set_cons_succ])
                refine wpAnyH_take (i := 3) (v := ?_) rfl (by kernel_rfl) (by kernel_rfl) (by kernel_rfl) (fun _ _ _ h => h) (Or.inl ⟨by kernel_rfl, ?_⟩) (by assumption) ?_
                rotate_left
                · intro w hSw; (try dsimp only at hSw); go_simp; (try with_reducible rfl)
                (try simp only [Act.put, List.setIfInBounds_toArray])
                refine wpAnyH_take (i := 4) (v := ?_) rfl (by kernel_rfl) (by kernel_rfl) (by kernel_rfl) (fun _ _ _ h => h) (Or.inl ⟨by kernel_rfl, ?_⟩) (by assumption) ?_
                rotate_left
                · intro w hSw; (try dsimp only at hSw); go_simp; (try with_reducible rfl)
                (try simp only [Act.put])
                refine wpAnyH_take (i := 5) (v := undef) rfl (by kernel_rfl) (by kernel_rfl) (by kernel_rfl) (fun _ _ _ h => h) (Or.inr ⟨by kernel_rfl, rfl⟩) (by assumption) ?_
                (try simp only [Act.put])
                refine wpAnyH_take (i := 6) (v := undef) rfl (by kernel_rfl) (by kernel_rfl) (by kernel_rfl) (fun _ _ _ h => h) (Or.inr ⟨by kernel_rfl, rfl⟩) (by assumption) ?_
                (try simp only [Act.put])
                refine wpAnyH_take (i := 7) (v := undef) rfl (by kernel_rfl) (by kernel_rfl) (by kernel_rfl) (fun _ _ _ h => h) (Or.inr ⟨by kernel_rfl, rfl⟩) (by assumption) ?_
                (try simp only [Act.put])
                refine wpAnyH_take (i := 8) (v := undef) rfl (by kernel_rfl) (by kernel_rfl) (by kernel_rfl) (fun _ _ _ h => h) (Or.inr ⟨by kernel_rfl, rfl⟩) (by assumption) ?_
                (try simp only [Act.put])
                refine wpAnyH_take (i := 9) (v := undef) rfl (by kernel_rfl) (by kernel_rfl) (by kernel_rfl) (fun _ _ _ h => h) (Or.inr ⟨by kernel_rfl, rfl⟩) (by assumption) ?_
                (try simp only [Act.put])
                refine wpAnyH_take (i := 10) (v := undef) rfl (by kernel_rfl) (by kernel_rfl) (by kernel_rfl) (fun _ _ _ h => h) (Or.inr ⟨by kernel_rfl, rfl⟩) (by assumption) ?_
                (try simp only [Act.put])
                refine wpAnyH_take (i := 11) (v := undef) rfl (by kernel_rfl) (by kernel_rfl) (by kernel_rfl) (fun _ _ _ h => h) (Or.inr ⟨by kernel_rfl, rfl⟩) (by assumption) ?_
                (try simp only [Act.put])
                refine wpAnyH_take (i := 12) (v := undef) rfl (by kernel_rfl) (by kernel_rfl) (by kernel_rfl) (fun _ _ _ h => h) (Or.inr ⟨by kernel_rfl, rfl⟩) (by assumption) ?_
                (try simp only [Act.put])
                refine wpAnyH_take (i := 13) (v := undef) rfl (by kernel_rfl) (by kernel_rfl) (by kernel_rfl) (fun _ _ _ h => h) (Or.inr ⟨by kernel_rfl, rfl⟩) (by assumption) ?_
                (try simp only [Act.put])
                refine wpAnyH_take (i := 14) (v := undef) rfl (by kernel_rfl) (by kernel_rfl) (by kernel_rfl) (fun _ _ _ h => h) (Or.inr ⟨by kernel_rfl, rfl⟩) (by assumption) ?_
                (try simp only [Act.put])
                refine wpAnyH_take (i := 15) (v := undef) rfl (by kernel_rfl) (by kernel_rfl) (by kernel_rfl) (fun _ _ _ h => h) (Or.inr ⟨by kernel_rfl, rfl⟩) (by assumption) ?_
                (try simp only [Act.put])
                refine wpAnyH_take (i := 16) (v := undef) rfl (by kernel_rfl) (by kernel_rfl) (by kernel_rfl) (fun _ _ _ h => h) (Or.inr ⟨by kernel_rfl, rfl⟩) (by assumption) ?_
                (try simp only [Act.put])
                refine wpAnyH_take (i := 17) (v := undef) rfl (by kernel_rfl) (by kernel_rfl) (by kernel_rfl) (fun _ _ _ h => h) (Or.inr ⟨by kernel_rfl, rfl⟩) (by assumption) ?_
                (try simp only [Act.put])
                refine wpAnyH_take (i := 18) (v := undef) rfl (by kernel_rfl) (by kernel_rfl) (by kernel_rfl) (fun _ _ _ h => h) (Or.inr ⟨by kernel_rfl, rfl⟩) (by assumption) ?_
                (try simp only [Act.put])
                refine wpAnyH_take (i := 19) (v := undef) rfl (by kernel_rfl) (by kernel_rfl) (by kernel_rfl) (fun _ _ _ h => h) (Or.inr ⟨by kernel_rfl, rfl⟩) (by assumption) ?_
                (try simp only [Act.put])
                refine wpAnyH_take (i := 20) (v := ?_) rfl (by kernel_rfl) (by kernel_rfl) (by kernel_rfl) (fun _ _ _ h => h) (Or.inl ⟨by kernel_rfl, ?_⟩) (by assumption) ?_
                rotate_left
                · intro w hSw; (try dsimp only at hSw); go_simp; (try with_reducible rfl)
                (try simp only [Act.put])
                refine wpAnyH_done (by kernel_rfl) ?_ _
                (try simp only [List.getElem_toArray, List.getElem_cons_succ, List.getElem_cons_zero, List.setIfInBounds_toArray, List.set_cons_zero, List.set_cons_succ])
                have hbX := drew_out hbX
                go_wp2_with fail
                go_ret
                exact ⟨ret_int HR.out.symm, below_keepB hbw3 hbw3.size hbX⟩
              · rw [hqi] at HIN
                have hL : opens pre c = [] := by
                  have hp0 := List.length_eq_zero_iff.1 HPL.out
                  subst hp0
                  rfl
                have hnc : ¬ cuts pre c := fun h => by obtain ⟨e, he, _⟩ := HCUT.out.1 h; rw [hL] at he; simp at he
                have hz0 := HOK.out (HWI.out.1 hqi) hnc (by rw [HDP.out hnc, hL]; simp)
                have HR := Lib.hid (HE0.out hz0)
                have HNS1 := Lib.hid (HNS.out hz0)
                have hn0 : (opens pre c).length = 0 := by rw [hL]; rfl
                clear hz0 hnc hL
                clear hqi HOUT HOK HDEEP HCUT HDP HWI HNS HE1 HE0 HDIS HDIS0 HL HPL HNEST HNB
                generalize (opens pre c).length = n at *
                generalize cellsG encC (opens pre c) = xs at *
                subst hn0
                obtain ⟨cn, ca, cb, cf, cl⟩ := c
                simp only at *
                go_wp2_with (first | (go_at_call 86; refine (HN1.out _).mono ?_; rintro e' w1 ⟨rfl, hb1⟩; have hbw1 := below_a1 hbw hbw.size hb1; have g0 : w1.cell? ⟨w.heap.size, 0, none⟩ = some (.string id) := (hb1.cell (p := ⟨w.heap.size, 0, none⟩) (by simp; omega)).trans ((World.cell?_alloc_lt _ _ _ hlt2).trans b0); have g1 : w1.cell? ⟨w.heap.size, 1, none⟩ = some (.int .i64 size) := (hb1.cell (p := ⟨w.heap.size, 1, none⟩) (by simp; omega)).trans ((World.cell?_alloc_lt _ _ _ hlt2).trans b1); have g2 : w1.cell? ⟨w.heap.size, 2, none⟩ = some (.slice p1 n1 c1) := (hb1.cell (p := ⟨w.heap.size, 2, none⟩) (by simp; omega)).trans ((World.cell?_alloc_lt _ _ _ hlt2).trans b2); have g3 : w1.cell? ⟨w.heap.size, 3, none⟩ = some (.slice p2 n2 c2) := (hb1.cell (p := ⟨w.heap.size, 3, none⟩) (by simp; omega)).trans ((World.cell?_alloc_lt _ _ _ hlt2).trans b3); have g4 : w1.cell? ⟨w.heap.size, 4, none⟩ = some (.slice p3 n3 c3) := (hb1.cell (p := ⟨w.heap.size, 4, none⟩) (by simp; omega)).trans ((World.cell?_alloc_lt _ _ _ hlt2).trans b4); have g5 : w1.cell? ⟨w.heap.size, 5, none⟩ = some (.slice (some ⟨b, off, none⟩) n4 c4) := (hb1.cell (p := ⟨w.heap.size, 5, none⟩) (by simp; omega)).trans ((World.cell?_alloc_lt _ _ _ hlt2).trans b5); have f0 : w1.cell? ⟨wr.heap.size, 0, none⟩ = some (.string cn) := (hb1.cell (p := ⟨wr.heap.size, 0, none⟩) (by simp)).trans (by go_simp); have f1 : w1.cell? ⟨wr.heap.size, 1, none⟩ = some (.int .i64 ca) := (hb1.cell (p := ⟨wr.heap.size, 1, none⟩) (by simp)).trans (by go_simp); have f2 : w1.cell? ⟨wr.heap.size, 2, none⟩ = some (.int .i64 cb) := (hb1.cell (p := ⟨wr.heap.size, 2, none⟩) (by simp)).trans (by go_simp); have f3 : w1.cell? ⟨wr.heap.size, 3, none⟩ = some (.int .i64 cf) := (hb1.cell (p := ⟨wr.heap.size, 3, none⟩) (by simp)).trans (by go_simp); have f4 : w1.cell? ⟨wr.heap.size, 4, none⟩ = some (.int .i64 cl) := (hb1.cell (p := ⟨wr.heap.size, 4, none⟩) (by simp)).trans (by go_simp); have hown1 := own_keeps hoA hb1) | (go_at_call 83; refine (HS.out _).mono ?_; rintro e' w2 ⟨rfl, rfl⟩))
                go_quiet (fail)
                have hbwQ := below_drewN hbw1 nq
                have hown1 : (w2.drewN nq).ownsRow (w.heap.size + 1) 84 5 va (aroundOf pre).length (cellsG encC (aroundOf pre)) := hown1
                have g0 : (w2.drewN nq).cell? ⟨w.heap.size, 0, none⟩ = some (.string id) := g0
                have g1 : (w2.drewN nq).cell? ⟨w.heap.size, 1, none⟩ = some (.int .i64 size) := g1
                have g2 : (w2.drewN nq).cell? ⟨w.heap.size, 2, none⟩ = some (.slice p1 n1 c1) := g2
                have g3 : (w2.drewN nq).cell? ⟨w.heap.size, 3, none⟩ = some (.slice p2 n2 c2) := g3
                have g4 : (w2.drewN nq).cell? ⟨w.heap.size, 4, none⟩ = some (.slice p3 n3 c3) := g4
                have g5 : (w2.drewN nq).cell? ⟨w.heap.size, 5, none⟩ = some (.slice (some ⟨b, off, none⟩) n4 c4) := g5
                have f0 : (w2.drewN nq).cell? ⟨wr.heap.size, 0, none⟩ = some (.string cn) := f0
                have f1 : (w2.drewN nq).cell? ⟨wr.heap.size, 1, none⟩ = some (.int .i64 ca) := f1
                have f2 : (w2.drewN nq).cell? ⟨wr.heap.size, 2, none⟩ = some (.int .i64 cb) := f2
                have f3 : (w2.drewN nq).cell? ⟨wr.heap.size, 3, none⟩ = some (.int .i64 cf) := f3
                have f4 : (w2.drewN nq).cell? ⟨wr.heap.size, 4, none⟩ = some (.int .i64 cl) := f4
                generalize w2.drewN nq = wq at *
                go_wp2_with (first | (go_at_call 88; with_reducible refine (HDEL.out _ (by assumption) (by assumption)).mono ?_; rintro e' w3 ⟨v', rfl, hown3, hgr3, hsm3⟩; have g0 := cell_grown hgr3 g0 hneB; have g1 := cell_grown hgr3 g1 hneB; have g2 := cell_grown hgr3 g2 hneB; have g3 := cell_grown hgr3 g3 hneB; have g4 := cell_grown hgr3 g4 hneB; have g5 := cell_grown hgr3 g5 hneB; have f0 := cell_grown hgr3 f0 hneC; have f1 := cell_grown hgr3 f1 hneC; have f2 := cell_grown hgr3 f2 hneC; have f3 := cell_grown hgr3 f3 hneC; have f4 := cell_grown hgr3 f4 hneC; have hbw3 := below_grown hbwQ hgr3 hBG hbwQ.size))
                obtain ⟨p', cap', rfl⟩ := own_len hown3
                have hr3 : Below w3.heap.size w3 w3 := Below.refl _ _
                refine wp_region_held_drew (S := (fun w' => w'.cell? ⟨w.heap.size, 0, none⟩ = some (.string id) ∧ w'.cell? ⟨w.heap.size, 1, none⟩ = some (.int .i64 size) ∧ w'.cell? ⟨w.heap.size, 2, none⟩ = some (.slice p1 n1 c1) ∧ w'.cell? ⟨w.heap.size, 3, none⟩ = some (.slice p2 n2 c2) ∧ w'.cell? ⟨w.heap.size, 4, none⟩ = some (.slice p3 n3 c3) ∧ w'.cell? ⟨w.heap.size, 5, none⟩ = some (.slice (some ⟨b, off, none⟩) n4 c4) ∧ w'.cell? ⟨wr.heap.size, 0, none⟩ = some (.string cn) ∧ w'.cell? ⟨wr.heap.size, 1, none⟩ = some (.int .i64 ca) ∧ w'.cell? ⟨wr.heap.size, 2, none⟩ = some (.int .i64 cb) ∧ w'.cell? ⟨wr.heap.size, 3, none⟩ = some (.int .i64 cf) ∧ w'.cell? ⟨wr.heap.size, 4, none⟩ = some (.int .i64 cl) ∧ Below w3.heap.size w3 w')) (by kernel_rfl) ?_ (fun hHeld => ?_)
                · (repeat' apply And.intro) <;> first | assumption | exact Below.drew (by assumption) | exact cell_keep (by assumption) hbX | exact below_keep (by first | assumption | exact Below.drew (by assumption)) (Nat.le_refl _) hbX
                refine wpAnyH_take (i := 0) (v := ?_) rfl (by kernel_rfl) (by kernel_rfl) (by kernel_rfl) (fun _ _ _ h => h) (Or.inl ⟨by kernel_rfl, ?_⟩) (by assumption) ?_
                rotate_left
                · intro w hSw; (try dsimp only at hSw); go_simp; (try with_reducible rfl)
                (try simp only [Act.put, List.setIfInBounds_toArray])
                refine wpAnyH_take (i := 1) (v := ?_) rfl (by kernel_rfl) (by kernel_rfl) (by kernel_rfl) (fun _ _ _ h => h) (Or.inl ⟨by kernel_rfl, ?_⟩) (by assumption) ?_
                rotate_left
                · intro w hSw; (try dsimp only at hSw); go_simp; (try with_reducible rfl)
                (try simp only [Act.put])
                refine wpAnyH_ready (rs := [2]) (by kernel_rfl) (by simp) ?_
                refine AllReadyH.cons rfl (fun K hK => ?_) AllReadyH.nil
                go_simp
                (first | (go_at_call 90; with_reducible refine (HIN.out _ (below_keepB hbw3 hbw3.size (by first | assumption | exact Below.drew (by assumption)))).mono ?_; rintro e' wX ⟨rfl, hbX⟩))
                dsimp only
                refine hK.out _ _ ?_ (fun hHeld2 => ?_)
                · (repeat' apply And.intro) <;> first | assumption | exact Below.drew (by assumption) | exact cell_keep (by assumption) hbX | exact below_keep (by first | assumption | exact Below.drew (by assumption)) (Nat.le_refl _) hbX
                clear hK hHeld
                (try simp only [Act.put, List.setIfInBounds_toArray, List.set_cons_zero, List.set_cons_succ])
                refine wpAnyH_take (i := 3) (v := ?_) rfl (by kernel_rfl) (by kernel_rfl) (by kernel_rfl) (fun _ _ _ h => h) (Or.inl ⟨by kernel_rfl, ?_⟩) (by assumption) ?_
                rotate_left
                · intro w hSw; (try dsimp only at hSw); go_simp; (try with_reducible rfl)
                (try simp only [Act.put, List.setIfInBounds_toArray])
                refine wpAnyH_take (i := 4) (v := ?_) rfl (by kernel_rfl) (by kernel_rfl) (by kernel_rfl) (fun _ _ _ h => h) (Or.inl ⟨by kernel_rfl, ?_⟩) (by assumption) ?_
                rotate_left
                · intro w hSw; (try dsimp only at hSw); go_simp; (try with_reducible rfl)
                (try simp only [Act.put])
                refine wpAnyH_take (i := 5) (v := ?_) rfl (by kernel_rfl) (by kernel_rfl) (by kernel_rfl) (fun _ _ _ h => h) (Or.inl ⟨by kernel_rfl, ?_⟩) (by assumption) ?_
                rotate_left
                · intro w hSw; (try dsimp only at hSw); go_simp; (try with_reducible rfl)
                (try simp only [Act.put])
                refine wpAnyH_take (i := 6) (v := ?_) rfl (by kernel_rfl) (by kernel_rfl) (by kernel_rfl) (fun _ _ _ h => h) (Or.inl ⟨by kernel_rfl, ?_⟩) (by assumption) ?_
                rotate_left
                · intro w hSw; (try dsimp only at hSw); go_simp; (try with_reducible rfl)
                (try simp only [Act.put])
                refine wpAnyH_take (i := 7) (v := ?_) rfl (by kernel_rfl) (by kernel_rfl) (by kernel_rfl) (fun _ _ _ h => h) (Or.inl ⟨by kernel_rfl, ?_⟩) (by assumption) ?_
                rotate_left
                · intro w hSw; (try dsimp only at hSw); go_simp; (try with_reducible rfl)
                (try simp only [Act.put])
                refine wpAnyH_take (i := 8) (v := ?_) rfl (by kernel_rfl) (by kernel_rfl) (by kernel_rfl) (fun _ _ _ h => h) (Or.inl ⟨by kernel_rfl, ?_⟩) (by assumption) ?_
                rotate_left
                · intro w hSw; (try dsimp only at hSw); go_simp; (try with_reducible rfl)
                (try simp only [Act.put])
                refine wpAnyH_take (i := 9) (v := undef) rfl (by kernel_rfl) (by kernel_rfl) (by kernel_rfl) (fun _ _ _ h => h) (Or.inr ⟨by kernel_rfl, rfl⟩) (by assumption) ?_
                (try simp only [Act.put])
                refine wpAnyH_take (i := 10) (v := undef) rfl (by kernel_rfl) (by kernel_rfl) (by kernel_rfl) (fun _ _ _ h => h) (Or.inr ⟨by kernel_rfl, rfl⟩) (by assumption) ?_
                (try simp only [Act.put])
                refine wpAnyH_take (i := 11) (v := undef) rfl (by kernel_rfl) (by kernel_rfl) (by kernel_rfl) (fun _ _ _ h => h) (Or.inr ⟨by kernel_rfl, rfl⟩) (by assumption) ?_
                (try simp only [Act.put])
                refine wpAnyH_take (i := 12) (v := undef) rfl (by kernel_rfl) (by kernel_rfl) (by kernel_rfl) (fun _ _ _ h => h) (Or.inr ⟨by kernel_rfl, rfl⟩) (by assumption) ?_
                (try simp only [Act.put])
                refine wpAnyH_take (i := 13) (v := undef) rfl (by kernel_rfl) (by kernel_rfl) (by kernel_rfl) (fun _ _ _ h => h) (Or.inr ⟨by kernel_rfl, rfl⟩) (by assumption) ?_
                (try simp only [Act.put])
                refine wpAnyH_take (i := 14) (v := undef) rfl (by kernel_rfl) (by kernel_rfl) (by kernel_rfl) (fun _ _ _ h => h) (Or.inr ⟨by kernel_rfl, rfl⟩) (by assumption) ?_
                (try simp only [Act.put])
                refine wpAnyH_take (i := 15) (v := undef) rfl (by kernel_rfl) (by kernel_rfl) (by kernel_rfl) (fun _ _ _ h => h) (Or.inr ⟨by kernel_rfl, rfl⟩) (by assumption) ?_
                (try simp only [Act.put])
                refine wpAnyH_take (i := 16) (v := undef) rfl (by kernel_rfl) (by kernel_rfl) (by kernel_rfl) (fun _ _ _ h => h) (Or.inr ⟨by kernel_rfl, rfl⟩) (by assumption) ?_
                (try simp only [Act.put])
                refine wpAnyH_take (i := 17) (v := undef) rfl (by kernel_rfl) (by kernel_rfl) (by kernel_rfl) (fun _ _ _ h => h) (Or.inr ⟨by kernel_rfl, rfl⟩) (by assumption) ?_
                (try simp only [Act.put])
                refine wpAnyH_take (i := 18) (v := undef) rfl (by kernel_rfl) (by kernel_rfl) (by kernel_rfl) (fun _ _ _ h => h) (Or.inr ⟨by kernel_rfl, rfl⟩) (by assumption) ?_
                (try simp only [Act.put])
                refine wpAnyH_take (i := 19) (v := ?_) rfl (by kernel_rfl) (by kernel_rfl) (by kernel_rfl) (fun _ _ _ h => h) (Or.inl ⟨by kernel_rfl, ?_⟩) (by assumption) ?_
                rotate_left
                · intro w hSw; (try dsimp only at hSw); go_simp; (try with_reducible rfl)
                (try simp only [Act.put])
                refine wpAnyH_take (i := 20) (v := ?_) rfl (by kernel_rfl) (by kernel_rfl) (by kernel_rfl) (fun _ _ _ h => h) (Or.inl ⟨by kernel_rfl, ?_⟩) (by assumption) ?_
                rotate_left
                · intro w hSw; (try dsimp only at hSw); go_simp; (try with_reducible rfl)
                (try simp only [Act.put])
                refine wpAnyH_done (by kernel_rfl) ?_ _
                (try simp only [List.getElem_toArray, List.getElem_cons_succ, List.getElem_cons_zero, List.setIfInBounds_toArray, List.set_cons_zero, List.set_cons_succ])
                have hbX := drew_out hbX
                have hBG4 := fun q h => (own_lt (k := q) hown3 h).1
                have q1 : 0 + 1 ≤ maxLen := by have := HOL.out; unfold maxLen; omega
                have q2 : (0 + 1) * 48 ≤ 140737488355328 := by have := HOL.out; omega
                obtain ⟨i0, hi, hz0, hz1, hz2⟩ := info_parts Tryd.info55
                have hz5 : (Value.agg #[.string ⟨#[]⟩, .int .i64 0, .int .i64 0, .int .i64 0, .int .i64 0]).cells.size = 5 := rfl
                have hbE := below_keepB hbw3 hbw3.size hbX
                have hownX := own_keeps hown3 hbX
                have gx0 := cell_keep g0 hbX
                have gx1 := cell_keep g1 hbX
                have gx2 := cell_keep g2 hbX
                have gx3 := cell_keep g3 hbX
                have gx4 := cell_keep g4 hbX
                have gx5 := cell_keep g5 hbX
                have fx0 := cell_keep f0 hbX
                have fx1 := cell_keep f1 hbX
                have fx2 := cell_keep f2 hbX
                have fx3 := cell_keep f3 hbX
                have fx4 := cell_keep f4 hbX
                have q3 : w.heap.size + 1 ≤ (wX.alloc (.cells #[.string cn, .int .i64 ca, .int .i64 cb, .int .i64 cf, .int .i64 cl] 84)).heap.size := by have := hbE.size; simp; omega
                have hownY := hownX.alloc (.cells #[.string cn, .int .i64 ca, .int .i64 cb, .int .i64 cf, .int .i64 cl] 84)
                have hsrc := cells5_new wX ⟨cn, ca, cb, cf, cl⟩ 84
                have hone : ∀ u ∈ [Value.string cn, .int .i64 ca, .int .i64 cb, .int .i64 cf, .int .i64 cl], u.oneCell' = true := cells5_one ⟨cn, ca, cb, cf, cl⟩
                simp only at hsrc
                go_wp2_with (at_builtin; go_loud (refine wpList_append_own _ rfl _ _ 40 rfl (w.heap.size + 1) 84 i0 _ 5 48 Tryd.underlying40 hi hz0 hz1 hz2 hz5 (by decide) _ 0 xs rfl hownY ⟨wX.heap.size, 0, none⟩ 1 1 [.string cn, .int .i64 ca, .int .i64 cb, .int .i64 cf, .int .i64 cl] rfl rfl hsrc hone q1 q2 q3 ?_; intro v4 w4 hown4 hgr4 _))
                have hTK : List.take 1 l = pre ++ [⟨cn, ca, cb, cf, cl⟩] := HT.out
                have hYB := hbE.alloc hbE.size (.cells #[.string cn, .int .i64 ca, .int .i64 cb, .int .i64 cf, .int .i64 cl] 84)
                have hlX := hbE.size
                have hneE := ne_block hBG4
                have hbF := below_grown hYB hgr4 (fun q h => by have := hBG4 q h; omega) hYB.size
                exact ⟨⟨1, v4, by omega, rfl, by go_num, by rw [hTK]; exact HR.out, by rw [hTK]; exact HNS1.out, by rw [hTK, HLEN.out, HCEL.out]; exact hown4, cell_grown hgr4 ((World.cell?_alloc_lt _ _ _ (World.block_lt_of_cell? _ _ gx0)).trans gx0) hneE, cell_grown hgr4 ((World.cell?_alloc_lt _ _ _ (World.block_lt_of_cell? _ _ gx1)).trans gx1) hneE, cell_grown hgr4 ((World.cell?_alloc_lt _ _ _ (World.block_lt_of_cell? _ _ gx2)).trans gx2) hneE, cell_grown hgr4 ((World.cell?_alloc_lt _ _ _ (World.block_lt_of_cell? _ _ gx3)).trans gx3) hneE, cell_grown hgr4 ((World.cell?_alloc_lt _ _ _ (World.block_lt_of_cell? _ _ gx4)).trans gx4) hneE, cell_grown hgr4 ((World.cell?_alloc_lt _ _ _ (World.block_lt_of_cell? _ _ gx5)).trans gx5) hneE, hbF⟩, by simp [RowKit.intOf]; omega⟩
            | succ j =>
              have hjl : j < l.length := by omega
              obtain ⟨m0, m1, m2, m3, m4⟩ := hc.cal hjl
              have hdj := List.getElem?_eq_getElem hjl
              have hjz : (j : Int) < (n4 : Int) := by omega
              have hwj : IntKind.i64.wrap (j : Int) = (j : Int) := IntWalk.i64_in _ ⟨by omega, by omega⟩
              have hkp : decide ((0 : Int) < ((j : Int) + 1)) = true := decide_eq_true (by omega)
              have HDB := Lib.hid (HDIS.out j _ hdj rfl)
              have HBEG := Lib.hid (fun W => beginsBefore_any c l[j] W)
              clear hdj
              generalize l[j] = d1 at *
              by_cases hbeg : begB c d1 = true
              · rw [hbeg] at HBEG
                have HR := Lib.hid (show calsErr size n1 fs [] l = 5 by
                  have hh := callErr_ord (size := size) (nf := n1) (fs := fs) HZ.out HNB.out (HDB.out.2 hbeg)
                  rw [HE1.out (by rw [hh]; omega), hh])
                clear hbeg hcab HZ HSP HBAD HE1 HE0 HDIS HDIS0 HL HPL HNEST HNB HDB HIN
                obtain ⟨dn, da, db, df, dl⟩ := d1
                obtain ⟨cn, ca, cb, cf, cl⟩ := c
                simp only at *
                go_wp2_with (first | (go_at_call 86; refine (HN1.out _).mono ?_; rintro e' w1 ⟨rfl, hb1⟩; have hbw1 := below_a1 hbw hbw.size hb1; have g0 : w1.cell? ⟨w.heap.size, 0, none⟩ = some (.string id) := (hb1.cell (p := ⟨w.heap.size, 0, none⟩) (by simp; omega)).trans ((World.cell?_alloc_lt _ _ _ hlt2).trans b0); have g1 : w1.cell? ⟨w.heap.size, 1, none⟩ = some (.int .i64 size) := (hb1.cell (p := ⟨w.heap.size, 1, none⟩) (by simp; omega)).trans ((World.cell?_alloc_lt _ _ _ hlt2).trans b1); have g2 : w1.cell? ⟨w.heap.size, 2, none⟩ = some (.slice p1 n1 c1) := (hb1.cell (p := ⟨w.heap.size, 2, none⟩) (by simp; omega)).trans ((World.cell?_alloc_lt _ _ _ hlt2).trans b2); have g3 : w1.cell? ⟨w.heap.size, 3, none⟩ = some (.slice p2 n2 c2) := (hb1.cell (p := ⟨w.heap.size, 3, none⟩) (by simp; omega)).trans ((World.cell?_alloc_lt _ _ _ hlt2).trans b3); have g4 : w1.cell? ⟨w.heap.size, 4, none⟩ = some (.slice p3 n3 c3) := (hb1.cell (p := ⟨w.heap.size, 4, none⟩) (by simp; omega)).trans ((World.cell?_alloc_lt _ _ _ hlt2).trans b4); have g5 : w1.cell? ⟨w.heap.size, 5, none⟩ = some (.slice (some ⟨b, off, none⟩) n4 c4) := (hb1.cell (p := ⟨w.heap.size, 5, none⟩) (by simp; omega)).trans ((World.cell?_alloc_lt _ _ _ hlt2).trans b5); have f0 : w1.cell? ⟨wr.heap.size, 0, none⟩ = some (.string cn) := (hb1.cell (p := ⟨wr.heap.size, 0, none⟩) (by simp)).trans (by go_simp); have f1 : w1.cell? ⟨wr.heap.size, 1, none⟩ = some (.int .i64 ca) := (hb1.cell (p := ⟨wr.heap.size, 1, none⟩) (by simp)).trans (by go_simp); have f2 : w1.cell? ⟨wr.heap.size, 2, none⟩ = some (.int .i64 cb) := (hb1.cell (p := ⟨wr.heap.size, 2, none⟩) (by simp)).trans (by go_simp); have f3 : w1.cell? ⟨wr.heap.size, 3, none⟩ = some (.int .i64 cf) := (hb1.cell (p := ⟨wr.heap.size, 3, none⟩) (by simp)).trans (by go_simp); have f4 : w1.cell? ⟨wr.heap.size, 4, none⟩ = some (.int .i64 cl) := (hb1.cell (p := ⟨wr.heap.size, 4, none⟩) (by simp)).trans (by go_simp); have hown1 := own_keeps hoA hb1; have e0 := (hbw1.cell (p := ⟨b, off + j * 5, none⟩) hb).trans m0; have e1 := (hbw1.cell (p := ⟨b, off + j * 5 + 1, none⟩) hb).trans m1; have e2 := (hbw1.cell (p := ⟨b, off + j * 5 + 2, none⟩) hb).trans m2; have e3 := (hbw1.cell (p := ⟨b, off + j * 5 + 3, none⟩) hb).trans m3; have e4 := (hbw1.cell (p := ⟨b, off + j * 5 + 4, none⟩) hb).trans m4) | (go_at_call 83; refine (HS.out _).mono ?_; rintro e' w2 ⟨rfl, rfl⟩))
                have hr2 : Below w2.heap.size w2 w2 := Below.refl _ _
                refine wp_region_held_drew (S := (fun w' => w'.cell? ⟨w.heap.size, 0, none⟩ = some (.string id) ∧ w'.cell? ⟨w.heap.size, 1, none⟩ = some (.int .i64 size) ∧ w'.cell? ⟨w.heap.size, 2, none⟩ = some (.slice p1 n1 c1) ∧ w'.cell? ⟨w.heap.size, 3, none⟩ = some (.slice p2 n2 c2) ∧ w'.cell? ⟨w.heap.size, 4, none⟩ = some (.slice p3 n3 c3) ∧ w'.cell? ⟨w.heap.size, 5, none⟩ = some (.slice (some ⟨b, off, none⟩) n4 c4) ∧ w'.cell? ⟨wr.heap.size, 0, none⟩ = some (.string cn) ∧ w'.cell? ⟨wr.heap.size, 1, none⟩ = some (.int .i64 ca) ∧ w'.cell? ⟨wr.heap.size, 2, none⟩ = some (.int .i64 cb) ∧ w'.cell? ⟨wr.heap.size, 3, none⟩ = some (.int .i64 cf) ∧ w'.cell? ⟨wr.heap.size, 4, none⟩ = some (.int .i64 cl) ∧ w'.cell? ⟨b, off + j * 5, none⟩ = some (.string dn) ∧ w'.cell? ⟨b, off + j * 5 + 1, none⟩ = some (.int .i64 da) ∧ w'.cell? ⟨b, off + j * 5 + 2, none⟩ = some (.int .i64 db) ∧ w'.cell? ⟨b, off + j * 5 + 3, none⟩ = some (.int .i64 df) ∧ w'.cell? ⟨b, off + j * 5 + 4, none⟩ = some (.int .i64 dl) ∧ Below w2.heap.size w2 w')) (by kernel_rfl) ?_ (fun hHeld => ?_)
                · (repeat' apply And.intro) <;> first | assumption | exact Below.drew (by assumption) | exact cell_keep (by assumption) hbq | exact below_keep (by first | assumption | exact Below.drew (by assumption)) (Nat.le_refl _) hbq
                refine wpAnyH_take (i := 0) (v := ?_) rfl (by kernel_rfl) (by kernel_rfl) (by kernel_rfl) (fun _ _ _ h => h) (Or.inl ⟨by kernel_rfl, ?_⟩) (by assumption) ?_
                rotate_left
                · intro w hSw; (try dsimp only at hSw); go_simp; (try with_reducible rfl)
                (try simp only [Act.put, List.setIfInBounds_toArray])
                refine wpAnyH_take (i := 1) (v := ?_) rfl (by kernel_rfl) (by kernel_rfl) (by kernel_rfl) (fun _ _ _ h => h) (Or.inl ⟨by kernel_rfl, ?_⟩) (by assumption) ?_
                rotate_left
                · intro w hSw; (try dsimp only at hSw); go_simp; (try with_reducible rfl)
                (try simp only [Act.put])
                refine wpAnyH_take (i := 2) (v := ?_) rfl (by kernel_rfl) (by kernel_rfl) (by kernel_rfl) (fun _ _ _ h => h) (Or.inl ⟨by kernel_rfl, ?_⟩) (by assumption) ?_
                rotate_left
                · intro w hSw; (try dsimp only at hSw); go_simp; (try with_reducible rfl)
                (try simp only [Act.put])
                refine wpAnyH_take (i := 3) (v := ?_) rfl (by kernel_rfl) (by kernel_rfl) (by kernel_rfl) (fun _ _ _ h => h) (Or.inl ⟨by kernel_rfl, ?_⟩) (by assumption) ?_
                rotate_left
                · intro w hSw; (try dsimp only at hSw); go_simp; (try with_reducible rfl)
                (try simp only [Act.put])
                refine wpAnyH_take (i := 4) (v := ?_) rfl (by kernel_rfl) (by kernel_rfl) (by kernel_rfl) (fun _ _ _ h => h) (Or.inl ⟨by kernel_rfl, ?_⟩) (by assumption) ?_
                rotate_left
                · intro w hSw; (try dsimp only at hSw); go_simp; (try with_reducible rfl)
                (try simp only [Act.put])
                refine wpAnyH_take (i := 5) (v := ?_) rfl (by kernel_rfl) (by kernel_rfl) (by kernel_rfl) (fun _ _ _ h => h) (Or.inl ⟨by kernel_rfl, ?_⟩) (by assumption) ?_
                rotate_left
                · intro w hSw; (try dsimp only at hSw); go_simp; (try with_reducible rfl)
                (try simp only [Act.put])
                refine wpAnyH_take (i := 6) (v := ?_) rfl (by kernel_rfl) (by kernel_rfl) (by kernel_rfl) (fun _ _ _ h => h) (Or.inl ⟨by kernel_rfl, ?_⟩) (by assumption) ?_
                rotate_left
                · intro w hSw; (try dsimp only at hSw); go_simp; (try with_reducible rfl)
                (try simp only [Act.put])
                refine wpAnyH_take (i := 7) (v := ?_) rfl (by kernel_rfl) (by kernel_rfl) (by kernel_rfl) (fun _ _ _ h => h) (Or.inl ⟨by kernel_rfl, ?_⟩) (by assumption) ?_
                rotate_left
                · intro w hSw; (try dsimp only at hSw); go_simp; (try with_reducible rfl)
                (try simp only [Act.put])
                refine wpAnyH_take (i := 8) (v := ?_) rfl (by kernel_rfl) (by kernel_rfl) (by kernel_rfl) (fun _ _ _ h => h) (Or.inl ⟨by kernel_rfl, ?_⟩) (by assumption) ?_
                rotate_left
                · intro w hSw; (try dsimp only at hSw); go_simp; (try with_reducible rfl)
                (try simp only [Act.put])
                refine wpAnyH_take (i := 9) (v := ?_) rfl (by kernel_rfl) (by kernel_rfl) (by kernel_rfl) (fun _ _ _ h => h) (Or.inl ⟨by kernel_rfl, ?_⟩) (by assumption) ?_
                rotate_left
                · intro w hSw; (try dsimp only at hSw); go_simp; (try with_reducible rfl)
                (try simp only [Act.put])
                refine wpAnyH_ready (rs := [10]) (by kernel_rfl) (by simp) ?_
                refine AllReadyH.cons rfl (fun K hK => ?_) AllReadyH.nil
                go_simp
                (first | (go_at_call 87; with_reducible refine (HBEG.out _).mono ?_; rintro e' wq ⟨rfl, hbq⟩))
                dsimp only
                refine hK.out _ _ ?_ (fun hHeld2 => ?_)
                · (repeat' apply And.intro) <;> first | assumption | exact Below.drew (by assumption) | exact cell_keep (by assumption) hbq | exact below_keep (by first | assumption | exact Below.drew (by assumption)) (Nat.le_refl _) hbq
                clear hK hHeld
                (try simp only [Act.put, List.setIfInBounds_toArray, List.set_cons_zero, List.set_cons_succ])
                refine wpAnyH_take (i := 11) (v := ?_) rfl (by kernel_rfl) (by kernel_rfl) (by kernel_rfl) (fun _ _ _ h => h) (Or.inl ⟨by kernel_rfl, ?_⟩) (by assumption) ?_
                rotate_left
                · intro w hSw; (try dsimp only at hSw); go_simp; (try with_reducible rfl)
                (try simp only [Act.put, List.setIfInBounds_toArray])
                refine wpAnyH_done (by kernel_rfl) ?_ _
                (try simp only [List.getElem_toArray, List.getElem_cons_succ, List.getElem_cons_zero, List.set_cons_zero, List.set_cons_succ])
                have hbq := drew_out hbq
                have hbwQ := below_keepB hbw1 hbw1.size hbq
                have hown1 := own_keeps hown1 hbq
                have g0 := cell_keep g0 hbq
                have g1 := cell_keep g1 hbq
                have g2 := cell_keep g2 hbq
                have g3 := cell_keep g3 hbq
                have g4 := cell_keep g4 hbq
                have g5 := cell_keep g5 hbq
                have f0 := cell_keep f0 hbq
                have f1 := cell_keep f1 hbq
                have f2 := cell_keep f2 hbq
                have f3 := cell_keep f3 hbq
                have f4 := cell_keep f4 hbq
                go_wp2_with fail
                go_ret
                exact ⟨ret_int HR.out.symm, hbwQ⟩
              · have hno : ¬ disord pre c := fun h => hbeg (HDB.out.1 h)
                rw [show begB c d1 = false by simpa using hbeg] at HBEG
                clear hbeg HDB
                obtain ⟨dn, da, db, df, dl⟩ := d1
                simp only at m0 m1 m2 m3 m4 HBEG
                have hneC : va.ownBlock ≠ some wr.heap.size := by
                  intro h
                  have := (own_lt hown h).2
                  omega
                have hneB : va.ownBlock ≠ some w.heap.size := by
                  intro h
                  have := (own_lt hown h).1
                  omega
                have hBG : ∀ q, va.ownBlock = some q → w.heap.size ≤ q := fun q h => by have := (own_lt hown h).1; omega
                have HDEL := Lib.hid (fun (W : World) (h1 : W.ownsRow (w.heap.size + 1) 84 5 va (aroundOf pre).length (cellsG encC (aroundOf pre))) (h2 : W.cell? ⟨wr.heap.size, 1, none⟩ = some (.int .i64 c.a)) => delete31_own (w.heap.size + 1) wr.heap.size c.a va (aroundOf pre) W (by have := HL.out; omega) h1 h2 hneC)
                rw [around_left hno] at HDEL
                have HOUT := Lib.hid (fun h => callErr_out (size := size) (nf := n1) (fs := fs) HZ.out HNB.out hno h)
                have HOK := Lib.hid (fun h1 h2 h3 => callErr_ok (size := size) (nf := n1) (fs := fs) HZ.out HNB.out hno h1 h2 h3)
                have HDEEP := Lib.hid (fun h1 h2 h3 => callErr_deep (size := size) (nf := n1) (fs := fs) HZ.out HNB.out hno h1 h2 h3)
                have HCUT := Lib.hid (cuts_iff (size := size) (nf := n1) HNEST.out HNB.out hno)
                have HDP := Lib.hid (fun h => deep_eq (size := size) (nf := n1) HNEST.out HNB.out hno h)
                have HWI := Lib.hid (inFB_within (fs := fs) (c := c) HPW.out hcab)
                have HLEN := Lib.hid (show (aroundOf (pre ++ [c])).length = (opens pre c).length + 1 by rw [around_snoc (size := size) (nf := n1) HNB.out, List.length_append]; rfl)
                have HCEL := Lib.hid (show cellsG encC (aroundOf (pre ++ [c])) = cellsG encC (opens pre c) ++ [.string c.n, .int .i64 c.a, .int .i64 c.b, .int .i64 c.f, .int .i64 c.l] by rw [around_snoc (size := size) (nf := n1) HNB.out, cellsC_snoc]; rfl)
                have HOL := Lib.hid (show (opens pre c).length ≤ 1000 by have := HL.out; have := HPL.out; exact Nat.le_trans (List.length_filter_le _ _) (by omega))
                have HNS := Lib.hid (fun h => nests_snoc (size := size) (nf := n1) (fs := fs) (c := c) HNEST.out h)
                clear hcab HZ HSP HBAD
                rcases hqi : inFB fs c with _ | _
                · rw [hqi] at HIN
                  have HR := Lib.hid (show calsErr size n1 fs [] l = 11 by
                    have hw : ¬ within fs c ∨ cuts pre c := .inl (fun h => by rw [HWI.out.2 h] at hqi; cases hqi)
                    rw [HE1.out (by rw [HOUT.out hw]; omega), HOUT.out hw])
                  clear hqi HOUT HOK HDEEP HCUT HDP HWI HNS HE1 HE0 HDIS HDIS0 HL HPL HNEST HNB
                  clear HLEN HCEL HOL HPRE HGK HT
                  obtain ⟨cn, ca, cb, cf, cl⟩ := c
                  simp only at *
                  go_wp2_with (first | (go_at_call 86; refine (HN1.out _).mono ?_; rintro e' w1 ⟨rfl, hb1⟩; have hbw1 := below_a1 hbw hbw.size hb1; have g0 : w1.cell? ⟨w.heap.size, 0, none⟩ = some (.string id) := (hb1.cell (p := ⟨w.heap.size, 0, none⟩) (by simp; omega)).trans ((World.cell?_alloc_lt _ _ _ hlt2).trans b0); have g1 : w1.cell? ⟨w.heap.size, 1, none⟩ = some (.int .i64 size) := (hb1.cell (p := ⟨w.heap.size, 1, none⟩) (by simp; omega)).trans ((World.cell?_alloc_lt _ _ _ hlt2).trans b1); have g2 : w1.cell? ⟨w.heap.size, 2, none⟩ = some (.slice p1 n1 c1) := (hb1.cell (p := ⟨w.heap.size, 2, none⟩) (by simp; omega)).trans ((World.cell?_alloc_lt _ _ _ hlt2).trans b2); have g3 : w1.cell? ⟨w.heap.size, 3, none⟩ = some (.slice p2 n2 c2) := (hb1.cell (p := ⟨w.heap.size, 3, none⟩) (by simp; omega)).trans ((World.cell?_alloc_lt _ _ _ hlt2).trans b3); have g4 : w1.cell? ⟨w.heap.size, 4, none⟩ = some (.slice p3 n3 c3) := (hb1.cell (p := ⟨w.heap.size, 4, none⟩) (by simp; omega)).trans ((World.cell?_alloc_lt _ _ _ hlt2).trans b4); have g5 : w1.cell? ⟨w.heap.size, 5, none⟩ = some (.slice (some ⟨b, off, none⟩) n4 c4) := (hb1.cell (p := ⟨w.heap.size, 5, none⟩) (by simp; omega)).trans ((World.cell?_alloc_lt _ _ _ hlt2).trans b5); have f0 : w1.cell? ⟨wr.heap.size, 0, none⟩ = some (.string cn) := (hb1.cell (p := ⟨wr.heap.size, 0, none⟩) (by simp)).trans (by go_simp); have f1 : w1.cell? ⟨wr.heap.size, 1, none⟩ = some (.int .i64 ca) := (hb1.cell (p := ⟨wr.heap.size, 1, none⟩) (by simp)).trans (by go_simp); have f2 : w1.cell? ⟨wr.heap.size, 2, none⟩ = some (.int .i64 cb) := (hb1.cell (p := ⟨wr.heap.size, 2, none⟩) (by simp)).trans (by go_simp); have f3 : w1.cell? ⟨wr.heap.size, 3, none⟩ = some (.int .i64 cf) := (hb1.cell (p := ⟨wr.heap.size, 3, none⟩) (by simp)).trans (by go_simp); have f4 : w1.cell? ⟨wr.heap.size, 4, none⟩ = some (.int .i64 cl) := (hb1.cell (p := ⟨wr.heap.size, 4, none⟩) (by simp)).trans (by go_simp); have hown1 := own_keeps hoA hb1; have e0 := (hbw1.cell (p := ⟨b, off + j * 5, none⟩) hb).trans m0; have e1 := (hbw1.cell (p := ⟨b, off + j * 5 + 1, none⟩) hb).trans m1; have e2 := (hbw1.cell (p := ⟨b, off + j * 5 + 2, none⟩) hb).trans m2; have e3 := (hbw1.cell (p := ⟨b, off + j * 5 + 3, none⟩) hb).trans m3; have e4 := (hbw1.cell (p := ⟨b, off + j * 5 + 4, none⟩) hb).trans m4) | (go_at_call 83; refine (HS.out _).mono ?_; rintro e' w2 ⟨rfl, rfl⟩))
                  have hr2 : Below w2.heap.size w2 w2 := Below.refl _ _
                  refine wp_region_held_drew (S := (fun w' => w'.cell? ⟨w.heap.size, 0, none⟩ = some (.string id) ∧ w'.cell? ⟨w.heap.size, 1, none⟩ = some (.int .i64 size) ∧ w'.cell? ⟨w.heap.size, 2, none⟩ = some (.slice p1 n1 c1) ∧ w'.cell? ⟨w.heap.size, 3, none⟩ = some (.slice p2 n2 c2) ∧ w'.cell? ⟨w.heap.size, 4, none⟩ = some (.slice p3 n3 c3) ∧ w'.cell? ⟨w.heap.size, 5, none⟩ = some (.slice (some ⟨b, off, none⟩) n4 c4) ∧ w'.cell? ⟨wr.heap.size, 0, none⟩ = some (.string cn) ∧ w'.cell? ⟨wr.heap.size, 1, none⟩ = some (.int .i64 ca) ∧ w'.cell? ⟨wr.heap.size, 2, none⟩ = some (.int .i64 cb) ∧ w'.cell? ⟨wr.heap.size, 3, none⟩ = some (.int .i64 cf) ∧ w'.cell? ⟨wr.heap.size, 4, none⟩ = some (.int .i64 cl) ∧ w'.cell? ⟨b, off + j * 5, none⟩ = some (.string dn) ∧ w'.cell? ⟨b, off + j * 5 + 1, none⟩ = some (.int .i64 da) ∧ w'.cell? ⟨b, off + j * 5 + 2, none⟩ = some (.int .i64 db) ∧ w'.cell? ⟨b, off + j * 5 + 3, none⟩ = some (.int .i64 df) ∧ w'.cell? ⟨b, off + j * 5 + 4, none⟩ = some (.int .i64 dl) ∧ Below w2.heap.size w2 w')) (by kernel_rfl) ?_ (fun hHeld => ?_)
                  · (repeat' apply And.intro) <;> first | assumption | exact Below.drew (by assumption) | exact cell_keep (by assumption) hbq | exact below_keep (by first | assumption | exact Below.drew (by assumption)) (Nat.le_refl _) hbq
                  refine wpAnyH_take (i := 0) (v := ?_) rfl (by kernel_rfl) (by kernel_rfl) (by kernel_rfl) (fun _ _ _ h => h) (Or.inl ⟨by kernel_rfl, ?_⟩) (by assumption) ?_
                  rotate_left
                  · intro w hSw; (try dsimp only at hSw); go_simp; (try with_reducible rfl)
                  (try simp only [Act.put, List.setIfInBounds_toArray])
                  refine wpAnyH_take (i := 1) (v := ?_) rfl (by kernel_rfl) (by kernel_rfl) (by kernel_rfl) (fun _ _ _ h => h) (Or.inl ⟨by kernel_rfl, ?_⟩) (by assumption) ?_
                  rotate_left
                  · intro w hSw; (try dsimp only at hSw); go_simp; (try with_reducible rfl)
                  (try simp only [Act.put])
                  refine wpAnyH_take (i := 2) (v := ?_) rfl (by kernel_rfl) (by kernel_rfl) (by kernel_rfl) (fun _ _ _ h => h) (Or.inl ⟨by kernel_rfl, ?_⟩) (by assumption) ?_
                  rotate_left
                  · intro w hSw; (try dsimp only at hSw); go_simp; (try with_reducible rfl)
                  (try simp only [Act.put])
                  refine wpAnyH_take (i := 3) (v := ?_) rfl (by kernel_rfl) (by kernel_rfl) (by kernel_rfl) (fun _ _ _ h => h) (Or.inl ⟨by kernel_rfl, ?_⟩) (by assumption) ?_
                  rotate_left
                  · intro w hSw; (try dsimp only at hSw); go_simp; (try with_reducible rfl)
                  (try simp only [Act.put])
                  refine wpAnyH_take (i := 4) (v := ?_) rfl (by kernel_rfl) (by kernel_rfl) (by kernel_rfl) (fun _ _ _ h => h) (Or.inl ⟨by kernel_rfl, ?_⟩) (by assumption) ?_
                  rotate_left
                  · intro w hSw; (try dsimp only at hSw); go_simp; (try with_reducible rfl)
                  (try simp only [Act.put])
                  refine wpAnyH_take (i := 5) (v := ?_) rfl (by kernel_rfl) (by kernel_rfl) (by kernel_rfl) (fun _ _ _ h => h) (Or.inl ⟨by kernel_rfl, ?_⟩) (by assumption) ?_
                  rotate_left
                  · intro w hSw; (try dsimp only at hSw); go_simp; (try with_reducible rfl)
                  (try simp only [Act.put])
                  refine wpAnyH_take (i := 6) (v := ?_) rfl (by kernel_rfl) (by kernel_rfl) (by kernel_rfl) (fun _ _ _ h => h) (Or.inl ⟨by kernel_rfl, ?_⟩) (by assumption) ?_
                  rotate_left
                  · intro w hSw; (try dsimp only at hSw); go_simp; (try with_reducible rfl)
                  (try simp only [Act.put])
                  refine wpAnyH_take (i := 7) (v := ?_) rfl (by kernel_rfl) (by kernel_rfl) (by kernel_rfl) (fun _ _ _ h => h) (Or.inl ⟨by kernel_rfl, ?_⟩) (by assumption) ?_
                  rotate_left
                  · intro w hSw; (try dsimp only at hSw); go_simp; (try with_reducible rfl)
                  (try simp only [Act.put])
                  refine wpAnyH_take (i := 8) (v := ?_) rfl (by kernel_rfl) (by kernel_rfl) (by kernel_rfl) (fun _ _ _ h => h) (Or.inl ⟨by kernel_rfl, ?_⟩) (by assumption) ?_
                  rotate_left
                  · intro w hSw; (try dsimp only at hSw); go_simp; (try with_reducible rfl)
                  (try simp only [Act.put])
                  refine wpAnyH_take (i := 9) (v := ?_) rfl (by kernel_rfl) (by kernel_rfl) (by kernel_rfl) (fun _ _ _ h => h) (Or.inl ⟨by kernel_rfl, ?_⟩) (by assumption) ?_
                  rotate_left
                  · intro w hSw; (try dsimp only at hSw); go_simp; (try with_reducible rfl)
                  (try simp only [Act.put])
                  refine wpAnyH_ready (rs := [10]) (by kernel_rfl) (by simp) ?_
                  refine AllReadyH.cons rfl (fun K hK => ?_) AllReadyH.nil
                  go_simp
                  (first | (go_at_call 87; with_reducible refine (HBEG.out _).mono ?_; rintro e' wq ⟨rfl, hbq⟩))
                  dsimp only
                  refine hK.out _ _ ?_ (fun hHeld2 => ?_)
                  · (repeat' apply And.intro) <;> first | assumption | exact Below.drew (by assumption) | exact cell_keep (by assumption) hbq | exact below_keep (by first | assumption | exact Below.drew (by assumption)) (Nat.le_refl _) hbq
                  clear hK hHeld
                  (try simp only [Act.put, List.setIfInBounds_toArray, List.set_cons_zero, List.set_cons_succ])
                  refine wpAnyH_take (i := 11) (v := ?_) rfl (by kernel_rfl) (by kernel_rfl) (by kernel_rfl) (fun _ _ _ h => h) (Or.inl ⟨by kernel_rfl, ?_⟩) (by assumption) ?_
                  rotate_left
                  · intro w hSw; (try dsimp only at hSw); go_simp; (try with_reducible rfl)
                  (try simp only [Act.put, List.setIfInBounds_toArray])
                  refine wpAnyH_done (by kernel_rfl) ?_ _
                  (try simp only [List.getElem_toArray, List.getElem_cons_succ, List.getElem_cons_zero, List.set_cons_zero, List.set_cons_succ])
                  have hbq := drew_out hbq
                  have hbwQ := below_keepB hbw1 hbw1.size hbq
                  have hown1 := own_keeps hown1 hbq
                  have g0 := cell_keep g0 hbq
                  have g1 := cell_keep g1 hbq
                  have g2 := cell_keep g2 hbq
                  have g3 := cell_keep g3 hbq
                  have g4 := cell_keep g4 hbq
                  have g5 := cell_keep g5 hbq
                  have f0 := cell_keep f0 hbq
                  have f1 := cell_keep f1 hbq
                  have f2 := cell_keep f2 hbq
                  have f3 := cell_keep f3 hbq
                  have f4 := cell_keep f4 hbq
                  go_wp2_with (first | (go_at_call 88; with_reducible refine (HDEL.out _ (by assumption) (by assumption)).mono ?_; rintro e' w3 ⟨v', rfl, hown3, hgr3, hsm3⟩; have g0 := cell_grown hgr3 g0 hneB; have g1 := cell_grown hgr3 g1 hneB; have g2 := cell_grown hgr3 g2 hneB; have g3 := cell_grown hgr3 g3 hneB; have g4 := cell_grown hgr3 g4 hneB; have g5 := cell_grown hgr3 g5 hneB; have f0 := cell_grown hgr3 f0 hneC; have f1 := cell_grown hgr3 f1 hneC; have f2 := cell_grown hgr3 f2 hneC; have f3 := cell_grown hgr3 f3 hneC; have f4 := cell_grown hgr3 f4 hneC; have hbw3 := below_grown hbwQ hgr3 hBG hbwQ.size))
                  obtain ⟨p', cap', rfl⟩ := own_len hown3
                  have hr3 : Below w3.heap.size w3 w3 := Below.refl _ _
                  refine wp_region_held_drew (S := (fun w' => w'.cell? ⟨w.heap.size, 0, none⟩ = some (.string id) ∧ w'.cell? ⟨w.heap.size, 1, none⟩ = some (.int .i64 size) ∧ w'.cell? ⟨w.heap.size, 2, none⟩ = some (.slice p1 n1 c1) ∧ w'.cell? ⟨w.heap.size, 3, none⟩ = some (.slice p2 n2 c2) ∧ w'.cell? ⟨w.heap.size, 4, none⟩ = some (.slice p3 n3 c3) ∧ w'.cell? ⟨w.heap.size, 5, none⟩ = some (.slice (some ⟨b, off, none⟩) n4 c4) ∧ w'.cell? ⟨wr.heap.size, 0, none⟩ = some (.string cn) ∧ w'.cell? ⟨wr.heap.size, 1, none⟩ = some (.int .i64 ca) ∧ w'.cell? ⟨wr.heap.size, 2, none⟩ = some (.int .i64 cb) ∧ w'.cell? ⟨wr.heap.size, 3, none⟩ = some (.int .i64 cf) ∧ w'.cell? ⟨wr.heap.size, 4, none⟩ = some (.int .i64 cl) ∧ Below w3.heap.size w3 w')) (by kernel_rfl) ?_ (fun hHeld => ?_)
                  · (repeat' apply And.intro) <;> first | assumption | exact Below.drew (by assumption) | exact cell_keep (by assumption) hbX | exact below_keep (by first | assumption | exact Below.drew (by assumption)) (Nat.le_refl _) hbX
                  refine wpAnyH_take (i := 0) (v := ?_) rfl (by kernel_rfl) (by kernel_rfl) (by kernel_rfl) (fun _ _ _ h => h) (Or.inl ⟨by kernel_rfl, ?_⟩) (by assumption) ?_
                  rotate_left
                  · intro w hSw; (try dsimp only at hSw); go_simp; (try with_reducible rfl)
                  (try simp only [Act.put, List.setIfInBounds_toArray])
                  refine wpAnyH_take (i := 1) (v := ?_) rfl (by kernel_rfl) (by kernel_rfl) (by kernel_rfl) (fun _ _ _ h => h) (Or.inl ⟨by kernel_rfl, ?_⟩) (by assumption) ?_
                  rotate_left
                  · intro w hSw; (try dsimp only at hSw); go_simp; (try with_reducible rfl)
                  (try simp only [Act.put])
                  refine wpAnyH_ready (rs := [2]) (by kernel_rfl) (by simp) ?_
                  refine AllReadyH.cons rfl (fun K hK => ?_) AllReadyH.nil
                  go_simp
                  (first | (go_at_call 90; with_reducible refine (HIN.out _ (below_keepB hbw3 hbw3.size (by first | assumption | exact Below.drew (by assumption)))).mono ?_; rintro e' wX ⟨rfl, hbX⟩))
                  dsimp only
                  refine hK.out _ _ ?_ (fun hHeld2 => ?_)
                  · (repeat' apply And.intro) <;> first | assumption | exact Below.drew (by assumption) | exact cell_keep (by assumption) hbX | exact below_keep (by first | assumption | exact Below.drew (by assumption)) (Nat.le_refl _) hbX
                  clear hK hHeld
                  (try simp only [Act.put, List.setIfInBounds_toArray, List.set_cons_zero, List.set_cons_succ])
                  refine wpAnyH_take (i := 3) (v := ?_) rfl (by kernel_rfl) (by kernel_rfl) (by kernel_rfl) (fun _ _ _ h => h) (Or.inl ⟨by kernel_rfl, ?_⟩) (by assumption) ?_
                  rotate_left
                  · intro w hSw; (try dsimp only at hSw); go_simp; (try with_reducible rfl)
                  (try simp only [Act.put, List.setIfInBounds_toArray])
                  refine wpAnyH_take (i := 4) (v := ?_) rfl (by kernel_rfl) (by kernel_rfl) (by kernel_rfl) (fun _ _ _ h => h) (Or.inl ⟨by kernel_rfl, ?_⟩) (by assumption) ?_
                  rotate_left
                  · intro w hSw; (try dsimp only at hSw); go_simp; (try with_reducible rfl)
                  (try simp only [Act.put])
                  refine wpAnyH_take (i := 5) (v := undef) rfl (by kernel_rfl) (by kernel_rfl) (by kernel_rfl) (fun _ _ _ h => h) (Or.inr ⟨by kernel_rfl, rfl⟩) (by assumption) ?_
                  (try simp only [Act.put])
                  refine wpAnyH_take (i := 6) (v := undef) rfl (by kernel_rfl) (by kernel_rfl) (by kernel_rfl) (fun _ _ _ h => h) (Or.inr ⟨by kernel_rfl, rfl⟩) (by assumption) ?_
                  (try simp only [Act.put])
                  refine wpAnyH_take (i := 7) (v := undef) rfl (by kernel_rfl) (by kernel_rfl) (by kernel_rfl) (fun _ _ _ h => h) (Or.inr ⟨by kernel_rfl, rfl⟩) (by assumption) ?_
                  (try simp only [Act.put])
                  refine wpAnyH_take (i := 8) (v := undef) rfl (by kernel_rfl) (by kernel_rfl) (by kernel_rfl) (fun _ _ _ h => h) (Or.inr ⟨by kernel_rfl, rfl⟩) (by assumption) ?_
                  (try simp only [Act.put])
                  refine wpAnyH_take (i := 9) (v := undef) rfl (by kernel_rfl) (by kernel_rfl) (by kernel_rfl) (fun _ _ _ h => h) (Or.inr ⟨by kernel_rfl, rfl⟩) (by assumption) ?_
                  (try simp only [Act.put])
                  refine wpAnyH_take (i := 10) (v := undef) rfl (by kernel_rfl) (by kernel_rfl) (by kernel_rfl) (fun _ _ _ h => h) (Or.inr ⟨by kernel_rfl, rfl⟩) (by assumption) ?_
                  (try simp only [Act.put])
                  refine wpAnyH_take (i := 11) (v := undef) rfl (by kernel_rfl) (by kernel_rfl) (by kernel_rfl) (fun _ _ _ h => h) (Or.inr ⟨by kernel_rfl, rfl⟩) (by assumption) ?_
                  (try simp only [Act.put])
                  refine wpAnyH_take (i := 12) (v := undef) rfl (by kernel_rfl) (by kernel_rfl) (by kernel_rfl) (fun _ _ _ h => h) (Or.inr ⟨by kernel_rfl, rfl⟩) (by assumption) ?_
                  (try simp only [Act.put])
                  refine wpAnyH_take (i := 13) (v := undef) rfl (by kernel_rfl) (by kernel_rfl) (by kernel_rfl) (fun _ _ _ h => h) (Or.inr ⟨by kernel_rfl, rfl⟩) (by assumption) ?_
                  (try simp only [Act.put])
                  refine wpAnyH_take (i := 14) (v := undef) rfl (by kernel_rfl) (by kernel_rfl) (by kernel_rfl) (fun _ _ _ h => h) (Or.inr ⟨by kernel_rfl, rfl⟩) (by assumption) ?_
                  (try simp only [Act.put])
                  refine wpAnyH_take (i := 15) (v := undef) rfl (by kernel_rfl) (by kernel_rfl) (by kernel_rfl) (fun _ _ _ h => h) (Or.inr ⟨by kernel_rfl, rfl⟩) (by assumption) ?_
                  (try simp only [Act.put])
                  refine wpAnyH_take (i := 16) (v := undef) rfl (by kernel_rfl) (by kernel_rfl) (by kernel_rfl) (fun _ _ _ h => h) (Or.inr ⟨by kernel_rfl, rfl⟩) (by assumption) ?_
                  (try simp only [Act.put])
                  refine wpAnyH_take (i := 17) (v := undef) rfl (by kernel_rfl) (by kernel_rfl) (by kernel_rfl) (fun _ _ _ h => h) (Or.inr ⟨by kernel_rfl, rfl⟩) (by assumption) ?_
                  (try simp only [Act.put])
                  refine wpAnyH_take (i := 18) (v := undef) rfl (by kernel_rfl) (by kernel_rfl) (by kernel_rfl) (fun _ _ _ h => h) (Or.inr ⟨by kernel_rfl, rfl⟩) (by assumption) ?_
                  (try simp only [Act.put])
                  refine wpAnyH_take (i := 19) (v := undef) rfl (by kernel_rfl) (by kernel_rfl) (by kernel_rfl) (fun _ _ _ h => h) (Or.inr ⟨by kernel_rfl, rfl⟩) (by assumption) ?_
                  (try simp only [Act.put])
                  refine wpAnyH_take (i := 20) (v := ?_) rfl (by kernel_rfl) (by kernel_rfl) (by kernel_rfl) (fun _ _ _ h => h) (Or.inl ⟨by kernel_rfl, ?_⟩) (by assumption) ?_
                  rotate_left
                  · intro w hSw; (try dsimp only at hSw); go_simp; (try with_reducible rfl)
                  (try simp only [Act.put])
                  refine wpAnyH_done (by kernel_rfl) ?_ _
                  (try simp only [List.getElem_toArray, List.getElem_cons_succ, List.getElem_cons_zero, List.setIfInBounds_toArray, List.set_cons_zero, List.set_cons_succ])
                  have hbX := drew_out hbX
                  go_wp2_with fail
                  go_ret
                  exact ⟨ret_int HR.out.symm, below_keepB hbw3 hbw3.size hbX⟩
                · rw [hqi] at HIN
                  rcases List.eq_nil_or_concat (opens pre c) with hL | ⟨qs, d, hL⟩
                  · have hnc : ¬ cuts pre c := fun h => by obtain ⟨e, he, _⟩ := HCUT.out.1 h; rw [hL] at he; simp at he
                    have hz0 := HOK.out (HWI.out.1 hqi) hnc (by rw [HDP.out hnc, hL]; simp)
                    have HR := Lib.hid (HE0.out hz0)
                    have HNS1 := Lib.hid (HNS.out hz0)
                    have hn0 : (opens pre c).length = 0 := by rw [hL]; rfl
                    clear hz0 hnc hL
                    clear hqi HOUT HOK HDEEP HCUT HDP HWI HNS HE1 HE0 HDIS HDIS0 HL HPL HNEST HNB
                    generalize (opens pre c).length = n at *
                    generalize cellsG encC (opens pre c) = xs at *
                    subst hn0
                    obtain ⟨cn, ca, cb, cf, cl⟩ := c
                    simp only at *
                    go_wp2_with (first | (go_at_call 86; refine (HN1.out _).mono ?_; rintro e' w1 ⟨rfl, hb1⟩; have hbw1 := below_a1 hbw hbw.size hb1; have g0 : w1.cell? ⟨w.heap.size, 0, none⟩ = some (.string id) := (hb1.cell (p := ⟨w.heap.size, 0, none⟩) (by simp; omega)).trans ((World.cell?_alloc_lt _ _ _ hlt2).trans b0); have g1 : w1.cell? ⟨w.heap.size, 1, none⟩ = some (.int .i64 size) := (hb1.cell (p := ⟨w.heap.size, 1, none⟩) (by simp; omega)).trans ((World.cell?_alloc_lt _ _ _ hlt2).trans b1); have g2 : w1.cell? ⟨w.heap.size, 2, none⟩ = some (.slice p1 n1 c1) := (hb1.cell (p := ⟨w.heap.size, 2, none⟩) (by simp; omega)).trans ((World.cell?_alloc_lt _ _ _ hlt2).trans b2); have g3 : w1.cell? ⟨w.heap.size, 3, none⟩ = some (.slice p2 n2 c2) := (hb1.cell (p := ⟨w.heap.size, 3, none⟩) (by simp; omega)).trans ((World.cell?_alloc_lt _ _ _ hlt2).trans b3); have g4 : w1.cell? ⟨w.heap.size, 4, none⟩ = some (.slice p3 n3 c3) := (hb1.cell (p := ⟨w.heap.size, 4, none⟩) (by simp; omega)).trans ((World.cell?_alloc_lt _ _ _ hlt2).trans b4); have g5 : w1.cell? ⟨w.heap.size, 5, none⟩ = some (.slice (some ⟨b, off, none⟩) n4 c4) := (hb1.cell (p := ⟨w.heap.size, 5, none⟩) (by simp; omega)).trans ((World.cell?_alloc_lt _ _ _ hlt2).trans b5); have f0 : w1.cell? ⟨wr.heap.size, 0, none⟩ = some (.string cn) := (hb1.cell (p := ⟨wr.heap.size, 0, none⟩) (by simp)).trans (by go_simp); have f1 : w1.cell? ⟨wr.heap.size, 1, none⟩ = some (.int .i64 ca) := (hb1.cell (p := ⟨wr.heap.size, 1, none⟩) (by simp)).trans (by go_simp); have f2 : w1.cell? ⟨wr.heap.size, 2, none⟩ = some (.int .i64 cb) := (hb1.cell (p := ⟨wr.heap.size, 2, none⟩) (by simp)).trans (by go_simp); have f3 : w1.cell? ⟨wr.heap.size, 3, none⟩ = some (.int .i64 cf) := (hb1.cell (p := ⟨wr.heap.size, 3, none⟩) (by simp)).trans (by go_simp); have f4 : w1.cell? ⟨wr.heap.size, 4, none⟩ = some (.int .i64 cl) := (hb1.cell (p := ⟨wr.heap.size, 4, none⟩) (by simp)).trans (by go_simp); have hown1 := own_keeps hoA hb1; have e0 := (hbw1.cell (p := ⟨b, off + j * 5, none⟩) hb).trans m0; have e1 := (hbw1.cell (p := ⟨b, off + j * 5 + 1, none⟩) hb).trans m1; have e2 := (hbw1.cell (p := ⟨b, off + j * 5 + 2, none⟩) hb).trans m2; have e3 := (hbw1.cell (p := ⟨b, off + j * 5 + 3, none⟩) hb).trans m3; have e4 := (hbw1.cell (p := ⟨b, off + j * 5 + 4, none⟩) hb).trans m4) | (go_at_call 83; refine (HS.out _).mono ?_; rintro e' w2 ⟨rfl, rfl⟩))
                    have hr2 : Below w2.heap.size w2 w2 := Below.refl _ _
                    refine wp_region_held_drew (S := (fun w' => w'.cell? ⟨w.heap.size, 0, none⟩ = some (.string id) ∧ w'.cell? ⟨w.heap.size, 1, none⟩ = some (.int .i64 size) ∧ w'.cell? ⟨w.heap.size, 2, none⟩ = some (.slice p1 n1 c1) ∧ w'.cell? ⟨w.heap.size, 3, none⟩ = some (.slice p2 n2 c2) ∧ w'.cell? ⟨w.heap.size, 4, none⟩ = some (.slice p3 n3 c3) ∧ w'.cell? ⟨w.heap.size, 5, none⟩ = some (.slice (some ⟨b, off, none⟩) n4 c4) ∧ w'.cell? ⟨wr.heap.size, 0, none⟩ = some (.string cn) ∧ w'.cell? ⟨wr.heap.size, 1, none⟩ = some (.int .i64 ca) ∧ w'.cell? ⟨wr.heap.size, 2, none⟩ = some (.int .i64 cb) ∧ w'.cell? ⟨wr.heap.size, 3, none⟩ = some (.int .i64 cf) ∧ w'.cell? ⟨wr.heap.size, 4, none⟩ = some (.int .i64 cl) ∧ w'.cell? ⟨b, off + j * 5, none⟩ = some (.string dn) ∧ w'.cell? ⟨b, off + j * 5 + 1, none⟩ = some (.int .i64 da) ∧ w'.cell? ⟨b, off + j * 5 + 2, none⟩ = some (.int .i64 db) ∧ w'.cell? ⟨b, off + j * 5 + 3, none⟩ = some (.int .i64 df) ∧ w'.cell? ⟨b, off + j * 5 + 4, none⟩ = some (.int .i64 dl) ∧ Below w2.heap.size w2 w')) (by kernel_rfl) ?_ (fun hHeld => ?_)
                    · (repeat' apply And.intro) <;> first | assumption | exact Below.drew (by assumption) | exact cell_keep (by assumption) hbq | exact below_keep (by first | assumption | exact Below.drew (by assumption)) (Nat.le_refl _) hbq
                    refine wpAnyH_take (i := 0) (v := ?_) rfl (by kernel_rfl) (by kernel_rfl) (by kernel_rfl) (fun _ _ _ h => h) (Or.inl ⟨by kernel_rfl, ?_⟩) (by assumption) ?_
                    rotate_left
                    · intro w hSw; (try dsimp only at hSw); go_simp; (try with_reducible rfl)
                    (try simp only [Act.put, List.setIfInBounds_toArray])
                    refine wpAnyH_take (i := 1) (v := ?_) rfl (by kernel_rfl) (by kernel_rfl) (by kernel_rfl) (fun _ _ _ h => h) (Or.inl ⟨by kernel_rfl, ?_⟩) (by assumption) ?_
                    rotate_left
                    · intro w hSw; (try dsimp only at hSw); go_simp; (try with_reducible rfl)
                    (try simp only [Act.put])
                    refine wpAnyH_take (i := 2) (v := ?_) rfl (by kernel_rfl) (by kernel_rfl) (by kernel_rfl) (fun _ _ _ h => h) (Or.inl ⟨by kernel_rfl, ?_⟩) (by assumption) ?_
                    rotate_left
                    · intro w hSw; (try dsimp only at hSw); go_simp; (try with_reducible rfl)
                    (try simp only [Act.put])
                    refine wpAnyH_take (i := 3) (v := ?_) rfl (by kernel_rfl) (by kernel_rfl) (by kernel_rfl) (fun _ _ _ h => h) (Or.inl ⟨by kernel_rfl, ?_⟩) (by assumption) ?_
                    rotate_left
                    · intro w hSw; (try dsimp only at hSw); go_simp; (try with_reducible rfl)
                    (try simp only [Act.put])
                    refine wpAnyH_take (i := 4) (v := ?_) rfl (by kernel_rfl) (by kernel_rfl) (by kernel_rfl) (fun _ _ _ h => h) (Or.inl ⟨by kernel_rfl, ?_⟩) (by assumption) ?_
                    rotate_left
                    · intro w hSw; (try dsimp only at hSw); go_simp; (try with_reducible rfl)
                    (try simp only [Act.put])
                    refine wpAnyH_take (i := 5) (v := ?_) rfl (by kernel_rfl) (by kernel_rfl) (by kernel_rfl) (fun _ _ _ h => h) (Or.inl ⟨by kernel_rfl, ?_⟩) (by assumption) ?_
                    rotate_left
                    · intro w hSw; (try dsimp only at hSw); go_simp; (try with_reducible rfl)
                    (try simp only [Act.put])
                    refine wpAnyH_take (i := 6) (v := ?_) rfl (by kernel_rfl) (by kernel_rfl) (by kernel_rfl) (fun _ _ _ h => h) (Or.inl ⟨by kernel_rfl, ?_⟩) (by assumption) ?_
                    rotate_left
                    · intro w hSw; (try dsimp only at hSw); go_simp; (try with_reducible rfl)
                    (try simp only [Act.put])
                    refine wpAnyH_take (i := 7) (v := ?_) rfl (by kernel_rfl) (by kernel_rfl) (by kernel_rfl) (fun _ _ _ h => h) (Or.inl ⟨by kernel_rfl, ?_⟩) (by assumption) ?_
                    rotate_left
                    · intro w hSw; (try dsimp only at hSw); go_simp; (try with_reducible rfl)
                    (try simp only [Act.put])
                    refine wpAnyH_take (i := 8) (v := ?_) rfl (by kernel_rfl) (by kernel_rfl) (by kernel_rfl) (fun _ _ _ h => h) (Or.inl ⟨by kernel_rfl, ?_⟩) (by assumption) ?_
                    rotate_left
                    · intro w hSw; (try dsimp only at hSw); go_simp; (try with_reducible rfl)
                    (try simp only [Act.put])
                    refine wpAnyH_take (i := 9) (v := ?_) rfl (by kernel_rfl) (by kernel_rfl) (by kernel_rfl) (fun _ _ _ h => h) (Or.inl ⟨by kernel_rfl, ?_⟩) (by assumption) ?_
                    rotate_left
                    · intro w hSw; (try dsimp only at hSw); go_simp; (try with_reducible rfl)
                    (try simp only [Act.put])
                    refine wpAnyH_ready (rs := [10]) (by kernel_rfl) (by simp) ?_
                    refine AllReadyH.cons rfl (fun K hK => ?_) AllReadyH.nil
                    go_simp
                    (first | (go_at_call 87; with_reducible refine (HBEG.out _).mono ?_; rintro e' wq ⟨rfl, hbq⟩))
                    dsimp only
                    refine hK.out _ _ ?_ (fun hHeld2 => ?_)
                    · (repeat' apply And.intro) <;> first | assumption | exact Below.drew (by assumption) | exact cell_keep (by assumption) hbq | exact below_keep (by first | assumption | exact Below.drew (by assumption)) (Nat.le_refl _) hbq
                    clear hK hHeld
                    (try simp only [Act.put, List.setIfInBounds_toArray, List.set_cons_zero, List.set_cons_succ])
                    refine wpAnyH_take (i := 11) (v := ?_) rfl (by kernel_rfl) (by kernel_rfl) (by kernel_rfl) (fun _ _ _ h => h) (Or.inl ⟨by kernel_rfl, ?_⟩) (by assumption) ?_
                    rotate_left
                    · intro w hSw; (try dsimp only at hSw); go_simp; (try with_reducible rfl)
                    (try simp only [Act.put, List.setIfInBounds_toArray])
                    refine wpAnyH_done (by kernel_rfl) ?_ _
                    (try simp only [List.getElem_toArray, List.getElem_cons_succ, List.getElem_cons_zero, List.set_cons_zero, List.set_cons_succ])
                    have hbq := drew_out hbq
                    have hbwQ := below_keepB hbw1 hbw1.size hbq
                    have hown1 := own_keeps hown1 hbq
                    have g0 := cell_keep g0 hbq
                    have g1 := cell_keep g1 hbq
                    have g2 := cell_keep g2 hbq
                    have g3 := cell_keep g3 hbq
                    have g4 := cell_keep g4 hbq
                    have g5 := cell_keep g5 hbq
                    have f0 := cell_keep f0 hbq
                    have f1 := cell_keep f1 hbq
                    have f2 := cell_keep f2 hbq
                    have f3 := cell_keep f3 hbq
                    have f4 := cell_keep f4 hbq
                    go_wp2_with (first | (go_at_call 88; with_reducible refine (HDEL.out _ (by assumption) (by assumption)).mono ?_; rintro e' w3 ⟨v', rfl, hown3, hgr3, hsm3⟩; have g0 := cell_grown hgr3 g0 hneB; have g1 := cell_grown hgr3 g1 hneB; have g2 := cell_grown hgr3 g2 hneB; have g3 := cell_grown hgr3 g3 hneB; have g4 := cell_grown hgr3 g4 hneB; have g5 := cell_grown hgr3 g5 hneB; have f0 := cell_grown hgr3 f0 hneC; have f1 := cell_grown hgr3 f1 hneC; have f2 := cell_grown hgr3 f2 hneC; have f3 := cell_grown hgr3 f3 hneC; have f4 := cell_grown hgr3 f4 hneC; have hbw3 := below_grown hbwQ hgr3 hBG hbwQ.size))
                    obtain ⟨p', cap', rfl⟩ := own_len hown3
                    have hr3 : Below w3.heap.size w3 w3 := Below.refl _ _
                    refine wp_region_held_drew (S := (fun w' => w'.cell? ⟨w.heap.size, 0, none⟩ = some (.string id) ∧ w'.cell? ⟨w.heap.size, 1, none⟩ = some (.int .i64 size) ∧ w'.cell? ⟨w.heap.size, 2, none⟩ = some (.slice p1 n1 c1) ∧ w'.cell? ⟨w.heap.size, 3, none⟩ = some (.slice p2 n2 c2) ∧ w'.cell? ⟨w.heap.size, 4, none⟩ = some (.slice p3 n3 c3) ∧ w'.cell? ⟨w.heap.size, 5, none⟩ = some (.slice (some ⟨b, off, none⟩) n4 c4) ∧ w'.cell? ⟨wr.heap.size, 0, none⟩ = some (.string cn) ∧ w'.cell? ⟨wr.heap.size, 1, none⟩ = some (.int .i64 ca) ∧ w'.cell? ⟨wr.heap.size, 2, none⟩ = some (.int .i64 cb) ∧ w'.cell? ⟨wr.heap.size, 3, none⟩ = some (.int .i64 cf) ∧ w'.cell? ⟨wr.heap.size, 4, none⟩ = some (.int .i64 cl) ∧ Below w3.heap.size w3 w')) (by kernel_rfl) ?_ (fun hHeld => ?_)
                    · (repeat' apply And.intro) <;> first | assumption | exact Below.drew (by assumption) | exact cell_keep (by assumption) hbX | exact below_keep (by first | assumption | exact Below.drew (by assumption)) (Nat.le_refl _) hbX
                    refine wpAnyH_take (i := 0) (v := ?_) rfl (by kernel_rfl) (by kernel_rfl) (by kernel_rfl) (fun _ _ _ h => h) (Or.inl ⟨by kernel_rfl, ?_⟩) (by assumption) ?_
                    rotate_left
                    · intro w hSw; (try dsimp only at hSw); go_simp; (try with_reducible rfl)
                    (try simp only [Act.put, List.setIfInBounds_toArray])
                    refine wpAnyH_take (i := 1) (v := ?_) rfl (by kernel_rfl) (by kernel_rfl) (by kernel_rfl) (fun _ _ _ h => h) (Or.inl ⟨by kernel_rfl, ?_⟩) (by assumption) ?_
                    rotate_left
                    · intro w hSw; (try dsimp only at hSw); go_simp; (try with_reducible rfl)
                    (try simp only [Act.put])
                    refine wpAnyH_ready (rs := [2]) (by kernel_rfl) (by simp) ?_
                    refine AllReadyH.cons rfl (fun K hK => ?_) AllReadyH.nil
                    go_simp
                    (first | (go_at_call 90; with_reducible refine (HIN.out _ (below_keepB hbw3 hbw3.size (by first | assumption | exact Below.drew (by assumption)))).mono ?_; rintro e' wX ⟨rfl, hbX⟩))
                    dsimp only
                    refine hK.out _ _ ?_ (fun hHeld2 => ?_)
                    · (repeat' apply And.intro) <;> first | assumption | exact Below.drew (by assumption) | exact cell_keep (by assumption) hbX | exact below_keep (by first | assumption | exact Below.drew (by assumption)) (Nat.le_refl _) hbX
                    clear hK hHeld
                    (try simp only [Act.put, List.setIfInBounds_toArray, List.set_cons_zero, List.set_cons_succ])
                    refine wpAnyH_take (i := 3) (v := ?_) rfl (by kernel_rfl) (by kernel_rfl) (by kernel_rfl) (fun _ _ _ h => h) (Or.inl ⟨by kernel_rfl, ?_⟩) (by assumption) ?_
                    rotate_left
                    · intro w hSw; (try dsimp only at hSw); go_simp; (try with_reducible rfl)
                    (try simp only [Act.put, List.setIfInBounds_toArray])
                    refine wpAnyH_take (i := 4) (v := ?_) rfl (by kernel_rfl) (by kernel_rfl) (by kernel_rfl) (fun _ _ _ h => h) (Or.inl ⟨by kernel_rfl, ?_⟩) (by assumption) ?_
                    rotate_left
                    · intro w hSw; (try dsimp only at hSw); go_simp; (try with_reducible rfl)
                    (try simp only [Act.put])
                    refine wpAnyH_take (i := 5) (v := ?_) rfl (by kernel_rfl) (by kernel_rfl) (by kernel_rfl) (fun _ _ _ h => h) (Or.inl ⟨by kernel_rfl, ?_⟩) (by assumption) ?_
                    rotate_left
                    · intro w hSw; (try dsimp only at hSw); go_simp; (try with_reducible rfl)
                    (try simp only [Act.put])
                    refine wpAnyH_take (i := 6) (v := ?_) rfl (by kernel_rfl) (by kernel_rfl) (by kernel_rfl) (fun _ _ _ h => h) (Or.inl ⟨by kernel_rfl, ?_⟩) (by assumption) ?_
                    rotate_left
                    · intro w hSw; (try dsimp only at hSw); go_simp; (try with_reducible rfl)
                    (try simp only [Act.put])
                    refine wpAnyH_take (i := 7) (v := ?_) rfl (by kernel_rfl) (by kernel_rfl) (by kernel_rfl) (fun _ _ _ h => h) (Or.inl ⟨by kernel_rfl, ?_⟩) (by assumption) ?_
                    rotate_left
                    · intro w hSw; (try dsimp only at hSw); go_simp; (try with_reducible rfl)
                    (try simp only [Act.put])
                    refine wpAnyH_take (i := 8) (v := ?_) rfl (by kernel_rfl) (by kernel_rfl) (by kernel_rfl) (fun _ _ _ h => h) (Or.inl ⟨by kernel_rfl, ?_⟩) (by assumption) ?_
                    rotate_left
                    · intro w hSw; (try dsimp only at hSw); go_simp; (try with_reducible rfl)
                    (try simp only [Act.put])
                    refine wpAnyH_take (i := 9) (v := undef) rfl (by kernel_rfl) (by kernel_rfl) (by kernel_rfl) (fun _ _ _ h => h) (Or.inr ⟨by kernel_rfl, rfl⟩) (by assumption) ?_
                    (try simp only [Act.put])
                    refine wpAnyH_take (i := 10) (v := undef) rfl (by kernel_rfl) (by kernel_rfl) (by kernel_rfl) (fun _ _ _ h => h) (Or.inr ⟨by kernel_rfl, rfl⟩) (by assumption) ?_
                    (try simp only [Act.put])
                    refine wpAnyH_take (i := 11) (v := undef) rfl (by kernel_rfl) (by kernel_rfl) (by kernel_rfl) (fun _ _ _ h => h) (Or.inr ⟨by kernel_rfl, rfl⟩) (by assumption) ?_
                    (try simp only [Act.put])
                    refine wpAnyH_take (i := 12) (v := undef) rfl (by kernel_rfl) (by kernel_rfl) (by kernel_rfl) (fun _ _ _ h => h) (Or.inr ⟨by kernel_rfl, rfl⟩) (by assumption) ?_
                    (try simp only [Act.put])
                    refine wpAnyH_take (i := 13) (v := undef) rfl (by kernel_rfl) (by kernel_rfl) (by kernel_rfl) (fun _ _ _ h => h) (Or.inr ⟨by kernel_rfl, rfl⟩) (by assumption) ?_
                    (try simp only [Act.put])
                    refine wpAnyH_take (i := 14) (v := undef) rfl (by kernel_rfl) (by kernel_rfl) (by kernel_rfl) (fun _ _ _ h => h) (Or.inr ⟨by kernel_rfl, rfl⟩) (by assumption) ?_
                    (try simp only [Act.put])
                    refine wpAnyH_take (i := 15) (v := undef) rfl (by kernel_rfl) (by kernel_rfl) (by kernel_rfl) (fun _ _ _ h => h) (Or.inr ⟨by kernel_rfl, rfl⟩) (by assumption) ?_
                    (try simp only [Act.put])
                    refine wpAnyH_take (i := 16) (v := undef) rfl (by kernel_rfl) (by kernel_rfl) (by kernel_rfl) (fun _ _ _ h => h) (Or.inr ⟨by kernel_rfl, rfl⟩) (by assumption) ?_
                    (try simp only [Act.put])
                    refine wpAnyH_take (i := 17) (v := undef) rfl (by kernel_rfl) (by kernel_rfl) (by kernel_rfl) (fun _ _ _ h => h) (Or.inr ⟨by kernel_rfl, rfl⟩) (by assumption) ?_
                    (try simp only [Act.put])
                    refine wpAnyH_take (i := 18) (v := undef) rfl (by kernel_rfl) (by kernel_rfl) (by kernel_rfl) (fun _ _ _ h => h) (Or.inr ⟨by kernel_rfl, rfl⟩) (by assumption) ?_
                    (try simp only [Act.put])
                    refine wpAnyH_take (i := 19) (v := ?_) rfl (by kernel_rfl) (by kernel_rfl) (by kernel_rfl) (fun _ _ _ h => h) (Or.inl ⟨by kernel_rfl, ?_⟩) (by assumption) ?_
                    rotate_left
                    · intro w hSw; (try dsimp only at hSw); go_simp; (try with_reducible rfl)
                    (try simp only [Act.put])
                    refine wpAnyH_take (i := 20) (v := ?_) rfl (by kernel_rfl) (by kernel_rfl) (by kernel_rfl) (fun _ _ _ h => h) (Or.inl ⟨by kernel_rfl, ?_⟩) (by assumption) ?_
                    rotate_left
                    · intro w hSw; (try dsimp only at hSw); go_simp; (try with_reducible rfl)
                    (try simp only [Act.put])
                    refine wpAnyH_done (by kernel_rfl) ?_ _
                    (try simp only [List.getElem_toArray, List.getElem_cons_succ, List.getElem_cons_zero, List.setIfInBounds_toArray, List.set_cons_zero, List.set_cons_succ])
                    have hbX := drew_out hbX
                    have hBG4 := fun q h => (own_lt (k := q) hown3 h).1
                    have q1 : 0 + 1 ≤ maxLen := by have := HOL.out; unfold maxLen; omega
                    have q2 : (0 + 1) * 48 ≤ 140737488355328 := by have := HOL.out; omega
                    obtain ⟨i0, hi, hz0, hz1, hz2⟩ := info_parts Tryd.info55
                    have hz5 : (Value.agg #[.string ⟨#[]⟩, .int .i64 0, .int .i64 0, .int .i64 0, .int .i64 0]).cells.size = 5 := rfl
                    have hbE := below_keepB hbw3 hbw3.size hbX
                    have hownX := own_keeps hown3 hbX
                    have gx0 := cell_keep g0 hbX
                    have gx1 := cell_keep g1 hbX
                    have gx2 := cell_keep g2 hbX
                    have gx3 := cell_keep g3 hbX
                    have gx4 := cell_keep g4 hbX
                    have gx5 := cell_keep g5 hbX
                    have fx0 := cell_keep f0 hbX
                    have fx1 := cell_keep f1 hbX
                    have fx2 := cell_keep f2 hbX
                    have fx3 := cell_keep f3 hbX
                    have fx4 := cell_keep f4 hbX
                    have q3 : w.heap.size + 1 ≤ (wX.alloc (.cells #[.string cn, .int .i64 ca, .int .i64 cb, .int .i64 cf, .int .i64 cl] 84)).heap.size := by have := hbE.size; simp; omega
                    have hownY := hownX.alloc (.cells #[.string cn, .int .i64 ca, .int .i64 cb, .int .i64 cf, .int .i64 cl] 84)
                    have hsrc := cells5_new wX ⟨cn, ca, cb, cf, cl⟩ 84
                    have hone : ∀ u ∈ [Value.string cn, .int .i64 ca, .int .i64 cb, .int .i64 cf, .int .i64 cl], u.oneCell' = true := cells5_one ⟨cn, ca, cb, cf, cl⟩
                    simp only at hsrc
                    go_wp2_with (at_builtin; go_loud (refine wpList_append_own _ rfl _ _ 40 rfl (w.heap.size + 1) 84 i0 _ 5 48 Tryd.underlying40 hi hz0 hz1 hz2 hz5 (by decide) _ 0 xs rfl hownY ⟨wX.heap.size, 0, none⟩ 1 1 [.string cn, .int .i64 ca, .int .i64 cb, .int .i64 cf, .int .i64 cl] rfl rfl hsrc hone q1 q2 q3 ?_; intro v4 w4 hown4 hgr4 _))
                    have hTK : List.take (j + 1 + 1) l = pre ++ [⟨cn, ca, cb, cf, cl⟩] := HT.out
                    have hYB := hbE.alloc hbE.size (.cells #[.string cn, .int .i64 ca, .int .i64 cb, .int .i64 cf, .int .i64 cl] 84)
                    have hlX := hbE.size
                    have hneE := ne_block hBG4
                    have hbF := below_grown hYB hgr4 (fun q h => by have := hBG4 q h; omega) hYB.size
                    exact ⟨⟨(j + 1 + 1), v4, by omega, rfl, by go_num, by rw [hTK]; exact HR.out, by rw [hTK]; exact HNS1.out, by rw [hTK, HLEN.out, HCEL.out]; exact hown4, cell_grown hgr4 ((World.cell?_alloc_lt _ _ _ (World.block_lt_of_cell? _ _ gx0)).trans gx0) hneE, cell_grown hgr4 ((World.cell?_alloc_lt _ _ _ (World.block_lt_of_cell? _ _ gx1)).trans gx1) hneE, cell_grown hgr4 ((World.cell?_alloc_lt _ _ _ (World.block_lt_of_cell? _ _ gx2)).trans gx2) hneE, cell_grown hgr4 ((World.cell?_alloc_lt _ _ _ (World.block_lt_of_cell? _ _ gx3)).trans gx3) hneE, cell_grown hgr4 ((World.cell?_alloc_lt _ _ _ (World.block_lt_of_cell? _ _ gx4)).trans gx4) hneE, cell_grown hgr4 ((World.cell?_alloc_lt _ _ _ (World.block_lt_of_cell? _ _ gx5)).trans gx5) hneE, hbF⟩, by simp [RowKit.intOf]; omega⟩
                  · rw [List.concat_eq_append] at hL
                    have hlast : (opens pre c).getLast? = some d := by rw [hL]; simp
                    have hn1 : (opens pre c).length = qs.length + 1 := by rw [hL]; simp
                    have hd2 : (cellsG encC (opens pre c))[qs.length * 5 + 2]? = some (.int .i64 d.b) := by
                      rw [cellsC_at (l := opens pre c) (i := qs.length) (x := d) (by rw [hL]; simp) (j := 2) (by omega)]; rfl
                    clear hL
                    obtain ⟨en, ea, eb, ef, el⟩ := d
                    simp only at hd2
                    generalize qs.length = q at *
                    by_cases hcut : eb < c.b
                    · have HR := Lib.hid (show calsErr size n1 fs [] l = 11 by
                        have hw : ¬ within fs c ∨ cuts pre c := .inr (HCUT.out.2 ⟨_, hlast, hcut⟩)
                        rw [HE1.out (by rw [HOUT.out hw]; omega), HOUT.out hw])
                      have hcd : decide (eb < c.b) = true := decide_eq_true hcut
                      clear hcut hlast
                      clear hqi HOUT HOK HDEEP HCUT HDP HWI HNS HE1 HE0 HDIS HDIS0 HL HPL HNEST HNB
                      clear HLEN HCEL HPRE HGK HT
                      generalize (opens pre c).length = n at *
                      generalize cellsG encC (opens pre c) = xs at *
                      subst hn1
                      obtain ⟨cn, ca, cb, cf, cl⟩ := c
                      simp only at *
                      go_wp2_with (first | (go_at_call 86; refine (HN1.out _).mono ?_; rintro e' w1 ⟨rfl, hb1⟩; have hbw1 := below_a1 hbw hbw.size hb1; have g0 : w1.cell? ⟨w.heap.size, 0, none⟩ = some (.string id) := (hb1.cell (p := ⟨w.heap.size, 0, none⟩) (by simp; omega)).trans ((World.cell?_alloc_lt _ _ _ hlt2).trans b0); have g1 : w1.cell? ⟨w.heap.size, 1, none⟩ = some (.int .i64 size) := (hb1.cell (p := ⟨w.heap.size, 1, none⟩) (by simp; omega)).trans ((World.cell?_alloc_lt _ _ _ hlt2).trans b1); have g2 : w1.cell? ⟨w.heap.size, 2, none⟩ = some (.slice p1 n1 c1) := (hb1.cell (p := ⟨w.heap.size, 2, none⟩) (by simp; omega)).trans ((World.cell?_alloc_lt _ _ _ hlt2).trans b2); have g3 : w1.cell? ⟨w.heap.size, 3, none⟩ = some (.slice p2 n2 c2) := (hb1.cell (p := ⟨w.heap.size, 3, none⟩) (by simp; omega)).trans ((World.cell?_alloc_lt _ _ _ hlt2).trans b3); have g4 : w1.cell? ⟨w.heap.size, 4, none⟩ = some (.slice p3 n3 c3) := (hb1.cell (p := ⟨w.heap.size, 4, none⟩) (by simp; omega)).trans ((World.cell?_alloc_lt _ _ _ hlt2).trans b4); have g5 : w1.cell? ⟨w.heap.size, 5, none⟩ = some (.slice (some ⟨b, off, none⟩) n4 c4) := (hb1.cell (p := ⟨w.heap.size, 5, none⟩) (by simp; omega)).trans ((World.cell?_alloc_lt _ _ _ hlt2).trans b5); have f0 : w1.cell? ⟨wr.heap.size, 0, none⟩ = some (.string cn) := (hb1.cell (p := ⟨wr.heap.size, 0, none⟩) (by simp)).trans (by go_simp); have f1 : w1.cell? ⟨wr.heap.size, 1, none⟩ = some (.int .i64 ca) := (hb1.cell (p := ⟨wr.heap.size, 1, none⟩) (by simp)).trans (by go_simp); have f2 : w1.cell? ⟨wr.heap.size, 2, none⟩ = some (.int .i64 cb) := (hb1.cell (p := ⟨wr.heap.size, 2, none⟩) (by simp)).trans (by go_simp); have f3 : w1.cell? ⟨wr.heap.size, 3, none⟩ = some (.int .i64 cf) := (hb1.cell (p := ⟨wr.heap.size, 3, none⟩) (by simp)).trans (by go_simp); have f4 : w1.cell? ⟨wr.heap.size, 4, none⟩ = some (.int .i64 cl) := (hb1.cell (p := ⟨wr.heap.size, 4, none⟩) (by simp)).trans (by go_simp); have hown1 := own_keeps hoA hb1; have e0 := (hbw1.cell (p := ⟨b, off + j * 5, none⟩) hb).trans m0; have e1 := (hbw1.cell (p := ⟨b, off + j * 5 + 1, none⟩) hb).trans m1; have e2 := (hbw1.cell (p := ⟨b, off + j * 5 + 2, none⟩) hb).trans m2; have e3 := (hbw1.cell (p := ⟨b, off + j * 5 + 3, none⟩) hb).trans m3; have e4 := (hbw1.cell (p := ⟨b, off + j * 5 + 4, none⟩) hb).trans m4) | (go_at_call 83; refine (HS.out _).mono ?_; rintro e' w2 ⟨rfl, rfl⟩))
                      have hr2 : Below w2.heap.size w2 w2 := Below.refl _ _
                      refine wp_region_held_drew (S := (fun w' => w'.cell? ⟨w.heap.size, 0, none⟩ = some (.string id) ∧ w'.cell? ⟨w.heap.size, 1, none⟩ = some (.int .i64 size) ∧ w'.cell? ⟨w.heap.size, 2, none⟩ = some (.slice p1 n1 c1) ∧ w'.cell? ⟨w.heap.size, 3, none⟩ = some (.slice p2 n2 c2) ∧ w'.cell? ⟨w.heap.size, 4, none⟩ = some (.slice p3 n3 c3) ∧ w'.cell? ⟨w.heap.size, 5, none⟩ = some (.slice (some ⟨b, off, none⟩) n4 c4) ∧ w'.cell? ⟨wr.heap.size, 0, none⟩ = some (.string cn) ∧ w'.cell? ⟨wr.heap.size, 1, none⟩ = some (.int .i64 ca) ∧ w'.cell? ⟨wr.heap.size, 2, none⟩ = some (.int .i64 cb) ∧ w'.cell? ⟨wr.heap.size, 3, none⟩ = some (.int .i64 cf) ∧ w'.cell? ⟨wr.heap.size, 4, none⟩ = some (.int .i64 cl) ∧ w'.cell? ⟨b, off + j * 5, none⟩ = some (.string dn) ∧ w'.cell? ⟨b, off + j * 5 + 1, none⟩ = some (.int .i64 da) ∧ w'.cell? ⟨b, off + j * 5 + 2, none⟩ = some (.int .i64 db) ∧ w'.cell? ⟨b, off + j * 5 + 3, none⟩ = some (.int .i64 df) ∧ w'.cell? ⟨b, off + j * 5 + 4, none⟩ = some (.int .i64 dl) ∧ Below w2.heap.size w2 w')) (by kernel_rfl) ?_ (fun hHeld => ?_)
                      · (repeat' apply And.intro) <;> first | assumption | exact Below.drew (by assumption) | exact cell_keep (by assumption) hbq | exact below_keep (by first | assumption | exact Below.drew (by assumption)) (Nat.le_refl _) hbq
                      refine wpAnyH_take (i := 0) (v := ?_) rfl (by kernel_rfl) (by kernel_rfl) (by kernel_rfl) (fun _ _ _ h => h) (Or.inl ⟨by kernel_rfl, ?_⟩) (by assumption) ?_
                      rotate_left
                      · intro w hSw; (try dsimp only at hSw); go_simp; (try with_reducible rfl)
                      (try simp only [Act.put, List.setIfInBounds_toArray])
                      refine wpAnyH_take (i := 1) (v := ?_) rfl (by kernel_rfl) (by kernel_rfl) (by kernel_rfl) (fun _ _ _ h => h) (Or.inl ⟨by kernel_rfl, ?_⟩) (by assumption) ?_
                      rotate_left
                      · intro w hSw; (try dsimp only at hSw); go_simp; (try with_reducible rfl)
                      (try simp only [Act.put])
                      refine wpAnyH_take (i := 2) (v := ?_) rfl (by kernel_rfl) (by kernel_rfl) (by kernel_rfl) (fun _ _ _ h => h) (Or.inl ⟨by kernel_rfl, ?_⟩) (by assumption) ?_
                      rotate_left
                      · intro w hSw; (try dsimp only at hSw); go_simp; (try with_reducible rfl)
                      (try simp only [Act.put])
                      refine wpAnyH_take (i := 3) (v := ?_) rfl (by kernel_rfl) (by kernel_rfl) (by kernel_rfl) (fun _ _ _ h => h) (Or.inl ⟨by kernel_rfl, ?_⟩) (by assumption) ?_
                      rotate_left
                      · intro w hSw; (try dsimp only at hSw); go_simp; (try with_reducible rfl)
                      (try simp only [Act.put])
                      refine wpAnyH_take (i := 4) (v := ?_) rfl (by kernel_rfl) (by kernel_rfl) (by kernel_rfl) (fun _ _ _ h => h) (Or.inl ⟨by kernel_rfl, ?_⟩) (by assumption) ?_
                      rotate_left
                      · intro w hSw; (try dsimp only at hSw); go_simp; (try with_reducible rfl)
                      (try simp only [Act.put])
                      refine wpAnyH_take (i := 5) (v := ?_) rfl (by kernel_rfl) (by kernel_rfl) (by kernel_rfl) (fun _ _ _ h => h) (Or.inl ⟨by kernel_rfl, ?_⟩) (by assumption) ?_
                      rotate_left
                      · intro w hSw; (try dsimp only at hSw); go_simp; (try with_reducible rfl)
                      (try simp only [Act.put])
                      refine wpAnyH_take (i := 6) (v := ?_) rfl (by kernel_rfl) (by kernel_rfl) (by kernel_rfl) (fun _ _ _ h => h) (Or.inl ⟨by kernel_rfl, ?_⟩) (by assumption) ?_
                      rotate_left
                      · intro w hSw; (try dsimp only at hSw); go_simp; (try with_reducible rfl)
                      (try simp only [Act.put])
                      refine wpAnyH_take (i := 7) (v := ?_) rfl (by kernel_rfl) (by kernel_rfl) (by kernel_rfl) (fun _ _ _ h => h) (Or.inl ⟨by kernel_rfl, ?_⟩) (by assumption) ?_
                      rotate_left
                      · intro w hSw; (try dsimp only at hSw); go_simp; (try with_reducible rfl)
                      (try simp only [Act.put])
                      refine wpAnyH_take (i := 8) (v := ?_) rfl (by kernel_rfl) (by kernel_rfl) (by kernel_rfl) (fun _ _ _ h => h) (Or.inl ⟨by kernel_rfl, ?_⟩) (by assumption) ?_
                      rotate_left
                      · intro w hSw; (try dsimp only at hSw); go_simp; (try with_reducible rfl)
                      (try simp only [Act.put])
                      refine wpAnyH_take (i := 9) (v := ?_) rfl (by kernel_rfl) (by kernel_rfl) (by kernel_rfl) (fun _ _ _ h => h) (Or.inl ⟨by kernel_rfl, ?_⟩) (by assumption) ?_
                      rotate_left
                      · intro w hSw; (try dsimp only at hSw); go_simp; (try with_reducible rfl)
                      (try simp only [Act.put])
                      refine wpAnyH_ready (rs := [10]) (by kernel_rfl) (by simp) ?_
                      refine AllReadyH.cons rfl (fun K hK => ?_) AllReadyH.nil
                      go_simp
                      (first | (go_at_call 87; with_reducible refine (HBEG.out _).mono ?_; rintro e' wq ⟨rfl, hbq⟩))
                      dsimp only
                      refine hK.out _ _ ?_ (fun hHeld2 => ?_)
                      · (repeat' apply And.intro) <;> first | assumption | exact Below.drew (by assumption) | exact cell_keep (by assumption) hbq | exact below_keep (by first | assumption | exact Below.drew (by assumption)) (Nat.le_refl _) hbq
                      clear hK hHeld
                      (try simp only [Act.put, List.setIfInBounds_toArray, List.set_cons_zero, List.set_cons_succ])
                      refine wpAnyH_take (i := 11) (v := ?_) rfl (by kernel_rfl) (by kernel_rfl) (by kernel_rfl) (fun _ _ _ h => h) (Or.inl ⟨by kernel_rfl, ?_⟩) (by assumption) ?_
                      rotate_left
                      · intro w hSw; (try dsimp only at hSw); go_simp; (try with_reducible rfl)
                      (try simp only [Act.put, List.setIfInBounds_toArray])
                      refine wpAnyH_done (by kernel_rfl) ?_ _
                      (try simp only [List.getElem_toArray, List.getElem_cons_succ, List.getElem_cons_zero, List.set_cons_zero, List.set_cons_succ])
                      have hbq := drew_out hbq
                      have hbwQ := below_keepB hbw1 hbw1.size hbq
                      have hown1 := own_keeps hown1 hbq
                      have g0 := cell_keep g0 hbq
                      have g1 := cell_keep g1 hbq
                      have g2 := cell_keep g2 hbq
                      have g3 := cell_keep g3 hbq
                      have g4 := cell_keep g4 hbq
                      have g5 := cell_keep g5 hbq
                      have f0 := cell_keep f0 hbq
                      have f1 := cell_keep f1 hbq
                      have f2 := cell_keep f2 hbq
                      have f3 := cell_keep f3 hbq
                      have f4 := cell_keep f4 hbq
                      go_wp2_with (first | (go_at_call 88; with_reducible refine (HDEL.out _ (by assumption) (by assumption)).mono ?_; rintro e' w3 ⟨v', rfl, hown3, hgr3, hsm3⟩; have g0 := cell_grown hgr3 g0 hneB; have g1 := cell_grown hgr3 g1 hneB; have g2 := cell_grown hgr3 g2 hneB; have g3 := cell_grown hgr3 g3 hneB; have g4 := cell_grown hgr3 g4 hneB; have g5 := cell_grown hgr3 g5 hneB; have f0 := cell_grown hgr3 f0 hneC; have f1 := cell_grown hgr3 f1 hneC; have f2 := cell_grown hgr3 f2 hneC; have f3 := cell_grown hgr3 f3 hneC; have f4 := cell_grown hgr3 f4 hneC; have hbw3 := below_grown hbwQ hgr3 hBG hbwQ.size))
                      obtain ⟨g, cap', rfl, hbg, hgl, hcells⟩ := own_slice hown3 (by omega)
                      have d2 := hcells _ _ hd2
                      have hr3 : Below w3.heap.size w3 w3 := Below.refl _ _
                      have hwq : IntKind.i64.wrap (q : Int) = (q : Int) := IntWalk.i64_in _ ⟨by omega, by have := HOL.out; omega⟩
                      have hqq : (q : Int) < (q : Int) + 1 := by omega
                      refine wp_region_held_drew (S := (fun w' => w'.cell? ⟨w.heap.size, 0, none⟩ = some (.string id) ∧ w'.cell? ⟨w.heap.size, 1, none⟩ = some (.int .i64 size) ∧ w'.cell? ⟨w.heap.size, 2, none⟩ = some (.slice p1 n1 c1) ∧ w'.cell? ⟨w.heap.size, 3, none⟩ = some (.slice p2 n2 c2) ∧ w'.cell? ⟨w.heap.size, 4, none⟩ = some (.slice p3 n3 c3) ∧ w'.cell? ⟨w.heap.size, 5, none⟩ = some (.slice (some ⟨b, off, none⟩) n4 c4) ∧ w'.cell? ⟨wr.heap.size, 0, none⟩ = some (.string cn) ∧ w'.cell? ⟨wr.heap.size, 1, none⟩ = some (.int .i64 ca) ∧ w'.cell? ⟨wr.heap.size, 2, none⟩ = some (.int .i64 cb) ∧ w'.cell? ⟨wr.heap.size, 3, none⟩ = some (.int .i64 cf) ∧ w'.cell? ⟨wr.heap.size, 4, none⟩ = some (.int .i64 cl) ∧ w'.cell? ⟨g, q * 5 + 2, none⟩ = some (.int .i64 eb) ∧ Below w3.heap.size w3 w')) (by kernel_rfl) ?_ (fun hHeld => ?_)
                      · (repeat' apply And.intro) <;> first | assumption | exact Below.drew (by assumption) | exact cell_keep (by assumption) hbX | exact below_keep (by first | assumption | exact Below.drew (by assumption)) (Nat.le_refl _) hbX
                      refine wpAnyH_take (i := 0) (v := ?_) rfl (by kernel_rfl) (by kernel_rfl) (by kernel_rfl) (fun _ _ _ h => h) (Or.inl ⟨by kernel_rfl, ?_⟩) (by assumption) ?_
                      rotate_left
                      · intro w hSw; (try dsimp only at hSw); go_simp; (try with_reducible rfl)
                      (try simp only [Act.put, List.setIfInBounds_toArray])
                      refine wpAnyH_take (i := 1) (v := ?_) rfl (by kernel_rfl) (by kernel_rfl) (by kernel_rfl) (fun _ _ _ h => h) (Or.inl ⟨by kernel_rfl, ?_⟩) (by assumption) ?_
                      rotate_left
                      · intro w hSw; (try dsimp only at hSw); go_simp; (try with_reducible rfl)
                      (try simp only [Act.put])
                      refine wpAnyH_ready (rs := [2]) (by kernel_rfl) (by simp) ?_
                      refine AllReadyH.cons rfl (fun K hK => ?_) AllReadyH.nil
                      go_simp
                      (first | (go_at_call 90; with_reducible refine (HIN.out _ (below_keepB hbw3 hbw3.size (by first | assumption | exact Below.drew (by assumption)))).mono ?_; rintro e' wX ⟨rfl, hbX⟩))
                      dsimp only
                      refine hK.out _ _ ?_ (fun hHeld2 => ?_)
                      · (repeat' apply And.intro) <;> first | assumption | exact Below.drew (by assumption) | exact cell_keep (by assumption) hbX | exact below_keep (by first | assumption | exact Below.drew (by assumption)) (Nat.le_refl _) hbX
                      clear hK hHeld
                      (try simp only [Act.put, List.setIfInBounds_toArray, List.set_cons_zero, List.set_cons_succ])
                      refine wpAnyH_take (i := 3) (v := ?_) rfl (by kernel_rfl) (by kernel_rfl) (by kernel_rfl) (fun _ _ _ h => h) (Or.inl ⟨by kernel_rfl, ?_⟩) (by assumption) ?_
                      rotate_left
                      · intro w hSw; (try dsimp only at hSw); go_simp; (try with_reducible rfl)
                      (try simp only [Act.put, List.setIfInBounds_toArray])
                      refine wpAnyH_take (i := 4) (v := ?_) rfl (by kernel_rfl) (by kernel_rfl) (by kernel_rfl) (fun _ _ _ h => h) (Or.inl ⟨by kernel_rfl, ?_⟩) (by assumption) ?_
                      rotate_left
                      · intro w hSw; (try dsimp only at hSw); go_simp; (try with_reducible rfl)
                      (try simp only [Act.put])
                      refine wpAnyH_take (i := 5) (v := ?_) rfl (by kernel_rfl) (by kernel_rfl) (by kernel_rfl) (fun _ _ _ h => h) (Or.inl ⟨by kernel_rfl, ?_⟩) (by assumption) ?_
                      rotate_left
                      · intro w hSw; (try dsimp only at hSw); go_simp; (try with_reducible rfl)
                      (try simp only [Act.put])
                      refine wpAnyH_take (i := 6) (v := ?_) rfl (by kernel_rfl) (by kernel_rfl) (by kernel_rfl) (fun _ _ _ h => h) (Or.inl ⟨by kernel_rfl, ?_⟩) (by assumption) ?_
                      rotate_left
                      · intro w hSw; (try dsimp only at hSw); go_simp; (try with_reducible rfl)
                      (try simp only [Act.put])
                      refine wpAnyH_take (i := 7) (v := ?_) rfl (by kernel_rfl) (by kernel_rfl) (by kernel_rfl) (fun _ _ _ h => h) (Or.inl ⟨by kernel_rfl, ?_⟩) (by assumption) ?_
                      rotate_left
                      · intro w hSw; (try dsimp only at hSw); go_simp; (try with_reducible rfl)
                      (try simp only [Act.put])
                      refine wpAnyH_take (i := 8) (v := ?_) rfl (by kernel_rfl) (by kernel_rfl) (by kernel_rfl) (fun _ _ _ h => h) (Or.inl ⟨by kernel_rfl, ?_⟩) (by assumption) ?_
                      rotate_left
                      · intro w hSw; (try dsimp only at hSw); go_simp; (try with_reducible rfl)
                      (try simp only [Act.put])
                      refine wpAnyH_take (i := 9) (v := ?_) rfl (by kernel_rfl) (by kernel_rfl) (by kernel_rfl) (fun _ _ _ h => h) (Or.inl ⟨by kernel_rfl, ?_⟩) (by assumption) ?_
                      rotate_left
                      · intro w hSw; (try dsimp only at hSw); go_simp; (try with_reducible rfl)
                      (try simp only [Act.put])
                      refine wpAnyH_take (i := 10) (v := ?_) rfl (by kernel_rfl) (by kernel_rfl) (by kernel_rfl) (fun _ _ _ h => h) (Or.inl ⟨by kernel_rfl, ?_⟩) (by assumption) ?_
                      rotate_left
                      · intro w hSw; (try dsimp only at hSw); go_simp; (try with_reducible rfl)
                      (try simp only [Act.put])
                      refine wpAnyH_take (i := 11) (v := ?_) rfl (by kernel_rfl) (by kernel_rfl) (by kernel_rfl) (fun _ _ _ h => h) (Or.inl ⟨by kernel_rfl, ?_⟩) (by assumption) ?_
                      rotate_left
                      · intro w hSw; (try dsimp only at hSw); go_simp; (try with_reducible rfl)
                      (try simp only [Act.put])
                      refine wpAnyH_take (i := 12) (v := ?_) rfl (by kernel_rfl) (by kernel_rfl) (by kernel_rfl) (fun _ _ _ h => h) (Or.inl ⟨by kernel_rfl, ?_⟩) (by assumption) ?_
                      rotate_left
                      · intro w hSw; (try dsimp only at hSw); go_simp; (try with_reducible rfl)
                      (try simp only [Act.put])
                      refine wpAnyH_take (i := 13) (v := ?_) rfl (by kernel_rfl) (by kernel_rfl) (by kernel_rfl) (fun _ _ _ h => h) (Or.inl ⟨by kernel_rfl, ?_⟩) (by assumption) ?_
                      rotate_left
                      · intro w hSw; (try dsimp only at hSw); go_simp; (try with_reducible rfl)
                      (try simp only [Act.put])
                      refine wpAnyH_take (i := 14) (v := ?_) rfl (by kernel_rfl) (by kernel_rfl) (by kernel_rfl) (fun _ _ _ h => h) (Or.inl ⟨by kernel_rfl, ?_⟩) (by assumption) ?_
                      rotate_left
                      · intro w hSw; (try dsimp only at hSw); go_simp; (try with_reducible rfl)
                      (try simp only [Act.put])
                      refine wpAnyH_take (i := 15) (v := ?_) rfl (by kernel_rfl) (by kernel_rfl) (by kernel_rfl) (fun _ _ _ h => h) (Or.inl ⟨by kernel_rfl, ?_⟩) (by assumption) ?_
                      rotate_left
                      · intro w hSw; (try dsimp only at hSw); go_simp; (try with_reducible rfl)
                      (try simp only [Act.put])
                      refine wpAnyH_take (i := 16) (v := ?_) rfl (by kernel_rfl) (by kernel_rfl) (by kernel_rfl) (fun _ _ _ h => h) (Or.inl ⟨by kernel_rfl, ?_⟩) (by assumption) ?_
                      rotate_left
                      · intro w hSw; (try dsimp only at hSw); go_simp; (try with_reducible rfl)
                      (try simp only [Act.put])
                      refine wpAnyH_take (i := 17) (v := ?_) rfl (by kernel_rfl) (by kernel_rfl) (by kernel_rfl) (fun _ _ _ h => h) (Or.inl ⟨by kernel_rfl, ?_⟩) (by assumption) ?_
                      rotate_left
                      · intro w hSw; (try dsimp only at hSw); go_simp; (try with_reducible rfl)
                      (try simp only [Act.put])
                      refine wpAnyH_take (i := 18) (v := ?_) rfl (by kernel_rfl) (by kernel_rfl) (by kernel_rfl) (fun _ _ _ h => h) (Or.inl ⟨by kernel_rfl, ?_⟩) (by assumption) ?_
                      rotate_left
                      · intro w hSw; (try dsimp only at hSw); go_simp; (try with_reducible rfl)
                      (try simp only [Act.put])
                      refine wpAnyH_take (i := 19) (v := ?_) rfl (by kernel_rfl) (by kernel_rfl) (by kernel_rfl) (fun _ _ _ h => h) (Or.inl ⟨by kernel_rfl, ?_⟩) (by assumption) ?_
                      rotate_left
                      · intro w hSw; (try dsimp only at hSw); go_simp; (try with_reducible rfl)
                      (try simp only [Act.put])
                      refine wpAnyH_take (i := 20) (v := ?_) rfl (by kernel_rfl) (by kernel_rfl) (by kernel_rfl) (fun _ _ _ h => h) (Or.inl ⟨by kernel_rfl, ?_⟩) (by assumption) ?_
                      rotate_left
                      · intro w hSw; (try dsimp only at hSw); go_simp; (try with_reducible rfl)
                      (try simp only [Act.put])
                      refine wpAnyH_done (by kernel_rfl) ?_ _
                      (try simp only [List.getElem_toArray, List.getElem_cons_succ, List.getElem_cons_zero, List.setIfInBounds_toArray, List.set_cons_zero, List.set_cons_succ])
                      have hbX := drew_out hbX
                      go_wp2_with fail
                      go_ret
                      exact ⟨ret_int HR.out.symm, below_keepB hbw3 hbw3.size hbX⟩
                    · have hnc : ¬ cuts pre c := fun h => by obtain ⟨e, he, hlt⟩ := HCUT.out.1 h; rw [hlast] at he; obtain rfl := Option.some.inj he; exact hcut hlt
                      have hcd : decide (eb < c.b) = false := decide_eq_false hcut
                      by_cases hten : 10 ≤ q + 1
                      · have HR := Lib.hid (show calsErr size n1 fs [] l = 13 by
                          have hh := HDEEP.out (HWI.out.1 hqi) hnc (by rw [HDP.out hnc, hn1]; exact hten)
                          rw [HE1.out (by rw [hh]; omega), hh])
                        have ht1 : decide ((10 : Int) ≤ (q : Int) + 1) = true := decide_eq_true (by omega)
                        have ht2 : decide (10 ≤ q + 1) = true := decide_eq_true hten
                        clear hcut hlast hnc hten
                        clear hqi HOUT HOK HDEEP HCUT HDP HWI HNS HE1 HE0 HDIS HDIS0 HL HPL HNEST HNB
                        clear HLEN HCEL HPRE HGK HT
                        generalize (opens pre c).length = n at *
                        generalize cellsG encC (opens pre c) = xs at *
                        subst hn1
                        obtain ⟨cn, ca, cb, cf, cl⟩ := c
                        simp only at *
                        go_wp2_with (first | (go_at_call 86; refine (HN1.out _).mono ?_; rintro e' w1 ⟨rfl, hb1⟩; have hbw1 := below_a1 hbw hbw.size hb1; have g0 : w1.cell? ⟨w.heap.size, 0, none⟩ = some (.string id) := (hb1.cell (p := ⟨w.heap.size, 0, none⟩) (by simp; omega)).trans ((World.cell?_alloc_lt _ _ _ hlt2).trans b0); have g1 : w1.cell? ⟨w.heap.size, 1, none⟩ = some (.int .i64 size) := (hb1.cell (p := ⟨w.heap.size, 1, none⟩) (by simp; omega)).trans ((World.cell?_alloc_lt _ _ _ hlt2).trans b1); have g2 : w1.cell? ⟨w.heap.size, 2, none⟩ = some (.slice p1 n1 c1) := (hb1.cell (p := ⟨w.heap.size, 2, none⟩) (by simp; omega)).trans ((World.cell?_alloc_lt _ _ _ hlt2).trans b2); have g3 : w1.cell? ⟨w.heap.size, 3, none⟩ = some (.slice p2 n2 c2) := (hb1.cell (p := ⟨w.heap.size, 3, none⟩) (by simp; omega)).trans ((World.cell?_alloc_lt _ _ _ hlt2).trans b3); have g4 : w1.cell? ⟨w.heap.size, 4, none⟩ = some (.slice p3 n3 c3) := (hb1.cell (p := ⟨w.heap.size, 4, none⟩) (by simp; omega)).trans ((World.cell?_alloc_lt _ _ _ hlt2).trans b4); have g5 : w1.cell? ⟨w.heap.size, 5, none⟩ = some (.slice (some ⟨b, off, none⟩) n4 c4) := (hb1.cell (p := ⟨w.heap.size, 5, none⟩) (by simp; omega)).trans ((World.cell?_alloc_lt _ _ _ hlt2).trans b5); have f0 : w1.cell? ⟨wr.heap.size, 0, none⟩ = some (.string cn) := (hb1.cell (p := ⟨wr.heap.size, 0, none⟩) (by simp)).trans (by go_simp); have f1 : w1.cell? ⟨wr.heap.size, 1, none⟩ = some (.int .i64 ca) := (hb1.cell (p := ⟨wr.heap.size, 1, none⟩) (by simp)).trans (by go_simp); have f2 : w1.cell? ⟨wr.heap.size, 2, none⟩ = some (.int .i64 cb) := (hb1.cell (p := ⟨wr.heap.size, 2, none⟩) (by simp)).trans (by go_simp); have f3 : w1.cell? ⟨wr.heap.size, 3, none⟩ = some (.int .i64 cf) := (hb1.cell (p := ⟨wr.heap.size, 3, none⟩) (by simp)).trans (by go_simp); have f4 : w1.cell? ⟨wr.heap.size, 4, none⟩ = some (.int .i64 cl) := (hb1.cell (p := ⟨wr.heap.size, 4, none⟩) (by simp)).trans (by go_simp); have hown1 := own_keeps hoA hb1; have e0 := (hbw1.cell (p := ⟨b, off + j * 5, none⟩) hb).trans m0; have e1 := (hbw1.cell (p := ⟨b, off + j * 5 + 1, none⟩) hb).trans m1; have e2 := (hbw1.cell (p := ⟨b, off + j * 5 + 2, none⟩) hb).trans m2; have e3 := (hbw1.cell (p := ⟨b, off + j * 5 + 3, none⟩) hb).trans m3; have e4 := (hbw1.cell (p := ⟨b, off + j * 5 + 4, none⟩) hb).trans m4) | (go_at_call 83; refine (HS.out _).mono ?_; rintro e' w2 ⟨rfl, rfl⟩))
                        have hr2 : Below w2.heap.size w2 w2 := Below.refl _ _
                        refine wp_region_held_drew (S := (fun w' => w'.cell? ⟨w.heap.size, 0, none⟩ = some (.string id) ∧ w'.cell? ⟨w.heap.size, 1, none⟩ = some (.int .i64 size) ∧ w'.cell? ⟨w.heap.size, 2, none⟩ = some (.slice p1 n1 c1) ∧ w'.cell? ⟨w.heap.size, 3, none⟩ = some (.slice p2 n2 c2) ∧ w'.cell? ⟨w.heap.size, 4, none⟩ = some (.slice p3 n3 c3) ∧ w'.cell? ⟨w.heap.size, 5, none⟩ = some (.slice (some ⟨b, off, none⟩) n4 c4) ∧ w'.cell? ⟨wr.heap.size, 0, none⟩ = some (.string cn) ∧ w'.cell? ⟨wr.heap.size, 1, none⟩ = some (.int .i64 ca) ∧ w'.cell? ⟨wr.heap.size, 2, none⟩ = some (.int .i64 cb) ∧ w'.cell? ⟨wr.heap.size, 3, none⟩ = some (.int .i64 cf) ∧ w'.cell? ⟨wr.heap.size, 4, none⟩ = some (.int .i64 cl) ∧ w'.cell? ⟨b, off + j * 5, none⟩ = some (.string dn) ∧ w'.cell? ⟨b, off + j * 5 + 1, none⟩ = some (.int .i64 da) ∧ w'.cell? ⟨b, off + j * 5 + 2, none⟩ = some (.int .i64 db) ∧ w'.cell? ⟨b, off + j * 5 + 3, none⟩ = some (.int .i64 df) ∧ w'.cell? ⟨b, off + j * 5 + 4, none⟩ = some (.int .i64 dl) ∧ Below w2.heap.size w2 w')) (by kernel_rfl) ?_ (fun hHeld => ?_)
                        · (repeat' apply And.intro) <;> first | assumption | exact Below.drew (by assumption) | exact cell_keep (by assumption) hbq | exact below_keep (by first | assumption | exact Below.drew (by assumption)) (Nat.le_refl _) hbq
                        refine wpAnyH_take (i := 0) (v := ?_) rfl (by kernel_rfl) (by kernel_rfl) (by kernel_rfl) (fun _ _ _ h => h) (Or.inl ⟨by kernel_rfl, ?_⟩) (by assumption) ?_
                        rotate_left
                        · intro w hSw; (try dsimp only at hSw); go_simp; (try with_reducible rfl)
                        (try simp only [Act.put, List.setIfInBounds_toArray])
                        refine wpAnyH_take (i := 1) (v := ?_) rfl (by kernel_rfl) (by kernel_rfl) (by kernel_rfl) (fun _ _ _ h => h) (Or.inl ⟨by kernel_rfl, ?_⟩) (by assumption) ?_
                        rotate_left
                        · intro w hSw; (try dsimp only at hSw); go_simp; (try with_reducible rfl)
                        (try simp only [Act.put])
                        refine wpAnyH_take (i := 2) (v := ?_) rfl (by kernel_rfl) (by kernel_rfl) (by kernel_rfl) (fun _ _ _ h => h) (Or.inl ⟨by kernel_rfl, ?_⟩) (by assumption) ?_
                        rotate_left
                        · intro w hSw; (try dsimp only at hSw); go_simp; (try with_reducible rfl)
                        (try simp only [Act.put])
                        refine wpAnyH_take (i := 3) (v := ?_) rfl (by kernel_rfl) (by kernel_rfl) (by kernel_rfl) (fun _ _ _ h => h) (Or.inl ⟨by kernel_rfl, ?_⟩) (by assumption) ?_
                        rotate_left
                        · intro w hSw; (try dsimp only at hSw); go_simp; (try with_reducible rfl)
                        (try simp only [Act.put])
                        refine wpAnyH_take (i := 4) (v := ?_) rfl (by kernel_rfl) (by kernel_rfl) (by kernel_rfl) (fun _ _ _ h => h) (Or.inl ⟨by kernel_rfl, ?_⟩) (by assumption) ?_
                        rotate_left
                        · intro w hSw; (try dsimp only at hSw); go_simp; (try with_reducible rfl)
                        (try simp only [Act.put])
                        refine wpAnyH_take (i := 5) (v := ?_) rfl (by kernel_rfl) (by kernel_rfl) (by kernel_rfl) (fun _ _ _ h => h) (Or.inl ⟨by kernel_rfl, ?_⟩) (by assumption) ?_
                        rotate_left
                        · intro w hSw; (try dsimp only at hSw); go_simp; (try with_reducible rfl)
                        (try simp only [Act.put])
                        refine wpAnyH_take (i := 6) (v := ?_) rfl (by kernel_rfl) (by kernel_rfl) (by kernel_rfl) (fun _ _ _ h => h) (Or.inl ⟨by kernel_rfl, ?_⟩) (by assumption) ?_
                        rotate_left
                        · intro w hSw; (try dsimp only at hSw); go_simp; (try with_reducible rfl)
                        (try simp only [Act.put])
                        refine wpAnyH_take (i := 7) (v := ?_) rfl (by kernel_rfl) (by kernel_rfl) (by kernel_rfl) (fun _ _ _ h => h) (Or.inl ⟨by kernel_rfl, ?_⟩) (by assumption) ?_
                        rotate_left
                        · intro w hSw; (try dsimp only at hSw); go_simp; (try with_reducible rfl)
                        (try simp only [Act.put])
                        refine wpAnyH_take (i := 8) (v := ?_) rfl (by kernel_rfl) (by kernel_rfl) (by kernel_rfl) (fun _ _ _ h => h) (Or.inl ⟨by kernel_rfl, ?_⟩) (by assumption) ?_
                        rotate_left
                        · intro w hSw; (try dsimp only at hSw); go_simp; (try with_reducible rfl)
                        (try simp only [Act.put])
                        refine wpAnyH_take (i := 9) (v := ?_) rfl (by kernel_rfl) (by kernel_rfl) (by kernel_rfl) (fun _ _ _ h => h) (Or.inl ⟨by kernel_rfl, ?_⟩) (by assumption) ?_
                        rotate_left
                        · intro w hSw; (try dsimp only at hSw); go_simp; (try with_reducible rfl)
                        (try simp only [Act.put])
                        refine wpAnyH_ready (rs := [10]) (by kernel_rfl) (by simp) ?_
                        refine AllReadyH.cons rfl (fun K hK => ?_) AllReadyH.nil
                        go_simp
                        (first | (go_at_call 87; with_reducible refine (HBEG.out _).mono ?_; rintro e' wq ⟨rfl, hbq⟩))
                        dsimp only
                        refine hK.out _ _ ?_ (fun hHeld2 => ?_)
                        · (repeat' apply And.intro) <;> first | assumption | exact Below.drew (by assumption) | exact cell_keep (by assumption) hbq | exact below_keep (by first | assumption | exact Below.drew (by assumption)) (Nat.le_refl _) hbq
                        clear hK hHeld
                        (try simp only [Act.put, List.setIfInBounds_toArray, List.set_cons_zero, List.set_cons_succ])
                        refine wpAnyH_take (i := 11) (v := ?_) rfl (by kernel_rfl) (by kernel_rfl) (by kernel_rfl) (fun _ _ _ h => h) (Or.inl ⟨by kernel_rfl, ?_⟩) (by assumption) ?_
                        rotate_left
                        · intro w hSw; (try dsimp only at hSw); go_simp; (try with_reducible rfl)
                        (try simp only [Act.put, List.setIfInBounds_toArray])
                        refine wpAnyH_done (by kernel_rfl) ?_ _
                        (try simp only [List.getElem_toArray, List.getElem_cons_succ, List.getElem_cons_zero, List.set_cons_zero, List.set_cons_succ])
                        have hbq := drew_out hbq
                        have hbwQ := below_keepB hbw1 hbw1.size hbq
                        have hown1 := own_keeps hown1 hbq
                        have g0 := cell_keep g0 hbq
                        have g1 := cell_keep g1 hbq
                        have g2 := cell_keep g2 hbq
                        have g3 := cell_keep g3 hbq
                        have g4 := cell_keep g4 hbq
                        have g5 := cell_keep g5 hbq
                        have f0 := cell_keep f0 hbq
                        have f1 := cell_keep f1 hbq
                        have f2 := cell_keep f2 hbq
                        have f3 := cell_keep f3 hbq
                        have f4 := cell_keep f4 hbq
                        go_wp2_with (first | (go_at_call 88; with_reducible refine (HDEL.out _ (by assumption) (by assumption)).mono ?_; rintro e' w3 ⟨v', rfl, hown3, hgr3, hsm3⟩; have g0 := cell_grown hgr3 g0 hneB; have g1 := cell_grown hgr3 g1 hneB; have g2 := cell_grown hgr3 g2 hneB; have g3 := cell_grown hgr3 g3 hneB; have g4 := cell_grown hgr3 g4 hneB; have g5 := cell_grown hgr3 g5 hneB; have f0 := cell_grown hgr3 f0 hneC; have f1 := cell_grown hgr3 f1 hneC; have f2 := cell_grown hgr3 f2 hneC; have f3 := cell_grown hgr3 f3 hneC; have f4 := cell_grown hgr3 f4 hneC; have hbw3 := below_grown hbwQ hgr3 hBG hbwQ.size))
                        obtain ⟨g, cap', rfl, hbg, hgl, hcells⟩ := own_slice hown3 (by omega)
                        have d2 := hcells _ _ hd2
                        have hr3 : Below w3.heap.size w3 w3 := Below.refl _ _
                        have hwq : IntKind.i64.wrap (q : Int) = (q : Int) := IntWalk.i64_in _ ⟨by omega, by have := HOL.out; omega⟩
                        have hqq : (q : Int) < (q : Int) + 1 := by omega
                        refine wp_region_held_drew (S := (fun w' => w'.cell? ⟨w.heap.size, 0, none⟩ = some (.string id) ∧ w'.cell? ⟨w.heap.size, 1, none⟩ = some (.int .i64 size) ∧ w'.cell? ⟨w.heap.size, 2, none⟩ = some (.slice p1 n1 c1) ∧ w'.cell? ⟨w.heap.size, 3, none⟩ = some (.slice p2 n2 c2) ∧ w'.cell? ⟨w.heap.size, 4, none⟩ = some (.slice p3 n3 c3) ∧ w'.cell? ⟨w.heap.size, 5, none⟩ = some (.slice (some ⟨b, off, none⟩) n4 c4) ∧ w'.cell? ⟨wr.heap.size, 0, none⟩ = some (.string cn) ∧ w'.cell? ⟨wr.heap.size, 1, none⟩ = some (.int .i64 ca) ∧ w'.cell? ⟨wr.heap.size, 2, none⟩ = some (.int .i64 cb) ∧ w'.cell? ⟨wr.heap.size, 3, none⟩ = some (.int .i64 cf) ∧ w'.cell? ⟨wr.heap.size, 4, none⟩ = some (.int .i64 cl) ∧ w'.cell? ⟨g, q * 5 + 2, none⟩ = some (.int .i64 eb) ∧ Below w3.heap.size w3 w')) (by kernel_rfl) ?_ (fun hHeld => ?_)
                        · (repeat' apply And.intro) <;> first | assumption | exact Below.drew (by assumption) | exact cell_keep (by assumption) hbX | exact below_keep (by first | assumption | exact Below.drew (by assumption)) (Nat.le_refl _) hbX
                        refine wpAnyH_take (i := 0) (v := ?_) rfl (by kernel_rfl) (by kernel_rfl) (by kernel_rfl) (fun _ _ _ h => h) (Or.inl ⟨by kernel_rfl, ?_⟩) (by assumption) ?_
                        rotate_left
                        · intro w hSw; (try dsimp only at hSw); go_simp; (try with_reducible rfl)
                        (try simp only [Act.put, List.setIfInBounds_toArray])
                        refine wpAnyH_take (i := 1) (v := ?_) rfl (by kernel_rfl) (by kernel_rfl) (by kernel_rfl) (fun _ _ _ h => h) (Or.inl ⟨by kernel_rfl, ?_⟩) (by assumption) ?_
                        rotate_left
                        · intro w hSw; (try dsimp only at hSw); go_simp; (try with_reducible rfl)
                        (try simp only [Act.put])
                        refine wpAnyH_ready (rs := [2]) (by kernel_rfl) (by simp) ?_
                        refine AllReadyH.cons rfl (fun K hK => ?_) AllReadyH.nil
                        go_simp
                        (first | (go_at_call 90; with_reducible refine (HIN.out _ (below_keepB hbw3 hbw3.size (by first | assumption | exact Below.drew (by assumption)))).mono ?_; rintro e' wX ⟨rfl, hbX⟩))
                        dsimp only
                        refine hK.out _ _ ?_ (fun hHeld2 => ?_)
                        · (repeat' apply And.intro) <;> first | assumption | exact Below.drew (by assumption) | exact cell_keep (by assumption) hbX | exact below_keep (by first | assumption | exact Below.drew (by assumption)) (Nat.le_refl _) hbX
                        clear hK hHeld
                        (try simp only [Act.put, List.setIfInBounds_toArray, List.set_cons_zero, List.set_cons_succ])
                        refine wpAnyH_take (i := 3) (v := ?_) rfl (by kernel_rfl) (by kernel_rfl) (by kernel_rfl) (fun _ _ _ h => h) (Or.inl ⟨by kernel_rfl, ?_⟩) (by assumption) ?_
                        rotate_left
                        · intro w hSw; (try dsimp only at hSw); go_simp; (try with_reducible rfl)
                        (try simp only [Act.put, List.setIfInBounds_toArray])
                        refine wpAnyH_take (i := 4) (v := ?_) rfl (by kernel_rfl) (by kernel_rfl) (by kernel_rfl) (fun _ _ _ h => h) (Or.inl ⟨by kernel_rfl, ?_⟩) (by assumption) ?_
                        rotate_left
                        · intro w hSw; (try dsimp only at hSw); go_simp; (try with_reducible rfl)
                        (try simp only [Act.put])
                        refine wpAnyH_take (i := 5) (v := ?_) rfl (by kernel_rfl) (by kernel_rfl) (by kernel_rfl) (fun _ _ _ h => h) (Or.inl ⟨by kernel_rfl, ?_⟩) (by assumption) ?_
                        rotate_left
                        · intro w hSw; (try dsimp only at hSw); go_simp; (try with_reducible rfl)
                        (try simp only [Act.put])
                        refine wpAnyH_take (i := 6) (v := ?_) rfl (by kernel_rfl) (by kernel_rfl) (by kernel_rfl) (fun _ _ _ h => h) (Or.inl ⟨by kernel_rfl, ?_⟩) (by assumption) ?_
                        rotate_left
                        · intro w hSw; (try dsimp only at hSw); go_simp; (try with_reducible rfl)
                        (try simp only [Act.put])
                        refine wpAnyH_take (i := 7) (v := ?_) rfl (by kernel_rfl) (by kernel_rfl) (by kernel_rfl) (fun _ _ _ h => h) (Or.inl ⟨by kernel_rfl, ?_⟩) (by assumption) ?_
                        rotate_left
                        · intro w hSw; (try dsimp only at hSw); go_simp; (try with_reducible rfl)
                        (try simp only [Act.put])
                        refine wpAnyH_take (i := 8) (v := ?_) rfl (by kernel_rfl) (by kernel_rfl) (by kernel_rfl) (fun _ _ _ h => h) (Or.inl ⟨by kernel_rfl, ?_⟩) (by assumption) ?_
                        rotate_left
                        · intro w hSw; (try dsimp only at hSw); go_simp; (try with_reducible rfl)
                        (try simp only [Act.put])
                        refine wpAnyH_take (i := 9) (v := ?_) rfl (by kernel_rfl) (by kernel_rfl) (by kernel_rfl) (fun _ _ _ h => h) (Or.inl ⟨by kernel_rfl, ?_⟩) (by assumption) ?_
                        rotate_left
                        · intro w hSw; (try dsimp only at hSw); go_simp; (try with_reducible rfl)
                        (try simp only [Act.put])
                        refine wpAnyH_take (i := 10) (v := ?_) rfl (by kernel_rfl) (by kernel_rfl) (by kernel_rfl) (fun _ _ _ h => h) (Or.inl ⟨by kernel_rfl, ?_⟩) (by assumption) ?_
                        rotate_left
                        · intro w hSw; (try dsimp only at hSw); go_simp; (try with_reducible rfl)
                        (try simp only [Act.put])
                        refine wpAnyH_take (i := 11) (v := ?_) rfl (by kernel_rfl) (by kernel_rfl) (by kernel_rfl) (fun _ _ _ h => h) (Or.inl ⟨by kernel_rfl, ?_⟩) (by assumption) ?_
                        rotate_left
                        · intro w hSw; (try dsimp only at hSw); go_simp; (try with_reducible rfl)
                        (try simp only [Act.put])
                        refine wpAnyH_take (i := 12) (v := ?_) rfl (by kernel_rfl) (by kernel_rfl) (by kernel_rfl) (fun _ _ _ h => h) (Or.inl ⟨by kernel_rfl, ?_⟩) (by assumption) ?_
                        rotate_left
                        · intro w hSw; (try dsimp only at hSw); go_simp; (try with_reducible rfl)
                        (try simp only [Act.put])
                        refine wpAnyH_take (i := 13) (v := ?_) rfl (by kernel_rfl) (by kernel_rfl) (by kernel_rfl) (fun _ _ _ h => h) (Or.inl ⟨by kernel_rfl, ?_⟩) (by assumption) ?_
                        rotate_left
                        · intro w hSw; (try dsimp only at hSw); go_simp; (try with_reducible rfl)
                        (try simp only [Act.put])
                        refine wpAnyH_take (i := 14) (v := ?_) rfl (by kernel_rfl) (by kernel_rfl) (by kernel_rfl) (fun _ _ _ h => h) (Or.inl ⟨by kernel_rfl, ?_⟩) (by assumption) ?_
                        rotate_left
                        · intro w hSw; (try dsimp only at hSw); go_simp; (try with_reducible rfl)
                        (try simp only [Act.put])
                        refine wpAnyH_take (i := 15) (v := ?_) rfl (by kernel_rfl) (by kernel_rfl) (by kernel_rfl) (fun _ _ _ h => h) (Or.inl ⟨by kernel_rfl, ?_⟩) (by assumption) ?_
                        rotate_left
                        · intro w hSw; (try dsimp only at hSw); go_simp; (try with_reducible rfl)
                        (try simp only [Act.put])
                        refine wpAnyH_take (i := 16) (v := ?_) rfl (by kernel_rfl) (by kernel_rfl) (by kernel_rfl) (fun _ _ _ h => h) (Or.inl ⟨by kernel_rfl, ?_⟩) (by assumption) ?_
                        rotate_left
                        · intro w hSw; (try dsimp only at hSw); go_simp; (try with_reducible rfl)
                        (try simp only [Act.put])
                        refine wpAnyH_take (i := 17) (v := ?_) rfl (by kernel_rfl) (by kernel_rfl) (by kernel_rfl) (fun _ _ _ h => h) (Or.inl ⟨by kernel_rfl, ?_⟩) (by assumption) ?_
                        rotate_left
                        · intro w hSw; (try dsimp only at hSw); go_simp; (try with_reducible rfl)
                        (try simp only [Act.put])
                        refine wpAnyH_take (i := 18) (v := ?_) rfl (by kernel_rfl) (by kernel_rfl) (by kernel_rfl) (fun _ _ _ h => h) (Or.inl ⟨by kernel_rfl, ?_⟩) (by assumption) ?_
                        rotate_left
                        · intro w hSw; (try dsimp only at hSw); go_simp; (try with_reducible rfl)
                        (try simp only [Act.put])
                        refine wpAnyH_take (i := 19) (v := ?_) rfl (by kernel_rfl) (by kernel_rfl) (by kernel_rfl) (fun _ _ _ h => h) (Or.inl ⟨by kernel_rfl, ?_⟩) (by assumption) ?_
                        rotate_left
                        · intro w hSw; (try dsimp only at hSw); go_simp; (try with_reducible rfl)
                        (try simp only [Act.put])
                        refine wpAnyH_take (i := 20) (v := ?_) rfl (by kernel_rfl) (by kernel_rfl) (by kernel_rfl) (fun _ _ _ h => h) (Or.inl ⟨by kernel_rfl, ?_⟩) (by assumption) ?_
                        rotate_left
                        · intro w hSw; (try dsimp only at hSw); go_simp; (try with_reducible rfl)
                        (try simp only [Act.put])
                        refine wpAnyH_done (by kernel_rfl) ?_ _
                        (try simp only [List.getElem_toArray, List.getElem_cons_succ, List.getElem_cons_zero, List.setIfInBounds_toArray, List.set_cons_zero, List.set_cons_succ])
                        have hbX := drew_out hbX
                        go_wp2_with fail
                        go_ret
                        exact ⟨ret_int HR.out.symm, below_keepB hbw3 hbw3.size hbX⟩
                      · have hz0 := HOK.out (HWI.out.1 hqi) hnc (by rw [HDP.out hnc, hn1]; exact hten)
                        have HR := Lib.hid (HE0.out hz0)
                        have HNS1 := Lib.hid (HNS.out hz0)
                        have ht1 : decide ((10 : Int) ≤ (q : Int) + 1) = false := decide_eq_false (by omega)
                        have ht2 : decide (10 ≤ q + 1) = false := decide_eq_false hten
                        clear hcut hlast hnc hz0
                        clear hqi HOUT HOK HDEEP HCUT HDP HWI HNS HE1 HE0 HDIS HDIS0 HL HPL HNEST HNB
                        generalize (opens pre c).length = n at *
                        generalize cellsG encC (opens pre c) = xs at *
                        subst hn1
                        obtain ⟨cn, ca, cb, cf, cl⟩ := c
                        simp only at *
                        go_wp2_with (first | (go_at_call 86; refine (HN1.out _).mono ?_; rintro e' w1 ⟨rfl, hb1⟩; have hbw1 := below_a1 hbw hbw.size hb1; have g0 : w1.cell? ⟨w.heap.size, 0, none⟩ = some (.string id) := (hb1.cell (p := ⟨w.heap.size, 0, none⟩) (by simp; omega)).trans ((World.cell?_alloc_lt _ _ _ hlt2).trans b0); have g1 : w1.cell? ⟨w.heap.size, 1, none⟩ = some (.int .i64 size) := (hb1.cell (p := ⟨w.heap.size, 1, none⟩) (by simp; omega)).trans ((World.cell?_alloc_lt _ _ _ hlt2).trans b1); have g2 : w1.cell? ⟨w.heap.size, 2, none⟩ = some (.slice p1 n1 c1) := (hb1.cell (p := ⟨w.heap.size, 2, none⟩) (by simp; omega)).trans ((World.cell?_alloc_lt _ _ _ hlt2).trans b2); have g3 : w1.cell? ⟨w.heap.size, 3, none⟩ = some (.slice p2 n2 c2) := (hb1.cell (p := ⟨w.heap.size, 3, none⟩) (by simp; omega)).trans ((World.cell?_alloc_lt _ _ _ hlt2).trans b3); have g4 : w1.cell? ⟨w.heap.size, 4, none⟩ = some (.slice p3 n3 c3) := (hb1.cell (p := ⟨w.heap.size, 4, none⟩) (by simp; omega)).trans ((World.cell?_alloc_lt _ _ _ hlt2).trans b4); have g5 : w1.cell? ⟨w.heap.size, 5, none⟩ = some (.slice (some ⟨b, off, none⟩) n4 c4) := (hb1.cell (p := ⟨w.heap.size, 5, none⟩) (by simp; omega)).trans ((World.cell?_alloc_lt _ _ _ hlt2).trans b5); have f0 : w1.cell? ⟨wr.heap.size, 0, none⟩ = some (.string cn) := (hb1.cell (p := ⟨wr.heap.size, 0, none⟩) (by simp)).trans (by go_simp); have f1 : w1.cell? ⟨wr.heap.size, 1, none⟩ = some (.int .i64 ca) := (hb1.cell (p := ⟨wr.heap.size, 1, none⟩) (by simp)).trans (by go_simp); have f2 : w1.cell? ⟨wr.heap.size, 2, none⟩ = some (.int .i64 cb) := (hb1.cell (p := ⟨wr.heap.size, 2, none⟩) (by simp)).trans (by go_simp); have f3 : w1.cell? ⟨wr.heap.size, 3, none⟩ = some (.int .i64 cf) := (hb1.cell (p := ⟨wr.heap.size, 3, none⟩) (by simp)).trans (by go_simp); have f4 : w1.cell? ⟨wr.heap.size, 4, none⟩ = some (.int .i64 cl) := (hb1.cell (p := ⟨wr.heap.size, 4, none⟩) (by simp)).trans (by go_simp); have hown1 := own_keeps hoA hb1; have e0 := (hbw1.cell (p := ⟨b, off + j * 5, none⟩) hb).trans m0; have e1 := (hbw1.cell (p := ⟨b, off + j * 5 + 1, none⟩) hb).trans m1; have e2 := (hbw1.cell (p := ⟨b, off + j * 5 + 2, none⟩) hb).trans m2; have e3 := (hbw1.cell (p := ⟨b, off + j * 5 + 3, none⟩) hb).trans m3; have e4 := (hbw1.cell (p := ⟨b, off + j * 5 + 4, none⟩) hb).trans m4) | (go_at_call 83; refine (HS.out _).mono ?_; rintro e' w2 ⟨rfl, rfl⟩))
                        have hr2 : Below w2.heap.size w2 w2 := Below.refl _ _
                        refine wp_region_held_drew (S := (fun w' => w'.cell? ⟨w.heap.size, 0, none⟩ = some (.string id) ∧ w'.cell? ⟨w.heap.size, 1, none⟩ = some (.int .i64 size) ∧ w'.cell? ⟨w.heap.size, 2, none⟩ = some (.slice p1 n1 c1) ∧ w'.cell? ⟨w.heap.size, 3, none⟩ = some (.slice p2 n2 c2) ∧ w'.cell? ⟨w.heap.size, 4, none⟩ = some (.slice p3 n3 c3) ∧ w'.cell? ⟨w.heap.size, 5, none⟩ = some (.slice (some ⟨b, off, none⟩) n4 c4) ∧ w'.cell? ⟨wr.heap.size, 0, none⟩ = some (.string cn) ∧ w'.cell? ⟨wr.heap.size, 1, none⟩ = some (.int .i64 ca) ∧ w'.cell? ⟨wr.heap.size, 2, none⟩ = some (.int .i64 cb) ∧ w'.cell? ⟨wr.heap.size, 3, none⟩ = some (.int .i64 cf) ∧ w'.cell? ⟨wr.heap.size, 4, none⟩ = some (.int .i64 cl) ∧ w'.cell? ⟨b, off + j * 5, none⟩ = some (.string dn) ∧ w'.cell? ⟨b, off + j * 5 + 1, none⟩ = some (.int .i64 da) ∧ w'.cell? ⟨b, off + j * 5 + 2, none⟩ = some (.int .i64 db) ∧ w'.cell? ⟨b, off + j * 5 + 3, none⟩ = some (.int .i64 df) ∧ w'.cell? ⟨b, off + j * 5 + 4, none⟩ = some (.int .i64 dl) ∧ Below w2.heap.size w2 w')) (by kernel_rfl) ?_ (fun hHeld => ?_)
                        · (repeat' apply And.intro) <;> first | assumption | exact Below.drew (by assumption) | exact cell_keep (by assumption) hbq | exact below_keep (by first | assumption | exact Below.drew (by assumption)) (Nat.le_refl _) hbq
                        refine wpAnyH_take (i := 0) (v := ?_) rfl (by kernel_rfl) (by kernel_rfl) (by kernel_rfl) (fun _ _ _ h => h) (Or.inl ⟨by kernel_rfl, ?_⟩) (by assumption) ?_
                        rotate_left
                        · intro w hSw; (try dsimp only at hSw); go_simp; (try with_reducible rfl)
                        (try simp only [Act.put, List.setIfInBounds_toArray])
                        refine wpAnyH_take (i := 1) (v := ?_) rfl (by kernel_rfl) (by kernel_rfl) (by kernel_rfl) (fun _ _ _ h => h) (Or.inl ⟨by kernel_rfl, ?_⟩) (by assumption) ?_
                        rotate_left
                        · intro w hSw; (try dsimp only at hSw); go_simp; (try with_reducible rfl)
                        (try simp only [Act.put])
                        refine wpAnyH_take (i := 2) (v := ?_) rfl (by kernel_rfl) (by kernel_rfl) (by kernel_rfl) (fun _ _ _ h => h) (Or.inl ⟨by kernel_rfl, ?_⟩) (by assumption) ?_
                        rotate_left
                        · intro w hSw; (try dsimp only at hSw); go_simp; (try with_reducible rfl)
                        (try simp only [Act.put])
                        refine wpAnyH_take (i := 3) (v := ?_) rfl (by kernel_rfl) (by kernel_rfl) (by kernel_rfl) (fun _ _ _ h => h) (Or.inl ⟨by kernel_rfl, ?_⟩) (by assumption) ?_
                        rotate_left
                        · intro w hSw; (try dsimp only at hSw); go_simp; (try with_reducible rfl)
                        (try simp only [Act.put])
                        refine wpAnyH_take (i := 4) (v := ?_) rfl (by kernel_rfl) (by kernel_rfl) (by kernel_rfl) (fun _ _ _ h => h) (Or.inl ⟨by kernel_rfl, ?_⟩) (by assumption) ?_
                        rotate_left
                        · intro w hSw; (try dsimp only at hSw); go_simp; (try with_reducible rfl)
                        (try simp only [Act.put])
                        refine wpAnyH_take (i := 5) (v := ?_) rfl (by kernel_rfl) (by kernel_rfl) (by kernel_rfl) (fun _ _ _ h => h) (Or.inl ⟨by kernel_rfl, ?_⟩) (by assumption) ?_
                        rotate_left
                        · intro w hSw; (try dsimp only at hSw); go_simp; (try with_reducible rfl)
                        (try simp only [Act.put])
                        refine wpAnyH_take (i := 6) (v := ?_) rfl (by kernel_rfl) (by kernel_rfl) (by kernel_rfl) (fun _ _ _ h => h) (Or.inl ⟨by kernel_rfl, ?_⟩) (by assumption) ?_
                        rotate_left
                        · intro w hSw; (try dsimp only at hSw); go_simp; (try with_reducible rfl)
                        (try simp only [Act.put])
                        refine wpAnyH_take (i := 7) (v := ?_) rfl (by kernel_rfl) (by kernel_rfl) (by kernel_rfl) (fun _ _ _ h => h) (Or.inl ⟨by kernel_rfl, ?_⟩) (by assumption) ?_
                        rotate_left
                        · intro w hSw; (try dsimp only at hSw); go_simp; (try with_reducible rfl)
                        (try simp only [Act.put])
                        refine wpAnyH_take (i := 8) (v := ?_) rfl (by kernel_rfl) (by kernel_rfl) (by kernel_rfl) (fun _ _ _ h => h) (Or.inl ⟨by kernel_rfl, ?_⟩) (by assumption) ?_
                        rotate_left
                        · intro w hSw; (try dsimp only at hSw); go_simp; (try with_reducible rfl)
                        (try simp only [Act.put])
                        refine wpAnyH_take (i := 9) (v := ?_) rfl (by kernel_rfl) (by kernel_rfl) (by kernel_rfl) (fun _ _ _ h => h) (Or.inl ⟨by kernel_rfl, ?_⟩) (by assumption) ?_
                        rotate_left
                        · intro w hSw; (try dsimp only at hSw); go_simp; (try with_reducible rfl)
                        (try simp only [Act.put])
                        refine wpAnyH_ready (rs := [10]) (by kernel_rfl) (by simp) ?_
                        refine AllReadyH.cons rfl (fun K hK => ?_) AllReadyH.nil
                        go_simp
                        (first | (go_at_call 87; with_reducible refine (HBEG.out _).mono ?_; rintro e' wq ⟨rfl, hbq⟩))
                        dsimp only
                        refine hK.out _ _ ?_ (fun hHeld2 => ?_)
                        · (repeat' apply And.intro) <;> first | assumption | exact Below.drew (by assumption) | exact cell_keep (by assumption) hbq | exact below_keep (by first | assumption | exact Below.drew (by assumption)) (Nat.le_refl _) hbq
                        clear hK hHeld
                        (try simp only [Act.put, List.setIfInBounds_toArray, List.set_cons_zero, List.set_cons_succ])
                        refine wpAnyH_take (i := 11) (v := ?_) rfl (by kernel_rfl) (by kernel_rfl) (by kernel_rfl) (fun _ _ _ h => h) (Or.inl ⟨by kernel_rfl, ?_⟩) (by assumption) ?_
                        rotate_left
                        · intro w hSw; (try dsimp only at hSw); go_simp; (try with_reducible rfl)
                        (try simp only [Act.put, List.setIfInBounds_toArray])
                        refine wpAnyH_done (by kernel_rfl) ?_ _
                        (try simp only [List.getElem_toArray, List.getElem_cons_succ, List.getElem_cons_zero, List.set_cons_zero, List.set_cons_succ])
                        have hbq := drew_out hbq
                        have hbwQ := below_keepB hbw1 hbw1.size hbq
                        have hown1 := own_keeps hown1 hbq
                        have g0 := cell_keep g0 hbq
                        have g1 := cell_keep g1 hbq
                        have g2 := cell_keep g2 hbq
                        have g3 := cell_keep g3 hbq
                        have g4 := cell_keep g4 hbq
                        have g5 := cell_keep g5 hbq
                        have f0 := cell_keep f0 hbq
                        have f1 := cell_keep f1 hbq
                        have f2 := cell_keep f2 hbq
                        have f3 := cell_keep f3 hbq
                        have f4 := cell_keep f4 hbq
                        go_wp2_with (first | (go_at_call 88; with_reducible refine (HDEL.out _ (by assumption) (by assumption)).mono ?_; rintro e' w3 ⟨v', rfl, hown3, hgr3, hsm3⟩; have g0 := cell_grown hgr3 g0 hneB; have g1 := cell_grown hgr3 g1 hneB; have g2 := cell_grown hgr3 g2 hneB; have g3 := cell_grown hgr3 g3 hneB; have g4 := cell_grown hgr3 g4 hneB; have g5 := cell_grown hgr3 g5 hneB; have f0 := cell_grown hgr3 f0 hneC; have f1 := cell_grown hgr3 f1 hneC; have f2 := cell_grown hgr3 f2 hneC; have f3 := cell_grown hgr3 f3 hneC; have f4 := cell_grown hgr3 f4 hneC; have hbw3 := below_grown hbwQ hgr3 hBG hbwQ.size))
                        obtain ⟨g, cap', rfl, hbg, hgl, hcells⟩ := own_slice hown3 (by omega)
                        have d2 := hcells _ _ hd2
                        have hr3 : Below w3.heap.size w3 w3 := Below.refl _ _
                        have hwq : IntKind.i64.wrap (q : Int) = (q : Int) := IntWalk.i64_in _ ⟨by omega, by have := HOL.out; omega⟩
                        have hqq : (q : Int) < (q : Int) + 1 := by omega
                        refine wp_region_held_drew (S := (fun w' => w'.cell? ⟨w.heap.size, 0, none⟩ = some (.string id) ∧ w'.cell? ⟨w.heap.size, 1, none⟩ = some (.int .i64 size) ∧ w'.cell? ⟨w.heap.size, 2, none⟩ = some (.slice p1 n1 c1) ∧ w'.cell? ⟨w.heap.size, 3, none⟩ = some (.slice p2 n2 c2) ∧ w'.cell? ⟨w.heap.size, 4, none⟩ = some (.slice p3 n3 c3) ∧ w'.cell? ⟨w.heap.size, 5, none⟩ = some (.slice (some ⟨b, off, none⟩) n4 c4) ∧ w'.cell? ⟨wr.heap.size, 0, none⟩ = some (.string cn) ∧ w'.cell? ⟨wr.heap.size, 1, none⟩ = some (.int .i64 ca) ∧ w'.cell? ⟨wr.heap.size, 2, none⟩ = some (.int .i64 cb) ∧ w'.cell? ⟨wr.heap.size, 3, none⟩ = some (.int .i64 cf) ∧ w'.cell? ⟨wr.heap.size, 4, none⟩ = some (.int .i64 cl) ∧ w'.cell? ⟨g, q * 5 + 2, none⟩ = some (.int .i64 eb) ∧ Below w3.heap.size w3 w')) (by kernel_rfl) ?_ (fun hHeld => ?_)
                        · (repeat' apply And.intro) <;> first | assumption | exact Below.drew (by assumption) | exact cell_keep (by assumption) hbX | exact below_keep (by first | assumption | exact Below.drew (by assumption)) (Nat.le_refl _) hbX
                        refine wpAnyH_take (i := 0) (v := ?_) rfl (by kernel_rfl) (by kernel_rfl) (by kernel_rfl) (fun _ _ _ h => h) (Or.inl ⟨by kernel_rfl, ?_⟩) (by assumption) ?_
                        rotate_left
                        · intro w hSw; (try dsimp only at hSw); go_simp; (try with_reducible rfl)
                        (try simp only [Act.put, List.setIfInBounds_toArray])
                        refine wpAnyH_take (i := 1) (v := ?_) rfl (by kernel_rfl) (by kernel_rfl) (by kernel_rfl) (fun _ _ _ h => h) (Or.inl ⟨by kernel_rfl, ?_⟩) (by assumption) ?_
                        rotate_left
                        · intro w hSw; (try dsimp only at hSw); go_simp; (try with_reducible rfl)
                        (try simp only [Act.put])
                        refine wpAnyH_ready (rs := [2]) (by kernel_rfl) (by simp) ?_
                        refine AllReadyH.cons rfl (fun K hK => ?_) AllReadyH.nil
                        go_simp
                        (first | (go_at_call 90; with_reducible refine (HIN.out _ (below_keepB hbw3 hbw3.size (by first | assumption | exact Below.drew (by assumption)))).mono ?_; rintro e' wX ⟨rfl, hbX⟩))
                        dsimp only
                        refine hK.out _ _ ?_ (fun hHeld2 => ?_)
                        · (repeat' apply And.intro) <;> first | assumption | exact Below.drew (by assumption) | exact cell_keep (by assumption) hbX | exact below_keep (by first | assumption | exact Below.drew (by assumption)) (Nat.le_refl _) hbX
                        clear hK hHeld
                        (try simp only [Act.put, List.setIfInBounds_toArray, List.set_cons_zero, List.set_cons_succ])
                        refine wpAnyH_take (i := 3) (v := ?_) rfl (by kernel_rfl) (by kernel_rfl) (by kernel_rfl) (fun _ _ _ h => h) (Or.inl ⟨by kernel_rfl, ?_⟩) (by assumption) ?_
                        rotate_left
                        · intro w hSw; (try dsimp only at hSw); go_simp; (try with_reducible rfl)
                        (try simp only [Act.put, List.setIfInBounds_toArray])
                        refine wpAnyH_take (i := 4) (v := ?_) rfl (by kernel_rfl) (by kernel_rfl) (by kernel_rfl) (fun _ _ _ h => h) (Or.inl ⟨by kernel_rfl, ?_⟩) (by assumption) ?_
                        rotate_left
                        · intro w hSw; (try dsimp only at hSw); go_simp; (try with_reducible rfl)
                        (try simp only [Act.put])
                        refine wpAnyH_take (i := 5) (v := ?_) rfl (by kernel_rfl) (by kernel_rfl) (by kernel_rfl) (fun _ _ _ h => h) (Or.inl ⟨by kernel_rfl, ?_⟩) (by assumption) ?_
                        rotate_left
                        · intro w hSw; (try dsimp only at hSw); go_simp; (try with_reducible rfl)
                        (try simp only [Act.put])
                        refine wpAnyH_take (i := 6) (v := ?_) rfl (by kernel_rfl) (by kernel_rfl) (by kernel_rfl) (fun _ _ _ h => h) (Or.inl ⟨by kernel_rfl, ?_⟩) (by assumption) ?_
                        rotate_left
                        · intro w hSw; (try dsimp only at hSw); go_simp; (try with_reducible rfl)
                        (try simp only [Act.put])
                        refine wpAnyH_take (i := 7) (v := ?_) rfl (by kernel_rfl) (by kernel_rfl) (by kernel_rfl) (fun _ _ _ h => h) (Or.inl ⟨by kernel_rfl, ?_⟩) (by assumption) ?_
                        rotate_left
                        · intro w hSw; (try dsimp only at hSw); go_simp; (try with_reducible rfl)
                        (try simp only [Act.put])
                        refine wpAnyH_take (i := 8) (v := ?_) rfl (by kernel_rfl) (by kernel_rfl) (by kernel_rfl) (fun _ _ _ h => h) (Or.inl ⟨by kernel_rfl, ?_⟩) (by assumption) ?_
                        rotate_left
                        · intro w hSw; (try dsimp only at hSw); go_simp; (try with_reducible rfl)
                        (try simp only [Act.put])
                        refine wpAnyH_take (i := 9) (v := ?_) rfl (by kernel_rfl) (by kernel_rfl) (by kernel_rfl) (fun _ _ _ h => h) (Or.inl ⟨by kernel_rfl, ?_⟩) (by assumption) ?_
                        rotate_left
                        · intro w hSw; (try dsimp only at hSw); go_simp; (try with_reducible rfl)
                        (try simp only [Act.put])
                        refine wpAnyH_take (i := 10) (v := ?_) rfl (by kernel_rfl) (by kernel_rfl) (by kernel_rfl) (fun _ _ _ h => h) (Or.inl ⟨by kernel_rfl, ?_⟩) (by assumption) ?_
                        rotate_left
                        · intro w hSw; (try dsimp only at hSw); go_simp; (try with_reducible rfl)
                        (try simp only [Act.put])
                        refine wpAnyH_take (i := 11) (v := ?_) rfl (by kernel_rfl) (by kernel_rfl) (by kernel_rfl) (fun _ _ _ h => h) (Or.inl ⟨by kernel_rfl, ?_⟩) (by assumption) ?_
                        rotate_left
                        · intro w hSw; (try dsimp only at hSw); go_simp; (try with_reducible rfl)
                        (try simp only [Act.put])
                        refine wpAnyH_take (i := 12) (v := ?_) rfl (by kernel_rfl) (by kernel_rfl) (by kernel_rfl) (fun _ _ _ h => h) (Or.inl ⟨by kernel_rfl, ?_⟩) (by assumption) ?_
                        rotate_left
                        · intro w hSw; (try dsimp only at hSw); go_simp; (try with_reducible rfl)
                        (try simp only [Act.put])
                        refine wpAnyH_take (i := 13) (v := ?_) rfl (by kernel_rfl) (by kernel_rfl) (by kernel_rfl) (fun _ _ _ h => h) (Or.inl ⟨by kernel_rfl, ?_⟩) (by assumption) ?_
                        rotate_left
                        · intro w hSw; (try dsimp only at hSw); go_simp; (try with_reducible rfl)
                        (try simp only [Act.put])
                        refine wpAnyH_take (i := 14) (v := ?_) rfl (by kernel_rfl) (by kernel_rfl) (by kernel_rfl) (fun _ _ _ h => h) (Or.inl ⟨by kernel_rfl, ?_⟩) (by assumption) ?_
                        rotate_left
                        · intro w hSw; (try dsimp only at hSw); go_simp; (try with_reducible rfl)
                        (try simp only [Act.put])
                        refine wpAnyH_take (i := 15) (v := ?_) rfl (by kernel_rfl) (by kernel_rfl) (by kernel_rfl) (fun _ _ _ h => h) (Or.inl ⟨by kernel_rfl, ?_⟩) (by assumption) ?_
                        rotate_left
                        · intro w hSw; (try dsimp only at hSw); go_simp; (try with_reducible rfl)
                        (try simp only [Act.put])
                        refine wpAnyH_take (i := 16) (v := ?_) rfl (by kernel_rfl) (by kernel_rfl) (by kernel_rfl) (fun _ _ _ h => h) (Or.inl ⟨by kernel_rfl, ?_⟩) (by assumption) ?_
                        rotate_left
                        · intro w hSw; (try dsimp only at hSw); go_simp; (try with_reducible rfl)
                        (try simp only [Act.put])
                        refine wpAnyH_take (i := 17) (v := ?_) rfl (by kernel_rfl) (by kernel_rfl) (by kernel_rfl) (fun _ _ _ h => h) (Or.inl ⟨by kernel_rfl, ?_⟩) (by assumption) ?_
                        rotate_left
                        · intro w hSw; (try dsimp only at hSw); go_simp; (try with_reducible rfl)
                        (try simp only [Act.put])
                        refine wpAnyH_take (i := 18) (v := ?_) rfl (by kernel_rfl) (by kernel_rfl) (by kernel_rfl) (fun _ _ _ h => h) (Or.inl ⟨by kernel_rfl, ?_⟩) (by assumption) ?_
                        rotate_left
                        · intro w hSw; (try dsimp only at hSw); go_simp; (try with_reducible rfl)
                        (try simp only [Act.put])
                        refine wpAnyH_take (i := 19) (v := ?_) rfl (by kernel_rfl) (by kernel_rfl) (by kernel_rfl) (fun _ _ _ h => h) (Or.inl ⟨by kernel_rfl, ?_⟩) (by assumption) ?_
                        rotate_left
                        · intro w hSw; (try dsimp only at hSw); go_simp; (try with_reducible rfl)
                        (try simp only [Act.put])
                        refine wpAnyH_take (i := 20) (v := ?_) rfl (by kernel_rfl) (by kernel_rfl) (by kernel_rfl) (fun _ _ _ h => h) (Or.inl ⟨by kernel_rfl, ?_⟩) (by assumption) ?_
                        rotate_left
                        · intro w hSw; (try dsimp only at hSw); go_simp; (try with_reducible rfl)
                        (try simp only [Act.put])
                        refine wpAnyH_done (by kernel_rfl) ?_ _
                        (try simp only [List.getElem_toArray, List.getElem_cons_succ, List.getElem_cons_zero, List.setIfInBounds_toArray, List.set_cons_zero, List.set_cons_succ])
                        have hbX := drew_out hbX
                        have hBG4 := fun q h => (own_lt (k := q) hown3 h).1
                        have q1 : (q + 1) + 1 ≤ maxLen := by have := HOL.out; unfold maxLen; omega
                        have q2 : ((q + 1) + 1) * 48 ≤ 140737488355328 := by have := HOL.out; omega
                        obtain ⟨i0, hi, hz0, hz1, hz2⟩ := info_parts Tryd.info55
                        have hz5 : (Value.agg #[.string ⟨#[]⟩, .int .i64 0, .int .i64 0, .int .i64 0, .int .i64 0]).cells.size = 5 := rfl
                        have hbE := below_keepB hbw3 hbw3.size hbX
                        have hownX := own_keeps hown3 hbX
                        have gx0 := cell_keep g0 hbX
                        have gx1 := cell_keep g1 hbX
                        have gx2 := cell_keep g2 hbX
                        have gx3 := cell_keep g3 hbX
                        have gx4 := cell_keep g4 hbX
                        have gx5 := cell_keep g5 hbX
                        have fx0 := cell_keep f0 hbX
                        have fx1 := cell_keep f1 hbX
                        have fx2 := cell_keep f2 hbX
                        have fx3 := cell_keep f3 hbX
                        have fx4 := cell_keep f4 hbX
                        have q3 : w.heap.size + 1 ≤ (wX.alloc (.cells #[.string cn, .int .i64 ca, .int .i64 cb, .int .i64 cf, .int .i64 cl] 84)).heap.size := by have := hbE.size; simp; omega
                        have hownY := hownX.alloc (.cells #[.string cn, .int .i64 ca, .int .i64 cb, .int .i64 cf, .int .i64 cl] 84)
                        have hsrc := cells5_new wX ⟨cn, ca, cb, cf, cl⟩ 84
                        have hone : ∀ u ∈ [Value.string cn, .int .i64 ca, .int .i64 cb, .int .i64 cf, .int .i64 cl], u.oneCell' = true := cells5_one ⟨cn, ca, cb, cf, cl⟩
                        simp only at hsrc
                        go_wp2_with (at_builtin; go_loud (refine wpList_append_own _ rfl _ _ 40 rfl (w.heap.size + 1) 84 i0 _ 5 48 Tryd.underlying40 hi hz0 hz1 hz2 hz5 (by decide) _ (q + 1) xs rfl hownY ⟨wX.heap.size, 0, none⟩ 1 1 [.string cn, .int .i64 ca, .int .i64 cb, .int .i64 cf, .int .i64 cl] rfl rfl hsrc hone q1 q2 q3 ?_; intro v4 w4 hown4 hgr4 _))
                        have hTK : List.take (j + 1 + 1) l = pre ++ [⟨cn, ca, cb, cf, cl⟩] := HT.out
                        have hYB := hbE.alloc hbE.size (.cells #[.string cn, .int .i64 ca, .int .i64 cb, .int .i64 cf, .int .i64 cl] 84)
                        have hlX := hbE.size
                        have hneE := ne_block hBG4
                        have hbF := below_grown hYB hgr4 (fun q h => by have := hBG4 q h; omega) hYB.size
                        exact ⟨⟨(j + 1 + 1), v4, by omega, rfl, by go_num, by rw [hTK]; exact HR.out, by rw [hTK]; exact HNS1.out, by rw [hTK, HLEN.out, HCEL.out]; exact hown4, cell_grown hgr4 ((World.cell?_alloc_lt _ _ _ (World.block_lt_of_cell? _ _ gx0)).trans gx0) hneE, cell_grown hgr4 ((World.cell?_alloc_lt _ _ _ (World.block_lt_of_cell? _ _ gx1)).trans gx1) hneE, cell_grown hgr4 ((World.cell?_alloc_lt _ _ _ (World.block_lt_of_cell? _ _ gx2)).trans gx2) hneE, cell_grown hgr4 ((World.cell?_alloc_lt _ _ _ (World.block_lt_of_cell? _ _ gx3)).trans gx3) hneE, cell_grown hgr4 ((World.cell?_alloc_lt _ _ _ (World.block_lt_of_cell? _ _ gx4)).trans gx4) hneE, cell_grown hgr4 ((World.cell?_alloc_lt _ _ _ (World.block_lt_of_cell? _ _ gx5)).trans gx5) hneE, hbF⟩, by simp [RowKit.intOf]; omega⟩
        · rw [decide_eq_false hsp] at HS
          have HR := Lib.hid (show calsErr size n1 fs [] l = 2 by rw [HE1.out (by rw [callErr_bad hz (HBAD.out.2 (.inl hsp))]; omega), callErr_bad hz (HBAD.out.2 (.inl hsp))])
          clear hz hsp HBAD HE1 HE0 HIN HDIS HDIS0
          obtain ⟨cn, ca, cb, cf, cl⟩ := c
          simp only at *
          go_wp2_with (first | (go_at_call 86; refine (HN1.out _).mono ?_; rintro e' w1 ⟨rfl, hb1⟩; have hbw1 := below_a1 hbw hbw.size hb1; have g0 : w1.cell? ⟨w.heap.size, 0, none⟩ = some (.string id) := (hb1.cell (p := ⟨w.heap.size, 0, none⟩) (by simp; omega)).trans ((World.cell?_alloc_lt _ _ _ hlt2).trans b0); have g1 : w1.cell? ⟨w.heap.size, 1, none⟩ = some (.int .i64 size) := (hb1.cell (p := ⟨w.heap.size, 1, none⟩) (by simp; omega)).trans ((World.cell?_alloc_lt _ _ _ hlt2).trans b1); have g2 : w1.cell? ⟨w.heap.size, 2, none⟩ = some (.slice p1 n1 c1) := (hb1.cell (p := ⟨w.heap.size, 2, none⟩) (by simp; omega)).trans ((World.cell?_alloc_lt _ _ _ hlt2).trans b2); have g3 : w1.cell? ⟨w.heap.size, 3, none⟩ = some (.slice p2 n2 c2) := (hb1.cell (p := ⟨w.heap.size, 3, none⟩) (by simp; omega)).trans ((World.cell?_alloc_lt _ _ _ hlt2).trans b3); have g4 : w1.cell? ⟨w.heap.size, 4, none⟩ = some (.slice p3 n3 c3) := (hb1.cell (p := ⟨w.heap.size, 4, none⟩) (by simp; omega)).trans ((World.cell?_alloc_lt _ _ _ hlt2).trans b4); have g5 : w1.cell? ⟨w.heap.size, 5, none⟩ = some (.slice (some ⟨b, off, none⟩) n4 c4) := (hb1.cell (p := ⟨w.heap.size, 5, none⟩) (by simp; omega)).trans ((World.cell?_alloc_lt _ _ _ hlt2).trans b5); have f0 : w1.cell? ⟨wr.heap.size, 0, none⟩ = some (.string cn) := (hb1.cell (p := ⟨wr.heap.size, 0, none⟩) (by simp)).trans (by go_simp); have f1 : w1.cell? ⟨wr.heap.size, 1, none⟩ = some (.int .i64 ca) := (hb1.cell (p := ⟨wr.heap.size, 1, none⟩) (by simp)).trans (by go_simp); have f2 : w1.cell? ⟨wr.heap.size, 2, none⟩ = some (.int .i64 cb) := (hb1.cell (p := ⟨wr.heap.size, 2, none⟩) (by simp)).trans (by go_simp); have f3 : w1.cell? ⟨wr.heap.size, 3, none⟩ = some (.int .i64 cf) := (hb1.cell (p := ⟨wr.heap.size, 3, none⟩) (by simp)).trans (by go_simp); have f4 : w1.cell? ⟨wr.heap.size, 4, none⟩ = some (.int .i64 cl) := (hb1.cell (p := ⟨wr.heap.size, 4, none⟩) (by simp)).trans (by go_simp); have hown1 := own_keeps hoA hb1) | (go_at_call 83; refine (HS.out _).mono ?_; rintro e' w2 ⟨rfl, rfl⟩))
          go_ret
          exact ⟨ret_int HR.out.symm, hbw1⟩
      · have hq : (namErr c.n != 0) = true := by simpa using hz
        have HR := Lib.hid (show calsErr size n1 fs [] l = namErr c.n by rw [HE1.out (by rw [callErr_name hz]; exact hz), callErr_name hz])
        clear hz HBAD HE1 HE0 HS HIN HDIS HDIS0
        generalize namErr c.n = E at *
        obtain ⟨cn, ca, cb, cf, cl⟩ := c
        simp only at *
        go_wp2_with (go_at_call 86; refine (HN.out _).mono ?_; rintro e' w1 ⟨rfl, hb1⟩; have hbw1 := below_a1 hbw hbw.size hb1)
        go_ret
        exact ⟨ret_int HR.out.symm, hbw1⟩
    · have HR := Lib.hid (show calsErr size n1 fs [] l = 0 by rw [HEQ.out, List.drop_of_length_le (by omega)]; rfl)
      go_wp2_with fail
      go_ret
      exact ⟨ret_int HR.out.symm, hbw⟩
end Go.Proofs.YtcdaalnjanncmaaDoor

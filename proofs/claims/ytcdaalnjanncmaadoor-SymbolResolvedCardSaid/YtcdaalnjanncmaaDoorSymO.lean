/- The reference's check of the calls of a table. -/
import Derived.Test.YtcdaalnjanncmaaDoorSymN
import Derived.BigQuiet
namespace Go.Proofs.YtcdaalnjanncmaaDoor
open Go.RowKit Go.Deep

set_option maxHeartbeats 8000000 in
set_option maxRecDepth 100000 in
theorem callsFault_some (id : ByteArray) (size : Int) (b off n4 : Nat) (p1 p2 p3 : Option Addr) (n1 n2 n3 c1 c2 c3 c4 : Nat) (fs : List Fc) (l : List Cl) (w : World) (hl : l.length = n4) (hn : n4 ≤ 1000) (hnc : n4 ≤ c4) (hs1 : 1 ≤ size) (hs2 : size ≤ 4294967296) (hn1 : n1 ≤ 200) (hb : b < w.heap.size) (hc : AtG encC 5 w b off l) (hf : ∀ f ∈ l, fitC f)
    (hfs2 : SlG encF 3 fitF w (.slice p2 n2 c2) fs) :
    Calls Tryd.prog 53 #[.agg #[.string id, .int .i64 size, .slice p1 n1 c1, .slice p2 n2 c2, .slice p3 n3 c3, .slice (some ⟨b, off, none⟩) n4 c4]] w fun e w' => e = .returned (.int .i64 (calsErr size n1 fs [] l)) ∧ Below w.heap.size w w' := by
  have hd : decide (1000 < (n4 : Int)) = false := decide_eq_false (by omega)
  have hwn : IntKind.i64.wrap ((n1 : Int) - 1) = (n1 : Int) - 1 := IntWalk.i64_in _ ⟨by omega, by omega⟩
  have HSS := Lib.hid (fun a b W => spanFault_any a b size W (by omega) (by omega))
  have HFT := Lib.hid hf
  have HF2 := Lib.hid hfs2
  clear hf hs1 hs2 hn1 hfs2
  go_enter Tryd.func53, Tryd.ntmps53
  go_wp2_with fail
  go_loopw [19] (fun v wr => ∃ k : Nat, k ≤ n4 ∧ v = .int .i64 k ∧ calsErr size n1 fs [] l = calsErr size n1 fs (l.take k) (l.drop k) ∧ wr.cell? ⟨w.heap.size, 1, none⟩ = some (.int .i64 size) ∧ wr.cell? ⟨w.heap.size, 2, none⟩ = some (.slice p1 n1 c1) ∧ wr.cell? ⟨w.heap.size, 3, none⟩ = some (.slice p2 n2 c2) ∧ wr.cell? ⟨w.heap.size, 5, none⟩ = some (.slice (some ⟨b, off, none⟩) n4 c4) ∧ Below w.heap.size w wr) (fun v _ => n4 - (RowKit.intOf v).toNat)
  case atStart => exact ⟨0, Nat.zero_le _, rfl, by simp, by go_simp, by go_simp, by go_simp, by go_simp, (Below.refl _ _).alloc (Nat.le_refl _) _⟩
  case round =>
    obtain ⟨wa, rfl⟩ : ∃ wa : World, wa = wr := ⟨_, rfl⟩
    obtain ⟨k, hk, rfl, heq, b1, b2, b3, b5, hbw⟩ := hrel
    have HEQ := Lib.hid heq
    clear heq
    by_cases hlt : k < n4
    · have hkl : k < l.length := by omega
      have HD := Lib.hid (List.drop_eq_getElem_cons hkl)
      have HT := Lib.hid (List.take_succ_eq_append_getElem hkl)
      obtain ⟨k0, k1, k2, k3, k4⟩ := hc.cal hkl
      have k0 := (hbw.cell (p := ⟨b, _, none⟩) hb).trans k0
      have k1 := (hbw.cell (p := ⟨b, _, none⟩) hb).trans k1
      have k2 := (hbw.cell (p := ⟨b, _, none⟩) hb).trans k2
      have k3 := (hbw.cell (p := ⟨b, _, none⟩) hb).trans k3
      have k4 := (hbw.cell (p := ⟨b, _, none⟩) hb).trans k4
      have hfs := HFT.out _ (List.getElem_mem hkl)
      generalize l[k] = c at *
      have HPL := Lib.hid (show (l.take k).length = k by rw [List.length_take]; omega)
      have HH := Lib.hid (fun v (h : calsErr size n1 fs (l.take k) (c :: l.drop (k + 1)) = v) => (show calsErr size n1 fs [] l = v by rw [HEQ.out, HD.out]; exact h))
      clear HEQ HD
      have hlt2 := World.block_lt_of_cell? _ _ b1
      simp only at hlt2
      have HDIS := Lib.hid (fun (j : Nat) (d : Cl) (h : l[j]? = some d) (hj : k = j + 1) => (show disord (l.take k) c ↔ begB c d = true by rw [hj]; exact disord_take h))
      have HDIS0 := Lib.hid (fun (hj : k = 0) => (show ¬ disord (l.take k) c by rw [hj]; exact disord_nil))
      have HN := Lib.hid (fun W => nameFault_any c.n W hfs.1)
      have HS := Lib.hid (fun W => HSS.out c.a c.b W)
      have H1 := Lib.hid (fun W => outB_any c.f 0 ((n1 : Int) - 1) W)
      have H2 := Lib.hid (fun W => outB_any c.l 1 9999999 W)
      have HCON := Lib.hid (fun (W : World) (hW : Below w.heap.size w W) h1 h2 => contains38_any (.slice p2 n2 c2) wa.heap.size c.a c.b fs W (HF2.out.below (Nat.le_refl _) hW) h1 h2)
      have HBAD := Lib.hid (show (callBad size n1 c ↔ ¬ spanOk c.a c.b size ∨ c.f < 0 ∨ (n1 : Int) ≤ c.f ∨ c.l < 1 ∨ 9999999 < c.l) from Iff.rfl)
      have HE1 := Lib.hid (fun h => HH.out _ ((calsErr_err (size := size) (nf := n1) (fs := fs) (pre := l.take k) (c := c) (l := l.drop (k + 1)) h)))
      have HE0 := Lib.hid (fun h => HH.out _ ((calsErr_next (size := size) (nf := n1) (fs := fs) (pre := l.take k) (c := c) (l := l.drop (k + 1)) h)))
      rw [← HT.out] at HE0
      clear HH hfs
      by_cases hz : namErr c.n = 0
      · have HN1 := HN
        rw [hz] at HN1
        clear HN
        by_cases hsp : spanOk c.a c.b size
        · rw [if_pos hsp] at HS
          obtain ⟨q1, hq1⟩ : ∃ q, outB c.f 0 ((n1 : Int) - 1) = q := ⟨_, rfl⟩
          obtain ⟨q2, hq2⟩ : ∃ q, outB c.l 1 9999999 = q := ⟨_, rfl⟩
          rw [hq1] at H1
          rw [hq2] at H2
          rcases outB_iff hq1 with ⟨rfl, o1⟩ | ⟨rfl, o1⟩
          · have hbd := HBAD.out.2 (.inr (by omega))
            have HR := Lib.hid (show calsErr size n1 fs [] l = 2 by rw [HE1.out (by rw [callErr_bad hz hbd]; omega), callErr_bad hz hbd])
            clear hbd
            clear hz hsp o1 hq1 hq2 H2 HCON
            clear HBAD HE1 HE0 HDIS HDIS0 HPL HT
            obtain ⟨cn, ca, cb, cf, cl⟩ := c
            simp only at *
            go_wp2_with (first | (go_at_call 75; with_reducible refine (HN1.out _).mono ?_; rintro e' w1 ⟨rfl, hb1⟩; have hbw1 := below_a1 hbw hbw.size hb1; have g1 : w1.cell? ⟨w.heap.size, 1, none⟩ = some (.int .i64 size) := (hb1.cell (p := ⟨w.heap.size, 1, none⟩) (by simp; omega)).trans ((World.cell?_alloc_lt _ _ _ hlt2).trans b1); have g2 : w1.cell? ⟨w.heap.size, 2, none⟩ = some (.slice p1 n1 c1) := (hb1.cell (p := ⟨w.heap.size, 2, none⟩) (by simp; omega)).trans ((World.cell?_alloc_lt _ _ _ hlt2).trans b2); have g3 : w1.cell? ⟨w.heap.size, 3, none⟩ = some (.slice p2 n2 c2) := (hb1.cell (p := ⟨w.heap.size, 3, none⟩) (by simp; omega)).trans ((World.cell?_alloc_lt _ _ _ hlt2).trans b3); have g5 : w1.cell? ⟨w.heap.size, 5, none⟩ = some (.slice (some ⟨b, off, none⟩) n4 c4) := (hb1.cell (p := ⟨w.heap.size, 5, none⟩) (by simp; omega)).trans ((World.cell?_alloc_lt _ _ _ hlt2).trans b5); have f0 : w1.cell? ⟨wa.heap.size, 0, none⟩ = some (.string cn) := (hb1.cell (p := ⟨wa.heap.size, 0, none⟩) (by simp)).trans (by go_simp); have f1 : w1.cell? ⟨wa.heap.size, 1, none⟩ = some (.int .i64 ca) := (hb1.cell (p := ⟨wa.heap.size, 1, none⟩) (by simp)).trans (by go_simp); have f2 : w1.cell? ⟨wa.heap.size, 2, none⟩ = some (.int .i64 cb) := (hb1.cell (p := ⟨wa.heap.size, 2, none⟩) (by simp)).trans (by go_simp); have f3 : w1.cell? ⟨wa.heap.size, 3, none⟩ = some (.int .i64 cf) := (hb1.cell (p := ⟨wa.heap.size, 3, none⟩) (by simp)).trans (by go_simp); have f4 : w1.cell? ⟨wa.heap.size, 4, none⟩ = some (.int .i64 cl) := (hb1.cell (p := ⟨wa.heap.size, 4, none⟩) (by simp)).trans (by go_simp)) | (go_at_call 76; with_reducible refine (HS.out _).mono ?_; rintro e' w2 ⟨rfl, rfl⟩) | (go_at_call 48; with_reducible refine (H1.out _).mono ?_; rintro e' w2 ⟨rfl, rfl⟩))
            go_ret
            exact ⟨ret_int HR.out.symm, hbw1⟩
          · rcases outB_iff hq2 with ⟨rfl, o2⟩ | ⟨rfl, o2⟩
            · have hbd := HBAD.out.2 (.inr (by omega))
              have HR := Lib.hid (show calsErr size n1 fs [] l = 2 by rw [HE1.out (by rw [callErr_bad hz hbd]; omega), callErr_bad hz hbd])
              clear hbd
              clear hz hsp o1 o2 hq1 hq2 HCON
              clear HBAD HE1 HE0 HDIS HDIS0 HPL HT
              obtain ⟨cn, ca, cb, cf, cl⟩ := c
              simp only at *
              go_wp2_with (first | (go_at_call 75; with_reducible refine (HN1.out _).mono ?_; rintro e' w1 ⟨rfl, hb1⟩; have hbw1 := below_a1 hbw hbw.size hb1; have g1 : w1.cell? ⟨w.heap.size, 1, none⟩ = some (.int .i64 size) := (hb1.cell (p := ⟨w.heap.size, 1, none⟩) (by simp; omega)).trans ((World.cell?_alloc_lt _ _ _ hlt2).trans b1); have g2 : w1.cell? ⟨w.heap.size, 2, none⟩ = some (.slice p1 n1 c1) := (hb1.cell (p := ⟨w.heap.size, 2, none⟩) (by simp; omega)).trans ((World.cell?_alloc_lt _ _ _ hlt2).trans b2); have g3 : w1.cell? ⟨w.heap.size, 3, none⟩ = some (.slice p2 n2 c2) := (hb1.cell (p := ⟨w.heap.size, 3, none⟩) (by simp; omega)).trans ((World.cell?_alloc_lt _ _ _ hlt2).trans b3); have g5 : w1.cell? ⟨w.heap.size, 5, none⟩ = some (.slice (some ⟨b, off, none⟩) n4 c4) := (hb1.cell (p := ⟨w.heap.size, 5, none⟩) (by simp; omega)).trans ((World.cell?_alloc_lt _ _ _ hlt2).trans b5); have f0 : w1.cell? ⟨wa.heap.size, 0, none⟩ = some (.string cn) := (hb1.cell (p := ⟨wa.heap.size, 0, none⟩) (by simp)).trans (by go_simp); have f1 : w1.cell? ⟨wa.heap.size, 1, none⟩ = some (.int .i64 ca) := (hb1.cell (p := ⟨wa.heap.size, 1, none⟩) (by simp)).trans (by go_simp); have f2 : w1.cell? ⟨wa.heap.size, 2, none⟩ = some (.int .i64 cb) := (hb1.cell (p := ⟨wa.heap.size, 2, none⟩) (by simp)).trans (by go_simp); have f3 : w1.cell? ⟨wa.heap.size, 3, none⟩ = some (.int .i64 cf) := (hb1.cell (p := ⟨wa.heap.size, 3, none⟩) (by simp)).trans (by go_simp); have f4 : w1.cell? ⟨wa.heap.size, 4, none⟩ = some (.int .i64 cl) := (hb1.cell (p := ⟨wa.heap.size, 4, none⟩) (by simp)).trans (by go_simp)) | (go_at_call 76; with_reducible refine (HS.out _).mono ?_; rintro e' w2 ⟨rfl, rfl⟩) | (go_at_call 48; with_reducible refine (H1.out _).mono ?_; rintro e' w2 ⟨rfl, rfl⟩) | (go_at_call 48; with_reducible refine (H2.out _).mono ?_; rintro e' w2 ⟨rfl, rfl⟩))
              go_ret
              exact ⟨ret_int HR.out.symm, hbw1⟩
            · have hnb : ¬ callBad size n1 c := by rw [HBAD.out, not_or, Classical.not_not]; exact ⟨hsp, by omega⟩
              have HNB := Lib.hid hnb
              have HZ := Lib.hid hz
              clear hnb hz hsp o1 o2 hq1 hq2 HBAD
              cases k with
              | zero =>
                have hno := HDIS0.out rfl
                simp only [Nat.zero_mul, Nat.add_zero] at k0 k1 k2 k3 k4
                have HOUT := Lib.hid (fun h => callErr_out (size := size) (nf := n1) (fs := fs) HZ.out HNB.out hno h)
                have HOK := Lib.hid (fun h1 h2 h3 => callErr_ok (size := size) (nf := n1) (fs := fs) HZ.out HNB.out hno h1 h2 h3)
                have HDEEP := Lib.hid (fun h1 h2 h3 => callErr_deep (size := size) (nf := n1) (fs := fs) HZ.out HNB.out hno h1 h2 h3)
                have HWI := Lib.hid (within_any (fs := fs) (c := c))
                have hkc : ((0 : Nat) : Int) ≤ (c4 : Int) := by omega
                clear HZ HDIS HDIS0 HNB
                generalize hqw : fs.any (hasB c.a c.b) = qw at *
                have HQW := Lib.hid hqw
                clear hqw
                have HC0 := Lib.hid (show qw = (qw && !cutsB (l.take 0) c) by simp [cutsB])
                have HD0 := Lib.hid (show 0 = deep (l.take 0) c by simp [deep])
                have HHIT := Lib.hid (fun (jj : Nat) (x : Cl) (h : l[jj]? = some x) (hd : x.a ≤ c.a ∧ c.b ≤ x.b) => And.intro (deep_hit (c := c) h hd) (show cutsB (l.take (jj + 1)) c = cutsB (l.take jj) c by rw [cutsB_snoc h, cutB_hit hd, Bool.or_false]))
                have HMISS := Lib.hid (fun (jj : Nat) (x : Cl) (h : l[jj]? = some x) (hd : ¬ (x.a ≤ c.a ∧ c.b ≤ x.b)) => And.intro (deep_miss (c := c) h hd) (show cutsB (l.take (jj + 1)) c = (cutsB (l.take jj) c || decide (x.a < c.b ∧ c.a < x.b)) by rw [cutsB_snoc h, cutB_miss hd]))
                have HDL := Lib.hid (fun (jj : Nat) => Nat.le_trans (deep_le (l.take jj) c) (show (l.take jj).length ≤ jj by rw [List.length_take]; omega))
                obtain ⟨cn, ca, cb, cf, cl⟩ := c
                simp only at *
                go_wp2_with (first | (go_at_call 75; with_reducible refine (HN1.out _).mono ?_; rintro e' w1 ⟨rfl, hb1⟩; have hbw1 := below_a1 hbw hbw.size hb1; have g1 : w1.cell? ⟨w.heap.size, 1, none⟩ = some (.int .i64 size) := (hb1.cell (p := ⟨w.heap.size, 1, none⟩) (by simp; omega)).trans ((World.cell?_alloc_lt _ _ _ hlt2).trans b1); have g2 : w1.cell? ⟨w.heap.size, 2, none⟩ = some (.slice p1 n1 c1) := (hb1.cell (p := ⟨w.heap.size, 2, none⟩) (by simp; omega)).trans ((World.cell?_alloc_lt _ _ _ hlt2).trans b2); have g3 : w1.cell? ⟨w.heap.size, 3, none⟩ = some (.slice p2 n2 c2) := (hb1.cell (p := ⟨w.heap.size, 3, none⟩) (by simp; omega)).trans ((World.cell?_alloc_lt _ _ _ hlt2).trans b3); have g5 : w1.cell? ⟨w.heap.size, 5, none⟩ = some (.slice (some ⟨b, off, none⟩) n4 c4) := (hb1.cell (p := ⟨w.heap.size, 5, none⟩) (by simp; omega)).trans ((World.cell?_alloc_lt _ _ _ hlt2).trans b5); have f0 : w1.cell? ⟨wa.heap.size, 0, none⟩ = some (.string cn) := (hb1.cell (p := ⟨wa.heap.size, 0, none⟩) (by simp)).trans (by go_simp); have f1 : w1.cell? ⟨wa.heap.size, 1, none⟩ = some (.int .i64 ca) := (hb1.cell (p := ⟨wa.heap.size, 1, none⟩) (by simp)).trans (by go_simp); have f2 : w1.cell? ⟨wa.heap.size, 2, none⟩ = some (.int .i64 cb) := (hb1.cell (p := ⟨wa.heap.size, 2, none⟩) (by simp)).trans (by go_simp); have f3 : w1.cell? ⟨wa.heap.size, 3, none⟩ = some (.int .i64 cf) := (hb1.cell (p := ⟨wa.heap.size, 3, none⟩) (by simp)).trans (by go_simp); have f4 : w1.cell? ⟨wa.heap.size, 4, none⟩ = some (.int .i64 cl) := (hb1.cell (p := ⟨wa.heap.size, 4, none⟩) (by simp)).trans (by go_simp)) | (go_at_call 76; with_reducible refine (HS.out _).mono ?_; rintro e' w2 ⟨rfl, rfl⟩) | (go_at_call 48; with_reducible refine (H1.out _).mono ?_; rintro e' w2 ⟨rfl, rfl⟩) | (go_at_call 48; with_reducible refine (H2.out _).mono ?_; rintro e' w2 ⟨rfl, rfl⟩) | (go_at_call 77; with_reducible refine (HCON.out _ hbw1 f1 f2).mono ?_; rintro e' wo ⟨rfl, hbo⟩; have x0 := cell_keep f0 hbo; have x1 := cell_keep f1 hbo; have x2 := cell_keep f2 hbo; have x3 := cell_keep f3 hbo; have x4 := cell_keep f4 hbo; have y1 := cell_keep g1 hbo; have y2 := cell_keep g2 hbo; have y3 := cell_keep g3 hbo; have y5 := cell_keep g5 hbo; have hbwo := below_call hbw1 hbw1.size hbo))
                go_loopw [8, 9, 88] (fun v8 v9 v88 wx => ∃ (jj dp : Nat) (q8 : Bool), jj ≤ 0 ∧ v8 = .bool q8 ∧ v9 = .int .i64 dp ∧ v88 = .int .i64 jj ∧ q8 = (qw && !cutsB (l.take jj) ⟨cn, ca, cb, cf, cl⟩) ∧ dp = deep (l.take jj) ⟨cn, ca, cb, cf, cl⟩ ∧ Below wo.heap.size wo wx) (fun _ _ v88 _ => 0 - (RowKit.intOf v88).toNat)
                case atStart => exact ⟨0, 0, qw, Nat.zero_le _, rfl, rfl, rfl, HC0.out, HD0.out, Below.refl _ _⟩
                obtain ⟨jj, dp, q8, hjj, rfl, rfl, rfl, hq8, hdp, hbx⟩ := hrel
                have hdpb : dp ≤ 1000 := by have := HDL.out jj; omega
                have HQ8 := Lib.hid hq8
                have HDP := Lib.hid hdp
                clear hq8 hdp
                have z0 := cell_keep x0 hbx
                have z1 := cell_keep x1 hbx
                have z2 := cell_keep x2 hbx
                by_cases hjk : jj < 0
                · have hjl2 : jj < l.length := by omega
                  obtain ⟨s0, s1, s2, s3, s4⟩ := hc.cal hjl2
                  have hbwx := below_keep hbwo (Nat.le_refl _) hbx
                  have s0 := (hbwx.cell (p := ⟨b, _, none⟩) hb).trans s0
                  have s1 := (hbwx.cell (p := ⟨b, _, none⟩) hb).trans s1
                  have s2 := (hbwx.cell (p := ⟨b, _, none⟩) hb).trans s2
                  have s3 := (hbwx.cell (p := ⟨b, _, none⟩) hb).trans s3
                  have s4 := (hbwx.cell (p := ⟨b, _, none⟩) hb).trans s4
                  have HG := Lib.hid (List.getElem?_eq_getElem hjl2)
                  generalize l[jj] = x at *
                  obtain ⟨xn, xa, xb, xf, xl⟩ := x
                  simp only at s0 s1 s2 s3 s4
                  have HHIT1 := Lib.hid (HHIT.out jj _ HG.out)
                  have HMISS1 := Lib.hid (HMISS.out jj _ HG.out)
                  have hlz := World.block_lt_of_cell? _ _ z1
                  simp only at hlz
                  have hbx1 := hbx.alloc hbx.size (.cells #[.string xn, .int .i64 xa, .int .i64 xb, .int .i64 xf, .int .i64 xl] 84)
                  go_wp2_with fail
                  all_goals first
                    | exact ⟨⟨jj + 1, dp + 1, q8, by omega, rfl, by go_num, by go_num, by rw [(HHIT1.out (by constructor <;> (simp only; omega))).2]; exact HQ8.out, by rw [(HHIT1.out (by constructor <;> (simp only; omega))).1, ← HDP.out], hbx1⟩, by simp [RowKit.intOf]; omega⟩
                    | exact ⟨⟨jj + 1, dp, q8, by omega, rfl, rfl, by go_num, by rw [(HMISS1.out (by simp only; omega)).2, decide_eq_false (by simp only; omega), Bool.or_false]; exact HQ8.out, by rw [(HMISS1.out (by simp only; omega)).1, ← HDP.out], hbx1⟩, by simp [RowKit.intOf]; omega⟩
                    | exact ⟨⟨jj + 1, dp, false, by omega, rfl, rfl, by go_num, by rw [(HMISS1.out (by simp only; omega)).2, decide_eq_true (by simp only; omega), Bool.or_true, Bool.not_true, Bool.and_false], by rw [(HMISS1.out (by simp only; omega)).1, ← HDP.out], hbx1⟩, by simp [RowKit.intOf]; omega⟩
                · obtain rfl : jj = 0 := by omega
                  have hbwx := below_keep hbwo (Nat.le_refl _) hbx
                  cases q8 with
                  | false =>
                    have HR := Lib.hid (show calsErr size n1 fs [] l = 11 by
                      have hw : ¬ within fs ⟨cn, ca, cb, cf, cl⟩ ∨ cuts (l.take 0) ⟨cn, ca, cb, cf, cl⟩ := by
                        have h8 := HQ8.out
                        rcases hcq : cutsB (l.take 0) ⟨cn, ca, cb, cf, cl⟩ with _ | _
                        · left
                          intro hh
                          rw [hcq, HWI.out.2 hh] at h8
                          cases h8
                        · exact .inr (cutsB_iff.1 hcq)
                      rw [HE1.out (by rw [HOUT.out hw]; omega), HOUT.out hw])
                    clear HOUT HOK HDEEP HWI HE1 HE0 HQ8 HDP HHIT HMISS
                    go_wp2_with fail
                    go_ret
                    exact ⟨ret_int HR.out.symm, hbwx⟩
                  | true =>
                    have hwc : within fs ⟨cn, ca, cb, cf, cl⟩ ∧ ¬ cuts (l.take 0) ⟨cn, ca, cb, cf, cl⟩ := by
                      have h8 := HQ8.out
                      rw [eq_comm, Bool.and_eq_true, Bool.not_eq_true'] at h8
                      exact ⟨HWI.out.1 h8.1, fun hh => by rw [cutsB_iff.2 hh] at h8; cases h8.2⟩
                    by_cases hten : 10 ≤ dp
                    · have HR := Lib.hid (show calsErr size n1 fs [] l = 13 by
                        have hh := HDEEP.out hwc.1 hwc.2 (by rw [← HDP.out]; exact hten)
                        rw [HE1.out (by rw [hh]; omega), hh])
                      have ht1 : decide ((10 : Int) ≤ (dp : Int)) = true := decide_eq_true (by omega)
                      have ht2 : decide (10 ≤ dp) = true := decide_eq_true hten
                      clear hwc hten HOUT HOK HDEEP HWI HE1 HE0 HQ8 HDP HHIT HMISS
                      go_wp2_with fail
                      go_ret
                      exact ⟨ret_int HR.out.symm, hbwx⟩
                    · have HR := Lib.hid (HE0.out (HOK.out hwc.1 hwc.2 (by rw [← HDP.out]; exact hten)))
                      have ht1 : decide ((10 : Int) ≤ (dp : Int)) = false := decide_eq_false (by omega)
                      have ht2 : decide (10 ≤ dp) = false := decide_eq_false hten
                      clear hwc hten HOUT HOK HDEEP HWI HE1 HE0 HQ8 HDP HHIT HMISS
                      go_wp2_with fail
                      exact ⟨⟨0 + 1, by omega, by go_num, HR.out, cell_keep y1 hbx, cell_keep y2 hbx, cell_keep y3 hbx, cell_keep y5 hbx, hbwx⟩, by simp [RowKit.intOf]; omega⟩
              | succ j =>
                have hjl : j < l.length := by omega
                obtain ⟨m0, m1, m2, m3, m4⟩ := hc.cal hjl
                have hdj := List.getElem?_eq_getElem hjl
                have hjz : (j : Int) < (n4 : Int) := by omega
                have hwj : IntKind.i64.wrap (j : Int) = (j : Int) := IntWalk.i64_in _ ⟨by omega, by omega⟩
                have hkp : decide ((0 : Int) < ((j : Int) + 1)) = true := decide_eq_true (by omega)
                have HDB := Lib.hid (HDIS.out j _ hdj rfl)
                rw [begB_iff] at HDB
                clear hdj
                generalize l[j] = d1 at *
                obtain ⟨dn, da, db, df, dl⟩ := d1
                simp only at m0 m1 m2 m3 m4 HDB
                by_cases hbeg : c.a < da ∨ c.a = da ∧ db < c.b
                · have HR := Lib.hid (show calsErr size n1 fs [] l = 5 by
                    have hh := callErr_ord (size := size) (nf := n1) (fs := fs) HZ.out HNB.out (HDB.out.2 hbeg)
                    rw [HE1.out (by rw [hh]; omega), hh])
                  clear HZ HE1 HE0 HDIS HDIS0 HPL HNB HDB HCON HT
                  rcases hbeg with hcase | hcase
                  · have r1 : decide (c.a < da) = true := decide_eq_true hcase
                    clear hcase
                    obtain ⟨cn, ca, cb, cf, cl⟩ := c
                    simp only at *
                    go_wp2_with (first | (go_at_call 75; with_reducible refine (HN1.out _).mono ?_; rintro e' w1 ⟨rfl, hb1⟩; have hbw1 := below_a1 hbw hbw.size hb1; have g1 : w1.cell? ⟨w.heap.size, 1, none⟩ = some (.int .i64 size) := (hb1.cell (p := ⟨w.heap.size, 1, none⟩) (by simp; omega)).trans ((World.cell?_alloc_lt _ _ _ hlt2).trans b1); have g2 : w1.cell? ⟨w.heap.size, 2, none⟩ = some (.slice p1 n1 c1) := (hb1.cell (p := ⟨w.heap.size, 2, none⟩) (by simp; omega)).trans ((World.cell?_alloc_lt _ _ _ hlt2).trans b2); have g3 : w1.cell? ⟨w.heap.size, 3, none⟩ = some (.slice p2 n2 c2) := (hb1.cell (p := ⟨w.heap.size, 3, none⟩) (by simp; omega)).trans ((World.cell?_alloc_lt _ _ _ hlt2).trans b3); have g5 : w1.cell? ⟨w.heap.size, 5, none⟩ = some (.slice (some ⟨b, off, none⟩) n4 c4) := (hb1.cell (p := ⟨w.heap.size, 5, none⟩) (by simp; omega)).trans ((World.cell?_alloc_lt _ _ _ hlt2).trans b5); have f0 : w1.cell? ⟨wa.heap.size, 0, none⟩ = some (.string cn) := (hb1.cell (p := ⟨wa.heap.size, 0, none⟩) (by simp)).trans (by go_simp); have f1 : w1.cell? ⟨wa.heap.size, 1, none⟩ = some (.int .i64 ca) := (hb1.cell (p := ⟨wa.heap.size, 1, none⟩) (by simp)).trans (by go_simp); have f2 : w1.cell? ⟨wa.heap.size, 2, none⟩ = some (.int .i64 cb) := (hb1.cell (p := ⟨wa.heap.size, 2, none⟩) (by simp)).trans (by go_simp); have f3 : w1.cell? ⟨wa.heap.size, 3, none⟩ = some (.int .i64 cf) := (hb1.cell (p := ⟨wa.heap.size, 3, none⟩) (by simp)).trans (by go_simp); have f4 : w1.cell? ⟨wa.heap.size, 4, none⟩ = some (.int .i64 cl) := (hb1.cell (p := ⟨wa.heap.size, 4, none⟩) (by simp)).trans (by go_simp); have hla : wa.heap.size < w1.heap.size := World.block_lt_of_cell? _ _ f0; have hlb : w.heap.size < w1.heap.size := World.block_lt_of_cell? _ _ g1; have e0 := (hbw1.cell (p := ⟨b, off + j * 5, none⟩) hb).trans m0; have e1 := (hbw1.cell (p := ⟨b, off + j * 5 + 1, none⟩) hb).trans m1; have e2 := (hbw1.cell (p := ⟨b, off + j * 5 + 2, none⟩) hb).trans m2; have e3 := (hbw1.cell (p := ⟨b, off + j * 5 + 3, none⟩) hb).trans m3; have e4 := (hbw1.cell (p := ⟨b, off + j * 5 + 4, none⟩) hb).trans m4) | (go_at_call 76; with_reducible refine (HS.out _).mono ?_; rintro e' w2 ⟨rfl, rfl⟩) | (go_at_call 48; with_reducible refine (H1.out _).mono ?_; rintro e' w2 ⟨rfl, rfl⟩) | (go_at_call 48; with_reducible refine (H2.out _).mono ?_; rintro e' w2 ⟨rfl, rfl⟩))
                    go_ret
                    exact ⟨ret_int HR.out.symm, hbw1.alloc hbw1.size _⟩
                  · have r1 : decide (c.a < da) = false := decide_eq_false (by omega)
                    have r2 : (c.a == da) = true := by rw [beq_iff_eq]; exact hcase.1
                    have r3 : decide (db < c.b) = true := decide_eq_true hcase.2
                    clear hcase
                    obtain ⟨cn, ca, cb, cf, cl⟩ := c
                    simp only at *
                    go_wp2_with (first | (go_at_call 75; with_reducible refine (HN1.out _).mono ?_; rintro e' w1 ⟨rfl, hb1⟩; have hbw1 := below_a1 hbw hbw.size hb1; have g1 : w1.cell? ⟨w.heap.size, 1, none⟩ = some (.int .i64 size) := (hb1.cell (p := ⟨w.heap.size, 1, none⟩) (by simp; omega)).trans ((World.cell?_alloc_lt _ _ _ hlt2).trans b1); have g2 : w1.cell? ⟨w.heap.size, 2, none⟩ = some (.slice p1 n1 c1) := (hb1.cell (p := ⟨w.heap.size, 2, none⟩) (by simp; omega)).trans ((World.cell?_alloc_lt _ _ _ hlt2).trans b2); have g3 : w1.cell? ⟨w.heap.size, 3, none⟩ = some (.slice p2 n2 c2) := (hb1.cell (p := ⟨w.heap.size, 3, none⟩) (by simp; omega)).trans ((World.cell?_alloc_lt _ _ _ hlt2).trans b3); have g5 : w1.cell? ⟨w.heap.size, 5, none⟩ = some (.slice (some ⟨b, off, none⟩) n4 c4) := (hb1.cell (p := ⟨w.heap.size, 5, none⟩) (by simp; omega)).trans ((World.cell?_alloc_lt _ _ _ hlt2).trans b5); have f0 : w1.cell? ⟨wa.heap.size, 0, none⟩ = some (.string cn) := (hb1.cell (p := ⟨wa.heap.size, 0, none⟩) (by simp)).trans (by go_simp); have f1 : w1.cell? ⟨wa.heap.size, 1, none⟩ = some (.int .i64 ca) := (hb1.cell (p := ⟨wa.heap.size, 1, none⟩) (by simp)).trans (by go_simp); have f2 : w1.cell? ⟨wa.heap.size, 2, none⟩ = some (.int .i64 cb) := (hb1.cell (p := ⟨wa.heap.size, 2, none⟩) (by simp)).trans (by go_simp); have f3 : w1.cell? ⟨wa.heap.size, 3, none⟩ = some (.int .i64 cf) := (hb1.cell (p := ⟨wa.heap.size, 3, none⟩) (by simp)).trans (by go_simp); have f4 : w1.cell? ⟨wa.heap.size, 4, none⟩ = some (.int .i64 cl) := (hb1.cell (p := ⟨wa.heap.size, 4, none⟩) (by simp)).trans (by go_simp); have hla : wa.heap.size < w1.heap.size := World.block_lt_of_cell? _ _ f0; have hlb : w.heap.size < w1.heap.size := World.block_lt_of_cell? _ _ g1; have e0 := (hbw1.cell (p := ⟨b, off + j * 5, none⟩) hb).trans m0; have e1 := (hbw1.cell (p := ⟨b, off + j * 5 + 1, none⟩) hb).trans m1; have e2 := (hbw1.cell (p := ⟨b, off + j * 5 + 2, none⟩) hb).trans m2; have e3 := (hbw1.cell (p := ⟨b, off + j * 5 + 3, none⟩) hb).trans m3; have e4 := (hbw1.cell (p := ⟨b, off + j * 5 + 4, none⟩) hb).trans m4) | (go_at_call 76; with_reducible refine (HS.out _).mono ?_; rintro e' w2 ⟨rfl, rfl⟩) | (go_at_call 48; with_reducible refine (H1.out _).mono ?_; rintro e' w2 ⟨rfl, rfl⟩) | (go_at_call 48; with_reducible refine (H2.out _).mono ?_; rintro e' w2 ⟨rfl, rfl⟩))
                    go_ret
                    exact ⟨ret_int HR.out.symm, hbw1.alloc hbw1.size _⟩
                · have hno : ¬ disord (l.take (j + 1)) c := fun h => hbeg (HDB.out.1 h)
                  clear HDB
                  have HOUT := Lib.hid (fun h => callErr_out (size := size) (nf := n1) (fs := fs) HZ.out HNB.out hno h)
                  have HOK := Lib.hid (fun h1 h2 h3 => callErr_ok (size := size) (nf := n1) (fs := fs) HZ.out HNB.out hno h1 h2 h3)
                  have HDEEP := Lib.hid (fun h1 h2 h3 => callErr_deep (size := size) (nf := n1) (fs := fs) HZ.out HNB.out hno h1 h2 h3)
                  have HWI := Lib.hid (within_any (fs := fs) (c := c))
                  have hkc : ((j + 1 : Nat) : Int) ≤ (c4 : Int) := by omega
                  clear HZ HDIS HDIS0 HNB
                  generalize hqw : fs.any (hasB c.a c.b) = qw at *
                  have HQW := Lib.hid hqw
                  clear hqw
                  have HC0 := Lib.hid (show qw = (qw && !cutsB (l.take 0) c) by simp [cutsB])
                  have HD0 := Lib.hid (show 0 = deep (l.take 0) c by simp [deep])
                  have HHIT := Lib.hid (fun (jj : Nat) (x : Cl) (h : l[jj]? = some x) (hd : x.a ≤ c.a ∧ c.b ≤ x.b) => And.intro (deep_hit (c := c) h hd) (show cutsB (l.take (jj + 1)) c = cutsB (l.take jj) c by rw [cutsB_snoc h, cutB_hit hd, Bool.or_false]))
                  have HMISS := Lib.hid (fun (jj : Nat) (x : Cl) (h : l[jj]? = some x) (hd : ¬ (x.a ≤ c.a ∧ c.b ≤ x.b)) => And.intro (deep_miss (c := c) h hd) (show cutsB (l.take (jj + 1)) c = (cutsB (l.take jj) c || decide (x.a < c.b ∧ c.a < x.b)) by rw [cutsB_snoc h, cutB_miss hd]))
                  have HDL := Lib.hid (fun (jj : Nat) => Nat.le_trans (deep_le (l.take jj) c) (show (l.take jj).length ≤ jj by rw [List.length_take]; omega))
                  have r1 : decide (c.a < da) = false := decide_eq_false (by omega)
                  by_cases hcase : c.a = da
                  · have r2 : (c.a == da) = true := by rw [beq_iff_eq]; exact hcase
                    have r3 : decide (db < c.b) = false := decide_eq_false (by omega)
                    clear hcase hbeg
                    obtain ⟨cn, ca, cb, cf, cl⟩ := c
                    simp only at *
                    go_wp2_with (first | (go_at_call 75; with_reducible refine (HN1.out _).mono ?_; rintro e' w1 ⟨rfl, hb1⟩; have hbw1 := below_a1 hbw hbw.size hb1; have g1 : w1.cell? ⟨w.heap.size, 1, none⟩ = some (.int .i64 size) := (hb1.cell (p := ⟨w.heap.size, 1, none⟩) (by simp; omega)).trans ((World.cell?_alloc_lt _ _ _ hlt2).trans b1); have g2 : w1.cell? ⟨w.heap.size, 2, none⟩ = some (.slice p1 n1 c1) := (hb1.cell (p := ⟨w.heap.size, 2, none⟩) (by simp; omega)).trans ((World.cell?_alloc_lt _ _ _ hlt2).trans b2); have g3 : w1.cell? ⟨w.heap.size, 3, none⟩ = some (.slice p2 n2 c2) := (hb1.cell (p := ⟨w.heap.size, 3, none⟩) (by simp; omega)).trans ((World.cell?_alloc_lt _ _ _ hlt2).trans b3); have g5 : w1.cell? ⟨w.heap.size, 5, none⟩ = some (.slice (some ⟨b, off, none⟩) n4 c4) := (hb1.cell (p := ⟨w.heap.size, 5, none⟩) (by simp; omega)).trans ((World.cell?_alloc_lt _ _ _ hlt2).trans b5); have f0 : w1.cell? ⟨wa.heap.size, 0, none⟩ = some (.string cn) := (hb1.cell (p := ⟨wa.heap.size, 0, none⟩) (by simp)).trans (by go_simp); have f1 : w1.cell? ⟨wa.heap.size, 1, none⟩ = some (.int .i64 ca) := (hb1.cell (p := ⟨wa.heap.size, 1, none⟩) (by simp)).trans (by go_simp); have f2 : w1.cell? ⟨wa.heap.size, 2, none⟩ = some (.int .i64 cb) := (hb1.cell (p := ⟨wa.heap.size, 2, none⟩) (by simp)).trans (by go_simp); have f3 : w1.cell? ⟨wa.heap.size, 3, none⟩ = some (.int .i64 cf) := (hb1.cell (p := ⟨wa.heap.size, 3, none⟩) (by simp)).trans (by go_simp); have f4 : w1.cell? ⟨wa.heap.size, 4, none⟩ = some (.int .i64 cl) := (hb1.cell (p := ⟨wa.heap.size, 4, none⟩) (by simp)).trans (by go_simp); have hla : wa.heap.size < w1.heap.size := World.block_lt_of_cell? _ _ f0; have hlb : w.heap.size < w1.heap.size := World.block_lt_of_cell? _ _ g1; have e0 := (hbw1.cell (p := ⟨b, off + j * 5, none⟩) hb).trans m0; have e1 := (hbw1.cell (p := ⟨b, off + j * 5 + 1, none⟩) hb).trans m1; have e2 := (hbw1.cell (p := ⟨b, off + j * 5 + 2, none⟩) hb).trans m2; have e3 := (hbw1.cell (p := ⟨b, off + j * 5 + 3, none⟩) hb).trans m3; have e4 := (hbw1.cell (p := ⟨b, off + j * 5 + 4, none⟩) hb).trans m4) | (go_at_call 76; with_reducible refine (HS.out _).mono ?_; rintro e' w2 ⟨rfl, rfl⟩) | (go_at_call 48; with_reducible refine (H1.out _).mono ?_; rintro e' w2 ⟨rfl, rfl⟩) | (go_at_call 48; with_reducible refine (H2.out _).mono ?_; rintro e' w2 ⟨rfl, rfl⟩) | (go_at_call 77; with_reducible refine (HCON.out _ (hbw1.alloc hbw1.size _) ((World.cell?_alloc_lt _ _ _ (World.block_lt_of_cell? _ _ f1)).trans f1) ((World.cell?_alloc_lt _ _ _ (World.block_lt_of_cell? _ _ f2)).trans f2)).mono ?_; rintro e' wo ⟨rfl, hbo⟩; have x0 := cell_keep ((World.cell?_alloc_lt _ _ _ (World.block_lt_of_cell? _ _ f0)).trans f0) hbo; have x1 := cell_keep ((World.cell?_alloc_lt _ _ _ (World.block_lt_of_cell? _ _ f1)).trans f1) hbo; have x2 := cell_keep ((World.cell?_alloc_lt _ _ _ (World.block_lt_of_cell? _ _ f2)).trans f2) hbo; have x3 := cell_keep ((World.cell?_alloc_lt _ _ _ (World.block_lt_of_cell? _ _ f3)).trans f3) hbo; have x4 := cell_keep ((World.cell?_alloc_lt _ _ _ (World.block_lt_of_cell? _ _ f4)).trans f4) hbo; have y1 := cell_keep ((World.cell?_alloc_lt _ _ _ (World.block_lt_of_cell? _ _ g1)).trans g1) hbo; have y2 := cell_keep ((World.cell?_alloc_lt _ _ _ (World.block_lt_of_cell? _ _ g2)).trans g2) hbo; have y3 := cell_keep ((World.cell?_alloc_lt _ _ _ (World.block_lt_of_cell? _ _ g3)).trans g3) hbo; have y5 := cell_keep ((World.cell?_alloc_lt _ _ _ (World.block_lt_of_cell? _ _ g5)).trans g5) hbo; have hbwo := below_a1 hbw1 hbw1.size hbo))
                    go_loopw [8, 9, 88] (fun v8 v9 v88 wx => ∃ (jj dp : Nat) (q8 : Bool), jj ≤ (j + 1) ∧ v8 = .bool q8 ∧ v9 = .int .i64 dp ∧ v88 = .int .i64 jj ∧ q8 = (qw && !cutsB (l.take jj) ⟨cn, ca, cb, cf, cl⟩) ∧ dp = deep (l.take jj) ⟨cn, ca, cb, cf, cl⟩ ∧ Below wo.heap.size wo wx) (fun _ _ v88 _ => (j + 1) - (RowKit.intOf v88).toNat)
                    case atStart => exact ⟨0, 0, qw, Nat.zero_le _, rfl, rfl, rfl, HC0.out, HD0.out, Below.refl _ _⟩
                    obtain ⟨jj, dp, q8, hjj, rfl, rfl, rfl, hq8, hdp, hbx⟩ := hrel
                    have hdpb : dp ≤ 1000 := by have := HDL.out jj; omega
                    have HQ8 := Lib.hid hq8
                    have HDP := Lib.hid hdp
                    clear hq8 hdp
                    have z0 := cell_keep x0 hbx
                    have z1 := cell_keep x1 hbx
                    have z2 := cell_keep x2 hbx
                    by_cases hjk : jj < (j + 1)
                    · have hjl2 : jj < l.length := by omega
                      obtain ⟨s0, s1, s2, s3, s4⟩ := hc.cal hjl2
                      have hbwx := below_keep hbwo (Nat.le_refl _) hbx
                      have s0 := (hbwx.cell (p := ⟨b, _, none⟩) hb).trans s0
                      have s1 := (hbwx.cell (p := ⟨b, _, none⟩) hb).trans s1
                      have s2 := (hbwx.cell (p := ⟨b, _, none⟩) hb).trans s2
                      have s3 := (hbwx.cell (p := ⟨b, _, none⟩) hb).trans s3
                      have s4 := (hbwx.cell (p := ⟨b, _, none⟩) hb).trans s4
                      have HG := Lib.hid (List.getElem?_eq_getElem hjl2)
                      generalize l[jj] = x at *
                      obtain ⟨xn, xa, xb, xf, xl⟩ := x
                      simp only at s0 s1 s2 s3 s4
                      have HHIT1 := Lib.hid (HHIT.out jj _ HG.out)
                      have HMISS1 := Lib.hid (HMISS.out jj _ HG.out)
                      have hlz := World.block_lt_of_cell? _ _ z1
                      simp only at hlz
                      have hbx1 := hbx.alloc hbx.size (.cells #[.string xn, .int .i64 xa, .int .i64 xb, .int .i64 xf, .int .i64 xl] 84)
                      go_wp2_with fail
                      all_goals first
                        | exact ⟨⟨jj + 1, dp + 1, q8, by omega, rfl, by go_num, by go_num, by rw [(HHIT1.out (by constructor <;> (simp only; omega))).2]; exact HQ8.out, by rw [(HHIT1.out (by constructor <;> (simp only; omega))).1, ← HDP.out], hbx1⟩, by simp [RowKit.intOf]; omega⟩
                        | exact ⟨⟨jj + 1, dp, q8, by omega, rfl, rfl, by go_num, by rw [(HMISS1.out (by simp only; omega)).2, decide_eq_false (by simp only; omega), Bool.or_false]; exact HQ8.out, by rw [(HMISS1.out (by simp only; omega)).1, ← HDP.out], hbx1⟩, by simp [RowKit.intOf]; omega⟩
                        | exact ⟨⟨jj + 1, dp, false, by omega, rfl, rfl, by go_num, by rw [(HMISS1.out (by simp only; omega)).2, decide_eq_true (by simp only; omega), Bool.or_true, Bool.not_true, Bool.and_false], by rw [(HMISS1.out (by simp only; omega)).1, ← HDP.out], hbx1⟩, by simp [RowKit.intOf]; omega⟩
                    · obtain rfl : jj = (j + 1) := by omega
                      have hbwx := below_keep hbwo (Nat.le_refl _) hbx
                      cases q8 with
                      | false =>
                        have HR := Lib.hid (show calsErr size n1 fs [] l = 11 by
                          have hw : ¬ within fs ⟨cn, ca, cb, cf, cl⟩ ∨ cuts (l.take (j + 1)) ⟨cn, ca, cb, cf, cl⟩ := by
                            have h8 := HQ8.out
                            rcases hcq : cutsB (l.take (j + 1)) ⟨cn, ca, cb, cf, cl⟩ with _ | _
                            · left
                              intro hh
                              rw [hcq, HWI.out.2 hh] at h8
                              cases h8
                            · exact .inr (cutsB_iff.1 hcq)
                          rw [HE1.out (by rw [HOUT.out hw]; omega), HOUT.out hw])
                        clear HOUT HOK HDEEP HWI HE1 HE0 HQ8 HDP HHIT HMISS
                        go_wp2_with fail
                        go_ret
                        exact ⟨ret_int HR.out.symm, hbwx⟩
                      | true =>
                        have hwc : within fs ⟨cn, ca, cb, cf, cl⟩ ∧ ¬ cuts (l.take (j + 1)) ⟨cn, ca, cb, cf, cl⟩ := by
                          have h8 := HQ8.out
                          rw [eq_comm, Bool.and_eq_true, Bool.not_eq_true'] at h8
                          exact ⟨HWI.out.1 h8.1, fun hh => by rw [cutsB_iff.2 hh] at h8; cases h8.2⟩
                        by_cases hten : 10 ≤ dp
                        · have HR := Lib.hid (show calsErr size n1 fs [] l = 13 by
                            have hh := HDEEP.out hwc.1 hwc.2 (by rw [← HDP.out]; exact hten)
                            rw [HE1.out (by rw [hh]; omega), hh])
                          have ht1 : decide ((10 : Int) ≤ (dp : Int)) = true := decide_eq_true (by omega)
                          have ht2 : decide (10 ≤ dp) = true := decide_eq_true hten
                          clear hwc hten HOUT HOK HDEEP HWI HE1 HE0 HQ8 HDP HHIT HMISS
                          go_wp2_with fail
                          go_ret
                          exact ⟨ret_int HR.out.symm, hbwx⟩
                        · have HR := Lib.hid (HE0.out (HOK.out hwc.1 hwc.2 (by rw [← HDP.out]; exact hten)))
                          have ht1 : decide ((10 : Int) ≤ (dp : Int)) = false := decide_eq_false (by omega)
                          have ht2 : decide (10 ≤ dp) = false := decide_eq_false hten
                          clear hwc hten HOUT HOK HDEEP HWI HE1 HE0 HQ8 HDP HHIT HMISS
                          go_wp2_with fail
                          exact ⟨⟨(j + 1) + 1, by omega, by go_num, HR.out, cell_keep y1 hbx, cell_keep y2 hbx, cell_keep y3 hbx, cell_keep y5 hbx, hbwx⟩, by simp [RowKit.intOf]; omega⟩
                  · have r2 : (c.a == da) = false := by rw [beq_eq_false_iff_ne]; exact hcase
                    clear hcase hbeg
                    obtain ⟨cn, ca, cb, cf, cl⟩ := c
                    simp only at *
                    go_wp2_with (first | (go_at_call 75; with_reducible refine (HN1.out _).mono ?_; rintro e' w1 ⟨rfl, hb1⟩; have hbw1 := below_a1 hbw hbw.size hb1; have g1 : w1.cell? ⟨w.heap.size, 1, none⟩ = some (.int .i64 size) := (hb1.cell (p := ⟨w.heap.size, 1, none⟩) (by simp; omega)).trans ((World.cell?_alloc_lt _ _ _ hlt2).trans b1); have g2 : w1.cell? ⟨w.heap.size, 2, none⟩ = some (.slice p1 n1 c1) := (hb1.cell (p := ⟨w.heap.size, 2, none⟩) (by simp; omega)).trans ((World.cell?_alloc_lt _ _ _ hlt2).trans b2); have g3 : w1.cell? ⟨w.heap.size, 3, none⟩ = some (.slice p2 n2 c2) := (hb1.cell (p := ⟨w.heap.size, 3, none⟩) (by simp; omega)).trans ((World.cell?_alloc_lt _ _ _ hlt2).trans b3); have g5 : w1.cell? ⟨w.heap.size, 5, none⟩ = some (.slice (some ⟨b, off, none⟩) n4 c4) := (hb1.cell (p := ⟨w.heap.size, 5, none⟩) (by simp; omega)).trans ((World.cell?_alloc_lt _ _ _ hlt2).trans b5); have f0 : w1.cell? ⟨wa.heap.size, 0, none⟩ = some (.string cn) := (hb1.cell (p := ⟨wa.heap.size, 0, none⟩) (by simp)).trans (by go_simp); have f1 : w1.cell? ⟨wa.heap.size, 1, none⟩ = some (.int .i64 ca) := (hb1.cell (p := ⟨wa.heap.size, 1, none⟩) (by simp)).trans (by go_simp); have f2 : w1.cell? ⟨wa.heap.size, 2, none⟩ = some (.int .i64 cb) := (hb1.cell (p := ⟨wa.heap.size, 2, none⟩) (by simp)).trans (by go_simp); have f3 : w1.cell? ⟨wa.heap.size, 3, none⟩ = some (.int .i64 cf) := (hb1.cell (p := ⟨wa.heap.size, 3, none⟩) (by simp)).trans (by go_simp); have f4 : w1.cell? ⟨wa.heap.size, 4, none⟩ = some (.int .i64 cl) := (hb1.cell (p := ⟨wa.heap.size, 4, none⟩) (by simp)).trans (by go_simp); have hla : wa.heap.size < w1.heap.size := World.block_lt_of_cell? _ _ f0; have hlb : w.heap.size < w1.heap.size := World.block_lt_of_cell? _ _ g1; have e0 := (hbw1.cell (p := ⟨b, off + j * 5, none⟩) hb).trans m0; have e1 := (hbw1.cell (p := ⟨b, off + j * 5 + 1, none⟩) hb).trans m1; have e2 := (hbw1.cell (p := ⟨b, off + j * 5 + 2, none⟩) hb).trans m2; have e3 := (hbw1.cell (p := ⟨b, off + j * 5 + 3, none⟩) hb).trans m3; have e4 := (hbw1.cell (p := ⟨b, off + j * 5 + 4, none⟩) hb).trans m4) | (go_at_call 76; with_reducible refine (HS.out _).mono ?_; rintro e' w2 ⟨rfl, rfl⟩) | (go_at_call 48; with_reducible refine (H1.out _).mono ?_; rintro e' w2 ⟨rfl, rfl⟩) | (go_at_call 48; with_reducible refine (H2.out _).mono ?_; rintro e' w2 ⟨rfl, rfl⟩) | (go_at_call 77; with_reducible refine (HCON.out _ (hbw1.alloc hbw1.size _) ((World.cell?_alloc_lt _ _ _ (World.block_lt_of_cell? _ _ f1)).trans f1) ((World.cell?_alloc_lt _ _ _ (World.block_lt_of_cell? _ _ f2)).trans f2)).mono ?_; rintro e' wo ⟨rfl, hbo⟩; have x0 := cell_keep ((World.cell?_alloc_lt _ _ _ (World.block_lt_of_cell? _ _ f0)).trans f0) hbo; have x1 := cell_keep ((World.cell?_alloc_lt _ _ _ (World.block_lt_of_cell? _ _ f1)).trans f1) hbo; have x2 := cell_keep ((World.cell?_alloc_lt _ _ _ (World.block_lt_of_cell? _ _ f2)).trans f2) hbo; have x3 := cell_keep ((World.cell?_alloc_lt _ _ _ (World.block_lt_of_cell? _ _ f3)).trans f3) hbo; have x4 := cell_keep ((World.cell?_alloc_lt _ _ _ (World.block_lt_of_cell? _ _ f4)).trans f4) hbo; have y1 := cell_keep ((World.cell?_alloc_lt _ _ _ (World.block_lt_of_cell? _ _ g1)).trans g1) hbo; have y2 := cell_keep ((World.cell?_alloc_lt _ _ _ (World.block_lt_of_cell? _ _ g2)).trans g2) hbo; have y3 := cell_keep ((World.cell?_alloc_lt _ _ _ (World.block_lt_of_cell? _ _ g3)).trans g3) hbo; have y5 := cell_keep ((World.cell?_alloc_lt _ _ _ (World.block_lt_of_cell? _ _ g5)).trans g5) hbo; have hbwo := below_a1 hbw1 hbw1.size hbo))
                    go_loopw [8, 9, 88] (fun v8 v9 v88 wx => ∃ (jj dp : Nat) (q8 : Bool), jj ≤ (j + 1) ∧ v8 = .bool q8 ∧ v9 = .int .i64 dp ∧ v88 = .int .i64 jj ∧ q8 = (qw && !cutsB (l.take jj) ⟨cn, ca, cb, cf, cl⟩) ∧ dp = deep (l.take jj) ⟨cn, ca, cb, cf, cl⟩ ∧ Below wo.heap.size wo wx) (fun _ _ v88 _ => (j + 1) - (RowKit.intOf v88).toNat)
                    case atStart => exact ⟨0, 0, qw, Nat.zero_le _, rfl, rfl, rfl, HC0.out, HD0.out, Below.refl _ _⟩
                    obtain ⟨jj, dp, q8, hjj, rfl, rfl, rfl, hq8, hdp, hbx⟩ := hrel
                    have hdpb : dp ≤ 1000 := by have := HDL.out jj; omega
                    have HQ8 := Lib.hid hq8
                    have HDP := Lib.hid hdp
                    clear hq8 hdp
                    have z0 := cell_keep x0 hbx
                    have z1 := cell_keep x1 hbx
                    have z2 := cell_keep x2 hbx
                    by_cases hjk : jj < (j + 1)
                    · have hjl2 : jj < l.length := by omega
                      obtain ⟨s0, s1, s2, s3, s4⟩ := hc.cal hjl2
                      have hbwx := below_keep hbwo (Nat.le_refl _) hbx
                      have s0 := (hbwx.cell (p := ⟨b, _, none⟩) hb).trans s0
                      have s1 := (hbwx.cell (p := ⟨b, _, none⟩) hb).trans s1
                      have s2 := (hbwx.cell (p := ⟨b, _, none⟩) hb).trans s2
                      have s3 := (hbwx.cell (p := ⟨b, _, none⟩) hb).trans s3
                      have s4 := (hbwx.cell (p := ⟨b, _, none⟩) hb).trans s4
                      have HG := Lib.hid (List.getElem?_eq_getElem hjl2)
                      generalize l[jj] = x at *
                      obtain ⟨xn, xa, xb, xf, xl⟩ := x
                      simp only at s0 s1 s2 s3 s4
                      have HHIT1 := Lib.hid (HHIT.out jj _ HG.out)
                      have HMISS1 := Lib.hid (HMISS.out jj _ HG.out)
                      have hlz := World.block_lt_of_cell? _ _ z1
                      simp only at hlz
                      have hbx1 := hbx.alloc hbx.size (.cells #[.string xn, .int .i64 xa, .int .i64 xb, .int .i64 xf, .int .i64 xl] 84)
                      go_wp2_with fail
                      all_goals first
                        | exact ⟨⟨jj + 1, dp + 1, q8, by omega, rfl, by go_num, by go_num, by rw [(HHIT1.out (by constructor <;> (simp only; omega))).2]; exact HQ8.out, by rw [(HHIT1.out (by constructor <;> (simp only; omega))).1, ← HDP.out], hbx1⟩, by simp [RowKit.intOf]; omega⟩
                        | exact ⟨⟨jj + 1, dp, q8, by omega, rfl, rfl, by go_num, by rw [(HMISS1.out (by simp only; omega)).2, decide_eq_false (by simp only; omega), Bool.or_false]; exact HQ8.out, by rw [(HMISS1.out (by simp only; omega)).1, ← HDP.out], hbx1⟩, by simp [RowKit.intOf]; omega⟩
                        | exact ⟨⟨jj + 1, dp, false, by omega, rfl, rfl, by go_num, by rw [(HMISS1.out (by simp only; omega)).2, decide_eq_true (by simp only; omega), Bool.or_true, Bool.not_true, Bool.and_false], by rw [(HMISS1.out (by simp only; omega)).1, ← HDP.out], hbx1⟩, by simp [RowKit.intOf]; omega⟩
                    · obtain rfl : jj = (j + 1) := by omega
                      have hbwx := below_keep hbwo (Nat.le_refl _) hbx
                      cases q8 with
                      | false =>
                        have HR := Lib.hid (show calsErr size n1 fs [] l = 11 by
                          have hw : ¬ within fs ⟨cn, ca, cb, cf, cl⟩ ∨ cuts (l.take (j + 1)) ⟨cn, ca, cb, cf, cl⟩ := by
                            have h8 := HQ8.out
                            rcases hcq : cutsB (l.take (j + 1)) ⟨cn, ca, cb, cf, cl⟩ with _ | _
                            · left
                              intro hh
                              rw [hcq, HWI.out.2 hh] at h8
                              cases h8
                            · exact .inr (cutsB_iff.1 hcq)
                          rw [HE1.out (by rw [HOUT.out hw]; omega), HOUT.out hw])
                        clear HOUT HOK HDEEP HWI HE1 HE0 HQ8 HDP HHIT HMISS
                        go_wp2_with fail
                        go_ret
                        exact ⟨ret_int HR.out.symm, hbwx⟩
                      | true =>
                        have hwc : within fs ⟨cn, ca, cb, cf, cl⟩ ∧ ¬ cuts (l.take (j + 1)) ⟨cn, ca, cb, cf, cl⟩ := by
                          have h8 := HQ8.out
                          rw [eq_comm, Bool.and_eq_true, Bool.not_eq_true'] at h8
                          exact ⟨HWI.out.1 h8.1, fun hh => by rw [cutsB_iff.2 hh] at h8; cases h8.2⟩
                        by_cases hten : 10 ≤ dp
                        · have HR := Lib.hid (show calsErr size n1 fs [] l = 13 by
                            have hh := HDEEP.out hwc.1 hwc.2 (by rw [← HDP.out]; exact hten)
                            rw [HE1.out (by rw [hh]; omega), hh])
                          have ht1 : decide ((10 : Int) ≤ (dp : Int)) = true := decide_eq_true (by omega)
                          have ht2 : decide (10 ≤ dp) = true := decide_eq_true hten
                          clear hwc hten HOUT HOK HDEEP HWI HE1 HE0 HQ8 HDP HHIT HMISS
                          go_wp2_with fail
                          go_ret
                          exact ⟨ret_int HR.out.symm, hbwx⟩
                        · have HR := Lib.hid (HE0.out (HOK.out hwc.1 hwc.2 (by rw [← HDP.out]; exact hten)))
                          have ht1 : decide ((10 : Int) ≤ (dp : Int)) = false := decide_eq_false (by omega)
                          have ht2 : decide (10 ≤ dp) = false := decide_eq_false hten
                          clear hwc hten HOUT HOK HDEEP HWI HE1 HE0 HQ8 HDP HHIT HMISS
                          go_wp2_with fail
                          exact ⟨⟨(j + 1) + 1, by omega, by go_num, HR.out, cell_keep y1 hbx, cell_keep y2 hbx, cell_keep y3 hbx, cell_keep y5 hbx, hbwx⟩, by simp [RowKit.intOf]; omega⟩
        · rw [if_neg hsp] at HS
          have HR := Lib.hid (show calsErr size n1 fs [] l = 2 by rw [HE1.out (by rw [callErr_bad hz (HBAD.out.2 (.inl hsp))]; omega), callErr_bad hz (HBAD.out.2 (.inl hsp))])
          clear hz hsp H1 H2 HCON
          clear HBAD HE1 HE0 HDIS HDIS0 HPL HT
          obtain ⟨cn, ca, cb, cf, cl⟩ := c
          simp only at *
          go_wp2_with (first | (go_at_call 75; with_reducible refine (HN1.out _).mono ?_; rintro e' w1 ⟨rfl, hb1⟩; have hbw1 := below_a1 hbw hbw.size hb1; have g1 : w1.cell? ⟨w.heap.size, 1, none⟩ = some (.int .i64 size) := (hb1.cell (p := ⟨w.heap.size, 1, none⟩) (by simp; omega)).trans ((World.cell?_alloc_lt _ _ _ hlt2).trans b1); have g2 : w1.cell? ⟨w.heap.size, 2, none⟩ = some (.slice p1 n1 c1) := (hb1.cell (p := ⟨w.heap.size, 2, none⟩) (by simp; omega)).trans ((World.cell?_alloc_lt _ _ _ hlt2).trans b2); have g3 : w1.cell? ⟨w.heap.size, 3, none⟩ = some (.slice p2 n2 c2) := (hb1.cell (p := ⟨w.heap.size, 3, none⟩) (by simp; omega)).trans ((World.cell?_alloc_lt _ _ _ hlt2).trans b3); have g5 : w1.cell? ⟨w.heap.size, 5, none⟩ = some (.slice (some ⟨b, off, none⟩) n4 c4) := (hb1.cell (p := ⟨w.heap.size, 5, none⟩) (by simp; omega)).trans ((World.cell?_alloc_lt _ _ _ hlt2).trans b5); have f0 : w1.cell? ⟨wa.heap.size, 0, none⟩ = some (.string cn) := (hb1.cell (p := ⟨wa.heap.size, 0, none⟩) (by simp)).trans (by go_simp); have f1 : w1.cell? ⟨wa.heap.size, 1, none⟩ = some (.int .i64 ca) := (hb1.cell (p := ⟨wa.heap.size, 1, none⟩) (by simp)).trans (by go_simp); have f2 : w1.cell? ⟨wa.heap.size, 2, none⟩ = some (.int .i64 cb) := (hb1.cell (p := ⟨wa.heap.size, 2, none⟩) (by simp)).trans (by go_simp); have f3 : w1.cell? ⟨wa.heap.size, 3, none⟩ = some (.int .i64 cf) := (hb1.cell (p := ⟨wa.heap.size, 3, none⟩) (by simp)).trans (by go_simp); have f4 : w1.cell? ⟨wa.heap.size, 4, none⟩ = some (.int .i64 cl) := (hb1.cell (p := ⟨wa.heap.size, 4, none⟩) (by simp)).trans (by go_simp)) | (go_at_call 76; with_reducible refine (HS.out _).mono ?_; rintro e' w2 ⟨rfl, rfl⟩))
          go_ret
          exact ⟨ret_int HR.out.symm, hbw1⟩
      · have hq : (namErr c.n != 0) = true := by simpa using hz
        have HR := Lib.hid (show calsErr size n1 fs [] l = namErr c.n by rw [HE1.out (by rw [callErr_name hz]; exact hz), callErr_name hz])
        clear hz HS H1 H2 HCON
        clear HBAD HE1 HE0 HDIS HDIS0 HPL HT
        generalize namErr c.n = E at *
        obtain ⟨cn, ca, cb, cf, cl⟩ := c
        simp only at *
        go_wp2_with (go_at_call 75; refine (HN.out _).mono ?_; rintro e' w1 ⟨rfl, hb1⟩; have hbw1 := below_a1 hbw hbw.size hb1)
        go_ret
        exact ⟨ret_int HR.out.symm, hbw1⟩
    · have HR := Lib.hid (show calsErr size n1 fs [] l = 0 by rw [HEQ.out, List.drop_of_length_le (by omega)]; rfl)
      go_wp2_with fail
      go_ret
      exact ⟨ret_int HR.out.symm, hbw⟩
end Go.Proofs.YtcdaalnjanncmaaDoor

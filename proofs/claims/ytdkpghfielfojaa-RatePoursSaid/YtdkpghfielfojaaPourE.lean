/- What pours. -/
import Derived.Test.YtdkpghfielfojaaPourD
import Derived.Test.YtdkpghfielfojaaPourQ
namespace Go.Proofs.Ytdkpghfielfojaa
open Go.RowKit Go.Lib

theorem results_one {fn : Func} {p : Tmp} {v0 v1 v2 : Value} (h : fn.results = #[.cell p 46]) (tmps : Array Value) (w : World) (g : Nat) (hp : tmps.getD p undef = .pointer (some ⟨g, 0, none⟩)) (hb : Bx3 w g v0 v1 v2) :
    (results fn tmps).run Try.prog w = .ok (.agg #[v0, v1, v2]) w := by
  obtain ⟨c0, c1, c2, f0, f1, f2⟩ := hb
  have hp' : tmps[p]?.getD undef = .pointer (some ⟨g, 0, none⟩) := by simpa using hp
  simp [results, h, hp', asAddr, loadVar]
  go_simp
theorem results_two {fn : Func} {p q : Tmp} {v0 v1 v2 u : Value} (h : fn.results = #[.cell p 46, .tmp q]) (tmps : Array Value) (w : World) (g : Nat) (hp : tmps.getD p undef = .pointer (some ⟨g, 0, none⟩)) (hq : tmps.getD q undef = u) (hb : Bx3 w g v0 v1 v2) :
    (results fn tmps).run Try.prog w = .ok (.tuple #[.agg #[v0, v1, v2], u]) w := by
  obtain ⟨c0, c1, c2, f0, f1, f2⟩ := hb
  have hp' : tmps[p]?.getD undef = .pointer (some ⟨g, 0, none⟩) := by simpa using hp
  have hq' : tmps[q]?.getD undef = u := by simpa using hq
  simp [results, h, hp', hq', asAddr, loadVar]
  go_simp
theorem results_three {fn : Func} {p q o : Tmp} {v0 v1 v2 u x : Value} (h : fn.results = #[.cell p 46, .tmp q, .tmp o]) (tmps : Array Value) (w : World) (g : Nat) (hp : tmps.getD p undef = .pointer (some ⟨g, 0, none⟩)) (hq : tmps.getD q undef = u) (ho : tmps.getD o undef = x) (hb : Bx3 w g v0 v1 v2) :
    (results fn tmps).run Try.prog w = .ok (.tuple #[.agg #[v0, v1, v2], u, x]) w := by
  obtain ⟨c0, c1, c2, f0, f1, f2⟩ := hb
  have hp' : tmps[p]?.getD undef = .pointer (some ⟨g, 0, none⟩) := by simpa using hp
  have hq' : tmps[q]?.getD undef = u := by simpa using hq
  have ho' : tmps[o]?.getD undef = x := by simpa using ho
  simp [results, h, hp', hq', ho', asAddr, loadVar]
  go_simp

theorem Bx3.drewN {w : World} {B : Nat} {v0 v1 v2 : Value} (h : Bx3 w B v0 v1 v2) (n : Nat) : Bx3 (w.drewN n) B v0 v1 v2 := ⟨h.1, h.2, h.3, h.4, h.5, h.6⟩
theorem Two.drewN {w W : World} {S A E h t r : Int} (x : Two w W S A E h t r) (n : Nat) : Two w (W.drewN n) S A E h t r := ⟨x.b.drewN n, x.l.drewN n, below_drewE x.bw n⟩
def pourH (S A E h t r n : Int) : Int := min S (h + (n - t + r) / E * A)
def pourR (E t r n : Int) : Int := (n - t + r) % E
theorem pour_ok {S A E h t r n : Int} (hl : pourErr S A E h t r n = 0) : lvlErr S A E h t r = 0 ∧ (0 ≤ n ∧ n ≤ 3155759999) ∧ t ≤ n := by
  unfold pourErr at hl
  split at hl
  · rename_i h1
    refine ⟨h1, ?_⟩
    split at hl
    · rename_i h2
      unfold wi at h2
      split at hl
      · cases hl
      · rename_i h3
        exact ⟨by simpa using h2, by omega⟩
    · cases hl
  · rename_i h1; exact absurd hl h1

set_option maxHeartbeats 1000000 in
set_option maxRecDepth 100000 in
theorem pour_any (S A E h t r n : Int) (w : World) (hl : pourErr S A E h t r n = 0) : Calls Try.prog 34 #[.agg #[.int .i64 S, .int .i64 A, .int .i64 E], .agg #[.int .i64 h, .int .i64 t, .int .i64 r], .int .i64 n] w fun e w' => e = .returned (.agg #[.int .i64 (pourH S A E h t r n), .int .i64 n, .int .i64 (pourR E t r n)]) ∧ Below w.heap.size w w' := by
  obtain ⟨hl, ⟨n1, n2⟩, hn⟩ := pour_ok hl
  obtain ⟨⟨⟨s1, s2⟩, ⟨a1, a2⟩, ⟨e1, e2⟩⟩, ⟨h1, h2⟩, ⟨t1, t2⟩, ⟨r1, r2⟩⟩ := lvl_ok hl
  unfold pourH pourR
  have hw1 : IntKind.i64.wrap (n - t) = n - t := IntWalk.i64_in _ ⟨by omega, by omega⟩
  have hw2 : IntKind.i64.wrap (n - t + r) = n - t + r := IntWalk.i64_in _ ⟨by omega, by omega⟩
  obtain ⟨g, hg⟩ : ∃ g, g = n - t + r := ⟨_, rfl⟩
  have hg0 : 0 ≤ g := by omega
  have hg1 : g ≤ 3155846399 := by omega
  rw [← hg] at hw2 ⊢
  have HG := Lib.hid hg
  have hgq : n - t + r = g := hg.symm
  have hq : g.tdiv E = g / E := Int.tdiv_eq_ediv_of_nonneg hg0
  have hm : g.tmod E = g % E := Int.tmod_eq_emod_of_nonneg hg0
  have hq0 : 0 ≤ g / E := Int.ediv_nonneg hg0 (by omega)
  have hq1 : g / E ≤ g := Int.ediv_le_self _ hg0
  have hm0 := Int.emod_nonneg g (show E ≠ 0 by omega)
  have hm1 := Int.emod_lt_of_pos g (show 0 < E by omega)
  obtain ⟨hp0, hp1⟩ := prod_le hq0 (show g / E ≤ 3155846399 by omega) (show 0 ≤ A by omega) a2
  have hw4 : IntKind.i64.wrap (g / E) = g / E := IntWalk.i64_in _ ⟨by omega, by omega⟩
  have hw6 : IntKind.i64.wrap (h + g / E * A) = h + g / E * A := IntWalk.i64_in _ ⟨by omega, by omega⟩
  have hw7 : IntKind.i64.wrap (g % E) = g % E := IntWalk.i64_in _ ⟨by omega, by omega⟩
  have ha0 : (E == 0) = false := by rw [beq_eq_false_iff_ne]; omega
  have ha1 : E ≠ 0 := by omega
  generalize g / E = k at *
  generalize g % E = m at *
  obtain ⟨c, hc⟩ : ∃ c, c = k * A := ⟨_, rfl⟩
  have hw5 : wrap64 (k * A) = c := by unfold wrap64; omega
  rw [← hc] at hw6 ⊢
  obtain ⟨mn, hmn⟩ : ∃ mn, mn = min S (h + c) := ⟨_, rfl⟩
  rw [← hmn]
  have HMN := Lib.hid hmn
  have HT := Lib.hid (Two.new w S A E h t r)
  have HTA := Lib.hid (HT.out.alloc (.cells #[.int .i64 0, .int .i64 0, .int .i64 0] 46))
  have hZ := Bx3.new ((w.alloc (.cells #[.int .i64 S, .int .i64 A, .int .i64 E] 44)).alloc (.cells #[.int .i64 h, .int .i64 t, .int .i64 r] 46)) (.int .i64 0) (.int .i64 0) (.int .i64 0) 46
  rw [show ((w.alloc (.cells #[.int .i64 S, .int .i64 A, .int .i64 E] 44)).alloc (.cells #[.int .i64 h, .int .i64 t, .int .i64 r] 46)).heap.size = w.heap.size + 1 + 1 by simp] at hZ
  have HZ := Lib.hid hZ
  clear hZ hl n1 n2 hn s1 s2 a1 a2 e1 e2 h1 h2 t1 t2 r1 r2 hg hg0 hg1 hq0 hq1 hm0 hm1 hp0 hp1 hc hmn
  go_enter Try.func34, Try.ntmps34
  go_upto_region 2 with fail
  go_quiet (fail)
  go_upto_region 3 with fail
  have HR := Lib.hid (And.intro (HTA.out.drewN nq) (HZ.out.drewN nq))
  generalize World.drewN _ nq = wr at HR ⊢
  obtain ⟨k0, k1, k2, _, _, _⟩ := HR.out.1.b
  obtain ⟨l0, l1, l2, _, _, _⟩ := HR.out.1.l
  obtain ⟨z0, z1, z2, g0, g1, g2⟩ := HR.out.2
  simp only [hw5]
  by_cases hmin : S ≤ h + c
  · have HMS := Lib.hid (show mn = S by have := HMN.out; omega)
    refine wp_region_quiet_tail 13 (by kernel_rfl) (by kernel_rfl) ?_
    simp only [List.take_succ_cons, List.take_zero, List.drop_succ_cons, List.drop_zero]
    repeat (go_big_quiet_step (fail))
    refine wpQuiet_nil ?_
    obtain ⟨q0, q1, q2, f0, f1, f2⟩ := HR.out.2.drewN 1
    go_wp2_with fail
    refine bodyPost_ret (results_one rfl _ _ _ rfl ((HR.out.2.drewN 1).all _ _ _)) rfl ?_
    exact ⟨by rw [HMS.out], set3_below (HR.out.1.drewN 1).bw (by omega) _ _ _⟩
  · have HMS := Lib.hid (show mn = h + c by have := HMN.out; omega)
    refine wp_region_quiet_tail 13 (by kernel_rfl) (by kernel_rfl) ?_
    simp only [List.take_succ_cons, List.take_zero, List.drop_succ_cons, List.drop_zero]
    repeat (go_big_quiet_step (fail))
    refine wpQuiet_nil ?_
    obtain ⟨q0, q1, q2, f0, f1, f2⟩ := HR.out.2.drewN 1
    go_wp2_with fail
    refine bodyPost_ret (results_one rfl _ _ _ rfl ((HR.out.2.drewN 1).all _ _ _)) rfl ?_
    exact ⟨by rw [HMS.out], set3_below (HR.out.1.drewN 1).bw (by omega) _ _ _⟩
end Go.Proofs.Ytdkpghfielfojaa

/- Compare of two versions. A region that draws its order, reads, and ends in what makes memory: the reads by the cheap walk. -/
import Derived.Test.YtnpnoohnkbpokaaDoorVerO
import Derived.StillTail
import Derived.BigQuiet
namespace Go.Proofs.YtnpnoohnkbpokaaDoor
open Go.RowKit Go.Lib

section
variable {P : Program} {ops : Array Oper} {w : World}
theorem still_of_quiet {o : Oper} {a : Act} {K : Act → Prop} (h : o.quiet P a (fun w' => w' = w) K) : o.still P a w K := by
  obtain ⟨v, h1, h2⟩ := h
  have h3 := h1 w rfl
  unfold Oper.quietAt at h3
  unfold Oper.still
  generalize (execOp a.eval o).run P w = r at *
  cases r with
  | ok n w' =>
    cases n <;> simp only [Oper.quietUpon] at h3 <;> simp only [Oper.stillUpon]
    case value u =>
      obtain ⟨e1, e2⟩ := h3
      exact ⟨e1, by rw [e2]; exact h2⟩
    case skip =>
      obtain ⟨e1, e2⟩ := h3
      exact ⟨e1, by rw [← e2]; exact h2⟩
    case enter f args =>
      obtain ⟨e1, hc⟩ := h3
      exact ⟨e1, v, hc, h2⟩
  | halt x w' => simp only [Oper.quietUpon] at h3
theorem stills_of_quiets {Q : Act → Prop} : ∀ (l : List Oper) (a : Act), wpQuiet P ops (fun w' => w' = w) Q l a → wpStill P ops w Q l a
  | [], _, h => h
  | o :: l, a, h => by
    unfold wpQuiet at h
    unfold wpStill
    split
    · rename_i hw
      rw [if_pos hw] at h
      exact Oper.still_mono (fun a' ha => stills_of_quiets l a' ha) (still_of_quiet h)
    · rename_i hw
      rw [if_neg hw] at h
      exact stills_of_quiets l _ h
theorem wp_region_quiet_tail {id : Nat} {Q : Exit → Act → World → Prop} {a : Act} {l : List Oper} (n : Nat) (hm : P.follows .mixedOrders = true) (hB : Region.lexTailB .any l.toArray n = true)
    (h : wpQuiet P l.toArray (fun w' => w' = w.drewN 1) (fun a' => wpList P l.toArray Q (l.drop n) a' (w.drewN 1)) (l.take n) a) : (Code.region id l.toArray true).wp P Q a w :=
  wp_region_still_tail n hm hB (stills_of_quiets _ _ h)
end

/-- The first that is not 0. -/
def fnz : List Int → Int
  | [] => 0
  | a :: r => if a ≠ 0 then a else fnz r
theorem fnz_drop {l : List Int} {k : Nat} (h : k < l.length) : fnz (l.drop k) = if l[k] ≠ 0 then l[k] else fnz (l.drop (k + 1)) := by
  rw [List.drop_eq_getElem_cons h]; rfl

set_option maxHeartbeats 1000000 in
set_option maxRecDepth 100000 in
theorem or_any (g : Nat) (zs : List Int) (w : World) (hz : zs.length ≤ 100) (h : ∀ j (hj : j < zs.length), w.cell? ⟨g, j, none⟩ = some (.int .i64 zs[j])) :
    Calls Tryd.prog 59 #[.slice (some ⟨g, 0, none⟩) zs.length zs.length] w fun e w' => e = .returned (.int .i64 (fnz zs)) ∧ w' = w := by
  obtain ⟨R, hR⟩ : ∃ R, R = fnz zs := ⟨_, rfl⟩
  rw [← hR]
  have HR := Lib.hid hR
  clear hR
  go_enter Tryd.func59, Tryd.ntmps59
  go_wp2_with fail
  go_loop [8] (fun v => ∃ k : Nat, v = .int .i64 k ∧ k ≤ zs.length ∧ fnz (zs.drop k) = R) (fun v => zs.length - (RowKit.intOf v).toNat)
  case atStart => exact ⟨0, rfl, Nat.zero_le _, HR.out.symm⟩
  case round =>
    obtain ⟨k, rfl, hk, hno⟩ := hrel
    have HNO := Lib.hid hno
    clear hno
    by_cases hlt : k < zs.length
    · have c0 := h k hlt
      have HS := Lib.hid (fnz_drop hlt)
      clear h
      generalize zs[k] = z at *
      by_cases hc : z = 0
      · subst hc
        have HS2 := Lib.hid (show fnz (zs.drop (k + 1)) = R by rw [← HNO.out, HS.out, if_neg (by decide)])
        go_wp2_with fail
        exact ⟨⟨k + 1, rfl, hlt, HS2.out⟩, by simp [RowKit.intOf]; omega⟩
      · have hq : (z != 0) = true := by simpa using hc
        have HS2 := Lib.hid (show z = R by rw [← HNO.out, HS.out, if_pos hc])
        clear hc
        go_wp2_with fail
        go_ret
        exact ⟨ret_int HS2.out, rfl⟩
    · have HS2 := Lib.hid (show R = 0 by rw [← HNO.out, show zs.drop k = [] from List.drop_eq_nil_of_le (by omega)]; rfl)
      go_wp2_with fail
      go_ret
      exact ⟨ret_int HS2.out.symm, rfl⟩

theorem four (W : World) (a b c d : Int) (t : TypeId) : ∀ j (hj : j < [a, b, c, d].length), (W.alloc (.cells #[.int .i64 a, .int .i64 b, .int .i64 c, .int .i64 d] t)).cell? ⟨W.heap.size, j, none⟩ = some (.int .i64 ([a, b, c, d][j])) := by
  intro j hj
  match j, hj with
  | 0, _ => go_simp
  | 1, _ => go_simp
  | 2, _ => go_simp
  | 3, _ => go_simp
def preC (x y : Vr) : Int := fnz [cmpS x.pj y.pj, cmpI x.ma y.ma, cmpI x.mi y.mi, cmpI x.pa y.pa]
/-- How versions compare. -/
def cmpV (x y : Vr) : Int :=
  if preC x y ≠ 0 then preC x y else if x.pre = [] ∧ y.pre ≠ [] then 1 else if x.pre ≠ [] ∧ y.pre = [] then -1 else cmpL x.pre y.pre

set_option maxHeartbeats 4000000 in
set_option maxRecDepth 100000 in
theorem Compare_any (v u : Value) (x y : Vr) (w : World) (h1 : VrV w v x) (h2 : VrV w u y) (he : Env w) :
    Calls Tryd.prog 24 #[v, u] w fun e w' => e = .returned (.int .i64 (cmpV x y)) ∧ Below w.heap.size w w' := by
  obtain ⟨p, rfl, hsl⟩ := h1
  obtain ⟨q, rfl, hsm⟩ := h2
  obtain ⟨a, cap, rfl, _⟩ := id hsl
  obtain ⟨b, cup, rfl, _⟩ := id hsm
  have HSL := Lib.hid hsl
  have HSM := Lib.hid hsm
  have HV := Lib.hid he
  obtain ⟨pj, ma, mi, pa, pre⟩ := x
  obtain ⟨qj, na, ni, qa, qre⟩ := y
  simp only at hsl hsm ⊢
  clear hsl hsm he
  have HE := Lib.hid (show cmpV ⟨pj, ma, mi, pa, pre⟩ ⟨qj, na, ni, qa, qre⟩ = if fnz [cmpS pj qj, cmpI ma na, cmpI mi ni, cmpI pa qa] ≠ 0 then fnz [cmpS pj qj, cmpI ma na, cmpI mi ni, cmpI pa qa] else if pre = [] ∧ qre ≠ [] then 1 else if pre ≠ [] ∧ qre = [] then -1 else cmpL pre qre from rfl)
  rw [HE.out]
  have H1 := Lib.hid (fun W => cmpS_any pj qj W)
  have H2 := Lib.hid (fun W => cmpI_any ma na W)
  have H3 := Lib.hid (fun W => cmpI_any mi ni W)
  have H4 := Lib.hid (fun W => cmpI_any pa qa W)
  generalize cmpS pj qj = k1 at *
  generalize cmpI ma na = k2 at *
  generalize cmpI mi ni = k3 at *
  generalize cmpI pa qa = k4 at *
  clear HE
  have h4 := four (((w.alloc (.cells #[.string pj, .int .i64 ma, .int .i64 mi, .int .i64 pa, .slice a pre.length cap] 43)).alloc (.cells #[.string qj, .int .i64 na, .int .i64 ni, .int .i64 qa, .slice b qre.length cup] 43)).drewN 1) k1 k2 k3 k4 3
  have hsz : (((w.alloc (.cells #[.string pj, .int .i64 ma, .int .i64 mi, .int .i64 pa, .slice a pre.length cap] 43)).alloc (.cells #[.string qj, .int .i64 na, .int .i64 ni, .int .i64 qa, .slice b qre.length cup] 43)).drewN 1).heap.size = w.heap.size + 1 + 1 := by simp
  rw [hsz] at h4
  have HOr : Hid (Calls Tryd.prog 59 #[.slice (some ⟨w.heap.size + 1 + 1, 0, none⟩) 4 4] ((((w.alloc (.cells #[.string pj, .int .i64 ma, .int .i64 mi, .int .i64 pa, .slice a pre.length cap] 43)).alloc (.cells #[.string qj, .int .i64 na, .int .i64 ni, .int .i64 qa, .slice b qre.length cup] 43)).drewN 1).alloc (.cells #[.int .i64 k1, .int .i64 k2, .int .i64 k3, .int .i64 k4] 3)) fun e w' => e = .returned (.int .i64 (fnz [k1, k2, k3, k4])) ∧ w' = (((w.alloc (.cells #[.string pj, .int .i64 ma, .int .i64 mi, .int .i64 pa, .slice a pre.length cap] 43)).alloc (.cells #[.string qj, .int .i64 na, .int .i64 ni, .int .i64 qa, .slice b qre.length cup] 43)).drewN 1).alloc (.cells #[.int .i64 k1, .int .i64 k2, .int .i64 k3, .int .i64 k4] 3)) :=
    Lib.hid (or_any (w.heap.size + 1 + 1) [k1, k2, k3, k4] _ (by show 4 ≤ 100; decide) h4)
  have hb2 : Below w.heap.size w ((((w.alloc (.cells #[.string pj, .int .i64 ma, .int .i64 mi, .int .i64 pa, .slice a pre.length cap] 43)).alloc (.cells #[.string qj, .int .i64 na, .int .i64 ni, .int .i64 qa, .slice b qre.length cup] 43)).drewN 1).alloc (.cells #[.int .i64 k1, .int .i64 k2, .int .i64 k3, .int .i64 k4] 3)) := (below_drewE (((Below.refl _ _).alloc (Nat.le_refl _) _).alloc (by simp) _) 1).alloc (by rw [hsz]; omega) _
  have HB2 := Lib.hid hb2
  have HCF := Lib.hid (fun (W : World) (hW : Below w.heap.size w W) => compareF_any (.slice a pre.length cap) (.slice b qre.length cup) pre qre W (HSL.out.below (Nat.le_refl _) hW) (HSM.out.below (Nat.le_refl _) hW) (HV.out.keep hW))
  generalize fnz [k1, k2, k3, k4] = F at *
  clear h4 hsz hb2 HSL HSM
  obtain ⟨R, hR⟩ : ∃ R : Int, R = if F ≠ 0 then F else if pre = [] ∧ qre ≠ [] then 1 else if pre ≠ [] ∧ qre = [] then -1 else cmpL pre qre := ⟨_, rfl⟩
  rw [← hR]
  have HR := Lib.hid hR
  clear hR
  by_cases hF : F = 0
  · subst hF
    by_cases hp : pre = []
    · by_cases hq : qre = []
      · have pe : ((pre.length : Int) == 0) = true := by rw [hp]; rfl
        have pn : (pre.length == 0) = true := by rw [hp]; rfl
        have pg : decide ((0 : Int) < (pre.length : Int)) = false := by rw [hp]; rfl
        have pm : decide (0 < pre.length) = false := by rw [hp]; rfl
        have qe : ((qre.length : Int) == 0) = true := by rw [hq]; rfl
        have qn : (qre.length == 0) = true := by rw [hq]; rfl
        have qg : decide ((0 : Int) < (qre.length : Int)) = false := by rw [hq]; rfl
        have qm : decide (0 < qre.length) = false := by rw [hq]; rfl
        have HQ := Lib.hid (show R = cmpL pre qre by rw [HR.out]; simp [hp, hq])
        clear hp hq
        go_enter Tryd.func24, Tryd.ntmps24
        go_upto_region 1 with fail
        refine wp_region_quiet_tail 20 (by kernel_rfl) (by kernel_rfl) ?_
        simp only [List.take_succ_cons, List.take_zero, List.drop_succ_cons, List.drop_zero]
        repeat (first
          | go_big_quiet_step (fail)
          | (go_big_quiet_want; go_big_quiet_op; (with_reducible refine ⟨_, H1.out _, ?_⟩); go_big_quiet_on)
          | (go_big_quiet_want; go_big_quiet_op; (with_reducible refine ⟨_, H2.out _, ?_⟩); go_big_quiet_on)
          | (go_big_quiet_want; go_big_quiet_op; (with_reducible refine ⟨_, H3.out _, ?_⟩); go_big_quiet_on)
          | (go_big_quiet_want; go_big_quiet_op; (with_reducible refine ⟨_, H4.out _, ?_⟩); go_big_quiet_on))
        refine wpQuiet_nil ?_
        go_wp2_with (first
          | (go_at_call 59; (with_reducible refine HOr.out.mono ?_); rintro e w5 ⟨rfl, rfl⟩)
          | (go_at_call 62; (with_reducible refine (HCF.out _ HB2.out).mono ?_); rintro e w6 ⟨rfl, hb6⟩))
        go_ret
        exact ⟨ret_int HQ.out.symm, below_call HB2.out HB2.out.size hb6⟩

      · have pe : ((pre.length : Int) == 0) = true := by rw [hp]; rfl
        have pn : (pre.length == 0) = true := by rw [hp]; rfl
        have pg : decide ((0 : Int) < (pre.length : Int)) = false := by rw [hp]; rfl
        have pm : decide (0 < pre.length) = false := by rw [hp]; rfl
        have qe : ((qre.length : Int) == 0) = false := by simp [hq]
        have qn : (qre.length == 0) = false := by simp [hq]
        have qg : decide ((0 : Int) < (qre.length : Int)) = true := by simp; exact List.length_pos_iff.2 hq
        have qm : decide (0 < qre.length) = true := by simp; exact List.length_pos_iff.2 hq
        have HQ := Lib.hid (show R = 1 by rw [HR.out]; simp [hp, hq])
        clear hp hq
        go_enter Tryd.func24, Tryd.ntmps24
        go_upto_region 1 with fail
        refine wp_region_quiet_tail 20 (by kernel_rfl) (by kernel_rfl) ?_
        simp only [List.take_succ_cons, List.take_zero, List.drop_succ_cons, List.drop_zero]
        repeat (first
          | go_big_quiet_step (fail)
          | (go_big_quiet_want; go_big_quiet_op; (with_reducible refine ⟨_, H1.out _, ?_⟩); go_big_quiet_on)
          | (go_big_quiet_want; go_big_quiet_op; (with_reducible refine ⟨_, H2.out _, ?_⟩); go_big_quiet_on)
          | (go_big_quiet_want; go_big_quiet_op; (with_reducible refine ⟨_, H3.out _, ?_⟩); go_big_quiet_on)
          | (go_big_quiet_want; go_big_quiet_op; (with_reducible refine ⟨_, H4.out _, ?_⟩); go_big_quiet_on))
        refine wpQuiet_nil ?_
        go_wp2_with (first
          | (go_at_call 59; (with_reducible refine HOr.out.mono ?_); rintro e w5 ⟨rfl, rfl⟩)
          | (go_at_call 62; (with_reducible refine (HCF.out _ HB2.out).mono ?_); rintro e w6 ⟨rfl, hb6⟩))
        go_ret
        exact ⟨ret_int HQ.out.symm, HB2.out⟩

    · by_cases hq : qre = []
      · have pe : ((pre.length : Int) == 0) = false := by simp [hp]
        have pn : (pre.length == 0) = false := by simp [hp]
        have pg : decide ((0 : Int) < (pre.length : Int)) = true := by simp; exact List.length_pos_iff.2 hp
        have pm : decide (0 < pre.length) = true := by simp; exact List.length_pos_iff.2 hp
        have qe : ((qre.length : Int) == 0) = true := by rw [hq]; rfl
        have qn : (qre.length == 0) = true := by rw [hq]; rfl
        have qg : decide ((0 : Int) < (qre.length : Int)) = false := by rw [hq]; rfl
        have qm : decide (0 < qre.length) = false := by rw [hq]; rfl
        have HQ := Lib.hid (show R = -1 by rw [HR.out]; simp [hp, hq])
        clear hp hq
        go_enter Tryd.func24, Tryd.ntmps24
        go_upto_region 1 with fail
        refine wp_region_quiet_tail 20 (by kernel_rfl) (by kernel_rfl) ?_
        simp only [List.take_succ_cons, List.take_zero, List.drop_succ_cons, List.drop_zero]
        repeat (first
          | go_big_quiet_step (fail)
          | (go_big_quiet_want; go_big_quiet_op; (with_reducible refine ⟨_, H1.out _, ?_⟩); go_big_quiet_on)
          | (go_big_quiet_want; go_big_quiet_op; (with_reducible refine ⟨_, H2.out _, ?_⟩); go_big_quiet_on)
          | (go_big_quiet_want; go_big_quiet_op; (with_reducible refine ⟨_, H3.out _, ?_⟩); go_big_quiet_on)
          | (go_big_quiet_want; go_big_quiet_op; (with_reducible refine ⟨_, H4.out _, ?_⟩); go_big_quiet_on))
        refine wpQuiet_nil ?_
        go_wp2_with (first
          | (go_at_call 59; (with_reducible refine HOr.out.mono ?_); rintro e w5 ⟨rfl, rfl⟩)
          | (go_at_call 62; (with_reducible refine (HCF.out _ HB2.out).mono ?_); rintro e w6 ⟨rfl, hb6⟩))
        go_ret
        exact ⟨ret_int HQ.out.symm, HB2.out⟩

      · have pe : ((pre.length : Int) == 0) = false := by simp [hp]
        have pn : (pre.length == 0) = false := by simp [hp]
        have pg : decide ((0 : Int) < (pre.length : Int)) = true := by simp; exact List.length_pos_iff.2 hp
        have pm : decide (0 < pre.length) = true := by simp; exact List.length_pos_iff.2 hp
        have qe : ((qre.length : Int) == 0) = false := by simp [hq]
        have qn : (qre.length == 0) = false := by simp [hq]
        have qg : decide ((0 : Int) < (qre.length : Int)) = true := by simp; exact List.length_pos_iff.2 hq
        have qm : decide (0 < qre.length) = true := by simp; exact List.length_pos_iff.2 hq
        have HQ := Lib.hid (show R = cmpL pre qre by rw [HR.out]; simp [hp, hq])
        clear hp hq
        go_enter Tryd.func24, Tryd.ntmps24
        go_upto_region 1 with fail
        refine wp_region_quiet_tail 20 (by kernel_rfl) (by kernel_rfl) ?_
        simp only [List.take_succ_cons, List.take_zero, List.drop_succ_cons, List.drop_zero]
        repeat (first
          | go_big_quiet_step (fail)
          | (go_big_quiet_want; go_big_quiet_op; (with_reducible refine ⟨_, H1.out _, ?_⟩); go_big_quiet_on)
          | (go_big_quiet_want; go_big_quiet_op; (with_reducible refine ⟨_, H2.out _, ?_⟩); go_big_quiet_on)
          | (go_big_quiet_want; go_big_quiet_op; (with_reducible refine ⟨_, H3.out _, ?_⟩); go_big_quiet_on)
          | (go_big_quiet_want; go_big_quiet_op; (with_reducible refine ⟨_, H4.out _, ?_⟩); go_big_quiet_on))
        refine wpQuiet_nil ?_
        go_wp2_with (first
          | (go_at_call 59; (with_reducible refine HOr.out.mono ?_); rintro e w5 ⟨rfl, rfl⟩)
          | (go_at_call 62; (with_reducible refine (HCF.out _ HB2.out).mono ?_); rintro e w6 ⟨rfl, hb6⟩))
        go_ret
        exact ⟨ret_int HQ.out.symm, below_call HB2.out HB2.out.size hb6⟩

  · have hq : (F != 0) = true := by simpa using hF
    have HQ := Lib.hid (show R = F by rw [HR.out, if_pos hF])
    clear hF
    go_enter Tryd.func24, Tryd.ntmps24
    go_upto_region 1 with fail
    refine wp_region_quiet_tail 20 (by kernel_rfl) (by kernel_rfl) ?_
    simp only [List.take_succ_cons, List.take_zero, List.drop_succ_cons, List.drop_zero]
    repeat (first
      | go_big_quiet_step (fail)
      | (go_big_quiet_want; go_big_quiet_op; (with_reducible refine ⟨_, H1.out _, ?_⟩); go_big_quiet_on)
      | (go_big_quiet_want; go_big_quiet_op; (with_reducible refine ⟨_, H2.out _, ?_⟩); go_big_quiet_on)
      | (go_big_quiet_want; go_big_quiet_op; (with_reducible refine ⟨_, H3.out _, ?_⟩); go_big_quiet_on)
      | (go_big_quiet_want; go_big_quiet_op; (with_reducible refine ⟨_, H4.out _, ?_⟩); go_big_quiet_on))
    refine wpQuiet_nil ?_
    go_wp2_with (first
      | (go_at_call 59; (with_reducible refine HOr.out.mono ?_); rintro e w5 ⟨rfl, rfl⟩)
      | (go_at_call 62; (with_reducible refine (HCF.out _ HB2.out).mono ?_); rintro e w6 ⟨rfl, hb6⟩))
    go_ret
    exact ⟨ret_int HQ.out.symm, HB2.out⟩
end Go.Proofs.YtnpnoohnkbpokaaDoor

/- What the check of a bucket with its level answers. -/
import Derived.Test.YtdkpghfielfojaaPourH
import Derived.Deep.QuietTactic
import Derived.Laws.StructEq
namespace Go.Proofs.Ytdkpghfielfojaa
open Go.RowKit Go.Lib

def lvlErr (S A E h t r : Int) : Int := if bktErr S A E = 0 then (if wi h 0 S && (wi t 0 3155759999 && wi r 0 (E - 1)) then 0 else 1) else bktErr S A E
theorem bkt_ok {S A E : Int} (h : bktErr S A E = 0) : (1 ≤ S ∧ S ≤ 1000000000) ∧ (1 ≤ A ∧ A ≤ 1000000000) ∧ (1 ≤ E ∧ E ≤ 86400) := by
  unfold bktErr wi at h
  split at h
  · rename_i h1; simpa using h1
  · cases h
theorem lim_ok {n m : Int} (hm : 0 ≤ m) : (max 0 (min n m) = n) ↔ wi n 0 m = true := by
  unfold wi; simp; omega

theorem neqL (a b c x y z : Int) (w : World) : (binOp .neq 46 (.agg #[.int .i64 a, .int .i64 b, .int .i64 c]) (.agg #[.int .i64 x, .int .i64 y, .int .i64 z])).run Try.prog w = .ok (.bool (!decide (x = a ∧ y = b ∧ z = c))) w := by
  have hS : Try.prog.underlying 46 = some (.struct (Try.prog.fieldsOf 46)) := by kernel_rfl
  have hp : Try.prog.stoodInHeld 46 = false := by kernel_rfl
  have u3 := Try.underlying3
  rw [run_neq_struct, show (10000 : Nat) = 9999 + 1 from rfl, run_equalIn_agg w 9999 46 _ _ hS hp]
  simp only [Program.fieldsOf, Try.underlying46]
  go_simp
  by_cases h1 : x = a <;> by_cases h2 : y = b <;> by_cases h3 : z = c <;> simp [h1, h2, h3, eq_comm] <;> (intros; omega)

set_option maxHeartbeats 1000000 in
set_option maxRecDepth 100000 in
theorem checkLevel_any (S A E h t r : Int) (w : World) : Calls Try.prog 35 #[.agg #[.int .i64 S, .int .i64 A, .int .i64 E], .agg #[.int .i64 h, .int .i64 t, .int .i64 r]] w fun e w' => e = .returned (.int .i64 (lvlErr S A E h t r)) ∧ Below w.heap.size w w' := by
  have HB := Lib.hid (fun W => CheckBucket_any S A E W)
  have HL0 := Lib.hid (fun W => limited_any h S W)
  have HL1 := Lib.hid (fun W => limited_any t 3155759999 W)
  have HL2 := Lib.hid (fun W => limited_any r (E - 1) W)
  have HT := Lib.hid (Two.new w S A E h t r)
  unfold lvlErr
  by_cases hb : bktErr S A E = 0
  · rw [if_pos hb]
    rw [hb] at HB
    obtain ⟨⟨s1, s2⟩, ⟨a1, a2⟩, ⟨e1, e2⟩⟩ := bkt_ok hb
    have q0 := lim_ok (n := h) (m := S) (by omega)
    have q1 := lim_ok (n := t) (m := 3155759999) (by omega)
    have q2 := lim_ok (n := r) (m := E - 1) (by omega)
    have hw : IntKind.i64.wrap (E - 1) = E - 1 := IntWalk.i64_in _ ⟨by omega, by omega⟩
    generalize max 0 (min h S) = x0 at *
    generalize max 0 (min t 3155759999) = x1 at *
    generalize max 0 (min r (E - 1)) = x2 at *
    have HQ := Lib.hid (show (x0 = h ∧ x1 = t ∧ x2 = r) ↔ (wi h 0 S && (wi t 0 3155759999 && wi r 0 (E - 1))) = true by rw [q0, q1, q2, Bool.and_eq_true, Bool.and_eq_true])
    generalize (wi h 0 S && (wi t 0 3155759999 && wi r 0 (E - 1))) = g at *
    clear hb q0 q1 q2 s1 s2 a1 a2 e1 e2
    go_enter Try.func35, Try.ntmps35
    go_upto_region 4 with (go_at_call 47; (with_reducible refine (HB.out _).mono ?_); rintro e w1 ⟨rfl, hb1⟩; have HT1 := Lib.hid (HT.out.below hb1); have k0 := HT1.out.b.c0; have k2 := HT1.out.b.c2; have l0 := HT1.out.l.c0; have l1 := HT1.out.l.c1; have l2 := HT1.out.l.c2)
    have HN := Lib.hid (fun W => neqL h t r x0 x1 x2 W)
    cases g
    · have hq : ∀ W : World, (binOp .neq 46 (.agg #[.int .i64 h, .int .i64 t, .int .i64 r]) (.agg #[.int .i64 x0, .int .i64 x1, .int .i64 x2])).run Try.prog W = .ok (.bool true) W := fun W => by rw [HN.out, decide_eq_false (fun k => by have := HQ.out.1 k; cases this)]; rfl
      go_quiet ((go_at_call 48; first | (with_reducible exact Calls.quiet_of_same (HL0.out _)) | (with_reducible exact Calls.quiet_of_same (HL1.out _)) | (with_reducible exact Calls.quiet_of_same (HL2.out _))))
      go_wp2_with fail
      go_ret
      exact ⟨rfl, below_drewE HT1.out.bw _⟩
    · have hq : ∀ W : World, (binOp .neq 46 (.agg #[.int .i64 h, .int .i64 t, .int .i64 r]) (.agg #[.int .i64 x0, .int .i64 x1, .int .i64 x2])).run Try.prog W = .ok (.bool false) W := fun W => by rw [HN.out, decide_eq_true (HQ.out.2 rfl)]; rfl
      go_quiet ((go_at_call 48; first | (with_reducible exact Calls.quiet_of_same (HL0.out _)) | (with_reducible exact Calls.quiet_of_same (HL1.out _)) | (with_reducible exact Calls.quiet_of_same (HL2.out _))))
      go_wp2_with fail
      go_ret
      exact ⟨rfl, below_drewE HT1.out.bw _⟩
  · rw [if_neg hb]
    generalize bktErr S A E = b at *
    go_enter Try.func35, Try.ntmps35
    go_wp2_with (go_at_call 47; (with_reducible refine (HB.out _).mono ?_); rintro e w1 ⟨rfl, hb1⟩)
    go_ret
    exact ⟨rfl, (HT.out.below hb1).bw⟩
end Go.Proofs.Ytdkpghfielfojaa

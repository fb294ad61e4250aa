/- What the two checks of a frame answer. -/
import Derived.Test.YtcdaalnjanncmaaDoorLeaf
namespace Go.Proofs.YtcdaalnjanncmaaDoor
open Go.RowKit

set_option maxHeartbeats 1000000 in
set_option maxRecDepth 100000 in
theorem checkFrame_any (x : Fr) (w : World) (h1 : x.m.size ≤ maxLen) (h2 : x.f.size ≤ maxLen) (h3 : x.i.size ≤ maxLen) :
    Calls Tryd.prog 85 #[x.val] w fun e w' => e = .returned (.int .i64 (frErr x)) ∧ Below w.heap.size w w' := by
  obtain ⟨m, f, i, l, a, o⟩ := x
  unfold Fr.val
  simp only at h1 h2 h3 ⊢
  go_enter Tryd.func85, Tryd.ntmps85
  go_wp2_with (go_at_call 116; refine (visF _ _ (by assumption)).mono ?_; rintro e w' ⟨rfl, rfl⟩)
  all_goals (go_ret; refine ⟨ret_int ?_, (Below.refl _ _).alloc (Nat.le_refl _) _⟩)
  all_goals (try simp only [emp, Bool.not_eq_true', Bool.not_eq_false', decide_eq_true_eq, decide_eq_false_iff_not, bne_iff_ne, ne_eq, bne_eq_false_iff_eq] at *)
  all_goals first | (exfalso; simp_all; done) | (exfalso; omega) | (unfold frErr; simp_all; done) | (unfold frErr; simp_all; omega) | (unfold frErr; split <;> first | rfl | omega | simp_all; split <;> first | rfl | omega | simp_all; split <;> first | rfl | omega | simp_all; split <;> first | rfl | omega | simp_all; split <;> first | rfl | omega | simp_all)

end Go.Proofs.YtcdaalnjanncmaaDoor

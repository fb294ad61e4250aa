/- What slices.Equal answers of the two rows of rates. -/
import Derived.Test.YtdkpghfielfojaaShaJ
import Derived.Test.YtdkpghfielfojaaShaF
import Derived.Deep.QuietTactic
import Derived.Laws.StructEq
namespace Go.Proofs.Ytdkpghfielfojaa
open Go.RowKit Go.Lib

theorem eqR (k : ByteArray) (n : Int) (w : World) : (binOp .neq 33 (.agg #[.string k, .int .i64 n]) (.agg #[.string k, .int .i64 n])).run Try.prog w = .ok (.bool false) w := by
  have hS : Try.prog.underlying 33 = some (.struct (Try.prog.fieldsOf 33)) := by kernel_rfl
  have hp : Try.prog.stoodInHeld 33 = false := by kernel_rfl
  have u3 := Try.underlying3
  have u9 := Try.underlying9
  rw [run_neq_struct, show (10000 : Nat) = 9999 + 1 from rfl, run_equalIn_agg w 9999 33 _ _ hS hp]
  simp only [Program.fieldsOf, Try.underlying33]
  go_simp

/-- A row that lies whole. -/
def RowV (w : World) (v : Value) (n : Nat) (xs : List Value) : Prop :=
  ∃ p cap, v = .slice p n cap ∧ n ≤ cap ∧ cap ≤ 9223372036854775807 ∧ (n = 0 ∨ ∃ g, p = some ⟨g, 0, none⟩ ∧ g < w.heap.size ∧ ∀ q x, xs[q]? = some x → w.cell? ⟨g, q, none⟩ = some x)
theorem RowV.of {w : World} {base e n : Nat} {v : Value} {xs : List Value} (h : w.ownsRow base e 2 v n xs) : RowV w v n xs := by
  by_cases hn : 0 < n
  · obtain ⟨g, cap, rfl, h1, h2, h3, h4⟩ := own_row h hn
    exact ⟨_, cap, rfl, h1, h2, .inr ⟨g, rfl, h3, h4⟩⟩
  · obtain rfl : n = 0 := by omega
    obtain ⟨_, ⟨h2, _⟩ | ⟨g, cap, cur, hv, _, _, h5, h6, _⟩⟩ := h
    · exact ⟨_, _, h2, Nat.le_refl _, by omega, .inl rfl⟩
    · exact ⟨_, _, hv, h5, by unfold maxLen at h6; exact h6, .inl rfl⟩
theorem RowV.below {w w' : World} {v : Value} {n : Nat} {xs : List Value} (h : RowV w v n xs) (hw : Below w.heap.size w w') : RowV w' v n xs := by
  obtain ⟨p, cap, hv, h1, h2, h4⟩ := h
  refine ⟨p, cap, hv, h1, h2, ?_⟩
  rcases h4 with h4 | ⟨g, hp, hg, hc⟩
  · exact .inl h4
  · exact .inr ⟨g, hp, by have := hw.size; omega, fun q x hq => (hw.cell (p := ⟨g, q, none⟩) hg).trans (hc q x hq)⟩

set_option maxHeartbeats 2000000 in
set_option maxRecDepth 100000 in
theorem equal_rows (v1 v2 : Value) (r : Nat) (l : List Sh) (w : World) (h1 : RowV w v1 l.length (cellsR r l)) (h2 : RowV w v2 l.length (cellsR r l)) :
    Calls Try.prog 10 #[v1, v2] w fun e w' => e = .returned (.bool true) ∧ Below w.heap.size w w' := by
  obtain ⟨p, c1, rfl, a1, a2, a3⟩ := h1
  obtain ⟨q, c2, rfl, b1, b2, b3⟩ := h2
  obtain ⟨n, hn⟩ : ∃ n, n = l.length := ⟨_, rfl⟩
  have HN := Lib.hid hn
  rw [← hn] at a1 a3 b1 b3 ⊢
  clear hn
  go_enter Try.func10, Try.ntmps10
  go_wp2_with fail
  go_loopw [13] (fun v wr => ∃ k : Nat, k ≤ n ∧ v = .int .i64 k ∧ Below w.heap.size w wr) (fun v _ => n - (RowKit.intOf v).toNat)
  case atStart => exact ⟨0, Nat.zero_le _, rfl, Below.refl _ _⟩
  case round =>
    obtain ⟨k, hk, rfl, hbw⟩ := hrel
    by_cases hlt : k < n
    · have hkl : k < l.length := by have := HN.out; omega
      rcases a3 with a3 | ⟨g, rfl, hg, hc⟩
      · omega
      rcases b3 with b3 | ⟨g', rfl, hg', hc'⟩
      · omega
      have ca := cellsR_at r l k hkl
      have c0 := (hbw.cell (p := ⟨g, _, none⟩) hg).trans (hc _ _ ca.1)
      have c1' := (hbw.cell (p := ⟨g, _, none⟩) hg).trans (hc _ _ ca.2)
      have d0 := (hbw.cell (p := ⟨g', _, none⟩) hg').trans (hc' _ _ ca.1)
      have d1 := (hbw.cell (p := ⟨g', _, none⟩) hg').trans (hc' _ _ ca.2)
      clear hc hc' ca
      have HQ := fun m : Nat => Lib.hid (below_drewE hbw m)
      generalize l[k].key = x0 at *
      generalize keepV l[k].came r = x1 at *
      have hq : ∀ w : World, (binOp .neq 33 (.agg #[.string x0, .int .i64 x1]) (.agg #[.string x0, .int .i64 x1])).run Try.prog w = .ok (.bool false) w := fun w => eqR x0 x1 w
      go_wp2_with fail
      go_quiet (fail)
      go_wp2_with fail
      exact ⟨⟨k + 1, by omega, by go_num, (HQ _).out⟩, by simp [RowKit.intOf]; omega⟩
    · go_wp2_with fail
      go_ret
      exact ⟨rfl, hbw⟩
end Go.Proofs.Ytdkpghfielfojaa

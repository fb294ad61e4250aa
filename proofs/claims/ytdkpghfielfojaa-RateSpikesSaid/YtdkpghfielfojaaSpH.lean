/- The law RateSpikes, walked. -/
import Derived.Test.YtdkpghfielfojaaSpG
namespace Go.Proofs.Ytdkpghfielfojaa
open Go.RowKit Go.Lib

set_option maxRecDepth 100000 in
set_option maxHeartbeats 4000000 in
theorem spikes_bad (v : Value) (l : List Int) (p q : Int) (w : World) (hv : IntV w v l) (he : spkErr l p q ≠ 0) : Calls Try.prog 4 #[v, .int .i64 p, .int .i64 q] w fun e w' => e = .returned (.bool true) ∧ Below w.heap.size w w' := by
  have HS := Lib.hid (Spike_bad v l p q w hv he)
  have HE := Lib.hid (spikeError_any v l p q w hv)
  have hq : (spkErr l p q == 0) = false := by rw [beq_eq_false_iff_ne]; exact he
  have hq2 : (spkErr l p q != 0) = true := by rw [bne_iff_ne]; exact he
  obtain ⟨pp, cap, rfl, -⟩ := hv
  generalize spkErr l p q = g at *
  generalize l.length = m at *
  clear he
  go_enter Try.func4, Try.ntmps4
  go_wp2_with (first
    | (go_at_call 13; (with_reducible refine HS.out.mono ?_); rintro e w1 ⟨rfl, rfl⟩)
    | (go_at_call 14; (with_reducible refine HE.out.mono ?_); rintro e w2 ⟨rfl, rfl⟩))
  go_ret
  exact ⟨rfl, Below.refl _ _⟩

set_option maxRecDepth 100000 in
set_option maxHeartbeats 4000000 in
theorem spikes_good (v : Value) (l : List Int) (p q : Int) (w : World) (hv : IntV w v l) (he : spkErr l p q = 0) : Calls Try.prog 4 #[v, .int .i64 p, .int .i64 q] w fun e w' => e = .returned (.bool true) ∧ Below w.heap.size w w' := by
  have HS := Lib.hid (Spike_good v l p q w hv he)
  have HE := Lib.hid (fun (W : World) (hW : Below w.heap.size w W) => spikeError_any v l p q W (hv.below hW))
  have HO := Lib.hid (fun (W : World) (hW : Below w.heap.size w W) => spikeOf_any v l p q W (hv.below hW) he)
  rw [he] at HE
  obtain ⟨pp, cap, rfl, -⟩ := hv
  generalize l.length = m at *
  generalize mrk l p q = mk at *
  generalize decide (mk < lst l) = bb at *
  clear he
  go_enter Try.func4, Try.ntmps4
  go_wp2_with (first
    | (go_at_call 13; (with_reducible refine HS.out.mono ?_); rintro e w1 ⟨rfl, hb1⟩)
    | (go_at_call 14; (with_reducible refine (HE.out _ hb1).mono ?_); rintro e w2 ⟨rfl, rfl⟩)
    | (go_at_call 15; (with_reducible refine (HO.out _ hb1).mono ?_); rintro e w3 ⟨rfl, hb3⟩; have hbw := below_call hb1 hb1.size hb3))
  go_ret
  exact ⟨by simp, hbw⟩

theorem spikes_law (v : Value) (l : List Int) (p q : Int) (w : World) (hv : IntV w v l) : Calls Try.prog 4 #[v, .int .i64 p, .int .i64 q] w fun e w' => e = .returned (.bool true) ∧ Below w.heap.size w w' := by
  by_cases he : spkErr l p q = 0
  · exact spikes_good v l p q w hv he
  · exact spikes_bad v l p q w hv he
end Go.Proofs.Ytdkpghfielfojaa

/- What Sample and the reference's SampledAt answer. -/
import Derived.Test.YtdkpghfielfojaaDoorHexD
namespace Go.Proofs.YtdkpghfielfojaaDoor
open Go.RowKit Go.Lib

/-- The upper half of a sum. -/
def upN (s : ByteArray) : Nat := sumN s / 4294967296
theorem upN_lt (s : ByteArray) : upN s < 4294967296 := by
  have := sumN_lt s
  unfold upN; omega
theorem ext_half (l : List UInt8) (b : Nat) : (⟨l.toArray⟩ : ByteArray).extract 0 b = ⟨(l.take b).toArray⟩ := by
  apply ByteArray.ext
  simp
set_option maxHeartbeats 2000000 in
set_option maxRecDepth 100000 in
theorem upper_any (s : ByteArray) (w : World) (hs : s.size ≤ 4611686018427387904) (h : EnvH w) : Calls Tryd.prog 12 #[.string s] w
    fun e w' => e = .returned (.int .i64 (upN s)) ∧ Below w.heap.size w w' := by
  have HS := Lib.hid (fun W h => Sum_any s W hs h)
  have HP := Lib.hid (fun W => ParseUint_any (upN s) (upN_lt s) W)
  have hx := hex_half (sumN_lt s)
  have hl : (⟨(sumS (sumN s)).toArray⟩ : ByteArray).size = 16 := by rw [Lib.size_eq]; simpa [sumS] using hx.2.1
  have he : (⟨(sumS (sumN s)).toArray⟩ : ByteArray).extract 0 8 = ⟨(hexN 8 (upN s)).toArray⟩ := by rw [ext_half]; unfold sumS; rw [hx.2.2]; rfl
  have hu := upN_lt s
  have HH := Lib.hid h
  clear hx h
  generalize (hexN 8 (upN s)).toArray = t at *
  generalize (⟨(sumS (sumN s)).toArray⟩ : ByteArray) = T at *
  generalize upN s = u at *
  have hw : IntKind.i64.wrap (u : Int) = (u : Int) := IntWalk.i64_in _ ⟨by omega, by omega⟩
  go_enter Tryd.func12, Tryd.ntmps12
  go_wp2_with (first
    | (go_at_call 15; (with_reducible refine (HS.out _ HH.out).mono ?_); rintro e w1 ⟨rfl, hb1⟩)
    | (go_at_call 16; (with_reducible refine (HP.out _).mono ?_); rintro e w2 ⟨rfl, hb2⟩))
  go_ret
  exact ⟨rfl, below_call hb1 hb1.size hb2⟩
/-- Whether a string is kept at a rate. -/
def smp (s : ByteArray) (r : Int) : Bool := decide ((upN s : Int) * 1000000 < r * 4294967296)
set_option maxHeartbeats 2000000 in
set_option maxRecDepth 100000 in
theorem sampled_any (s : ByteArray) (r : Int) (w : World) (hs : s.size ≤ 4611686018427387904) (h : EnvH w) (h0 : 0 ≤ r) (h1 : r ≤ 1000000) : Calls Tryd.prog 9 #[.string s, .int .i64 r] w
    fun e w' => e = .returned (.bool (smp s r)) ∧ Below w.heap.size w w' := by
  have HU := Lib.hid (fun W h => upper_any s W hs h)
  have hu := upN_lt s
  have HH := Lib.hid h
  unfold smp
  generalize upN s = u at *
  have hw1 : IntKind.i64.wrap ((u : Int) * 1000000) = (u : Int) * 1000000 := IntWalk.i64_in _ ⟨by omega, by omega⟩
  have hw2 : IntKind.i64.wrap (r * 4294967296) = r * 4294967296 := IntWalk.i64_in _ ⟨by omega, by omega⟩
  clear h hs
  go_enter Tryd.func9, Tryd.ntmps9
  go_wp2_with (go_at_call 12; (with_reducible refine (HU.out _ HH.out).mono ?_); rintro e w1 ⟨rfl, hb1⟩)
  go_ret
  exact ⟨rfl, hb1⟩
def wi (n a b : Int) : Bool := decide (a ≤ n ∧ n ≤ b)
set_option maxHeartbeats 1000000 in
theorem within_any (n a b : Int) (w : World) : Calls Tryd.prog 8 #[.int .i64 n, .int .i64 a, .int .i64 b] w fun e w' => e = .returned (.bool (wi n a b)) ∧ w' = w := by
  go_enter Tryd.func8, Tryd.ntmps8
  go_wp2_with fail
  all_goals (go_ret; refine ⟨ret_bool ?_, rfl⟩; unfold wi; simp; try omega)
/-- The error of Sample, and its answer. -/
def smpErr (s : ByteArray) (r : Int) : Int := if 200 < s.size then 4 else if wi r 0 1000000 = true then 0 else 2
def smpIs (s : ByteArray) (r : Int) : Bool := if smpErr s r = 0 then smp s r else false
set_option maxHeartbeats 2000000 in
set_option maxRecDepth 100000 in
theorem Sample_any (s : ByteArray) (r : Int) (w : World) (h : EnvH w) : Calls Tryd.prog 5 #[.string s, .int .i64 r] w
    fun e w' => e = .returned (.tuple #[.bool (smpIs s r), .int .i64 (smpErr s r)]) ∧ Below w.heap.size w w' := by
  have HW := Lib.hid (fun W => within_any r 0 1000000 W)
  unfold smpIs smpErr
  by_cases hs : 200 < s.size
  · rw [if_pos hs, if_neg (by decide)]
    have hs' : (200 : Int) < (s.size : Int) := by omega
    clear hs
    go_enter Tryd.func5, Tryd.ntmps5
    go_wp2_with fail
    go_ret2
    exact ⟨rfl, Below.refl _ _⟩
  · rw [if_neg hs]
    have hs' : ¬ (200 : Int) < (s.size : Int) := by omega
    by_cases hr : wi r 0 1000000 = true
    · have hr2 : 0 ≤ r ∧ r ≤ 1000000 := by unfold wi at hr; exact of_decide_eq_true hr
      rw [if_pos hr, if_pos rfl]
      have HS := Lib.hid (sampled_any s r w (by omega) h hr2.1 hr2.2)
      rw [hr] at HW
      generalize smp s r = b at *
      clear hs hr hr2
      go_enter Tryd.func5, Tryd.ntmps5
      go_wp2_with (first
        | (go_at_call 8; (with_reducible refine (HW.out _).mono ?_); rintro e w1 ⟨rfl, rfl⟩)
        | (go_at_call 9; (with_reducible refine HS.out.mono ?_); rintro e w2 ⟨rfl, hb2⟩))
      go_ret2
      exact ⟨rfl, hb2⟩
    · rw [if_neg hr, if_neg (by decide)]
      rw [Bool.not_eq_true] at hr
      rw [hr] at HW
      clear hs hr
      go_enter Tryd.func5, Tryd.ntmps5
      go_wp2_with (go_at_call 8; (with_reducible refine (HW.out _).mono ?_); rintro e w1 ⟨rfl, rfl⟩)
      go_ret2
      exact ⟨rfl, Below.refl _ _⟩
set_option maxHeartbeats 2000000 in
set_option maxRecDepth 100000 in
theorem SampledAt_any (s : ByteArray) (r : Int) (w : World) (hs : s.size ≤ 4611686018427387904) (h0 : 0 ≤ r) (h1 : r ≤ 1000000) : Calls Tryd.prog 6 #[.string s, .int .i64 r] w
    fun e w' => e = .returned (.bool (smp s r)) ∧ w' = w := by
  have HU := Lib.hid (fun W => rsum_any 14695981039346656037 s W hs)
  rw [sumN_eq s] at HU
  have hu := upN_lt s
  unfold smp
  have hd : (sumN s : Int) / 4294967296 = (upN s : Int) := rfl
  have hd2 : sumN s / 4294967296 = upN s := rfl
  generalize upN s = u at *
  have hw0 : IntKind.i64.wrap (u : Int) = (u : Int) := IntWalk.i64_in _ ⟨by omega, by omega⟩
  have hw1 : IntKind.i64.wrap ((u : Int) * 1000000) = (u : Int) * 1000000 := IntWalk.i64_in _ ⟨by omega, by omega⟩
  have hw2 : IntKind.i64.wrap (r * 4294967296) = r * 4294967296 := IntWalk.i64_in _ ⟨by omega, by omega⟩
  clear hs
  go_enter Tryd.func6, Tryd.ntmps6
  go_wp2_with (go_at_call 10; (with_reducible refine (HU.out _).mono ?_); rintro e w1 ⟨rfl, rfl⟩)
  go_ret
  exact ⟨rfl, rfl⟩
end Go.Proofs.YtdkpghfielfojaaDoor

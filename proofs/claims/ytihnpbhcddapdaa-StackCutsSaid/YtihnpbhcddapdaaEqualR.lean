/- What slices.Equal answers of rows of runs. -/
import Derived.Test.YtihnpbhcddapdaaFoldPlain
import Derived.Test.YtihnpbhcddapdaaEqual
namespace Go.Proofs.Ytihnpbhcddapdaa
open Go.RowKit Go.Lib

/-- A value is a slice of runs, of whatever room. -/
def SlR0 (w : World) (v : Value) (l : List Rn) : Prop :=
  ∃ (p : Option Addr) (cap : Nat), v = .slice p l.length cap ∧ l.length ≤ cap ∧ cap ≤ maxLen ∧ (l = [] ∨ ∃ b off, p = some ⟨b, off, none⟩ ∧ b < w.heap.size ∧ RnsAt w b off l)
theorem SlR0.below {w w' : World} {v : Value} {l : List Rn} {B : Nat} (h : SlR0 w v l) (hB : w.heap.size ≤ B) (hw : Below B w w') : SlR0 w' v l := by
  obtain ⟨p, cap, hv, h1, h2, h4⟩ := h
  refine ⟨p, cap, hv, h1, h2, ?_⟩
  rcases h4 with h4 | ⟨b, off, hp, hb, hc⟩
  · exact .inl h4
  · exact .inr ⟨b, off, hp, by have := hw.size; omega, hc.below (B := B) (by omega) hw⟩
theorem slR0_of_owns {w : World} {base : Nat} {e : TypeId} {v : Value} {n : Nat} {l : List Rn} (h : w.ownsRow base e 3 v n (cellsR l)) : SlR0 w v l := by
  obtain ⟨hlen, h⟩ := h
  rw [cellsR_length] at hlen
  obtain rfl : n = l.length := by omega
  rcases h with ⟨rfl, h0⟩ | ⟨g, cap, cur, rfl, _, hg, hn, hc, hsz, htk⟩
  · exact ⟨none, 0, by rw [h0], by omega, by simp [maxLen], .inl (List.length_eq_zero_iff.1 h0)⟩
  · refine ⟨_, cap, rfl, hn, hc, .inr ⟨g, 0, rfl, (Array.getElem?_eq_some_iff.1 hg).1, fun k hk => ?_⟩⟩
    have at' : ∀ j, j < 3 → w.cell? ⟨g, 0 + k * 3 + j, none⟩ = ([Value.int .i64 l[k].start, .int .i64 l[k].long, .int .i64 l[k].times] : List Value)[j]? := fun j hj => by
      rw [← cellsR_at hk hj, ← htk, Nat.zero_add]
      simp only [World.cell?, hg]
      rw [List.getElem?_take_of_lt (by omega)]
      simp
    exact ⟨at' 0 (by omega), at' 1 (by omega), at' 2 (by omega)⟩

theorem neqRn (x y : Rn) (w : World) : (binOp .neq 46 (.agg #[.int .i64 x.start, .int .i64 x.long, .int .i64 x.times]) (.agg #[.int .i64 y.start, .int .i64 y.long, .int .i64 y.times])).run Try.prog w = .ok (.bool (!decide (x = y))) w := by
  have hS : Try.prog.underlying 46 = some (.struct (Try.prog.fieldsOf 46)) := by kernel_rfl
  have hp : Try.prog.stoodInHeld 46 = false := by kernel_rfl
  obtain ⟨a, b, c⟩ := x
  obtain ⟨a', b', c'⟩ := y
  have u3 := Try.underlying3
  rw [run_neq_struct, show (10000 : Nat) = 9999 + 1 from rfl, run_equalIn_agg w 9999 46 _ _ hS hp]
  simp only [Program.fieldsOf, Try.underlying46]
  go_simp
  by_cases h1 : a = a' <;> by_cases h2 : b = b' <;> by_cases h3 : c = c' <;> simp [h1, h2, h3]

theorem allR_eq_of {l m : List Rn} {k : Nat} (hl : l.length = m.length) (hk : l.length ≤ k) (h : ∀ i, i < k → l[i]? = m[i]?) : l = m := by
  apply List.ext_getElem?
  intro i
  by_cases hi : i < k
  · exact h i hi
  · rw [List.getElem?_eq_none (by omega), List.getElem?_eq_none (by omega)]
theorem preR_succ {l m : List Rn} {k : Nat} (h : ∀ i, i < k → l[i]? = m[i]?) (hc : l[k]? = m[k]?) : ∀ i, i < k + 1 → l[i]? = m[i]? := by
  intro i hi
  by_cases hk : i < k
  · exact h i hk
  · obtain rfl : i = k := by omega
    exact hc

set_option maxHeartbeats 1000000 in
set_option maxRecDepth 100000 in
theorem equalR_some (b1 o1 c1 b2 o2 c2 : Nat) (l m : List Rn) (w : World) (hm : l.length ≤ maxLen) (hlen : l.length = m.length) (hb1 : b1 < w.heap.size) (hb2 : b2 < w.heap.size) (h1 : RnsAt w b1 o1 l) (h2 : RnsAt w b2 o2 m) :
    Calls Try.prog 22 #[.slice (some ⟨b1, o1, none⟩) l.length c1, .slice (some ⟨b2, o2, none⟩) l.length c2] w fun e w' => e = .returned (.bool (decide (l = m))) ∧ Below w.heap.size w w' := by
  unfold maxLen at hm
  have HL := Lib.hid hlen
  have hlen1 : l.length ≤ m.length := by omega
  clear hlen
  go_enter Try.func22, Try.ntmps22
  go_wp2_with fail
  go_loopw [13] (fun v wr => ∃ k : Nat, k ≤ l.length ∧ (∀ i, i < k → l[i]? = m[i]?) ∧ v = .int .i64 k ∧ Below w.heap.size w wr) (fun v _ => l.length - (intOf v).toNat)
  case atStart => exact ⟨0, Nat.zero_le _, by omega, rfl, Below.refl _ _⟩
  case round =>
    obtain ⟨k, hk, hz, rfl, hbw⟩ := hrel
    have HZ := Lib.hid hz
    clear hz
    by_cases hlt : k < l.length
    · obtain ⟨c0, c1', c2'⟩ := (h1 k hlt).below hb1 hbw
      obtain ⟨d0, d1, d2⟩ := (h2 k (by omega)).below hb2 hbw
      have HN := Lib.hid (neqRn l[k] m[k])
      have hlt2 : k < m.length := by omega
      have HX := Lib.hid (show l[k]? = some l[k] from List.getElem?_eq_getElem hlt)
      have HY := Lib.hid (show m[k]? = some m[k] from List.getElem?_eq_getElem hlt2)
      generalize l[k] = x at *
      generalize m[k] = y at *
      by_cases hxy : x = y
      · have hq : ∀ w : World, (binOp .neq 46 (.agg #[.int .i64 x.start, .int .i64 x.long, .int .i64 x.times]) (.agg #[.int .i64 y.start, .int .i64 y.long, .int .i64 y.times])).run Try.prog w = .ok (.bool false) w := fun w => by rw [HN.out]; simp [hxy]
        have HXY := Lib.hid hxy
        clear hxy
        go_wp2_with fail
        go_quiet (fail)
        go_wp2_with fail
        exact ⟨⟨k + 1, by omega, preR_succ HZ.out (by rw [HX.out, HY.out, HXY.out]), by go_num, below_drewN hbw _⟩, by simp [intOf]; omega⟩
      · have hq : ∀ w : World, (binOp .neq 46 (.agg #[.int .i64 x.start, .int .i64 x.long, .int .i64 x.times]) (.agg #[.int .i64 y.start, .int .i64 y.long, .int .i64 y.times])).run Try.prog w = .ok (.bool true) w := fun w => by rw [HN.out]; simp [hxy]
        have HF := Lib.hid (show decide (l = m) = false by
          rw [decide_eq_false_iff_not]
          intro h
          have := HX.out
          rw [h, HY.out] at this
          exact hxy (Option.some.inj this).symm)
        clear hxy
        go_wp2_with fail
        go_quiet (fail)
        go_wp2_with fail
        go_ret
        exact ⟨ret_bool HF.out.symm, below_drewN hbw _⟩
    · go_wp2_with fail
      go_ret
      exact ⟨ret_bool (by rw [allR_eq_of HL.out (by omega) HZ.out]; simp), hbw⟩

theorem equalR_none (p q : Option Addr) (c1 c2 : Nat) (w : World) :
    Calls Try.prog 22 #[.slice p 0 c1, .slice q 0 c2] w fun e w' => e = .returned (.bool true) ∧ Below w.heap.size w w' := by
  go_enter Try.func22, Try.ntmps22
  go_wp2_with fail
  go_loop [13] (fun v => v = .int .i64 0) (fun _ => 0)
  case atStart => rfl
  case round =>
    subst hrel
    go_wp2_with fail
    go_ret
    exact ⟨rfl, Below.refl _ _⟩
theorem equalR_unlike (p q : Option Addr) (n m c1 c2 : Nat) (w : World) (h : n ≠ m) :
    Calls Try.prog 22 #[.slice p n c1, .slice q m c2] w fun e w' => e = .returned (.bool false) ∧ Below w.heap.size w w' := by
  have h' : ((n : Int) != m) = true := by rw [bne_iff_ne]; omega
  go_enter Try.func22, Try.ntmps22
  go_wp2_with fail
  go_ret
  exact ⟨rfl, Below.refl _ _⟩

theorem equalR_any (v1 v2 : Value) (l m : List Rn) (w : World) (h1 : SlR0 w v1 l) (h2 : SlR0 w v2 m) :
    Calls Try.prog 22 #[v1, v2] w fun e w' => e = .returned (.bool (decide (l = m))) ∧ Below w.heap.size w w' := by
  obtain ⟨p, c1, rfl, a1, a2, a4⟩ := h1
  obtain ⟨q, c2, rfl, b1, b2, b4⟩ := h2
  by_cases hl : l.length = m.length
  · rcases a4 with rfl | ⟨b, o, rfl, hb, hc⟩
    · obtain rfl : m = [] := List.length_eq_zero_iff.1 hl.symm
      exact equalR_none p q c1 c2 w
    · rcases b4 with rfl | ⟨b', o', rfl, hb', hc'⟩
      · obtain rfl : l = [] := List.length_eq_zero_iff.1 hl
        exact equalR_none _ q c1 c2 w
      · rw [← hl]
        exact equalR_some b o c1 b' o' c2 l m w (by omega) hl hb hb' hc hc'
  · have : decide (l = m) = false := by
      rw [decide_eq_false_iff_not]
      rintro rfl
      exact hl rfl
    rw [this]
    exact equalR_unlike p q _ _ c1 c2 w hl
end Go.Proofs.Ytihnpbhcddapdaa

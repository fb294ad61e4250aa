/- What slices.Equal answers of rows of frames. -/
import Derived.Test.YtmoofdcoodaaiaaGreatDoorRowPlain
import Derived.Test.YtmoofdcoodaaiaaGreatDoorLeaf
import Derived.Laws.StructEq
namespace Go.Proofs.YtmoofdcoodaaiaaGreatDoor
open Go.RowKit Go.Lib

theorem ba_eq (a b : ByteArray) : a.toList = b.toList ↔ a = b := by
  rw [ByteArray.toList_eq, ByteArray.toList_eq]
  obtain ⟨⟨x⟩⟩ := a
  obtain ⟨⟨y⟩⟩ := b
  simp

theorem neqFr (x y : Fr) (w : World) : (binOp .neq 54 (.agg #[.string x.m, .string x.f, .string x.i, .int .i64 x.line, .int .i64 x.addr, .bool x.own]) (.agg #[.string y.m, .string y.f, .string y.i, .int .i64 y.line, .int .i64 y.addr, .bool y.own])).run Tryz.prog w = .ok (.bool (!decide (x = y))) w := by
  have hS : Tryz.prog.underlying 54 = some (.struct (Tryz.prog.fieldsOf 54)) := by kernel_rfl
  have hp : Tryz.prog.stoodInHeld 54 = false := by kernel_rfl
  obtain ⟨m, f, i, l, a, o⟩ := x
  obtain ⟨m', f', i', l', a', o'⟩ := y
  have u3 := Tryz.underlying3
  have u9 := Tryz.underlying9
  have u4 := Tryz.underlying4
  rw [run_neq_struct, show (10000 : Nat) = 9999 + 1 from rfl, run_equalIn_agg w 9999 54 _ _ hS hp]
  simp only [Program.fieldsOf, Tryz.underlying54]
  go_simp
  simp only [ba_eq]
  by_cases h1 : m = m' <;> by_cases h2 : f = f' <;> by_cases h3 : i = i' <;> by_cases h4 : l = l' <;> by_cases h5 : a = a' <;> by_cases h6 : o = o' <;> simp [h1, h2, h3, h4, h5, h6]

theorem below_drewN {B : Nat} {a w : World} (h : Below B a w) (n : Nat) : Below B a (w.drewN n) := ⟨h.os, h.tape, h.output, h.size, h.block⟩

theorem all_eq_of {l m : List Fr} {k : Nat} (hl : l.length = m.length) (hk : l.length ≤ k) (h : ∀ i, i < k → l[i]? = m[i]?) : l = m := by
  apply List.ext_getElem?
  intro i
  by_cases hi : i < k
  · exact h i hi
  · rw [List.getElem?_eq_none (by omega), List.getElem?_eq_none (by omega)]
theorem pre_succ {l m : List Fr} {k : Nat} (h : ∀ i, i < k → l[i]? = m[i]?) (hc : l[k]? = m[k]?) : ∀ i, i < k + 1 → l[i]? = m[i]? := by
  intro i hi
  by_cases hk : i < k
  · exact h i hk
  · obtain rfl : i = k := by omega
    exact hc

set_option maxHeartbeats 1000000 in
set_option maxRecDepth 100000 in
theorem equal_some (b1 o1 c1 b2 o2 c2 : Nat) (l m : List Fr) (w : World) (hm : l.length ≤ maxLen) (hlen : l.length = m.length) (hb1 : b1 < w.heap.size) (hb2 : b2 < w.heap.size) (h1 : FrsAt w b1 o1 l) (h2 : FrsAt w b2 o2 m) :
    Calls Tryz.prog 45 #[.slice (some ⟨b1, o1, none⟩) l.length c1, .slice (some ⟨b2, o2, none⟩) l.length c2] w fun e w' => e = .returned (.bool (decide (l = m))) ∧ Below w.heap.size w w' := by
  unfold maxLen at hm
  have HL := Lib.hid hlen
  have hlen1 : l.length ≤ m.length := by omega
  clear hlen
  go_enter Tryz.func45, Tryz.ntmps45
  go_wp2_with fail
  go_loopw [13] (fun v wr => ∃ k : Nat, k ≤ l.length ∧ (∀ i, i < k → l[i]? = m[i]?) ∧ v = .int .i64 k ∧ Below w.heap.size w wr) (fun v _ => l.length - (intOf v).toNat)
  case atStart => exact ⟨0, Nat.zero_le _, by omega, rfl, Below.refl _ _⟩
  case round =>
    obtain ⟨k, hk, hz, rfl, hbw⟩ := hrel
    have HZ := Lib.hid hz
    clear hz
    by_cases hlt : k < l.length
    · obtain ⟨c0, c1', c2', c3, c4, c5⟩ := (h1 k hlt).below hb1 hbw
      obtain ⟨d0, d1, d2, d3, d4, d5⟩ := (h2 k (by omega)).below hb2 hbw
      have HN := Lib.hid (neqFr l[k] m[k])
      have hlt2 : k < m.length := by omega
      have HX := Lib.hid (show l[k]? = some l[k] from List.getElem?_eq_getElem hlt)
      have HY := Lib.hid (show m[k]? = some m[k] from List.getElem?_eq_getElem hlt2)
      generalize l[k] = x at *
      generalize m[k] = y at *
      by_cases hxy : x = y
      · have hq : ∀ w : World, (binOp .neq 54 (.agg #[.string x.m, .string x.f, .string x.i, .int .i64 x.line, .int .i64 x.addr, .bool x.own]) (.agg #[.string y.m, .string y.f, .string y.i, .int .i64 y.line, .int .i64 y.addr, .bool y.own])).run Tryz.prog w = .ok (.bool false) w := fun w => by rw [HN.out]; simp [hxy]
        have HXY := Lib.hid hxy
        clear hxy
        go_wp2_with fail
        go_quiet (fail)
        go_wp2_with fail
        exact ⟨⟨k + 1, by omega, pre_succ HZ.out (by rw [HX.out, HY.out, HXY.out]), by go_num, below_drewN hbw _⟩, by simp [intOf]; omega⟩
      · have hq : ∀ w : World, (binOp .neq 54 (.agg #[.string x.m, .string x.f, .string x.i, .int .i64 x.line, .int .i64 x.addr, .bool x.own]) (.agg #[.string y.m, .string y.f, .string y.i, .int .i64 y.line, .int .i64 y.addr, .bool y.own])).run Tryz.prog w = .ok (.bool true) w := fun w => by rw [HN.out]; simp [hxy]
        have HF := Lib.hid (show decide (l = m) = false by
          rw [decide_eq_false_iff_not]
          intro h
          have := HX.out
          rw [h, HY.out] at this
          exact hxy (Option.some.inj this).symm)
        clear hxy
        go_wp2_with fail
        go_quiet (fail)
        go_wp2_with fail
        go_ret
        exact ⟨ret_bool HF.out.symm, below_drewN hbw _⟩
    · go_wp2_with fail
      go_ret
      exact ⟨ret_bool (by rw [all_eq_of HL.out (by omega) HZ.out]; simp), hbw⟩

theorem equal_none (p q : Option Addr) (c1 c2 : Nat) (w : World) :
    Calls Tryz.prog 45 #[.slice p 0 c1, .slice q 0 c2] w fun e w' => e = .returned (.bool true) ∧ Below w.heap.size w w' := by
  go_enter Tryz.func45, Tryz.ntmps45
  go_wp2_with fail
  go_loop [13] (fun v => v = .int .i64 0) (fun _ => 0)
  case atStart => rfl
  case round =>
    subst hrel
    go_wp2_with fail
    go_ret
    exact ⟨rfl, Below.refl _ _⟩
theorem equal_unlike (p q : Option Addr) (n m c1 c2 : Nat) (w : World) (h : n ≠ m) :
    Calls Tryz.prog 45 #[.slice p n c1, .slice q m c2] w fun e w' => e = .returned (.bool false) ∧ Below w.heap.size w w' := by
  have h' : ((n : Int) != m) = true := by rw [bne_iff_ne]; omega
  go_enter Tryz.func45, Tryz.ntmps45
  go_wp2_with fail
  go_ret
  exact ⟨rfl, Below.refl _ _⟩

theorem equal_any (v1 v2 : Value) (l m : List Fr) (w : World) (h1 : SlF w v1 l) (h2 : SlF w v2 m) :
    Calls Tryz.prog 45 #[v1, v2] w fun e w' => e = .returned (.bool (decide (l = m))) ∧ Below w.heap.size w w' := by
  obtain ⟨p, c1, rfl, a1, a2, a3, a4⟩ := h1
  obtain ⟨q, c2, rfl, b1, b2, b3, b4⟩ := h2
  by_cases hl : l.length = m.length
  · rcases a4 with rfl | ⟨b, o, rfl, hb, hc⟩
    · obtain rfl : m = [] := List.length_eq_zero_iff.1 hl.symm
      exact equal_none p q c1 c2 w
    · rcases b4 with rfl | ⟨b', o', rfl, hb', hc'⟩
      · obtain rfl : l = [] := List.length_eq_zero_iff.1 hl
        exact equal_none _ q c1 c2 w
      · rw [← hl]
        exact equal_some b o c1 b' o' c2 l m w (by omega) hl hb hb' hc hc'
  · have : decide (l = m) = false := by
      rw [decide_eq_false_iff_not]
      rintro rfl
      exact hl rfl
    rw [this]
    exact equal_unlike p q _ _ c1 c2 w hl
end Go.Proofs.YtmoofdcoodaaiaaGreatDoor

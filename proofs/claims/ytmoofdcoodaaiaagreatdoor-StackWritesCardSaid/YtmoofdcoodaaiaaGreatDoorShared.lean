/- What Shared answers: how many of the last frames are equal. -/
import Derived.Test.YtmoofdcoodaaiaaGreatDoorEqual
namespace Go.Proofs.YtmoofdcoodaaiaaGreatDoor
open Go.RowKit

theorem eqFr (x y : Fr) (w : World) : (binOp .eql 54 (.agg #[.string x.m, .string x.f, .string x.i, .int .i64 x.line, .int .i64 x.addr, .bool x.own]) (.agg #[.string y.m, .string y.f, .string y.i, .int .i64 y.line, .int .i64 y.addr, .bool y.own])).run Tryz.prog w = .ok (.bool (decide (x = y))) w := by
  have hS : Tryz.prog.underlying 54 = some (.struct (Tryz.prog.fieldsOf 54)) := by kernel_rfl
  have hp : Tryz.prog.stoodInHeld 54 = false := by kernel_rfl
  obtain ⟨m, f, i, l, a, o⟩ := x
  obtain ⟨m', f', i', l', a', o'⟩ := y
  have u3 := Tryz.underlying3
  have u9 := Tryz.underlying9
  have u4 := Tryz.underlying4
  rw [run_eql_struct, show (10000 : Nat) = 9999 + 1 from rfl, run_equalIn_agg w 9999 54 _ _ hS hp]
  simp only [Program.fieldsOf, Tryz.underlying54]
  go_simp
  simp only [ba_eq]
  by_cases h1 : m = m' <;> by_cases h2 : f = f' <;> by_cases h3 : i = i' <;> by_cases h4 : l = l' <;> by_cases h5 : a = a' <;> by_cases h6 : o = o' <;> simp [h1, h2, h3, h4, h5, h6]

/-- How many of the first ones are equal. -/
def sharedN : List Fr → List Fr → Nat
  | x :: l, y :: m => if x = y then sharedN l m + 1 else 0
  | _, _ => 0
/-- How many of the last frames are equal. -/
def shared (l m : List Fr) : Nat := sharedN l.reverse m.reverse
theorem sharedN_eq : ∀ {l m : List Fr} {k : Nat}, (∀ i, i < k → i < l.length ∧ l[i]? = m[i]?) → (l.length ≤ k ∨ m.length ≤ k ∨ ¬ l[k]? = m[k]?) → sharedN l m = k
  | [], m, 0, _, _ => by cases m <;> rfl
  | [], m, k + 1, h, _ => absurd (h 0 (by omega)).1 (by simp)
  | x :: l, [], 0, _, _ => rfl
  | x :: l, [], k + 1, h, _ => absurd (h 0 (by omega)).2 (by simp)
  | x :: l, y :: m, 0, _, he => by
    rw [sharedN]
    rcases he with he | he | he
    · simp at he
    · simp at he
    · rw [if_neg (by simpa using he)]
  | x :: l, y :: m, k + 1, h, he => by
    have h0 := (h 0 (by omega)).2
    simp only [List.getElem?_cons_zero, Option.some.injEq] at h0
    rw [sharedN, if_pos h0, sharedN_eq (k := k)]
    · intro i hi
      have := h (i + 1) (by omega)
      simpa using this
    · simpa using he

set_option maxHeartbeats 2000000 in
set_option maxRecDepth 100000 in
theorem shared_some (b1 o1 c1 b2 o2 c2 : Nat) (l m : List Fr) (w : World) (hm1 : l.length ≤ maxLen) (hm2 : m.length ≤ maxLen) (hb1 : b1 < w.heap.size) (hb2 : b2 < w.heap.size) (h1 : FrsAt w b1 o1 l) (h2 : FrsAt w b2 o2 m) :
    Calls Tryz.prog 49 #[.slice (some ⟨b1, o1, none⟩) l.length c1, .slice (some ⟨b2, o2, none⟩) m.length c2] w fun e w' => e = .returned (.int .i64 (shared l m)) ∧ Below w.heap.size w w' := by
  unfold maxLen at hm1 hm2
  go_enter Tryz.func49, Tryz.ntmps49
  go_wp2_with fail
  go_loopw [5] (fun v wr => ∃ k : Nat, k ≤ l.length ∧ k ≤ m.length ∧ (∀ i, i < k → i < l.reverse.length ∧ l.reverse[i]? = m.reverse[i]?) ∧ v = .int .i64 k ∧ Below w.heap.size w wr) (fun v _ => l.length - (intOf v).toNat)
  case atStart => exact ⟨0, Nat.zero_le _, Nat.zero_le _, fun _ h => absurd h (by omega), rfl, Below.refl _ _⟩
  case round =>
    obtain ⟨k, hk, hk2, hz, rfl, hbw⟩ := hrel
    have HZ := Lib.hid hz
    clear hz
    by_cases hlt : k < l.length
    · by_cases hlt2 : k < m.length
      · have hi1 : l.length - 1 - k < l.length := by omega
        have hi2 : m.length - 1 - k < m.length := by omega
        obtain ⟨a0, a1, a2, a3, a4, a5⟩ := (h1 (l.length - 1 - k) hi1).below hb1 hbw
        obtain ⟨d0, d1, d2, d3, d4, d5⟩ := (h2 (m.length - 1 - k) hi2).below hb2 hbw
        have HX := Lib.hid (show l.reverse[k]? = some l[l.length - 1 - k] by rw [List.getElem?_reverse hlt]; exact List.getElem?_eq_getElem hi1)
        have HY := Lib.hid (show m.reverse[k]? = some m[m.length - 1 - k] by rw [List.getElem?_reverse hlt2]; exact List.getElem?_eq_getElem hi2)
        have HN := Lib.hid (eqFr l[l.length - 1 - k] m[m.length - 1 - k])
        generalize l[l.length - 1 - k] = x at *
        generalize m[m.length - 1 - k] = y at *
        by_cases hxy : x = y
        · have hq : ∀ w : World, (binOp .eql 54 (.agg #[.string x.m, .string x.f, .string x.i, .int .i64 x.line, .int .i64 x.addr, .bool x.own]) (.agg #[.string y.m, .string y.f, .string y.i, .int .i64 y.line, .int .i64 y.addr, .bool y.own])).run Tryz.prog w = .ok (.bool true) w := fun w => by rw [HN.out]; simp [hxy]
          have HXY := Lib.hid hxy
          clear hxy
          go_wp2_with fail
          go_quiet (fail)
          go_wp2_with fail
          exact ⟨⟨k + 1, by omega, by omega, fun i hi => by
            by_cases hik : i < k
            · exact HZ.out i hik
            · obtain rfl : i = k := by omega
              exact ⟨by simpa using hlt, by rw [HX.out, HY.out, HXY.out]⟩, by go_num, below_drewN hbw _⟩, by simp [intOf]; omega⟩
        · have hq : ∀ w : World, (binOp .eql 54 (.agg #[.string x.m, .string x.f, .string x.i, .int .i64 x.line, .int .i64 x.addr, .bool x.own]) (.agg #[.string y.m, .string y.f, .string y.i, .int .i64 y.line, .int .i64 y.addr, .bool y.own])).run Tryz.prog w = .ok (.bool false) w := fun w => by rw [HN.out]; simp [hxy]
          have HXY := Lib.hid hxy
          clear hxy
          go_wp2_with fail
          go_quiet (fail)
          go_wp2_with fail
          go_ret
          exact ⟨ret_int (congrArg Int.ofNat (sharedN_eq HZ.out (.inr (.inr (by rw [HX.out, HY.out]; intro h; exact HXY.out (Option.some.inj h))))).symm), below_drewN hbw _⟩
      · have hd1 : decide ((k : Int) < l.length) = true := by simp; omega
        have hd2 : decide ((k : Int) < m.length) = false := by simp; omega
        go_wp2_with fail
        go_quiet (fail)
        go_wp2_with fail
        go_ret
        exact ⟨ret_int (congrArg Int.ofNat (sharedN_eq HZ.out (.inr (.inl (by simp; omega)))).symm), below_drewN hbw _⟩
    · have hd1 : decide ((k : Int) < l.length) = false := by simp; omega
      go_wp2_with fail
      go_quiet (fail)
      go_wp2_with fail
      go_ret
      exact ⟨ret_int (congrArg Int.ofNat (sharedN_eq HZ.out (.inl (by simp; omega))).symm), below_drewN hbw _⟩

set_option maxHeartbeats 1000000 in
set_option maxRecDepth 100000 in
theorem shared_none (p q : Option Addr) (n m c1 c2 : Nat) (w : World) (h : n = 0 ∨ m = 0) :
    Calls Tryz.prog 49 #[.slice p n c1, .slice q m c2] w fun e w' => e = .returned (.int .i64 0) ∧ Below w.heap.size w w' := by
  by_cases hn : n = 0
  · subst hn
    clear h
    go_enter Tryz.func49, Tryz.ntmps49
    go_wp2_with fail
    go_loopw [5] (fun v wr => v = .int .i64 0 ∧ Below w.heap.size w wr) (fun _ _ => 0)
    case atStart => exact ⟨rfl, Below.refl _ _⟩
    case round =>
      obtain ⟨rfl, hbw⟩ := hrel
      go_wp2_with fail
      go_quiet (fail)
      go_wp2_with fail
      go_ret
      exact ⟨rfl, below_drewN hbw _⟩
  · obtain rfl : m = 0 := by omega
    have hn' : 0 < n := by omega
    clear h hn
    have hd : decide ((0 : Int) < n) = true := by simp; omega
    go_enter Tryz.func49, Tryz.ntmps49
    go_wp2_with fail
    go_loopw [5] (fun v wr => v = .int .i64 0 ∧ Below w.heap.size w wr) (fun _ _ => 0)
    case atStart => exact ⟨rfl, Below.refl _ _⟩
    case round =>
      obtain ⟨rfl, hbw⟩ := hrel
      go_wp2_with fail
      go_quiet (fail)
      go_wp2_with fail
      go_ret
      exact ⟨rfl, below_drewN hbw _⟩

theorem shared_any (v1 v2 : Value) (l m : List Fr) (w : World) (h1 : SlF w v1 l) (h2 : SlF w v2 m) :
    Calls Tryz.prog 49 #[v1, v2] w fun e w' => e = .returned (.int .i64 (shared l m)) ∧ Below w.heap.size w w' := by
  obtain ⟨p, c1, rfl, a1, a2, a3, a4⟩ := h1
  obtain ⟨q, c2, rfl, b1, b2, b3, b4⟩ := h2
  rcases a4 with rfl | ⟨b, o, rfl, hb, hc⟩
  · rw [show shared [] m = 0 from rfl]; exact shared_none p q 0 _ c1 c2 w (.inl rfl)
  · rcases b4 with rfl | ⟨b', o', rfl, hb', hc'⟩
    · rw [show shared l [] = 0 by unfold shared; cases l.reverse <;> rfl]; exact shared_none _ q _ 0 c1 c2 w (.inr rfl)
    · exact shared_some b o c1 b' o' c2 l m w (by omega) (by omega) hb hb' hc hc'

set_option maxHeartbeats 2000000 in
set_option maxRecDepth 100000 in
theorem sharedOf_some (b1 o1 c1 b2 o2 c2 : Nat) (l m : List Fr) (w : World) (hm1 : l.length ≤ maxLen) (hm2 : m.length ≤ maxLen) (hb1 : b1 < w.heap.size) (hb2 : b2 < w.heap.size) (h1 : FrsAt w b1 o1 l) (h2 : FrsAt w b2 o2 m) :
    Calls Tryz.prog 21 #[.slice (some ⟨b1, o1, none⟩) l.length c1, .slice (some ⟨b2, o2, none⟩) m.length c2] w fun e w' => e = .returned (.int .i64 (shared l m)) ∧ Below w.heap.size w w' := by
  unfold maxLen at hm1 hm2
  go_enter Tryz.func21, Tryz.ntmps21
  go_wp2_with fail
  go_loopw [5] (fun v wr => ∃ k : Nat, k ≤ l.length ∧ k ≤ m.length ∧ (∀ i, i < k → i < l.reverse.length ∧ l.reverse[i]? = m.reverse[i]?) ∧ v = .int .i64 k ∧ Below w.heap.size w wr) (fun v _ => l.length - (intOf v).toNat)
  case atStart => exact ⟨0, Nat.zero_le _, Nat.zero_le _, fun _ h => absurd h (by omega), rfl, Below.refl _ _⟩
  case round =>
    obtain ⟨k, hk, hk2, hz, rfl, hbw⟩ := hrel
    have HZ := Lib.hid hz
    clear hz
    by_cases hlt : k < l.length
    · by_cases hlt2 : k < m.length
      · have hi1 : l.length - 1 - k < l.length := by omega
        have hi2 : m.length - 1 - k < m.length := by omega
        obtain ⟨a0, a1, a2, a3, a4, a5⟩ := (h1 (l.length - 1 - k) hi1).below hb1 hbw
        obtain ⟨d0, d1, d2, d3, d4, d5⟩ := (h2 (m.length - 1 - k) hi2).below hb2 hbw
        have HX := Lib.hid (show l.reverse[k]? = some l[l.length - 1 - k] by rw [List.getElem?_reverse hlt]; exact List.getElem?_eq_getElem hi1)
        have HY := Lib.hid (show m.reverse[k]? = some m[m.length - 1 - k] by rw [List.getElem?_reverse hlt2]; exact List.getElem?_eq_getElem hi2)
        have HN := Lib.hid (eqFr l[l.length - 1 - k] m[m.length - 1 - k])
        generalize l[l.length - 1 - k] = x at *
        generalize m[m.length - 1 - k] = y at *
        by_cases hxy : x = y
        · have hq : ∀ w : World, (binOp .eql 54 (.agg #[.string x.m, .string x.f, .string x.i, .int .i64 x.line, .int .i64 x.addr, .bool x.own]) (.agg #[.string y.m, .string y.f, .string y.i, .int .i64 y.line, .int .i64 y.addr, .bool y.own])).run Tryz.prog w = .ok (.bool true) w := fun w => by rw [HN.out]; simp [hxy]
          have HXY := Lib.hid hxy
          clear hxy
          go_wp2_with fail
          go_quiet (fail)
          go_wp2_with fail
          exact ⟨⟨k + 1, by omega, by omega, fun i hi => by
            by_cases hik : i < k
            · exact HZ.out i hik
            · obtain rfl : i = k := by omega
              exact ⟨by simpa using hlt, by rw [HX.out, HY.out, HXY.out]⟩, by go_num, below_drewN hbw _⟩, by simp [intOf]; omega⟩
        · have hq : ∀ w : World, (binOp .eql 54 (.agg #[.string x.m, .string x.f, .string x.i, .int .i64 x.line, .int .i64 x.addr, .bool x.own]) (.agg #[.string y.m, .string y.f, .string y.i, .int .i64 y.line, .int .i64 y.addr, .bool y.own])).run Tryz.prog w = .ok (.bool false) w := fun w => by rw [HN.out]; simp [hxy]
          have HXY := Lib.hid hxy
          clear hxy
          go_wp2_with fail
          go_quiet (fail)
          go_wp2_with fail
          go_ret
          exact ⟨ret_int (congrArg Int.ofNat (sharedN_eq HZ.out (.inr (.inr (by rw [HX.out, HY.out]; intro h; exact HXY.out (Option.some.inj h))))).symm), below_drewN hbw _⟩
      · have hd1 : decide ((k : Int) < l.length) = true := by simp; omega
        have hd2 : decide ((k : Int) < m.length) = false := by simp; omega
        go_wp2_with fail
        go_quiet (fail)
        go_wp2_with fail
        go_ret
        exact ⟨ret_int (congrArg Int.ofNat (sharedN_eq HZ.out (.inr (.inl (by simp; omega)))).symm), below_drewN hbw _⟩
    · have hd1 : decide ((k : Int) < l.length) = false := by simp; omega
      go_wp2_with fail
      go_quiet (fail)
      go_wp2_with fail
      go_ret
      exact ⟨ret_int (congrArg Int.ofNat (sharedN_eq HZ.out (.inl (by simp; omega))).symm), below_drewN hbw _⟩

set_option maxHeartbeats 1000000 in
set_option maxRecDepth 100000 in
theorem sharedOf_none (p q : Option Addr) (n m c1 c2 : Nat) (w : World) (h : n = 0 ∨ m = 0) :
    Calls Tryz.prog 21 #[.slice p n c1, .slice q m c2] w fun e w' => e = .returned (.int .i64 0) ∧ Below w.heap.size w w' := by
  by_cases hn : n = 0
  · subst hn
    clear h
    go_enter Tryz.func21, Tryz.ntmps21
    go_wp2_with fail
    go_loopw [5] (fun v wr => v = .int .i64 0 ∧ Below w.heap.size w wr) (fun _ _ => 0)
    case atStart => exact ⟨rfl, Below.refl _ _⟩
    case round =>
      obtain ⟨rfl, hbw⟩ := hrel
      go_wp2_with fail
      go_quiet (fail)
      go_wp2_with fail
      go_ret
      exact ⟨rfl, below_drewN hbw _⟩
  · obtain rfl : m = 0 := by omega
    have hn' : 0 < n := by omega
    clear h hn
    have hd : decide ((0 : Int) < n) = true := by simp; omega
    go_enter Tryz.func21, Tryz.ntmps21
    go_wp2_with fail
    go_loopw [5] (fun v wr => v = .int .i64 0 ∧ Below w.heap.size w wr) (fun _ _ => 0)
    case atStart => exact ⟨rfl, Below.refl _ _⟩
    case round =>
      obtain ⟨rfl, hbw⟩ := hrel
      go_wp2_with fail
      go_quiet (fail)
      go_wp2_with fail
      go_ret
      exact ⟨rfl, below_drewN hbw _⟩

theorem sharedOf_any (v1 v2 : Value) (l m : List Fr) (w : World) (h1 : SlF w v1 l) (h2 : SlF w v2 m) :
    Calls Tryz.prog 21 #[v1, v2] w fun e w' => e = .returned (.int .i64 (shared l m)) ∧ Below w.heap.size w w' := by
  obtain ⟨p, c1, rfl, a1, a2, a3, a4⟩ := h1
  obtain ⟨q, c2, rfl, b1, b2, b3, b4⟩ := h2
  rcases a4 with rfl | ⟨b, o, rfl, hb, hc⟩
  · rw [show shared [] m = 0 from rfl]; exact sharedOf_none p q 0 _ c1 c2 w (.inl rfl)
  · rcases b4 with rfl | ⟨b', o', rfl, hb', hc'⟩
    · rw [show shared l [] = 0 by unfold shared; cases l.reverse <;> rfl]; exact sharedOf_none _ q _ 0 c1 c2 w (.inr rfl)
    · exact sharedOf_some b o c1 b' o' c2 l m w (by omega) (by omega) hb hb' hc hc'
end Go.Proofs.YtmoofdcoodaaiaaGreatDoor

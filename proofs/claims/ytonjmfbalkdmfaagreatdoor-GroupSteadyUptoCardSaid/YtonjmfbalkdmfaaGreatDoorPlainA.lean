/- What the small functions beneath Plain answer. -/
import Derived.Test.YtonjmfbalkdmfaaGreatDoorBase
import Derived.Test.YtonjmfbalkdmfaaGreatDoorQTail
import Derived.Test.YtonjmfbalkdmfaaGreatDoorToks
namespace Go.Proofs.YtonjmfbalkdmfaaGreatDoor
open Go.RowKit Go.Lib

theorem u8_lt {c : UInt8} : c.toNat < 256 := UInt8.toNat_lt c
theorem le_u8 {a c : UInt8} : (a ≤ c) ↔ (a.toNat : Int) ≤ (c.toNat : Int) := by rw [UInt8.le_iff_toNat_le]; omega
theorem dg_eq (c : UInt8) : dg c = decide (48 ≤ (c.toNat : Int) ∧ (c.toNat : Int) ≤ 57) := by
  unfold dg; rw [Bool.eq_iff_iff]; simp [UInt8.le_iff_toNat_le]; omega
theorem hx_eq (c : UInt8) : hx c = decide ((48 ≤ (c.toNat : Int) ∧ (c.toNat : Int) ≤ 57) ∨ (97 ≤ (c.toNat : Int) ∧ (c.toNat : Int) ≤ 102) ∨ (65 ≤ (c.toNat : Int) ∧ (c.toNat : Int) ≤ 70)) := by
  unfold hx dg; rw [Bool.eq_iff_iff]; simp [UInt8.le_iff_toNat_le]; omega

set_option maxHeartbeats 1000000 in
theorem isDigit_any (c : UInt8) (w : World) :
    Calls Tryz.prog 16 #[.int .u8 c.toNat] w fun e w' => e = .returned (.bool (dg c)) ∧ w' = w := by
  have HE := Lib.hid (dg_eq c)
  go_enter Tryz.func16, Tryz.ntmps16
  go_wp2_with fail
  all_goals (go_ret; exact ⟨ret_bool (by rw [HE.out, Bool.eq_iff_iff]; simp only [decide_eq_true_eq, Bool.false_eq_true]; first | omega | (simp only [false_iff]; omega)), rfl⟩)
set_option maxHeartbeats 1000000 in
theorem isHex_any (c : UInt8) (w : World) :
    Calls Tryz.prog 24 #[.int .u8 c.toNat] w fun e w' => e = .returned (.bool (dg c || (97 ≤ c && c ≤ 102))) ∧ w' = w := by
  have HE := Lib.hid (show (97 ≤ c && c ≤ 102) = decide (97 ≤ (c.toNat : Int) ∧ (c.toNat : Int) ≤ 102) by rw [Bool.eq_iff_iff]; simp [UInt8.le_iff_toNat_le]; omega)
  rw [HE.out]
  have HD := Lib.hid (fun W => isDigit_any c W)
  generalize dg c = d at *
  cases d
  all_goals
    go_enter Tryz.func24, Tryz.ntmps24
    go_wp2_with (go_at_call 16; refine (HD.out _).mono ?_; rintro e w' ⟨rfl, rfl⟩)
    all_goals (go_ret; exact ⟨ret_bool (by rw [Bool.eq_iff_iff]; simp; try omega), rfl⟩)
set_option maxHeartbeats 1000000 in
theorem isAnyHex_any (c : UInt8) (w : World) :
    Calls Tryz.prog 15 #[.int .u8 c.toNat] w fun e w' => e = .returned (.bool (hx c)) ∧ w' = w := by
  have HE := Lib.hid (show hx c = ((dg c || (97 ≤ c && c ≤ 102)) || decide (65 ≤ (c.toNat : Int) ∧ (c.toNat : Int) ≤ 70)) by
    unfold hx; congr 1; rw [Bool.eq_iff_iff]; simp [UInt8.le_iff_toNat_le]; omega)
  rw [HE.out]
  have HD := Lib.hid (fun W => isHex_any c W)
  generalize (dg c || (97 ≤ c && c ≤ 102)) = d at *
  cases d
  all_goals
    go_enter Tryz.func15, Tryz.ntmps15
    go_wp2_with (go_at_call 24; refine (HD.out _).mono ?_; rintro e w' ⟨rfl, rfl⟩)
    all_goals (go_ret; exact ⟨ret_bool (by rw [Bool.eq_iff_iff]; simp; try omega), rfl⟩)

theorem run_step {p : UInt8 → Bool} {l : List UInt8} {k : Nat} (h : k < l.length) (hp : p l[k] = true) : run p (l.drop k) = run p (l.drop (k + 1)) + 1 := by
  rw [List.drop_eq_getElem_cons h]; show (if p l[k] then _ else _) = _; rw [if_pos hp]
theorem run_stop {p : UInt8 → Bool} {l : List UInt8} {k : Nat} (h : k < l.length) (hp : p l[k] = false) : run p (l.drop k) = 0 := by
  rw [List.drop_eq_getElem_cons h]; show (if p l[k] then _ else _) = _; rw [if_neg (by rw [hp]; decide)]
theorem run_end {p : UInt8 → Bool} {l : List UInt8} {k : Nat} (h : l.length ≤ k) : run p (l.drop k) = 0 := by
  rw [List.drop_eq_nil_of_le h]; rfl
theorem ret_int {k : IntKind} {a b : Int} (h : a = b) : Ending.returned (.int k a) = .returned (.int k b) := by rw [h]

set_option maxHeartbeats 1000000 in
set_option maxRecDepth 100000 in
theorem rowHex_any (s : ByteArray) (w : World) (hs : s.size ≤ 4611686018427387904) :
    Calls Tryz.prog 14 #[.string s, .func (.func 15) #[] #[]] w fun e w' => e = .returned (.int .i64 (run hx s.data.toList)) ∧ w' = w := by
  have hl := Lib.hid (Lib.size_eq s)
  go_enter Tryz.func14, Tryz.ntmps14
  go_wp2_with fail
  go_loop [5] (fun v => ∃ k : Nat, v = .int .i64 k ∧ k ≤ s.size ∧ run hx s.data.toList = k + run hx (s.data.toList.drop k)) (fun v => s.size - (RowKit.intOf v).toNat)
  case atStart => exact ⟨0, rfl, Nat.zero_le _, by simp⟩
  case round =>
    obtain ⟨k, rfl, hk, heq⟩ := hrel
    have HEQ := Lib.hid heq
    clear heq
    by_cases hlt : k < s.size
    · have hkl : k < s.data.toList.length := by rw [← hl.out]; exact hlt
      have HC := Lib.hid (fun W => isAnyHex_any s[k] W)
      cases hp : hx s[k]
      · have HR := Lib.hid (run_stop hkl hp)
        rw [hp] at HC
        clear hp
        go_wp2_with (go_at_call 15; refine (HC.out _).mono ?_; rintro e w' ⟨rfl, rfl⟩)
        go_ret
        exact ⟨ret_int (by rw [HEQ.out, HR.out]; simp), rfl⟩
      · have HR := Lib.hid (run_step hkl hp)
        rw [hp] at HC
        clear hp
        go_wp2_with (go_at_call 15; refine (HC.out _).mono ?_; rintro e w' ⟨rfl, rfl⟩)
        exact ⟨⟨k + 1, rfl, hlt, by rw [HEQ.out, HR.out]; omega⟩, by simp [RowKit.intOf]; omega⟩
    · have HR := Lib.hid (run_end (p := hx) (l := s.data.toList) (k := k) (by rw [← hl.out]; omega))
      go_wp2_with fail
      go_ret
      exact ⟨ret_int (by rw [HEQ.out, HR.out]; simp), rfl⟩
set_option maxHeartbeats 1000000 in
set_option maxRecDepth 100000 in
theorem rowDig_any (s : ByteArray) (w : World) (hs : s.size ≤ 4611686018427387904) :
    Calls Tryz.prog 14 #[.string s, .func (.func 16) #[] #[]] w fun e w' => e = .returned (.int .i64 (run dg s.data.toList)) ∧ w' = w := by
  have hl := Lib.hid (Lib.size_eq s)
  go_enter Tryz.func14, Tryz.ntmps14
  go_wp2_with fail
  go_loop [5] (fun v => ∃ k : Nat, v = .int .i64 k ∧ k ≤ s.size ∧ run dg s.data.toList = k + run dg (s.data.toList.drop k)) (fun v => s.size - (RowKit.intOf v).toNat)
  case atStart => exact ⟨0, rfl, Nat.zero_le _, by simp⟩
  case round =>
    obtain ⟨k, rfl, hk, heq⟩ := hrel
    have HEQ := Lib.hid heq
    clear heq
    by_cases hlt : k < s.size
    · have hkl : k < s.data.toList.length := by rw [← hl.out]; exact hlt
      have HC := Lib.hid (fun W => isDigit_any s[k] W)
      cases hp : dg s[k]
      · have HR := Lib.hid (run_stop hkl hp)
        rw [hp] at HC
        clear hp
        go_wp2_with (go_at_call 16; refine (HC.out _).mono ?_; rintro e w' ⟨rfl, rfl⟩)
        go_ret
        exact ⟨ret_int (by rw [HEQ.out, HR.out]; simp), rfl⟩
      · have HR := Lib.hid (run_step hkl hp)
        rw [hp] at HC
        clear hp
        go_wp2_with (go_at_call 16; refine (HC.out _).mono ?_; rintro e w' ⟨rfl, rfl⟩)
        exact ⟨⟨k + 1, rfl, hlt, by rw [HEQ.out, HR.out]; omega⟩, by simp [RowKit.intOf]; omega⟩
    · have HR := Lib.hid (run_end (p := dg) (l := s.data.toList) (k := k) (by rw [← hl.out]; omega))
      go_wp2_with fail
      go_ret
      exact ⟨ret_int (by rw [HEQ.out, HR.out]; simp), rfl⟩
end Go.Proofs.YtonjmfbalkdmfaaGreatDoor

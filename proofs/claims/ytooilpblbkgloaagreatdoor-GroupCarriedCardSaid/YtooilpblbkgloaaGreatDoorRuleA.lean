/- What the small checks of rules answer: the program's and the reference's. -/
import Derived.Test.YtooilpblbkgloaaGreatDoorFitsP
import Derived.Test.YtooilpblbkgloaaGreatDoorRulePlain
import Derived.Test.YtooilpblbkgloaaGreatDoorPlainA
namespace Go.Proofs.YtooilpblbkgloaaGreatDoor
open Go.RowKit Go.Lib

theorem bne_of {a b : Int} {x : Bool} (h : (a == b) = x) : (a != b) = !x := by simp [bne, h]
theorem isEmpty_eq (s : ByteArray) : s.toList.isEmpty = decide (s.size = 0) := by
  rw [Lib.toList_data, Lib.size_eq]; cases s.data.toList <;> simp
theorem prb_eq (c : UInt8) : prb c = (decide (32 ≤ (c.toNat : Int)) && decide ((c.toNat : Int) ≤ 126)) := by
  unfold prb; rw [Bool.eq_iff_iff]; simp [UInt8.le_iff_toNat_le]; omega
theorem all_bad {l : List UInt8} {k : Nat} (h : k < l.length) (hp : prb l[k] = false) : l.all prb = false := by
  rw [List.all_eq_false]; exact ⟨l[k], List.getElem_mem h, by simp [hp]⟩
def AllUpto (l : List UInt8) (k : Nat) : Prop := ∀ c ∈ l.take k, prb c = true
theorem AllUpto.next {l : List UInt8} {k : Nat} (h : AllUpto l k) (hk : k < l.length) (hp : prb l[k] = true) : AllUpto l (k + 1) := by
  intro c hc
  rw [List.take_succ_eq_append_getElem hk, List.mem_append] at hc
  rcases hc with hc | hc
  · exact h c hc
  · simp at hc; subst hc; exact hp
theorem AllUpto.done {l : List UInt8} {k : Nat} (h : AllUpto l k) (hk : l.length ≤ k) : l.all prb = true := by
  rw [List.all_eq_true]; intro c hc; exact h c (by rw [List.take_of_length_le hk]; exact hc)

set_option maxHeartbeats 1000000 in
set_option maxRecDepth 100000 in
theorem printable_any (s : ByteArray) (w : World) (hs : s.size ≤ 9223372036854775807) :
    Calls Tryz.prog 82 #[.string s] w fun e w' => e = .returned (.bool (prs s)) ∧ w' = w := by
  have hl := Lib.hid (Lib.size_eq s)
  go_enter Tryz.func82, Tryz.ntmps82
  go_wp2_with fail
  go_loop [6] (fun v => ∃ k : Nat, v = .int .i64 k ∧ k ≤ s.size ∧ AllUpto s.data.toList k) (fun v => s.size - (RowKit.intOf v).toNat)
  case atStart => exact ⟨0, rfl, Nat.zero_le _, fun c hc => by simp at hc⟩
  case round =>
    obtain ⟨k, rfl, hk, ha⟩ := hrel
    have HA := Lib.hid ha
    clear ha
    by_cases hlt : k < s.size
    · have hkl : k < s.data.toList.length := by rw [← hl.out]; exact hlt
      have HB := Lib.hid (prb_eq s[k])
      by_cases h1 : (s[k].toNat : Int) < 32
      · have HV := Lib.hid (show prs s = false from all_bad hkl (HB.out.trans (by rw [decide_eq_false (by omega)]; rfl)))
        go_wp2_with fail
        go_ret
        exact ⟨ret_bool HV.out.symm, rfl⟩
      · by_cases h2 : 126 < (s[k].toNat : Int)
        · have HV := Lib.hid (show prs s = false from all_bad hkl (HB.out.trans (by rw [decide_eq_false (p := _ ≤ 126) (by omega), Bool.and_false])))
          go_wp2_with fail
          go_ret
          exact ⟨ret_bool HV.out.symm, rfl⟩
        · have HV := Lib.hid (HA.out.next hkl (HB.out.trans (by rw [decide_eq_true (by omega), decide_eq_true (by omega)]; rfl)))
          go_wp2_with fail
          exact ⟨⟨k + 1, rfl, hlt, HV.out⟩, by simp [RowKit.intOf]; omega⟩
    · have HV := Lib.hid (show prs s = true from HA.out.done (by rw [← hl.out]; omega))
      go_wp2_with fail
      go_ret
      exact ⟨ret_bool HV.out.symm, rfl⟩

set_option maxHeartbeats 1000000 in
set_option maxRecDepth 100000 in
theorem bytesIn_any (s : ByteArray) (w : World) (hs : s.size ≤ 9223372036854775807) :
    Calls Tryz.prog 61 #[.string s, .int .u8 32, .string ⟨#[]⟩] w fun e w' => e = .returned (.bool (prs s)) ∧ w' = w := by
  have hl := Lib.hid (Lib.size_eq s)
  have HI := Lib.hid (show ∀ (c : Int) W, Calls Tryz.prog 60 #[.string ⟨#[]⟩, .int .u8 c] W fun e w' => e = .returned (.int .i64 (-1)) ∧ w' = W from fun c W => Tryz.strings_IndexByte ⟨#[]⟩ c W)
  go_enter Tryz.func61, Tryz.ntmps61
  go_wp2_with fail
  go_loop [10] (fun v => ∃ k : Nat, v = .int .i64 k ∧ k ≤ s.size ∧ AllUpto s.data.toList k) (fun v => s.size - (RowKit.intOf v).toNat)
  case atStart => exact ⟨0, rfl, Nat.zero_le _, fun c hc => by simp at hc⟩
  case round =>
    obtain ⟨k, rfl, hk, ha⟩ := hrel
    have HA := Lib.hid ha
    clear ha
    by_cases hlt : k < s.size
    · have hkl : k < s.data.toList.length := by rw [← hl.out]; exact hlt
      have HB := Lib.hid (prb_eq s[k])
      by_cases h1 : (s[k].toNat : Int) < 32
      · have HV := Lib.hid (show prs s = false from all_bad hkl (HB.out.trans (by rw [decide_eq_false (by omega)]; rfl)))
        go_wp2_with fail
        go_ret
        exact ⟨ret_bool HV.out.symm, rfl⟩
      · by_cases h2 : 126 < (s[k].toNat : Int)
        · have HV := Lib.hid (show prs s = false from all_bad hkl (HB.out.trans (by rw [decide_eq_false (p := _ ≤ 126) (by omega), Bool.and_false])))
          go_wp2_with fail
          go_ret
          exact ⟨ret_bool HV.out.symm, rfl⟩
        · have HV := Lib.hid (HA.out.next hkl (HB.out.trans (by rw [decide_eq_true (by omega), decide_eq_true (by omega)]; rfl)))
          go_wp2_with (go_at_call 60; refine (HI.out _ _).mono ?_; rintro e w' ⟨rfl, rfl⟩)
          exact ⟨⟨k + 1, rfl, hlt, HV.out⟩, by simp [RowKit.intOf]; omega⟩
    · have HV := Lib.hid (show prs s = true from HA.out.done (by rw [← hl.out]; omega))
      go_wp2_with fail
      go_ret
      exact ⟨ret_bool HV.out.symm, rfl⟩
set_option maxHeartbeats 1000000 in
theorem plainBytes_any (s : ByteArray) (w : World) (hs : s.size ≤ 9223372036854775807) :
    Calls Tryz.prog 38 #[.string s] w fun e w' => e = .returned (.bool (prs s)) ∧ w' = w := by
  have HB := Lib.hid (fun W => bytesIn_any s W hs)
  go_enter Tryz.func38, Tryz.ntmps38
  go_wp2_with (go_at_call 61; refine (HB.out _).mono ?_; rintro e w' ⟨rfl, rfl⟩)
  go_ret
  exact ⟨rfl, rfl⟩
set_option maxHeartbeats 1000000 in
theorem in_any (n a b : Int) (w : World) :
    Calls Tryz.prog 37 #[.int .i64 n, .int .i64 a, .int .i64 b] w fun e w' => e = .returned (.bool (decide (a ≤ n ∧ n ≤ b))) ∧ w' = w := by
  by_cases h1 : a ≤ n
  · by_cases h2 : n ≤ b
    · have HE := Lib.hid (show decide (a ≤ n ∧ n ≤ b) = true from decide_eq_true ⟨h1, h2⟩)
      go_enter Tryz.func37, Tryz.ntmps37
      go_wp2_with fail
      go_ret
      exact ⟨ret_bool HE.out.symm, rfl⟩
    · have HE := Lib.hid (show decide (a ≤ n ∧ n ≤ b) = false from decide_eq_false (fun h => h2 h.2))
      go_enter Tryz.func37, Tryz.ntmps37
      go_wp2_with fail
      go_ret
      exact ⟨ret_bool (decide_eq_false (Int.not_le.2 h2)).symm, rfl⟩
  · have HE := Lib.hid (show decide (a ≤ n ∧ n ≤ b) = false from decide_eq_false (fun h => h1 h.1))
    go_enter Tryz.func37, Tryz.ntmps37
    go_wp2_with fail
    go_ret
    exact ⟨ret_bool (by rw [decide_eq_false (Int.not_le.2 h1)]; rfl), rfl⟩

def mVal (m : Mt) : Value := .agg #[.int .i64 m.on, .bool m.nt, .string m.gl]
def aVal (a : Ac) : Value := .agg #[.int .i64 a.d, .int .i64 a.n, .string a.t]

set_option maxHeartbeats 1000000 in
set_option maxRecDepth 100000 in
theorem checkMatch_any (m : Mt) (w : World) (hs : m.gl.size ≤ 9223372036854775807) :
    Calls Tryz.prog 53 #[mVal m] w fun e w' => e = .returned (.int .i64 (mErr m)) ∧ Below w.heap.size w w' := by
  obtain ⟨on, nt, gl⟩ := m
  unfold mVal
  simp only at hs ⊢
  have HP := Lib.hid (fun W => printable_any gl W hs)
  have HE := Lib.hid (show mErr ⟨on, nt, gl⟩ = if on < 1 ∨ 6 < on then 10 else if on = 6 ∧ gl.size ≠ 0 then 1 else if 100 < gl.size then 4 else if prs gl = false then 9 else 0 from rfl)
  have hz := isEmpty_eq gl
  cases h6 : (on == 6)
  all_goals
    have H6 := Lib.hid h6
    cases h0 : decide (gl.size = 0)
    all_goals
      have H0 := Lib.hid h0
      rw [h0] at hz
      clear h0
      cases hb : prs gl
      all_goals
        rw [hb] at HP HE
        clear hb
        go_enter Tryz.func53, Tryz.ntmps53
        go_wp2_with (go_at_call 82; refine (HP.out _).mono ?_; rintro e w' ⟨rfl, rfl⟩)
        all_goals
          go_ret
          refine ⟨ret_int ?_, (Below.refl _ _).alloc (Nat.le_refl _) _⟩
          rw [HE.out]
          have e1 := H6.out
          have e2 := H0.out
          simp only [beq_iff_eq, beq_eq_false_iff_ne, decide_eq_true_eq, decide_eq_false_iff_not] at e1 e2
          (repeat' split) <;> first | rfl | omega | simp_all

set_option maxHeartbeats 2000000 in
set_option maxRecDepth 100000 in
theorem checkAct_any (a : Ac) (w : World) (hs : a.t.size ≤ 9223372036854775807) :
    Calls Tryz.prog 54 #[aVal a] w fun e w' => e = .returned (.int .i64 (aErr a)) ∧ Below w.heap.size w w' := by
  obtain ⟨d, n, t⟩ := a
  unfold aVal
  simp only at hs ⊢
  have HP := Lib.hid (fun W => printable_any t W hs)
  have HE := Lib.hid (show aErr ⟨d, n, t⟩ = if d < 1 ∨ 6 < d then 10 else if (n ≠ 0 ∧ d ≠ 5) ∨ (t.size ≠ 0 ∧ d ≠ 6) then 1
    else if d = 5 ∧ (n < 1 ∨ 200 < n) then 2 else if d = 6 ∧ t.size = 0 then 1 else if 100 < t.size then 4 else if prs t = false then 9 else 0 from rfl)
  have hz := isEmpty_eq t
  have hz2 : (t.toList == ([] : List UInt8)) = decide (t.size = 0) := by rw [← isEmpty_eq]; cases t.toList <;> rfl
  have hw5 : ∀ x, (d == 5) = x → (d != 5) = !x := fun x h => bne_of h
  have hw6 : ∀ x, (d == 6) = x → (d != 6) = !x := fun x h => bne_of h
  have hwn : ∀ x, (n == 0) = x → (n != 0) = !x := fun x h => bne_of h
  cases h5 : (d == 5)
  all_goals
    have g5 := hw5 _ h5
    cases h6 : (d == 6)
    all_goals
      have g6 := hw6 _ h6
      cases hn : (n == 0)
      all_goals
        have gn := hwn _ hn
        have H5 := Lib.hid h5
        have H6 := Lib.hid h6
        have HN := Lib.hid hn
        cases h0 : decide (t.size = 0)
        all_goals
          have H0 := Lib.hid h0
          rw [h0] at hz hz2
          clear h0
          cases hb : prs t
          all_goals
            rw [hb] at HP HE
            clear hb hw5 hw6 hwn
            first
              | (exfalso; have e1 := H5.out; have e2 := H6.out; simp only [beq_iff_eq] at e1 e2; omega)
              | (go_enter Tryz.func54, Tryz.ntmps54
                 go_wp2_with (go_at_call 82; refine (HP.out _).mono ?_; rintro e w' ⟨rfl, rfl⟩)
                 all_goals
                   go_ret
                   refine ⟨ret_int ?_, (Below.refl _ _).alloc (Nat.le_refl _) _⟩
                   rw [HE.out]
                   have e1 := H5.out
                   have e2 := H6.out
                   have e3 := HN.out
                   have e4 := H0.out
                   simp only [beq_iff_eq, beq_eq_false_iff_ne, decide_eq_true_eq, decide_eq_false_iff_not] at e1 e2 e3 e4
                   (repeat' split) <;> first | rfl | omega | simp_all)
end Go.Proofs.YtooilpblbkgloaaGreatDoor

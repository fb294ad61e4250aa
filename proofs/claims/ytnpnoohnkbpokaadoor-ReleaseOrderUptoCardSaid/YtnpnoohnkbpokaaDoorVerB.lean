/- What the program's checks of names, numbers and parts answer. -/
import Derived.Test.YtnpnoohnkbpokaaDoorVerA
import Derived.Test.YtnpnoohnkbpokaaDoorVerK
namespace Go.Proofs.YtnpnoohnkbpokaaDoor
open Go.RowKit Go.Lib

theorem isEmpty_eq (s : ByteArray) : s.toList.isEmpty = decide (s.size = 0) := by
  rw [Lib.toList_data, Lib.size_eq]; cases s.data.toList <;> simp
theorem eqEmpty_eq (s : ByteArray) : (s.toList == ([] : List UInt8)) = decide (s.size = 0) := by rw [← isEmpty_eq]; cases s.toList <;> rfl
theorem headD_eq (s : ByteArray) (h : 0 < s.size) : s.data.toList.headD 0 = s[0] := by
  have hl := Lib.size_eq s
  have : s[0] = s.data.toList[0]'(by rw [← hl]; exact h) := rfl
  rw [this]
  rw [List.headD_eq_head?_getD, List.head?_eq_getElem?, List.getElem?_eq_getElem (by rw [← hl]; exact h)]; rfl
theorem ne_nil (s : ByteArray) (h : 0 < s.size) : s.data.toList ≠ [] := by
  intro hc; have := Lib.size_eq s; rw [hc] at this; rw [this] at h; exact absurd h (by decide)
theorem is_nil (s : ByteArray) (h : s.size = 0) : s.data.toList = [] := by
  have := Lib.size_eq s; rw [h] at this; exact List.length_eq_zero_iff.1 this.symm
theorem nameB_eq (s : ByteArray) (h : 0 < s.size) : nameB s.data.toList = (decide (s.size ≤ 40) && sm s[0] && s.data.toList.all nm) := by
  unfold nameB
  rw [headD_eq s h, decide_eq_true (ne_nil s h), Lib.size_eq, Bool.true_and]
theorem numOk_eq (s : ByteArray) (most : Nat) (h : 0 < s.size) : numOk most s.data.toList = (decide (s.size ≤ most) && !(decide (1 < s.size) && s[0] == 48) && s.data.toList.all dg) := by
  unfold numOk
  rw [headD_eq s h, decide_eq_true (ne_nil s h), Lib.size_eq, Bool.true_and]
theorem nil_eq (s : ByteArray) (h : s.size = 0) : s = ⟨#[]⟩ := by
  have h2 : s.data.toList = [] := is_nil s h
  cases s with
  | mk d => simp at h2; subst h2; rfl

set_option maxHeartbeats 1000000 in
set_option maxRecDepth 100000 in
theorem isName_any (s : ByteArray) (w : World) (hs : s.size ≤ 4611686018427387904) :
    Calls Tryd.prog 71 #[.string s] w fun e w' => e = .returned (.bool (nameB s.data.toList)) ∧ w' = w := by
  by_cases h0 : s.size = 0
  · have hz : (!s.toList.isEmpty) = false := by rw [isEmpty_eq]; simp [h0]
    rw [show nameB s.data.toList = false by unfold nameB; rw [is_nil s h0]; rfl]
    clear h0
    go_enter Tryd.func71, Tryd.ntmps71
    go_wp2_with fail
    go_ret
    exact ⟨rfl, rfl⟩
  · have hz : (!s.toList.isEmpty) = true := by rw [isEmpty_eq]; simp [h0]
    have hpos : 0 < s.size := by omega
    rw [nameB_eq s hpos]
    have HS := Lib.hid (fun W => isSmall_any s[0] W)
    have HE := Lib.hid (fun W => eachName s W hs)
    clear h0
    by_cases h1 : s.size ≤ 40
    · have hd : decide ((s.size : Int) ≤ 40) = true := by simp; omega
      rw [decide_eq_true h1]
      cases he : sm s[0] <;> cases ha : s.data.toList.all nm
      all_goals
        rw [he] at HS
        rw [ha] at HE
        clear he ha
        go_enter Tryd.func71, Tryd.ntmps71
        go_wp2_with (first
          | (go_at_call 82; refine (HS.out _).mono ?_; rintro e w' ⟨rfl, rfl⟩)
          | (go_at_call 69; refine (HE.out _).mono ?_; rintro e w' ⟨rfl, rfl⟩))
        go_ret
        exact ⟨rfl, rfl⟩
    · have hd : decide ((s.size : Int) ≤ 40) = false := by simp; omega
      rw [decide_eq_false h1]
      clear h1
      go_enter Tryd.func71, Tryd.ntmps71
      go_wp2_with fail
      go_ret
      exact ⟨rfl, rfl⟩

set_option maxHeartbeats 1000000 in
set_option maxRecDepth 100000 in
theorem isProject_any (s : ByteArray) (w : World) (hs : s.size ≤ 4611686018427387904) :
    Calls Tryd.prog 52 #[.string s] w fun e w' => e = .returned (.bool (projB s.data.toList)) ∧ w' = w := by
  have HN := Lib.hid (fun W => isName_any s W hs)
  have HC := Lib.hid (fun W => Tryd.strings_Contains_one s 46 W)
  unfold projB
  generalize decide (0 ≤ Lib.indexByte s.data.toList 46) = c at *
  generalize nameB s.data.toList = n at *
  cases n <;> cases c
  all_goals
    go_enter Tryd.func52, Tryd.ntmps52
    go_wp2_with (first
      | (go_at_call 71; refine (HN.out _).mono ?_; rintro e w' ⟨rfl, rfl⟩)
      | (go_at_call 40; refine (HC.out _).mono ?_; rintro e w' ⟨rfl, rfl⟩))
    go_ret
    exact ⟨rfl, rfl⟩

theorem atoi_any (s : ByteArray) (n : Int) (hl : s.size ≤ 18) (h : Lib.atoi s.data.toList = some n) (w : World) :
    Calls Tryd.prog 102 #[.string s] w fun e w' => e = .returned (.tuple #[.int .i64 n, .nilIface]) ∧ Below w.heap.size w w' := by
  refine (Tryd.strconv_Atoi s n hl h w).mono ?_
  rintro e w' ⟨rfl, t, rfl⟩
  exact ⟨rfl, Lib.bytesWorld_below w 5 t⟩
/-- A number that is read, and whether it is one. -/
def rdNum (most : Nat) (l : List UInt8) : Int := if numOk most l then numV l else 0

set_option maxHeartbeats 1000000 in
set_option maxRecDepth 100000 in
theorem readNumber_any (s : ByteArray) (most : Nat) (w : World) (hm : most ≤ 18) (hs : s.size ≤ 4611686018427387904) :
    Calls Tryd.prog 80 #[.string s, .int .i64 most] w fun e w' => e = .returned (.tuple #[.int .i64 (rdNum most s.data.toList), .bool (numOk most s.data.toList)]) ∧ Below w.heap.size w w' := by
  unfold rdNum
  by_cases h0 : s.size = 0
  · have hz : (s.toList == ([] : List UInt8)) = true := by rw [eqEmpty_eq]; simp [h0]
    have hz2 : s.toList.isEmpty = true := by rw [isEmpty_eq]; simp [h0]
    rw [show numOk most s.data.toList = false by unfold numOk; rw [is_nil s h0]; rfl]
    clear h0
    go_enter Tryd.func80, Tryd.ntmps80
    go_wp2_with fail
    go_ret2
    exact ⟨rfl, Below.refl _ _⟩
  · have hz : (s.toList == ([] : List UInt8)) = false := by rw [eqEmpty_eq]; simp [h0]
    have hz2 : s.toList.isEmpty = false := by rw [isEmpty_eq]; simp [h0]
    have hpos : 0 < s.size := by omega
    clear h0
    by_cases h1 : s.size ≤ most
    · have hd : decide ((most : Int) < (s.size : Int)) = false := by simp; omega
      have hdn : decide (most < s.size) = false := by simp; omega
      by_cases h2 : 1 < s.size ∧ s[0] = 48
      · rw [show numOk most s.data.toList = false by rw [numOk_eq s most hpos, decide_eq_true h2.1, h2.2]; simp]
        have hd1 : decide ((1 : Int) < (s.size : Int)) = true := by simp; omega
        have hd2 : ((s[0].toNat : Int) == 48) = true := by rw [h2.2]; rfl
        clear h1 h2
        go_enter Tryd.func80, Tryd.ntmps80
        go_wp2_with fail
        go_ret2
        exact ⟨rfl, Below.refl _ _⟩
      · have HE := Lib.hid (fun W => eachDig s W hs)
        have HN := Lib.hid (show numOk most s.data.toList = s.data.toList.all dg by
          rw [numOk_eq s most hpos, decide_eq_true h1]
          have : (decide (1 < s.size) && s[0] == 48) = false := by
            rw [Bool.eq_false_iff]; intro hc; simp at hc; exact h2 hc
          rw [this]; simp)
        rw [HN.out]
        cases ha : s.data.toList.all dg
        · rw [ha] at HE
          clear ha h1
          by_cases h3 : 1 < s.size
          · have hd1 : decide ((1 : Int) < (s.size : Int)) = true := by simp; omega
            have hd2 : ((s[0].toNat : Int) == 48) = false := by
              rw [beq_eq_false_iff_ne]; intro hc; exact h2 ⟨h3, by apply UInt8.toNat_inj.1; show s[0].toNat = 48; omega⟩
            clear h2 h3
            go_enter Tryd.func80, Tryd.ntmps80
            go_wp2_with (go_at_call 69; refine (HE.out _).mono ?_; rintro e w' ⟨rfl, rfl⟩)
            go_ret2
            exact ⟨rfl, Below.refl _ _⟩
          · have hd1 : decide ((1 : Int) < (s.size : Int)) = false := by simp; omega
            clear h2 h3
            go_enter Tryd.func80, Tryd.ntmps80
            go_wp2_with (go_at_call 69; refine (HE.out _).mono ?_; rintro e w' ⟨rfl, rfl⟩)
            go_ret2
            exact ⟨rfl, Below.refl _ _⟩
        · obtain ⟨n, hn⟩ := digs_atoi (ne_nil s hpos) ha
          have HA := Lib.hid (fun W => atoi_any s n (by omega) hn W)
          rw [if_pos rfl, show numV s.data.toList = n by unfold numV; rw [hn]; rfl]
          rw [ha] at HE
          clear ha h1 hn
          by_cases h3 : 1 < s.size
          · have hd1 : decide ((1 : Int) < (s.size : Int)) = true := by simp; omega
            have hd2 : ((s[0].toNat : Int) == 48) = false := by
              rw [beq_eq_false_iff_ne]; intro hc; exact h2 ⟨h3, by apply UInt8.toNat_inj.1; show s[0].toNat = 48; omega⟩
            clear h2 h3
            go_enter Tryd.func80, Tryd.ntmps80
            go_wp2_with (first
              | (go_at_call 69; refine (HE.out _).mono ?_; rintro e w' ⟨rfl, rfl⟩)
              | (go_at_call 102; refine (HA.out _).mono ?_; rintro e w1 ⟨rfl, hb⟩))
            go_quiet (fail)
            go_wp2_with fail
            go_ret2
            exact ⟨rfl, below_drewE hb _⟩
          · have hd1 : decide ((1 : Int) < (s.size : Int)) = false := by simp; omega
            clear h2 h3
            go_enter Tryd.func80, Tryd.ntmps80
            go_wp2_with (first
              | (go_at_call 69; refine (HE.out _).mono ?_; rintro e w' ⟨rfl, rfl⟩)
              | (go_at_call 102; refine (HA.out _).mono ?_; rintro e w1 ⟨rfl, hb⟩))
            go_quiet (fail)
            go_wp2_with fail
            go_ret2
            exact ⟨rfl, below_drewE hb _⟩
    · have hd : decide ((most : Int) < (s.size : Int)) = true := by simp; omega
      have hdn : decide (most < s.size) = true := by simp; omega
      rw [show numOk most s.data.toList = false by rw [numOk_eq s most hpos, decide_eq_false h1]; rfl]
      clear h1
      go_enter Tryd.func80, Tryd.ntmps80
      go_wp2_with fail
      go_ret2
      exact ⟨rfl, Below.refl _ _⟩
end Go.Proofs.YtnpnoohnkbpokaaDoor

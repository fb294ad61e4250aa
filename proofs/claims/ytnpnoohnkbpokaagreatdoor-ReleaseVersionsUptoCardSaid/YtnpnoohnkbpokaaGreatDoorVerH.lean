/- Parts and rows of parts, in the reference. -/
import Derived.Test.YtnpnoohnkbpokaaGreatDoorVerG
namespace Go.Proofs.YtnpnoohnkbpokaaGreatDoor
open Go.RowKit Go.Lib Go.Shelf

theorem all_dg_al {l : List UInt8} (h : l.all dg = true) : l.all al = true := by
  rw [List.all_eq_true] at h ⊢
  intro c hc
  have := h c hc
  unfold al; rw [this, Bool.or_true]
theorem numOk_dg {most : Nat} {l : List UInt8} (h : numOk most l = true) : l.all dg = true := by
  unfold numOk at h; simp only [Bool.and_eq_true] at h; exact h.2

set_option maxHeartbeats 1000000 in
set_option maxRecDepth 100000 in
theorem partOk_any (s : ByteArray) (w : World) (hs : s.size ≤ 1048576) :
    Calls Tryz.prog 22 #[.string s] w fun e w' => e = .returned (.bool (partB s.data.toList)) ∧ Below w.heap.size w w' := by
  by_cases h0 : s.size = 0
  · have hz : (s.toList == ([] : List UInt8)) = true := by rw [eqEmpty_eq]; simp [h0]
    have hz2 : s.toList.isEmpty = true := by rw [isEmpty_eq]; simp [h0]
    rw [show partB s.data.toList = false by rw [is_nil s h0]; rfl]
    clear h0
    go_enter Tryz.func22, Tryz.ntmps22
    go_wp2_with fail
    go_ret
    exact ⟨rfl, Below.refl _ _⟩
  · have hz : (s.toList == ([] : List UInt8)) = false := by rw [eqEmpty_eq]; simp [h0]
    have hz2 : s.toList.isEmpty = false := by rw [isEmpty_eq]; simp [h0]
    clear h0
    cases ha : s.data.toList.all al
    · have hd : s.data.toList.all dg = false := by
        rw [Bool.eq_false_iff]; intro h; rw [all_dg_al h] at ha; cases ha
      have HT := Lib.hid (fun W => trim_miss s setA al W hs (by decide) (by decide) setA_eq ha)
      rw [show partB s.data.toList = false by unfold partB; rw [hd, ha]; rfl]
      clear ha hd
      go_enter Tryz.func22, Tryz.ntmps22
      go_wp2_with (go_at_call 50; refine (HT.out _).mono ?_; rintro e w1 ⟨⟨a, l, rfl⟩, hb⟩)
      go_ret
      exact ⟨rfl, hb⟩
    · have HT := Lib.hid (fun W => trim_hit s setA al W hs (by decide) (by decide) setA_eq ha)
      have HW := Lib.hid (fun W => whole_any s 6 W (by omega) hs)
      cases hn : numOk 6 s.data.toList
      · rw [hn] at HW
        cases hd : s.data.toList.all dg
        · have HD := Lib.hid (fun W => trim_miss s setD dg W hs (by decide) (by decide) setD_eq hd)
          rw [show partB s.data.toList = true by unfold partB; rw [hd, ha]; rfl]
          clear ha hd hn
          go_enter Tryz.func22, Tryz.ntmps22
          go_wp2_with (first
            | (go_at_call 50; (with_reducible refine (HT.out _).mono ?_); rintro e w1 ⟨rfl, hb⟩)
            | (go_at_call 51; refine (HW.out _).mono ?_; rintro e w2 ⟨rfl, hb2⟩)
            | (go_at_call 50; (with_reducible refine (HD.out _).mono ?_); rintro e w3 ⟨⟨a, l, rfl⟩, hb3⟩))
          go_ret
          exact ⟨rfl, below_keep (below_keep hb (Nat.le_refl _) hb2) (Nat.le_refl _) hb3⟩
        · have HD := Lib.hid (fun W => trim_hit s setD dg W hs (by decide) (by decide) setD_eq hd)
          rw [show partB s.data.toList = false by unfold partB; rw [hd, if_pos rfl, hn]]
          clear ha hd hn
          go_enter Tryz.func22, Tryz.ntmps22
          go_wp2_with (first
            | (go_at_call 50; (with_reducible refine (HT.out _).mono ?_); rintro e w1 ⟨rfl, hb⟩)
            | (go_at_call 51; refine (HW.out _).mono ?_; rintro e w2 ⟨rfl, hb2⟩)
            | (go_at_call 50; (with_reducible refine (HD.out _).mono ?_); rintro e w3 ⟨rfl, hb3⟩))
          go_ret
          exact ⟨rfl, below_keep (below_keep hb (Nat.le_refl _) hb2) (Nat.le_refl _) hb3⟩
      · rw [hn] at HW
        rw [show partB s.data.toList = true by unfold partB; rw [numOk_dg hn, if_pos rfl, hn]]
        clear ha hn
        go_enter Tryz.func22, Tryz.ntmps22
        go_wp2_with (first
          | (go_at_call 50; (with_reducible refine (HT.out _).mono ?_); rintro e w1 ⟨rfl, hb⟩)
          | (go_at_call 51; refine (HW.out _).mono ?_; rintro e w2 ⟨rfl, hb2⟩))
        go_ret
        exact ⟨rfl, below_keep hb (Nat.le_refl _) hb2⟩

set_option maxHeartbeats 1000000 in
set_option maxRecDepth 100000 in
theorem partNumberR_any (s : ByteArray) (w : World) (hs : s.size ≤ 1048576) :
    Calls Tryz.prog 28 #[.string s] w fun e w' => e = .returned (.tuple #[.int .i64 (pnV s.data.toList), .bool (pnOk s.data.toList)]) ∧ Below w.heap.size w w' := by
  unfold pnV
  by_cases h0 : s.size = 0
  · have hz : (s.toList == ([] : List UInt8)) = true := by rw [eqEmpty_eq]; simp [h0]
    have hz2 : s.toList.isEmpty = true := by rw [isEmpty_eq]; simp [h0]
    rw [show pnOk s.data.toList = false by unfold pnOk; rw [is_nil s h0]; rfl]
    clear h0
    go_enter Tryz.func28, Tryz.ntmps28
    go_wp2_with fail
    go_ret2
    exact ⟨rfl, Below.refl _ _⟩
  · have hz : (s.toList == ([] : List UInt8)) = false := by rw [eqEmpty_eq]; simp [h0]
    have hz2 : s.toList.isEmpty = false := by rw [isEmpty_eq]; simp [h0]
    have hpos : 0 < s.size := by omega
    clear h0
    rw [pnOk_eq s hpos]
    by_cases h1 : s.size ≤ 6
    · have hd : decide ((6 : Int) < (s.size : Int)) = false := by simp; omega
      rw [decide_eq_true h1, Bool.true_and]
      cases ha : s.data.toList.all dg
      · have HT := Lib.hid (fun W => trim_miss s setD dg W hs (by decide) (by decide) setD_eq ha)
        clear ha h1
        go_enter Tryz.func28, Tryz.ntmps28
        go_wp2_with (go_at_call 50; refine (HT.out _).mono ?_; rintro e w1 ⟨⟨a, l, rfl⟩, hb⟩)
        go_ret2
        exact ⟨rfl, hb⟩
      · have HT := Lib.hid (fun W => trim_hit s setD dg W hs (by decide) (by decide) setD_eq ha)
        obtain ⟨n, hn⟩ := digs_atoi (ne_nil s hpos) ha
        have HA := Lib.hid (fun W => atoi_any s n (by omega) hn W)
        rw [if_pos rfl, show numV s.data.toList = n by unfold numV; rw [hn]; rfl]
        clear ha h1 hn
        go_enter Tryz.func28, Tryz.ntmps28
        go_wp2_with (first
          | (go_at_call 50; refine (HT.out _).mono ?_; rintro e w1 ⟨rfl, hb⟩)
          | (go_at_call 55; refine (HA.out _).mono ?_; rintro e w2 ⟨rfl, hb2⟩))
        go_quiet (fail)
        go_wp2_with fail
        go_ret2
        exact ⟨rfl, below_drewE (below_keep hb (Nat.le_refl _) hb2) _⟩
    · have hd : decide ((6 : Int) < (s.size : Int)) = true := by simp; omega
      rw [decide_eq_false h1, Bool.false_and]
      clear h1
      go_enter Tryz.func28, Tryz.ntmps28
      go_wp2_with fail
      go_ret2
      exact ⟨rfl, Below.refl _ _⟩

set_option maxHeartbeats 1000000 in
theorem notPart21_any (s : ByteArray) (w : World) (hs : s.size ≤ 1048576) :
    Calls Tryz.prog 21 #[.string s] w fun e w' => e = .returned (.bool (!partB s.data.toList)) ∧ Below w.heap.size w w' := by
  have HP := Lib.hid (fun W => partOk_any s W hs)
  generalize partB s.data.toList = b at *
  cases b
  all_goals
    go_enter Tryz.func21, Tryz.ntmps21
    go_wp2_with (go_at_call 22; refine (HP.out _).mono ?_; rintro e w1 ⟨rfl, hb⟩)
    go_ret
    exact ⟨rfl, hb⟩

set_option maxHeartbeats 2000000 in
set_option maxRecDepth 100000 in
theorem indexF21 (v : Value) (l : List ByteArray) (w : World) (h : SlG encS 1 fitP w v l) :
    Calls Tryz.prog 40 #[v, .func (.func 21) #[] #[]] w fun e w' => idxOf l e ∧ Below w.heap.size w w' := by
  obtain ⟨p, cap, rfl, h1, h2, hf, h4⟩ := h
  unfold maxLen at h2
  go_enter Tryz.func40, Tryz.ntmps40
  go_wp2_with fail
  go_loopw [8] (fun v wr => ∃ k : Nat, v = .int .i64 k ∧ k ≤ l.length ∧ anyBad (l.take k) = false ∧ Below w.heap.size w wr) (fun v _ => l.length - (RowKit.intOf v).toNat)
  case atStart => exact ⟨0, rfl, Nat.zero_le _, rfl, Below.refl _ _⟩
  case round =>
    obtain ⟨k, rfl, hk, hno, hbw⟩ := hrel
    have HNO := Lib.hid hno
    clear hno
    by_cases hlt : k < l.length
    · rcases h4 with rfl | ⟨b, off, rfl, hb, hat⟩
      · simp at hlt
      have c0 := (hbw.cell (p := ⟨b, _, none⟩) hb).trans (hat.str hlt)
      have hx : l[k].size ≤ 1048576 := hf _ (List.getElem_mem hlt)
      have HC := Lib.hid (fun W => notPart21_any l[k] W hx)
      have HT := Lib.hid (show anyBad (l.take (k + 1)) = !partB l[k].data.toList by
        rw [List.take_succ_eq_append_getElem hlt]
        unfold anyBad
        rw [List.any_append]
        have := HNO.out
        unfold anyBad at this
        rw [this]; simp)
      have HS := Lib.hid (show partB l[k].data.toList = false → anyBad l = true by
        intro hp
        unfold anyBad
        rw [List.any_eq_true]
        exact ⟨l[k], List.getElem_mem hlt, by rw [hp]; rfl⟩)
      generalize l[k] = x at *
      cases hp : partB x.data.toList
      · have HS2 := Lib.hid (HS.out hp)
        rw [hp] at HC
        clear hp HS HT hf hat
        go_wp2_with (go_at_call 21; refine (HC.out _).mono ?_; rintro e w1 ⟨rfl, hb1⟩)
        go_ret
        exact ⟨⟨k, rfl, by rw [HS2.out]; simp⟩, below_call hbw hbw.size hb1⟩
      · rw [hp] at HC HT
        clear hp HS hf hat
        go_wp2_with (go_at_call 21; refine (HC.out _).mono ?_; rintro e w1 ⟨rfl, hb1⟩)
        exact ⟨⟨k + 1, rfl, hlt, HT.out, below_call hbw hbw.size hb1⟩, by simp [RowKit.intOf]; omega⟩
    · have HL := Lib.hid (show anyBad l = false by
        have := HNO.out
        rwa [List.take_of_length_le (by omega)] at this)
      go_wp2_with fail
      go_ret
      exact ⟨⟨-1, rfl, by rw [HL.out]; rfl⟩, hbw⟩

set_option maxHeartbeats 1000000 in
theorem containsF21 (v : Value) (l : List ByteArray) (w : World) (h : SlG encS 1 fitP w v l) :
    Calls Tryz.prog 15 #[v, .func (.func 21) #[] #[]] w fun e w' => e = .returned (.bool (anyBad l)) ∧ Below w.heap.size w w' := by
  have HI := Lib.hid (indexF21 v l w h)
  obtain ⟨p, cap, rfl, _⟩ := h
  go_enter Tryz.func15, Tryz.ntmps15
  go_wp2_with (go_at_call 40; refine HI.out.mono ?_; rintro e w1 ⟨⟨n, rfl, hn⟩, hb⟩; have HN := Lib.hid hn; clear hn)
  go_ret
  exact ⟨ret_bool HN.out, hb⟩
set_option maxHeartbeats 1000000 in
theorem notPart36_any (s : ByteArray) (w : World) (hs : s.size ≤ 1048576) :
    Calls Tryz.prog 36 #[.string s] w fun e w' => e = .returned (.bool (!partB s.data.toList)) ∧ Below w.heap.size w w' := by
  have HP := Lib.hid (fun W => partOk_any s W hs)
  generalize partB s.data.toList = b at *
  cases b
  all_goals
    go_enter Tryz.func36, Tryz.ntmps36
    go_wp2_with (go_at_call 22; refine (HP.out _).mono ?_; rintro e w1 ⟨rfl, hb⟩)
    go_ret
    exact ⟨rfl, hb⟩

set_option maxHeartbeats 2000000 in
set_option maxRecDepth 100000 in
theorem indexF36 (v : Value) (l : List ByteArray) (w : World) (h : SlG encS 1 fitP w v l) :
    Calls Tryz.prog 40 #[v, .func (.func 36) #[] #[]] w fun e w' => idxOf l e ∧ Below w.heap.size w w' := by
  obtain ⟨p, cap, rfl, h1, h2, hf, h4⟩ := h
  unfold maxLen at h2
  go_enter Tryz.func40, Tryz.ntmps40
  go_wp2_with fail
  go_loopw [8] (fun v wr => ∃ k : Nat, v = .int .i64 k ∧ k ≤ l.length ∧ anyBad (l.take k) = false ∧ Below w.heap.size w wr) (fun v _ => l.length - (RowKit.intOf v).toNat)
  case atStart => exact ⟨0, rfl, Nat.zero_le _, rfl, Below.refl _ _⟩
  case round =>
    obtain ⟨k, rfl, hk, hno, hbw⟩ := hrel
    have HNO := Lib.hid hno
    clear hno
    by_cases hlt : k < l.length
    · rcases h4 with rfl | ⟨b, off, rfl, hb, hat⟩
      · simp at hlt
      have c0 := (hbw.cell (p := ⟨b, _, none⟩) hb).trans (hat.str hlt)
      have hx : l[k].size ≤ 1048576 := hf _ (List.getElem_mem hlt)
      have HC := Lib.hid (fun W => notPart36_any l[k] W hx)
      have HT := Lib.hid (show anyBad (l.take (k + 1)) = !partB l[k].data.toList by
        rw [List.take_succ_eq_append_getElem hlt]
        unfold anyBad
        rw [List.any_append]
        have := HNO.out
        unfold anyBad at this
        rw [this]; simp)
      have HS := Lib.hid (show partB l[k].data.toList = false → anyBad l = true by
        intro hp
        unfold anyBad
        rw [List.any_eq_true]
        exact ⟨l[k], List.getElem_mem hlt, by rw [hp]; rfl⟩)
      generalize l[k] = x at *
      cases hp : partB x.data.toList
      · have HS2 := Lib.hid (HS.out hp)
        rw [hp] at HC
        clear hp HS HT hf hat
        go_wp2_with (go_at_call 36; refine (HC.out _).mono ?_; rintro e w1 ⟨rfl, hb1⟩)
        go_ret
        exact ⟨⟨k, rfl, by rw [HS2.out]; simp⟩, below_call hbw hbw.size hb1⟩
      · rw [hp] at HC HT
        clear hp HS hf hat
        go_wp2_with (go_at_call 36; refine (HC.out _).mono ?_; rintro e w1 ⟨rfl, hb1⟩)
        exact ⟨⟨k + 1, rfl, hlt, HT.out, below_call hbw hbw.size hb1⟩, by simp [RowKit.intOf]; omega⟩
    · have HL := Lib.hid (show anyBad l = false by
        have := HNO.out
        rwa [List.take_of_length_le (by omega)] at this)
      go_wp2_with fail
      go_ret
      exact ⟨⟨-1, rfl, by rw [HL.out]; rfl⟩, hbw⟩

set_option maxHeartbeats 1000000 in
theorem containsF36 (v : Value) (l : List ByteArray) (w : World) (h : SlG encS 1 fitP w v l) :
    Calls Tryz.prog 15 #[v, .func (.func 36) #[] #[]] w fun e w' => e = .returned (.bool (anyBad l)) ∧ Below w.heap.size w w' := by
  have HI := Lib.hid (indexF36 v l w h)
  obtain ⟨p, cap, rfl, _⟩ := h
  go_enter Tryz.func15, Tryz.ntmps15
  go_wp2_with (go_at_call 40; refine HI.out.mono ?_; rintro e w1 ⟨⟨n, rfl, hn⟩, hb⟩; have HN := Lib.hid hn; clear hn)
  go_ret
  exact ⟨ret_bool HN.out, hb⟩
end Go.Proofs.YtnpnoohnkbpokaaGreatDoor

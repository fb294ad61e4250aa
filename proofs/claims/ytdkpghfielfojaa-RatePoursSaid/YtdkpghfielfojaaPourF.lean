/- What Pour, take, Take and Wait answer. -/
import Derived.Test.YtdkpghfielfojaaPourE
namespace Go.Proofs.Ytdkpghfielfojaa
open Go.RowKit Go.Lib

theorem Two.set {w W : World} {S A E h t r : Int} (x : Two w W S A E h t r) {B o : Nat} (hB : w.heap.size + 1 < B) (v : Value) : Two w (W.setCell ⟨B, o, none⟩ v) S A E h t r := by
  have hb : ∀ k, k < w.heap.size + 2 → (W.setCell ⟨B, o, none⟩ v).heap[k]? = W.heap[k]? := fun k hk => ((Below.refl (w.heap.size + 2) W).setCell (p := ⟨B, o, none⟩) (by show w.heap.size + 2 ≤ B; omega) v).block k hk
  exact ⟨x.b.of (hb _ (by omega)), x.l.of (hb _ (by omega)), x.bw.setCell (p := ⟨B, o, none⟩) (by show w.heap.size ≤ B; omega) v⟩
/-- The level that Pour answers. -/
def pourV (S A E h t r n : Int) : Value := if pourErr S A E h t r n = 0 then .agg #[.int .i64 (pourH S A E h t r n), .int .i64 n, .int .i64 (pourR E t r n)] else .agg #[.int .i64 0, .int .i64 0, .int .i64 0]

/-- The three blocks: the two boxes and the result. -/
theorem three_new (w : World) (S A E h t r : Int) : Two w (((w.alloc (.cells #[.int .i64 S, .int .i64 A, .int .i64 E] 44)).alloc (.cells #[.int .i64 h, .int .i64 t, .int .i64 r] 46)).alloc (.cells #[.int .i64 0, .int .i64 0, .int .i64 0] 46)) S A E h t r ∧
    Bx3 (((w.alloc (.cells #[.int .i64 S, .int .i64 A, .int .i64 E] 44)).alloc (.cells #[.int .i64 h, .int .i64 t, .int .i64 r] 46)).alloc (.cells #[.int .i64 0, .int .i64 0, .int .i64 0] 46)) (w.heap.size + 1 + 1) (.int .i64 0) (.int .i64 0) (.int .i64 0) := by
  refine ⟨(Two.new w S A E h t r).alloc _, ?_⟩
  have hZ := Bx3.new ((w.alloc (.cells #[.int .i64 S, .int .i64 A, .int .i64 E] 44)).alloc (.cells #[.int .i64 h, .int .i64 t, .int .i64 r] 46)) (.int .i64 0) (.int .i64 0) (.int .i64 0) 46
  rwa [show ((w.alloc (.cells #[.int .i64 S, .int .i64 A, .int .i64 E] 44)).alloc (.cells #[.int .i64 h, .int .i64 t, .int .i64 r] 46)).heap.size = w.heap.size + 1 + 1 by simp] at hZ

set_option maxHeartbeats 1000000 in
set_option maxRecDepth 100000 in
theorem Pour_any (S A E h t r n : Int) (w : World) : Calls Try.prog 17 #[.agg #[.int .i64 S, .int .i64 A, .int .i64 E], .agg #[.int .i64 h, .int .i64 t, .int .i64 r], .int .i64 n] w fun e w' => e = .returned (.tuple #[pourV S A E h t r n, .int .i64 (pourErr S A E h t r n)]) ∧ Below w.heap.size w w' := by
  have HC := Lib.hid (fun W => checkPour_any S A E h t r n W)
  have HP := Lib.hid (fun W he => pour_any S A E h t r n W he)
  have HT := Lib.hid (three_new w S A E h t r)
  unfold pourV
  by_cases hb : pourErr S A E h t r n = 0
  · have HP2 := Lib.hid (fun W => HP.out W hb)
    rw [if_pos hb]
    rw [hb] at HC ⊢
    clear hb HP
    generalize pourH S A E h t r n = x at *
    generalize pourR E t r n = y at *
    go_enter Try.func17, Try.ntmps17
    go_wp2_with (first
      | (go_at_call 33; (with_reducible refine (HC.out _).mono ?_); rintro e w1 ⟨rfl, hb1⟩; have HT1 := Lib.hid (HT.out.1.below hb1); have HZ1 := Lib.hid (HT.out.2.below hb1); obtain ⟨k0, k1, k2, _, _, _⟩ := HT1.out.b; obtain ⟨l0, l1, l2, _, _, _⟩ := HT1.out.l)
      | (go_at_call 34; (with_reducible refine (HP2.out _).mono ?_); rintro e w2 ⟨rfl, hb2⟩; have HT2 := Lib.hid (HT1.out.below hb2); have HZ2 := Lib.hid (HZ1.out.below hb2); obtain ⟨q0, q1, q2, f0, f1, f2⟩ := HZ2.out))
    refine bodyPost_ret (results_two rfl _ _ _ rfl rfl (HZ2.out.all _ _ _)) rfl ?_
    exact ⟨rfl, set3_below HT2.out.bw (by omega) _ _ _⟩
  · rw [if_neg hb]
    generalize pourErr S A E h t r n = b at *
    clear HP
    go_enter Try.func17, Try.ntmps17
    go_wp2_with (go_at_call 33; (with_reducible refine (HC.out _).mono ?_); rintro e w1 ⟨rfl, hb1⟩; have HT1 := Lib.hid (HT.out.1.below hb1); have HZ1 := Lib.hid (HT.out.2.below hb1); obtain ⟨q0, q1, q2, f0, f1, f2⟩ := HZ1.out)
    refine bodyPost_ret (results_two rfl _ _ _ rfl rfl (HZ1.out.all _ _ _)) rfl ?_
    exact ⟨rfl, set3_below HT1.out.bw (by omega) _ _ _⟩

set_option maxHeartbeats 1000000 in
set_option maxRecDepth 100000 in
theorem take_any (S A E h t r n m : Int) (w : World) (hl : pourErr S A E h t r n = 0) (hm : 0 ≤ m) (hm2 : m ≤ 1000000000) : Calls Try.prog 37 #[.agg #[.int .i64 S, .int .i64 A, .int .i64 E], .agg #[.int .i64 h, .int .i64 t, .int .i64 r], .int .i64 n, .int .i64 m] w
    fun e w' => (∃ v0 v1 v2, e = .returned (.tuple #[.agg #[.int .i64 v0, .int .i64 v1, .int .i64 v2], .bool (decide (m ≤ pourH S A E h t r n))])) ∧ Below w.heap.size w w' := by
  have HP := Lib.hid (fun W => pour_any S A E h t r n W hl)
  have HT := Lib.hid (three_new w S A E h t r)
  have hx : pourH S A E h t r n ≤ 1000000000 := by
    have := (lvl_ok (pour_ok hl).1).1.1.2
    unfold pourH; omega
  generalize pourH S A E h t r n = x at *
  generalize pourR E t r n = y at *
  by_cases hlt : x < m
  · rw [decide_eq_false (by omega)]
    clear hl hm hm2 hx
    go_enter Try.func37, Try.ntmps37
    go_wp2_with (go_at_call 34; (with_reducible refine (HP.out _).mono ?_); rintro e w1 ⟨rfl, hb1⟩; have HT1 := Lib.hid (HT.out.1.below hb1); have HZ1 := Lib.hid (HT.out.2.below hb1); have hl1 := (HT.out.2.below hb1).lt; obtain ⟨q0, q1, q2, f0, f1, f2⟩ := HT.out.2.below hb1)
    refine bodyPost_ret (results_two rfl _ _ _ rfl rfl ((HZ1.out.all _ _ _).alloc _)) rfl ?_
    have hB := set3_below HT1.out.bw (B := w.heap.size + 1 + 1) (by omega)
    exact ⟨⟨_, _, _, rfl⟩, (hB _ _ _).alloc (hB _ _ _).size _⟩
  · rw [decide_eq_true (by omega)]
    have hw : IntKind.i64.wrap (x - m) = x - m := IntWalk.i64_in _ ⟨by omega, by omega⟩
    clear hl hm hm2 hx
    go_enter Try.func37, Try.ntmps37
    go_wp2_with (go_at_call 34; (with_reducible refine (HP.out _).mono ?_); rintro e w1 ⟨rfl, hb1⟩; have HT1 := Lib.hid (HT.out.1.below hb1); have HZ1 := Lib.hid (HT.out.2.below hb1); have hl1 := (HT.out.2.below hb1).lt; obtain ⟨q0, q1, q2, f0, f1, f2⟩ := HT.out.2.below hb1)
    refine bodyPost_ret (results_two rfl _ _ _ rfl rfl ((HZ1.out.all _ _ _).alloc _)) rfl ?_
    have hB := set3_below HT1.out.bw (B := w.heap.size + 1 + 1) (by omega)
    exact ⟨⟨_, _, _, rfl⟩, (hB _ _ _).alloc (hB _ _ _).size _⟩

theorem four_new (w : World) (S A E h t r : Int) : Two w (((w.alloc (.cells #[.int .i64 S, .int .i64 A, .int .i64 E] 44)).alloc (.cells #[.int .i64 h, .int .i64 t, .int .i64 r] 46)).alloc (.cells #[.int .i64 0, .int .i64 0, .int .i64 0] 46)) S A E h t r := (three_new w S A E h t r).1
/-- The error of Take. -/
def takeErr (S A E h t r n m : Int) : Int := if pourErr S A E h t r n = 0 then (if wi m 0 1000000000 then 0 else 2) else pourErr S A E h t r n
/-- What Take answers to the question. -/
def takeIs (S A E h t r n m : Int) : Bool := if takeErr S A E h t r n m = 0 then decide (m ≤ pourH S A E h t r n) else false

set_option maxHeartbeats 1000000 in
set_option maxRecDepth 100000 in
theorem Take_any (S A E h t r n m : Int) (w : World) : Calls Try.prog 19 #[.agg #[.int .i64 S, .int .i64 A, .int .i64 E], .agg #[.int .i64 h, .int .i64 t, .int .i64 r], .int .i64 n, .int .i64 m] w
    fun e w' => (∃ v0 v1 v2, e = .returned (.tuple #[.agg #[.int .i64 v0, .int .i64 v1, .int .i64 v2], .bool (takeIs S A E h t r n m), .int .i64 (takeErr S A E h t r n m)])) ∧ Below w.heap.size w w' := by
  have HC := Lib.hid (fun W => checkPour_any S A E h t r n W)
  have HW := Lib.hid (fun W => within_any m 0 1000000000 W)
  have HP := Lib.hid (fun W he h0 h1 => take_any S A E h t r n m W he h0 h1)
  have HT := Lib.hid (three_new w S A E h t r)
  unfold takeIs takeErr
  by_cases hb : pourErr S A E h t r n = 0
  · rw [if_pos hb]
    by_cases hm : wi m 0 1000000000 = true
    · have HP2 := Lib.hid (fun W => HP.out W hb (by unfold wi at hm; have := of_decide_eq_true hm; omega) (by unfold wi at hm; have := of_decide_eq_true hm; omega))
      rw [if_pos hm, if_pos rfl]
      rw [hb] at HC
      rw [hm] at HW
      clear hb hm HP
      generalize decide (m ≤ pourH S A E h t r n) = d at *
      go_enter Try.func19, Try.ntmps19
      go_wp2_with (first
        | (go_at_call 33; (with_reducible refine (HC.out _).mono ?_); rintro e w1 ⟨rfl, hb1⟩; have HT1 := Lib.hid (HT.out.1.below hb1); have HZ1 := Lib.hid (HT.out.2.below hb1); obtain ⟨k0, k1, k2, _, _, _⟩ := HT1.out.b; obtain ⟨l0, l1, l2, _, _, _⟩ := HT1.out.l)
        | (go_at_call 22; (with_reducible refine (HW.out _).mono ?_); rintro e w2 ⟨rfl, rfl⟩)
        | (go_at_call 37; (with_reducible refine (HP2.out _).mono ?_); rintro e w3 ⟨⟨v0, v1, v2, rfl⟩, hb3⟩; have HT3 := Lib.hid (HT1.out.below hb3); have HZ3 := Lib.hid (HZ1.out.below hb3); have hl3 := HZ3.out.lt; obtain ⟨q0, q1, q2, f0, f1, f2⟩ := HZ3.out))
      refine bodyPost_ret (results_three rfl _ _ _ rfl rfl rfl ((HZ3.out.all _ _ _).alloc _)) rfl ?_
      have hB := set3_below HT3.out.bw (B := w.heap.size + 1 + 1) (by omega)
      exact ⟨⟨_, _, _, rfl⟩, (hB _ _ _).alloc (hB _ _ _).size _⟩
    · rw [if_neg hm, if_neg (by decide)]
      rw [hb] at HC
      rw [Bool.not_eq_true] at hm
      rw [hm] at HW
      clear hb hm HP
      go_enter Try.func19, Try.ntmps19
      go_wp2_with (first
        | (go_at_call 33; (with_reducible refine (HC.out _).mono ?_); rintro e w1 ⟨rfl, hb1⟩; have HT1 := Lib.hid (HT.out.1.below hb1); have HZ1 := Lib.hid (HT.out.2.below hb1); obtain ⟨q0, q1, q2, f0, f1, f2⟩ := HZ1.out)
        | (go_at_call 22; (with_reducible refine (HW.out _).mono ?_); rintro e w2 ⟨rfl, rfl⟩))
      refine bodyPost_ret (results_three rfl _ _ _ rfl rfl rfl (HZ1.out.all _ _ _)) rfl ?_
      exact ⟨⟨_, _, _, rfl⟩, set3_below HT1.out.bw (by omega) _ _ _⟩
  · rw [if_neg hb, if_neg hb]
    generalize pourErr S A E h t r n = b at *
    clear HP
    go_enter Try.func19, Try.ntmps19
    go_wp2_with (go_at_call 33; (with_reducible refine (HC.out _).mono ?_); rintro e w1 ⟨rfl, hb1⟩; have HT1 := Lib.hid (HT.out.1.below hb1); have HZ1 := Lib.hid (HT.out.2.below hb1); obtain ⟨q0, q1, q2, f0, f1, f2⟩ := HZ1.out)
    refine bodyPost_ret (results_three rfl _ _ _ rfl rfl rfl (HZ1.out.all _ _ _)) rfl ?_
    exact ⟨⟨_, _, _, rfl⟩, set3_below HT1.out.bw (by omega) _ _ _⟩

/-- The error of Wait. -/
def waitErr (S A E h t r n : Int) : Int := if lvlErr S A E h t r = 0 then (if wi n 0 1000000000 then (if S < n then 7 else if 3155759999 - t < waitV A E h r n then 12 else 0) else 2) else lvlErr S A E h t r
set_option maxHeartbeats 1000000 in
set_option maxRecDepth 100000 in
theorem Wait_any (S A E h t r n : Int) (w : World) : Calls Try.prog 18 #[.agg #[.int .i64 S, .int .i64 A, .int .i64 E], .agg #[.int .i64 h, .int .i64 t, .int .i64 r], .int .i64 n] w
    fun e w' => e = .returned (.tuple #[.int .i64 (if waitErr S A E h t r n = 0 then waitV A E h r n else 0), .int .i64 (waitErr S A E h t r n)]) ∧ Below w.heap.size w w' := by
  have HC := Lib.hid (fun W => checkLevel_any S A E h t r W)
  have HW := Lib.hid (fun W => within_any n 0 1000000000 W)
  have HP := Lib.hid (fun W he hn => wait_any S A E h t r n W he hn)
  have HT := Lib.hid (Two.new w S A E h t r)
  by_cases hb : lvlErr S A E h t r = 0
  · have hlv := lvl_ok hb
    rw [hb] at HC
    by_cases hm : wi n 0 1000000000 = true
    · rw [hm] at HW
      by_cases hs : S < n
      · have hX : waitErr S A E h t r n = 7 := by unfold waitErr; rw [if_pos hb, if_pos hm, if_pos hs]
        rw [hX, if_neg (by decide)]
        clear hb hm hX HP hlv
        go_enter Try.func18, Try.ntmps18
        go_wp2_with (first
          | (go_at_call 35; (with_reducible refine (HC.out _).mono ?_); rintro e w1 ⟨rfl, hb1⟩; have HT1 := Lib.hid (HT.out.below hb1); obtain ⟨k0, k1, k2, _, _, _⟩ := HT1.out.b; obtain ⟨l0, l1, l2, _, _, _⟩ := HT1.out.l)
          | (go_at_call 22; (with_reducible refine (HW.out _).mono ?_); rintro e w2 ⟨rfl, rfl⟩))
        go_ret2
        exact ⟨rfl, HT1.out.bw⟩
      · have HP2 := Lib.hid (fun W => HP.out W hb (by omega))
        have hw : IntKind.i64.wrap (3155759999 - t) = 3155759999 - t := IntWalk.i64_in _ ⟨by omega, by omega⟩
        have hw2 : wrap64 (3155759999 - t) = 3155759999 - t := by unfold wrap64; omega
        by_cases ho : 3155759999 - t < waitV A E h r n
        · have hX : waitErr S A E h t r n = 12 := by unfold waitErr; rw [if_pos hb, if_pos hm, if_neg hs, if_pos ho]
          rw [hX, if_neg (by decide)]
          generalize waitV A E h r n = v at *
          clear hb hm hX HP hlv
          go_enter Try.func18, Try.ntmps18
          go_wp2_with (first
            | (go_at_call 35; (with_reducible refine (HC.out _).mono ?_); rintro e w1 ⟨rfl, hb1⟩; have HT1 := Lib.hid (HT.out.below hb1); obtain ⟨k0, k1, k2, _, _, _⟩ := HT1.out.b; obtain ⟨l0, l1, l2, _, _, _⟩ := HT1.out.l)
            | (go_at_call 22; (with_reducible refine (HW.out _).mono ?_); rintro e w2 ⟨rfl, rfl⟩)
            | (go_at_call 36; (with_reducible refine (HP2.out _).mono ?_); rintro e w3 ⟨rfl, hb3⟩; have HT3 := Lib.hid (HT1.out.below hb3); obtain ⟨m0, m1, m2, _, _, _⟩ := HT3.out.b; obtain ⟨o0, o1, o2, _, _, _⟩ := HT3.out.l))
          go_ret2
          exact ⟨rfl, HT3.out.bw⟩
        · have hX : waitErr S A E h t r n = 0 := by unfold waitErr; rw [if_pos hb, if_pos hm, if_neg hs, if_neg ho]
          rw [hX, if_pos rfl]
          generalize waitV A E h r n = v at *
          clear hb hm hX HP hlv
          go_enter Try.func18, Try.ntmps18
          go_wp2_with (first
            | (go_at_call 35; (with_reducible refine (HC.out _).mono ?_); rintro e w1 ⟨rfl, hb1⟩; have HT1 := Lib.hid (HT.out.below hb1); obtain ⟨k0, k1, k2, _, _, _⟩ := HT1.out.b; obtain ⟨l0, l1, l2, _, _, _⟩ := HT1.out.l)
            | (go_at_call 22; (with_reducible refine (HW.out _).mono ?_); rintro e w2 ⟨rfl, rfl⟩)
            | (go_at_call 36; (with_reducible refine (HP2.out _).mono ?_); rintro e w3 ⟨rfl, hb3⟩; have HT3 := Lib.hid (HT1.out.below hb3); obtain ⟨m0, m1, m2, _, _, _⟩ := HT3.out.b; obtain ⟨o0, o1, o2, _, _, _⟩ := HT3.out.l))
          go_ret2
          exact ⟨rfl, HT3.out.bw⟩
    · have hX : waitErr S A E h t r n = 2 := by unfold waitErr; rw [if_pos hb, if_neg hm]
      rw [hX, if_neg (by decide)]
      rw [Bool.not_eq_true] at hm
      rw [hm] at HW
      clear hb hm hX HP hlv
      go_enter Try.func18, Try.ntmps18
      go_wp2_with (first
        | (go_at_call 35; (with_reducible refine (HC.out _).mono ?_); rintro e w1 ⟨rfl, hb1⟩; have HT1 := Lib.hid (HT.out.below hb1); obtain ⟨k0, k1, k2, _, _, _⟩ := HT1.out.b; obtain ⟨l0, l1, l2, _, _, _⟩ := HT1.out.l)
        | (go_at_call 22; (with_reducible refine (HW.out _).mono ?_); rintro e w2 ⟨rfl, rfl⟩))
      go_ret2
      exact ⟨rfl, HT1.out.bw⟩
  · have hX : waitErr S A E h t r n = lvlErr S A E h t r := by unfold waitErr; rw [if_neg hb]
    rw [hX, if_neg hb]
    generalize lvlErr S A E h t r = b at *
    clear hX HP
    go_enter Try.func18, Try.ntmps18
    go_wp2_with (first
      | (go_at_call 35; (with_reducible refine (HC.out _).mono ?_); rintro e w1 ⟨rfl, hb1⟩; have HT1 := Lib.hid (HT.out.below hb1); obtain ⟨k0, k1, k2, _, _, _⟩ := HT1.out.b; obtain ⟨l0, l1, l2, _, _, _⟩ := HT1.out.l))
    go_ret2
    exact ⟨rfl, HT1.out.bw⟩
end Go.Proofs.Ytdkpghfielfojaa

/- What the reference's writers of rules answer; the law GroupRules. -/
import Derived.Test.YtooilpblbkgloaaDoorRuleH
import Derived.Test.YtooilpblbkgloaaDoorRuleC
namespace Go.Proofs.YtooilpblbkgloaaDoor
open Go.RowKit Go.Lib Go.Deep

set_option maxHeartbeats 1000000 in
theorem told_any (n : Int) (w : World) (h0 : 0 ≤ n) (h1 : n ≤ 1000) :
    Calls Tryd.prog 50 #[.int .i64 n] w fun e w' => e = .returned (.string (bs (digs n))) ∧ Below w.heap.size w w' := by
  have HB := Lib.hid (inBase_any n.toNat w (by omega))
  rw [show ((n.toNat : Nat) : Int) = n by omega] at HB
  rw [show Lib.decDigits n.toNat = digs n from rfl] at HB
  go_enter Tryd.func50, Tryd.ntmps50
  go_wp2_with (go_at_call 65; refine HB.out.mono ?_; rintro e w1 ⟨rfl, hb1⟩)
  go_ret
  exact ⟨rfl, hb1⟩

theorem mWord_len (on : Int) : (mWord on).length ≤ 6 := by
  unfold mWord
  (repeat' split) <;> simp
theorem bs_nil_app (a : List UInt8) : (⟨#[]⟩ : ByteArray) ++ bs a = bs a := app_bs [] a

/-- What stands behind a round: the box, the heap's size, and what was there. -/
theorem ruleString_round {w wr w1 w3 : World} {o : Obj} {x v2 v : Value} {n : Nat} {xs : List Value} {P : Prop} (hbw : Below w.heap.size w wr) (hb1 : Below (wr.alloc o).heap.size (wr.alloc o) w1) (hown2 : (w1.alloc (.cells #[x] 9)).ownsRow (w.heap.size + 1) 9 1 v n xs)
    (hgrow : (w1.alloc (.cells #[x] 9)).grownBy w3 v.ownBlock) (hs1 : (wr.alloc o).heap.size ≤ w1.heap.size) (hbox : (wr.alloc o).cell? ⟨w.heap.size, 1, none⟩ = some v2) (hsz : w.heap.size < wr.heap.size)
    (h : w3.cell? ⟨w.heap.size, 1, none⟩ = some v2 → w.heap.size < w3.heap.size → Below w.heap.size w w3 → P) : P := by
  have hs1' : wr.heap.size + 1 ≤ w1.heap.size := by simpa using hs1
  have hbX := below_grown (((hbw.alloc hbw.size _).trans (hb1.mono (by simp; omega))).alloc (by omega) (.cells #[x] 9)) hgrow (fun k hk => by have := own_base hown2 k hk; omega) (by simp; omega)
  have d1 : w1.cell? ⟨w.heap.size, 1, none⟩ = some v2 := (hb1.cell (p := ⟨w.heap.size, 1, none⟩) (by simp; omega)).trans hbox
  have d2 : (w1.alloc (.cells #[x] 9)).cell? ⟨w.heap.size, 1, none⟩ = some v2 := by rw [World.cell?_alloc_lt _ _ _ (show w.heap.size < w1.heap.size by omega)]; exact d1
  refine h (hgrow.cell d2 (fun h => by have := own_base hown2 _ h.symm; simp at this; omega)) ?_ hbX
  have := hgrow.size; simp at this; omega

theorem ruleString_round2 {w wr w1 w3 : World} {o : Obj} {x v : Value} {n : Nat} {xs : List Value} {P : Prop} (hbw : Below w.heap.size w wr) (hb1 : Below (wr.alloc o).heap.size (wr.alloc o) w1) (hown2 : (w1.alloc (.cells #[x] 9)).ownsRow (w.heap.size + 1) 9 1 v n xs)
    (hgrow : (w1.alloc (.cells #[x] 9)).grownBy w3 v.ownBlock) (hs1 : (wr.alloc o).heap.size ≤ w1.heap.size) (h : Below w.heap.size w w3 → P) : P := by
  have hs1' : wr.heap.size + 1 ≤ w1.heap.size := by simpa using hs1
  have hws := hbw.size
  exact h (below_grown (((hbw.alloc hws _).trans (hb1.mono (by simp; omega))).alloc (by omega) (.cells #[x] 9)) hgrow (fun k hk => by have := own_base hown2 k hk; omega) (by simp; omega))

set_option maxHeartbeats 4000000 in
set_option maxRecDepth 100000 in
theorem ruleString_any (r : Ru) (v1 v2 : Value) (w : World) (h : RuV w v1 v2 r) (hf : ruErr r = 0) :
    Calls Tryd.prog 26 #[.agg #[v1, v2]] w fun e w' => e = .returned (.string (bs (rText r))) ∧ Below w.heap.size w w' := by
  obtain ⟨i0, hi, hz0, hz1, hz2⟩ := info_parts infoS
  obtain ⟨hw1, hw2, hw3⟩ := rWords_len hf
  have HJL := Lib.hid (join_len (sep := [32]) hw3)
  obtain ⟨hl1, hl2, he1, he2⟩ := ruErr_fit hf
  obtain ⟨ms, ts⟩ := r
  obtain ⟨⟨p1, c1, rfl, hn1, hm1, hf1, h1⟩, ⟨p2, c2, rfl, hn2, hm2, hf2, h2⟩⟩ := h
  simp only at hn1 hn2 hf1 hf2 h1 h2 hl1 hl2 he1 he2 ⊢
  unfold maxLen at hm1 hm2
  obtain ⟨n1, e1⟩ : ∃ n, n = ms.length := ⟨_, rfl⟩
  obtain ⟨n2, e2⟩ : ∃ n, n = ts.length := ⟨_, rfl⟩
  rw [← e1] at hl1 hn1
  rw [← e2] at hl2 hn2
  rw [← e1, ← e2]
  have E1 := Lib.hid e1
  have E2 := Lib.hid e2
  have H1 := Lib.hid h1
  have H2 := Lib.hid h2
  have HW2 := Lib.hid hw1
  clear e1 e2 h1 h2 hw1 hw2 hw3
  go_enter Tryd.func26, Tryd.ntmps26
  go_wp2_with fail
  go_loopw [3, 13] (fun v3 v wr => ∃ k : Nat, v = .int .i64 k ∧ k ≤ n1 ∧ wr.ownsRow (w.heap.size + 1) 9 1 v3 k (sv ((ms.take k).map mText)) ∧ wr.cell? ⟨w.heap.size, 1, none⟩ = some (.slice p2 n2 c2) ∧ w.heap.size < wr.heap.size ∧ Below w.heap.size w wr) (fun _ v _ => n1 - (RowKit.intOf v).toNat)
  case atStart => exact ⟨0, rfl, Nat.zero_le _, World.ownsRow_nil _ _ _ _, by go_simp, by simp, (Below.refl _ _).alloc (Nat.le_refl _) _⟩
  case round =>
    obtain ⟨k, rfl, hk, hown, hbox, hsz, hbw⟩ := hrel
    by_cases hlt : k < n1
    · have hkl : k < ms.length := by rw [← E1.out]; exact hlt
      obtain ⟨b, off, rfl, hb, hc⟩ : ∃ b off, p1 = some ⟨b, off, none⟩ ∧ b < w.heap.size ∧ AtG encM 3 w b off ms := by
        rcases H1.out with h | h
        · rw [h] at hkl; simp at hkl
        · exact h
      obtain ⟨q0, q1, q2⟩ := hc.mat hkl
      have q0 := (hbw.cell (p := ⟨b, _, none⟩) hb).trans q0
      have q1 := (hbw.cell (p := ⟨b, _, none⟩) hb).trans q1
      have q2 := (hbw.cell (p := ⟨b, _, none⟩) hb).trans q2
      have HT := Lib.hid (show (ms.take (k + 1)).map mText = (ms.take k).map mText ++ [mText ms[k]] by rw [List.take_succ_eq_append_getElem hkl, List.map_append]; rfl)
      have hme := he1 _ (List.getElem_mem hkl)
      clear hc
      generalize ms[k] = m at *
      obtain ⟨f1, f2, f3⟩ := mErr_fit hme
      obtain ⟨on, nt, gl⟩ := m
      simp only at f1 f2 f3 q0 q1 q2
      obtain ⟨T, hT⟩ : ∃ T, T = mText ⟨on, nt, gl⟩ := ⟨_, rfl⟩
      rw [← hT] at HT
      have HTX := Lib.hid (show bs T = bs ((if nt then [33] else []) ++ mWord on ++ (if on = 6 then [] else 58 :: qt gl)) by rw [hT]; rfl)
      clear hT
      have HMW := Lib.hid (fun W => matchWord_any on W f1 f2)
      have HQ := Lib.hid (fun W => quoted_any gl W (by omega))
      have hzw : (bs (mWord on)).size ≤ 6 := by rw [bs_size]; exact mWord_len on
      have hzq : (bs (qt gl)).size ≤ 202 := by rw [bs_size]; have := qt_len gl; omega
      have s33 : (⟨#[33]⟩ : ByteArray).size = 1 := rfl
      have s58 : (⟨#[58]⟩ : ByteArray).size = 1 := rfl
      have s0 : (⟨#[]⟩ : ByteArray).size = 0 := rfl
      have hw6 : ∀ x, (on == 6) = x → (on != 6) = !x := fun x h => bne_of h
      have hws := hbw.size
      have hboxa := Lib.hid (fun o => show (wr.alloc o).cell? ⟨w.heap.size, 1, none⟩ = some (.slice p2 n2 c2) by rw [World.cell?_alloc_lt _ _ _ hsz]; exact hbox)
      -- GEN1
      have HQ2 := Lib.hid (show ∀ W, Calls Tryd.prog 48 #[.string gl] W fun e w' => e = .returned (.string (bs (qt gl))) ∧ W = w' from fun W => (HQ.out W).mono fun e w' h => ⟨h.1, h.2.symm⟩)
      cases h6 : (on == 6)
      · have g6 := hw6 _ h6
        have H6 := Lib.hid h6
        clear hw6
        cases nt
        · have HXT := Lib.hid (show (⟨#[]⟩ ++ bs (mWord on) ++ (⟨#[58]⟩ ++ bs (qt gl)) : ByteArray) = bs T by
            have e6 := H6.out
            simp only [beq_eq_false_iff_ne] at e6
            rw [HTX.out, if_neg e6]
            rw [show (⟨#[]⟩ ++ bs (mWord on) : ByteArray) = bs (mWord on) from bs_nil_app (mWord on), show (⟨#[58]⟩ ++ bs (qt gl) : ByteArray) = bs ([58] ++ qt gl) from app_bs [58] _, app_bs]
            simp)
          go_wp2_with (first
            | (go_at_call 47; refine (HMW.out _).mono ?_; rintro e' w1 ⟨rfl, hb1⟩; have m0 := (hb1.cell (p := ⟨wr.heap.size, 0, none⟩) (by simp)).trans (show World.cell? _ _ = some (.int .i64 on) by go_simp); have m2 := (hb1.cell (p := ⟨wr.heap.size, 2, none⟩) (by simp)).trans (show World.cell? _ _ = some (.string gl) by go_simp); have hown2 := (own_keeps (hown.alloc _) hb1).alloc (.cells #[.string (⟨#[]⟩ ++ bs (mWord on) ++ (⟨#[58]⟩ ++ bs (qt gl)))] 9); have hs1 := hb1.size)
            | (go_at_call 48; refine (HQ2.out _).mono ?_; rintro e' w2 ⟨rfl, rfl⟩)
            | (at_builtin; refine wpList_append_own _ rfl _ _ 71 rfl (w.heap.size + 1) 9 i0 (.string ⟨#[]⟩) 1 16 Tryd.underlying71 hi hz0 hz1 hz2 rfl (by decide) _ _ _ rfl hown2 ⟨w1.heap.size, 0, none⟩ 1 1 [.string (⟨#[]⟩ ++ bs (mWord on) ++ (⟨#[58]⟩ ++ bs (qt gl)))] rfl rfl (cell_new w1 _ 9) (one_cell _) (by unfold maxLen; omega) (by omega) (by simp at hs1 ⊢; omega) ?_; intro v' w3 hown3 hgrow _))
          rw [HXT.out] at hown3 hown2 hgrow
          exact ruleString_round hbw hb1 hown2 hgrow hs1 (hboxa.out _) hsz (fun hbox3 hsz3 hbX => ⟨⟨k + 1, rfl, hlt, by rw [HT.out, sv_snoc]; exact hown3, hbox3, hsz3, hbX⟩, by simp [RowKit.intOf]; omega⟩)
        · have HXT := Lib.hid (show (⟨#[33]⟩ ++ bs (mWord on) ++ (⟨#[58]⟩ ++ bs (qt gl)) : ByteArray) = bs T by
            have e6 := H6.out
            simp only [beq_eq_false_iff_ne] at e6
            rw [HTX.out, if_neg e6]
            rw [show (⟨#[33]⟩ ++ bs (mWord on) : ByteArray) = bs ([33] ++ mWord on) from app_bs [33] (mWord on), show (⟨#[58]⟩ ++ bs (qt gl) : ByteArray) = bs ([58] ++ qt gl) from app_bs [58] _, app_bs]
            simp)
          go_wp2_with (first
            | (go_at_call 47; refine (HMW.out _).mono ?_; rintro e' w1 ⟨rfl, hb1⟩; have m0 := (hb1.cell (p := ⟨wr.heap.size, 0, none⟩) (by simp)).trans (show World.cell? _ _ = some (.int .i64 on) by go_simp); have m2 := (hb1.cell (p := ⟨wr.heap.size, 2, none⟩) (by simp)).trans (show World.cell? _ _ = some (.string gl) by go_simp); have hown2 := (own_keeps (hown.alloc _) hb1).alloc (.cells #[.string (⟨#[33]⟩ ++ bs (mWord on) ++ (⟨#[58]⟩ ++ bs (qt gl)))] 9); have hs1 := hb1.size)
            | (go_at_call 48; refine (HQ2.out _).mono ?_; rintro e' w2 ⟨rfl, rfl⟩)
            | (at_builtin; refine wpList_append_own _ rfl _ _ 71 rfl (w.heap.size + 1) 9 i0 (.string ⟨#[]⟩) 1 16 Tryd.underlying71 hi hz0 hz1 hz2 rfl (by decide) _ _ _ rfl hown2 ⟨w1.heap.size, 0, none⟩ 1 1 [.string (⟨#[33]⟩ ++ bs (mWord on) ++ (⟨#[58]⟩ ++ bs (qt gl)))] rfl rfl (cell_new w1 _ 9) (one_cell _) (by unfold maxLen; omega) (by omega) (by simp at hs1 ⊢; omega) ?_; intro v' w3 hown3 hgrow _))
          rw [HXT.out] at hown3 hown2 hgrow
          exact ruleString_round hbw hb1 hown2 hgrow hs1 (hboxa.out _) hsz (fun hbox3 hsz3 hbX => ⟨⟨k + 1, rfl, hlt, by rw [HT.out, sv_snoc]; exact hown3, hbox3, hsz3, hbX⟩, by simp [RowKit.intOf]; omega⟩)
      · have g6 := hw6 _ h6
        have H6 := Lib.hid h6
        clear hw6
        cases nt
        · have HXT := Lib.hid (show (⟨#[]⟩ ++ bs (mWord on) : ByteArray) = bs T by
            have e6 := H6.out
            simp only [beq_iff_eq] at e6
            rw [HTX.out, if_pos e6]
            rw [show (⟨#[]⟩ ++ bs (mWord on) : ByteArray) = bs (mWord on) from bs_nil_app (mWord on)]
            simp)
          go_wp2_with (first
            | (go_at_call 47; refine (HMW.out _).mono ?_; rintro e' w1 ⟨rfl, hb1⟩; have m0 := (hb1.cell (p := ⟨wr.heap.size, 0, none⟩) (by simp)).trans (show World.cell? _ _ = some (.int .i64 on) by go_simp); have m2 := (hb1.cell (p := ⟨wr.heap.size, 2, none⟩) (by simp)).trans (show World.cell? _ _ = some (.string gl) by go_simp); have hown2 := (own_keeps (hown.alloc _) hb1).alloc (.cells #[.string (⟨#[]⟩ ++ bs (mWord on))] 9); have hs1 := hb1.size)
            | (go_at_call 48; refine (HQ2.out _).mono ?_; rintro e' w2 ⟨rfl, rfl⟩)
            | (at_builtin; refine wpList_append_own _ rfl _ _ 71 rfl (w.heap.size + 1) 9 i0 (.string ⟨#[]⟩) 1 16 Tryd.underlying71 hi hz0 hz1 hz2 rfl (by decide) _ _ _ rfl hown2 ⟨w1.heap.size, 0, none⟩ 1 1 [.string (⟨#[]⟩ ++ bs (mWord on))] rfl rfl (cell_new w1 _ 9) (one_cell _) (by unfold maxLen; omega) (by omega) (by simp at hs1 ⊢; omega) ?_; intro v' w3 hown3 hgrow _))
          rw [HXT.out] at hown3 hown2 hgrow
          exact ruleString_round hbw hb1 hown2 hgrow hs1 (hboxa.out _) hsz (fun hbox3 hsz3 hbX => ⟨⟨k + 1, rfl, hlt, by rw [HT.out, sv_snoc]; exact hown3, hbox3, hsz3, hbX⟩, by simp [RowKit.intOf]; omega⟩)
        · have HXT := Lib.hid (show (⟨#[33]⟩ ++ bs (mWord on) : ByteArray) = bs T by
            have e6 := H6.out
            simp only [beq_iff_eq] at e6
            rw [HTX.out, if_pos e6]
            rw [show (⟨#[33]⟩ ++ bs (mWord on) : ByteArray) = bs ([33] ++ mWord on) from app_bs [33] (mWord on)]
            simp)
          go_wp2_with (first
            | (go_at_call 47; refine (HMW.out _).mono ?_; rintro e' w1 ⟨rfl, hb1⟩; have m0 := (hb1.cell (p := ⟨wr.heap.size, 0, none⟩) (by simp)).trans (show World.cell? _ _ = some (.int .i64 on) by go_simp); have m2 := (hb1.cell (p := ⟨wr.heap.size, 2, none⟩) (by simp)).trans (show World.cell? _ _ = some (.string gl) by go_simp); have hown2 := (own_keeps (hown.alloc _) hb1).alloc (.cells #[.string (⟨#[33]⟩ ++ bs (mWord on))] 9); have hs1 := hb1.size)
            | (go_at_call 48; refine (HQ2.out _).mono ?_; rintro e' w2 ⟨rfl, rfl⟩)
            | (at_builtin; refine wpList_append_own _ rfl _ _ 71 rfl (w.heap.size + 1) 9 i0 (.string ⟨#[]⟩) 1 16 Tryd.underlying71 hi hz0 hz1 hz2 rfl (by decide) _ _ _ rfl hown2 ⟨w1.heap.size, 0, none⟩ 1 1 [.string (⟨#[33]⟩ ++ bs (mWord on))] rfl rfl (cell_new w1 _ 9) (one_cell _) (by unfold maxLen; omega) (by omega) (by simp at hs1 ⊢; omega) ?_; intro v' w3 hown3 hgrow _))
          rw [HXT.out] at hown3 hown2 hgrow
          exact ruleString_round hbw hb1 hown2 hgrow hs1 (hboxa.out _) hsz (fun hbox3 hsz3 hbX => ⟨⟨k + 1, rfl, hlt, by rw [HT.out, sv_snoc]; exact hown3, hbox3, hsz3, hbX⟩, by simp [RowKit.intOf]; omega⟩)
    · have HT := Lib.hid (show (ms.take k).map mText = ms.map mText by rw [List.take_of_length_le (by rw [← E1.out]; omega)])
      have hown2 := hown.alloc (.cells #[.string ⟨#[45, 62]⟩] 9)
      have hboxa : (wr.alloc (.cells #[.string ⟨#[45, 62]⟩] 9)).cell? ⟨w.heap.size, 1, none⟩ = some (.slice p2 n2 c2) := by rw [World.cell?_alloc_lt _ _ _ hsz]; exact hbox
      have HB := Lib.hid hboxa
      have HBW := Lib.hid hbw
      have hws := hbw.size
      clear hboxa
      go_wp2_with (at_builtin; refine wpList_append_own _ rfl _ _ 71 rfl (w.heap.size + 1) 9 i0 (.string ⟨#[]⟩) 1 16 Tryd.underlying71 hi hz0 hz1 hz2 rfl (by decide) _ _ _ rfl hown2 ⟨wr.heap.size, 0, none⟩ 1 1 [.string ⟨#[45, 62]⟩] rfl rfl (cell_new wr _ 9) (one_cell _) (by unfold maxLen; omega) (by omega) (by simp; omega) ?_; intro v' w3 hown3 hgrow _; have hbox3 := hgrow.cell HB.out (fun h => by have := own_base hown2 _ h.symm; simp at this; omega))
      have hbX := below_grown (HBW.out.alloc hws (.cells #[.string ⟨#[45, 62]⟩] 9)) hgrow (fun k hk => by have := own_base hown2 k hk; omega) (by simp; omega)
      have hownS : w3.ownsRow (w.heap.size + 1) 9 1 v' (k + 1) (sv (ms.map mText ++ [[45, 62]])) := by rw [sv_snoc, ← HT.out]; exact hown3
      clear hown3 hgrow hown hown2 hbox
      have hkn : k = n1 := by omega
      subst hkn
      clear hbox3 HB HBW hbw hsz hws HT hlt hk
      go_loopw [3, 44] (fun v3 v wr => ∃ i : Nat, v = .int .i64 i ∧ i ≤ n2 ∧ wr.ownsRow (w.heap.size + 1) 9 1 v3 (k + 1 + i) (sv (ms.map mText ++ [[45, 62]] ++ (ts.take i).map aText)) ∧ Below w.heap.size w wr) (fun _ v _ => n2 - (RowKit.intOf v).toNat)
      case atStart => exact ⟨0, rfl, Nat.zero_le _, by rw [List.take_zero, List.map_nil, List.append_nil]; exact hownS, hbX⟩
      clear hownS hbX
      obtain ⟨i, rfl, hi2, hown, hbw⟩ := hrel
      by_cases hlt : i < n2
      · have hil : i < ts.length := by rw [← E2.out]; exact hlt
        obtain ⟨b, off, rfl, hb, hc⟩ : ∃ b off, p2 = some ⟨b, off, none⟩ ∧ b < w.heap.size ∧ AtG encA 3 w b off ts := by
          rcases H2.out with h | h
          · rw [h] at hil; simp at hil
          · exact h
        obtain ⟨q0, q1, q2⟩ := hc.act hil
        have q0 := (hbw.cell (p := ⟨b, _, none⟩) hb).trans q0
        have q1 := (hbw.cell (p := ⟨b, _, none⟩) hb).trans q1
        have q2 := (hbw.cell (p := ⟨b, _, none⟩) hb).trans q2
        have HT := Lib.hid (show ms.map mText ++ [[45, 62]] ++ (ts.take (i + 1)).map aText = (ms.map mText ++ [[45, 62]] ++ (ts.take i).map aText) ++ [aText ts[i]] by
          rw [List.take_succ_eq_append_getElem hil, List.map_append, List.append_assoc]; simp)
        have hme := he2 _ (List.getElem_mem hil)
        clear hc
        generalize ts[i] = a at *
        obtain ⟨f1, f2, f3, f4⟩ := aErr_fit hme
        obtain ⟨d, n, t⟩ := a
        simp only at f1 f2 f3 f4 q0 q1 q2
        obtain ⟨T, hT⟩ : ∃ T, T = aText ⟨d, n, t⟩ := ⟨_, rfl⟩
        rw [← hT] at HT
        have HTX := Lib.hid (show bs T = bs (aWord d ++ (if d = 5 then digs n else if d = 6 then qt t else [])) by rw [hT]; rfl)
        clear hT
        have HMW := Lib.hid (fun W => actWord_any d W f1 f2)
        have HQ := Lib.hid (fun W => quoted_any t W (by omega))
        have HQ2 := Lib.hid (show ∀ W, Calls Tryd.prog 48 #[.string t] W fun e w' => e = .returned (.string (bs (qt t))) ∧ W = w' from fun W => (HQ.out W).mono fun e w' h => ⟨h.1, h.2.symm⟩)
        have HTD := Lib.hid (fun (h : d = 5) W => told_any n W (by have := f4 h; omega) (by have := f4 h; omega))
        have HZD := Lib.hid (fun (h : d = 5) => show (bs (digs n)).size ≤ 3 by rw [bs_size]; have := f4 h; exact digs_len (by omega) (by omega))
        have hzw : (bs (aWord d)).size ≤ 5 := by rw [bs_size]; exact aWord_len d
        have hzq : (bs (qt t)).size ≤ 202 := by rw [bs_size]; have := qt_len t; omega
        have hws := hbw.size
        clear f4
        cases h5 : (d == 5)
        · have H5 := Lib.hid h5
          cases h6 : (d == 6)
          · have H6 := Lib.hid h6
            have HXT := Lib.hid (show (bs (aWord d) : ByteArray) = bs T by
              have e5 := H5.out
              have e6 := H6.out
              simp only [beq_eq_false_iff_ne] at e5 e6
              rw [HTX.out, if_neg e5, if_neg e6, List.append_nil])
            go_wp2_with (first
              | (go_at_call 49; refine (HMW.out _).mono ?_; rintro e' w1 ⟨rfl, hb1⟩; have m0 := (hb1.cell (p := ⟨wr.heap.size, 0, none⟩) (by simp)).trans (show World.cell? _ _ = some (.int .i64 d) by go_simp); have m1 := (hb1.cell (p := ⟨wr.heap.size, 1, none⟩) (by simp)).trans (show World.cell? _ _ = some (.int .i64 n) by go_simp); have m2 := (hb1.cell (p := ⟨wr.heap.size, 2, none⟩) (by simp)).trans (show World.cell? _ _ = some (.string t) by go_simp); have hs1 := hb1.size; have hown2 := (own_keeps (hown.alloc _) hb1).alloc (.cells #[.string (bs (aWord d))] 9))
              | (go_at_call 48; refine (HQ2.out _).mono ?_; rintro e' w2 ⟨rfl, rfl⟩)
              | (at_builtin; refine wpList_append_own _ rfl _ _ 71 rfl (w.heap.size + 1) 9 i0 (.string ⟨#[]⟩) 1 16 Tryd.underlying71 hi hz0 hz1 hz2 rfl (by decide) _ _ _ rfl hown2 ⟨w1.heap.size, 0, none⟩ 1 1 [.string (bs (aWord d))] rfl rfl (cell_new w1 _ 9) (one_cell _) (by unfold maxLen; omega) (by omega) (by simp at hs1 ⊢; omega) ?_; intro v' w3 hown3 hgrow _))
            rw [HXT.out] at hown3 hown2 hgrow
            exact ruleString_round2 hbw hb1 hown2 hgrow hs1 (fun hbX => ⟨⟨i + 1, rfl, hlt, by rw [HT.out, sv_snoc]; exact hown3, hbX⟩, by simp [RowKit.intOf]; omega⟩)
          · have H6 := Lib.hid h6
            have HXT := Lib.hid (show (bs (aWord d) ++ bs (qt t) : ByteArray) = bs T by
              have e5 := H5.out
              have e6 := H6.out
              simp only [beq_iff_eq, beq_eq_false_iff_ne] at e5 e6
              rw [HTX.out, if_neg e5, if_pos e6, app_bs])
            go_wp2_with (first
              | (go_at_call 49; refine (HMW.out _).mono ?_; rintro e' w1 ⟨rfl, hb1⟩; have m0 := (hb1.cell (p := ⟨wr.heap.size, 0, none⟩) (by simp)).trans (show World.cell? _ _ = some (.int .i64 d) by go_simp); have m1 := (hb1.cell (p := ⟨wr.heap.size, 1, none⟩) (by simp)).trans (show World.cell? _ _ = some (.int .i64 n) by go_simp); have m2 := (hb1.cell (p := ⟨wr.heap.size, 2, none⟩) (by simp)).trans (show World.cell? _ _ = some (.string t) by go_simp); have hs1 := hb1.size; have hown2 := (own_keeps (hown.alloc _) hb1).alloc (.cells #[.string (bs (aWord d) ++ bs (qt t))] 9))
              | (go_at_call 48; refine (HQ2.out _).mono ?_; rintro e' w2 ⟨rfl, rfl⟩)
              | (at_builtin; refine wpList_append_own _ rfl _ _ 71 rfl (w.heap.size + 1) 9 i0 (.string ⟨#[]⟩) 1 16 Tryd.underlying71 hi hz0 hz1 hz2 rfl (by decide) _ _ _ rfl hown2 ⟨w1.heap.size, 0, none⟩ 1 1 [.string (bs (aWord d) ++ bs (qt t))] rfl rfl (cell_new w1 _ 9) (one_cell _) (by unfold maxLen; omega) (by omega) (by simp at hs1 ⊢; omega) ?_; intro v' w3 hown3 hgrow _))
            rw [HXT.out] at hown3 hown2 hgrow
            exact ruleString_round2 hbw hb1 hown2 hgrow hs1 (fun hbX => ⟨⟨i + 1, rfl, hlt, by rw [HT.out, sv_snoc]; exact hown3, hbX⟩, by simp [RowKit.intOf]; omega⟩)
        · have H5 := Lib.hid h5
          have e5 : d = 5 := by have := H5.out; simpa using this
          have HTD2 := Lib.hid (HTD.out e5)
          have hzd := HZD.out e5
          have HXT := Lib.hid (show (bs (aWord d) ++ bs (digs n) : ByteArray) = bs T by rw [HTX.out, if_pos e5, app_bs])
          clear e5
          go_wp2_with (first
            | (go_at_call 49; refine (HMW.out _).mono ?_; rintro e' w1 ⟨rfl, hb1⟩; have m0 := (hb1.cell (p := ⟨wr.heap.size, 0, none⟩) (by simp)).trans (show World.cell? _ _ = some (.int .i64 d) by go_simp); have m1 := (hb1.cell (p := ⟨wr.heap.size, 1, none⟩) (by simp)).trans (show World.cell? _ _ = some (.int .i64 n) by go_simp); have hs1 := hb1.size; have hown1 := own_keeps (hown.alloc _) hb1)
            | (go_at_call 50; refine (HTD2.out _).mono ?_; rintro e' w2 ⟨rfl, hb2⟩; have hs2 := hb2.size; have hown2 := (own_keeps hown1 hb2).alloc (.cells #[.string (bs (aWord d) ++ bs (digs n))] 9))
            | (at_builtin; refine wpList_append_own _ rfl _ _ 71 rfl (w.heap.size + 1) 9 i0 (.string ⟨#[]⟩) 1 16 Tryd.underlying71 hi hz0 hz1 hz2 rfl (by decide) _ _ _ rfl hown2 ⟨w2.heap.size, 0, none⟩ 1 1 [.string (bs (aWord d) ++ bs (digs n))] rfl rfl (cell_new w2 _ 9) (one_cell _) (by unfold maxLen; omega) (by omega) (by simp at hs1 hs2 ⊢; omega) ?_; intro v' w3 hown3 hgrow _))
          rw [HXT.out] at hown3 hown2 hgrow
          exact ruleString_round2 hbw (below_keep hb1 (Nat.le_refl _) hb2) hown2 hgrow (Nat.le_trans hs1 hs2) (fun hbX => ⟨⟨i + 1, rfl, hlt, by rw [HT.out, sv_snoc]; exact hown3, hbX⟩, by simp [RowKit.intOf]; omega⟩)
      · have HR := Lib.hid (show ms.map mText ++ [[45, 62]] ++ (ts.take i).map aText = rWords ⟨ms, ts⟩ by rw [List.take_of_length_le (by rw [← E2.out]; omega)]; rfl)
        rw [HR.out] at hown
        have hlen : k + 1 + i = ((rWords ⟨ms, ts⟩).map bs).length := by rw [List.length_map, ← HR.out]; simp [← E1.out]; rw [← E2.out]; omega
        obtain ⟨g, cap, rfl, hcap, hg1, hg2, hg3⟩ := own_slice hown (by omega)
        have HJ := Lib.hid (Tryd.strings_Join g 0 cap ((rWords ⟨ms, ts⟩).map bs) ⟨#[32]⟩ wr (fun j x hj => by
          rw [Nat.zero_add]
          apply hg3
          rw [List.getElem?_map] at hj
          obtain ⟨y, hy, rfl⟩ := Option.map_eq_some_iff.1 hj
          unfold sv
          rw [List.getElem?_map, hy]; rfl) hg2 (by rw [← hlen]; omega) (by rw [← hlen]; exact hcap) (by
          have h1 := HJL.out
          have h2 := HW2.out
          rw [List.map_map, show (fun x : ByteArray => x.data.toList) ∘ bs = id from rfl, List.map_id]
          have h3 := Nat.mul_le_mul_right 211 h2
          simp only [List.length_singleton] at h1
          show (Lib.join _ [32]).length ≤ _
          omega))
        rw [List.map_map, show (fun x : ByteArray => x.data.toList) ∘ bs = id from rfl, List.map_id, ← hlen] at HJ
        rw [show (⟨(Lib.join (rWords ⟨ms, ts⟩) (⟨#[32]⟩ : ByteArray).data.toList).toArray⟩ : ByteArray) = bs (rText ⟨ms, ts⟩) from rfl] at HJ
        clear hlen hown hg3
        go_wp2_with (go_at_call 43; refine HJ.out.mono ?_; rintro e' w1 ⟨rfl, hb1⟩)
        go_ret
        exact ⟨rfl, below_keep hbw (Nat.le_refl _) hb1⟩
end Go.Proofs.YtooilpblbkgloaaDoor

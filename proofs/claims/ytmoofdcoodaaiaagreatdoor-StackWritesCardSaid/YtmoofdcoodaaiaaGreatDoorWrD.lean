/- What writeOuter writes. -/
import Derived.Test.YtmoofdcoodaaiaaGreatDoorWrP
namespace Go.Proofs.YtmoofdcoodaaiaaGreatDoor
open Go.RowKit Go.Lib

theorem below_keep {B : Nat} {a w w' : World} (h : Below B a w) (hB : B ≤ a.heap.size) (hk : Below w.heap.size w w') : Below B a w' := h.trans (hk.mono (Nat.le_trans hB h.size))
theorem cell_drew {w : World} {p : Addr} {v : Value} (h : w.cell? p = some v) : w.drew.cell? p = some v := h
theorem isB_drew {T e : TypeId} {B b : Nat} {bs : List Value} {w : World} (h : Lib.IsBuilder T e B b bs w) : Lib.IsBuilder T e B b bs w.drew := isB_keeps h (Below.refl _ _).drew
theorem outFa_tx (T : List UInt8) (i : Nat) (f : Fa) : T ++ lnL [] tbL ++ tx ((f.fr.drop 0).reverse.map outLn) ++ lnL [] (headL f) ++ (if i = 0 then [] else lnL [] ledL) = T ++ tx (outFa i f) := by
  unfold outFa
  rw [tx_app, tx_app, tx_app, tx_one, tx_one, List.drop_zero]
  by_cases h : i = 0
  · rw [if_pos h, if_pos h]; simp [tx_nil]
  · rw [if_neg h, if_neg h, tx_one]; simp
theorem outTx_step (fr : List Fr) (j : Nat) (hj : j < fr.length) : tx ((fr.drop j).reverse.map outLn) = tx ((fr.drop (j + 1)).reverse.map outLn) ++ lnL [32, 32] (lineL fr[j]) := by
  rw [rev_take fr j hj, List.map_append, tx_app]
  congr 1
  show tx [outLn fr[j]] = _
  exact tx_lnL _ _
set_option maxHeartbeats 8000000 in
set_option maxRecDepth 100000 in
theorem writeOuter_any (v : Value) (l : List Fa) (B b : Nat) (w0 w : World) (hv : SlA w0 v l) (h0 : Below w0.heap.size w0 w) (hB : w0.heap.size ≤ B) (h : Lib.IsBuilder 49 5 B b (Lib.byteCells []) w) (hBw : B ≤ w.heap.size) (hok : fasErr l = 0) (he : EnvW w0) :
    Calls Tryz.prog 32 #[.pointer (some ⟨b, 0, none⟩), v] w fun e w' => e = .returned (.tuple #[]) ∧ Lib.IsBuilder 49 5 B b (Lib.byteCells (tx (outDn l l.length))) w' ∧ Below B w w' := by
  obtain ⟨hl10, hall⟩ := fas_ok hok
  have hbl := isB_lt h
  obtain ⟨p, cap, rfl, h1, h2, h3, h4⟩ := hv
  unfold maxLen at h2
  obtain ⟨n, hn⟩ : ∃ n, n = l.length := ⟨_, rfl⟩
  have HN := Lib.hid hn
  have HV := Lib.hid he
  rw [← hn] at h1 hl10 ⊢
  clear hn he hok
  go_enter Tryz.func32, Tryz.ntmps32
  go_wp2_with fail
  go_loopw [4] (fun v4 wr => ∃ (k : Nat) (c : Int) (T : List UInt8), k ≤ n ∧ v4 = .int .i64 c ∧ Hid (c = (k : Int) - 1) ∧ Hid (T = tx (outDn l (n - k))) ∧ T.length ≤ (n - k) * 200000 ∧ Lib.IsBuilder 49 5 B b (Lib.byteCells T) wr ∧ Below B w wr) (fun v4 _ => (RowKit.intOf v4 + 1).toNat)
  case atStart => exact ⟨n, _, [], Nat.le_refl _, rfl, Lib.hid (by go_num), Lib.hid (by rw [Nat.sub_self]; rfl), by simp, h, Below.refl _ _⟩
  case round =>
    obtain ⟨w2, rfl⟩ : ∃ w2 : World, w2 = wr := ⟨_, rfl⟩
    obtain ⟨k, c, T, hk, rfl, HC, HT, hTl, hIB, hbw⟩ := hrel
    have hBw2 := Nat.le_trans hBw hbw.size
    have hb02 : Below w0.heap.size w0 w2 := h0.trans (hbw.mono hB)
    by_cases hk0 : k = 0
    · have hc : c = -1 := by have := HC.out; omega
      subst hc
      have HE := Lib.hid (show T = tx (outDn l n) by rw [HT.out, hk0, Nat.sub_zero])
      clear hk0
      go_wp2_with fail
      go_end0
      exact ⟨rfl, by rw [← HE.out]; exact hIB, hbw⟩
    · obtain ⟨i, rfl⟩ : ∃ i, k = i + 1 := ⟨k - 1, by omega⟩
      have hc : c = (i : Int) := by have := HC.out; omega
      subst hc
      clear HC hk0
      have hil : i < n := by omega
      have hkl : i < l.length := by have := HN.out; omega
      rcases h4 with h4 | ⟨bb, off, rfl, hbb, hat⟩
      · rw [h4] at hkl; simp at hkl
      have hati := hat i hkl
      have hfo := hall _ (List.getElem_mem hkl)
      have hfk := h3 _ (List.getElem_mem hkl)
      have HTK := Lib.hid (outDn_succ l i hkl)
      have HFT := Lib.hid (outFa_tx T i l[i])
      generalize l[i] = f at *
      have hhl := headL_len hfo
      obtain ⟨kd, tv, fv, fr⟩ := f
      obtain ⟨hf1, hf2, hf3, hf4⟩ := hfo
      obtain ⟨-, -, hfv⟩ := hfk
      simp only at hf1 hf2 hf3 hf4 hfv
      obtain ⟨q, qc, rfl, hq1, hq2, -, hq4⟩ := hfv
      unfold maxLen at hq2
      clear hat hkl
      have hT2 : T.length ≤ 2000000 := by
        have : (n - (i + 1)) * 200000 ≤ 10 * 200000 := Nat.mul_le_mul_right _ (by omega)
        omega
      obtain ⟨nf, hnf⟩ : ∃ nf, nf = fr.length := ⟨_, rfl⟩
      have HNF := Lib.hid hnf
      have HAT := Lib.hid hati
      clear hati
      have HH := Lib.hid (fun W => headOf_any kd tv (.slice q fr.length qc) W hf1 hf2 ⟨_, _, _, rfl⟩)
      rw [← hnf] at hf3 hq1 HH
      have hc2 : ∀ W, Below w0.heap.size w0 W → W.cell? ⟨bb, off + i * 3 + 2, none⟩ = some (.slice q nf qc) := by
        intro W hW
        rw [hnf]
        exact (HAT.out.below hbb hW).2.2
      have HC2 := Lib.hid hc2
      clear hnf hc2
      go_wp2_with (go_at_call 50; (with_reducible refine (line_any B b T _ _ _ hIB (by rw [show (⟨#[]⟩ : ByteArray).size = 0 from rfl, show (⟨#[84, 114, 97, 99, 101, 98, 97, 99, 107, 58]⟩ : ByteArray).size = 10 from rfl]; omega) hBw2).mono ?_); rintro e w3 ⟨rfl, hIB3, hb3, hk3⟩; have hbw3 := hbw.trans hb3; have hb03 : Below w0.heap.size w0 w3 := h0.trans (hbw3.mono hB); have c2 := HC2.out w3 hb03)
      obtain ⟨T4, hT4e⟩ : ∃ T4, T4 = T ++ lnL [] tbL := ⟨_, rfl⟩
      have hT4 : T4.length ≤ (n - (i + 1)) * 200000 + 11 := by
        rw [hT4e, List.length_append, lnL_len]; simp [tbL]; omega
      have HT4 := Lib.hid hT4e
      have hIB4 : Lib.IsBuilder 49 5 B b (Lib.byteCells T4) w3 := by rw [hT4e]; exact hIB3
      clear hT4e hIB3 hk3 c2 hb3
      go_loopw [6] (fun v6 wr => ∃ (m : Nat) (c : Int) (S : List UInt8), m ≤ nf ∧ v6 = .int .i64 c ∧ Hid (c = (m : Int) - 1) ∧ Hid (S = T4 ++ tx ((fr.drop m).reverse.map outLn)) ∧ S.length ≤ (n - (i + 1)) * 200000 + 11 + (nf - m) * 700 ∧ Lib.IsBuilder 49 5 B b (Lib.byteCells S) wr ∧ Below B w wr) (fun v6 _ => (RowKit.intOf v6 + 1).toNat)
      case atStart => exact ⟨nf, _, T4, Nat.le_refl _, rfl, Lib.hid (by go_num), Lib.hid (by rw [HNF.out, List.drop_length]; exact (List.append_nil _).symm), by rw [Nat.sub_self]; exact hT4, hIB4, hbw3⟩
      case round =>
        obtain ⟨w5, rfl⟩ : ∃ w5 : World, w5 = wr := ⟨_, rfl⟩
        obtain ⟨m, c, S, hm, rfl, HC, HS, hSl, hIB5, hbw5⟩ := hrel
        have hBw5 := Nat.le_trans hBw hbw5.size
        have hb05 : Below w0.heap.size w0 w5 := h0.trans (hbw5.mono hB)
        have hS2 : S.length ≤ 3000000 := by
          have a1 : (n - (i + 1)) * 200000 ≤ 10 * 200000 := Nat.mul_le_mul_right _ (by omega)
          have a2 : (nf - m) * 700 ≤ 200 * 700 := Nat.mul_le_mul_right _ (by omega)
          omega
        by_cases hm0 : m = 0
        · have hc : c = -1 := by have := HC.out; omega
          subst hc
          subst hm0
          clear HC
          obtain ⟨c0, c1, -⟩ := HAT.out.below hbb hb05
          have c2 := HC2.out w5 hb05
          simp only at c0 c1
          have HHL := Lib.hid (show d (headB kd tv) = headL ⟨kd, tv, .slice q fr.length qc, fr⟩ from rfl)
          have hz0 : (⟨#[]⟩ : ByteArray).size = 0 := rfl
          have hz13 : (⟨#[119, 104, 105, 99, 104, 32, 108, 101, 100, 32, 116, 111, 58]⟩ : ByteArray).size = 13 := rfl
          have hhb : (headB kd tv).size ≤ 2202 := headB_len hf1 hf2
          have HS7 := Lib.hid (show S ++ lnL (⟨#[]⟩ : ByteArray).data.toList (headB kd tv).data.toList = T ++ lnL [] tbL ++ tx ((fr.drop 0).reverse.map outLn) ++ lnL [] (headL ⟨kd, tv, .slice q fr.length qc, fr⟩) by rw [HS.out, HT4.out]; rfl)
          have h8l := Lib.hid (show (S ++ lnL (⟨#[]⟩ : ByteArray).data.toList (headB kd tv).data.toList).length ≤ S.length + 2203 by
            rw [List.length_append]
            change _ + (lnL [] (d (headB kd tv))).length ≤ _
            rw [lnL_len, d_len]; simp; omega)
          by_cases hi0 : i = 0
          · have HI0 := Lib.hid hi0
            have hi1 : ¬ (0 : Int) < (i : Int) := by omega
            have hi2 : ((0 : Int) < (i : Int)) = False := by simp; omega
            clear hi0
            go_wp2_with (first
              | (go_at_call 51; (with_reducible refine (HH.out _).mono ?_); rintro e w6 ⟨rfl, hb6⟩; have hIB6 := isB_keeps hIB5 hb6; have hbw6 := below_call hbw5 (Nat.le_trans hBw hbw5.size) hb6)
              | (go_at_call 50; (with_reducible refine (line_any B b S ⟨#[]⟩ _ _ hIB6 (by omega) (Nat.le_trans hBw hbw6.size)).mono ?_); rintro e w7 ⟨rfl, hIB7, hb7, hk7⟩; have hbw7 := hbw6.trans hb7))
            have e7 := HS7.out
            have e8 := HFT.out
            have e9 := HTK.out
            try simp only at e8 e9
            rw [if_pos HI0.out, List.append_nil] at e8
            refine ⟨⟨i, _, _, by omega, rfl, Lib.hid (by go_num), Lib.hid ((e7.trans e8).trans ?_), ?_, hIB7, hbw7⟩, by simp [RowKit.intOf] <;> omega⟩
            · rw [HN.out, e9, tx_app, HT.out, HN.out]
            · have := h8l.out
              have q1 : n - i = (n - (i + 1)) + 1 := by omega
              have q2 : (n - i) * 200000 = (n - (i + 1)) * 200000 + 200000 := by rw [q1, Nat.add_mul]
              omega
          · have HI0 := Lib.hid hi0
            have hi1 : (0 : Int) < (i : Int) := by omega
            clear hi0
            go_wp2_with (first
              | (go_at_call 51; (with_reducible refine (HH.out _).mono ?_); rintro e w6 ⟨rfl, hb6⟩; have hIB6 := isB_keeps hIB5 hb6; have hbw6 := below_call hbw5 (Nat.le_trans hBw hbw5.size) hb6)
              | (go_at_call 50; (first
                  | ((with_reducible refine (line_any B b S ⟨#[]⟩ (headB kd tv) _ hIB6 (by omega) (Nat.le_trans hBw hbw6.size)).mono ?_); rintro e w7 ⟨rfl, hIB7, hb7, hk7⟩; have hbw7 := hbw6.trans hb7)
                  | ((with_reducible refine (line_any B b _ ⟨#[]⟩ ⟨#[119, 104, 105, 99, 104, 32, 108, 101, 100, 32, 116, 111, 58]⟩ _ hIB7 (by have := h8l.out; omega) (Nat.le_trans hBw hbw7.size)).mono ?_); rintro e w8 ⟨rfl, hIB8, hb8, hk8⟩; have hbw8 := hbw7.trans hb8))))
            have e7 := HS7.out
            have e8 := HFT.out
            have e9 := HTK.out
            try simp only at e8 e9
            rw [if_neg HI0.out] at e8
            refine ⟨⟨i, _, _, by omega, rfl, Lib.hid (by go_num), Lib.hid (?_ : _ = tx (outDn l (n - i))), ?_, hIB8, hbw8⟩, by simp [RowKit.intOf] <;> omega⟩
            · rw [e7]
              refine Eq.trans e8 ?_
              rw [HN.out, e9, tx_app, HT.out, HN.out]
            · have := h8l.out
              have q1 : n - i = (n - (i + 1)) + 1 := by omega
              have q2 : (n - i) * 200000 = (n - (i + 1)) * 200000 + 200000 := by rw [q1, Nat.add_mul]
              rw [List.length_append, lnL_len]
              simp only [List.length_nil, List.length_cons]
              omega
        · obtain ⟨j, rfl⟩ : ∃ j, m = j + 1 := ⟨m - 1, by omega⟩
          have hc : c = (j : Int) := by have := HC.out; omega
          subst hc
          clear HC hm0
          have jl : j < fr.length := by have := HNF.out; omega
          have hjl : j < nf := by omega
          rcases hq4 with hq4 | ⟨qb, qo, rfl, hqb, hqat⟩
          · rw [hq4] at jl; simp at jl
          obtain ⟨x0, x1, x2, x3, x4, x5⟩ := (hqat j jl).below hqb hb05
          have hxo := hf4 _ (List.getElem_mem jl)
          have HSK := Lib.hid (outTx_step fr j jl)
          generalize fr[j] = x at *
          clear hqat jl
          have HCALL := Lib.hid (fun W => callOf_any x W hxo)
          have HREST := Lib.hid (fun (W : World) (hW : Below w5.heap.size w5 W) => restOf_any x W hxo (HV.out.keep (h0.trans ((hbw5.trans (hW.mono hBw5)).mono hB))))
          have hcl := callB_len hxo
          have hrl := restB_len hxo
          have hqB : qb < B := by omega
          have hz2 : (⟨#[32, 32]⟩ : ByteArray).size = 2 := rfl
          have HLN := Lib.hid (fun (W : World) (hW : Below w5.heap.size w5 W) => line_any B b S ⟨#[32, 32]⟩ (callB x ++ restB x) W (isB_keeps hIB5 hW) (by rw [ByteArray.size_append]; omega) (Nat.le_trans hBw5 hW.size))
          have hm5 : Below w5.heap.size w5 w5 := Below.refl _ _
          have hsum : (9223372036854775807 < (callB x).size + (restB x).size) = False := by simp; omega
          go_wp2_with fail
          go_region_held3 (fun w' => w'.cell? ⟨qb, qo + j * 6, none⟩ = some (.string x.m) ∧ w'.cell? ⟨qb, qo + j * 6 + 1, none⟩ = some (.string x.f) ∧ w'.cell? ⟨qb, qo + j * 6 + 2, none⟩ = some (.string x.i) ∧ w'.cell? ⟨qb, qo + j * 6 + 3, none⟩ = some (.int .i64 x.line) ∧ w'.cell? ⟨qb, qo + j * 6 + 4, none⟩ = some (.int .i64 x.addr) ∧ w'.cell? ⟨qb, qo + j * 6 + 5, none⟩ = some (.bool x.own) ∧ Below B w w' ∧ (Below w5.heap.size w5 w' ∨ Lib.IsBuilder 49 5 B b (Lib.byteCells (S ++ lnL (⟨#[32, 32]⟩ : ByteArray).data.toList (callB x ++ restB x).data.toList)) w'))
            ((repeat' apply And.intro) <;> first | assumption | exact cell_drew (by assumption) | exact Below.drew (by assumption) | exact Or.inr (by assumption) | exact Or.inl (by assumption) | exact Or.inl (Below.drew (by assumption)))
            (first
              | (go_at_call 52; with_reducible refine (HCALL.out _).mono ?_; rintro e wX ⟨rfl, hbX⟩; have y0 : World.cell? _ ⟨qb, qo + j * 6, none⟩ = some (.string x.m) := cell_keep (by first | assumption | exact cell_drew (by assumption)) hbX; have y1 : World.cell? _ ⟨qb, qo + j * 6 + 1, none⟩ = some (.string x.f) := cell_keep (by first | assumption | exact cell_drew (by assumption)) hbX; have y2 : World.cell? _ ⟨qb, qo + j * 6 + 2, none⟩ = some (.string x.i) := cell_keep (by first | assumption | exact cell_drew (by assumption)) hbX; have y3 : World.cell? _ ⟨qb, qo + j * 6 + 3, none⟩ = some (.int .i64 x.line) := cell_keep (by first | assumption | exact cell_drew (by assumption)) hbX; have y4 : World.cell? _ ⟨qb, qo + j * 6 + 4, none⟩ = some (.int .i64 x.addr) := cell_keep (by first | assumption | exact cell_drew (by assumption)) hbX; have y5 : World.cell? _ ⟨qb, qo + j * 6 + 5, none⟩ = some (.bool x.own) := cell_keep (by first | assumption | exact cell_drew (by assumption)) hbX; have hmN : Below w5.heap.size w5 _ := below_keep (by first | assumption | exact Below.drew (by assumption)) (Nat.le_refl _) hbX; have hbN : Below B w _ := below_keep (by first | assumption | exact Below.drew (by assumption)) hBw hbX)
              | (go_at_call 53; with_reducible refine (HREST.out _ (by first | assumption | exact Below.drew (by assumption))).mono ?_; rintro e wX ⟨rfl, hbX⟩; have y0 : World.cell? _ ⟨qb, qo + j * 6, none⟩ = some (.string x.m) := cell_keep (by first | assumption | exact cell_drew (by assumption)) hbX; have y1 : World.cell? _ ⟨qb, qo + j * 6 + 1, none⟩ = some (.string x.f) := cell_keep (by first | assumption | exact cell_drew (by assumption)) hbX; have y2 : World.cell? _ ⟨qb, qo + j * 6 + 2, none⟩ = some (.string x.i) := cell_keep (by first | assumption | exact cell_drew (by assumption)) hbX; have y3 : World.cell? _ ⟨qb, qo + j * 6 + 3, none⟩ = some (.int .i64 x.line) := cell_keep (by first | assumption | exact cell_drew (by assumption)) hbX; have y4 : World.cell? _ ⟨qb, qo + j * 6 + 4, none⟩ = some (.int .i64 x.addr) := cell_keep (by first | assumption | exact cell_drew (by assumption)) hbX; have y5 : World.cell? _ ⟨qb, qo + j * 6 + 5, none⟩ = some (.bool x.own) := cell_keep (by first | assumption | exact cell_drew (by assumption)) hbX; have hmN : Below w5.heap.size w5 _ := below_keep (by first | assumption | exact Below.drew (by assumption)) (Nat.le_refl _) hbX; have hbN : Below B w _ := below_keep (by first | assumption | exact Below.drew (by assumption)) hBw hbX)
              | (go_at_call 50; with_reducible refine (HLN.out _ (by first | assumption | exact Below.drew (by assumption))).mono ?_; rintro e wY ⟨rfl, hIBY, hbY, hkY⟩; have z0 : World.cell? _ ⟨qb, qo + j * 6, none⟩ = some (.string x.m) := (hbY.cell (p := ⟨qb, qo + j * 6, none⟩) hqB).trans (by first | assumption | exact cell_drew (by assumption)); have z1 : World.cell? _ ⟨qb, qo + j * 6 + 1, none⟩ = some (.string x.f) := (hbY.cell (p := ⟨qb, qo + j * 6 + 1, none⟩) hqB).trans (by first | assumption | exact cell_drew (by assumption)); have z2 : World.cell? _ ⟨qb, qo + j * 6 + 2, none⟩ = some (.string x.i) := (hbY.cell (p := ⟨qb, qo + j * 6 + 2, none⟩) hqB).trans (by first | assumption | exact cell_drew (by assumption)); have z3 : World.cell? _ ⟨qb, qo + j * 6 + 3, none⟩ = some (.int .i64 x.line) := (hbY.cell (p := ⟨qb, qo + j * 6 + 3, none⟩) hqB).trans (by first | assumption | exact cell_drew (by assumption)); have z4 : World.cell? _ ⟨qb, qo + j * 6 + 4, none⟩ = some (.int .i64 x.addr) := (hbY.cell (p := ⟨qb, qo + j * 6 + 4, none⟩) hqB).trans (by first | assumption | exact cell_drew (by assumption)); have z5 : World.cell? _ ⟨qb, qo + j * 6 + 5, none⟩ = some (.bool x.own) := (hbY.cell (p := ⟨qb, qo + j * 6 + 5, none⟩) hqB).trans (by first | assumption | exact cell_drew (by assumption)); have hbN : Below B w _ := Below.trans (by first | assumption | exact Below.drew (by assumption)) hbY))
          all_goals
            go_wp2_with fail
            refine ⟨⟨j, _, S ++ lnL [32, 32] (lineL x), by omega, rfl, Lib.hid (by go_num), Lib.hid (by rw [HSK.out, HS.out, List.append_assoc]), ?_, ?_, by assumption⟩, by simp [RowKit.intOf] <;> omega⟩
            · have q1 : nf - j = (nf - (j + 1)) + 1 := by omega
              have q2 : (nf - j) * 700 = (nf - (j + 1)) * 700 + 700 := by rw [q1, Nat.add_mul]
              have q3 := lineL_len hxo
              rw [List.length_append, lnL_len]
              simp only [List.length_nil, List.length_cons]
              omega
            · have e : S ++ lnL (⟨#[32, 32]⟩ : ByteArray).data.toList (callB x ++ restB x).data.toList = S ++ lnL [32, 32] (lineL x) := by
                rw [show (callB x ++ restB x).data.toList = lineL x from app_data _ _]
              rw [← e]; assumption
end Go.Proofs.YtmoofdcoodaaiaaGreatDoor

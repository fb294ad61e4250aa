/- What writePairs writes. -/
import Derived.Test.YtmoofdcoodaaiaaGreatDoorWrB
namespace Go.Proofs.YtmoofdcoodaaiaaGreatDoor
open Go.RowKit Go.Lib

/-- The lines of a frame in the form of pairs. -/
def prFr (x : Fr) : List UInt8 := lnL [] (d (callB x)) ++ lnL [9] (Lib.trimPrefix (d (restB x)) [32])
def prFrs (l : List Fr) : List UInt8 := l.flatMap prFr
def prFa (f : Fa) : List UInt8 := lnL [102, 97, 117, 108, 116, 32] (d (headB f.kind f.text)) ++ prFrs f.fr
def prFas (l : List Fa) : List UInt8 := l.flatMap prFa
theorem prFrs_take (l : List Fr) (k : Nat) (hk : k < l.length) : prFrs (l.take (k + 1)) = prFrs (l.take k) ++ prFr l[k] := by
  unfold prFrs; rw [List.take_succ_eq_append_getElem hk, List.flatMap_append, List.flatMap_cons, List.flatMap_nil, List.append_nil]
theorem prFas_take (l : List Fa) (k : Nat) (hk : k < l.length) : prFas (l.take (k + 1)) = prFas (l.take k) ++ prFa l[k] := by
  unfold prFas; rw [List.take_succ_eq_append_getElem hk, List.flatMap_append, List.flatMap_cons, List.flatMap_nil, List.append_nil]
theorem lnL_len (m s : List UInt8) : (lnL m s).length = m.length + s.length + 1 := by unfold lnL; simp; omega
theorem bsz (l : List UInt8) : (⟨l.toArray⟩ : ByteArray).size = l.length := bs_size l
theorem trim_len (l p : List UInt8) : (Lib.trimPrefix l p).length ≤ l.length := by
  unfold Lib.trimPrefix; split <;> simp

set_option maxHeartbeats 8000000 in
set_option maxRecDepth 100000 in
theorem writePairs_any (v : Value) (l : List Fa) (B b : Nat) (w0 w : World) (hv : SlA w0 v l) (h0 : Below w0.heap.size w0 w) (hB : w0.heap.size ≤ B) (h : Lib.IsBuilder 49 5 B b (Lib.byteCells []) w) (hBw : B ≤ w.heap.size) (hok : fasErr l = 0) (he : EnvW w0) :
    Calls Tryz.prog 34 #[.pointer (some ⟨b, 0, none⟩), v] w fun e w' => e = .returned (.tuple #[]) ∧ Lib.IsBuilder 49 5 B b (Lib.byteCells (prFas l)) w' ∧ Below B w w' := by
  obtain ⟨hl10, hall⟩ := fas_ok hok
  have hbl := isB_lt h
  obtain ⟨p, cap, rfl, h1, h2, h3, h4⟩ := hv
  unfold maxLen at h2
  obtain ⟨n, hn⟩ : ∃ n, n = l.length := ⟨_, rfl⟩
  have HN := Lib.hid hn
  have HV := Lib.hid he
  rw [← hn] at h1 hl10 ⊢
  clear hn he hok
  go_enter Tryz.func34, Tryz.ntmps34
  go_wp2_with fail
  go_loopw [10] (fun v10 wr => ∃ (k : Nat) (T : List UInt8), k ≤ n ∧ v10 = .int .i64 k ∧ Hid (T = prFas (l.take k)) ∧ T.length ≤ k * 200000 ∧ Lib.IsBuilder 49 5 B b (Lib.byteCells T) wr ∧ Below B w wr) (fun v10 _ => n - (RowKit.intOf v10).toNat)
  case atStart => exact ⟨0, [], Nat.zero_le _, rfl, Lib.hid rfl, by simp, h, Below.refl _ _⟩
  case round =>
    obtain ⟨w2, rfl⟩ : ∃ w2 : World, w2 = wr := ⟨_, rfl⟩
    obtain ⟨k, T, hk, rfl, HT, hTl, hIB, hbw⟩ := hrel
    have hBw2 := Nat.le_trans hBw hbw.size
    have hb02 : Below w0.heap.size w0 w2 := h0.trans (hbw.mono hB)
    by_cases hlt : k < n
    · have hkl : k < l.length := by have := HN.out; omega
      rcases h4 with h4 | ⟨bb, off, rfl, hbb, hat⟩
      · rw [h4] at hkl; simp at hkl
      obtain ⟨c0, c1, c2⟩ := (hat k hkl).below hbb hb02
      have hfo := hall _ (List.getElem_mem hkl)
      have hfk := h3 _ (List.getElem_mem hkl)
      have HTK := Lib.hid (prFas_take l k hkl)
      generalize l[k] = f at *
      obtain ⟨kd, tx, fv, fr⟩ := f
      obtain ⟨hf1, hf2, hf3, hf4⟩ := hfo
      obtain ⟨-, -, hfv⟩ := hfk
      simp only at c0 c1 c2 hf1 hf2 hf3 hf4 hfv
      obtain ⟨q, qc, rfl, hq1, hq2, -, hq4⟩ := hfv
      unfold maxLen at hq2
      clear hat hkl
      have hBk := Bk.new w2 #[.string kd, .string tx, .slice q fr.length qc] 44
      have hbA := (Below.refl w2.heap.size w2).alloc (Nat.le_refl _) (.cells #[.string kd, .string tx, .slice q fr.length qc] 44)
      have hIBA := isB_keeps hIB hbA
      have hbwA := hbw.alloc hBw2 (.cells #[.string kd, .string tx, .slice q fr.length qc] 44)
      have HH := Lib.hid (headOf_any kd tx (.slice q fr.length qc) (w2.alloc (.cells #[.string kd, .string tx, .slice q fr.length qc] 44)) hf1 hf2 ⟨_, _, _, rfl⟩)
      have hhl := headB_len hf1 hf2
      have hT2 : T.length ≤ 2000000 := by
        have : k * 200000 ≤ 10 * 200000 := Nat.mul_le_mul_right _ (by omega)
        omega
      have hne : w2.heap.size ≠ b := by have := isB_lt hIB; omega
      obtain ⟨nf, hnf⟩ : ∃ nf, nf = fr.length := ⟨_, rfl⟩
      have HNF := Lib.hid hnf
      rw [← hnf] at c2 hf3 hq1 hBk hbA hIBA hbwA HH
      clear hnf
      go_wp2_with (first
        | (go_at_call 51; (with_reducible refine HH.out.mono ?_); rintro e w3 ⟨rfl, hb3⟩; have hIB3 := isB_keeps hIBA hb3; have hbw3 := below_call hbwA (Nat.le_trans hBw hbwA.size) hb3; have hBk3 := hBk.below hb3)
        | (go_at_call 50; (with_reducible refine (line_any B b T _ _ _ hIB3 (by rw [show (⟨#[102, 97, 117, 108, 116, 32]⟩ : ByteArray).size = 6 from rfl]; omega) (Nat.le_trans hBw hbw3.size)).mono ?_); rintro e w4 ⟨rfl, hIB4, hb4, hk4⟩; have hbw4 := hbw3.trans hb4; have g2 := (hBk3.kept hk4 hne (by decide)).cell 2; have g2' : w4.cell? ⟨w2.heap.size, 2, none⟩ = some (.slice q nf qc) := g2; clear g2))
      have hT4 : (T ++ lnL [102, 97, 117, 108, 116, 32] (d (headB kd tx))).length ≤ k * 200000 + 2300 := by
        unfold lnL; rw [List.length_append, List.length_append, List.length_append, d_len]; simp; omega
      obtain ⟨T4, hT4e⟩ : ∃ T4, T4 = T ++ lnL [102, 97, 117, 108, 116, 32] (d (headB kd tx)) := ⟨_, rfl⟩
      have HT4 := Lib.hid hT4e
      have hIB4' : Lib.IsBuilder 49 5 B b (Lib.byteCells T4) w4 := by rw [hT4e]; exact hIB4
      rw [← hT4e] at hT4
      clear hT4e hIB4 hBk hBk3 hIB3 hIBA hk4 hhl g2'
      have hBw4 := Nat.le_trans hBw hbw4.size
      have hb04 : Below w0.heap.size w0 w4 := h0.trans (hbw4.mono hB)
      clear hbA hbwA hb3 hbw3 hb4 HH c0 c1 c2
      go_loopw [21] (fun v21 wr => ∃ (j : Nat) (S : List UInt8), j ≤ nf ∧ v21 = .int .i64 j ∧ Hid (S = T4 ++ prFrs (fr.take j)) ∧ S.length ≤ k * 200000 + 2300 + j * 700 ∧ Lib.IsBuilder 49 5 B b (Lib.byteCells S) wr ∧ Below B w wr) (fun v21 _ => nf - (RowKit.intOf v21).toNat)
      case atStart => exact ⟨0, T4, Nat.zero_le _, rfl, Lib.hid (by simp [prFrs]), by omega, hIB4', hbw4⟩
      case round =>
        obtain ⟨w5, rfl⟩ : ∃ w5 : World, w5 = wr := ⟨_, rfl⟩
        obtain ⟨j, S, hj, rfl, HS, hSl, hIB5, hbw5⟩ := hrel
        have hBw5 := Nat.le_trans hBw hbw5.size
        have hb05 : Below w0.heap.size w0 w5 := h0.trans (hbw5.mono hB)
        by_cases hjl : j < nf
        · have jl : j < fr.length := by have := HNF.out; omega
          rcases hq4 with hq4 | ⟨qb, qo, rfl, hqb, hqat⟩
          · rw [hq4] at jl; simp at jl
          obtain ⟨x0, x1, x2, x3, x4, x5⟩ := (hqat j jl).below hqb hb05
          have hxo := hf4 _ (List.getElem_mem jl)
          have HSK := Lib.hid (prFrs_take fr j jl)
          generalize fr[j] = x at *
          clear hqat jl
          have hBk := Bk.new w5 #[.string x.m, .string x.f, .string x.i, .int .i64 x.line, .int .i64 x.addr, .bool x.own] 54
          have hbA := (Below.refl w5.heap.size w5).alloc (Nat.le_refl _) (.cells #[.string x.m, .string x.f, .string x.i, .int .i64 x.line, .int .i64 x.addr, .bool x.own] 54)
          have hIBA := isB_keeps hIB5 hbA
          have hbwA := hbw5.alloc hBw5 (.cells #[.string x.m, .string x.f, .string x.i, .int .i64 x.line, .int .i64 x.addr, .bool x.own] 54)
          have hb0A : Below w0.heap.size w0 (w5.alloc (.cells #[.string x.m, .string x.f, .string x.i, .int .i64 x.line, .int .i64 x.addr, .bool x.own] 54)) := h0.trans (hbwA.mono hB)
          have HCALL := Lib.hid (callOf_any x (w5.alloc (.cells #[.string x.m, .string x.f, .string x.i, .int .i64 x.line, .int .i64 x.addr, .bool x.own] 54)) hxo)
          have HREST := Lib.hid (fun (W : World) (hW : Below w0.heap.size w0 W) => restOf_any x W hxo (HV.out.keep hW))
          have hcl := callB_len hxo
          have hrl := restB_len hxo
          have htl := trim_len (d (restB x)) [32]
          rw [d_len] at htl
          have HPX := Lib.hid (show prFr x = lnL [] (d (callB x)) ++ lnL [9] (Lib.trimPrefix (d (restB x)) [32]) from rfl)
          have hne : w5.heap.size ≠ b := by have := isB_lt hIB5; omega
          have hS2 : S.length ≤ 3000000 := by
            have a1 : k * 200000 ≤ 10 * 200000 := Nat.mul_le_mul_right _ (by omega)
            have a2 : j * 700 ≤ 200 * 700 := Nat.mul_le_mul_right _ (by omega)
            omega
          have HTR := Lib.hid (fun W => Tryz.strings_TrimPrefix (restB x) ⟨#[32]⟩ W)
          have hz9 : (⟨#[9]⟩ : ByteArray).size = 1 := rfl
          have hz0 : (⟨#[]⟩ : ByteArray).size = 0 := rfl
          have hlen9 := Lib.hid (show (S ++ lnL (⟨#[]⟩ : ByteArray).data.toList (callB x).data.toList).length + (⟨#[9]⟩ : ByteArray).size + (⟨(Lib.trimPrefix (restB x).data.toList (⟨#[32]⟩ : ByteArray).data.toList).toArray⟩ : ByteArray).size + 1 ≤ 140737488355328 by
            change (S ++ lnL [] (d (callB x))).length + 1 + (⟨(Lib.trimPrefix (d (restB x)) [32]).toArray⟩ : ByteArray).size + 1 ≤ _
            rw [List.length_append, lnL_len, bsz, d_len, List.length_nil]
            omega)
          go_wp2_with (first
            | (go_at_call 52; (with_reducible refine HCALL.out.mono ?_); rintro e w6 ⟨rfl, hb6⟩; have hIB6 := isB_keeps hIBA hb6; have hbw6 := below_call hbwA (Nat.le_trans hBw hbwA.size) hb6; have hBk6 := hBk.below hb6)
            | (go_at_call 53; (with_reducible refine (HREST.out _ hb07).mono ?_); rintro e w8 ⟨rfl, hb8⟩; have hIB8 := isB_keeps hIB7 hb8; have hbw8 := below_call hbw7 (Nat.le_trans hBw hbw7.size) hb8)
            | (go_at_call 64; (with_reducible refine (HTR.out _).mono ?_); rintro e w9 ⟨rfl, rfl⟩)
            | (go_at_call 50; (first
                | ((with_reducible refine (line_any B b S ⟨#[]⟩ _ _ hIB6 (by omega) (Nat.le_trans hBw hbw6.size)).mono ?_); rintro e w7 ⟨rfl, hIB7, hb7, hk7⟩; have hbw7 := hbw6.trans hb7; have hb07 : Below w0.heap.size w0 w7 := h0.trans (hbw7.mono hB); have hBk7 := hBk6.kept hk7 hne (by decide); have m0 := hBk7.cell 0; have m1 := hBk7.cell 1; have m2 := hBk7.cell 2; have m3 := hBk7.cell 3; have m4 := hBk7.cell 4; have m5 := hBk7.cell 5)
                | ((with_reducible refine (line_any B b _ ⟨#[9]⟩ _ _ hIB8 hlen9.out (Nat.le_trans hBw hbw8.size)).mono ?_); rintro e w10 ⟨rfl, hIB10, hb10, hk10⟩; have hbw10 := hbw8.trans hb10))))
          have HE10 : S ++ lnL (⟨#[]⟩ : ByteArray).data.toList (callB x).data.toList ++ lnL (⟨#[9]⟩ : ByteArray).data.toList (⟨(Lib.trimPrefix (restB x).data.toList (⟨#[32]⟩ : ByteArray).data.toList).toArray⟩ : ByteArray).data.toList = S ++ prFr x := by
            rw [HPX.out, List.append_assoc]; rfl
          rw [HE10] at hIB10
          refine ⟨⟨j + 1, S ++ prFr x, by omega, by go_num, Lib.hid (by rw [HSK.out, HS.out, List.append_assoc]), ?_, hIB10, hbw10⟩, by simp [RowKit.intOf] <;> omega⟩
          rw [HPX.out, List.length_append, List.length_append, lnL_len, lnL_len, d_len]
          simp only [List.length_nil, List.length_cons]
          omega
        · have HE := Lib.hid (show S = prFas (l.take (k + 1)) by
            rw [HS.out, HTK.out, HT4.out, ← HT.out, List.take_of_length_le (by have := HNF.out; omega)]
            unfold prFa
            rw [List.append_assoc])
          go_wp2_with fail
          exact ⟨⟨k + 1, S, by omega, by go_num, HE, by omega, hIB5, hbw5⟩, by simp [RowKit.intOf] <;> omega⟩
    · have HE := Lib.hid (show T = prFas l by rw [HT.out, List.take_of_length_le (by have := HN.out; omega)])
      go_wp2_with fail
      go_end0
      exact ⟨rfl, by rw [← HE.out]; exact hIB, hbw⟩
end Go.Proofs.YtmoofdcoodaaiaaGreatDoor

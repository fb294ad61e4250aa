/- What writeInner writes. -/
import Derived.Test.YtmoofdcoodaaiaaGreatDoorWrD
namespace Go.Proofs.YtmoofdcoodaaiaaGreatDoor
open Go.RowKit Go.Lib

theorem goneAt_zero (l : List Fa) : goneAt l 0 = 0 := rfl
theorem goneAt_small {l : List Fa} {k s : Nat} (hk : 0 < k) (h : shared (frsOf l (k - 1)) (frsOf l k) = s) (hs : s < 2) : goneAt l k = 0 := by
  unfold goneAt; rw [if_neg (by omega), h, if_pos hs]
theorem goneAt_big {l : List Fa} {k s : Nat} (hk : 0 < k) (h : shared (frsOf l (k - 1)) (frsOf l k) = s) (hs : 2 ≤ s) : goneAt l k = s := by
  unfold goneAt; rw [if_neg (by omega), h, if_neg (by omega)]
theorem frsOf_at {l : List Fa} {k : Nat} (h : k < l.length) : frsOf l k = l[k].fr := by unfold frsOf; rw [List.getElem?_eq_getElem h]; rfl
theorem sharedN_le : ∀ (l m : List Fr), sharedN l m ≤ m.length
  | [], m => by cases m <;> simp [sharedN]
  | x :: l, [] => by simp [sharedN]
  | x :: l, y :: m => by
    rw [sharedN]
    split
    · have := sharedN_le l m; simp; omega
    · simp
theorem shared_le (l m : List Fr) : shared l m ≤ m.length := by
  have := sharedN_le l.reverse m.reverse
  rw [List.length_reverse] at this; exact this
theorem goneAt_le (l : List Fa) (k : Nat) : goneAt l k ≤ (frsOf l k).length := by
  unfold goneAt
  split
  · omega
  split
  · omega
  · exact shared_le _ _
theorem inTx_step (fr : List Fr) (j : Nat) (hj : j < fr.length) : tx ((fr.take (j + 1)).map inLn) = tx ((fr.take j).map inLn) ++ lnL [32, 32, 32, 32, 97, 116, 32] (lineL fr[j]) := by
  rw [List.take_succ_eq_append_getElem hj, List.map_append, tx_app]
  congr 1
  show tx [inLn fr[j]] = _
  exact tx_lnL _ _
theorem inFa_tx {l : List Fa} {k M : Nat} {f : Fa} (hM : f.fr.length - goneAt l k = M) : tx [inHead k f] ++ tx ((f.fr.take M).map inLn) ++ tx (inMore l k) = tx (inFa l k f) := by
  unfold inFa
  rw [tx_app, tx_app, hM]
theorem slice_pre {X : Nat → Nat → Prop} {fr : List Fr} (q : Option Addr) (nf qc M : Nat) (h : M ≤ qc) (hq : fr = [] ∨ ∃ b off, q = some ⟨b, off, none⟩ ∧ X b off) :
    ∃ Q : Option Addr, (∀ W, (Instr.sliceAt 42 (.slice q nf qc) none (some (.int .i64 M)) none).run Tryz.prog W = .ok (.slice Q M qc) W) ∧ (fr = [] ∨ ∃ b off, Q = some ⟨b, off, none⟩ ∧ X b off) := by
  refine ⟨if qc = 0 then q else q.map (·.add (0 * 6)), fun W => ?_, ?_⟩
  · have h1 : (0 : Int) ≤ (M : Int) := by omega
    have h2 : (M : Int) ≤ (qc : Int) := by omega
    go_simp
  · rcases hq with hq | ⟨b, off, rfl, hx⟩
    · exact .inl hq
    · refine .inr ⟨b, off, ?_, hx⟩
      split
      · rfl
      · simp [Addr.add]

set_option maxHeartbeats 1000000 in
set_option maxRecDepth 100000 in
theorem str_any (B b : Nat) (L : List UInt8) (s : ByteArray) (w : World) (h : Lib.IsBuilder 49 5 B b (Lib.byteCells L) w) (hlen : L.length + s.size ≤ 140737488355328) (hBw : B ≤ w.heap.size) :
    Calls Tryz.prog 44 #[.pointer (some ⟨b, 0, none⟩), .string s] w fun e w' => e = .returned (.tuple #[.int .i64 s.size, .nilIface]) ∧ (Lib.IsBuilder 49 5 B b (Lib.byteCells (L ++ s.data.toList)) w' ∧ Below B w w' ∧ Lib.OthersKept 5 (some b) w w') := by
  refine (writeString_any B b (Lib.byteCells L) s w h (by rw [Lib.byteCells_length]; exact hlen) hBw).mono ?_
  rintro e w' ⟨rfl, h1, h2, h3⟩
  refine ⟨rfl, .inr ?_, h2, h3⟩
  rw [Lib.byteCells_append, ← Lib.strCells_eq]; exact h1

set_option maxHeartbeats 8000000 in
set_option maxRecDepth 100000 in
theorem writeInner_any (v : Value) (l : List Fa) (B b : Nat) (w0 w : World) (hv : SlA w0 v l) (h0 : Below w0.heap.size w0 w) (hB : w0.heap.size ≤ B) (h : Lib.IsBuilder 49 5 B b (Lib.byteCells []) w) (hBw : B ≤ w.heap.size) (hok : fasErr l = 0) (he : EnvW w0) :
    Calls Tryz.prog 30 #[.pointer (some ⟨b, 0, none⟩), v] w fun e w' => e = .returned (.tuple #[]) ∧ Lib.IsBuilder 49 5 B b (Lib.byteCells (tx (inUp l l.length))) w' ∧ Below B w w' := by
  obtain ⟨hl10, hall⟩ := fas_ok hok
  have hbl := isB_lt h
  obtain ⟨p, cap, rfl, h1, h2, h3, h4⟩ := hv
  unfold maxLen at h2
  obtain ⟨n, hn⟩ : ∃ n, n = l.length := ⟨_, rfl⟩
  have HN := Lib.hid hn
  have HV := Lib.hid he
  rw [← hn] at h1 hl10 ⊢
  clear hn he hok
  go_enter Tryz.func30, Tryz.ntmps30
  go_wp2_with fail
  go_loopw [11] (fun v11 wr => ∃ (k : Nat) (T : List UInt8), k ≤ n ∧ v11 = .int .i64 k ∧ Hid (T = tx (inUp l k)) ∧ T.length ≤ k * 200000 ∧ Lib.IsBuilder 49 5 B b (Lib.byteCells T) wr ∧ Below B w wr) (fun v11 _ => n - (RowKit.intOf v11).toNat)
  case atStart => exact ⟨0, [], Nat.zero_le _, rfl, Lib.hid rfl, by simp, h, Below.refl _ _⟩
  case round =>
    obtain ⟨w2, rfl⟩ : ∃ w2 : World, w2 = wr := ⟨_, rfl⟩
    obtain ⟨k, T, hk, rfl, HT, hTl, hIB, hbw⟩ := hrel
    have hBw2 := Nat.le_trans hBw hbw.size
    have hb02 : Below w0.heap.size w0 w2 := h0.trans (hbw.mono hB)
    by_cases hlt : k < n
    · have hkl : k < l.length := by have := HN.out; omega
      rcases h4 with h4 | ⟨bb, off, rfl, hbb, hat⟩
      · rw [h4] at hkl; simp at hkl
      by_cases hk0 : k = 0
      · obtain ⟨c0, c1, c2⟩ := (hat k hkl).below hbb hb02
        have hfo := hall _ (List.getElem_mem hkl)
        have hfk := h3 _ (List.getElem_mem hkl)
        have HTK := Lib.hid (inUp_succ l k hkl)
        have HFR := Lib.hid (frsOf_at hkl)
        have HGL := Lib.hid (goneAt_le l k)
        generalize l[k] = f at *
        have HFT := Lib.hid (fun M hM => inFa_tx (l := l) (k := k) (M := M) (f := f) hM)
        have hhl := headL_len hfo
        obtain ⟨kd, tv, fv, fr⟩ := f
        obtain ⟨hf1, hf2, hf3, hf4⟩ := hfo
        obtain ⟨-, -, hfv⟩ := hfk
        simp only at c0 c1 c2 hf1 hf2 hf3 hf4 hfv
        have hfv0 := hfv
        obtain ⟨q, qc, rfl, hq1, hq2, -, hq4⟩ := hfv
        unfold maxLen at hq2
        have hT2 : T.length ≤ 2000000 := by
          have : k * 200000 ≤ 10 * 200000 := Nat.mul_le_mul_right _ (by omega)
          omega
        have hne : w2.heap.size ≠ b := by have := isB_lt hIB; omega
        obtain ⟨nf, hnf⟩ : ∃ nf, nf = fr.length := ⟨_, rfl⟩
        have HNF := Lib.hid hnf
        have HK0 := Lib.hid hk0
        have hkf : ((0 : Int) < (k : Int)) = False := by simp; omega
        have hkg : ¬ (0 : Int) < (k : Int) := by omega
        clear hk0
        obtain ⟨M, hM⟩ : ∃ M, M = nf := ⟨_, rfl⟩
        have HM := Lib.hid (show fr.length - goneAt l k = M by rw [HK0.out, goneAt_zero, hM, hnf]; rfl)
        have HMORE := Lib.hid (show tx (inMore l k) = [] by rw [HK0.out]; rfl)
        have hMn : M ≤ nf := by omega
        have hMq : M ≤ qc := by omega
        obtain ⟨Q, hsl, hQ4⟩ := slice_pre q fr.length qc M hMq hq4
        rw [← hnf] at c2 hf3 hq1 hsl
        have hHX : SlF w0 (.slice q nf qc) fr := by rw [hnf]; exact hfv0
        clear hnf hfv0 hq4
        subst hM
        have hBk := Bk.new w2 #[.string kd, .string tv, .slice q M qc] 44
        have hbA := (Below.refl w2.heap.size w2).alloc (Nat.le_refl _) (.cells #[.string kd, .string tv, .slice q M qc] 44)
        have hIBA := isB_keeps hIB hbA
        have hbwA := hbw.alloc hBw2 (.cells #[.string kd, .string tv, .slice q M qc] 44)
        have HH := Lib.hid (fun W => headOf_any kd tv (.slice q M qc) W hf1 hf2 ⟨_, _, _, rfl⟩)
        have hz0 : (⟨#[]⟩ : ByteArray).size = 0 := rfl
        have hzc : (⟨#[67, 97, 117, 115, 101, 100, 32, 98, 121, 58, 32]⟩ : ByteArray).size = 11 := rfl
        have hhb : (headB kd tv).size ≤ 2202 := headB_len hf1 hf2
        go_wp2_with (first
          | (go_at_call 51; (with_reducible refine (HH.out _).mono ?_); rintro e w6 ⟨rfl, hb6⟩; have hIB6 := isB_keeps hIBA hb6; have hbw6 := below_call hbwA (Nat.le_trans hBw hbwA.size) hb6; have hBk6 := hBk.below hb6)
          | (go_at_call 50; (with_reducible refine (line_any B b T ⟨#[]⟩ _ _ hIB6 (by omega) (Nat.le_trans hBw hbw6.size)).mono ?_); rintro e w7 ⟨rfl, hIB7, hb7, hk7⟩; have hbw7 := hbw6.trans hb7; have hBk7 := hBk6.kept hk7 hne (by decide); have g2' : w7.cell? ⟨w2.heap.size, 2, none⟩ = some (.slice q M qc) := hBk7.cell 2))
        obtain ⟨T4, hT4e⟩ : ∃ T4, T4 = T ++ tx [inHead k ⟨kd, tv, .slice q M qc, fr⟩] := ⟨_, rfl⟩
        have hT4x : T ++ lnL (⟨#[]⟩ : ByteArray).data.toList (headB kd tv).data.toList = T4 := by
          rw [hT4e, tx_one]; unfold inHead; rw [if_pos HK0.out]; rfl
        have hT4 : T4.length ≤ k * 200000 + 2300 := by
          rw [← hT4x, List.length_append]
          change _ + (lnL [] (d (headB kd tv))).length ≤ _
          rw [lnL_len, d_len]; simp only [List.length_nil]; omega
        have HT4 := Lib.hid hT4e
        have hIB8 : Lib.IsBuilder 49 5 B b (Lib.byteCells T4) w7 := by rw [← hT4x]; exact hIB7
        clear hT4e hT4x hIB7 hk7 hhl hBk6 hBk7 hBk hIB6 hIBA hbwA hbA hb6 hb7 g2' HH
        clear c0 c1 c2
        go_loopw [44] (fun v44 wr => ∃ (m : Nat) (S : List UInt8), m ≤ M ∧ v44 = .int .i64 m ∧ Hid (S = T4 ++ tx ((fr.take m).map inLn)) ∧ S.length ≤ k * 200000 + 2300 + m * 700 ∧ Lib.IsBuilder 49 5 B b (Lib.byteCells S) wr ∧ Below B w wr) (fun v44 _ => M - (RowKit.intOf v44).toNat)
        case atStart => exact ⟨0, T4, Nat.zero_le _, rfl, Lib.hid (by simp [tx]), by omega, hIB8, hbw7⟩
        case round =>
          obtain ⟨w5, rfl⟩ : ∃ w5 : World, w5 = wr := ⟨_, rfl⟩
          obtain ⟨m, S, hm, rfl, HS, hSl, hIB5, hbw5⟩ := hrel
          have hBw5 := Nat.le_trans hBw hbw5.size
          have hb05 : Below w0.heap.size w0 w5 := h0.trans (hbw5.mono hB)
          have hS2 : S.length ≤ 3000000 := by
            have a1 : k * 200000 ≤ 10 * 200000 := Nat.mul_le_mul_right _ (by omega)
            have a2 : m * 700 ≤ 200 * 700 := Nat.mul_le_mul_right _ (by omega)
            omega
          by_cases hml : m < M
          · have jl : m < fr.length := by have := HNF.out; omega
            rcases hQ4 with hQ4 | ⟨qb, qo, rfl, hqb, hqat⟩
            · rw [hQ4] at jl; simp at jl
            obtain ⟨x0, x1, x2, x3, x4, x5⟩ := (hqat m jl).below hqb hb05
            have hxo := hf4 _ (List.getElem_mem jl)
            have HSK := Lib.hid (inTx_step fr m jl)
            generalize fr[m] = x at *
            clear hqat jl
            have HCALL := Lib.hid (fun W => callOf_any x W hxo)
            have hcl := callB_len hxo
            have hrl := restB_len hxo
            have hz7 : (⟨#[32, 32, 32, 32, 97, 116, 32]⟩ : ByteArray).size = 7 := rfl
            have hsum : (9223372036854775807 < (callB x).size + (restB x).size) = False := by simp; omega
            have hne5 : w5.heap.size ≠ b := by have := isB_lt hIB5; omega
            go_wp2_with fail
            have hBkA := Bk.new w5 #[.string x.m, .string x.f, .string x.i, .int .i64 x.line, .int .i64 x.addr, .bool x.own] 54
            have hIBA := isB_keeps hIB5 ((Below.refl w5.heap.size w5).alloc (Nat.le_refl _) (.cells #[.string x.m, .string x.f, .string x.i, .int .i64 x.line, .int .i64 x.addr, .bool x.own] 54))
            have hbwA := hbw5.alloc hBw5 (.cells #[.string x.m, .string x.f, .string x.i, .int .i64 x.line, .int .i64 x.addr, .bool x.own] 54)
            generalize w5.alloc (.cells #[.string x.m, .string x.f, .string x.i, .int .i64 x.line, .int .i64 x.addr, .bool x.own] 54) = wA at *
            have hBwA := Nat.le_trans hBw hbwA.size
            have y0 : wA.cell? ⟨w5.heap.size, 0, none⟩ = some (.string x.m) := hBkA.cell 0
            have y1 : wA.cell? ⟨w5.heap.size, 1, none⟩ = some (.string x.f) := hBkA.cell 1
            have y2 : wA.cell? ⟨w5.heap.size, 2, none⟩ = some (.string x.i) := hBkA.cell 2
            have y3 : wA.cell? ⟨w5.heap.size, 3, none⟩ = some (.int .i64 x.line) := hBkA.cell 3
            have y4 : wA.cell? ⟨w5.heap.size, 4, none⟩ = some (.int .i64 x.addr) := hBkA.cell 4
            have y5 : wA.cell? ⟨w5.heap.size, 5, none⟩ = some (.bool x.own) := hBkA.cell 5
            have HREST := Lib.hid (fun (W : World) (hW : Below wA.heap.size wA W) => restOf_any x W hxo (HV.out.keep (h0.trans ((hbwA.trans (hW.mono hBwA)).mono hB))))
            have HLN := Lib.hid (fun (W : World) (hW : Below wA.heap.size wA W) => line_any B b S ⟨#[32, 32, 32, 32, 97, 116, 32]⟩ (callB x ++ restB x) W (isB_keeps hIBA hW) (by rw [ByteArray.size_append]; omega) (Nat.le_trans hBwA hW.size))
            have hmA : Below wA.heap.size wA wA := Below.refl _ _
            go_region_held3 (fun w' => w'.cell? ⟨w5.heap.size, 0, none⟩ = some (.string x.m) ∧ w'.cell? ⟨w5.heap.size, 1, none⟩ = some (.string x.f) ∧ w'.cell? ⟨w5.heap.size, 2, none⟩ = some (.string x.i) ∧ w'.cell? ⟨w5.heap.size, 3, none⟩ = some (.int .i64 x.line) ∧ w'.cell? ⟨w5.heap.size, 4, none⟩ = some (.int .i64 x.addr) ∧ w'.cell? ⟨w5.heap.size, 5, none⟩ = some (.bool x.own) ∧ Below B w w' ∧ (Below wA.heap.size wA w' ∨ Lib.IsBuilder 49 5 B b (Lib.byteCells (S ++ lnL (⟨#[32, 32, 32, 32, 97, 116, 32]⟩ : ByteArray).data.toList (callB x ++ restB x).data.toList)) w'))
              ((repeat' apply And.intro) <;> first | assumption | exact cell_drew (by assumption) | exact Below.drew (by assumption) | exact Or.inr (by assumption) | exact Or.inl (by assumption) | exact Or.inl (Below.drew (by assumption)))
              (first
                | (go_at_call 52; with_reducible refine (HCALL.out _).mono ?_; rintro e wX ⟨rfl, hbX⟩; have y0 : World.cell? _ ⟨w5.heap.size, 0, none⟩ = some (.string x.m) := cell_keep (by first | assumption | exact cell_drew (by assumption)) hbX; have y1 : World.cell? _ ⟨w5.heap.size, 1, none⟩ = some (.string x.f) := cell_keep (by first | assumption | exact cell_drew (by assumption)) hbX; have y2 : World.cell? _ ⟨w5.heap.size, 2, none⟩ = some (.string x.i) := cell_keep (by first | assumption | exact cell_drew (by assumption)) hbX; have y3 : World.cell? _ ⟨w5.heap.size, 3, none⟩ = some (.int .i64 x.line) := cell_keep (by first | assumption | exact cell_drew (by assumption)) hbX; have y4 : World.cell? _ ⟨w5.heap.size, 4, none⟩ = some (.int .i64 x.addr) := cell_keep (by first | assumption | exact cell_drew (by assumption)) hbX; have y5 : World.cell? _ ⟨w5.heap.size, 5, none⟩ = some (.bool x.own) := cell_keep (by first | assumption | exact cell_drew (by assumption)) hbX; have hmN : Below wA.heap.size wA _ := below_keep (by first | assumption | exact Below.drew (by assumption)) (Nat.le_refl _) hbX; have hbN : Below B w _ := below_keep (by first | assumption | exact Below.drew (by assumption)) hBw hbX)
                | (go_at_call 53; with_reducible refine (HREST.out _ (by first | assumption | exact Below.drew (by assumption))).mono ?_; rintro e wX ⟨rfl, hbX⟩; have y0 : World.cell? _ ⟨w5.heap.size, 0, none⟩ = some (.string x.m) := cell_keep (by first | assumption | exact cell_drew (by assumption)) hbX; have y1 : World.cell? _ ⟨w5.heap.size, 1, none⟩ = some (.string x.f) := cell_keep (by first | assumption | exact cell_drew (by assumption)) hbX; have y2 : World.cell? _ ⟨w5.heap.size, 2, none⟩ = some (.string x.i) := cell_keep (by first | assumption | exact cell_drew (by assumption)) hbX; have y3 : World.cell? _ ⟨w5.heap.size, 3, none⟩ = some (.int .i64 x.line) := cell_keep (by first | assumption | exact cell_drew (by assumption)) hbX; have y4 : World.cell? _ ⟨w5.heap.size, 4, none⟩ = some (.int .i64 x.addr) := cell_keep (by first | assumption | exact cell_drew (by assumption)) hbX; have y5 : World.cell? _ ⟨w5.heap.size, 5, none⟩ = some (.bool x.own) := cell_keep (by first | assumption | exact cell_drew (by assumption)) hbX; have hmN : Below wA.heap.size wA _ := below_keep (by first | assumption | exact Below.drew (by assumption)) (Nat.le_refl _) hbX; have hbN : Below B w _ := below_keep (by first | assumption | exact Below.drew (by assumption)) hBw hbX)
                | (go_at_call 50; with_reducible refine (HLN.out _ (by first | assumption | exact Below.drew (by assumption))).mono ?_; rintro e wY ⟨rfl, hIBY, hbY, hkY⟩; have hBkY := (Bk.below hBkA (by first | assumption | exact Below.drew (by assumption))).kept hkY hne5 (by decide); have z0 : World.cell? _ ⟨w5.heap.size, 0, none⟩ = some (.string x.m) := hBkY.cell 0; have z1 : World.cell? _ ⟨w5.heap.size, 1, none⟩ = some (.string x.f) := hBkY.cell 1; have z2 : World.cell? _ ⟨w5.heap.size, 2, none⟩ = some (.string x.i) := hBkY.cell 2; have z3 : World.cell? _ ⟨w5.heap.size, 3, none⟩ = some (.int .i64 x.line) := hBkY.cell 3; have z4 : World.cell? _ ⟨w5.heap.size, 4, none⟩ = some (.int .i64 x.addr) := hBkY.cell 4; have z5 : World.cell? _ ⟨w5.heap.size, 5, none⟩ = some (.bool x.own) := hBkY.cell 5; have hbN : Below B w _ := Below.trans (by first | assumption | exact Below.drew (by assumption)) hbY))
            all_goals
              go_wp2_with fail
              refine ⟨⟨m + 1, S ++ lnL [32, 32, 32, 32, 97, 116, 32] (lineL x), by omega, by go_num, Lib.hid (by rw [HSK.out, HS.out, List.append_assoc]), ?_, ?_, by assumption⟩, by simp [RowKit.intOf] <;> omega⟩
              · have q3 := lineL_len hxo
                rw [List.length_append, lnL_len]
                simp only [List.length_nil, List.length_cons]
                omega
              · have e : S ++ lnL (⟨#[32, 32, 32, 32, 97, 116, 32]⟩ : ByteArray).data.toList (callB x ++ restB x).data.toList = S ++ lnL [32, 32, 32, 32, 97, 116, 32] (lineL x) := by
                  rw [show (callB x ++ restB x).data.toList = lineL x from app_data _ _]
                rw [← e]; assumption
          · obtain rfl : m = M := by omega
            have HE := Lib.hid (show S ++ tx (inMore l k) = tx (inUp l (k + 1)) by
              have e1 := HFT.out m HM.out
              rw [HS.out, HTK.out, tx_app, ← HT.out, HT4.out, ← e1]
              simp only [List.append_assoc]
              rfl)
            rw [HMORE.out, List.append_nil] at HE
            go_wp2_with fail
            exact ⟨⟨k + 1, S, by omega, by go_num, HE, by omega, hIB5, hbw5⟩, by simp [RowKit.intOf] <;> omega⟩
      · have hk0 : 0 < k := by omega
        by_cases hsh : shared (frsOf l (k - 1)) (frsOf l k) < 2
        · obtain ⟨c0, c1, c2⟩ := (hat k hkl).below hbb hb02
          have hfo := hall _ (List.getElem_mem hkl)
          have hfk := h3 _ (List.getElem_mem hkl)
          have HTK := Lib.hid (inUp_succ l k hkl)
          have HFR := Lib.hid (frsOf_at hkl)
          have HGL := Lib.hid (goneAt_le l k)
          obtain ⟨j, hj⟩ : ∃ j, j = k - 1 := ⟨_, rfl⟩
          have hjl : j < l.length := by omega
          have hcp := ((hat j hjl).below hbb hb02).2.2
          have hpk := (h3 _ (List.getElem_mem hjl)).2.2
          have HPR := Lib.hid (frsOf_at hjl)
          have hji : ((k : Nat) : Int) - 1 = (j : Int) := by omega
          have hjn : j < n := by omega
          have hw1 : IntKind.i64.wrap ((k : Int) - 1) = (j : Int) := by rw [hji]; exact IntWalk.i64_in _ (by omega)
          have hw2 : IntKind.i64.wrap (j : Int) = (j : Int) := IntWalk.i64_in _ (by omega)
          have hj0 : (0 : Int) ≤ (j : Int) := by omega
          have hj1 : (j : Int) < (n : Int) := by omega
          have HJ := Lib.hid hj
          have hkp : (0 : Int) < (k : Int) := by omega
          generalize hpe : l[j] = pf at *
          have HPE := Lib.hid hpe
          clear hpe hj
          obtain ⟨pkd, ptv, pv, pfr⟩ := pf
          simp only at hcp hpk HPR
          generalize l[k] = f at *
          have HFT := Lib.hid (fun M hM => inFa_tx (l := l) (k := k) (M := M) (f := f) hM)
          have hhl := headL_len hfo
          obtain ⟨kd, tv, fv, fr⟩ := f
          obtain ⟨hf1, hf2, hf3, hf4⟩ := hfo
          obtain ⟨-, -, hfv⟩ := hfk
          simp only at c0 c1 c2 hf1 hf2 hf3 hf4 hfv
          have hfv0 := hfv
          obtain ⟨q, qc, rfl, hq1, hq2, -, hq4⟩ := hfv
          unfold maxLen at hq2
          have hT2 : T.length ≤ 2000000 := by
            have : k * 200000 ≤ 10 * 200000 := Nat.mul_le_mul_right _ (by omega)
            omega
          have hne : w2.heap.size ≠ b := by have := isB_lt hIB; omega
          obtain ⟨nf, hnf⟩ : ∃ nf, nf = fr.length := ⟨_, rfl⟩
          have HNF := Lib.hid hnf
          have HG := Lib.hid (goneAt_small hk0 rfl hsh)
          obtain ⟨s, hs⟩ : ∃ s, s = shared (frsOf l (k - 1)) (frsOf l k) := ⟨_, rfl⟩
          rw [← hs] at hsh
          have HS0 := Lib.hid hs
          clear hs
          obtain ⟨M, hM⟩ : ∃ M, M = nf := ⟨_, rfl⟩
          have HM := Lib.hid (show fr.length - goneAt l k = M by rw [HG.out, hM, hnf]; rfl)
          have HMORE := Lib.hid (show tx (inMore l k) = [] by unfold inMore; rw [if_pos HG.out]; rfl)
          have hs2 : (s : Int) < 2 := by omega
          have hMn : M ≤ nf := by omega
          have hMq : M ≤ qc := by omega
          obtain ⟨Q, hsl, hQ4⟩ := slice_pre q fr.length qc M hMq hq4
          rw [← hnf] at c2 hf3 hq1 hsl
          have hHX : SlF w0 (.slice q nf qc) fr := by rw [hnf]; exact hfv0
          clear hnf hfv0 hq4
          subst hM
          have hBk := Bk.new w2 #[.string kd, .string tv, .slice q M qc] 44
          have hbA := (Below.refl w2.heap.size w2).alloc (Nat.le_refl _) (.cells #[.string kd, .string tv, .slice q M qc] 44)
          have hIBA := isB_keeps hIB hbA
          have hbwA := hbw.alloc hBw2 (.cells #[.string kd, .string tv, .slice q M qc] 44)
          have HH := Lib.hid (fun W => headOf_any kd tv (.slice q M qc) W hf1 hf2 ⟨_, _, _, rfl⟩)
          have hz0 : (⟨#[]⟩ : ByteArray).size = 0 := rfl
          have hzc : (⟨#[67, 97, 117, 115, 101, 100, 32, 98, 121, 58, 32]⟩ : ByteArray).size = 11 := rfl
          have hhb : (headB kd tv).size ≤ 2202 := headB_len hf1 hf2
          obtain ⟨T1, hT1⟩ : ∃ T1, T1 = T ++ (⟨#[67, 97, 117, 115, 101, 100, 32, 98, 121, 58, 32]⟩ : ByteArray).data.toList := ⟨_, rfl⟩
          have HT1 := Lib.hid hT1
          have hTc : T1.length ≤ T.length + 11 := by rw [hT1, List.length_append]; exact Nat.le_refl _
          clear hT1
          go_wp2_with (go_at_call 44; (with_reducible refine (str_any B b T _ _ hIBA (by omega) (Nat.le_trans hBw hbwA.size)).mono ?_); rintro e w3 ⟨rfl, hIB3, hb3, hk3⟩; rw [← HT1.out] at hIB3; have hbw3 := hbwA.trans hb3; have hBk3 := hBk.kept hk3 hne (by decide))
          have hb03 : Below w0.heap.size w0 w3 := h0.trans (hbw3.mono hB)
          have e2 : w3.cell? ⟨w2.heap.size, 2, none⟩ = some (.slice q M qc) := hBk3.cell 2
          have ep : w3.cell? ⟨bb, off + j * 3 + 2, none⟩ = some pv := (((hat j hjl).below hbb hb03).2.2).trans (by rw [HPE.out])
          have HSH := Lib.hid (fun (W : World) (hW : Below w3.heap.size w3 W) => shared_any pv (.slice q M qc) pfr fr W (hpk.below (Nat.le_refl _) (h0.trans ((hbw3.trans (hW.mono (Nat.le_trans hBw hbw3.size))).mono hB))) (hHX.below (Nat.le_refl _) (h0.trans ((hbw3.trans (hW.mono (Nat.le_trans hBw hbw3.size))).mono hB))))
          rw [show shared pfr fr = s by rw [HS0.out, HFR.out, ← HJ.out, HPR.out]] at HSH
          have hm3 : Below w3.heap.size w3 w3 := Below.refl _ _
          clear hcp
          go_region_held3 (fun w' => w'.cell? ⟨bb, off + j * 3 + 2, none⟩ = some pv ∧ w'.cell? ⟨w2.heap.size, 2, none⟩ = some (.slice q M qc) ∧ Below w3.heap.size w3 w')
            ((repeat' apply And.intro) <;> first | assumption | exact cell_drew (by assumption) | exact Below.drew (by assumption))
            (first
              | (go_at_call 49; with_reducible refine (HSH.out _ (by first | assumption | exact Below.drew (by assumption))).mono ?_; rintro e wX ⟨rfl, hbX⟩; have y0 : World.cell? _ ⟨bb, off + j * 3 + 2, none⟩ = some pv := cell_keep (by first | assumption | exact cell_drew (by assumption)) hbX; have y1 : World.cell? _ ⟨w2.heap.size, 2, none⟩ = some (.slice q M qc) := cell_keep (by first | assumption | exact cell_drew (by assumption)) hbX; have hm4 : Below w3.heap.size w3 _ := below_keep (by first | assumption | exact Below.drew (by assumption)) (Nat.le_refl _) hbX))
          have hIB4 := isB_keeps hIB3 hm4
          have hBk4 := hBk3.below hm4
          have hbw4 := hbw3.trans (hm4.mono (Nat.le_trans hBw hbw3.size))
          clear y0 y1 hbX hm3 ep e2
          have g0 : World.cell? _ ⟨w2.heap.size, 0, none⟩ = some (.string kd) := hBk4.cell 0
          have g1 : World.cell? _ ⟨w2.heap.size, 1, none⟩ = some (.string tv) := hBk4.cell 1
          have g2 : World.cell? _ ⟨w2.heap.size, 2, none⟩ = some (.slice q M qc) := hBk4.cell 2
          go_wp2_with (first
            | (go_at_call 51; (with_reducible refine (HH.out _).mono ?_); rintro e w6 ⟨rfl, hb6⟩; have hIB6 := isB_keeps hIB4 hb6; have hbw6 := below_call hbw4 (Nat.le_trans hBw hbw4.size) hb6; have hBk6 := hBk4.below hb6)
            | (go_at_call 50; (with_reducible refine (line_any B b T1 ⟨#[]⟩ _ _ hIB6 (by omega) (Nat.le_trans hBw hbw6.size)).mono ?_); rintro e w7 ⟨rfl, hIB7, hb7, hk7⟩; have hbw7 := hbw6.trans hb7; have hBk7 := hBk6.kept hk7 hne (by decide); have g2' : w7.cell? ⟨w2.heap.size, 2, none⟩ = some (.slice q M qc) := hBk7.cell 2))
          obtain ⟨T4, hT4e⟩ : ∃ T4, T4 = T ++ tx [inHead k ⟨kd, tv, .slice q M qc, fr⟩] := ⟨_, rfl⟩
          have hT4x : T1 ++ lnL (⟨#[]⟩ : ByteArray).data.toList (headB kd tv).data.toList = T4 := by
            have hkn : k ≠ 0 := by omega
            rw [hT4e, tx_one, HT1.out]; unfold inHead; rw [if_neg hkn]; unfold lnL; rw [List.append_assoc]; simp only [List.nil_append, List.append_assoc]; rfl
          have hT4 : T4.length ≤ k * 200000 + 2300 := by
            rw [← hT4x, List.length_append]
            change _ + (lnL [] (d (headB kd tv))).length ≤ _
            rw [lnL_len, d_len]; simp only [List.length_nil]; omega
          have HT4 := Lib.hid hT4e
          have hIB8 : Lib.IsBuilder 49 5 B b (Lib.byteCells T4) w7 := by rw [← hT4x]; exact hIB7
          clear hT4e hT4x hIB7 hk7 hhl hBk6 hBk7 hBk hIB6 hIBA hbwA hbA hb6 hb7 g2' HH
          clear g0 g1 g2 hBk3 hBk4 hIB3 hIB4 hm4 hk3 hb3
          clear c0 c1 c2
          go_loopw [44] (fun v44 wr => ∃ (m : Nat) (S : List UInt8), m ≤ M ∧ v44 = .int .i64 m ∧ Hid (S = T4 ++ tx ((fr.take m).map inLn)) ∧ S.length ≤ k * 200000 + 2300 + m * 700 ∧ Lib.IsBuilder 49 5 B b (Lib.byteCells S) wr ∧ Below B w wr) (fun v44 _ => M - (RowKit.intOf v44).toNat)
          case atStart => exact ⟨0, T4, Nat.zero_le _, rfl, Lib.hid (by simp [tx]), by omega, hIB8, hbw7⟩
          case round =>
            obtain ⟨w5, rfl⟩ : ∃ w5 : World, w5 = wr := ⟨_, rfl⟩
            obtain ⟨m, S, hm, rfl, HS, hSl, hIB5, hbw5⟩ := hrel
            have hBw5 := Nat.le_trans hBw hbw5.size
            have hb05 : Below w0.heap.size w0 w5 := h0.trans (hbw5.mono hB)
            have hS2 : S.length ≤ 3000000 := by
              have a1 : k * 200000 ≤ 10 * 200000 := Nat.mul_le_mul_right _ (by omega)
              have a2 : m * 700 ≤ 200 * 700 := Nat.mul_le_mul_right _ (by omega)
              omega
            by_cases hml : m < M
            · have jl : m < fr.length := by have := HNF.out; omega
              rcases hQ4 with hQ4 | ⟨qb, qo, rfl, hqb, hqat⟩
              · rw [hQ4] at jl; simp at jl
              obtain ⟨x0, x1, x2, x3, x4, x5⟩ := (hqat m jl).below hqb hb05
              have hxo := hf4 _ (List.getElem_mem jl)
              have HSK := Lib.hid (inTx_step fr m jl)
              generalize fr[m] = x at *
              clear hqat jl
              have HCALL := Lib.hid (fun W => callOf_any x W hxo)
              have hcl := callB_len hxo
              have hrl := restB_len hxo
              have hz7 : (⟨#[32, 32, 32, 32, 97, 116, 32]⟩ : ByteArray).size = 7 := rfl
              have hsum : (9223372036854775807 < (callB x).size + (restB x).size) = False := by simp; omega
              have hne5 : w5.heap.size ≠ b := by have := isB_lt hIB5; omega
              go_wp2_with fail
              have hBkA := Bk.new w5 #[.string x.m, .string x.f, .string x.i, .int .i64 x.line, .int .i64 x.addr, .bool x.own] 54
              have hIBA := isB_keeps hIB5 ((Below.refl w5.heap.size w5).alloc (Nat.le_refl _) (.cells #[.string x.m, .string x.f, .string x.i, .int .i64 x.line, .int .i64 x.addr, .bool x.own] 54))
              have hbwA := hbw5.alloc hBw5 (.cells #[.string x.m, .string x.f, .string x.i, .int .i64 x.line, .int .i64 x.addr, .bool x.own] 54)
              generalize w5.alloc (.cells #[.string x.m, .string x.f, .string x.i, .int .i64 x.line, .int .i64 x.addr, .bool x.own] 54) = wA at *
              have hBwA := Nat.le_trans hBw hbwA.size
              have y0 : wA.cell? ⟨w5.heap.size, 0, none⟩ = some (.string x.m) := hBkA.cell 0
              have y1 : wA.cell? ⟨w5.heap.size, 1, none⟩ = some (.string x.f) := hBkA.cell 1
              have y2 : wA.cell? ⟨w5.heap.size, 2, none⟩ = some (.string x.i) := hBkA.cell 2
              have y3 : wA.cell? ⟨w5.heap.size, 3, none⟩ = some (.int .i64 x.line) := hBkA.cell 3
              have y4 : wA.cell? ⟨w5.heap.size, 4, none⟩ = some (.int .i64 x.addr) := hBkA.cell 4
              have y5 : wA.cell? ⟨w5.heap.size, 5, none⟩ = some (.bool x.own) := hBkA.cell 5
              have HREST := Lib.hid (fun (W : World) (hW : Below wA.heap.size wA W) => restOf_any x W hxo (HV.out.keep (h0.trans ((hbwA.trans (hW.mono hBwA)).mono hB))))
              have HLN := Lib.hid (fun (W : World) (hW : Below wA.heap.size wA W) => line_any B b S ⟨#[32, 32, 32, 32, 97, 116, 32]⟩ (callB x ++ restB x) W (isB_keeps hIBA hW) (by rw [ByteArray.size_append]; omega) (Nat.le_trans hBwA hW.size))
              have hmA : Below wA.heap.size wA wA := Below.refl _ _
              go_region_held3 (fun w' => w'.cell? ⟨w5.heap.size, 0, none⟩ = some (.string x.m) ∧ w'.cell? ⟨w5.heap.size, 1, none⟩ = some (.string x.f) ∧ w'.cell? ⟨w5.heap.size, 2, none⟩ = some (.string x.i) ∧ w'.cell? ⟨w5.heap.size, 3, none⟩ = some (.int .i64 x.line) ∧ w'.cell? ⟨w5.heap.size, 4, none⟩ = some (.int .i64 x.addr) ∧ w'.cell? ⟨w5.heap.size, 5, none⟩ = some (.bool x.own) ∧ Below B w w' ∧ (Below wA.heap.size wA w' ∨ Lib.IsBuilder 49 5 B b (Lib.byteCells (S ++ lnL (⟨#[32, 32, 32, 32, 97, 116, 32]⟩ : ByteArray).data.toList (callB x ++ restB x).data.toList)) w'))
                ((repeat' apply And.intro) <;> first | assumption | exact cell_drew (by assumption) | exact Below.drew (by assumption) | exact Or.inr (by assumption) | exact Or.inl (by assumption) | exact Or.inl (Below.drew (by assumption)))
                (first
                  | (go_at_call 52; with_reducible refine (HCALL.out _).mono ?_; rintro e wX ⟨rfl, hbX⟩; have y0 : World.cell? _ ⟨w5.heap.size, 0, none⟩ = some (.string x.m) := cell_keep (by first | assumption | exact cell_drew (by assumption)) hbX; have y1 : World.cell? _ ⟨w5.heap.size, 1, none⟩ = some (.string x.f) := cell_keep (by first | assumption | exact cell_drew (by assumption)) hbX; have y2 : World.cell? _ ⟨w5.heap.size, 2, none⟩ = some (.string x.i) := cell_keep (by first | assumption | exact cell_drew (by assumption)) hbX; have y3 : World.cell? _ ⟨w5.heap.size, 3, none⟩ = some (.int .i64 x.line) := cell_keep (by first | assumption | exact cell_drew (by assumption)) hbX; have y4 : World.cell? _ ⟨w5.heap.size, 4, none⟩ = some (.int .i64 x.addr) := cell_keep (by first | assumption | exact cell_drew (by assumption)) hbX; have y5 : World.cell? _ ⟨w5.heap.size, 5, none⟩ = some (.bool x.own) := cell_keep (by first | assumption | exact cell_drew (by assumption)) hbX; have hmN : Below wA.heap.size wA _ := below_keep (by first | assumption | exact Below.drew (by assumption)) (Nat.le_refl _) hbX; have hbN : Below B w _ := below_keep (by first | assumption | exact Below.drew (by assumption)) hBw hbX)
                  | (go_at_call 53; with_reducible refine (HREST.out _ (by first | assumption | exact Below.drew (by assumption))).mono ?_; rintro e wX ⟨rfl, hbX⟩; have y0 : World.cell? _ ⟨w5.heap.size, 0, none⟩ = some (.string x.m) := cell_keep (by first | assumption | exact cell_drew (by assumption)) hbX; have y1 : World.cell? _ ⟨w5.heap.size, 1, none⟩ = some (.string x.f) := cell_keep (by first | assumption | exact cell_drew (by assumption)) hbX; have y2 : World.cell? _ ⟨w5.heap.size, 2, none⟩ = some (.string x.i) := cell_keep (by first | assumption | exact cell_drew (by assumption)) hbX; have y3 : World.cell? _ ⟨w5.heap.size, 3, none⟩ = some (.int .i64 x.line) := cell_keep (by first | assumption | exact cell_drew (by assumption)) hbX; have y4 : World.cell? _ ⟨w5.heap.size, 4, none⟩ = some (.int .i64 x.addr) := cell_keep (by first | assumption | exact cell_drew (by assumption)) hbX; have y5 : World.cell? _ ⟨w5.heap.size, 5, none⟩ = some (.bool x.own) := cell_keep (by first | assumption | exact cell_drew (by assumption)) hbX; have hmN : Below wA.heap.size wA _ := below_keep (by first | assumption | exact Below.drew (by assumption)) (Nat.le_refl _) hbX; have hbN : Below B w _ := below_keep (by first | assumption | exact Below.drew (by assumption)) hBw hbX)
                  | (go_at_call 50; with_reducible refine (HLN.out _ (by first | assumption | exact Below.drew (by assumption))).mono ?_; rintro e wY ⟨rfl, hIBY, hbY, hkY⟩; have hBkY := (Bk.below hBkA (by first | assumption | exact Below.drew (by assumption))).kept hkY hne5 (by decide); have z0 : World.cell? _ ⟨w5.heap.size, 0, none⟩ = some (.string x.m) := hBkY.cell 0; have z1 : World.cell? _ ⟨w5.heap.size, 1, none⟩ = some (.string x.f) := hBkY.cell 1; have z2 : World.cell? _ ⟨w5.heap.size, 2, none⟩ = some (.string x.i) := hBkY.cell 2; have z3 : World.cell? _ ⟨w5.heap.size, 3, none⟩ = some (.int .i64 x.line) := hBkY.cell 3; have z4 : World.cell? _ ⟨w5.heap.size, 4, none⟩ = some (.int .i64 x.addr) := hBkY.cell 4; have z5 : World.cell? _ ⟨w5.heap.size, 5, none⟩ = some (.bool x.own) := hBkY.cell 5; have hbN : Below B w _ := Below.trans (by first | assumption | exact Below.drew (by assumption)) hbY))
              all_goals
                go_wp2_with fail
                refine ⟨⟨m + 1, S ++ lnL [32, 32, 32, 32, 97, 116, 32] (lineL x), by omega, by go_num, Lib.hid (by rw [HSK.out, HS.out, List.append_assoc]), ?_, ?_, by assumption⟩, by simp [RowKit.intOf] <;> omega⟩
                · have q3 := lineL_len hxo
                  rw [List.length_append, lnL_len]
                  simp only [List.length_nil, List.length_cons]
                  omega
                · have e : S ++ lnL (⟨#[32, 32, 32, 32, 97, 116, 32]⟩ : ByteArray).data.toList (callB x ++ restB x).data.toList = S ++ lnL [32, 32, 32, 32, 97, 116, 32] (lineL x) := by
                    rw [show (callB x ++ restB x).data.toList = lineL x from app_data _ _]
                  rw [← e]; assumption
            · obtain rfl : m = M := by omega
              have HE := Lib.hid (show S ++ tx (inMore l k) = tx (inUp l (k + 1)) by
                have e1 := HFT.out m HM.out
                rw [HS.out, HTK.out, tx_app, ← HT.out, HT4.out, ← e1]
                simp only [List.append_assoc]
                rfl)
              rw [HMORE.out, List.append_nil] at HE
              go_wp2_with fail
              exact ⟨⟨k + 1, S, by omega, by go_num, HE, by omega, hIB5, hbw5⟩, by simp [RowKit.intOf] <;> omega⟩
        · have hsh : 2 ≤ shared (frsOf l (k - 1)) (frsOf l k) := by omega
          obtain ⟨c0, c1, c2⟩ := (hat k hkl).below hbb hb02
          have hfo := hall _ (List.getElem_mem hkl)
          have hfk := h3 _ (List.getElem_mem hkl)
          have HTK := Lib.hid (inUp_succ l k hkl)
          have HFR := Lib.hid (frsOf_at hkl)
          have HGL := Lib.hid (goneAt_le l k)
          obtain ⟨j, hj⟩ : ∃ j, j = k - 1 := ⟨_, rfl⟩
          have hjl : j < l.length := by omega
          have hcp := ((hat j hjl).below hbb hb02).2.2
          have hpk := (h3 _ (List.getElem_mem hjl)).2.2
          have HPR := Lib.hid (frsOf_at hjl)
          have hji : ((k : Nat) : Int) - 1 = (j : Int) := by omega
          have hjn : j < n := by omega
          have hw1 : IntKind.i64.wrap ((k : Int) - 1) = (j : Int) := by rw [hji]; exact IntWalk.i64_in _ (by omega)
          have hw2 : IntKind.i64.wrap (j : Int) = (j : Int) := IntWalk.i64_in _ (by omega)
          have hj0 : (0 : Int) ≤ (j : Int) := by omega
          have hj1 : (j : Int) < (n : Int) := by omega
          have HJ := Lib.hid hj
          have hkp : (0 : Int) < (k : Int) := by omega
          generalize hpe : l[j] = pf at *
          have HPE := Lib.hid hpe
          clear hpe hj
          obtain ⟨pkd, ptv, pv, pfr⟩ := pf
          simp only at hcp hpk HPR
          generalize l[k] = f at *
          have HFT := Lib.hid (fun M hM => inFa_tx (l := l) (k := k) (M := M) (f := f) hM)
          have hhl := headL_len hfo
          obtain ⟨kd, tv, fv, fr⟩ := f
          obtain ⟨hf1, hf2, hf3, hf4⟩ := hfo
          obtain ⟨-, -, hfv⟩ := hfk
          simp only at c0 c1 c2 hf1 hf2 hf3 hf4 hfv
          have hfv0 := hfv
          obtain ⟨q, qc, rfl, hq1, hq2, -, hq4⟩ := hfv
          unfold maxLen at hq2
          have hT2 : T.length ≤ 2000000 := by
            have : k * 200000 ≤ 10 * 200000 := Nat.mul_le_mul_right _ (by omega)
            omega
          have hne : w2.heap.size ≠ b := by have := isB_lt hIB; omega
          obtain ⟨nf, hnf⟩ : ∃ nf, nf = fr.length := ⟨_, rfl⟩
          have HNF := Lib.hid hnf
          have HG := Lib.hid (goneAt_big hk0 rfl hsh)
          obtain ⟨s, hs⟩ : ∃ s, s = shared (frsOf l (k - 1)) (frsOf l k) := ⟨_, rfl⟩
          rw [← hs] at hsh HG
          have HS0 := Lib.hid hs
          clear hs
          have hsn : s ≤ nf := by
            have := HGL.out; rw [HG.out, HFR.out] at this; simpa [hnf] using this
          obtain ⟨M, hM⟩ : ∃ M, M = nf - s := ⟨_, rfl⟩
          have HM := Lib.hid (show fr.length - goneAt l k = M by rw [HG.out, hM, hnf])
          have HMORE := Lib.hid (show tx (inMore l k) = lnL [32, 32, 32, 32, 46, 46, 46, 32] (Lib.itoa s ++ [32, 109, 111, 114, 101]) by
            unfold inMore
            rw [HG.out, if_neg (by omega)]
            exact tx_lnL _ _)
          have hs2 : ¬ (s : Int) < 2 := by omega
          have hs3 : (0 : Int) < (s : Int) := by omega
          have hms : (nf : Int) - (s : Int) = (M : Int) := by omega
          have HIT := Lib.hid (fun (W : World) (hW : Below w0.heap.size w0 W) => itoa_any s W (by omega) (by omega) (HV.out.keep hW))
          have hil := itoa_len (n := (s : Int)) (by omega) (by omega)
          have hMn : M ≤ nf := by omega
          have hMq : M ≤ qc := by omega
          obtain ⟨Q, hsl, hQ4⟩ := slice_pre q fr.length qc M hMq hq4
          rw [← hnf] at c2 hf3 hq1 hsl
          have hHX : SlF w0 (.slice q nf qc) fr := by rw [hnf]; exact hfv0
          clear hnf hfv0 hq4 hM
          have hBk := Bk.new w2 #[.string kd, .string tv, .slice q nf qc] 44
          have hbA := (Below.refl w2.heap.size w2).alloc (Nat.le_refl _) (.cells #[.string kd, .string tv, .slice q nf qc] 44)
          have hIBA := isB_keeps hIB hbA
          have hbwA := hbw.alloc hBw2 (.cells #[.string kd, .string tv, .slice q nf qc] 44)
          have HH := Lib.hid (fun W => headOf_any kd tv (.slice q nf qc) W hf1 hf2 ⟨_, _, _, rfl⟩)
          have hz0 : (⟨#[]⟩ : ByteArray).size = 0 := rfl
          have hzc : (⟨#[67, 97, 117, 115, 101, 100, 32, 98, 121, 58, 32]⟩ : ByteArray).size = 11 := rfl
          have hhb : (headB kd tv).size ≤ 2202 := headB_len hf1 hf2
          obtain ⟨T1, hT1⟩ : ∃ T1, T1 = T ++ (⟨#[67, 97, 117, 115, 101, 100, 32, 98, 121, 58, 32]⟩ : ByteArray).data.toList := ⟨_, rfl⟩
          have HT1 := Lib.hid hT1
          have hTc : T1.length ≤ T.length + 11 := by rw [hT1, List.length_append]; exact Nat.le_refl _
          clear hT1
          go_wp2_with (go_at_call 44; (with_reducible refine (str_any B b T _ _ hIBA (by omega) (Nat.le_trans hBw hbwA.size)).mono ?_); rintro e w3 ⟨rfl, hIB3, hb3, hk3⟩; rw [← HT1.out] at hIB3; have hbw3 := hbwA.trans hb3; have hBk3 := hBk.kept hk3 hne (by decide))
          have hb03 : Below w0.heap.size w0 w3 := h0.trans (hbw3.mono hB)
          have e2 : w3.cell? ⟨w2.heap.size, 2, none⟩ = some (.slice q nf qc) := hBk3.cell 2
          have ep : w3.cell? ⟨bb, off + j * 3 + 2, none⟩ = some pv := (((hat j hjl).below hbb hb03).2.2).trans (by rw [HPE.out])
          have HSH := Lib.hid (fun (W : World) (hW : Below w3.heap.size w3 W) => shared_any pv (.slice q nf qc) pfr fr W (hpk.below (Nat.le_refl _) (h0.trans ((hbw3.trans (hW.mono (Nat.le_trans hBw hbw3.size))).mono hB))) (hHX.below (Nat.le_refl _) (h0.trans ((hbw3.trans (hW.mono (Nat.le_trans hBw hbw3.size))).mono hB))))
          rw [show shared pfr fr = s by rw [HS0.out, HFR.out, ← HJ.out, HPR.out]] at HSH
          have hm3 : Below w3.heap.size w3 w3 := Below.refl _ _
          clear hcp
          go_region_held3 (fun w' => w'.cell? ⟨bb, off + j * 3 + 2, none⟩ = some pv ∧ w'.cell? ⟨w2.heap.size, 2, none⟩ = some (.slice q nf qc) ∧ Below w3.heap.size w3 w')
            ((repeat' apply And.intro) <;> first | assumption | exact cell_drew (by assumption) | exact Below.drew (by assumption))
            (first
              | (go_at_call 49; with_reducible refine (HSH.out _ (by first | assumption | exact Below.drew (by assumption))).mono ?_; rintro e wX ⟨rfl, hbX⟩; have y0 : World.cell? _ ⟨bb, off + j * 3 + 2, none⟩ = some pv := cell_keep (by first | assumption | exact cell_drew (by assumption)) hbX; have y1 : World.cell? _ ⟨w2.heap.size, 2, none⟩ = some (.slice q nf qc) := cell_keep (by first | assumption | exact cell_drew (by assumption)) hbX; have hm4 : Below w3.heap.size w3 _ := below_keep (by first | assumption | exact Below.drew (by assumption)) (Nat.le_refl _) hbX))
          have hIB4 := isB_keeps hIB3 hm4
          have hBk4 := hBk3.below hm4
          have hbw4 := hbw3.trans (hm4.mono (Nat.le_trans hBw hbw3.size))
          clear y0 y1 hbX hm3 ep e2
          have g0 : World.cell? _ ⟨w2.heap.size, 0, none⟩ = some (.string kd) := hBk4.cell 0
          have g1 : World.cell? _ ⟨w2.heap.size, 1, none⟩ = some (.string tv) := hBk4.cell 1
          have g2 : World.cell? _ ⟨w2.heap.size, 2, none⟩ = some (.slice q nf qc) := hBk4.cell 2
          go_wp2_with (first
            | (go_at_call 51; (with_reducible refine (HH.out _).mono ?_); rintro e w6 ⟨rfl, hb6⟩; have hIB6 := isB_keeps hIB4 hb6; have hbw6 := below_call hbw4 (Nat.le_trans hBw hbw4.size) hb6; have hBk6 := hBk4.below hb6)
            | (go_at_call 50; (with_reducible refine (line_any B b T1 ⟨#[]⟩ _ _ hIB6 (by omega) (Nat.le_trans hBw hbw6.size)).mono ?_); rintro e w7 ⟨rfl, hIB7, hb7, hk7⟩; have hbw7 := hbw6.trans hb7; have hBk7 := hBk6.kept hk7 hne (by decide); have g2' : w7.cell? ⟨w2.heap.size, 2, none⟩ = some (.slice q nf qc) := hBk7.cell 2))
          obtain ⟨T4, hT4e⟩ : ∃ T4, T4 = T ++ tx [inHead k ⟨kd, tv, .slice q nf qc, fr⟩] := ⟨_, rfl⟩
          have hT4x : T1 ++ lnL (⟨#[]⟩ : ByteArray).data.toList (headB kd tv).data.toList = T4 := by
            have hkn : k ≠ 0 := by omega
            rw [hT4e, tx_one, HT1.out]; unfold inHead; rw [if_neg hkn]; unfold lnL; rw [List.append_assoc]; simp only [List.nil_append, List.append_assoc]; rfl
          have hT4 : T4.length ≤ k * 200000 + 2300 := by
            rw [← hT4x, List.length_append]
            change _ + (lnL [] (d (headB kd tv))).length ≤ _
            rw [lnL_len, d_len]; simp only [List.length_nil]; omega
          have HT4 := Lib.hid hT4e
          have hIB8 : Lib.IsBuilder 49 5 B b (Lib.byteCells T4) w7 := by rw [← hT4x]; exact hIB7
          clear hT4e hT4x hIB7 hk7 hhl hBk6 hBk7 hBk hIB6 hIBA hbwA hbA hb6 hb7 g2' HH
          clear g0 g1 g2 hBk3 hBk4 hIB3 hIB4 hm4 hk3 hb3
          clear c0 c1 c2
          go_loopw [44] (fun v44 wr => ∃ (m : Nat) (S : List UInt8), m ≤ M ∧ v44 = .int .i64 m ∧ Hid (S = T4 ++ tx ((fr.take m).map inLn)) ∧ S.length ≤ k * 200000 + 2300 + m * 700 ∧ Lib.IsBuilder 49 5 B b (Lib.byteCells S) wr ∧ Below B w wr) (fun v44 _ => M - (RowKit.intOf v44).toNat)
          case atStart => exact ⟨0, T4, Nat.zero_le _, rfl, Lib.hid (by simp [tx]), by omega, hIB8, hbw7⟩
          case round =>
            obtain ⟨w5, rfl⟩ : ∃ w5 : World, w5 = wr := ⟨_, rfl⟩
            obtain ⟨m, S, hm, rfl, HS, hSl, hIB5, hbw5⟩ := hrel
            have hBw5 := Nat.le_trans hBw hbw5.size
            have hb05 : Below w0.heap.size w0 w5 := h0.trans (hbw5.mono hB)
            have hS2 : S.length ≤ 3000000 := by
              have a1 : k * 200000 ≤ 10 * 200000 := Nat.mul_le_mul_right _ (by omega)
              have a2 : m * 700 ≤ 200 * 700 := Nat.mul_le_mul_right _ (by omega)
              omega
            by_cases hml : m < M
            · have jl : m < fr.length := by have := HNF.out; omega
              rcases hQ4 with hQ4 | ⟨qb, qo, rfl, hqb, hqat⟩
              · rw [hQ4] at jl; simp at jl
              obtain ⟨x0, x1, x2, x3, x4, x5⟩ := (hqat m jl).below hqb hb05
              have hxo := hf4 _ (List.getElem_mem jl)
              have HSK := Lib.hid (inTx_step fr m jl)
              generalize fr[m] = x at *
              clear hqat jl
              have HCALL := Lib.hid (fun W => callOf_any x W hxo)
              have hcl := callB_len hxo
              have hrl := restB_len hxo
              have hz7 : (⟨#[32, 32, 32, 32, 97, 116, 32]⟩ : ByteArray).size = 7 := rfl
              have hsum : (9223372036854775807 < (callB x).size + (restB x).size) = False := by simp; omega
              have hne5 : w5.heap.size ≠ b := by have := isB_lt hIB5; omega
              go_wp2_with fail
              have hBkA := Bk.new w5 #[.string x.m, .string x.f, .string x.i, .int .i64 x.line, .int .i64 x.addr, .bool x.own] 54
              have hIBA := isB_keeps hIB5 ((Below.refl w5.heap.size w5).alloc (Nat.le_refl _) (.cells #[.string x.m, .string x.f, .string x.i, .int .i64 x.line, .int .i64 x.addr, .bool x.own] 54))
              have hbwA := hbw5.alloc hBw5 (.cells #[.string x.m, .string x.f, .string x.i, .int .i64 x.line, .int .i64 x.addr, .bool x.own] 54)
              generalize w5.alloc (.cells #[.string x.m, .string x.f, .string x.i, .int .i64 x.line, .int .i64 x.addr, .bool x.own] 54) = wA at *
              have hBwA := Nat.le_trans hBw hbwA.size
              have y0 : wA.cell? ⟨w5.heap.size, 0, none⟩ = some (.string x.m) := hBkA.cell 0
              have y1 : wA.cell? ⟨w5.heap.size, 1, none⟩ = some (.string x.f) := hBkA.cell 1
              have y2 : wA.cell? ⟨w5.heap.size, 2, none⟩ = some (.string x.i) := hBkA.cell 2
              have y3 : wA.cell? ⟨w5.heap.size, 3, none⟩ = some (.int .i64 x.line) := hBkA.cell 3
              have y4 : wA.cell? ⟨w5.heap.size, 4, none⟩ = some (.int .i64 x.addr) := hBkA.cell 4
              have y5 : wA.cell? ⟨w5.heap.size, 5, none⟩ = some (.bool x.own) := hBkA.cell 5
              have HREST := Lib.hid (fun (W : World) (hW : Below wA.heap.size wA W) => restOf_any x W hxo (HV.out.keep (h0.trans ((hbwA.trans (hW.mono hBwA)).mono hB))))
              have HLN := Lib.hid (fun (W : World) (hW : Below wA.heap.size wA W) => line_any B b S ⟨#[32, 32, 32, 32, 97, 116, 32]⟩ (callB x ++ restB x) W (isB_keeps hIBA hW) (by rw [ByteArray.size_append]; omega) (Nat.le_trans hBwA hW.size))
              have hmA : Below wA.heap.size wA wA := Below.refl _ _
              go_region_held3 (fun w' => w'.cell? ⟨w5.heap.size, 0, none⟩ = some (.string x.m) ∧ w'.cell? ⟨w5.heap.size, 1, none⟩ = some (.string x.f) ∧ w'.cell? ⟨w5.heap.size, 2, none⟩ = some (.string x.i) ∧ w'.cell? ⟨w5.heap.size, 3, none⟩ = some (.int .i64 x.line) ∧ w'.cell? ⟨w5.heap.size, 4, none⟩ = some (.int .i64 x.addr) ∧ w'.cell? ⟨w5.heap.size, 5, none⟩ = some (.bool x.own) ∧ Below B w w' ∧ (Below wA.heap.size wA w' ∨ Lib.IsBuilder 49 5 B b (Lib.byteCells (S ++ lnL (⟨#[32, 32, 32, 32, 97, 116, 32]⟩ : ByteArray).data.toList (callB x ++ restB x).data.toList)) w'))
                ((repeat' apply And.intro) <;> first | assumption | exact cell_drew (by assumption) | exact Below.drew (by assumption) | exact Or.inr (by assumption) | exact Or.inl (by assumption) | exact Or.inl (Below.drew (by assumption)))
                (first
                  | (go_at_call 52; with_reducible refine (HCALL.out _).mono ?_; rintro e wX ⟨rfl, hbX⟩; have y0 : World.cell? _ ⟨w5.heap.size, 0, none⟩ = some (.string x.m) := cell_keep (by first | assumption | exact cell_drew (by assumption)) hbX; have y1 : World.cell? _ ⟨w5.heap.size, 1, none⟩ = some (.string x.f) := cell_keep (by first | assumption | exact cell_drew (by assumption)) hbX; have y2 : World.cell? _ ⟨w5.heap.size, 2, none⟩ = some (.string x.i) := cell_keep (by first | assumption | exact cell_drew (by assumption)) hbX; have y3 : World.cell? _ ⟨w5.heap.size, 3, none⟩ = some (.int .i64 x.line) := cell_keep (by first | assumption | exact cell_drew (by assumption)) hbX; have y4 : World.cell? _ ⟨w5.heap.size, 4, none⟩ = some (.int .i64 x.addr) := cell_keep (by first | assumption | exact cell_drew (by assumption)) hbX; have y5 : World.cell? _ ⟨w5.heap.size, 5, none⟩ = some (.bool x.own) := cell_keep (by first | assumption | exact cell_drew (by assumption)) hbX; have hmN : Below wA.heap.size wA _ := below_keep (by first | assumption | exact Below.drew (by assumption)) (Nat.le_refl _) hbX; have hbN : Below B w _ := below_keep (by first | assumption | exact Below.drew (by assumption)) hBw hbX)
                  | (go_at_call 53; with_reducible refine (HREST.out _ (by first | assumption | exact Below.drew (by assumption))).mono ?_; rintro e wX ⟨rfl, hbX⟩; have y0 : World.cell? _ ⟨w5.heap.size, 0, none⟩ = some (.string x.m) := cell_keep (by first | assumption | exact cell_drew (by assumption)) hbX; have y1 : World.cell? _ ⟨w5.heap.size, 1, none⟩ = some (.string x.f) := cell_keep (by first | assumption | exact cell_drew (by assumption)) hbX; have y2 : World.cell? _ ⟨w5.heap.size, 2, none⟩ = some (.string x.i) := cell_keep (by first | assumption | exact cell_drew (by assumption)) hbX; have y3 : World.cell? _ ⟨w5.heap.size, 3, none⟩ = some (.int .i64 x.line) := cell_keep (by first | assumption | exact cell_drew (by assumption)) hbX; have y4 : World.cell? _ ⟨w5.heap.size, 4, none⟩ = some (.int .i64 x.addr) := cell_keep (by first | assumption | exact cell_drew (by assumption)) hbX; have y5 : World.cell? _ ⟨w5.heap.size, 5, none⟩ = some (.bool x.own) := cell_keep (by first | assumption | exact cell_drew (by assumption)) hbX; have hmN : Below wA.heap.size wA _ := below_keep (by first | assumption | exact Below.drew (by assumption)) (Nat.le_refl _) hbX; have hbN : Below B w _ := below_keep (by first | assumption | exact Below.drew (by assumption)) hBw hbX)
                  | (go_at_call 50; with_reducible refine (HLN.out _ (by first | assumption | exact Below.drew (by assumption))).mono ?_; rintro e wY ⟨rfl, hIBY, hbY, hkY⟩; have hBkY := (Bk.below hBkA (by first | assumption | exact Below.drew (by assumption))).kept hkY hne5 (by decide); have z0 : World.cell? _ ⟨w5.heap.size, 0, none⟩ = some (.string x.m) := hBkY.cell 0; have z1 : World.cell? _ ⟨w5.heap.size, 1, none⟩ = some (.string x.f) := hBkY.cell 1; have z2 : World.cell? _ ⟨w5.heap.size, 2, none⟩ = some (.string x.i) := hBkY.cell 2; have z3 : World.cell? _ ⟨w5.heap.size, 3, none⟩ = some (.int .i64 x.line) := hBkY.cell 3; have z4 : World.cell? _ ⟨w5.heap.size, 4, none⟩ = some (.int .i64 x.addr) := hBkY.cell 4; have z5 : World.cell? _ ⟨w5.heap.size, 5, none⟩ = some (.bool x.own) := hBkY.cell 5; have hbN : Below B w _ := Below.trans (by first | assumption | exact Below.drew (by assumption)) hbY))
              all_goals
                go_wp2_with fail
                refine ⟨⟨m + 1, S ++ lnL [32, 32, 32, 32, 97, 116, 32] (lineL x), by omega, by go_num, Lib.hid (by rw [HSK.out, HS.out, List.append_assoc]), ?_, ?_, by assumption⟩, by simp [RowKit.intOf] <;> omega⟩
                · have q3 := lineL_len hxo
                  rw [List.length_append, lnL_len]
                  simp only [List.length_nil, List.length_cons]
                  omega
                · have e : S ++ lnL (⟨#[32, 32, 32, 32, 97, 116, 32]⟩ : ByteArray).data.toList (callB x ++ restB x).data.toList = S ++ lnL [32, 32, 32, 32, 97, 116, 32] (lineL x) := by
                    rw [show (callB x ++ restB x).data.toList = lineL x from app_data _ _]
                  rw [← e]; assumption
            · obtain rfl : m = M := by omega
              have HE := Lib.hid (show S ++ tx (inMore l k) = tx (inUp l (k + 1)) by
                have e1 := HFT.out m HM.out
                rw [HS.out, HTK.out, tx_app, ← HT.out, HT4.out, ← e1]
                simp only [List.append_assoc]
                rfl)
              rw [HMORE.out] at HE
              have hz5 : (⟨#[32, 109, 111, 114, 101]⟩ : ByteArray).size = 5 := rfl
              have hz8 : (⟨#[32, 32, 32, 32, 46, 46, 46, 32]⟩ : ByteArray).size = 8 := rfl
              have HIT2 := Lib.hid (HIT.out w5 hb05)
              have HLX := Lib.hid (show S ++ lnL (⟨#[32, 32, 32, 32, 46, 46, 46, 32]⟩ : ByteArray).data.toList (bs (Lib.itoa s) ++ ⟨#[32, 109, 111, 114, 101]⟩).data.toList = S ++ lnL [32, 32, 32, 32, 46, 46, 46, 32] (Lib.itoa s ++ [32, 109, 111, 114, 101]) by
                rw [app_data, bs_data])
              have hll := bs_size (Lib.itoa s)
              have HLL := Lib.hid hll
              clear hll
              go_wp2_with (first
                | (go_at_call 54; (with_reducible refine HIT2.out.mono ?_); rintro e w8 ⟨rfl, hb8⟩; have hIB9 := isB_keeps hIB5 hb8; have hbw8 := below_call hbw5 hBw5 hb8)
                | (go_at_call 50; (with_reducible refine (line_any B b S ⟨#[32, 32, 32, 32, 46, 46, 46, 32]⟩ _ _ hIB9 (by rw [ByteArray.size_append]; omega) (Nat.le_trans hBw hbw8.size)).mono ?_); rintro e w9 ⟨rfl, hIB10, hb9, hk9⟩; have hbw9 := hbw8.trans hb9))
              rw [HLX.out] at hIB10
              refine ⟨⟨k + 1, _, by omega, by go_num, HE, ?_, hIB10, hbw9⟩, by simp [RowKit.intOf] <;> omega⟩
              rw [List.length_append, lnL_len, List.length_append, ← HLL.out]
              simp only [List.length_nil, List.length_cons]
              omega
    · have HE := Lib.hid (show T = tx (inUp l n) by rw [HT.out, show k = n by omega])
      go_wp2_with fail
      go_end0
      exact ⟨rfl, by rw [← HE.out]; exact hIB, hbw⟩
end Go.Proofs.YtmoofdcoodaaiaaGreatDoor

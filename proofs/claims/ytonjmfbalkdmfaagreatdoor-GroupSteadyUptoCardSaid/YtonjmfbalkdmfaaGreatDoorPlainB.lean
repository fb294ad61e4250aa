/- What plainly and Plain answer. -/
import Derived.Test.YtonjmfbalkdmfaaGreatDoorPlainA
import Derived.Test.YtonjmfbalkdmfaaGreatDoorBuilder
namespace Go.Proofs.YtonjmfbalkdmfaaGreatDoor
open Go.RowKit Go.Lib

theorem idx_index (b : UInt8) : ∀ l : List UInt8, Lib.indexByte l b = match idx b l with | some n => (n : Int) | none => -1
  | [] => rfl
  | c :: l => by
    unfold Lib.indexByte idx
    by_cases h : c = b
    · simp [h]
    · rw [if_neg (by simpa using h), if_neg h, idx_index b l]
      cases idx b l with
      | none => rfl
      | some n => simp only [Option.map_some]; rw [if_neg (by simp)]; rfl
def bs (l : List UInt8) : ByteArray := ⟨l.toArray⟩
theorem bs_data (l : List UInt8) : (bs l).data.toList = l := rfl
theorem bs_size (l : List UInt8) : (bs l).size = l.length := by rw [Lib.size_eq, bs_data]
theorem pre2 {s : List UInt8} : Lib.hasPrefix s [48, 120] = true ↔ s.take 2 = [48, 120] := by
  unfold Lib.hasPrefix
  rw [List.isPrefixOf_iff_prefix, List.prefix_iff_eq_take]
  exact ⟨fun h => h.symm, fun h => h.symm⟩
theorem trim2 {s : List UInt8} (h : Lib.hasPrefix s [48, 120] = true) : Lib.trimPrefix s [48, 120] = s.drop 2 := by
  unfold Lib.trimPrefix; rw [if_pos h]; rfl
theorem trim2_no {s : List UInt8} (h : Lib.hasPrefix s [48, 120] = false) : Lib.trimPrefix s [48, 120] = s := by
  unfold Lib.trimPrefix; rw [if_neg (by rw [h]; decide)]

def TokVal (t : List UInt8 × Nat) : Value := .tuple #[.string (bs t.1), .int .i64 t.2]
theorem tok_one {s : ByteArray} {c : UInt8} {t : List UInt8} (h : s.data.toList = c :: t) : Ending.returned (.tuple #[.string (s.extract 0 1), .int .i64 1]) = .returned (TokVal ([c], 1)) := by
  have : s.extract 0 1 = bs [c] := by rw [Lib.extract_eq, h]; rfl
  rw [this]; rfl

set_option maxHeartbeats 1000000 in
set_option maxRecDepth 100000 in
/-- Behind the first test. -/
theorem plainly_any (s : ByteArray) (w : World) (h0 : 0 < s.size) (hs : s.size ≤ 4611686018427387904) :
    Calls Tryz.prog 8 #[.string s] w fun e w' => e = .returned (TokVal (tok s.data.toList)) ∧ w' = w := by
  have hl := Lib.hid (Lib.size_eq s)
  have HC := Lib.hid (fun W => Tryz.strings_CutPrefix s ⟨#[48, 120]⟩ W)
  have HD := Lib.hid (fun W => rowDig_any s W hs)
  have h00 : 0 < s.data.toList.length := by rw [← hl.out]; exact h0
  obtain ⟨c, t, ht⟩ : ∃ c t, s.data.toList = c :: t := by
    cases h : s.data.toList with
    | nil => rw [h] at h00; simp at h00
    | cons c t => exact ⟨c, t, rfl⟩
  have HX := Lib.hid (show s[0] = c from (show s.data.toList[0] = c by simp [ht]))
  have HT := Lib.hid (show (s.extract 1 s.size).data.toList = t by
    rw [Lib.extract_data, ht]; exact List.take_of_length_le (by have := hl.out; rw [ht, List.length_cons] at this; rw [List.drop_one, List.tail_cons]; omega))
  have HI := Lib.hid (fun W => Tryz.strings_IndexByte (s.extract 1 s.size) 34 W)
  have HJ := Lib.hid (idx_index 34 t)
  have HS := Lib.hid ht
  clear ht
  cases hp : Lib.hasPrefix s.data.toList [48, 120]
  · have hna : ¬ (s.data.toList.take 2 = [48, 120] ∧ 0 < run hx (s.data.toList.drop 2)) := fun h => by rw [pre2.2 h.1] at hp; cases hp
    rw [show (⟨#[48, 120]⟩ : ByteArray).data.toList = [48, 120] from rfl, hp, trim2_no hp] at HC
    clear hp
    go_enter Tryz.func8, Tryz.ntmps8
    by_cases hd : 0 < run dg s.data.toList
    · have HV := Lib.hid (tok_n hna hd)
      rw [HV.out]
      generalize run dg s.data.toList = n at *
      go_wp2_with (first
          | (go_at_call 13; refine (HC.out _).mono ?_; rintro e w1 ⟨rfl, rfl⟩)
          | (go_at_call 14; (with_reducible refine (HD.out _).mono ?_); rintro e w2 ⟨rfl, rfl⟩)
          | (go_at_call 17; refine (HI.out _).mono ?_; rintro e w4 ⟨rfl, rfl⟩))
      go_ret2
      exact ⟨rfl, rfl⟩
    · have hd0 : run dg s.data.toList = 0 := by omega
      rw [hd0] at HD
      clear hd0
      by_cases hc : c = 34
      · have hq : ((s[0].toNat : Int) == 34) = true := by rw [HX.out, hc]; rfl
        subst hc
        rw [HT.out] at HI
        cases hi : idx 34 t with
        | some n =>
          have HV := Lib.hid (show tok s.data.toList = ([60, 115, 62], n + 2) by rw [HS.out]; exact tok_s (by rw [← HS.out]; exact hna) (by rw [← HS.out]; exact hd) hi)
          rw [HV.out]
          have hn : n < s.size := by have := idx_lt hi; have h2 := hl.out; rw [HS.out, List.length_cons] at h2; omega
          rw [show Lib.indexByte t (34 : Int).toNat.toUInt8 = (n : Int) from (HJ.out).trans (by rw [hi])] at HI
          clear hi hd hna
          go_wp2_with (first
              | (go_at_call 13; refine (HC.out _).mono ?_; rintro e w1 ⟨rfl, rfl⟩)
              | (go_at_call 14; (with_reducible refine (HD.out _).mono ?_); rintro e w2 ⟨rfl, rfl⟩)
              | (go_at_call 17; refine (HI.out _).mono ?_; rintro e w4 ⟨rfl, rfl⟩))
          go_ret2
          exact ⟨rfl, rfl⟩
        | none =>
          have HV := Lib.hid (show tok s.data.toList = ([34], 1) by rw [HS.out]; exact tok_q (by rw [← HS.out]; exact hna) (by rw [← HS.out]; exact hd) hi)
          rw [HV.out]
          rw [show Lib.indexByte t (34 : Int).toNat.toUInt8 = -1 from (HJ.out).trans (by rw [hi])] at HI
          clear hi hd hna
          go_wp2_with (first
              | (go_at_call 13; refine (HC.out _).mono ?_; rintro e w1 ⟨rfl, rfl⟩)
              | (go_at_call 14; (with_reducible refine (HD.out _).mono ?_); rintro e w2 ⟨rfl, rfl⟩)
              | (go_at_call 17; refine (HI.out _).mono ?_; rintro e w4 ⟨rfl, rfl⟩))
          go_ret2
          exact ⟨tok_one HS.out, rfl⟩
      · have hq : ((s[0].toNat : Int) == 34) = false := by rw [HX.out]; exact u8_ne hc
        have HV := Lib.hid (show tok s.data.toList = ([c], 1) by rw [HS.out]; exact tok_1 (by rw [← HS.out]; exact hna) (by rw [← HS.out]; exact hd) hc)
        rw [HV.out]
        clear hd hc hna
        go_wp2_with (first
            | (go_at_call 13; refine (HC.out _).mono ?_; rintro e w1 ⟨rfl, rfl⟩)
            | (go_at_call 14; (with_reducible refine (HD.out _).mono ?_); rintro e w2 ⟨rfl, rfl⟩)
            | (go_at_call 17; refine (HI.out _).mono ?_; rintro e w4 ⟨rfl, rfl⟩))
        go_ret2
        exact ⟨tok_one HS.out, rfl⟩
  · rw [show (⟨#[48, 120]⟩ : ByteArray).data.toList = [48, 120] from rfl, hp, trim2 hp] at HC
    have h2 : s.data.toList.take 2 = [48, 120] := pre2.1 hp
    clear hp
    have HR := Lib.hid (fun W => rowHex_any (bs (s.data.toList.drop 2)) W (by rw [bs_size, List.length_drop, ← hl.out]; omega))
    rw [bs_data] at HR
    rw [show (⟨(s.data.toList.drop 2).toArray⟩ : ByteArray) = bs (s.data.toList.drop 2) from rfl] at HC
    by_cases hr : 0 < run hx (s.data.toList.drop 2)
    · have HV := Lib.hid (tok_a h2 hr)
      rw [HV.out]
      have hle : run hx (s.data.toList.drop 2) ≤ s.size := by have := run_le hx (s.data.toList.drop 2); rw [List.length_drop, ← hl.out] at this; omega
      clear h2
      generalize run hx (s.data.toList.drop 2) = n at *
      generalize bs (s.data.toList.drop 2) = r at *
      go_enter Tryz.func8, Tryz.ntmps8
      go_wp2_with (first
        | (go_at_call 13; refine (HC.out _).mono ?_; rintro e w1 ⟨rfl, rfl⟩)
        | (go_at_call 14; (with_reducible refine (HR.out _).mono ?_); rintro e w3 ⟨rfl, rfl⟩))
      go_ret2
      exact ⟨rfl, rfl⟩
    · have hna : ¬ (s.data.toList.take 2 = [48, 120] ∧ 0 < run hx (s.data.toList.drop 2)) := fun h => hr h.2
      have hr0 : run hx (s.data.toList.drop 2) = 0 := by omega
      rw [hr0] at HR
      clear h2 hr hr0
      generalize bs (s.data.toList.drop 2) = r at *
      go_enter Tryz.func8, Tryz.ntmps8
      by_cases hd : 0 < run dg s.data.toList
      · have HV := Lib.hid (tok_n hna hd)
        rw [HV.out]
        generalize run dg s.data.toList = n at *
        go_wp2_with (first
            | (go_at_call 13; refine (HC.out _).mono ?_; rintro e w1 ⟨rfl, rfl⟩)
            | (go_at_call 14; (with_reducible refine (HD.out _).mono ?_); rintro e w2 ⟨rfl, rfl⟩)
            | (go_at_call 14; (with_reducible refine (HR.out _).mono ?_); rintro e w3 ⟨rfl, rfl⟩)
            | (go_at_call 17; refine (HI.out _).mono ?_; rintro e w4 ⟨rfl, rfl⟩))
        go_ret2
        exact ⟨rfl, rfl⟩
      · have hd0 : run dg s.data.toList = 0 := by omega
        rw [hd0] at HD
        clear hd0
        by_cases hc : c = 34
        · have hq : ((s[0].toNat : Int) == 34) = true := by rw [HX.out, hc]; rfl
          subst hc
          rw [HT.out] at HI
          cases hi : idx 34 t with
          | some n =>
            have HV := Lib.hid (show tok s.data.toList = ([60, 115, 62], n + 2) by rw [HS.out]; exact tok_s (by rw [← HS.out]; exact hna) (by rw [← HS.out]; exact hd) hi)
            rw [HV.out]
            have hn : n < s.size := by have := idx_lt hi; have h2 := hl.out; rw [HS.out, List.length_cons] at h2; omega
            rw [show Lib.indexByte t (34 : Int).toNat.toUInt8 = (n : Int) from (HJ.out).trans (by rw [hi])] at HI
            clear hi hd hna
            go_wp2_with (first
                | (go_at_call 13; refine (HC.out _).mono ?_; rintro e w1 ⟨rfl, rfl⟩)
                | (go_at_call 14; (with_reducible refine (HD.out _).mono ?_); rintro e w2 ⟨rfl, rfl⟩)
                | (go_at_call 14; (with_reducible refine (HR.out _).mono ?_); rintro e w3 ⟨rfl, rfl⟩)
                | (go_at_call 17; refine (HI.out _).mono ?_; rintro e w4 ⟨rfl, rfl⟩))
            go_ret2
            exact ⟨rfl, rfl⟩
          | none =>
            have HV := Lib.hid (show tok s.data.toList = ([34], 1) by rw [HS.out]; exact tok_q (by rw [← HS.out]; exact hna) (by rw [← HS.out]; exact hd) hi)
            rw [HV.out]
            rw [show Lib.indexByte t (34 : Int).toNat.toUInt8 = -1 from (HJ.out).trans (by rw [hi])] at HI
            clear hi hd hna
            go_wp2_with (first
                | (go_at_call 13; refine (HC.out _).mono ?_; rintro e w1 ⟨rfl, rfl⟩)
                | (go_at_call 14; (with_reducible refine (HD.out _).mono ?_); rintro e w2 ⟨rfl, rfl⟩)
                | (go_at_call 14; (with_reducible refine (HR.out _).mono ?_); rintro e w3 ⟨rfl, rfl⟩)
                | (go_at_call 17; refine (HI.out _).mono ?_; rintro e w4 ⟨rfl, rfl⟩))
            go_ret2
            exact ⟨tok_one HS.out, rfl⟩
        · have hq : ((s[0].toNat : Int) == 34) = false := by rw [HX.out]; exact u8_ne hc
          have HV := Lib.hid (show tok s.data.toList = ([c], 1) by rw [HS.out]; exact tok_1 (by rw [← HS.out]; exact hna) (by rw [← HS.out]; exact hd) hc)
          rw [HV.out]
          clear hd hc hna
          go_wp2_with (first
              | (go_at_call 13; refine (HC.out _).mono ?_; rintro e w1 ⟨rfl, rfl⟩)
              | (go_at_call 14; (with_reducible refine (HD.out _).mono ?_); rintro e w2 ⟨rfl, rfl⟩)
              | (go_at_call 14; (with_reducible refine (HR.out _).mono ?_); rintro e w3 ⟨rfl, rfl⟩)
              | (go_at_call 17; refine (HI.out _).mono ?_; rintro e w4 ⟨rfl, rfl⟩))
          go_ret2
          exact ⟨tok_one HS.out, rfl⟩
end Go.Proofs.YtonjmfbalkdmfaaGreatDoor

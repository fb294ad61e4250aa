/- The reference's reader of numbers. -/
import Derived.Test.YtffjnomaebjbdacReadP
namespace Go.Proofs.Ytffjnomaebjbdac
open Go.RowKit Go.Lib

set_option maxHeartbeats 4000000 in
set_option maxRecDepth 100000 in
theorem read_R (s : ByteArray) (w : World) (hs : s.size ≤ 281474976710656) :
    Calls Try.prog 8 #[.string s] w fun e w' => e = .returned (rdVal (rdN 0 0 s.data.toList)) ∧ w' = w := by
  go_enter Try.func8, Try.ntmps8
  go_wp2_with fail
  go_loop [2, 3] (fun v2 v3 => ∃ k acc : Nat, k ≤ s.size ∧ k ≤ 7 ∧ v3 = .int .i64 k ∧ v2 = .int .i64 acc ∧ acc < 128 ^ k ∧ rdN 0 0 s.data.toList = rdN k acc (s.data.toList.drop k)) (fun _ v3 => 7 - (intOf v3).toNat)
  case atStart => exact ⟨0, 0, Nat.zero_le _, Nat.zero_le _, rfl, rfl, by decide, rfl⟩
  case round =>
    obtain ⟨k, acc, hk, hk7, rfl, rfl, hacc, heq⟩ := hrel
    have HEQ := Lib.hid heq
    clear heq
    by_cases hltb : k < s.size ∧ k < 7
    · obtain ⟨hlt, hlt7⟩ := hltb
      have HD := Lib.hid (drop_byte hlt)
      obtain rfl | rfl | rfl | rfl | rfl | rfl | rfl : k = 0 ∨ k = 1 ∨ k = 2 ∨ k = 3 ∨ k = 4 ∨ k = 5 ∨ k = 6 := by omega
      · obtain ⟨b, hb⟩ : ∃ b, s[0]'hlt = b := ⟨_, rfl⟩
        have HD2 := Lib.hid (show s.data.toList.drop 0 = b :: s.data.toList.drop 1 by rw [← hb]; exact HD.out)
        obtain ⟨c, hc⟩ : ∃ c : Nat, b.toNat = c := ⟨_, rfl⟩
        obtain ⟨d, hd⟩ : ∃ d : Nat, c % 128 = d := ⟨_, rfl⟩
        have HF := rd_facts (M := 1) (M2 := 128) (by rw [← hc]; exact b.toNat_lt) hd (by rw [show (1 : Nat) = 128 ^ 0 by decide +kernel]; exact hacc) (by decide) (by decide)
        have HS := Lib.hid (rd_steps (k := 0) (M := 1) (acc := acc) (b := b) (l := s.data.toList.drop 1) hc hd (by decide +kernel) (by decide))
        have hc : (s[0]'hlt).toNat = c := by rw [hb]; exact hc
        clear hb hacc hd
        obtain ⟨hwc, hwd0, htm, hwd, hws, hws0, hlt2⟩ := HF
        have HL2 := Lib.hid hlt2
        clear hlt2
        clear hwd hws
        by_cases hbig : 128 ≤ c
        · have hbz : (128 : Int) ≤ (c : Int) := Int.ofNat_le.2 hbig
          have HM := Lib.hid (HS.out.1 hbig)
          clear hbig HS
          go_wp2_with fail
          exact ⟨⟨1, acc + d * 1, hlt, by decide, rfl, by first | rw [hws0, Nat.mul_one, Int.natCast_add] | rw [Nat.mul_one, Int.natCast_add], by rw [show (128 : Nat) ^ 1 = 128 by decide +kernel]; exact HL2.out, by rw [HEQ.out, HD2.out, HM.out]⟩, by simp [intOf]⟩
        · have hbig' := Nat.lt_of_not_le hbig
          have hbz : (c : Int) < 128 := Int.ofNat_lt.2 hbig'
          have hz : ((acc + d * 1 : Nat) : Int) = (acc : Int) + (d : Int) := by rw [Nat.mul_one, Int.natCast_add]
          have HB := Lib.hid (fun h => HS.out.2.1 hbig' h)
          have HG := Lib.hid (fun h => HS.out.2.2 hbig' h)
          clear hbig hbig' HS
          by_cases h1 : 281474976710656 < acc + d * 1
          · have h1z : (281474976710656 : Int) < (acc : Int) + (d : Int) := Int.lt_of_lt_of_le (lt_lit h1) (Int.le_of_eq hz)
            have HR := Lib.hid (show rdVal (rdN 0 0 s.data.toList) = .tuple #[.int .i64 0, .int .i64 0, .int .i64 8] by rw [HEQ.out, HD2.out, HB.out (Or.inl h1)]; rfl)
            clear hz h1
            go_wp2_with fail
            all_goals (go_ret3; exact ⟨by rw [HR.out]; rfl, rfl⟩)
          · have h1z : decide ((281474976710656 : Int) < (acc : Int) + (d : Int)) = false := by rw [decide_eq_false_iff_not]; exact Int.not_lt.2 (Int.le_trans (Int.le_of_eq hz.symm) (le_lit h1))
            by_cases hc0 : c = 0
            · have hcz : ((c : Int) == 0) = true := by rw [beq_iff_eq, hc0]; rfl
              have HR := Lib.hid (show rdVal (rdN 0 0 s.data.toList) = .tuple #[.int .i64 ((acc : Int) + (d : Int)), .int .i64 1, .int .i64 0] by rw [HEQ.out, HD2.out, HG.out (fun h => h.elim h1 (fun h => absurd h.2 (by decide))), ← hz]; rfl)
              clear hz h1 hc0
              go_wp2_with fail
              all_goals (go_ret3; exact ⟨by rw [HR.out]; rfl, rfl⟩)
            · have hcz : ((c : Int) == 0) = false := by rw [beq_eq_false_iff_ne]; exact fun h => hc0 (Int.ofNat_inj.1 h)
              have HR := Lib.hid (show rdVal (rdN 0 0 s.data.toList) = .tuple #[.int .i64 ((acc : Int) + (d : Int)), .int .i64 1, .int .i64 0] by rw [HEQ.out, HD2.out, HG.out (fun h => h.elim h1 (fun h => hc0 h.1)), ← hz]; rfl)
              clear hz h1 hc0
              go_wp2_with fail
              all_goals (go_ret3; exact ⟨by rw [HR.out]; rfl, rfl⟩)
      · obtain ⟨b, hb⟩ : ∃ b, s[1]'hlt = b := ⟨_, rfl⟩
        have HD2 := Lib.hid (show s.data.toList.drop 1 = b :: s.data.toList.drop 2 by rw [← hb]; exact HD.out)
        obtain ⟨c, hc⟩ : ∃ c : Nat, b.toNat = c := ⟨_, rfl⟩
        obtain ⟨d, hd⟩ : ∃ d : Nat, c % 128 = d := ⟨_, rfl⟩
        have HF := rd_facts (M := 128) (M2 := 16384) (by rw [← hc]; exact b.toNat_lt) hd (by rw [show (128 : Nat) = 128 ^ 1 by decide +kernel]; exact hacc) (by decide) (by decide)
        have HS := Lib.hid (rd_steps (k := 1) (M := 128) (acc := acc) (b := b) (l := s.data.toList.drop 2) hc hd (by decide +kernel) (by decide))
        have hc : (s[1]'hlt).toNat = c := by rw [hb]; exact hc
        clear hb hacc hd
        obtain ⟨hwc, hwd0, htm, hwd, hws, hws0, hlt2⟩ := HF
        have HL2 := Lib.hid hlt2
        clear hlt2
        rw [show ((128 : Nat) : Int) = 128 from rfl] at hwd hws
        by_cases hbig : 128 ≤ c
        · have hbz : (128 : Int) ≤ (c : Int) := Int.ofNat_le.2 hbig
          have HM := Lib.hid (HS.out.1 hbig)
          clear hbig HS
          go_wp2_with fail
          exact ⟨⟨2, acc + d * 128, hlt, by decide, rfl, by first | (rw [hws, Int.natCast_add, Int.natCast_mul]; rfl) | (rw [hws0, Int.natCast_add, Nat.mul_one]; done), by rw [show (128 : Nat) ^ 2 = 16384 by decide +kernel]; exact HL2.out, by rw [HEQ.out, HD2.out, HM.out]⟩, by simp [intOf]⟩
        · have hbig' := Nat.lt_of_not_le hbig
          have hbz : (c : Int) < 128 := Int.ofNat_lt.2 hbig'
          have hz : ((acc + d * 128 : Nat) : Int) = (acc : Int) + (d : Int) * 128 := by rw [Int.natCast_add, Int.natCast_mul]; rfl
          have HB := Lib.hid (fun h => HS.out.2.1 hbig' h)
          have HG := Lib.hid (fun h => HS.out.2.2 hbig' h)
          clear hbig hbig' HS
          by_cases h1 : 281474976710656 < acc + d * 128
          · have h1z : (281474976710656 : Int) < (acc : Int) + (d : Int) * 128 := Int.lt_of_lt_of_le (lt_lit h1) (Int.le_of_eq hz)
            have HR := Lib.hid (show rdVal (rdN 0 0 s.data.toList) = .tuple #[.int .i64 0, .int .i64 0, .int .i64 8] by rw [HEQ.out, HD2.out, HB.out (Or.inl h1)]; rfl)
            clear hz h1
            go_wp2_with fail
            all_goals (go_ret3; exact ⟨by rw [HR.out]; rfl, rfl⟩)
          · have h1z : decide ((281474976710656 : Int) < (acc : Int) + (d : Int) * 128) = false := by rw [decide_eq_false_iff_not]; exact Int.not_lt.2 (Int.le_trans (Int.le_of_eq hz.symm) (le_lit h1))
            by_cases hc0 : c = 0
            · have hcz : ((c : Int) == 0) = true := by rw [beq_iff_eq, hc0]; rfl
              have HR := Lib.hid (show rdVal (rdN 0 0 s.data.toList) = .tuple #[.int .i64 0, .int .i64 0, .int .i64 8] by rw [HEQ.out, HD2.out, HB.out (Or.inr ⟨hc0, by decide⟩)]; rfl)
              clear hz h1 hc0
              go_wp2_with fail
              all_goals (go_ret3; exact ⟨by rw [HR.out]; rfl, rfl⟩)
            · have hcz : ((c : Int) == 0) = false := by rw [beq_eq_false_iff_ne]; exact fun h => hc0 (Int.ofNat_inj.1 h)
              have HR := Lib.hid (show rdVal (rdN 0 0 s.data.toList) = .tuple #[.int .i64 ((acc : Int) + (d : Int) * 128), .int .i64 2, .int .i64 0] by rw [HEQ.out, HD2.out, HG.out (fun h => h.elim h1 (fun h => hc0 h.1)), ← hz]; rfl)
              clear hz h1 hc0
              go_wp2_with fail
              all_goals (go_ret3; exact ⟨by rw [HR.out]; rfl, rfl⟩)
      · obtain ⟨b, hb⟩ : ∃ b, s[2]'hlt = b := ⟨_, rfl⟩
        have HD2 := Lib.hid (show s.data.toList.drop 2 = b :: s.data.toList.drop 3 by rw [← hb]; exact HD.out)
        obtain ⟨c, hc⟩ : ∃ c : Nat, b.toNat = c := ⟨_, rfl⟩
        obtain ⟨d, hd⟩ : ∃ d : Nat, c % 128 = d := ⟨_, rfl⟩
        have HF := rd_facts (M := 16384) (M2 := 2097152) (by rw [← hc]; exact b.toNat_lt) hd (by rw [show (16384 : Nat) = 128 ^ 2 by decide +kernel]; exact hacc) (by decide) (by decide)
        have HS := Lib.hid (rd_steps (k := 2) (M := 16384) (acc := acc) (b := b) (l := s.data.toList.drop 3) hc hd (by decide +kernel) (by decide))
        have hc : (s[2]'hlt).toNat = c := by rw [hb]; exact hc
        clear hb hacc hd
        obtain ⟨hwc, hwd0, htm, hwd, hws, hws0, hlt2⟩ := HF
        have HL2 := Lib.hid hlt2
        clear hlt2
        rw [show ((16384 : Nat) : Int) = 16384 from rfl] at hwd hws
        by_cases hbig : 128 ≤ c
        · have hbz : (128 : Int) ≤ (c : Int) := Int.ofNat_le.2 hbig
          have HM := Lib.hid (HS.out.1 hbig)
          clear hbig HS
          go_wp2_with fail
          exact ⟨⟨3, acc + d * 16384, hlt, by decide, rfl, by first | (rw [hws, Int.natCast_add, Int.natCast_mul]; rfl) | (rw [hws0, Int.natCast_add, Nat.mul_one]; done), by rw [show (128 : Nat) ^ 3 = 2097152 by decide +kernel]; exact HL2.out, by rw [HEQ.out, HD2.out, HM.out]⟩, by simp [intOf]⟩
        · have hbig' := Nat.lt_of_not_le hbig
          have hbz : (c : Int) < 128 := Int.ofNat_lt.2 hbig'
          have hz : ((acc + d * 16384 : Nat) : Int) = (acc : Int) + (d : Int) * 16384 := by rw [Int.natCast_add, Int.natCast_mul]; rfl
          have HB := Lib.hid (fun h => HS.out.2.1 hbig' h)
          have HG := Lib.hid (fun h => HS.out.2.2 hbig' h)
          clear hbig hbig' HS
          by_cases h1 : 281474976710656 < acc + d * 16384
          · have h1z : (281474976710656 : Int) < (acc : Int) + (d : Int) * 16384 := Int.lt_of_lt_of_le (lt_lit h1) (Int.le_of_eq hz)
            have HR := Lib.hid (show rdVal (rdN 0 0 s.data.toList) = .tuple #[.int .i64 0, .int .i64 0, .int .i64 8] by rw [HEQ.out, HD2.out, HB.out (Or.inl h1)]; rfl)
            clear hz h1
            go_wp2_with fail
            all_goals (go_ret3; exact ⟨by rw [HR.out]; rfl, rfl⟩)
          · have h1z : decide ((281474976710656 : Int) < (acc : Int) + (d : Int) * 16384) = false := by rw [decide_eq_false_iff_not]; exact Int.not_lt.2 (Int.le_trans (Int.le_of_eq hz.symm) (le_lit h1))
            by_cases hc0 : c = 0
            · have hcz : ((c : Int) == 0) = true := by rw [beq_iff_eq, hc0]; rfl
              have HR := Lib.hid (show rdVal (rdN 0 0 s.data.toList) = .tuple #[.int .i64 0, .int .i64 0, .int .i64 8] by rw [HEQ.out, HD2.out, HB.out (Or.inr ⟨hc0, by decide⟩)]; rfl)
              clear hz h1 hc0
              go_wp2_with fail
              all_goals (go_ret3; exact ⟨by rw [HR.out]; rfl, rfl⟩)
            · have hcz : ((c : Int) == 0) = false := by rw [beq_eq_false_iff_ne]; exact fun h => hc0 (Int.ofNat_inj.1 h)
              have HR := Lib.hid (show rdVal (rdN 0 0 s.data.toList) = .tuple #[.int .i64 ((acc : Int) + (d : Int) * 16384), .int .i64 3, .int .i64 0] by rw [HEQ.out, HD2.out, HG.out (fun h => h.elim h1 (fun h => hc0 h.1)), ← hz]; rfl)
              clear hz h1 hc0
              go_wp2_with fail
              all_goals (go_ret3; exact ⟨by rw [HR.out]; rfl, rfl⟩)
      · obtain ⟨b, hb⟩ : ∃ b, s[3]'hlt = b := ⟨_, rfl⟩
        have HD2 := Lib.hid (show s.data.toList.drop 3 = b :: s.data.toList.drop 4 by rw [← hb]; exact HD.out)
        obtain ⟨c, hc⟩ : ∃ c : Nat, b.toNat = c := ⟨_, rfl⟩
        obtain ⟨d, hd⟩ : ∃ d : Nat, c % 128 = d := ⟨_, rfl⟩
        have HF := rd_facts (M := 2097152) (M2 := 268435456) (by rw [← hc]; exact b.toNat_lt) hd (by rw [show (2097152 : Nat) = 128 ^ 3 by decide +kernel]; exact hacc) (by decide) (by decide)
        have HS := Lib.hid (rd_steps (k := 3) (M := 2097152) (acc := acc) (b := b) (l := s.data.toList.drop 4) hc hd (by decide +kernel) (by decide))
        have hc : (s[3]'hlt).toNat = c := by rw [hb]; exact hc
        clear hb hacc hd
        obtain ⟨hwc, hwd0, htm, hwd, hws, hws0, hlt2⟩ := HF
        have HL2 := Lib.hid hlt2
        clear hlt2
        rw [show ((2097152 : Nat) : Int) = 2097152 from rfl] at hwd hws
        by_cases hbig : 128 ≤ c
        · have hbz : (128 : Int) ≤ (c : Int) := Int.ofNat_le.2 hbig
          have HM := Lib.hid (HS.out.1 hbig)
          clear hbig HS
          go_wp2_with fail
          exact ⟨⟨4, acc + d * 2097152, hlt, by decide, rfl, by first | (rw [hws, Int.natCast_add, Int.natCast_mul]; rfl) | (rw [hws0, Int.natCast_add, Nat.mul_one]; done), by rw [show (128 : Nat) ^ 4 = 268435456 by decide +kernel]; exact HL2.out, by rw [HEQ.out, HD2.out, HM.out]⟩, by simp [intOf]⟩
        · have hbig' := Nat.lt_of_not_le hbig
          have hbz : (c : Int) < 128 := Int.ofNat_lt.2 hbig'
          have hz : ((acc + d * 2097152 : Nat) : Int) = (acc : Int) + (d : Int) * 2097152 := by rw [Int.natCast_add, Int.natCast_mul]; rfl
          have HB := Lib.hid (fun h => HS.out.2.1 hbig' h)
          have HG := Lib.hid (fun h => HS.out.2.2 hbig' h)
          clear hbig hbig' HS
          by_cases h1 : 281474976710656 < acc + d * 2097152
          · have h1z : (281474976710656 : Int) < (acc : Int) + (d : Int) * 2097152 := Int.lt_of_lt_of_le (lt_lit h1) (Int.le_of_eq hz)
            have HR := Lib.hid (show rdVal (rdN 0 0 s.data.toList) = .tuple #[.int .i64 0, .int .i64 0, .int .i64 8] by rw [HEQ.out, HD2.out, HB.out (Or.inl h1)]; rfl)
            clear hz h1
            go_wp2_with fail
            all_goals (go_ret3; exact ⟨by rw [HR.out]; rfl, rfl⟩)
          · have h1z : decide ((281474976710656 : Int) < (acc : Int) + (d : Int) * 2097152) = false := by rw [decide_eq_false_iff_not]; exact Int.not_lt.2 (Int.le_trans (Int.le_of_eq hz.symm) (le_lit h1))
            by_cases hc0 : c = 0
            · have hcz : ((c : Int) == 0) = true := by rw [beq_iff_eq, hc0]; rfl
              have HR := Lib.hid (show rdVal (rdN 0 0 s.data.toList) = .tuple #[.int .i64 0, .int .i64 0, .int .i64 8] by rw [HEQ.out, HD2.out, HB.out (Or.inr ⟨hc0, by decide⟩)]; rfl)
              clear hz h1 hc0
              go_wp2_with fail
              all_goals (go_ret3; exact ⟨by rw [HR.out]; rfl, rfl⟩)
            · have hcz : ((c : Int) == 0) = false := by rw [beq_eq_false_iff_ne]; exact fun h => hc0 (Int.ofNat_inj.1 h)
              have HR := Lib.hid (show rdVal (rdN 0 0 s.data.toList) = .tuple #[.int .i64 ((acc : Int) + (d : Int) * 2097152), .int .i64 4, .int .i64 0] by rw [HEQ.out, HD2.out, HG.out (fun h => h.elim h1 (fun h => hc0 h.1)), ← hz]; rfl)
              clear hz h1 hc0
              go_wp2_with fail
              all_goals (go_ret3; exact ⟨by rw [HR.out]; rfl, rfl⟩)
      · obtain ⟨b, hb⟩ : ∃ b, s[4]'hlt = b := ⟨_, rfl⟩
        have HD2 := Lib.hid (show s.data.toList.drop 4 = b :: s.data.toList.drop 5 by rw [← hb]; exact HD.out)
        obtain ⟨c, hc⟩ : ∃ c : Nat, b.toNat = c := ⟨_, rfl⟩
        obtain ⟨d, hd⟩ : ∃ d : Nat, c % 128 = d := ⟨_, rfl⟩
        have HF := rd_facts (M := 268435456) (M2 := 34359738368) (by rw [← hc]; exact b.toNat_lt) hd (by rw [show (268435456 : Nat) = 128 ^ 4 by decide +kernel]; exact hacc) (by decide) (by decide)
        have HS := Lib.hid (rd_steps (k := 4) (M := 268435456) (acc := acc) (b := b) (l := s.data.toList.drop 5) hc hd (by decide +kernel) (by decide))
        have hc : (s[4]'hlt).toNat = c := by rw [hb]; exact hc
        clear hb hacc hd
        obtain ⟨hwc, hwd0, htm, hwd, hws, hws0, hlt2⟩ := HF
        have HL2 := Lib.hid hlt2
        clear hlt2
        rw [show ((268435456 : Nat) : Int) = 268435456 from rfl] at hwd hws
        by_cases hbig : 128 ≤ c
        · have hbz : (128 : Int) ≤ (c : Int) := Int.ofNat_le.2 hbig
          have HM := Lib.hid (HS.out.1 hbig)
          clear hbig HS
          go_wp2_with fail
          exact ⟨⟨5, acc + d * 268435456, hlt, by decide, rfl, by first | (rw [hws, Int.natCast_add, Int.natCast_mul]; rfl) | (rw [hws0, Int.natCast_add, Nat.mul_one]; done), by rw [show (128 : Nat) ^ 5 = 34359738368 by decide +kernel]; exact HL2.out, by rw [HEQ.out, HD2.out, HM.out]⟩, by simp [intOf]⟩
        · have hbig' := Nat.lt_of_not_le hbig
          have hbz : (c : Int) < 128 := Int.ofNat_lt.2 hbig'
          have hz : ((acc + d * 268435456 : Nat) : Int) = (acc : Int) + (d : Int) * 268435456 := by rw [Int.natCast_add, Int.natCast_mul]; rfl
          have HB := Lib.hid (fun h => HS.out.2.1 hbig' h)
          have HG := Lib.hid (fun h => HS.out.2.2 hbig' h)
          clear hbig hbig' HS
          by_cases h1 : 281474976710656 < acc + d * 268435456
          · have h1z : (281474976710656 : Int) < (acc : Int) + (d : Int) * 268435456 := Int.lt_of_lt_of_le (lt_lit h1) (Int.le_of_eq hz)
            have HR := Lib.hid (show rdVal (rdN 0 0 s.data.toList) = .tuple #[.int .i64 0, .int .i64 0, .int .i64 8] by rw [HEQ.out, HD2.out, HB.out (Or.inl h1)]; rfl)
            clear hz h1
            go_wp2_with fail
            all_goals (go_ret3; exact ⟨by rw [HR.out]; rfl, rfl⟩)
          · have h1z : decide ((281474976710656 : Int) < (acc : Int) + (d : Int) * 268435456) = false := by rw [decide_eq_false_iff_not]; exact Int.not_lt.2 (Int.le_trans (Int.le_of_eq hz.symm) (le_lit h1))
            by_cases hc0 : c = 0
            · have hcz : ((c : Int) == 0) = true := by rw [beq_iff_eq, hc0]; rfl
              have HR := Lib.hid (show rdVal (rdN 0 0 s.data.toList) = .tuple #[.int .i64 0, .int .i64 0, .int .i64 8] by rw [HEQ.out, HD2.out, HB.out (Or.inr ⟨hc0, by decide⟩)]; rfl)
              clear hz h1 hc0
              go_wp2_with fail
              all_goals (go_ret3; exact ⟨by rw [HR.out]; rfl, rfl⟩)
            · have hcz : ((c : Int) == 0) = false := by rw [beq_eq_false_iff_ne]; exact fun h => hc0 (Int.ofNat_inj.1 h)
              have HR := Lib.hid (show rdVal (rdN 0 0 s.data.toList) = .tuple #[.int .i64 ((acc : Int) + (d : Int) * 268435456), .int .i64 5, .int .i64 0] by rw [HEQ.out, HD2.out, HG.out (fun h => h.elim h1 (fun h => hc0 h.1)), ← hz]; rfl)
              clear hz h1 hc0
              go_wp2_with fail
              all_goals (go_ret3; exact ⟨by rw [HR.out]; rfl, rfl⟩)
      · obtain ⟨b, hb⟩ : ∃ b, s[5]'hlt = b := ⟨_, rfl⟩
        have HD2 := Lib.hid (show s.data.toList.drop 5 = b :: s.data.toList.drop 6 by rw [← hb]; exact HD.out)
        obtain ⟨c, hc⟩ : ∃ c : Nat, b.toNat = c := ⟨_, rfl⟩
        obtain ⟨d, hd⟩ : ∃ d : Nat, c % 128 = d := ⟨_, rfl⟩
        have HF := rd_facts (M := 34359738368) (M2 := 4398046511104) (by rw [← hc]; exact b.toNat_lt) hd (by rw [show (34359738368 : Nat) = 128 ^ 5 by decide +kernel]; exact hacc) (by decide) (by decide)
        have HS := Lib.hid (rd_steps (k := 5) (M := 34359738368) (acc := acc) (b := b) (l := s.data.toList.drop 6) hc hd (by decide +kernel) (by decide))
        have hc : (s[5]'hlt).toNat = c := by rw [hb]; exact hc
        clear hb hacc hd
        obtain ⟨hwc, hwd0, htm, hwd, hws, hws0, hlt2⟩ := HF
        have HL2 := Lib.hid hlt2
        clear hlt2
        rw [show ((34359738368 : Nat) : Int) = 34359738368 from rfl] at hwd hws
        by_cases hbig : 128 ≤ c
        · have hbz : (128 : Int) ≤ (c : Int) := Int.ofNat_le.2 hbig
          have HM := Lib.hid (HS.out.1 hbig)
          clear hbig HS
          go_wp2_with fail
          exact ⟨⟨6, acc + d * 34359738368, hlt, by decide, rfl, by first | (rw [hws, Int.natCast_add, Int.natCast_mul]; rfl) | (rw [hws0, Int.natCast_add, Nat.mul_one]; done), by rw [show (128 : Nat) ^ 6 = 4398046511104 by decide +kernel]; exact HL2.out, by rw [HEQ.out, HD2.out, HM.out]⟩, by simp [intOf]⟩
        · have hbig' := Nat.lt_of_not_le hbig
          have hbz : (c : Int) < 128 := Int.ofNat_lt.2 hbig'
          have hz : ((acc + d * 34359738368 : Nat) : Int) = (acc : Int) + (d : Int) * 34359738368 := by rw [Int.natCast_add, Int.natCast_mul]; rfl
          have HB := Lib.hid (fun h => HS.out.2.1 hbig' h)
          have HG := Lib.hid (fun h => HS.out.2.2 hbig' h)
          clear hbig hbig' HS
          by_cases h1 : 281474976710656 < acc + d * 34359738368
          · have h1z : (281474976710656 : Int) < (acc : Int) + (d : Int) * 34359738368 := Int.lt_of_lt_of_le (lt_lit h1) (Int.le_of_eq hz)
            have HR := Lib.hid (show rdVal (rdN 0 0 s.data.toList) = .tuple #[.int .i64 0, .int .i64 0, .int .i64 8] by rw [HEQ.out, HD2.out, HB.out (Or.inl h1)]; rfl)
            clear hz h1
            go_wp2_with fail
            all_goals (go_ret3; exact ⟨by rw [HR.out]; rfl, rfl⟩)
          · have h1z : decide ((281474976710656 : Int) < (acc : Int) + (d : Int) * 34359738368) = false := by rw [decide_eq_false_iff_not]; exact Int.not_lt.2 (Int.le_trans (Int.le_of_eq hz.symm) (le_lit h1))
            by_cases hc0 : c = 0
            · have hcz : ((c : Int) == 0) = true := by rw [beq_iff_eq, hc0]; rfl
              have HR := Lib.hid (show rdVal (rdN 0 0 s.data.toList) = .tuple #[.int .i64 0, .int .i64 0, .int .i64 8] by rw [HEQ.out, HD2.out, HB.out (Or.inr ⟨hc0, by decide⟩)]; rfl)
              clear hz h1 hc0
              go_wp2_with fail
              all_goals (go_ret3; exact ⟨by rw [HR.out]; rfl, rfl⟩)
            · have hcz : ((c : Int) == 0) = false := by rw [beq_eq_false_iff_ne]; exact fun h => hc0 (Int.ofNat_inj.1 h)
              have HR := Lib.hid (show rdVal (rdN 0 0 s.data.toList) = .tuple #[.int .i64 ((acc : Int) + (d : Int) * 34359738368), .int .i64 6, .int .i64 0] by rw [HEQ.out, HD2.out, HG.out (fun h => h.elim h1 (fun h => hc0 h.1)), ← hz]; rfl)
              clear hz h1 hc0
              go_wp2_with fail
              all_goals (go_ret3; exact ⟨by rw [HR.out]; rfl, rfl⟩)
      · obtain ⟨b, hb⟩ : ∃ b, s[6]'hlt = b := ⟨_, rfl⟩
        have HD2 := Lib.hid (show s.data.toList.drop 6 = b :: s.data.toList.drop 7 by rw [← hb]; exact HD.out)
        obtain ⟨c, hc⟩ : ∃ c : Nat, b.toNat = c := ⟨_, rfl⟩
        obtain ⟨d, hd⟩ : ∃ d : Nat, c % 128 = d := ⟨_, rfl⟩
        have HF := rd_facts (M := 4398046511104) (M2 := 562949953421312) (by rw [← hc]; exact b.toNat_lt) hd (by rw [show (4398046511104 : Nat) = 128 ^ 6 by decide +kernel]; exact hacc) (by decide) (by decide)
        have HS := Lib.hid (rd_steps (k := 6) (M := 4398046511104) (acc := acc) (b := b) (l := s.data.toList.drop 7) hc hd (by decide +kernel) (by decide))
        have hc : (s[6]'hlt).toNat = c := by rw [hb]; exact hc
        clear hb hacc hd
        obtain ⟨hwc, hwd0, htm, hwd, hws, hws0, hlt2⟩ := HF
        have HL2 := Lib.hid hlt2
        clear hlt2
        rw [show ((4398046511104 : Nat) : Int) = 4398046511104 from rfl] at hwd hws
        by_cases hbig : 128 ≤ c
        · have hbz : (128 : Int) ≤ (c : Int) := Int.ofNat_le.2 hbig
          have HM := Lib.hid (HS.out.1 hbig)
          clear hbig HS
          go_wp2_with fail
          exact ⟨⟨7, acc + d * 4398046511104, hlt, by decide, rfl, by first | (rw [hws, Int.natCast_add, Int.natCast_mul]; rfl) | (rw [hws0, Int.natCast_add, Nat.mul_one]; done), by rw [show (128 : Nat) ^ 7 = 562949953421312 by decide +kernel]; exact HL2.out, by rw [HEQ.out, HD2.out, HM.out]⟩, by simp [intOf]⟩
        · have hbig' := Nat.lt_of_not_le hbig
          have hbz : (c : Int) < 128 := Int.ofNat_lt.2 hbig'
          have hz : ((acc + d * 4398046511104 : Nat) : Int) = (acc : Int) + (d : Int) * 4398046511104 := by rw [Int.natCast_add, Int.natCast_mul]; rfl
          have HB := Lib.hid (fun h => HS.out.2.1 hbig' h)
          have HG := Lib.hid (fun h => HS.out.2.2 hbig' h)
          clear hbig hbig' HS
          by_cases h1 : 281474976710656 < acc + d * 4398046511104
          · have h1z : (281474976710656 : Int) < (acc : Int) + (d : Int) * 4398046511104 := Int.lt_of_lt_of_le (lt_lit h1) (Int.le_of_eq hz)
            have HR := Lib.hid (show rdVal (rdN 0 0 s.data.toList) = .tuple #[.int .i64 0, .int .i64 0, .int .i64 8] by rw [HEQ.out, HD2.out, HB.out (Or.inl h1)]; rfl)
            clear hz h1
            go_wp2_with fail
            all_goals (go_ret3; exact ⟨by rw [HR.out]; rfl, rfl⟩)
          · have h1z : decide ((281474976710656 : Int) < (acc : Int) + (d : Int) * 4398046511104) = false := by rw [decide_eq_false_iff_not]; exact Int.not_lt.2 (Int.le_trans (Int.le_of_eq hz.symm) (le_lit h1))
            by_cases hc0 : c = 0
            · have hcz : ((c : Int) == 0) = true := by rw [beq_iff_eq, hc0]; rfl
              have HR := Lib.hid (show rdVal (rdN 0 0 s.data.toList) = .tuple #[.int .i64 0, .int .i64 0, .int .i64 8] by rw [HEQ.out, HD2.out, HB.out (Or.inr ⟨hc0, by decide⟩)]; rfl)
              clear hz h1 hc0
              go_wp2_with fail
              all_goals (go_ret3; exact ⟨by rw [HR.out]; rfl, rfl⟩)
            · have hcz : ((c : Int) == 0) = false := by rw [beq_eq_false_iff_ne]; exact fun h => hc0 (Int.ofNat_inj.1 h)
              have HR := Lib.hid (show rdVal (rdN 0 0 s.data.toList) = .tuple #[.int .i64 ((acc : Int) + (d : Int) * 4398046511104), .int .i64 7, .int .i64 0] by rw [HEQ.out, HD2.out, HG.out (fun h => h.elim h1 (fun h => hc0 h.1)), ← hz]; rfl)
              clear hz h1 hc0
              go_wp2_with fail
              all_goals (go_ret3; exact ⟨by rw [HR.out]; rfl, rfl⟩)
    · by_cases hlt : k < s.size
      · have hk8 : k = 7 := by omega
        have HR := Lib.hid (show rdVal (rdN 0 0 s.data.toList) = .tuple #[.int .i64 0, .int .i64 0, .int .i64 8] by rw [HEQ.out, rdN_seven (by omega)]; rfl)
        subst hk8
        clear hltb
        go_wp2_with fail
        go_ret3
        exact ⟨by rw [HR.out]; rfl, rfl⟩
      · have HR := Lib.hid (show rdVal (rdN 0 0 s.data.toList) = .tuple #[.int .i64 0, .int .i64 0, .int .i64 8] by rw [HEQ.out, drop_all hlt, rdN_end]; rfl)
        clear hltb
        go_wp2_with fail
        go_ret3
        exact ⟨by rw [HR.out]; rfl, rfl⟩
end Go.Proofs.Ytffjnomaebjbdac

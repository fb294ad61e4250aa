/- What the two readers of numbers answer. -/
import Derived.Test.YtffjnomaebjbdacNumB
import Derived.Laws.Shifts
namespace Go.Proofs.Ytffjnomaebjbdac
open Go.RowKit Go.Lib

theorem drop_byte {s : ByteArray} {k : Nat} (h : k < s.size) : s.data.toList.drop k = s[k] :: s.data.toList.drop (k + 1) := by
  have h' : k < s.data.toList.length := by simpa using h
  rw [List.drop_eq_getElem_cons h']
  rfl
theorem drop_all {s : ByteArray} {k : Nat} (h : ¬ k < s.size) : s.data.toList.drop k = [] := by
  rw [List.drop_eq_nil_iff]; simpa using h

theorem wrap64_is {n : Int} (h1 : -9223372036854775808 ≤ n) (h2 : n ≤ 9223372036854775807) : wrap64 n = n := by unfold wrap64; omega
theorem lt_lit {x : Nat} (h : 281474976710656 < x) : (281474976710656 : Int) < (x : Int) := by omega
theorem le_lit {x : Nat} (h : ¬ 281474976710656 < x) : (x : Int) ≤ 281474976710656 := by omega
theorem rd_facts {c d acc M M2 : Nat} (hc : c < 256) (hd : c % 128 = d) (ha : acc < M) (hM : M ≤ 4398046511104) (hM2 : M * 128 = M2) :
    wrap64 (c : Int) = (c : Int) ∧ wrap64 (d : Int) = (d : Int) ∧ Int.tmod (c : Int) 128 = (d : Int) ∧ wrap64 ((d : Int) * (M : Int)) = (d : Int) * (M : Int) ∧ wrap64 ((acc : Int) + (d : Int) * (M : Int)) = (acc : Int) + (d : Int) * (M : Int) ∧ wrap64 ((acc : Int) + (d : Int)) = (acc : Int) + (d : Int) ∧ acc + d * M < M2 := by
  have hd1 : d ≤ 127 := by omega
  have hm : d * M ≤ 127 * M := Nat.mul_le_mul_right _ hd1
  have hz : ((d * M : Nat) : Int) = (d : Int) * (M : Int) := Int.natCast_mul _ _
  rw [← hz]
  generalize d * M = q at *
  refine ⟨wrap64_is (by omega) (by omega), wrap64_is (by omega) (by omega), ?_, wrap64_is (by omega) (by omega), wrap64_is (by omega) (by omega), wrap64_is (by omega) (by omega), by omega⟩
  rw [Int.tmod_eq_emod_of_nonneg (by omega)]; omega
theorem rd_steps {k M acc c d : Nat} {b : UInt8} {l : List UInt8} (hc : b.toNat = c) (hd : c % 128 = d) (hM : 128 ^ k = M) (hk : k < 7) :
    (128 ≤ c → rdN k acc (b :: l) = rdN (k + 1) (acc + d * M) l) ∧
    (c < 128 → (281474976710656 < acc + d * M ∨ (c = 0 ∧ 0 < k)) → rdN k acc (b :: l) = none) ∧
    (c < 128 → ¬ (281474976710656 < acc + d * M ∨ (c = 0 ∧ 0 < k)) → rdN k acc (b :: l) = some (acc + d * M, k + 1)) := by
  subst hc hd hM
  exact ⟨fun h => rdN_more hk h, fun h1 h2 => rdN_bad h1 h2, fun h1 h2 => rdN_good hk h1 h2⟩

/-- What a reader of numbers hands back. -/
def rdVal : Option (Nat × Nat) → Value
  | none => .tuple #[.int .i64 0, .int .i64 0, .int .i64 8]
  | some p => .tuple #[.int .i64 p.1, .int .i64 p.2, .int .i64 0]


set_option maxHeartbeats 4000000 in
set_option maxRecDepth 100000 in
theorem read_small (s : ByteArray) (w : World) (hs : s.size ≤ 281474976710656) (hm : s.size ≤ 7) :
    Calls Try.prog 7 #[.string s] w fun e w' => e = .returned (rdVal (rdN 0 0 s.data.toList)) ∧ w' = w := by
  have hmz : (s.size : Int) ≤ 7 := by omega
  go_enter Try.func7, Try.ntmps7
  go_wp2_with fail
  go_loop [2, 10] (fun v2 v10 => ∃ k acc : Nat, k ≤ s.size ∧ k ≤ 7 ∧ v10 = .int .i64 k ∧ v2 = .int .i64 acc ∧ acc < 128 ^ k ∧ rdN 0 0 s.data.toList = rdN k acc (s.data.toList.drop k)) (fun _ v10 => 7 - (intOf v10).toNat)
  case atStart => exact ⟨0, 0, Nat.zero_le _, Nat.zero_le _, rfl, rfl, by decide, rfl⟩
  case round =>
    obtain ⟨k, acc, hk, hk7, rfl, rfl, hacc, heq⟩ := hrel
    have HEQ := Lib.hid heq
    clear heq
    by_cases hlt : k < s.size
    · have HD := Lib.hid (drop_byte hlt)
      obtain rfl | rfl | rfl | rfl | rfl | rfl | rfl : k = 0 ∨ k = 1 ∨ k = 2 ∨ k = 3 ∨ k = 4 ∨ k = 5 ∨ k = 6 := by omega
      · obtain ⟨b, hb⟩ : ∃ b, s[0]'hlt = b := ⟨_, rfl⟩
        have HD2 := Lib.hid (show s.data.toList.drop 0 = b :: s.data.toList.drop 1 by rw [← hb]; exact HD.out)
        obtain ⟨c, hc⟩ : ∃ c : Nat, b.toNat = c := ⟨_, rfl⟩
        obtain ⟨d, hd⟩ : ∃ d : Nat, c % 128 = d := ⟨_, rfl⟩
        have HF := rd_facts (M := 1) (M2 := 128) (by rw [← hc]; exact b.toNat_lt) hd (by rw [show (1 : Nat) = 128 ^ 0 by decide +kernel]; exact hacc) (by decide) (by decide)
        have HS := Lib.hid (rd_steps (k := 0) (M := 1) (acc := acc) (b := b) (l := s.data.toList.drop 1) hc hd (by decide +kernel) (by decide))
        have hc : (s[0]'hlt).toNat = c := by rw [hb]; exact hc
        clear hb hacc hd
        obtain ⟨hwc, hwd0, htm, hwd, hws, hws0, hlt2⟩ := HF
        have HL2 := Lib.hid hlt2
        clear hlt2
        clear hwd hws
        by_cases hbig : 128 ≤ c
        · have hbz : (128 : Int) ≤ (c : Int) := Int.ofNat_le.2 hbig
          have HM := Lib.hid (HS.out.1 hbig)
          clear hbig HS
          go_wp2_with fail
          exact ⟨⟨1, acc + d * 1, hlt, by decide, rfl, by first | rw [hws0, Nat.mul_one, Int.natCast_add] | rw [Nat.mul_one, Int.natCast_add], by rw [show (128 : Nat) ^ 1 = 128 by decide +kernel]; exact HL2.out, by rw [HEQ.out, HD2.out, HM.out]⟩, by simp [intOf]⟩
        · have hbig' := Nat.lt_of_not_le hbig
          have hbz : (c : Int) < 128 := Int.ofNat_lt.2 hbig'
          have hz : ((acc + d * 1 : Nat) : Int) = (acc : Int) + (d : Int) := by rw [Nat.mul_one, Int.natCast_add]
          have HB := Lib.hid (fun h => HS.out.2.1 hbig' h)
          have HG := Lib.hid (fun h => HS.out.2.2 hbig' h)
          clear hbig hbig' HS
          by_cases h1 : 281474976710656 < acc + d * 1
          · have h1z : (281474976710656 : Int) < (acc : Int) + (d : Int) := Int.lt_of_lt_of_le (lt_lit h1) (Int.le_of_eq hz)
            have HR := Lib.hid (show rdVal (rdN 0 0 s.data.toList) = .tuple #[.int .i64 0, .int .i64 0, .int .i64 8] by rw [HEQ.out, HD2.out, HB.out (Or.inl h1)]; rfl)
            clear hz h1
            go_wp2_with fail
            all_goals (go_ret3; exact ⟨by rw [HR.out]; rfl, rfl⟩)
          · have h1z : decide ((281474976710656 : Int) < (acc : Int) + (d : Int)) = false := by rw [decide_eq_false_iff_not]; exact Int.not_lt.2 (Int.le_trans (Int.le_of_eq hz.symm) (le_lit h1))
            by_cases hc0 : c = 0
            · have hcz : ((c : Int) == 0) = true := by rw [beq_iff_eq, hc0]; rfl
              have HR := Lib.hid (show rdVal (rdN 0 0 s.data.toList) = .tuple #[.int .i64 ((acc : Int) + (d : Int)), .int .i64 1, .int .i64 0] by rw [HEQ.out, HD2.out, HG.out (fun h => h.elim h1 (fun h => absurd h.2 (by decide))), ← hz]; rfl)
              clear hz h1 hc0
              go_wp2_with fail
              all_goals (go_ret3; exact ⟨by rw [HR.out]; rfl, rfl⟩)
            · have hcz : ((c : Int) == 0) = false := by rw [beq_eq_false_iff_ne]; exact fun h => hc0 (Int.ofNat_inj.1 h)
              have HR := Lib.hid (show rdVal (rdN 0 0 s.data.toList) = .tuple #[.int .i64 ((acc : Int) + (d : Int)), .int .i64 1, .int .i64 0] by rw [HEQ.out, HD2.out, HG.out (fun h => h.elim h1 (fun h => hc0 h.1)), ← hz]; rfl)
              clear hz h1 hc0
              go_wp2_with fail
              all_goals (go_ret3; exact ⟨by rw [HR.out]; rfl, rfl⟩)
      · obtain ⟨b, hb⟩ : ∃ b, s[1]'hlt = b := ⟨_, rfl⟩
        have HD2 := Lib.hid (show s.data.toList.drop 1 = b :: s.data.toList.drop 2 by rw [← hb]; exact HD.out)
        obtain ⟨c, hc⟩ : ∃ c : Nat, b.toNat = c := ⟨_, rfl⟩
        obtain ⟨d, hd⟩ : ∃ d : Nat, c % 128 = d := ⟨_, rfl⟩
        have HF := rd_facts (M := 128) (M2 := 16384) (by rw [← hc]; exact b.toNat_lt) hd (by rw [show (128 : Nat) = 128 ^ 1 by decide +kernel]; exact hacc) (by decide) (by decide)
        have HS := Lib.hid (rd_steps (k := 1) (M := 128) (acc := acc) (b := b) (l := s.data.toList.drop 2) hc hd (by decide +kernel) (by decide))
        have hc : (s[1]'hlt).toNat = c := by rw [hb]; exact hc
        clear hb hacc hd
        obtain ⟨hwc, hwd0, htm, hwd, hws, hws0, hlt2⟩ := HF
        have HL2 := Lib.hid hlt2
        clear hlt2
        rw [show ((128 : Nat) : Int) = 128 from rfl] at hwd hws
        by_cases hbig : 128 ≤ c
        · have hbz : (128 : Int) ≤ (c : Int) := Int.ofNat_le.2 hbig
          have HM := Lib.hid (HS.out.1 hbig)
          clear hbig HS
          go_wp2_with fail
          exact ⟨⟨2, acc + d * 128, hlt, by decide, rfl, by first | (rw [hws, Int.natCast_add, Int.natCast_mul]; rfl) | (rw [hws0, Int.natCast_add, Nat.mul_one]; done), by rw [show (128 : Nat) ^ 2 = 16384 by decide +kernel]; exact HL2.out, by rw [HEQ.out, HD2.out, HM.out]⟩, by simp [intOf]⟩
        · have hbig' := Nat.lt_of_not_le hbig
          have hbz : (c : Int) < 128 := Int.ofNat_lt.2 hbig'
          have hz : ((acc + d * 128 : Nat) : Int) = (acc : Int) + (d : Int) * 128 := by rw [Int.natCast_add, Int.natCast_mul]; rfl
          have HB := Lib.hid (fun h => HS.out.2.1 hbig' h)
          have HG := Lib.hid (fun h => HS.out.2.2 hbig' h)
          clear hbig hbig' HS
          by_cases h1 : 281474976710656 < acc + d * 128
          · have h1z : (281474976710656 : Int) < (acc : Int) + (d : Int) * 128 := Int.lt_of_lt_of_le (lt_lit h1) (Int.le_of_eq hz)
            have HR := Lib.hid (show rdVal (rdN 0 0 s.data.toList) = .tuple #[.int .i64 0, .int .i64 0, .int .i64 8] by rw [HEQ.out, HD2.out, HB.out (Or.inl h1)]; rfl)
            clear hz h1
            go_wp2_with fail
            all_goals (go_ret3; exact ⟨by rw [HR.out]; rfl, rfl⟩)
          · have h1z : decide ((281474976710656 : Int) < (acc : Int) + (d : Int) * 128) = false := by rw [decide_eq_false_iff_not]; exact Int.not_lt.2 (Int.le_trans (Int.le_of_eq hz.symm) (le_lit h1))
            by_cases hc0 : c = 0
            · have hcz : ((c : Int) == 0) = true := by rw [beq_iff_eq, hc0]; rfl
              have HR := Lib.hid (show rdVal (rdN 0 0 s.data.toList) = .tuple #[.int .i64 0, .int .i64 0, .int .i64 8] by rw [HEQ.out, HD2.out, HB.out (Or.inr ⟨hc0, by decide⟩)]; rfl)
              clear hz h1 hc0
              go_wp2_with fail
              all_goals (go_ret3; exact ⟨by rw [HR.out]; rfl, rfl⟩)
            · have hcz : ((c : Int) == 0) = false := by rw [beq_eq_false_iff_ne]; exact fun h => hc0 (Int.ofNat_inj.1 h)
              have HR := Lib.hid (show rdVal (rdN 0 0 s.data.toList) = .tuple #[.int .i64 ((acc : Int) + (d : Int) * 128), .int .i64 2, .int .i64 0] by rw [HEQ.out, HD2.out, HG.out (fun h => h.elim h1 (fun h => hc0 h.1)), ← hz]; rfl)
              clear hz h1 hc0
              go_wp2_with fail
              all_goals (go_ret3; exact ⟨by rw [HR.out]; rfl, rfl⟩)
      · obtain ⟨b, hb⟩ : ∃ b, s[2]'hlt = b := ⟨_, rfl⟩
        have HD2 := Lib.hid (show s.data.toList.drop 2 = b :: s.data.toList.drop 3 by rw [← hb]; exact HD.out)
        obtain ⟨c, hc⟩ : ∃ c : Nat, b.toNat = c := ⟨_, rfl⟩
        obtain ⟨d, hd⟩ : ∃ d : Nat, c % 128 = d := ⟨_, rfl⟩
        have HF := rd_facts (M := 16384) (M2 := 2097152) (by rw [← hc]; exact b.toNat_lt) hd (by rw [show (16384 : Nat) = 128 ^ 2 by decide +kernel]; exact hacc) (by decide) (by decide)
        have HS := Lib.hid (rd_steps (k := 2) (M := 16384) (acc := acc) (b := b) (l := s.data.toList.drop 3) hc hd (by decide +kernel) (by decide))
        have hc : (s[2]'hlt).toNat = c := by rw [hb]; exact hc
        clear hb hacc hd
        obtain ⟨hwc, hwd0, htm, hwd, hws, hws0, hlt2⟩ := HF
        have HL2 := Lib.hid hlt2
        clear hlt2
        rw [show ((16384 : Nat) : Int) = 16384 from rfl] at hwd hws
        by_cases hbig : 128 ≤ c
        · have hbz : (128 : Int) ≤ (c : Int) := Int.ofNat_le.2 hbig
          have HM := Lib.hid (HS.out.1 hbig)
          clear hbig HS
          go_wp2_with fail
          exact ⟨⟨3, acc + d * 16384, hlt, by decide, rfl, by first | (rw [hws, Int.natCast_add, Int.natCast_mul]; rfl) | (rw [hws0, Int.natCast_add, Nat.mul_one]; done), by rw [show (128 : Nat) ^ 3 = 2097152 by decide +kernel]; exact HL2.out, by rw [HEQ.out, HD2.out, HM.out]⟩, by simp [intOf]⟩
        · have hbig' := Nat.lt_of_not_le hbig
          have hbz : (c : Int) < 128 := Int.ofNat_lt.2 hbig'
          have hz : ((acc + d * 16384 : Nat) : Int) = (acc : Int) + (d : Int) * 16384 := by rw [Int.natCast_add, Int.natCast_mul]; rfl
          have HB := Lib.hid (fun h => HS.out.2.1 hbig' h)
          have HG := Lib.hid (fun h => HS.out.2.2 hbig' h)
          clear hbig hbig' HS
          by_cases h1 : 281474976710656 < acc + d * 16384
          · have h1z : (281474976710656 : Int) < (acc : Int) + (d : Int) * 16384 := Int.lt_of_lt_of_le (lt_lit h1) (Int.le_of_eq hz)
            have HR := Lib.hid (show rdVal (rdN 0 0 s.data.toList) = .tuple #[.int .i64 0, .int .i64 0, .int .i64 8] by rw [HEQ.out, HD2.out, HB.out (Or.inl h1)]; rfl)
            clear hz h1
            go_wp2_with fail
            all_goals (go_ret3; exact ⟨by rw [HR.out]; rfl, rfl⟩)
          · have h1z : decide ((281474976710656 : Int) < (acc : Int) + (d : Int) * 16384) = false := by rw [decide_eq_false_iff_not]; exact Int.not_lt.2 (Int.le_trans (Int.le_of_eq hz.symm) (le_lit h1))
            by_cases hc0 : c = 0
            · have hcz : ((c : Int) == 0) = true := by rw [beq_iff_eq, hc0]; rfl
              have HR := Lib.hid (show rdVal (rdN 0 0 s.data.toList) = .tuple #[.int .i64 0, .int .i64 0, .int .i64 8] by rw [HEQ.out, HD2.out, HB.out (Or.inr ⟨hc0, by decide⟩)]; rfl)
              clear hz h1 hc0
              go_wp2_with fail
              all_goals (go_ret3; exact ⟨by rw [HR.out]; rfl, rfl⟩)
            · have hcz : ((c : Int) == 0) = false := by rw [beq_eq_false_iff_ne]; exact fun h => hc0 (Int.ofNat_inj.1 h)
              have HR := Lib.hid (show rdVal (rdN 0 0 s.data.toList) = .tuple #[.int .i64 ((acc : Int) + (d : Int) * 16384), .int .i64 3, .int .i64 0] by rw [HEQ.out, HD2.out, HG.out (fun h => h.elim h1 (fun h => hc0 h.1)), ← hz]; rfl)
              clear hz h1 hc0
              go_wp2_with fail
              all_goals (go_ret3; exact ⟨by rw [HR.out]; rfl, rfl⟩)
      · obtain ⟨b, hb⟩ : ∃ b, s[3]'hlt = b := ⟨_, rfl⟩
        have HD2 := Lib.hid (show s.data.toList.drop 3 = b :: s.data.toList.drop 4 by rw [← hb]; exact HD.out)
        obtain ⟨c, hc⟩ : ∃ c : Nat, b.toNat = c := ⟨_, rfl⟩
        obtain ⟨d, hd⟩ : ∃ d : Nat, c % 128 = d := ⟨_, rfl⟩
        have HF := rd_facts (M := 2097152) (M2 := 268435456) (by rw [← hc]; exact b.toNat_lt) hd (by rw [show (2097152 : Nat) = 128 ^ 3 by decide +kernel]; exact hacc) (by decide) (by decide)
        have HS := Lib.hid (rd_steps (k := 3) (M := 2097152) (acc := acc) (b := b) (l := s.data.toList.drop 4) hc hd (by decide +kernel) (by decide))
        have hc : (s[3]'hlt).toNat = c := by rw [hb]; exact hc
        clear hb hacc hd
        obtain ⟨hwc, hwd0, htm, hwd, hws, hws0, hlt2⟩ := HF
        have HL2 := Lib.hid hlt2
        clear hlt2
        rw [show ((2097152 : Nat) : Int) = 2097152 from rfl] at hwd hws
        by_cases hbig : 128 ≤ c
        · have hbz : (128 : Int) ≤ (c : Int) := Int.ofNat_le.2 hbig
          have HM := Lib.hid (HS.out.1 hbig)
          clear hbig HS
          go_wp2_with fail
          exact ⟨⟨4, acc + d * 2097152, hlt, by decide, rfl, by first | (rw [hws, Int.natCast_add, Int.natCast_mul]; rfl) | (rw [hws0, Int.natCast_add, Nat.mul_one]; done), by rw [show (128 : Nat) ^ 4 = 268435456 by decide +kernel]; exact HL2.out, by rw [HEQ.out, HD2.out, HM.out]⟩, by simp [intOf]⟩
        · have hbig' := Nat.lt_of_not_le hbig
          have hbz : (c : Int) < 128 := Int.ofNat_lt.2 hbig'
          have hz : ((acc + d * 2097152 : Nat) : Int) = (acc : Int) + (d : Int) * 2097152 := by rw [Int.natCast_add, Int.natCast_mul]; rfl
          have HB := Lib.hid (fun h => HS.out.2.1 hbig' h)
          have HG := Lib.hid (fun h => HS.out.2.2 hbig' h)
          clear hbig hbig' HS
          by_cases h1 : 281474976710656 < acc + d * 2097152
          · have h1z : (281474976710656 : Int) < (acc : Int) + (d : Int) * 2097152 := Int.lt_of_lt_of_le (lt_lit h1) (Int.le_of_eq hz)
            have HR := Lib.hid (show rdVal (rdN 0 0 s.data.toList) = .tuple #[.int .i64 0, .int .i64 0, .int .i64 8] by rw [HEQ.out, HD2.out, HB.out (Or.inl h1)]; rfl)
            clear hz h1
            go_wp2_with fail
            all_goals (go_ret3; exact ⟨by rw [HR.out]; rfl, rfl⟩)
          · have h1z : decide ((281474976710656 : Int) < (acc : Int) + (d : Int) * 2097152) = false := by rw [decide_eq_false_iff_not]; exact Int.not_lt.2 (Int.le_trans (Int.le_of_eq hz.symm) (le_lit h1))
            by_cases hc0 : c = 0
            · have hcz : ((c : Int) == 0) = true := by rw [beq_iff_eq, hc0]; rfl
              have HR := Lib.hid (show rdVal (rdN 0 0 s.data.toList) = .tuple #[.int .i64 0, .int .i64 0, .int .i64 8] by rw [HEQ.out, HD2.out, HB.out (Or.inr ⟨hc0, by decide⟩)]; rfl)
              clear hz h1 hc0
              go_wp2_with fail
              all_goals (go_ret3; exact ⟨by rw [HR.out]; rfl, rfl⟩)
            · have hcz : ((c : Int) == 0) = false := by rw [beq_eq_false_iff_ne]; exact fun h => hc0 (Int.ofNat_inj.1 h)
              have HR := Lib.hid (show rdVal (rdN 0 0 s.data.toList) = .tuple #[.int .i64 ((acc : Int) + (d : Int) * 2097152), .int .i64 4, .int .i64 0] by rw [HEQ.out, HD2.out, HG.out (fun h => h.elim h1 (fun h => hc0 h.1)), ← hz]; rfl)
              clear hz h1 hc0
              go_wp2_with fail
              all_goals (go_ret3; exact ⟨by rw [HR.out]; rfl, rfl⟩)
      · obtain ⟨b, hb⟩ : ∃ b, s[4]'hlt = b := ⟨_, rfl⟩
        have HD2 := Lib.hid (show s.data.toList.drop 4 = b :: s.data.toList.drop 5 by rw [← hb]; exact HD.out)
        obtain ⟨c, hc⟩ : ∃ c : Nat, b.toNat = c := ⟨_, rfl⟩
        obtain ⟨d, hd⟩ : ∃ d : Nat, c % 128 = d := ⟨_, rfl⟩
        have HF := rd_facts (M := 268435456) (M2 := 34359738368) (by rw [← hc]; exact b.toNat_lt) hd (by rw [show (268435456 : Nat) = 128 ^ 4 by decide +kernel]; exact hacc) (by decide) (by decide)
        have HS := Lib.hid (rd_steps (k := 4) (M := 268435456) (acc := acc) (b := b) (l := s.data.toList.drop 5) hc hd (by decide +kernel) (by decide))
        have hc : (s[4]'hlt).toNat = c := by rw [hb]; exact hc
        clear hb hacc hd
        obtain ⟨hwc, hwd0, htm, hwd, hws, hws0, hlt2⟩ := HF
        have HL2 := Lib.hid hlt2
        clear hlt2
        rw [show ((268435456 : Nat) : Int) = 268435456 from rfl] at hwd hws
        by_cases hbig : 128 ≤ c
        · have hbz : (128 : Int) ≤ (c : Int) := Int.ofNat_le.2 hbig
          have HM := Lib.hid (HS.out.1 hbig)
          clear hbig HS
          go_wp2_with fail
          exact ⟨⟨5, acc + d * 268435456, hlt, by decide, rfl, by first | (rw [hws, Int.natCast_add, Int.natCast_mul]; rfl) | (rw [hws0, Int.natCast_add, Nat.mul_one]; done), by rw [show (128 : Nat) ^ 5 = 34359738368 by decide +kernel]; exact HL2.out, by rw [HEQ.out, HD2.out, HM.out]⟩, by simp [intOf]⟩
        · have hbig' := Nat.lt_of_not_le hbig
          have hbz : (c : Int) < 128 := Int.ofNat_lt.2 hbig'
          have hz : ((acc + d * 268435456 : Nat) : Int) = (acc : Int) + (d : Int) * 268435456 := by rw [Int.natCast_add, Int.natCast_mul]; rfl
          have HB := Lib.hid (fun h => HS.out.2.1 hbig' h)
          have HG := Lib.hid (fun h => HS.out.2.2 hbig' h)
          clear hbig hbig' HS
          by_cases h1 : 281474976710656 < acc + d * 268435456
          · have h1z : (281474976710656 : Int) < (acc : Int) + (d : Int) * 268435456 := Int.lt_of_lt_of_le (lt_lit h1) (Int.le_of_eq hz)
            have HR := Lib.hid (show rdVal (rdN 0 0 s.data.toList) = .tuple #[.int .i64 0, .int .i64 0, .int .i64 8] by rw [HEQ.out, HD2.out, HB.out (Or.inl h1)]; rfl)
            clear hz h1
            go_wp2_with fail
            all_goals (go_ret3; exact ⟨by rw [HR.out]; rfl, rfl⟩)
          · have h1z : decide ((281474976710656 : Int) < (acc : Int) + (d : Int) * 268435456) = false := by rw [decide_eq_false_iff_not]; exact Int.not_lt.2 (Int.le_trans (Int.le_of_eq hz.symm) (le_lit h1))
            by_cases hc0 : c = 0
            · have hcz : ((c : Int) == 0) = true := by rw [beq_iff_eq, hc0]; rfl
              have HR := Lib.hid (show rdVal (rdN 0 0 s.data.toList) = .tuple #[.int .i64 0, .int .i64 0, .int .i64 8] by rw [HEQ.out, HD2.out, HB.out (Or.inr ⟨hc0, by decide⟩)]; rfl)
              clear hz h1 hc0
              go_wp2_with fail
              all_goals (go_ret3; exact ⟨by rw [HR.out]; rfl, rfl⟩)
            · have hcz : ((c : Int) == 0) = false := by rw [beq_eq_false_iff_ne]; exact fun h => hc0 (Int.ofNat_inj.1 h)
              have HR := Lib.hid (show rdVal (rdN 0 0 s.data.toList) = .tuple #[.int .i64 ((acc : Int) + (d : Int) * 268435456), .int .i64 5, .int .i64 0] by rw [HEQ.out, HD2.out, HG.out (fun h => h.elim h1 (fun h => hc0 h.1)), ← hz]; rfl)
              clear hz h1 hc0
              go_wp2_with fail
              all_goals (go_ret3; exact ⟨by rw [HR.out]; rfl, rfl⟩)
      · obtain ⟨b, hb⟩ : ∃ b, s[5]'hlt = b := ⟨_, rfl⟩
        have HD2 := Lib.hid (show s.data.toList.drop 5 = b :: s.data.toList.drop 6 by rw [← hb]; exact HD.out)
        obtain ⟨c, hc⟩ : ∃ c : Nat, b.toNat = c := ⟨_, rfl⟩
        obtain ⟨d, hd⟩ : ∃ d : Nat, c % 128 = d := ⟨_, rfl⟩
        have HF := rd_facts (M := 34359738368) (M2 := 4398046511104) (by rw [← hc]; exact b.toNat_lt) hd (by rw [show (34359738368 : Nat) = 128 ^ 5 by decide +kernel]; exact hacc) (by decide) (by decide)
        have HS := Lib.hid (rd_steps (k := 5) (M := 34359738368) (acc := acc) (b := b) (l := s.data.toList.drop 6) hc hd (by decide +kernel) (by decide))
        have hc : (s[5]'hlt).toNat = c := by rw [hb]; exact hc
        clear hb hacc hd
        obtain ⟨hwc, hwd0, htm, hwd, hws, hws0, hlt2⟩ := HF
        have HL2 := Lib.hid hlt2
        clear hlt2
        rw [show ((34359738368 : Nat) : Int) = 34359738368 from rfl] at hwd hws
        by_cases hbig : 128 ≤ c
        · have hbz : (128 : Int) ≤ (c : Int) := Int.ofNat_le.2 hbig
          have HM := Lib.hid (HS.out.1 hbig)
          clear hbig HS
          go_wp2_with fail
          exact ⟨⟨6, acc + d * 34359738368, hlt, by decide, rfl, by first | (rw [hws, Int.natCast_add, Int.natCast_mul]; rfl) | (rw [hws0, Int.natCast_add, Nat.mul_one]; done), by rw [show (128 : Nat) ^ 6 = 4398046511104 by decide +kernel]; exact HL2.out, by rw [HEQ.out, HD2.out, HM.out]⟩, by simp [intOf]⟩
        · have hbig' := Nat.lt_of_not_le hbig
          have hbz : (c : Int) < 128 := Int.ofNat_lt.2 hbig'
          have hz : ((acc + d * 34359738368 : Nat) : Int) = (acc : Int) + (d : Int) * 34359738368 := by rw [Int.natCast_add, Int.natCast_mul]; rfl
          have HB := Lib.hid (fun h => HS.out.2.1 hbig' h)
          have HG := Lib.hid (fun h => HS.out.2.2 hbig' h)
          clear hbig hbig' HS
          by_cases h1 : 281474976710656 < acc + d * 34359738368
          · have h1z : (281474976710656 : Int) < (acc : Int) + (d : Int) * 34359738368 := Int.lt_of_lt_of_le (lt_lit h1) (Int.le_of_eq hz)
            have HR := Lib.hid (show rdVal (rdN 0 0 s.data.toList) = .tuple #[.int .i64 0, .int .i64 0, .int .i64 8] by rw [HEQ.out, HD2.out, HB.out (Or.inl h1)]; rfl)
            clear hz h1
            go_wp2_with fail
            all_goals (go_ret3; exact ⟨by rw [HR.out]; rfl, rfl⟩)
          · have h1z : decide ((281474976710656 : Int) < (acc : Int) + (d : Int) * 34359738368) = false := by rw [decide_eq_false_iff_not]; exact Int.not_lt.2 (Int.le_trans (Int.le_of_eq hz.symm) (le_lit h1))
            by_cases hc0 : c = 0
            · have hcz : ((c : Int) == 0) = true := by rw [beq_iff_eq, hc0]; rfl
              have HR := Lib.hid (show rdVal (rdN 0 0 s.data.toList) = .tuple #[.int .i64 0, .int .i64 0, .int .i64 8] by rw [HEQ.out, HD2.out, HB.out (Or.inr ⟨hc0, by decide⟩)]; rfl)
              clear hz h1 hc0
              go_wp2_with fail
              all_goals (go_ret3; exact ⟨by rw [HR.out]; rfl, rfl⟩)
            · have hcz : ((c : Int) == 0) = false := by rw [beq_eq_false_iff_ne]; exact fun h => hc0 (Int.ofNat_inj.1 h)
              have HR := Lib.hid (show rdVal (rdN 0 0 s.data.toList) = .tuple #[.int .i64 ((acc : Int) + (d : Int) * 34359738368), .int .i64 6, .int .i64 0] by rw [HEQ.out, HD2.out, HG.out (fun h => h.elim h1 (fun h => hc0 h.1)), ← hz]; rfl)
              clear hz h1 hc0
              go_wp2_with fail
              all_goals (go_ret3; exact ⟨by rw [HR.out]; rfl, rfl⟩)
      · obtain ⟨b, hb⟩ : ∃ b, s[6]'hlt = b := ⟨_, rfl⟩
        have HD2 := Lib.hid (show s.data.toList.drop 6 = b :: s.data.toList.drop 7 by rw [← hb]; exact HD.out)
        obtain ⟨c, hc⟩ : ∃ c : Nat, b.toNat = c := ⟨_, rfl⟩
        obtain ⟨d, hd⟩ : ∃ d : Nat, c % 128 = d := ⟨_, rfl⟩
        have HF := rd_facts (M := 4398046511104) (M2 := 562949953421312) (by rw [← hc]; exact b.toNat_lt) hd (by rw [show (4398046511104 : Nat) = 128 ^ 6 by decide +kernel]; exact hacc) (by decide) (by decide)
        have HS := Lib.hid (rd_steps (k := 6) (M := 4398046511104) (acc := acc) (b := b) (l := s.data.toList.drop 7) hc hd (by decide +kernel) (by decide))
        have hc : (s[6]'hlt).toNat = c := by rw [hb]; exact hc
        clear hb hacc hd
        obtain ⟨hwc, hwd0, htm, hwd, hws, hws0, hlt2⟩ := HF
        have HL2 := Lib.hid hlt2
        clear hlt2
        rw [show ((4398046511104 : Nat) : Int) = 4398046511104 from rfl] at hwd hws
        by_cases hbig : 128 ≤ c
        · have hbz : (128 : Int) ≤ (c : Int) := Int.ofNat_le.2 hbig
          have HM := Lib.hid (HS.out.1 hbig)
          clear hbig HS
          go_wp2_with fail
          exact ⟨⟨7, acc + d * 4398046511104, hlt, by decide, rfl, by first | (rw [hws, Int.natCast_add, Int.natCast_mul]; rfl) | (rw [hws0, Int.natCast_add, Nat.mul_one]; done), by rw [show (128 : Nat) ^ 7 = 562949953421312 by decide +kernel]; exact HL2.out, by rw [HEQ.out, HD2.out, HM.out]⟩, by simp [intOf]⟩
        · have hbig' := Nat.lt_of_not_le hbig
          have hbz : (c : Int) < 128 := Int.ofNat_lt.2 hbig'
          have hz : ((acc + d * 4398046511104 : Nat) : Int) = (acc : Int) + (d : Int) * 4398046511104 := by rw [Int.natCast_add, Int.natCast_mul]; rfl
          have HB := Lib.hid (fun h => HS.out.2.1 hbig' h)
          have HG := Lib.hid (fun h => HS.out.2.2 hbig' h)
          clear hbig hbig' HS
          by_cases h1 : 281474976710656 < acc + d * 4398046511104
          · have h1z : (281474976710656 : Int) < (acc : Int) + (d : Int) * 4398046511104 := Int.lt_of_lt_of_le (lt_lit h1) (Int.le_of_eq hz)
            have HR := Lib.hid (show rdVal (rdN 0 0 s.data.toList) = .tuple #[.int .i64 0, .int .i64 0, .int .i64 8] by rw [HEQ.out, HD2.out, HB.out (Or.inl h1)]; rfl)
            clear hz h1
            go_wp2_with fail
            all_goals (go_ret3; exact ⟨by rw [HR.out]; rfl, rfl⟩)
          · have h1z : decide ((281474976710656 : Int) < (acc : Int) + (d : Int) * 4398046511104) = false := by rw [decide_eq_false_iff_not]; exact Int.not_lt.2 (Int.le_trans (Int.le_of_eq hz.symm) (le_lit h1))
            by_cases hc0 : c = 0
            · have hcz : ((c : Int) == 0) = true := by rw [beq_iff_eq, hc0]; rfl
              have HR := Lib.hid (show rdVal (rdN 0 0 s.data.toList) = .tuple #[.int .i64 0, .int .i64 0, .int .i64 8] by rw [HEQ.out, HD2.out, HB.out (Or.inr ⟨hc0, by decide⟩)]; rfl)
              clear hz h1 hc0
              go_wp2_with fail
              all_goals (go_ret3; exact ⟨by rw [HR.out]; rfl, rfl⟩)
            · have hcz : ((c : Int) == 0) = false := by rw [beq_eq_false_iff_ne]; exact fun h => hc0 (Int.ofNat_inj.1 h)
              have HR := Lib.hid (show rdVal (rdN 0 0 s.data.toList) = .tuple #[.int .i64 ((acc : Int) + (d : Int) * 4398046511104), .int .i64 7, .int .i64 0] by rw [HEQ.out, HD2.out, HG.out (fun h => h.elim h1 (fun h => hc0 h.1)), ← hz]; rfl)
              clear hz h1 hc0
              go_wp2_with fail
              all_goals (go_ret3; exact ⟨by rw [HR.out]; rfl, rfl⟩)
    · have HR := Lib.hid (show rdVal (rdN 0 0 s.data.toList) = .tuple #[.int .i64 0, .int .i64 0, .int .i64 8] by rw [HEQ.out, drop_all hlt, rdN_end]; rfl)
      go_wp2_with fail
      go_ret3
      exact ⟨by rw [HR.out]; rfl, rfl⟩
end Go.Proofs.Ytffjnomaebjbdac

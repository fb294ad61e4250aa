/- What ParseUint reads at base 16. -/
import Derived.Test.YtdkpghfielfojaaDoorHexC
import Derived.BigGuard
import Derived.Lib.AtoiErrMem
namespace Go.Proofs.YtdkpghfielfojaaDoor
open Go.RowKit Go.Lib

theorem dig_cases (d : Nat) (h : d < 16) : (48 ≤ (dig d).toNat ∧ (dig d).toNat ≤ 57 ∧ (dig d).toNat = 48 + d) ∨ (97 ≤ (dig d).toNat ∧ (dig d).toNat ≤ 102 ∧ (dig d).toNat = 87 + d) := by
  have : ∀ d : Fin 16, (48 ≤ (dig d.val).toNat ∧ (dig d.val).toNat ≤ 57 ∧ (dig d.val).toNat = 48 + d.val) ∨ (97 ≤ (dig d.val).toNat ∧ (dig d.val).toNat ≤ 102 ∧ (dig d.val).toNat = 87 + d.val) := by decide
  exact this ⟨d, h⟩
theorem lower_let (c : Int) (h1 : 97 ≤ c) (h2 : c ≤ 102) (w : World) : Calls Tryd.prog 23 #[.int .u8 c] w fun e w' => e = .returned (.int .u8 c) ∧ w' = w := by
  refine (Tryd.internal_strconv_lower c w).mono ?_
  rintro e w' ⟨rfl, rfl⟩
  refine ⟨?_, rfl⟩
  have : ∀ d : Fin 6, bits .or .u8 ((97 + d.val : Nat) : Int) 32 = ((97 + d.val : Nat) : Int) := by decide
  have e := this ⟨(c - 97).toNat, by omega⟩
  have e2 : ((97 + (c - 97).toNat : Nat) : Int) = c := by omega
  simp only [e2] at e
  rw [e]
/-- The value of the first k digits. -/
theorem pre_val (m k : Nat) (hk : k < 8) : m / 16 ^ (8 - k) * 16 + m / 16 ^ (7 - k) % 16 = m / 16 ^ (8 - (k + 1)) := by
  rw [show 8 - (k + 1) = 7 - k by omega, show 8 - k = (7 - k) + 1 by omega, Nat.pow_succ, ← Nat.div_div_eq_div_mul]
  omega

set_option maxHeartbeats 8000000 in
set_option maxRecDepth 100000 in
theorem parseHex (m : Nat) (hm : m < 4294967296) (w : World) : Calls Tryd.prog 19 #[.string ⟨(hexN 8 m).toArray⟩, .int .i64 16, .int .i64 32] w
    fun e w' => e = .returned (.tuple #[.int .u64 m, .nilIface]) ∧ Below w.heap.size w w' := by
  obtain ⟨t, ht⟩ : ∃ t : ByteArray, t = ⟨(hexN 8 m).toArray⟩ := ⟨_, rfl⟩
  have htl : t.data.toList = hexN 8 m := by rw [ht]
  have hts : t.size = 8 := by rw [Lib.size_eq, htl, hexN_length]
  have hemp : t.toList.isEmpty = false := by
    rw [← decide_eq_emptyBytes]
    exact decide_eq_false (fun h => by rw [h] at hts; cases hts)
  have hcv := Lib.run_convert_string_bytes (P := Tryd.prog) w 9 49 5 t (u := .string) Tryd.underlying9 Tryd.underlying49 Tryd.underlying5
  have hB : ∀ j, j < 8 → (Lib.bytesWorld w 5 t).cell? ⟨w.heap.size, j, none⟩ = some (.int .u8 ((dig (m / 16 ^ (7 - j) % 16)).toNat : Int)) := fun j hj => by
    have h := Lib.bytesWorld_cell w 5 t j (by omega)
    rw [h, htl]
    have hg := hexN_get 8 m j hj
    rw [show 8 - j - 1 = 7 - j by omega] at hg
    simp [List.getD, hg]
  have hbel : Below w.heap.size w (Lib.bytesWorld w 5 t) := Lib.bytesWorld_below w 5 t
  obtain ⟨W1, hW1⟩ : ∃ W1, W1 = Lib.bytesWorld w 5 t := ⟨_, rfl⟩
  rw [← hW1] at hcv hB hbel
  clear hW1
  rw [← ht]
  rw [hts] at hcv
  have hmv : IntKind.u64.wrap (IntKind.u64.wrap 4294967296 - 1) = 4294967295 := by
    rw [IntKind.wrap_u64, IntKind.wrap_u64]
    decide
  clear ht htl
  go_enter Tryd.func19, Tryd.ntmps19
  go_wp2
  go_loopw [12, 13, 101] (fun v12 v13 v101 wr => v12 = .bool false ∧ ∃ (k : Nat) (a : Int), v13 = .int .u64 a ∧ Hid (a = ((m / 16 ^ (8 - k) : Nat) : Int)) ∧ v101 = .int .i64 k ∧ k ≤ 8 ∧ wr = W1) (fun _ _ v101 _ => 8 - (RowKit.intOf v101).toNat)
  case atStart => exact ⟨rfl, 0, 0, rfl, Lib.hid (by rw [Nat.div_eq_of_lt (by omega)]; rfl), rfl, by omega, rfl⟩
  case round =>
    obtain ⟨rfl, k, a, rfl, HA, rfl, hk, rfl⟩ := hrel
    by_cases hlt : k < 8
    · have hc := hB k hlt
      have hpv := pre_val m k hlt
      have hd : m / 16 ^ (7 - k) % 16 < 16 := by omega
      have hle : m / 16 ^ (8 - (k + 1)) ≤ m := Nat.div_le_self _ _
      generalize m / 16 ^ (7 - k) % 16 = d at *
      have HN := Lib.hid (show a * 16 + (d : Int) = ((m / 16 ^ (8 - (k + 1)) : Nat) : Int) by rw [HA.out, ← hpv]; push_cast; rfl)
      have ha0 : 0 ≤ a := by rw [HA.out]; omega
      have ha : a ≤ 268435455 := by have := HN.out; omega
      have hs : a * 16 + (d : Int) ≤ 4294967295 := by have := HN.out; omega
      have hdc := dig_cases d hd
      generalize (dig d).toNat = c at *
      clear hB hpv hle
      rcases hdc with ⟨h1, h2, h3⟩ | ⟨h1, h2, h3⟩
      · have HC := Lib.hid h3
        have hov : a * 16 + ((c : Int) - 48) ≤ 4294967295 := by omega
        clear h3 hs hd hcv hmv hemp hts hm
        go_wp2
        exact ⟨⟨rfl, k + 1, a * 16 + ((c : Int) - 48), rfl, Lib.hid (by rw [← HN.out]; have := HC.out; omega), by go_num, by omega, trivial⟩, by simp [RowKit.intOf]; omega⟩
      · have HC := Lib.hid h3
        have HL := Lib.hid (fun W => lower_let (c : Int) (by omega) (by omega) W)
        clear h3 hs hd hcv hmv hemp hts hm
        go_wp2_with (go_at_call 23; (with_reducible refine (HL.out _).mono ?_); rintro e w1 ⟨rfl, rfl⟩)
        exact ⟨⟨rfl, k + 1, a * 16 + ((c : Int) - 97 + 10), rfl, Lib.hid (by rw [← HN.out]; have := HC.out; omega), by go_num, by omega, trivial⟩, by simp [RowKit.intOf]; omega⟩
    · have hk8 : k = 8 := by omega
      subst hk8
      have hm2 := HA.out
      rw [show m / 16 ^ (8 - 8) = m by simp] at hm2
      subst hm2
      clear hB
      go_wp2
      go_ret2
      exact ⟨rfl, hbel⟩

set_option maxHeartbeats 2000000 in
set_option maxRecDepth 100000 in
theorem ParseUint_any (m : Nat) (hm : m < 4294967296) (w : World) : Calls Tryd.prog 16 #[.string ⟨(hexN 8 m).toArray⟩, .int .i64 16, .int .i64 32] w
    fun e w' => e = .returned (.tuple #[.int .u64 m, .nilIface]) ∧ Below w.heap.size w w' := by
  have HP := Lib.hid (fun W => parseHex m hm W)
  generalize (hexN 8 m).toArray = t at *
  go_enter Tryd.func16, Tryd.ntmps16
  go_wp2_with (go_at_call 19; (with_reducible refine (HP.out _).mono ?_); rintro e w1 ⟨rfl, hb1⟩)
  go_ret2
  exact ⟨rfl, hb1⟩
end Go.Proofs.YtdkpghfielfojaaDoor

/- What FormatUint writes at base 16. -/
import Derived.Test.YtonjmfbalkdmfaaGreatDoorHexB
import Derived.Lib.ItoaMem
namespace Go.Proofs.YtonjmfbalkdmfaaGreatDoor
open Go.RowKit Go.Lib

theorem row65_new (w : World) : Row65 (w.alloc (.cells Tryz.zeroCells140 140)) w.heap.size [] := by
  have hz : Tryz.zeroCells140 = Array.replicate 65 (.int .u8 0) := by kernel_rfl
  refine ⟨fun q hq => ⟨.int .u8 0, ?_⟩, fun q => World.frozen?_alloc_new _ _ _ _, fun i hi => absurd hi (by simp), by simp⟩
  rw [World.cell?_alloc_new, hz]
  simp [hq]
theorem lit36 (d : Nat) (h : d < 16) (hd : d < (⟨#[48, 49, 50, 51, 52, 53, 54, 55, 56, 57, 97, 98, 99, 100, 101, 102, 103, 104, 105, 106, 107, 108, 109, 110, 111, 112, 113, 114, 115, 116, 117, 118, 119, 120, 121, 122]⟩ : ByteArray).size) : (⟨#[48, 49, 50, 51, 52, 53, 54, 55, 56, 57, 97, 98, 99, 100, 101, 102, 103, 104, 105, 106, 107, 108, 109, 110, 111, 112, 113, 114, 115, 116, 117, 118, 119, 120, 121, 122]⟩ : ByteArray)[d] = dig d := by
  have : ∀ d : Fin 16, ∀ hd, d36[d.val]'hd = dig d.val := by decide
  exact this ⟨d, h⟩ hd
set_option maxHeartbeats 2000000 in
set_option maxRecDepth 100000 in
theorem fmtBits_any (u : Nat) (hu : u < 18446744073709551616) (w : World) (h : EnvH w) : Calls Tryz.prog 73 #[.slice none 0 0, .int .u64 u, .int .i64 16, .bool false, .bool false] w
    fun e w' => e = .returned (.tuple #[.slice none 0 0, .string ⟨(hexL u).toArray⟩]) ∧ Below w.heap.size w w' := by
  have HP := Lib.hid (fun W => isPow_16 W)
  have HZ := Lib.hid (fun W h => zeros_16 W h)
  have HE := Lib.hid h
  go_enter Tryz.func73, Tryz.ntmps73
  go_wp2_with (first
    | (go_at_call 81; (with_reducible refine (HP.out _).mono ?_); rintro e w1 ⟨rfl, rfl⟩)
    | (go_at_call 82; (with_reducible refine (HZ.out _ (HE.out.keep ((Below.refl _ _).alloc (Nat.le_refl _) _))).mono ?_); rintro e w2 ⟨rfl, rfl⟩))
  have hR0 := Lib.hid (row65_new w)
  go_loopw [1, 13] (fun v1 v13 wr => ∃ (n p : Nat) (l : List UInt8), v1 = .int .u64 n ∧ v13 = .int .i64 p ∧ Hid (p + l.length = 65 ∧ n ≤ u ∧ hexL u = hexL n ++ l ∧ Row65 wr w.heap.size l) ∧ Below w.heap.size w wr) (fun v1 _ _ => (RowKit.intOf v1).toNat)
  case atStart => exact ⟨u, 65, [], rfl, rfl, Lib.hid ⟨rfl, Nat.le_refl _, (List.append_nil _).symm, hR0.out⟩, (Below.refl _ _).alloc (Nat.le_refl _) _⟩
  case round =>
    obtain ⟨n, p, l, rfl, rfl, hh, hbw⟩ := hrel
    obtain ⟨hpl, hnu, hxe, hrow⟩ := hh.out
    have hlen : (hexL u).length ≤ 16 := (hex_half hu).1
    have hl1 : (hexL u).length = (hexL n).length + l.length := by rw [hxe, List.length_append]
    have hl2 : 1 ≤ (hexL n).length := by
      by_cases hq : n < 16
      · rw [hexL_low hq]; exact Nat.le_refl _
      · rw [hexL_high hq, List.length_append]; simp
    have hp0 : 50 ≤ p := by omega
    have hp1 : p ≤ 65 := by omega
    obtain ⟨v0, hc⟩ := hrow.any (p - 1) (by omega)
    have hf := hrow.fz (p - 1)
    have hb := and15 n (by omega)
    have hX := idx36 (n % 16) (by omega) .u64
    have HH := Lib.hid (And.intro hpl (And.intro hxe hrow))
    clear hh hpl hxe hrow hlen hl1 hl2
    by_cases h16 : 16 ≤ n
    · have hi1 : (16 : Int) ≤ (n : Int) := by omega
      have hi2 : (0 : Int) ≤ (p : Int) - 1 := by omega
      have hi3 : (p : Int) - 1 < 65 := by omega
      have hw1 : IntKind.i64.wrap ((p : Int) - 1) = (p : Int) - 1 := IntWalk.i64_in _ ⟨by omega, by omega⟩
      have hpn : ((p : Int) - 1).toNat = p - 1 := by omega
      go_wp2_with fail
      have hr := HH.out.2.2.put (dig (n % 16)) (by have := HH.out.1; omega)
      have he : 65 - (l.length + 1) = p - 1 := by have := HH.out.1; omega
      rw [he] at hr
      rw [lit36 (n % 16) (by omega)]
      refine ⟨⟨n / 16, p - 1, dig (n % 16) :: l, (by first | rfl | (congr 1; omega)), (by first | rfl | (congr 1; omega)), Lib.hid ⟨by have := HH.out.1; simp; omega, by omega, ?_, hr⟩, hbw.setCell (p := ⟨w.heap.size, p - 1, none⟩) (Nat.le_refl _) _⟩, by simp [RowKit.intOf]; omega⟩
      rw [HH.out.2.1, hexL_high (by omega), List.append_assoc]; rfl
    · have hi1 : ¬ (16 : Int) ≤ (n : Int) := by omega
      have hi2 : (0 : Int) ≤ (p : Int) - 1 := by omega
      have hi3 : (p : Int) - 1 < 65 := by omega
      have hw1 : IntKind.i64.wrap ((p : Int) - 1) = (p : Int) - 1 := IntWalk.i64_in _ ⟨by omega, by omega⟩
      have hpn : ((p : Int) - 1).toNat = p - 1 := by omega
      have hn36 : n < 36 := by omega
      have hr := HH.out.2.2.put (dig n) (by have := HH.out.1; omega)
      have he : 65 - (l.length + 1) = p - 1 := by have := HH.out.1; omega
      have hxn : hexL u = dig n :: l := by rw [HH.out.2.1, hexL_low (by omega)]; rfl
      have hll : (dig n :: l).length = 65 - (p - 1) := by have := HH.out.1; simp; omega
      have hat := hr.at'
      have hcv : ∀ c : UInt8, c = dig n → (convert 35 9 (.slice (some ⟨w.heap.size, p - 1, none⟩) (65 - (p - 1)) (65 - (p - 1)))).run Tryz.prog (wr.setCell ⟨w.heap.size, p - 1, none⟩ (.int .u8 (c.toNat : Int))) = .ok (.string ⟨(hexL u).toArray⟩) (wr.setCell ⟨w.heap.size, p - 1, none⟩ (.int .u8 (c.toNat : Int))) := by
        rintro c rfl
        have hx := run_convert_bytes_back (P := Tryz.prog) (wr.setCell ⟨w.heap.size, 65 - (l.length + 1), none⟩ (.int .u8 ((dig n).toNat : Int))) 35 9 5 ⟨w.heap.size, p - 1, none⟩ (65 - (p - 1)) (dig n :: l) Tryz.underlying35 Tryz.underlying5 Tryz.underlying9 (fun j hj => by
          have e : 65 - (dig n :: l).length + j = p - 1 + j := by rw [hll]; omega
          rw [Lib.add_plain, ← e]; exact hat j hj)
        rw [he, hll, ← hxn] at hx
        exact hx
      have hcv2 := hcv _ (lit36 n (by omega) (by show n < 36; omega))
      have hal : Tryz.prog.arrayLen 140 = 65 := by simp [Program.arrayLen, Tryz.underlying140]
      have hsl : ∀ W, (Instr.sliceAt 140 (.pointer (some ⟨w.heap.size, 0, none⟩)) (some (.int .i64 ((p : Int) - 1))) none none).run Tryz.prog W = .ok (.slice (some ⟨w.heap.size, p - 1, none⟩) (65 - (p - 1)) (65 - (p - 1))) W := fun W => by
        rw [run_sliceAt_array_l W 140 ⟨w.heap.size, 0, none⟩ (by simp [Program.arrayLen, Program.elem, Tryz.underlying140]) .i64 ((p : Int) - 1) (by omega) (by rw [hal]; omega)]
        go_simp
        omega
      have HXN := Lib.hid hxn
      clear hr hat hcv hal hxn hll he
      go_wp2_with fail
      go_ret2
      exact ⟨rfl, hbw.setCell (p := ⟨w.heap.size, p - 1, none⟩) (Nat.le_refl _) _⟩

set_option maxHeartbeats 2000000 in
set_option maxRecDepth 100000 in
theorem fmtUint_any (u : Nat) (hu : u < 18446744073709551616) (w : World) (h : EnvH w) : Calls Tryz.prog 62 #[.int .u64 u, .int .i64 16] w
    fun e w' => e = .returned (.string ⟨(hexL u).toArray⟩) ∧ Below w.heap.size w w' := by
  have HF := Lib.hid (fmtBits_any u hu w h)
  go_enter Tryz.func62, Tryz.ntmps62
  go_wp2_with (go_at_call 73; (with_reducible refine HF.out.mono ?_); rintro e w1 ⟨rfl, hb1⟩)
  go_ret
  exact ⟨rfl, hb1⟩
set_option maxHeartbeats 2000000 in
set_option maxRecDepth 100000 in
theorem FormatUint_any (u : Nat) (hu : u < 18446744073709551616) (w : World) (h : EnvH w) : Calls Tryz.prog 51 #[.int .u64 u, .int .i64 16] w
    fun e w' => e = .returned (.string ⟨(hexL u).toArray⟩) ∧ Below w.heap.size w w' := by
  have HF := Lib.hid (fmtUint_any u hu w h)
  go_enter Tryz.func51, Tryz.ntmps51
  go_wp2_with (go_at_call 62; (with_reducible refine HF.out.mono ?_); rintro e w1 ⟨rfl, hb1⟩)
  go_ret
  exact ⟨rfl, hb1⟩
/-- The sum as it is written: sixteen digits. -/
def sumS (u : Nat) : List UInt8 := List.replicate (16 - (hexL u).length) 48 ++ hexL u
theorem repeatL_one : ∀ n : Nat, Lib.repeatL [48] n = List.replicate n 48
  | 0 => rfl
  | n + 1 => by show [48] ++ Lib.repeatL [48] n = _; rw [repeatL_one n]; rfl
theorem Rep_any (c : Nat) (w : World) (hc : c ≤ 16) : Calls Tryz.prog 52 #[.string ⟨#[48]⟩, .int .i64 c] w fun e w' => e = .returned (.string ⟨(List.replicate c 48).toArray⟩) ∧ Below w.heap.size w w' := by
  rw [← repeatL_one]
  exact Tryz.strings_Repeat ⟨#[48]⟩ c w (by omega) (by show 1 * _ ≤ _; omega)
theorem ba_append (a b : List UInt8) : (⟨a.toArray⟩ : ByteArray) ++ ⟨b.toArray⟩ = ⟨(a ++ b).toArray⟩ := by
  apply ByteArray.ext
  simp
set_option maxHeartbeats 2000000 in
set_option maxRecDepth 100000 in
theorem sumText_any (u : Nat) (hu : u < 18446744073709551616) (w : World) (h : EnvH w) : Calls Tryz.prog 34 #[.int .u64 u] w
    fun e w' => e = .returned (.string ⟨(sumS u).toArray⟩) ∧ Below w.heap.size w w' := by
  have HF := Lib.hid (fun W h => FormatUint_any u hu W h)
  have hlen : (hexL u).length ≤ 16 := (hex_half hu).1
  have HR := Lib.hid (fun W => Rep_any (16 - (hexL u).length) W (by omega))
  have hsz : (⟨(hexL u).toArray⟩ : ByteArray).size = (hexL u).length := by simp [ByteArray.size]
  have hw : IntKind.i64.wrap (16 - ((hexL u).length : Int)) = ((16 - (hexL u).length : Nat) : Int) := by rw [IntWalk.i64_in _ ⟨by omega, by omega⟩]; omega
  have hsum : (9223372036854775807 < (16 - (hexL u).length) + (hexL u).length) = False := eq_false (by omega)
  have HH := Lib.hid h
  have HS := Lib.hid (show sumS u = List.replicate (16 - (hexL u).length) 48 ++ hexL u from rfl)
  generalize sumS u = s at *
  clear hlen
  go_enter Tryz.func34, Tryz.ntmps34
  go_wp2_with (first
    | (go_at_call 51; (with_reducible refine (HF.out _ HH.out).mono ?_); rintro e w1 ⟨rfl, hb1⟩)
    | (go_at_call 52; (with_reducible refine (HR.out _).mono ?_); rintro e w2 ⟨rfl, hb2⟩))
  go_ret
  refine ⟨?_, below_call hb1 hb1.size hb2⟩
  rw [HS.out, ← ba_append]; rfl
/-- The sum of a string as a number. -/
def sumN (s : ByteArray) : Nat := (sumB s.data.toList 14695981039346656037).toNat
theorem sumN_lt (s : ByteArray) : sumN s < 18446744073709551616 := by
  have := sumB_le s.data.toList 14695981039346656037 (by omega) (by omega)
  unfold sumN; omega
theorem sumN_eq (s : ByteArray) : sumB s.data.toList 14695981039346656037 = (sumN s : Int) := by
  have := sumB_le s.data.toList 14695981039346656037 (by omega) (by omega)
  unfold sumN; omega
set_option maxHeartbeats 2000000 in
set_option maxRecDepth 100000 in
theorem Sum_any (s : ByteArray) (w : World) (hs : s.size ≤ 4611686018427387904) (h : EnvH w) : Calls Tryz.prog 22 #[.string s] w
    fun e w' => e = .returned (.string ⟨(sumS (sumN s)).toArray⟩) ∧ Below w.heap.size w w' := by
  have HS := Lib.hid (fun W => sumOn_any 14695981039346656037 s W hs)
  rw [sumN_eq s] at HS
  have HT := Lib.hid (fun W h => sumText_any (sumN s) (sumN_lt s) W h)
  have HH := Lib.hid h
  generalize sumN s = u at *
  go_enter Tryz.func22, Tryz.ntmps22
  go_wp2_with (first
    | (go_at_call 35; (with_reducible refine (HS.out _).mono ?_); rintro e w1 ⟨rfl, rfl⟩)
    | (go_at_call 34; (with_reducible refine (HT.out _ HH.out).mono ?_); rintro e w2 ⟨rfl, hb2⟩))
  go_ret
  exact ⟨rfl, hb2⟩
end Go.Proofs.YtonjmfbalkdmfaaGreatDoor

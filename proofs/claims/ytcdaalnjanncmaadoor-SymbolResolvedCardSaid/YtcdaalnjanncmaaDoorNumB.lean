/- Numbers in base 128: lists alone. -/
import Derived.Lib.AppendStr
import Derived.Lib.UnsafeStr
import Derived.WalkKit
import Derived.Test.YtcdaalnjanncmaaDoorChecked
import Derived.Test.YtcdaalnjanncmaaDoorPlain
import Derived.Lib.Hide
import Derived.Laws.AppendOwn
import Derived.Laws.BytesArg
namespace Go.Proofs.YtcdaalnjanncmaaDoor
open Go.RowKit

/-- The digits of a number, the lowest one first; 128 is added to each but the last. -/
def num (n : Nat) : List UInt8 := if h : n < 128 then [UInt8.ofNat n] else UInt8.ofNat (n % 128 + 128) :: num (n / 128)
termination_by n

theorem num_low {n : Nat} (h : n < 128) : num n = [UInt8.ofNat n] := by rw [num, dif_pos h]
theorem num_high {n : Nat} (h : ¬ n < 128) : num n = UInt8.ofNat (n % 128 + 128) :: num (n / 128) := by rw [num, dif_neg h]
theorem num_two {d r : Nat} (hd : d < 128) (hr : 0 < r) : num (d + 128 * r) = UInt8.ofNat (d + 128) :: num r := by
  rw [num_high (by omega), show (d + 128 * r) % 128 = d by omega, show (d + 128 * r) / 128 = r by omega]
theorem num_length : ∀ (k n : Nat), n < 128 ^ (k + 1) → (num n).length ≤ k + 1
  | 0, n, h => by rw [num_low (by simpa using h)]; simp
  | k + 1, n, h => by
    by_cases hn : n < 128
    · rw [num_low hn]; simp
    · rw [num_high hn, List.length_cons]
      have : n / 128 < 128 ^ (k + 1) := by rw [Nat.div_lt_iff_lt_mul (by omega)]; rw [Nat.pow_succ] at h; exact h
      have := num_length k (n / 128) this
      omega
theorem num_len7 {n : Nat} (h : n ≤ 281474976710656) : (num n).length ≤ 7 := num_length 6 n (by omega)

/-- Bytes as a string. -/
def strOf (l : List UInt8) : ByteArray := ⟨l.toArray⟩
theorem strOf_size (l : List UInt8) : (strOf l).size = l.length := by simp [strOf, ByteArray.size]
theorem strOf_data (l : List UInt8) : (strOf l).data.toList = l := by simp [strOf]
theorem strOf_inj {a b : List UInt8} (h : strOf a = strOf b) : a = b := by
  have := congrArg (fun s : ByteArray => s.data.toList) h
  simpa [strOf] using this

/-- What is read at the beginning of bytes, behind i digits that are worth acc: the number, and how many digits it has. -/
def rdN : Nat → Nat → List UInt8 → Option (Nat × Nat)
  | _, _, [] => none
  | i, acc, d :: l =>
    if 7 ≤ i then none
    else if 128 ≤ d.toNat then rdN (i + 1) (acc + d.toNat % 128 * 128 ^ i) l
    else if 281474976710656 < acc + d.toNat % 128 * 128 ^ i ∨ (d.toNat = 0 ∧ 0 < i) then none
    else some (acc + d.toNat % 128 * 128 ^ i, i + 1)

theorem rdN_end {i acc : Nat} : rdN i acc [] = none := rfl
theorem rdN_seven {i acc : Nat} (h : 7 ≤ i) : ∀ l, rdN i acc l = none
  | [] => rfl
  | d :: l => by rw [rdN, if_pos h]
theorem rdN_more {i acc : Nat} {d : UInt8} {l : List UInt8} (hi : i < 7) (h : 128 ≤ d.toNat) : rdN i acc (d :: l) = rdN (i + 1) (acc + d.toNat % 128 * 128 ^ i) l := by
  rw [rdN, if_neg (by omega), if_pos h]
theorem rdN_bad {i acc : Nat} {d : UInt8} {l : List UInt8} (h : d.toNat < 128) (hb : 281474976710656 < acc + d.toNat % 128 * 128 ^ i ∨ (d.toNat = 0 ∧ 0 < i)) : rdN i acc (d :: l) = none := by
  rw [rdN, if_neg (by omega : ¬ 128 ≤ d.toNat), if_pos hb]; split <;> rfl
theorem rdN_good {i acc : Nat} {d : UInt8} {l : List UInt8} (hi : i < 7) (h : d.toNat < 128) (hb : ¬ (281474976710656 < acc + d.toNat % 128 * 128 ^ i ∨ (d.toNat = 0 ∧ 0 < i))) : rdN i acc (d :: l) = some (acc + d.toNat % 128 * 128 ^ i, i + 1) := by
  rw [rdN, if_neg (by omega), if_neg (by omega), if_neg hb]
end Go.Proofs.YtcdaalnjanncmaaDoor

namespace Go.Proofs.YtcdaalnjanncmaaDoor
open Go.RowKit Go.Lib

theorem infoB : (Tryd.prog.info? 5).map (fun i => (i.zero, i.size, i.bytes)) = some (some (.int .u8 0), 1, 1) := by kernel_rfl

theorem own_ge {w : World} {base : Nat} {e : TypeId} {size : Nat} {v : Value} {n : Nat} {xs : List Value} (h : w.ownsRow base e size v n xs) : ∀ k, v.ownBlock = some k → base ≤ k := by
  obtain ⟨_, ⟨rfl, _⟩ | ⟨g', cap, cur, rfl, hb, _⟩⟩ := h
  · simp [Value.ownBlock]
  · simp only [Value.ownBlock]
    intro k hk
    simp only [Option.some.injEq] at hk
    omega
theorem cell_one (w : World) (u : Value) (t : TypeId) : ∀ (q : Nat) (x : Value), [u][q]? = some x → (w.alloc (.cells #[u] t)).cell? (Addr.add ⟨w.heap.size, 0, none⟩ q) = some x := by
  intro q x hq
  match q, hq with
  | 0, hq => simp at hq; subst hq; simp [Addr.add]
theorem byte_lo {n : Nat} (h : n < 128) : ((UInt8.ofNat n).toNat : Int) = (n : Int) := by rw [UInt8.toNat_ofNat_of_lt' (by show n < 256; omega)]
theorem byte_hi {n : Nat} : ((UInt8.ofNat (n % 128 + 128)).toNat : Int) = ((n % 128 : Nat) : Int) + 128 := by rw [UInt8.toNat_ofNat_of_lt' (by show n % 128 + 128 < 256; omega)]; omega
theorem byteCells_one {n : Nat} (h : n < 128) : byteCells [UInt8.ofNat n] = [.int .u8 (n : Int)] := by
  unfold byteCells
  rw [List.map_cons, List.map_nil, byte_lo h]
theorem byteCells_snoc (l : List UInt8) (b : UInt8) : byteCells (l ++ [b]) = byteCells l ++ [.int .u8 b.toNat] := by simp [byteCells]
theorem byteCells_append (l m : List UInt8) : byteCells (l ++ m) = byteCells l ++ byteCells m := by simp [byteCells]

set_option maxHeartbeats 1000000 in
set_option maxRecDepth 100000 in
theorem appN (v : Value) (B len : Nat) (xs : List Value) (n : Nat) (w : World) (hown : w.ownsRow B 5 1 v len xs) (hB : B ≤ w.heap.size) (hn : n ≤ 281474976710656) (hlen : len ≤ 100000000) :
    Calls Tryd.prog 60 #[v, .int .i64 n] w fun e w' => ∃ v', e = .returned v' ∧ w'.ownsRow B 5 1 v' (len + (num n).length) (xs ++ byteCells (num n)) ∧ Below B w w' := by
  obtain ⟨i0, hi, hz0, hz1, hz2⟩ := info_parts infoB
  have hn7 := num_len7 hn
  go_enter Tryd.func60, Tryd.ntmps60
  go_wp2_with fail
  go_loopw [0, 1] (fun v0 v1 wr => ∃ (pre : List UInt8) (r : Nat), v1 = .int .i64 r ∧ r ≤ n ∧ pre ++ num r = num n ∧ wr.ownsRow B 5 1 v0 (len + pre.length) (xs ++ byteCells pre) ∧ Below B w wr) (fun _ v1 _ => (intOf v1).toNat)
  case atStart => exact ⟨[], n, rfl, Nat.le_refl _, rfl, by simpa [byteCells] using hown, Below.refl _ _⟩
  case round =>
    obtain ⟨pre, r, rfl, hr, heq, hownr, hbw⟩ := hrel
    have HEQ := Lib.hid heq
    have hpl : pre.length ≤ 7 := by have := congrArg List.length heq; rw [List.length_append] at this; omega
    clear heq
    have hBr : B ≤ wr.heap.size := by have := hbw.size; omega
    by_cases hlt : r < 128
    · have HE := Lib.hid HEQ.out
      rw [num_low hlt] at HE
      have hown2 := hownr.alloc (.cells #[.int .u8 (r : Int)] 5)
      have hge := own_ge hown2
      have hw : IntKind.u8.wrap (r : Int) = (r : Int) := by unfold IntKind.wrap; simp [IntKind.bits, IntKind.signed]; omega
      have q1 : len + pre.length + 1 ≤ maxLen := by unfold maxLen; omega
      have q2 : (len + pre.length + 1) * 1 ≤ 140737488355328 := by omega
      have q3 : B ≤ (wr.alloc (.cells #[.int .u8 (r : Int)] 5)).heap.size := by simp; omega
      have hone : ∀ u ∈ [Value.int .u8 (r : Int)], u.oneCell' = true := by intro u hu; simp at hu; subst hu; rfl
      have hc := cell_one wr (.int .u8 (r : Int)) 5
      go_wp2_with (at_builtin; (refine wpList_append_own _ rfl _ _ 104 rfl B 5 i0 (.int .u8 0) 1 1 Tryd.underlying104 hi hz0 hz1 hz2 rfl (by decide) _ _ _ rfl hown2 ⟨wr.heap.size, 0, none⟩ 1 1 [.int .u8 (r : Int)] rfl rfl hc hone q1 q2 q3 ?_; intro v' w3 hown3 hgrow _))
      go_ret
      refine ⟨v', rfl, ?_, (hbw.alloc hBr _).grown hgrow (by simp; omega) hge⟩
      rw [← HE.out, byteCells_snoc, List.length_append, byte_lo hlt, ← List.append_assoc, List.length_singleton, ← Nat.add_assoc]
      exact hown3
    · have HE := Lib.hid HEQ.out
      rw [num_high hlt] at HE
      have ht : Int.tmod (r : Int) 128 = ((r % 128 : Nat) : Int) := by rw [Int.tmod_eq_emod_of_nonneg (by omega)]; omega
      have hq : Int.tdiv (r : Int) 128 = ((r / 128 : Nat) : Int) := by rw [Int.tdiv_eq_ediv_of_nonneg (by omega)]; omega
      have hd : r % 128 < 128 := Nat.mod_lt _ (by omega)
      have hr2 : r / 128 < r := Nat.div_lt_self (by omega) (by omega)
      have hb := byte_hi (n := r)
      generalize UInt8.ofNat (r % 128 + 128) = bt at *
      generalize r % 128 = d at *
      generalize r / 128 = q at *
      have hw0 : IntKind.i64.wrap (d : Int) = (d : Int) := IntWalk.i64_in _ ⟨by omega, by omega⟩
      have hwq : IntKind.i64.wrap (q : Int) = (q : Int) := IntWalk.i64_in _ ⟨by omega, by omega⟩
      have hw1 : IntKind.i64.wrap ((d : Int) + 128) = (d : Int) + 128 := IntWalk.i64_in _ ⟨by omega, by omega⟩
      have hw8 : IntKind.u8.wrap ((d : Int) + 128) = (d : Int) + 128 := by unfold IntKind.wrap; simp [IntKind.bits, IntKind.signed]; omega
      have hown2 := hownr.alloc (.cells #[.int .u8 ((d : Int) + 128)] 5)
      have hge := own_ge hown2
      have q1 : len + pre.length + 1 ≤ maxLen := by unfold maxLen; omega
      have q2 : (len + pre.length + 1) * 1 ≤ 140737488355328 := by omega
      have q3 : B ≤ (wr.alloc (.cells #[.int .u8 ((d : Int) + 128)] 5)).heap.size := by simp; omega
      have hone : ∀ u ∈ [Value.int .u8 ((d : Int) + 128)], u.oneCell' = true := by intro u hu; simp at hu; subst hu; rfl
      have hc := cell_one wr (.int .u8 ((d : Int) + 128)) 5
      go_wp2_with (at_builtin; (refine wpList_append_own _ rfl _ _ 104 rfl B 5 i0 (.int .u8 0) 1 1 Tryd.underlying104 hi hz0 hz1 hz2 rfl (by decide) _ _ _ rfl hown2 ⟨wr.heap.size, 0, none⟩ 1 1 [.int .u8 ((d : Int) + 128)] rfl rfl hc hone q1 q2 q3 ?_; intro v' w3 hown3 hgrow _))
      refine ⟨⟨pre ++ [bt], q, rfl, by omega, by rw [List.append_assoc]; exact HE.out, ?_, (hbw.alloc hBr _).grown hgrow (by simp; omega) hge⟩, by simp [intOf]; omega⟩
      rw [byteCells_snoc, List.length_append, hb, ← List.append_assoc, List.length_singleton, ← Nat.add_assoc]
      exact hown3
end Go.Proofs.YtcdaalnjanncmaaDoor

namespace Go.Proofs.YtcdaalnjanncmaaDoor
open Go.RowKit Go.Lib

theorem conv_own {B : Nat} {v : Value} {n : Nat} {l : List UInt8} {w : World} (h : w.ownsRow B 5 1 v n (byteCells l)) : (convert 104 9 v).run Tryd.prog w = .ok (.string (strOf l)) w := by
  obtain ⟨hlen, h⟩ := h
  have hn : n = l.length := by simpa [byteCells] using hlen.symm
  rcases h with ⟨rfl, h0⟩ | ⟨g, cap, cur, rfl, _, hg, hnc, hc, hsz, htk⟩
  · rw [run_convert_bytes_nil w 104 5 Tryd.underlying104 Tryd.underlying5 0 0 9 Tryd.underlying9]
    have : l = [] := List.length_eq_zero_iff.1 (by omega)
    rw [this]; rfl
  · have hcell : ∀ i, i < n → w.cell? ⟨g, 0 + i, none⟩ = some (.int .u8 ((l.map fun b => (b.toNat : Int)).getD i 0)) := fun i hi => by
      have h1 : (byteCells l)[i]? = some (.int .u8 ((l.map fun b => (b.toNat : Int)).getD i 0)) := by
        have hil : i < l.length := by omega
        simp [byteCells, List.getD, List.getElem?_eq_getElem hil]
      rw [← h1, ← htk, Nat.zero_add]
      simp only [World.cell?, hg]
      rw [List.getElem?_take_of_lt (by omega)]
      simp
    rw [run_convert_bytes_arg w 104 5 Tryd.underlying104 Tryd.underlying5 g 0 n cap (l.map fun b => (b.toNat : Int)) (by simp [hn]) hcell 9 Tryd.underlying9]
    congr 2
    unfold strOfNums strOf
    congr 2
    rw [List.map_map]
    conv => rhs; rw [← List.map_id l]
    apply List.map_congr_left
    intro b _
    simp

set_option maxHeartbeats 1000000 in
set_option maxRecDepth 100000 in
theorem number_P (n : Int) (w : World) (h0 : 0 ≤ n) (h1 : n ≤ 281474976710656) :
    Calls Tryd.prog 34 #[.int .i64 n] w fun e w' => e = .returned (.tuple #[.string (strOf (num n.toNat)), .int .i64 0]) ∧ Below w.heap.size w w' := by
  obtain ⟨m, rfl⟩ := Int.eq_ofNat_of_zero_le h0
  simp only [Int.toNat_natCast]
  have HC := Lib.hid (appN (.slice none 0 0) w.heap.size 0 [] m w ⟨rfl, .inl ⟨rfl, rfl⟩⟩ (Nat.le_refl _) (by omega) (by omega))
  go_enter Tryd.func34, Tryd.ntmps34
  go_wp2_with (go_at_call 60; refine HC.out.mono ?_; rintro e w1 ⟨v', rfl, hown, hb⟩; have hcv := conv_own hown)
  go_ret2
  exact ⟨rfl, hb⟩

set_option maxHeartbeats 1000000 in
set_option maxRecDepth 100000 in
theorem number_bad (n : Int) (w : World) (h0 : n < 0 ∨ 281474976710656 < n) :
    Calls Tryd.prog 34 #[.int .i64 n] w fun e w' => e = .returned (.tuple #[.string ⟨#[]⟩, .int .i64 2]) ∧ Below w.heap.size w w' := by
  rcases h0 with h0 | h0
  · go_enter Tryd.func34, Tryd.ntmps34
    go_wp2_with fail
    go_ret2
    exact ⟨rfl, Below.refl _ _⟩
  · have h00 : ¬ n < 0 := by omega
    go_enter Tryd.func34, Tryd.ntmps34
    go_wp2_with fail
    go_ret2
    exact ⟨rfl, Below.refl _ _⟩

set_option maxHeartbeats 1000000 in
set_option maxRecDepth 100000 in
theorem out_any (n a b : Int) (w : World) :
    Calls Tryd.prog 48 #[.int .i64 n, .int .i64 a, .int .i64 b] w fun e w' => e = .returned (.bool (decide (n < a) || decide (b < n))) ∧ w' = w := by
  go_enter Tryd.func48, Tryd.ntmps48
  go_wp2_with fail
  all_goals (go_ret; exact ⟨ret_bool (by simp), rfl⟩)

end Go.Proofs.YtcdaalnjanncmaaDoor

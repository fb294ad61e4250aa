/- What the two writers of numbers answer. -/
import Derived.Test.YtcmieoilhbjgiaaDoorChecked
import Derived.Test.YtcmieoilhbjgiaaDoorNum
import Derived.WalkKit
import Derived.Test.YtcmieoilhbjgiaaDoorPlain
import Derived.Lib.Hide
import Derived.Laws.AppendOwn
import Derived.Laws.BytesArg
namespace Go.Proofs.YtcmieoilhbjgiaaDoor
open Go.RowKit Go.Lib

theorem infoB : (Tryd.prog.info? 5).map (fun i => (i.zero, i.size, i.bytes)) = some (some (.int .u8 0), 1, 1) := by kernel_rfl

theorem own_ge {w : World} {base : Nat} {e : TypeId} {size : Nat} {v : Value} {n : Nat} {xs : List Value} (h : w.ownsRow base e size v n xs) : ∀ k, v.ownBlock = some k → base ≤ k := by
  obtain ⟨_, ⟨rfl, _⟩ | ⟨g', cap, cur, rfl, hb, _⟩⟩ := h
  · simp [Value.ownBlock]
  · simp only [Value.ownBlock]
    intro k hk
    simp only [Option.some.injEq] at hk
    omega
theorem cell_one (w : World) (u : Value) (t : TypeId) : ∀ (q : Nat) (x : Value), [u][q]? = some x → (w.alloc (.cells #[u] t)).cell? (Addr.add ⟨w.heap.size, 0, none⟩ q) = some x := by
  intro q x hq
  match q, hq with
  | 0, hq => simp at hq; subst hq; simp [Addr.add]
theorem byte_lo {n : Nat} (h : n < 128) : ((UInt8.ofNat n).toNat : Int) = (n : Int) := by rw [UInt8.toNat_ofNat_of_lt' (by show n < 256; omega)]
theorem byte_hi {n : Nat} : ((UInt8.ofNat (n % 128 + 128)).toNat : Int) = ((n % 128 : Nat) : Int) + 128 := by rw [UInt8.toNat_ofNat_of_lt' (by show n % 128 + 128 < 256; omega)]; omega
theorem byteCells_one {n : Nat} (h : n < 128) : byteCells [UInt8.ofNat n] = [.int .u8 (n : Int)] := by
  unfold byteCells
  rw [List.map_cons, List.map_nil, byte_lo h]
theorem byteCells_snoc (l : List UInt8) (b : UInt8) : byteCells (l ++ [b]) = byteCells l ++ [.int .u8 b.toNat] := by simp [byteCells]
theorem byteCells_append (l m : List UInt8) : byteCells (l ++ m) = byteCells l ++ byteCells m := by simp [byteCells]

set_option maxHeartbeats 1000000 in
set_option maxRecDepth 100000 in
theorem appN (v : Value) (B len : Nat) (xs : List Value) (n : Nat) (w : World) (hown : w.ownsRow B 5 1 v len xs) (hB : B ≤ w.heap.size) (hn : n ≤ 281474976710656) (hlen : len ≤ 100000000) :
    Calls Tryd.prog 60 #[v, .int .i64 n] w fun e w' => ∃ v', e = .returned v' ∧ w'.ownsRow B 5 1 v' (len + (num n).length) (xs ++ byteCells (num n)) ∧ Below B w w' := by
  obtain ⟨i0, hi, hz0, hz1, hz2⟩ := info_parts infoB
  have hn7 := num_len7 hn
  go_enter Tryd.func60, Tryd.ntmps60
  go_wp2_with fail
  go_loopw [0, 1] (fun v0 v1 wr => ∃ (pre : List UInt8) (r : Nat), v1 = .int .i64 r ∧ r ≤ n ∧ pre ++ num r = num n ∧ wr.ownsRow B 5 1 v0 (len + pre.length) (xs ++ byteCells pre) ∧ Below B w wr) (fun _ v1 _ => (intOf v1).toNat)
  case atStart => exact ⟨[], n, rfl, Nat.le_refl _, rfl, by simpa [byteCells] using hown, Below.refl _ _⟩
  case round =>
    obtain ⟨pre, r, rfl, hr, heq, hownr, hbw⟩ := hrel
    have HEQ := Lib.hid heq
    have hpl : pre.length ≤ 7 := by have := congrArg List.length heq; rw [List.length_append] at this; omega
    clear heq
    have hBr : B ≤ wr.heap.size := by have := hbw.size; omega
    by_cases hlt : r < 128
    · have HE := Lib.hid HEQ.out
      rw [num_low hlt] at HE
      have hown2 := hownr.alloc (.cells #[.int .u8 (r : Int)] 5)
      have hge := own_ge hown2
      have hw : IntKind.u8.wrap (r : Int) = (r : Int) := by unfold IntKind.wrap; simp [IntKind.bits, IntKind.signed]; omega
      have q1 : len + pre.length + 1 ≤ maxLen := by unfold maxLen; omega
      have q2 : (len + pre.length + 1) * 1 ≤ 140737488355328 := by omega
      have q3 : B ≤ (wr.alloc (.cells #[.int .u8 (r : Int)] 5)).heap.size := by simp; omega
      have hone : ∀ u ∈ [Value.int .u8 (r : Int)], u.oneCell' = true := by intro u hu; simp at hu; subst hu; rfl
      have hc := cell_one wr (.int .u8 (r : Int)) 5
      go_wp2_with (at_builtin; (refine wpList_append_own _ rfl _ _ 104 rfl B 5 i0 (.int .u8 0) 1 1 Tryd.underlying104 hi hz0 hz1 hz2 rfl (by decide) _ _ _ rfl hown2 ⟨wr.heap.size, 0, none⟩ 1 1 [.int .u8 (r : Int)] rfl rfl hc hone q1 q2 q3 ?_; intro v' w3 hown3 hgrow _))
      go_ret
      refine ⟨v', rfl, ?_, (hbw.alloc hBr _).grown hgrow (by simp; omega) hge⟩
      rw [← HE.out, byteCells_snoc, List.length_append, byte_lo hlt, ← List.append_assoc, List.length_singleton, ← Nat.add_assoc]
      exact hown3
    · have HE := Lib.hid HEQ.out
      rw [num_high hlt] at HE
      have ht : Int.tmod (r : Int) 128 = ((r % 128 : Nat) : Int) := by rw [Int.tmod_eq_emod_of_nonneg (by omega)]; omega
      have hq : Int.tdiv (r : Int) 128 = ((r / 128 : Nat) : Int) := by rw [Int.tdiv_eq_ediv_of_nonneg (by omega)]; omega
      have hd : r % 128 < 128 := Nat.mod_lt _ (by omega)
      have hr2 : r / 128 < r := Nat.div_lt_self (by omega) (by omega)
      have hb := byte_hi (n := r)
      generalize UInt8.ofNat (r % 128 + 128) = bt at *
      generalize r % 128 = d at *
      generalize r / 128 = q at *
      have hw0 : IntKind.i64.wrap (d : Int) = (d : Int) := IntWalk.i64_in _ ⟨by omega, by omega⟩
      have hwq : IntKind.i64.wrap (q : Int) = (q : Int) := IntWalk.i64_in _ ⟨by omega, by omega⟩
      have hw1 : IntKind.i64.wrap ((d : Int) + 128) = (d : Int) + 128 := IntWalk.i64_in _ ⟨by omega, by omega⟩
      have hw8 : IntKind.u8.wrap ((d : Int) + 128) = (d : Int) + 128 := by unfold IntKind.wrap; simp [IntKind.bits, IntKind.signed]; omega
      have hown2 := hownr.alloc (.cells #[.int .u8 ((d : Int) + 128)] 5)
      have hge := own_ge hown2
      have q1 : len + pre.length + 1 ≤ maxLen := by unfold maxLen; omega
      have q2 : (len + pre.length + 1) * 1 ≤ 140737488355328 := by omega
      have q3 : B ≤ (wr.alloc (.cells #[.int .u8 ((d : Int) + 128)] 5)).heap.size := by simp; omega
      have hone : ∀ u ∈ [Value.int .u8 ((d : Int) + 128)], u.oneCell' = true := by intro u hu; simp at hu; subst hu; rfl
      have hc := cell_one wr (.int .u8 ((d : Int) + 128)) 5
      go_wp2_with (at_builtin; (refine wpList_append_own _ rfl _ _ 104 rfl B 5 i0 (.int .u8 0) 1 1 Tryd.underlying104 hi hz0 hz1 hz2 rfl (by decide) _ _ _ rfl hown2 ⟨wr.heap.size, 0, none⟩ 1 1 [.int .u8 ((d : Int) + 128)] rfl rfl hc hone q1 q2 q3 ?_; intro v' w3 hown3 hgrow _))
      refine ⟨⟨pre ++ [bt], q, rfl, by omega, by rw [List.append_assoc]; exact HE.out, ?_, (hbw.alloc hBr _).grown hgrow (by simp; omega) hge⟩, by simp [intOf]; omega⟩
      rw [byteCells_snoc, List.length_append, hb, ← List.append_assoc, List.length_singleton, ← Nat.add_assoc]
      exact hown3
end Go.Proofs.YtcmieoilhbjgiaaDoor

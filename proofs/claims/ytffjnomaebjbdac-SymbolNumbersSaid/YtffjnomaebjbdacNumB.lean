/- What Number and NumberOf answer. -/
import Derived.Test.YtffjnomaebjbdacNumA
namespace Go.Proofs.Ytffjnomaebjbdac
open Go.RowKit Go.Lib

theorem conv_own {B : Nat} {v : Value} {n : Nat} {l : List UInt8} {w : World} (h : w.ownsRow B 5 1 v n (byteCells l)) : (convert 30 9 v).run Try.prog w = .ok (.string (strOf l)) w := by
  obtain ⟨hlen, h⟩ := h
  have hn : n = l.length := by simpa [byteCells] using hlen.symm
  rcases h with ⟨rfl, h0⟩ | ⟨g, cap, cur, rfl, _, hg, hnc, hc, hsz, htk⟩
  · rw [run_convert_bytes_nil w 30 5 Try.underlying30 Try.underlying5 0 0 9 Try.underlying9]
    have : l = [] := List.length_eq_zero_iff.1 (by omega)
    rw [this]; rfl
  · have hcell : ∀ i, i < n → w.cell? ⟨g, 0 + i, none⟩ = some (.int .u8 ((l.map fun b => (b.toNat : Int)).getD i 0)) := fun i hi => by
      have h1 : (byteCells l)[i]? = some (.int .u8 ((l.map fun b => (b.toNat : Int)).getD i 0)) := by
        have hil : i < l.length := by omega
        simp [byteCells, List.getD, List.getElem?_eq_getElem hil]
      rw [← h1, ← htk, Nat.zero_add]
      simp only [World.cell?, hg]
      rw [List.getElem?_take_of_lt (by omega)]
      simp
    rw [run_convert_bytes_arg w 30 5 Try.underlying30 Try.underlying5 g 0 n cap (l.map fun b => (b.toNat : Int)) (by simp [hn]) hcell 9 Try.underlying9]
    congr 2
    unfold strOfNums strOf
    congr 2
    rw [List.map_map]
    conv => rhs; rw [← List.map_id l]
    apply List.map_congr_left
    intro b _
    simp

set_option maxHeartbeats 1000000 in
set_option maxRecDepth 100000 in
theorem number_P (n : Int) (w : World) (h0 : 0 ≤ n) (h1 : n ≤ 281474976710656) :
    Calls Try.prog 4 #[.int .i64 n] w fun e w' => e = .returned (.tuple #[.string (strOf (num n.toNat)), .int .i64 0]) ∧ Below w.heap.size w w' := by
  obtain ⟨m, rfl⟩ := Int.eq_ofNat_of_zero_le h0
  simp only [Int.toNat_natCast]
  have HC := Lib.hid (appN (.slice none 0 0) w.heap.size 0 [] m w ⟨rfl, .inl ⟨rfl, rfl⟩⟩ (Nat.le_refl _) (by omega) (by omega))
  go_enter Try.func4, Try.ntmps4
  go_wp2_with (go_at_call 9; refine HC.out.mono ?_; rintro e w1 ⟨v', rfl, hown, hb⟩; have hcv := conv_own hown)
  go_ret2
  exact ⟨rfl, hb⟩

set_option maxHeartbeats 1000000 in
set_option maxRecDepth 100000 in
theorem number_bad (n : Int) (w : World) (h0 : n < 0 ∨ 281474976710656 < n) :
    Calls Try.prog 4 #[.int .i64 n] w fun e w' => e = .returned (.tuple #[.string ⟨#[]⟩, .int .i64 2]) ∧ Below w.heap.size w w' := by
  rcases h0 with h0 | h0
  · go_enter Try.func4, Try.ntmps4
    go_wp2_with fail
    go_ret2
    exact ⟨rfl, Below.refl _ _⟩
  · have h00 : ¬ n < 0 := by omega
    go_enter Try.func4, Try.ntmps4
    go_wp2_with fail
    go_ret2
    exact ⟨rfl, Below.refl _ _⟩

set_option maxHeartbeats 1000000 in
set_option maxRecDepth 100000 in
theorem out_any (n a b : Int) (w : World) :
    Calls Try.prog 10 #[.int .i64 n, .int .i64 a, .int .i64 b] w fun e w' => e = .returned (.bool (decide (n < a) || decide (b < n))) ∧ w' = w := by
  go_enter Try.func10, Try.ntmps10
  go_wp2_with fail
  all_goals (go_ret; exact ⟨ret_bool (by simp), rfl⟩)

set_option maxHeartbeats 1000000 in
set_option maxRecDepth 100000 in
theorem number_R (n : Nat) (w : World) (h1 : n ≤ 281474976710656) :
    Calls Try.prog 11 #[.int .i64 n] w fun e w' => e = .returned (.string (strOf (num n))) ∧ Below w.heap.size w w' := by
  obtain ⟨i0, hi, hz0, hz1, hz2⟩ := info_parts infoB
  have hn7 := num_len7 h1
  have ht : Int.tmod (n : Int) 128 = ((n % 128 : Nat) : Int) := by rw [Int.tmod_eq_emod_of_nonneg (by omega)]; omega
  have hq : Int.tdiv (n : Int) 128 = ((n / 128 : Nat) : Int) := by rw [Int.tdiv_eq_ediv_of_nonneg (by omega)]; omega
  have HNQ := Lib.hid (show n = n % 128 + 128 * (n / 128) by omega)
  have hd : n % 128 < 128 := Nat.mod_lt _ (by omega)
  have hqn : n / 128 ≤ n := Nat.div_le_self _ _
  generalize n % 128 = d at *
  generalize n / 128 = q at *
  have hw0 : IntKind.i64.wrap (d : Int) = (d : Int) := IntWalk.i64_in _ ⟨by omega, by omega⟩
  have hwq : IntKind.i64.wrap (q : Int) = (q : Int) := IntWalk.i64_in _ ⟨by omega, by omega⟩
  have hw8 : IntKind.u8.wrap (d : Int) = (d : Int) := by unfold IntKind.wrap; simp [IntKind.bits, IntKind.signed]; omega
  have hstart : (w.alloc (.cells #[.int .u8 (d : Int)] 5)).ownsRow w.heap.size 5 1 (.slice (some ⟨w.heap.size, 0, none⟩) 1 1) 1 (byteCells [UInt8.ofNat d]) := by
    have := World.ownsRow_lit (base := w.heap.size) (size := 1) (e := 5) w #[.int .u8 (d : Int)] 1 (Nat.le_refl _) (by unfold maxLen; omega) rfl
    rw [byteCells_one hd]; exact this
  go_enter Try.func11, Try.ntmps11
  go_wp2_with fail
  go_loopw [0, 3] (fun v0 v3 wr => ∃ (pre : List UInt8) (d r cap g : Nat), v0 = .int .i64 r ∧ v3 = .slice (some ⟨g, 0, none⟩) (pre.length + 1) cap ∧ r ≤ n ∧ d < 128 ∧ pre ++ num (d + 128 * r) = num n ∧ wr.ownsRow w.heap.size 5 1 (.slice (some ⟨g, 0, none⟩) (pre.length + 1) cap) (pre.length + 1) (byteCells (pre ++ [UInt8.ofNat d])) ∧ Below w.heap.size w wr) (fun v0 _ _ => (intOf v0).toNat)
  case atStart => exact ⟨[], d, q, 1, w.heap.size, rfl, rfl, hqn, hd, by rw [List.nil_append]; exact congrArg num HNQ.out.symm, hstart, (Below.refl _ _).alloc (Nat.le_refl _) _⟩
  case round =>
    clear hstart ht hq hd hqn hw0 hwq hw8 HNQ
    obtain ⟨pre, d', r, cap, g, rfl, rfl, hr, hd, heq, hown, hbw⟩ := hrel
    have HEQ := Lib.hid heq
    have hpl : pre.length ≤ 7 := by have := congrArg List.length heq; rw [List.length_append] at this; omega
    clear heq
    by_cases hr0 : r = 0
    · subst hr0
      have HX := Lib.hid HEQ.out
      rw [Nat.mul_zero, Nat.add_zero, num_low hd] at HX
      have hcv := conv_own hown
      rw [HX.out] at hcv
      go_wp2_with fail
      go_ret
      exact ⟨rfl, hbw⟩
    · have hrp : 0 < r := by omega
      have HE := Lib.hid HEQ.out
      rw [num_two hd hrp] at HE
      have hrz : (0 : Int) < (r : Int) := by omega
      have hlast : wr.cell? ⟨g, pre.length, none⟩ = some (.int .u8 (d' : Int)) := by
        rw [hown.cellAt pre.length (by omega), byteCells_append, byteCells_one hd, List.getElem?_append_right (by simp [byteCells])]
        simp [byteCells]
      have hfz := hown.frozenAt pre.length
      have hs := hown.stored pre.length (.int .u8 ((d' : Int) + 128))
      have hset : (byteCells (pre ++ [UInt8.ofNat d'])).set pre.length (.int .u8 ((d' : Int) + 128)) = byteCells (pre ++ [UInt8.ofNat (d' + 128)]) := by
        have hb : ((UInt8.ofNat (d' + 128)).toNat : Int) = (d' : Int) + 128 := by rw [UInt8.toNat_ofNat_of_lt' (by show d' + 128 < 256; omega)]; omega
        rw [byteCells_append, List.set_append_right (h := by simp [byteCells]), byteCells_snoc, hb]
        simp [byteCells]
      rw [hset] at hs
      clear hset
      have ht : Int.tmod (r : Int) 128 = ((r % 128 : Nat) : Int) := by rw [Int.tmod_eq_emod_of_nonneg (by omega)]; omega
      have hq : Int.tdiv (r : Int) 128 = ((r / 128 : Nat) : Int) := by rw [Int.tdiv_eq_ediv_of_nonneg (by omega)]; omega
      have HNQ := Lib.hid (show r % 128 + 128 * (r / 128) = r by omega)
      have hd2 : r % 128 < 128 := Nat.mod_lt _ (by omega)
      have hqn : r / 128 < r := Nat.div_lt_self (by omega) (by omega)
      generalize r % 128 = d2 at *
      generalize r / 128 = q2 at *
      have hw0 : IntKind.i64.wrap (d2 : Int) = (d2 : Int) := IntWalk.i64_in _ ⟨by omega, by omega⟩
      have hwq : IntKind.i64.wrap (q2 : Int) = (q2 : Int) := IntWalk.i64_in _ ⟨by omega, by omega⟩
      have hw8 : IntKind.u8.wrap (d2 : Int) = (d2 : Int) := by unfold IntKind.wrap; simp [IntKind.bits, IntKind.signed]; omega
      have hw9 : IntKind.u8.wrap ((d' : Int) + 128) = (d' : Int) + 128 := by unfold IntKind.wrap; simp [IntKind.bits, IntKind.signed]; omega
      have hgl : w.heap.size ≤ g := by have := own_ge hown g rfl; exact this
      have hlz : (pre.length : Int) < (pre.length : Int) + 1 := by omega
      have hbs := hbw.setCell (p := ⟨g, pre.length, none⟩) hgl (.int .u8 ((d' : Int) + 128))
      have hown2 := hs.1.alloc (.cells #[.int .u8 (d2 : Int)] 5)
      have hge := own_ge hown2
      have q1 : pre.length + 1 + 1 ≤ maxLen := by unfold maxLen; omega
      have q2' : (pre.length + 1 + 1) * 1 ≤ 140737488355328 := by omega
      have q3 : w.heap.size ≤ ((wr.setCell ⟨g, pre.length, none⟩ (.int .u8 ((d' : Int) + 128))).alloc (.cells #[.int .u8 (d2 : Int)] 5)).heap.size := by have := hbs.size; simp at this ⊢; omega
      have hone : ∀ u ∈ [Value.int .u8 (d2 : Int)], u.oneCell' = true := by intro u hu; simp at hu; subst hu; rfl
      have hc := cell_one (wr.setCell ⟨g, pre.length, none⟩ (.int .u8 ((d' : Int) + 128))) (.int .u8 (d2 : Int)) 5
      rw [show (wr.setCell ⟨g, pre.length, none⟩ (.int .u8 ((d' : Int) + 128))).heap.size = wr.heap.size by simp [World.setCell]] at hc
      clear hs
      go_wp2_with (at_builtin; (refine wpList_append_own _ rfl _ _ 30 rfl w.heap.size 5 i0 (.int .u8 0) 1 1 Try.underlying30 hi hz0 hz1 hz2 rfl (by decide) _ _ _ rfl hown2 ⟨wr.heap.size, 0, none⟩ 1 1 [.int .u8 (d2 : Int)] rfl rfl hc hone q1 q2' q3 ?_; intro v' w3 hown3 hgrow _))
      obtain ⟨g', cap', rfl⟩ : ∃ g' cap', v' = .slice (some ⟨g', 0, none⟩) (pre.length + 1 + 1) cap' := by
        rcases hown3.2 with ⟨_, h0⟩ | ⟨g', cap', cur, hv, _⟩
        · omega
        · exact ⟨g', cap', hv⟩
      have hlen : (pre ++ [UInt8.ofNat (d' + 128)]).length + 1 = pre.length + 1 + 1 := by rw [List.length_append, List.length_singleton]
      refine ⟨⟨pre ++ [UInt8.ofNat (d' + 128)], d2, q2, cap', g', rfl, by rw [hlen], by omega, hd2, by rw [HNQ.out, List.append_assoc]; exact HE.out, ?_, (hbs.alloc (by have := hbs.size; simp at this ⊢; omega) _).grown hgrow q3 hge⟩, by simp [intOf]; omega⟩
      rw [hlen, byteCells_append (pre ++ [UInt8.ofNat (d' + 128)]), byteCells_one hd2]
      exact hown3
end Go.Proofs.Ytffjnomaebjbdac

/- What Digest, Print and digits answer; the law GroupSteady. -/
import Derived.Test.YtonjmfbalkdmfaaGreatDoorStD
import Derived.Test.YtonjmfbalkdmfaaGreatDoorStP
import Derived.Lib.ConvBytes
namespace Go.Proofs.YtonjmfbalkdmfaaGreatDoor
open Go.RowKit

set_option maxHeartbeats 2000000 in
set_option maxRecDepth 100000 in
theorem writeByte_any (B b : Nat) (bs : List Value) (c : Int) (w : World) (h : Lib.IsBuilder 37 5 B b bs w) (hlen : bs.length + 1 ≤ 140737488355328) (hBw : B ≤ w.heap.size) :
    Calls Tryz.prog 21 #[.pointer (some ⟨b, 0, none⟩), .int .u8 c] w fun e w' => e = .returned .nilIface ∧ (Lib.BuilderAt 37 5 B b (.pointer (some ⟨b, 0, none⟩)) (bs ++ [.int .u8 c]) w' ∧ Below B w w' ∧ Lib.OthersKept 5 (some b) w w') := by
  obtain ⟨i0, hi, hz0, hz1, hz2⟩ := info_parts infoB
  go_enter Tryz.func21, Tryz.ntmps21
  go_wp2_with (go_at_call 18; refine (copyCheck_any B b bs _ h).mono ?_)
  rintro e w1 ⟨rfl, h1, hb1, hk1⟩
  obtain ⟨hB, v, hbk, hown, hne⟩ := h1
  have c0 : w1.cell? ⟨b, 0, none⟩ = some (.pointer (some ⟨b, 0, none⟩)) := by rw [Lib.cell_of_heap hbk]; rfl
  have c1 : w1.cell? ⟨b, 1, none⟩ = some v := by rw [Lib.cell_of_heap hbk]; rfl
  have hs1 := hb1.size
  have k1 : ∀ (j : Nat) (u : Value), [Value.int .u8 c][j]? = some u → (w1.alloc (.cells #[.int .u8 c] 5)).cell? (Addr.add ⟨w1.heap.size, 0, none⟩ j) = some u := by
    intro j u hj
    match j, hj with
    | 0, hj => simp at hj; subst hj; simp [Addr.add]
  go_wp2_with (at_builtin; refine wpList_append_own _ rfl _ _ 35 rfl B 5 i0 (.int .u8 0) 1 1 Tryz.underlying35 hi hz0 hz1 hz2 rfl (by decide) _ _ _ rfl (hown.alloc _) ⟨w1.heap.size, 0, none⟩ 1 1 [.int .u8 c] rfl rfl k1 (by intro u hu; simp at hu; subst hu; rfl) (by unfold maxLen; omega) (by omega) (by simp; omega) ?_)
  intro v' w2 hown' hgrow _
  have hlt : b < w1.heap.size := by
    rcases Nat.lt_or_ge b w1.heap.size with h' | h'
    · exact h'
    · simp [Array.getElem?_eq_none h'] at hbk
  have hb2 : w2.heap[b]? = some (.cells #[.pointer (some ⟨b, 0, none⟩), v] 37 (0, 0)) := by
    rw [hgrow.block b (by simp; omega) (fun e => hne e.symm), Lib.alloc_old w1 _ b hlt]
    exact hbk
  have d0 : w2.cell? ⟨b, 0, none⟩ = some (.pointer (some ⟨b, 0, none⟩)) := by rw [Lib.cell_of_heap hb2]; rfl
  have d1 : w2.cell? ⟨b, 1, none⟩ = some v := by rw [Lib.cell_of_heap hb2]; rfl
  have f1 : w2.frozen? ⟨b, 1, none⟩ = false := Lib.frozen_of_heap hb2 1
  obtain ⟨g, cap, rfl⟩ : ∃ g cap, v' = .slice (some ⟨g, 0, none⟩) (bs.length + 1) cap := by
    rcases hown'.2 with ⟨_, h0⟩ | ⟨g, cap, cur, hv, _⟩
    · omega
    · exact ⟨g, cap, hv⟩
  go_wp2
  go_ret
  refine ⟨rfl, ?_, ?_, ?_⟩
  · exact Lib.BuilderAt.put (T := 37) (e := 5) hB hb2 (bs' := bs ++ [.int .u8 c]) (by simpa using hown') (by decide)
  · exact ((hb1.alloc (by have := hb1.size; omega) _).grown hgrow (by have := hb1.size; simp; omega) (fun k hk => (hown.lt k hk).1)).setCell (p := ⟨b, 1, none⟩) hB _
  · exact ((hk1.alloc _).grown hgrow (own_kind (hown.alloc _))).setCell ⟨b, 1, none⟩ rfl _

open Go.Lib
theorem isB_of {B b : Nat} {L : List Value} {w : World} (h : Lib.BuilderAt 37 5 B b (.pointer (some ⟨b, 0, none⟩)) L w) : Lib.IsBuilder 37 5 B b L w := .inr h
def dgL (k p : ByteArray) (i : Nat) : List UInt8 := if i = 0 then [] else if i = 1 then k.data.toList ++ [0] else k.data.toList ++ [0] ++ p.data.toList ++ [0]
def prD (k p : ByteArray) : ByteArray := ⟨(sumS (sumN (bs (dgL k p 2)))).toArray⟩

set_option maxHeartbeats 2000000 in
set_option maxRecDepth 100000 in
theorem digest_two (g cap : Nat) (k p : ByteArray) (w : World) (hk : k.size ≤ 1000000) (hp : p.size ≤ 1000000) (c0 : w.cell? ⟨g, 0, none⟩ = some (.string k)) (c1 : w.cell? ⟨g, 1, none⟩ = some (.string p)) (he : EnvH w) :
    Calls Tryz.prog 12 #[.slice (some ⟨g, 0, none⟩) 2 cap] w fun e w' => e = .returned (.string (prD k p)) ∧ Below w.heap.size w w' := by
  have hg : g < w.heap.size := World.block_lt_of_cell? w ⟨g, 0, none⟩ c0
  have HK := Lib.hid (Lib.size_eq k)
  have HP := Lib.hid (Lib.size_eq p)
  have HE := Lib.hid he
  have hl0 : (dgL k p 0).length = 0 := rfl
  have hl1 : (dgL k p 1).length = k.size + 1 := by rw [HK.out]; simp [dgL]
  have hl2 : (dgL k p 2).length = k.size + p.size + 2 := by rw [HK.out, HP.out]; simp [dgL]; omega
  have HL0 := Lib.hid hl0
  have HL1 := Lib.hid hl1
  have HL2 := Lib.hid hl2
  clear hl0 hl1 hl2 he
  have HB1 := Lib.hid (show Lib.byteCells (dgL k p 0) ++ Lib.strCells k ++ [.int .u8 0] = Lib.byteCells (dgL k p 1) by
    rw [show dgL k p 1 = k.data.toList ++ [0] from rfl, byteCells_app]; rfl)
  have HB2 := Lib.hid (show Lib.byteCells (dgL k p 1) ++ Lib.strCells p ++ [.int .u8 0] = Lib.byteCells (dgL k p 2) by
    rw [show dgL k p 2 = k.data.toList ++ [0] ++ p.data.toList ++ [0] from rfl, show dgL k p 1 = k.data.toList ++ [0] from rfl]; simp only [byteCells_app]; rfl)
  go_enter Tryz.func12, Tryz.ntmps12
  go_wp2_with fail
  go_loopw [8] (fun v wr => ∃ i : Nat, i ≤ 2 ∧ v = .int .i64 i ∧ Lib.IsBuilder 37 5 w.heap.size w.heap.size (Lib.byteCells (dgL k p i)) wr ∧ Below w.heap.size w wr) (fun v _ => 2 - (RowKit.intOf v).toNat)
  case atStart => exact ⟨0, Nat.zero_le _, rfl, Lib.fresh_isBuilder 37 5 w, (Below.refl _ _).alloc (Nat.le_refl _) _⟩
  case round =>
    obtain ⟨i, hi, rfl, hIB, hbw⟩ := hrel
    have d0 : wr.cell? ⟨g, 0, none⟩ = some (.string k) := (hbw.cell (p := ⟨g, _, none⟩) hg).trans c0
    have d1 : wr.cell? ⟨g, 1, none⟩ = some (.string p) := (hbw.cell (p := ⟨g, _, none⟩) hg).trans c1
    obtain rfl | rfl | rfl : i = 0 ∨ i = 1 ∨ i = 2 := by omega
    · go_wp2_with (first
        | (go_at_call 9; refine (writeString_any w.heap.size w.heap.size (Lib.byteCells (dgL k p 0)) k wr hIB (by rw [byteCells_len, HL0.out]; omega) hbw.size).mono ?_; rintro e w1 ⟨rfl, h1, b1, k1⟩; have hB1 := hbw.trans b1)
        | (go_at_call 21; refine (writeByte_any w.heap.size w.heap.size _ 0 w1 (.inr h1) (by rw [List.length_append, byteCells_len, HL0.out, Lib.strCells_length]; omega) hB1.size).mono ?_; rintro e w2 ⟨rfl, h2, b2, k2⟩; have hB2 := hB1.trans b2))
      refine ⟨⟨1, by omega, rfl, ?_, hB2⟩, by simp [RowKit.intOf]⟩
      rw [← HB1.out]; exact .inr h2
    · go_wp2_with (first
        | (go_at_call 9; refine (writeString_any w.heap.size w.heap.size (Lib.byteCells (dgL k p 1)) p wr hIB (by rw [byteCells_len, HL1.out]; omega) hbw.size).mono ?_; rintro e w1 ⟨rfl, h1, b1, k1⟩; have hB1 := hbw.trans b1)
        | (go_at_call 21; refine (writeByte_any w.heap.size w.heap.size _ 0 w1 (.inr h1) (by rw [List.length_append, byteCells_len, HL1.out, Lib.strCells_length]; omega) hB1.size).mono ?_; rintro e w2 ⟨rfl, h2, b2, k2⟩; have hB2 := hB1.trans b2))
      refine ⟨⟨2, by omega, rfl, ?_, hB2⟩, by simp [RowKit.intOf]⟩
      rw [← HB2.out]; exact .inr h2
    · have HST := Lib.hid (Tryz.Builder_String_any w.heap.size w.heap.size (dgL k p 2) wr hIB hbw.size)
      have HSM := Lib.hid (fun (W : World) (hW : Below w.heap.size w W) => Sum_any (bs (dgL k p 2)) W (by rw [bs_size, HL2.out]; omega) (HE.out.keep hW))
      go_wp2_with (first
        | (go_at_call 10; (with_reducible refine HST.out.mono ?_); rintro e w1 ⟨rfl, hb1⟩; have hB1 := hbw.trans hb1)
        | (go_at_call 22; refine (HSM.out _ hB1).mono ?_; rintro e w2 ⟨rfl, hb2⟩; have hB2 := below_keep hB1 (Nat.le_refl _) hb2))
      go_ret
      exact ⟨rfl, hB2⟩

def prTx (k t : ByteArray) : ByteArray := if stk.kErr k = 0 then prD k (bs (pl t.data.toList)) else ⟨#[]⟩
set_option maxHeartbeats 2000000 in
set_option maxRecDepth 100000 in
theorem print_one (b : Nat) (k t : ByteArray) (w : World) (h1 : k.size ≤ maxLen) (h2 : t.size ≤ 2000) (h3 : stk.okT t = true) (c0 : w.cell? ⟨b, 0, none⟩ = some (.string k)) (c1 : w.cell? ⟨b, 1, none⟩ = some (.string t)) (c2 : w.cell? ⟨b, 2, none⟩ = some (.slice none 0 0)) (he : EnvH w) :
    Calls Tryz.prog 6 #[.slice none 0 0, .slice (some ⟨b, 0, none⟩) 1 1] w fun e w' => e = .returned (.tuple #[.string (prTx k t), .int .i64 (stk.kErr k)]) ∧ Below w.heap.size w w' := by
  unfold prTx
  by_cases hE : stk.kErr k = 0
  · rw [if_pos hE]
    have HPT := Lib.hid (parts_good b k t w h1 h2 h3 c0 c1 c2 hE)
    have hk : k.size ≤ 1000000 := by
      unfold stk.kErr at hE
      split at hE
      · cases hE
      · omega
    have hp : (bs (pl t.data.toList)).size ≤ 1000000 := by
      rw [bs_size]
      have := pl_len t.data.toList
      rw [← Lib.size_eq] at this
      omega
    have HD := Lib.hid (fun (g cap : Nat) (W : World) (hW : Below w.heap.size w W) (d0 : W.cell? ⟨g, 0, none⟩ = some (.string k)) (d1 : W.cell? ⟨g, 1, none⟩ = some (.string (bs (pl t.data.toList)))) => digest_two g cap k (bs (pl t.data.toList)) W hk hp d0 d1 (he.keep hW))
    rw [hE]
    clear c0 c1 c2 hE h3 he hp
    generalize bs (pl t.data.toList) = P at *
    go_enter Tryz.func6, Tryz.ntmps6
    go_wp2_with (first
      | (go_at_call 11; (with_reducible refine HPT.out.mono ?_); rintro e w1 ⟨⟨v, rfl, hown⟩, hb1⟩; obtain ⟨g, cap, rfl, -, -, -, hg⟩ := own_slice hown (by omega))
      | (go_at_call 12; (with_reducible refine (HD.out g cap _ hb1 (hg 0 _ rfl) (hg 1 _ rfl)).mono ?_); rintro e w2 ⟨rfl, hb2⟩))
    go_ret2
    exact ⟨rfl, below_keep hb1 (Nat.le_refl _) hb2⟩
  · rw [if_neg hE]
    have HPT := Lib.hid (parts_bad b k t w h1 h2 h3 c0 c1 c2 hE)
    have hne : (stk.kErr k != 0) = true := by rw [bne_iff_ne]; exact hE
    clear c0 c1 c2 hE h3 he
    go_enter Tryz.func6, Tryz.ntmps6
    go_wp2_with (go_at_call 11; (with_reducible refine HPT.out.mono ?_); rintro e w1 ⟨rfl, hb1⟩)
    go_ret2
    exact ⟨rfl, hb1⟩
end Go.Proofs.YtonjmfbalkdmfaaGreatDoor

/- What Write answers. -/
import Derived.Test.YtmoofdcoodaaiaaGreatDoorWrE
import Derived.Test.YtmoofdcoodaaiaaGreatDoorWrM
import Derived.Laws.EntriesVeiled
namespace Go.Proofs.YtmoofdcoodaaiaaGreatDoor
open Go.RowKit Go.Lib

def wrErr (l : List Fa) (form : Int) : Int := if fasErr l ≠ 0 then fasErr l else if form < 1 ∨ 3 < form then 10 else if ambs l = true then 9 else if 1000000 < (tx (lines l form)).length then 4 else 0
def wrTx (l : List Fa) (form : Int) : ByteArray := if wrErr l form = 0 then bs (tx (lines l form)) else ⟨#[]⟩

set_option maxHeartbeats 1000000 in
set_option maxRecDepth 100000 in
theorem format1 (w : World) :
    Calls Tryz.prog 13 #[.int .i64 1] w fun e w' => e = .returned (.tuple #[.agg #[.func (.func 30) #[] #[], .func (.func 31) #[] #[]], .bool true]) ∧ Below w.heap.size w w' := by
  go_enter Tryz.func13, Tryz.ntmps13
  go_wp2
  (try simp only [Exit.inBlock, Exit.then])
  refine bodyPost_ret (by simp [results, Tryz.results13, go_sem]; try rfl) rfl ?_
  exact ⟨rfl, ((Below.refl _ _).alloc (Nat.le_refl _) _).alloc (by simp) _⟩
set_option maxHeartbeats 1000000 in
set_option maxRecDepth 100000 in
theorem format2 (w : World) :
    Calls Tryz.prog 13 #[.int .i64 2] w fun e w' => e = .returned (.tuple #[.agg #[.func (.func 32) #[] #[], .func (.func 33) #[] #[]], .bool true]) ∧ Below w.heap.size w w' := by
  go_enter Tryz.func13, Tryz.ntmps13
  go_wp2
  (try simp only [Exit.inBlock, Exit.then])
  refine bodyPost_ret (by simp [results, Tryz.results13, go_sem]; try rfl) rfl ?_
  exact ⟨rfl, ((Below.refl _ _).alloc (Nat.le_refl _) _).alloc (by simp) _⟩
set_option maxHeartbeats 1000000 in
set_option maxRecDepth 100000 in
theorem format3 (w : World) :
    Calls Tryz.prog 13 #[.int .i64 3] w fun e w' => e = .returned (.tuple #[.agg #[.func (.func 34) #[] #[], .func (.func 35) #[] #[]], .bool true]) ∧ Below w.heap.size w w' := by
  go_enter Tryz.func13, Tryz.ntmps13
  go_wp2
  (try simp only [Exit.inBlock, Exit.then])
  refine bodyPost_ret (by simp [results, Tryz.results13, go_sem]; try rfl) rfl ?_
  exact ⟨rfl, ((Below.refl _ _).alloc (Nat.le_refl _) _).alloc (by simp) _⟩
set_option maxHeartbeats 1000000 in
set_option maxRecDepth 100000 in
theorem format0 (form : Int) (w : World) (h : form < 1 ∨ 3 < form) :
    Calls Tryz.prog 13 #[.int .i64 form] w fun e w' => e = .returned (.tuple #[.agg #[.nilFunc, .nilFunc], .bool false]) ∧ Below w.heap.size w w' := by
  by_cases h1 : form < 1
  · have d1 : decide (form < 1) = true := by simpa using h1
    go_enter Tryz.func13, Tryz.ntmps13
    go_wp2
    (try simp only [Exit.inBlock, Exit.then])
    refine bodyPost_ret (by simp [results, Tryz.results13, go_sem]; try rfl) rfl ?_
    exact ⟨rfl, ((Below.refl _ _).alloc (Nat.le_refl _) _).alloc (by simp) _⟩
  · have d1 : decide (form < 1) = false := by simpa using h1
    have d2 : decide (4 ≤ form) = true := by simp; omega
    go_enter Tryz.func13, Tryz.ntmps13
    go_wp2
    (try simp only [Exit.inBlock, Exit.then])
    refine bodyPost_ret (by simp [results, Tryz.results13, go_sem]; try rfl) rfl ?_
    exact ⟨rfl, ((Below.refl _ _).alloc (Nat.le_refl _) _).alloc (by simp) _⟩

set_option maxHeartbeats 4000000 in
set_option maxRecDepth 100000 in
theorem write1 (v : Value) (l : List Fa) (w : World) (hv : SlA w v l) (he : EnvW w) (hE : fasErr l = 0) :
    Calls Tryz.prog 5 #[v, .int .i64 1] w fun e w' => e = .returned (.tuple #[.string (wrTx l 1), .int .i64 (wrErr l 1)]) ∧ Below w.heap.size w w' := by
  have HC := Lib.hid (check_any v l w hv)
  rw [hE] at HC
  have HA := Lib.hid (fun (W : World) (hW : Below w.heap.size w W) => faCont_any v l W (hv.below (Nat.le_refl _) hW))
  have HW := Lib.hid (fun (W : World) (b : Nat) (hW : Below w.heap.size w W) (hB : w.heap.size ≤ b) (h : Lib.IsBuilder 49 5 b b (Lib.byteCells []) W) (hb : b ≤ W.heap.size) => writeInner_any v l b b w W hv hW hB h hb hE he)
  have hlin : lines l 1 = inUp l l.length := rfl
  rw [← hlin] at HW
  have HX := Lib.hid (show wrErr l 1 = if ambs l = true then 9 else if 1000000 < (tx (lines l 1)).length then 4 else 0 by
    unfold wrErr; rw [if_neg (by simp [hE]), if_neg (by omega)])
  have HT := Lib.hid (show wrTx l 1 = if wrErr l 1 = 0 then bs (tx (lines l 1)) else ⟨#[]⟩ from rfl)
  clear hlin hE he
  generalize wrErr l 1 = E at *
  generalize wrTx l 1 = X at *
  generalize tx (lines l 1) = L at *
  obtain ⟨p, cap, rfl, -⟩ := hv
  have HF := Lib.hid (fun W => format1 W)
  cases ha : ambs l
  · rw [ha] at HA HX
    rw [if_neg (by simp)] at HX
    by_cases hL : 1000000 < L.length
    · rw [if_pos hL] at HX
      have hE4 := HX.out
      subst hE4
      rw [if_neg (by decide)] at HT
      have hX0 := HT.out
      subst hX0
      clear HX HT
      go_enter Tryz.func5, Tryz.ntmps5
      go_wp2_with (first
        | (go_at_call 12; (with_reducible refine HC.out.mono ?_); rintro e w1 ⟨rfl, hb1⟩; have hs1 := hb1.size)
        | (go_at_call 13; (with_reducible refine (HF.out _).mono ?_); rintro e w2 ⟨rfl, hb2⟩; have hb3 : Below w.heap.size w w2 := below_call hb1 hs1 hb2; have hs3 := hb3.size))
      refine (HA.out _ (hb3.alloc hs3 _)).mono ?_
      rintro e w3 ⟨rfl, hb4⟩
      have hb5 := below_a1 hb3 hs3 hb4
      have f0 : w3.cell? ⟨w2.heap.size, 0, none⟩ = some (.func (.func 30) #[] #[]) := by
        rw [hb4.cell (p := ⟨w2.heap.size, 0, none⟩) (by simp)]; simp
      have hs5 := hb5.size
      have hlt3 : w2.heap.size < w3.heap.size := by have := hb4.size; simp at this; omega
      go_wp2_with fail
      refine (HW.out _ w3.heap.size (hb5.alloc hs5 _) hs5 (Lib.fresh_isBuilder 49 5 w3) (by simp)).mono ?_
      rintro e w4 ⟨rfl, h4, b4⟩
      have b5 : Below w3.heap.size w3 w4 := ((Below.refl _ w3).alloc (Nat.le_refl _) _).trans b4
      have hll : (Lib.byteCells L).length = L.length := Lib.byteCells_length L
      have HLN := Lib.hid (Tryz.Builder_Len w3.heap.size w3.heap.size _ _ h4)
      rw [hll] at HLN
      have hgt : (1000000 : Int) < (L.length : Int) := by omega
      clear hll
      go_wp2_with (go_at_call 16; (with_reducible refine HLN.out.mono ?_); rintro e w5 ⟨rfl, rfl⟩)
      go_ret2
      exact ⟨rfl, hb5.trans (b5.mono hs5)⟩
    · rw [if_neg hL] at HX
      have hE4 := HX.out
      subst hE4
      rw [if_pos rfl] at HT
      clear HX
      go_enter Tryz.func5, Tryz.ntmps5
      go_wp2_with (first
        | (go_at_call 12; (with_reducible refine HC.out.mono ?_); rintro e w1 ⟨rfl, hb1⟩; have hs1 := hb1.size)
        | (go_at_call 13; (with_reducible refine (HF.out _).mono ?_); rintro e w2 ⟨rfl, hb2⟩; have hb3 : Below w.heap.size w w2 := below_call hb1 hs1 hb2; have hs3 := hb3.size))
      refine (HA.out _ (hb3.alloc hs3 _)).mono ?_
      rintro e w3 ⟨rfl, hb4⟩
      have hb5 := below_a1 hb3 hs3 hb4
      have f0 : w3.cell? ⟨w2.heap.size, 0, none⟩ = some (.func (.func 30) #[] #[]) := by
        rw [hb4.cell (p := ⟨w2.heap.size, 0, none⟩) (by simp)]; simp
      have hs5 := hb5.size
      have hlt3 : w2.heap.size < w3.heap.size := by have := hb4.size; simp at this; omega
      go_wp2_with fail
      refine (HW.out _ w3.heap.size (hb5.alloc hs5 _) hs5 (Lib.fresh_isBuilder 49 5 w3) (by simp)).mono ?_
      rintro e w4 ⟨rfl, h4, b4⟩
      have b5 : Below w3.heap.size w3 w4 := ((Below.refl _ w3).alloc (Nat.le_refl _) _).trans b4
      have hll : (Lib.byteCells L).length = L.length := Lib.byteCells_length L
      have HLN := Lib.hid (Tryz.Builder_Len w3.heap.size w3.heap.size _ _ h4)
      rw [hll] at HLN
      have HST := Lib.hid (Tryz.Builder_String_any w3.heap.size w3.heap.size L _ h4 b5.size)
      have hgt : ¬ (1000000 : Int) < (L.length : Int) := by omega
      clear hll
      go_wp2_with (first
        | (go_at_call 16; (with_reducible refine HLN.out.mono ?_); rintro e w5 ⟨rfl, rfl⟩)
        | (go_at_call 17; (with_reducible refine HST.out.mono ?_); rintro e w6 ⟨rfl, hb6⟩))
      go_ret2
      exact ⟨by rw [HT.out]; rfl, hb5.trans ((b5.trans hb6).mono hs5)⟩
  · rw [ha] at HA HX
    rw [if_pos rfl] at HX
    have hE9 := HX.out
    subst hE9
    rw [if_neg (by decide)] at HT
    have hX0 := HT.out
    subst hX0
    clear HX HT
    go_enter Tryz.func5, Tryz.ntmps5
    go_wp2_with (first
      | (go_at_call 12; (with_reducible refine HC.out.mono ?_); rintro e w1 ⟨rfl, hb1⟩; have hs1 := hb1.size)
      | (go_at_call 13; (with_reducible refine (HF.out _).mono ?_); rintro e w2 ⟨rfl, hb2⟩; have hb3 : Below w.heap.size w w2 := below_call hb1 hs1 hb2; have hs3 := hb3.size))
    refine (HA.out _ (hb3.alloc hs3 _)).mono ?_
    rintro e w3 ⟨rfl, hb4⟩
    have hb5 := below_a1 hb3 hs3 hb4
    go_wp2_with fail
    go_ret2
    exact ⟨rfl, hb5⟩

set_option maxHeartbeats 4000000 in
set_option maxRecDepth 100000 in
theorem write2 (v : Value) (l : List Fa) (w : World) (hv : SlA w v l) (he : EnvW w) (hE : fasErr l = 0) :
    Calls Tryz.prog 5 #[v, .int .i64 2] w fun e w' => e = .returned (.tuple #[.string (wrTx l 2), .int .i64 (wrErr l 2)]) ∧ Below w.heap.size w w' := by
  have HC := Lib.hid (check_any v l w hv)
  rw [hE] at HC
  have HA := Lib.hid (fun (W : World) (hW : Below w.heap.size w W) => faCont_any v l W (hv.below (Nat.le_refl _) hW))
  have HW := Lib.hid (fun (W : World) (b : Nat) (hW : Below w.heap.size w W) (hB : w.heap.size ≤ b) (h : Lib.IsBuilder 49 5 b b (Lib.byteCells []) W) (hb : b ≤ W.heap.size) => writeOuter_any v l b b w W hv hW hB h hb hE he)
  have hlin : lines l 2 = outDn l l.length := rfl
  rw [← hlin] at HW
  have HX := Lib.hid (show wrErr l 2 = if ambs l = true then 9 else if 1000000 < (tx (lines l 2)).length then 4 else 0 by
    unfold wrErr; rw [if_neg (by simp [hE]), if_neg (by omega)])
  have HT := Lib.hid (show wrTx l 2 = if wrErr l 2 = 0 then bs (tx (lines l 2)) else ⟨#[]⟩ from rfl)
  clear hlin hE he
  generalize wrErr l 2 = E at *
  generalize wrTx l 2 = X at *
  generalize tx (lines l 2) = L at *
  obtain ⟨p, cap, rfl, -⟩ := hv
  have HF := Lib.hid (fun W => format2 W)
  cases ha : ambs l
  · rw [ha] at HA HX
    rw [if_neg (by simp)] at HX
    by_cases hL : 1000000 < L.length
    · rw [if_pos hL] at HX
      have hE4 := HX.out
      subst hE4
      rw [if_neg (by decide)] at HT
      have hX0 := HT.out
      subst hX0
      clear HX HT
      go_enter Tryz.func5, Tryz.ntmps5
      go_wp2_with (first
        | (go_at_call 12; (with_reducible refine HC.out.mono ?_); rintro e w1 ⟨rfl, hb1⟩; have hs1 := hb1.size)
        | (go_at_call 13; (with_reducible refine (HF.out _).mono ?_); rintro e w2 ⟨rfl, hb2⟩; have hb3 : Below w.heap.size w w2 := below_call hb1 hs1 hb2; have hs3 := hb3.size))
      refine (HA.out _ (hb3.alloc hs3 _)).mono ?_
      rintro e w3 ⟨rfl, hb4⟩
      have hb5 := below_a1 hb3 hs3 hb4
      have f0 : w3.cell? ⟨w2.heap.size, 0, none⟩ = some (.func (.func 32) #[] #[]) := by
        rw [hb4.cell (p := ⟨w2.heap.size, 0, none⟩) (by simp)]; simp
      have hs5 := hb5.size
      have hlt3 : w2.heap.size < w3.heap.size := by have := hb4.size; simp at this; omega
      go_wp2_with fail
      refine (HW.out _ w3.heap.size (hb5.alloc hs5 _) hs5 (Lib.fresh_isBuilder 49 5 w3) (by simp)).mono ?_
      rintro e w4 ⟨rfl, h4, b4⟩
      have b5 : Below w3.heap.size w3 w4 := ((Below.refl _ w3).alloc (Nat.le_refl _) _).trans b4
      have hll : (Lib.byteCells L).length = L.length := Lib.byteCells_length L
      have HLN := Lib.hid (Tryz.Builder_Len w3.heap.size w3.heap.size _ _ h4)
      rw [hll] at HLN
      have hgt : (1000000 : Int) < (L.length : Int) := by omega
      clear hll
      go_wp2_with (go_at_call 16; (with_reducible refine HLN.out.mono ?_); rintro e w5 ⟨rfl, rfl⟩)
      go_ret2
      exact ⟨rfl, hb5.trans (b5.mono hs5)⟩
    · rw [if_neg hL] at HX
      have hE4 := HX.out
      subst hE4
      rw [if_pos rfl] at HT
      clear HX
      go_enter Tryz.func5, Tryz.ntmps5
      go_wp2_with (first
        | (go_at_call 12; (with_reducible refine HC.out.mono ?_); rintro e w1 ⟨rfl, hb1⟩; have hs1 := hb1.size)
        | (go_at_call 13; (with_reducible refine (HF.out _).mono ?_); rintro e w2 ⟨rfl, hb2⟩; have hb3 : Below w.heap.size w w2 := below_call hb1 hs1 hb2; have hs3 := hb3.size))
      refine (HA.out _ (hb3.alloc hs3 _)).mono ?_
      rintro e w3 ⟨rfl, hb4⟩
      have hb5 := below_a1 hb3 hs3 hb4
      have f0 : w3.cell? ⟨w2.heap.size, 0, none⟩ = some (.func (.func 32) #[] #[]) := by
        rw [hb4.cell (p := ⟨w2.heap.size, 0, none⟩) (by simp)]; simp
      have hs5 := hb5.size
      have hlt3 : w2.heap.size < w3.heap.size := by have := hb4.size; simp at this; omega
      go_wp2_with fail
      refine (HW.out _ w3.heap.size (hb5.alloc hs5 _) hs5 (Lib.fresh_isBuilder 49 5 w3) (by simp)).mono ?_
      rintro e w4 ⟨rfl, h4, b4⟩
      have b5 : Below w3.heap.size w3 w4 := ((Below.refl _ w3).alloc (Nat.le_refl _) _).trans b4
      have hll : (Lib.byteCells L).length = L.length := Lib.byteCells_length L
      have HLN := Lib.hid (Tryz.Builder_Len w3.heap.size w3.heap.size _ _ h4)
      rw [hll] at HLN
      have HST := Lib.hid (Tryz.Builder_String_any w3.heap.size w3.heap.size L _ h4 b5.size)
      have hgt : ¬ (1000000 : Int) < (L.length : Int) := by omega
      clear hll
      go_wp2_with (first
        | (go_at_call 16; (with_reducible refine HLN.out.mono ?_); rintro e w5 ⟨rfl, rfl⟩)
        | (go_at_call 17; (with_reducible refine HST.out.mono ?_); rintro e w6 ⟨rfl, hb6⟩))
      go_ret2
      exact ⟨by rw [HT.out]; rfl, hb5.trans ((b5.trans hb6).mono hs5)⟩
  · rw [ha] at HA HX
    rw [if_pos rfl] at HX
    have hE9 := HX.out
    subst hE9
    rw [if_neg (by decide)] at HT
    have hX0 := HT.out
    subst hX0
    clear HX HT
    go_enter Tryz.func5, Tryz.ntmps5
    go_wp2_with (first
      | (go_at_call 12; (with_reducible refine HC.out.mono ?_); rintro e w1 ⟨rfl, hb1⟩; have hs1 := hb1.size)
      | (go_at_call 13; (with_reducible refine (HF.out _).mono ?_); rintro e w2 ⟨rfl, hb2⟩; have hb3 : Below w.heap.size w w2 := below_call hb1 hs1 hb2; have hs3 := hb3.size))
    refine (HA.out _ (hb3.alloc hs3 _)).mono ?_
    rintro e w3 ⟨rfl, hb4⟩
    have hb5 := below_a1 hb3 hs3 hb4
    go_wp2_with fail
    go_ret2
    exact ⟨rfl, hb5⟩

set_option maxHeartbeats 4000000 in
set_option maxRecDepth 100000 in
theorem write3 (v : Value) (l : List Fa) (w : World) (hv : SlA w v l) (he : EnvW w) (hE : fasErr l = 0) :
    Calls Tryz.prog 5 #[v, .int .i64 3] w fun e w' => e = .returned (.tuple #[.string (wrTx l 3), .int .i64 (wrErr l 3)]) ∧ Below w.heap.size w w' := by
  have HC := Lib.hid (check_any v l w hv)
  rw [hE] at HC
  have HA := Lib.hid (fun (W : World) (hW : Below w.heap.size w W) => faCont_any v l W (hv.below (Nat.le_refl _) hW))
  have HW := Lib.hid (fun (W : World) (b : Nat) (hW : Below w.heap.size w W) (hB : w.heap.size ≤ b) (h : Lib.IsBuilder 49 5 b b (Lib.byteCells []) W) (hb : b ≤ W.heap.size) => writePairs_any v l b b w W hv hW hB h hb hE he)
  have hlin : lines l 3 = l.flatMap prLs := rfl
  rw [prFas_tx, ← hlin] at HW
  have HX := Lib.hid (show wrErr l 3 = if ambs l = true then 9 else if 1000000 < (tx (lines l 3)).length then 4 else 0 by
    unfold wrErr; rw [if_neg (by simp [hE]), if_neg (by omega)])
  have HT := Lib.hid (show wrTx l 3 = if wrErr l 3 = 0 then bs (tx (lines l 3)) else ⟨#[]⟩ from rfl)
  clear hlin hE he
  generalize wrErr l 3 = E at *
  generalize wrTx l 3 = X at *
  generalize tx (lines l 3) = L at *
  obtain ⟨p, cap, rfl, -⟩ := hv
  have HF := Lib.hid (fun W => format3 W)
  cases ha : ambs l
  · rw [ha] at HA HX
    rw [if_neg (by simp)] at HX
    by_cases hL : 1000000 < L.length
    · rw [if_pos hL] at HX
      have hE4 := HX.out
      subst hE4
      rw [if_neg (by decide)] at HT
      have hX0 := HT.out
      subst hX0
      clear HX HT
      go_enter Tryz.func5, Tryz.ntmps5
      go_wp2_with (first
        | (go_at_call 12; (with_reducible refine HC.out.mono ?_); rintro e w1 ⟨rfl, hb1⟩; have hs1 := hb1.size)
        | (go_at_call 13; (with_reducible refine (HF.out _).mono ?_); rintro e w2 ⟨rfl, hb2⟩; have hb3 : Below w.heap.size w w2 := below_call hb1 hs1 hb2; have hs3 := hb3.size))
      refine (HA.out _ (hb3.alloc hs3 _)).mono ?_
      rintro e w3 ⟨rfl, hb4⟩
      have hb5 := below_a1 hb3 hs3 hb4
      have f0 : w3.cell? ⟨w2.heap.size, 0, none⟩ = some (.func (.func 34) #[] #[]) := by
        rw [hb4.cell (p := ⟨w2.heap.size, 0, none⟩) (by simp)]; simp
      have hs5 := hb5.size
      have hlt3 : w2.heap.size < w3.heap.size := by have := hb4.size; simp at this; omega
      go_wp2_with fail
      refine (HW.out _ w3.heap.size (hb5.alloc hs5 _) hs5 (Lib.fresh_isBuilder 49 5 w3) (by simp)).mono ?_
      rintro e w4 ⟨rfl, h4, b4⟩
      have b5 : Below w3.heap.size w3 w4 := ((Below.refl _ w3).alloc (Nat.le_refl _) _).trans b4
      have hll : (Lib.byteCells L).length = L.length := Lib.byteCells_length L
      have HLN := Lib.hid (Tryz.Builder_Len w3.heap.size w3.heap.size _ _ h4)
      rw [hll] at HLN
      have hgt : (1000000 : Int) < (L.length : Int) := by omega
      clear hll
      go_wp2_with (go_at_call 16; (with_reducible refine HLN.out.mono ?_); rintro e w5 ⟨rfl, rfl⟩)
      go_ret2
      exact ⟨rfl, hb5.trans (b5.mono hs5)⟩
    · rw [if_neg hL] at HX
      have hE4 := HX.out
      subst hE4
      rw [if_pos rfl] at HT
      clear HX
      go_enter Tryz.func5, Tryz.ntmps5
      go_wp2_with (first
        | (go_at_call 12; (with_reducible refine HC.out.mono ?_); rintro e w1 ⟨rfl, hb1⟩; have hs1 := hb1.size)
        | (go_at_call 13; (with_reducible refine (HF.out _).mono ?_); rintro e w2 ⟨rfl, hb2⟩; have hb3 : Below w.heap.size w w2 := below_call hb1 hs1 hb2; have hs3 := hb3.size))
      refine (HA.out _ (hb3.alloc hs3 _)).mono ?_
      rintro e w3 ⟨rfl, hb4⟩
      have hb5 := below_a1 hb3 hs3 hb4
      have f0 : w3.cell? ⟨w2.heap.size, 0, none⟩ = some (.func (.func 34) #[] #[]) := by
        rw [hb4.cell (p := ⟨w2.heap.size, 0, none⟩) (by simp)]; simp
      have hs5 := hb5.size
      have hlt3 : w2.heap.size < w3.heap.size := by have := hb4.size; simp at this; omega
      go_wp2_with fail
      refine (HW.out _ w3.heap.size (hb5.alloc hs5 _) hs5 (Lib.fresh_isBuilder 49 5 w3) (by simp)).mono ?_
      rintro e w4 ⟨rfl, h4, b4⟩
      have b5 : Below w3.heap.size w3 w4 := ((Below.refl _ w3).alloc (Nat.le_refl _) _).trans b4
      have hll : (Lib.byteCells L).length = L.length := Lib.byteCells_length L
      have HLN := Lib.hid (Tryz.Builder_Len w3.heap.size w3.heap.size _ _ h4)
      rw [hll] at HLN
      have HST := Lib.hid (Tryz.Builder_String_any w3.heap.size w3.heap.size L _ h4 b5.size)
      have hgt : ¬ (1000000 : Int) < (L.length : Int) := by omega
      clear hll
      go_wp2_with (first
        | (go_at_call 16; (with_reducible refine HLN.out.mono ?_); rintro e w5 ⟨rfl, rfl⟩)
        | (go_at_call 17; (with_reducible refine HST.out.mono ?_); rintro e w6 ⟨rfl, hb6⟩))
      go_ret2
      exact ⟨by rw [HT.out]; rfl, hb5.trans ((b5.trans hb6).mono hs5)⟩
  · rw [ha] at HA HX
    rw [if_pos rfl] at HX
    have hE9 := HX.out
    subst hE9
    rw [if_neg (by decide)] at HT
    have hX0 := HT.out
    subst hX0
    clear HX HT
    go_enter Tryz.func5, Tryz.ntmps5
    go_wp2_with (first
      | (go_at_call 12; (with_reducible refine HC.out.mono ?_); rintro e w1 ⟨rfl, hb1⟩; have hs1 := hb1.size)
      | (go_at_call 13; (with_reducible refine (HF.out _).mono ?_); rintro e w2 ⟨rfl, hb2⟩; have hb3 : Below w.heap.size w w2 := below_call hb1 hs1 hb2; have hs3 := hb3.size))
    refine (HA.out _ (hb3.alloc hs3 _)).mono ?_
    rintro e w3 ⟨rfl, hb4⟩
    have hb5 := below_a1 hb3 hs3 hb4
    go_wp2_with fail
    go_ret2
    exact ⟨rfl, hb5⟩

set_option maxHeartbeats 1000000 in
set_option maxRecDepth 100000 in
theorem write_err (v : Value) (l : List Fa) (form : Int) (w : World) (hv : SlA w v l) (hE : fasErr l ≠ 0) :
    Calls Tryz.prog 5 #[v, .int .i64 form] w fun e w' => e = .returned (.tuple #[.string (wrTx l form), .int .i64 (wrErr l form)]) ∧ Below w.heap.size w w' := by
  have hX : wrErr l form = fasErr l := by unfold wrErr; rw [if_pos hE]
  have hT : wrTx l form = ⟨#[]⟩ := by unfold wrTx; rw [if_neg (by rw [hX]; exact hE)]
  rw [hX, hT]
  have HC := Lib.hid (check_any v l w hv)
  have hne : (fasErr l != 0) = true := by rw [bne_iff_ne]; exact hE
  clear hX hT hE
  generalize fasErr l = E at *
  obtain ⟨p, cap, rfl, -⟩ := hv
  go_enter Tryz.func5, Tryz.ntmps5
  go_wp2_with (go_at_call 12; (with_reducible refine HC.out.mono ?_); rintro e w1 ⟨rfl, hb1⟩)
  go_ret2
  exact ⟨rfl, hb1⟩
set_option maxHeartbeats 1000000 in
set_option maxRecDepth 100000 in
theorem write_kind (v : Value) (l : List Fa) (form : Int) (w : World) (hv : SlA w v l) (hE : fasErr l = 0) (hf : form < 1 ∨ 3 < form) :
    Calls Tryz.prog 5 #[v, .int .i64 form] w fun e w' => e = .returned (.tuple #[.string (wrTx l form), .int .i64 (wrErr l form)]) ∧ Below w.heap.size w w' := by
  have hX : wrErr l form = 10 := by unfold wrErr; rw [if_neg (by simp [hE]), if_pos hf]
  have hT : wrTx l form = ⟨#[]⟩ := by unfold wrTx; rw [if_neg (by rw [hX]; decide)]
  rw [hX, hT]
  have HC := Lib.hid (check_any v l w hv)
  rw [hE] at HC
  have HF := Lib.hid (fun W => format0 form W hf)
  clear hX hT hE hf
  obtain ⟨p, cap, rfl, -⟩ := hv
  go_enter Tryz.func5, Tryz.ntmps5
  go_wp2_with (first
    | (go_at_call 12; (with_reducible refine HC.out.mono ?_); rintro e w1 ⟨rfl, hb1⟩; have hs1 := hb1.size)
    | (go_at_call 13; (with_reducible refine (HF.out _).mono ?_); rintro e w2 ⟨rfl, hb2⟩; have hb3 : Below w.heap.size w w2 := below_call hb1 hs1 hb2; have hs3 := hb3.size))
  go_ret2
  exact ⟨rfl, hb3.alloc hs3 _⟩
/-- Write, whatever the faults and the form. -/
theorem write_any (v : Value) (l : List Fa) (form : Int) (w : World) (hv : SlA w v l) (he : EnvW w) :
    Calls Tryz.prog 5 #[v, .int .i64 form] w fun e w' => e = .returned (.tuple #[.string (wrTx l form), .int .i64 (wrErr l form)]) ∧ Below w.heap.size w w' := by
  by_cases hE : fasErr l = 0
  · by_cases hf : form < 1 ∨ 3 < form
    · exact write_kind v l form w hv hE hf
    · obtain rfl | rfl | rfl : form = 1 ∨ form = 2 ∨ form = 3 := by omega
      · exact write1 v l w hv he hE
      · exact write2 v l w hv he hE
      · exact write3 v l w hv he hE
  · exact write_err v l form w hv hE
end Go.Proofs.YtmoofdcoodaaiaaGreatDoor

/- At, of a table without an error; and what such a table is. -/
import Derived.Test.YtcdaalnjanncmaaDoorLinE
import Derived.Test.YtcdaalnjanncmaaDoorLinB
import Derived.Test.YtcdaalnjanncmaaDoorSymQ
namespace Go.Proofs.YtcdaalnjanncmaaDoor
open Go.RowKit Go.Deep

theorem cals_ok {size nf : Int} {fs : List Fc} : ∀ {l pre : List Cl}, calsErr size nf fs pre l = 0 → ∀ c ∈ l, ¬ callBad size nf c
  | [], _, _, c, hc => by simp at hc
  | d :: l, pre, h, c, hc => by
    rw [calsErr] at h
    split at h
    · rename_i hne; exact absurd h hne
    · rename_i hz
      rw [List.mem_cons] at hc
      rcases hc with rfl | hc
      · exact (callErr_zero (Classical.not_not.1 hz)).2.1
      · exact cals_ok h c hc
/-- What a table without an error is. -/
structure Good (t : Tb) : Prop where
  size1 : 1 ≤ t.size
  files : t.files.length ≤ 200
  funcs : t.funcs.length ≤ 1000
  rows : t.rows.length ≤ 5000
  calls : t.calls.length ≤ 1000
  rowsUp : t.rows.Pairwise (fun r s => r.p < s.p)
  rowIn : ∀ r ∈ t.rows, 0 ≤ r.p ∧ r.p < t.size ∧ (r.f = -1 ∨ (0 ≤ r.f ∧ r.f < t.files.length))
  callIn : ∀ c ∈ t.calls, 0 ≤ c.f ∧ c.f < t.files.length
theorem good_of {t : Tb} (h : tabErr t = 0) : Good t := by
  unfold tabErr at h
  split at h
  · omega
  split at h
  · omega
  rename_i hs
  split at h
  · rename_i hn; exact absurd h hn
  rename_i z1
  split at h
  · rename_i hn; exact absurd h hn
  rename_i z2
  split at h
  · rename_i hn; exact absurd h hn
  rename_i z3
  rw [Classical.not_not] at z1 z2 z3
  have hf := files_len z1
  unfold eFuncs at z2
  split at z2
  · omega
  rename_i hfl
  unfold eRows at z3
  split at z3
  · omega
  rename_i hrl
  unfold eCalls at h
  split at h
  · omega
  rename_i hcl
  obtain ⟨k1, k2⟩ := rows_ok z3
  refine ⟨by omega, hf, by omega, by omega, by omega, k2, fun r hr => ?_, fun c hc => ?_⟩
  · have := (k1 r hr).1
    unfold rowBad at this
    omega
  · have := cals_ok h c hc
    unfold callBad at this
    omega

set_option maxHeartbeats 2000000 in
set_option maxRecDepth 100000 in
theorem placesAt_none (v : Value) (t : Tb) (p : Int) (w : World) (hv : TbV w v t) (h0 : 0 ≤ p) (h1 : p < t.size) (hat : fncAt p t.funcs = -1) :
    Calls Tryd.prog 43 #[v, .int .i64 p] w fun e w' => e = .returned (.tuple #[.slice none 0 0, .int .i64 7]) ∧ Below w.heap.size w w' := by
  have HAT := Lib.hid (fun (W : World) (hW : Below w.heap.size w W) => funcAt_any v t p W (hv.below (Nat.le_refl _) hW))
  rw [atVal_none hat] at HAT
  obtain ⟨v1, v2, v3, v4, rfl, -, -, ⟨p1, c1, rfl, -, -, -, -⟩, ⟨p2, c2, rfl, -, -, -, -⟩, ⟨p3, c3, rfl, -, -, -, -⟩, ⟨p4, c4, rfl, -, -, -, -⟩⟩ := hv
  have d1 : decide (p < 0) = false := decide_eq_false (by omega)
  have d2 : decide (t.size ≤ p) = false := decide_eq_false (by omega)
  clear h0 h1 hat
  have hA : Below w.heap.size w (w.alloc (.cells #[.string t.id, .int .i64 t.size, .slice p1 t.files.length c1, .slice p2 t.funcs.length c2, .slice p3 t.rows.length c3, .slice p4 t.calls.length c4] 42)) := (Below.refl _ _).alloc (Nat.le_refl _) _
  go_enter Tryd.func43, Tryd.ntmps43
  go_wp2_with (go_at_call 16; with_reducible refine (HAT.out _ hA).mono ?_; rintro e w1 ⟨rfl, hb1⟩; have hbw1 := below_call hA hA.size hb1)
  go_ret2
  exact ⟨rfl, hbw1⟩

set_option maxHeartbeats 2000000 in
set_option maxRecDepth 100000 in
theorem at_none (v : Value) (t : Tb) (p : Int) (w : World) (hv : TbV w v t) (hz : tabErr t = 0) (h0 : 0 ≤ p) (h1 : p < t.size) (hn : fncAt p t.funcs = -1) :
    Calls Tryd.prog 17 #[v, .int .i64 p] w fun e w' => e = .returned (.tuple #[.slice none 0 0, .int .i64 7]) ∧ Below w.heap.size w w' := by
  have hg := good_of hz
  have HCT := Lib.hid (fun (W : World) (hW : Below w.heap.size w W) => checkTable_any v t W (hv.below (Nat.le_refl _) hW))
  rw [hz] at HCT
  have HP := Lib.hid (fun (W : World) (hW : Below w.heap.size w W) => placesAt_none v t p W (hv.below (Nat.le_refl _) hW) h0 h1 hn)
  obtain ⟨v1, v2, v3, v4, rfl, -, -, ⟨p1, c1, rfl, -, -, -, -⟩, ⟨p2, c2, rfl, -, -, -, -⟩, ⟨p3, c3, rfl, -, -, -, -⟩, ⟨p4, c4, rfl, -, -, -, -⟩⟩ := hv
  have hA : Below w.heap.size w (w.alloc (.cells #[.string t.id, .int .i64 t.size, .slice p1 t.files.length c1, .slice p2 t.funcs.length c2, .slice p3 t.rows.length c3, .slice p4 t.calls.length c4] 42)) := (Below.refl _ _).alloc (Nat.le_refl _) _
  clear hg hz h0 h1
  go_enter Tryd.func17, Tryd.ntmps17
  go_wp2_with (first
    | (go_at_call 35; with_reducible refine (HCT.out _ hA).mono ?_; rintro e w1 ⟨rfl, hb1⟩; have hbw1 := below_call hA hA.size hb1; have g0 : w1.cell? ⟨w.heap.size, 0, none⟩ = some (.string t.id) := (hb1.cell (p := ⟨w.heap.size, 0, none⟩) (by simp)).trans (by go_simp); have g1 : w1.cell? ⟨w.heap.size, 1, none⟩ = some (.int .i64 t.size) := (hb1.cell (p := ⟨w.heap.size, 1, none⟩) (by simp)).trans (by go_simp); have g2 : w1.cell? ⟨w.heap.size, 2, none⟩ = some (.slice p1 t.files.length c1) := (hb1.cell (p := ⟨w.heap.size, 2, none⟩) (by simp)).trans (by go_simp); have g3 : w1.cell? ⟨w.heap.size, 3, none⟩ = some (.slice p2 t.funcs.length c2) := (hb1.cell (p := ⟨w.heap.size, 3, none⟩) (by simp)).trans (by go_simp); have g4 : w1.cell? ⟨w.heap.size, 4, none⟩ = some (.slice p3 t.rows.length c3) := (hb1.cell (p := ⟨w.heap.size, 4, none⟩) (by simp)).trans (by go_simp); have g5 : w1.cell? ⟨w.heap.size, 5, none⟩ = some (.slice p4 t.calls.length c4) := (hb1.cell (p := ⟨w.heap.size, 5, none⟩) (by simp)).trans (by go_simp))
    | (go_at_call 43; with_reducible refine (HP.out _ hbw1).mono ?_; rintro e' w2 ⟨rfl, hb2⟩))
  go_ret2
  exact ⟨rfl, below_call hbw1 hbw1.size hb2⟩

set_option maxHeartbeats 2000000 in
set_option maxRecDepth 100000 in
theorem at_some (v : Value) (t : Tb) (p : Int) (w : World) (hv : TbV w v t) (hz : tabErr t = 0) (h0 : 0 ≤ p) (h1 : p < t.size) (i : Nat) (fn : Fc) (h2 : fncAt p t.funcs = (i : Int)) (h3 : t.funcs[i]? = some fn) :
    Calls Tryd.prog 17 #[v, .int .i64 p] w fun e w' => ∃ u, e = .returned (.tuple #[u, .int .i64 0]) ∧ Below w.heap.size w w' ∧ w'.ownsRow (w.heap.size + 1) 57 3 u (placesOf t p fn.n).length (cellsG encP (placesOf t p fn.n)) := by
  have hg := good_of hz
  have HCT := Lib.hid (fun (W : World) (hW : Below w.heap.size w W) => checkTable_any v t W (hv.below (Nat.le_refl _) hW))
  rw [hz] at HCT
  have HP := Lib.hid (fun (W : World) (hW : Below w.heap.size w W) => placesAt_ok v t p i fn W (hv.below (Nat.le_refl _) hW) hg.rows hg.rowsUp (fun r hr => (hg.rowIn r hr).2.2) hg.calls hg.callIn h0 h1 h2 h3 hg.funcs)
  obtain ⟨v1, v2, v3, v4, rfl, -, -, ⟨p1, c1, rfl, -, -, -, -⟩, ⟨p2, c2, rfl, -, -, -, -⟩, ⟨p3, c3, rfl, -, -, -, -⟩, ⟨p4, c4, rfl, -, -, -, -⟩⟩ := hv
  have hA : Below w.heap.size w (w.alloc (.cells #[.string t.id, .int .i64 t.size, .slice p1 t.files.length c1, .slice p2 t.funcs.length c2, .slice p3 t.rows.length c3, .slice p4 t.calls.length c4] 42)) := (Below.refl _ _).alloc (Nat.le_refl _) _
  clear hg hz h0 h1
  go_enter Tryd.func17, Tryd.ntmps17
  go_wp2_with (first
    | (go_at_call 35; with_reducible refine (HCT.out _ hA).mono ?_; rintro e w1 ⟨rfl, hb1⟩; have hbw1 := below_call hA hA.size hb1; have g0 : w1.cell? ⟨w.heap.size, 0, none⟩ = some (.string t.id) := (hb1.cell (p := ⟨w.heap.size, 0, none⟩) (by simp)).trans (by go_simp); have g1 : w1.cell? ⟨w.heap.size, 1, none⟩ = some (.int .i64 t.size) := (hb1.cell (p := ⟨w.heap.size, 1, none⟩) (by simp)).trans (by go_simp); have g2 : w1.cell? ⟨w.heap.size, 2, none⟩ = some (.slice p1 t.files.length c1) := (hb1.cell (p := ⟨w.heap.size, 2, none⟩) (by simp)).trans (by go_simp); have g3 : w1.cell? ⟨w.heap.size, 3, none⟩ = some (.slice p2 t.funcs.length c2) := (hb1.cell (p := ⟨w.heap.size, 3, none⟩) (by simp)).trans (by go_simp); have g4 : w1.cell? ⟨w.heap.size, 4, none⟩ = some (.slice p3 t.rows.length c3) := (hb1.cell (p := ⟨w.heap.size, 4, none⟩) (by simp)).trans (by go_simp); have g5 : w1.cell? ⟨w.heap.size, 5, none⟩ = some (.slice p4 t.calls.length c4) := (hb1.cell (p := ⟨w.heap.size, 5, none⟩) (by simp)).trans (by go_simp))
    | (go_at_call 43; with_reducible refine (HP.out _ hbw1).mono ?_; rintro e' w2 ⟨u, rfl, hb2, hown⟩))
  go_ret2
  exact ⟨_, rfl, below_call hbw1 hbw1.size hb2, own_mono hown (by have := hbw1.size; omega)⟩

theorem own_max {w : World} {base : Nat} {e : TypeId} {size : Nat} {v : Value} {n : Nat} {xs : List Value} (h : w.ownsRow base e size v n xs) : n ≤ 9223372036854775807 := by
  obtain ⟨_, ⟨_, rfl⟩ | ⟨g, cap, cur, rfl, _, _, h1, h2, _⟩⟩ := h
  · omega
  · unfold maxLen at h2; omega
/-- The innermost place, which stands first. -/
theorem at_head (v : Value) (t : Tb) (p : Int) (w : World) (hv : TbV w v t) (hz : tabErr t = 0) (h0 : 0 ≤ p) (h1 : p < t.size) (hn : ¬ fncAt p t.funcs = -1) :
    Calls Tryd.prog 17 #[v, .int .i64 p] w fun e w' => ∃ g cap n : Nat, e = .returned (.tuple #[.slice (some ⟨g, 0, none⟩) (n + 1) cap, .int .i64 0]) ∧ Below w.heap.size w w' ∧ w'.cell? ⟨g, 1, none⟩ = some (.string (lineAt t p).1) ∧ w'.cell? ⟨g, 2, none⟩ = some (.int .i64 (lineAt t p).2) := by
  obtain ⟨i, hi, h2, _, _⟩ := fncAt_lt hn
  refine (at_some v t p w hv hz h0 h1 i _ h2 (List.getElem?_eq_getElem hi)).mono ?_
  rintro e w1 ⟨u, rfl, hb, hown⟩
  obtain ⟨x, hx, hxf, hxl⟩ := placesOf_head t p (t.funcs[i]).n
  have hpos : 0 < (placesOf t p (t.funcs[i]).n).length := by
    obtain ⟨h, _⟩ := List.getElem?_eq_some_iff.1 hx
    exact h
  obtain ⟨g, cap, rfl, _, _, hc⟩ := own_slice hown hpos
  obtain ⟨n, hln⟩ : ∃ n, (placesOf t p (t.funcs[i]).n).length = n + 1 := ⟨_, (Nat.succ_pred_eq_of_pos hpos).symm⟩
  refine ⟨g, cap, n, by rw [hln], hb, ?_, ?_⟩
  · have := hc _ _ (by rw [cellsP_at hx (j := 1) (by omega)]; rfl)
    rw [← hxf]; simpa using this
  · have := hc _ _ (by rw [cellsP_at hx (j := 2) (by omega)]; rfl)
    rw [← hxl]; simpa using this
end Go.Proofs.YtcdaalnjanncmaaDoor

/- What Mark answers: no rules, one fault without frames. -/
import Derived.Test.YtonjmfbalkdmfaaGreatDoorStK
import Derived.Test.YtonjmfbalkdmfaaGreatDoorHexA
import Derived.Laws.EntriesVeiled
import Derived.Laws.AppendOwn
import Derived.Laws.AppendOwnNone
import Derived.Lib.Slices
import Derived.Deep.OwnRows
import Derived.Deep.CutRange
import Derived.Deep.RegionHeld3
namespace Go.Proofs.YtonjmfbalkdmfaaGreatDoor
open Go.RowKit Go.Lib

theorem below_keep {B : Nat} {a w w' : World} (h : Below B a w) (hB : B ≤ a.heap.size) (hk : Below w.heap.size w w') : Below B a w' := h.trans (hk.mono (Nat.le_trans hB h.size))
theorem cell_drew {w : World} {p : Addr} {v : Value} (h : w.cell? p = some v) : w.drew.cell? p = some v := h
theorem cell_alloc {w : World} {p : Addr} {u : Value} {o : Obj} (h : w.cell? p = some u) : (w.alloc o).cell? p = some u :=
  (World.cell?_alloc_lt _ _ _ (World.block_lt_of_cell? _ _ h)).trans h
theorem own_base {w : World} {base : Nat} {e : TypeId} {size : Nat} {v : Value} {n : Nat} {xs : List Value} (h : w.ownsRow base e size v n xs) : ∀ k, v.ownBlock = some k → base ≤ k := fun k hk => (h.lt k hk).1
theorem own_keeps {w w' : World} {base : Nat} {e : TypeId} {size : Nat} {v : Value} {n : Nat} {xs : List Value} (h : w.ownsRow base e size v n xs) (hb : Below w.heap.size w w') : w'.ownsRow base e size v n xs := by
  obtain ⟨h1, h2⟩ := h
  refine ⟨h1, ?_⟩
  rcases h2 with h2 | ⟨g, cap, cur, hv, hg, hc, r⟩
  · exact Or.inl h2
  · exact Or.inr ⟨g, cap, cur, hv, hg, (hb.block _ (Array.getElem?_eq_some_iff.1 hc).1).trans hc, r⟩
theorem below_grown {w' : World} {B : Nat} {a w : World} {row : Option Nat} (h : Below B a w) (hg : w.grownBy w' row) (hr : ∀ k, row = some k → B ≤ k) (hB : B ≤ w.heap.size) : Below B a w' :=
  ⟨hg.os.trans h.os, hg.tape.trans h.tape, hg.output.trans h.output, Nat.le_trans h.size hg.size, fun k hk => (hg.block k (by omega) (fun e => by have := hr k e.symm; omega)).trans (h.block k hk)⟩
/-- A row with an element is a slice at a block. -/
theorem own_slice {w : World} {base : Nat} {e : TypeId} {v : Value} {n : Nat} {xs : List Value} (h : w.ownsRow base e 1 v n xs) (hn : 0 < n) : ∃ g cap, v = .slice (some ⟨g, 0, none⟩) n cap ∧ n ≤ cap ∧ base ≤ g ∧ g < w.heap.size ∧ ∀ j u, xs[j]? = some u → w.cell? ⟨g, j, none⟩ = some u := by
  obtain ⟨h1, ⟨_, h2⟩ | ⟨g, cap, cur, hv, hg, hc, h3, h4, h5, h6⟩⟩ := h
  · omega
  · refine ⟨g, cap, hv, h3, hg, (Array.getElem?_eq_some_iff.1 hc).1, fun j u hj => ?_⟩
    simp only [World.cell?, hc]
    rw [← h6, List.getElem?_take] at hj
    split at hj
    · simpa using hj
    · exact absurd hj (by simp)
theorem cell_new (w : World) (u : Value) (t : TypeId) : ∀ (q : Nat) (x : Value), [u][q]? = some x → (w.alloc (.cells #[u] t)).cell? (Addr.add ⟨w.heap.size, 0, none⟩ q) = some x := by
  intro q x hq
  match q, hq with
  | 0, hq => simp at hq; subst hq; simp [Addr.add]

set_option maxHeartbeats 1000000 in
set_option maxRecDepth 100000 in
theorem or_two (b : Nat) (E : Int) (w : World) (c0 : w.cell? ⟨b, 0, none⟩ = some (.int .i64 0)) (c1 : w.cell? ⟨b, 1, none⟩ = some (.int .i64 E)) :
    Calls Tryz.prog 27 #[.slice (some ⟨b, 0, none⟩) 2 2] w fun e w' => e = .returned (.int .i64 E) ∧ Below w.heap.size w w' := by
  have hb : b < w.heap.size := World.block_lt_of_cell? w ⟨b, 0, none⟩ c0
  go_enter Tryz.func27, Tryz.ntmps27
  go_wp2_with fail
  go_loopw [8] (fun v wr => ∃ i : Nat, i ≤ 2 ∧ v = .int .i64 i ∧ Hid (i = 2 → E = 0) ∧ Below w.heap.size w wr) (fun v _ => 2 - (RowKit.intOf v).toNat)
  case atStart => exact ⟨0, Nat.zero_le _, rfl, Lib.hid (fun h => absurd h (by decide)), Below.refl _ _⟩
  case round =>
    obtain ⟨i, hi, rfl, HZ, hbw⟩ := hrel
    have d0 : wr.cell? ⟨b, 0, none⟩ = some (.int .i64 0) := (hbw.cell (p := ⟨b, _, none⟩) hb).trans c0
    have d1 : wr.cell? ⟨b, 1, none⟩ = some (.int .i64 E) := (hbw.cell (p := ⟨b, _, none⟩) hb).trans c1
    obtain rfl | rfl | rfl : i = 0 ∨ i = 1 ∨ i = 2 := by omega
    · go_wp2_with fail
      exact ⟨⟨1, by omega, rfl, Lib.hid (fun h => absurd h (by decide)), hbw⟩, by simp [RowKit.intOf]⟩
    · by_cases hz : E = 0
      · have hne : (E != 0) = false := by simp [hz]
        have HK := Lib.hid hz
        clear hz
        go_wp2_with fail
        exact ⟨⟨2, by omega, rfl, Lib.hid (fun _ => HK.out), hbw⟩, by simp [RowKit.intOf]⟩
      · have hne : (E != 0) = true := by rw [bne_iff_ne]; exact hz
        go_wp2_with fail
        go_ret
        exact ⟨rfl, hbw⟩
    · have HK := Lib.hid (HZ.out rfl)
      go_wp2_with fail
      go_ret
      exact ⟨by rw [HK.out]; rfl, hbw⟩

set_option maxHeartbeats 1000000 in
set_option maxRecDepth 100000 in
theorem rules_none (w : World) :
    Calls Tryz.prog 28 #[.slice none 0 0] w fun e w' => e = .returned (.int .i64 0) ∧ Below w.heap.size w w' := by
  go_enter Tryz.func28, Tryz.ntmps28
  go_wp2_with fail
  go_loop [11] (fun v => v = .int .i64 0) (fun _ => 0)
  case atStart => rfl
  case round =>
    subst hrel
    go_wp2_with fail
    go_ret
    exact ⟨rfl, Below.refl _ _⟩

set_option maxHeartbeats 1000000 in
set_option maxRecDepth 100000 in
theorem find_none (w : World) :
    Calls Tryz.prog 49 #[.slice none 0 0, .func (.func 50) #[] #[]] w fun e w' => e = .returned (.tuple #[.int .i64 0, .bool false]) ∧ Below w.heap.size w w' := by
  go_enter Tryz.func49, Tryz.ntmps49
  go_wp2_with fail
  go_loop [10] (fun v => v = .int .i64 0) (fun _ => 0)
  case atStart => rfl
  case round =>
    subst hrel
    go_wp2_with fail
    go_ret2
    exact ⟨rfl, Below.refl _ _⟩

set_option maxHeartbeats 1000000 in
set_option maxRecDepth 100000 in
theorem frameParts_none (k : ByteArray) (w : World) :
    Calls Tryz.prog 20 #[.string k, .slice none 0 0] w fun e w' => e = .returned (.slice none 0 0) ∧ Below w.heap.size w w' := by
  go_enter Tryz.func20, Tryz.ntmps20
  go_wp2_with fail
  go_loop [5, 10] (fun v5 v => v5 = .slice none 0 0 ∧ v = .int .i64 0) (fun _ _ => 0)
  case atStart => exact ⟨rfl, rfl⟩
  case round =>
    obtain ⟨rfl, rfl⟩ := hrel
    go_wp2_with fail
    go_ret
    exact ⟨rfl, Below.refl _ _⟩

set_option maxHeartbeats 1000000 in
set_option maxRecDepth 100000 in
theorem each_any (f : Nat) (w : World) :
    Calls Tryz.prog 40 #[.func (.func f) #[] #[]] w fun e w' => e = .returned (.func (.func 58) #[] #[.pointer (some ⟨w.heap.size, 0, none⟩)]) ∧ Below w.heap.size w w' := by
  go_enter Tryz.func40, Tryz.ntmps40
  go_wp2_with fail
  go_ret
  exact ⟨rfl, (Below.refl _ _).alloc (Nat.le_refl _) _⟩

set_option maxHeartbeats 1000000 in
set_option maxRecDepth 100000 in
theorem deeds_any (w : World) :
    Calls Tryz.prog 31 #[] w fun e w' => (∃ b, e = .returned (.slice (some ⟨b, 0, none⟩) 6 6)) ∧ Below w.heap.size w w' := by
  go_enter Tryz.func31, Tryz.ntmps31
  go_wp2_with (first
    | (go_at_call 40; (with_reducible refine (each_any 41 _).mono ?_); rintro e w1 ⟨rfl, hb1⟩)
    | (go_at_call 40; (with_reducible refine (each_any 42 _).mono ?_); rintro e w2 ⟨rfl, hb2⟩; have hB2 := below_keep hb1 (Nat.le_refl _) hb2)
    | (go_at_call 40; (with_reducible refine (each_any 43 _).mono ?_); rintro e w3 ⟨rfl, hb3⟩; have hB3 := below_keep hB2 (Nat.le_refl _) hb3)
    | (go_at_call 40; (with_reducible refine (each_any 44 _).mono ?_); rintro e w4 ⟨rfl, hb4⟩; have hB4 := below_keep hB3 (Nat.le_refl _) hb4))
  go_ret
  exact ⟨⟨_, rfl⟩, hB4.alloc hB4.size _⟩
end Go.Proofs.YtonjmfbalkdmfaaGreatDoor

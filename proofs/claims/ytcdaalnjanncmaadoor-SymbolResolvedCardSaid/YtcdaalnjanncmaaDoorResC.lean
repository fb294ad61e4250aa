/- What a frame becomes, where its module has a table. -/
import Derived.Test.YtcdaalnjanncmaaDoorResB
namespace Go.Proofs.YtcdaalnjanncmaaDoor
open Go.RowKit Go.Deep Go.Lib

def offOf0 (o : Int) (ret : Bool) : Int := if ret = true ∧ 0 < o then o - 1 else o

set_option maxHeartbeats 8000000 in
set_option maxRecDepth 100000 in
/-- The table has no places there. -/
theorem resolveFrame_bad (fr : Fr) (ret : Bool) (vm vt : Value) (ms : List Md) (ts : List Te) (i k : Nat) (m : Md) (x : Te) (w : World) (hm : SlG encM 4 fitM w vm ms) (ht : TbsV w vt ts) (h : modAt fr.addr ms = (i : Int)) (hi : ms[i]? = some m) (hn : ms.length ≤ 100) (hx : tabIdx ts m.id = (k : Int)) (hk : ts[k]? = some x) (hnt : ts.length ≤ 100)
    (ho1 : -9223372036854775808 ≤ fr.addr - m.a) (ho2 : fr.addr - m.a ≤ 9223372036854775807) (hbad : plErr x.t (offOf0 (fr.addr - m.a) ret) ≠ 0) :
    Calls Tryd.prog 28 #[fr.val, .bool ret, vm, vt] w fun e w' => e = .returned (.tuple #[.slice none 0 0, .bool false]) ∧ Below w.heap.size w w' := by
  have hq : (plErr x.t (offOf0 (fr.addr - m.a) ret) != 0) = true := by simpa using hbad
  unfold Fr.val
  have HM := Lib.hid (fun (W : World) (hW : Below w.heap.size w W) => moduleAt_any vm ms fr.addr W (hm.below (Nat.le_refl _) hW))
  rw [atVal_some h] at HM
  have HT := Lib.hid (fun (W : World) (hW : Below w.heap.size w W) => tableOf_any vt m.id ts W (ht.below (Nat.le_refl _) hW))
  rw [hx] at HT
  have HXV := Lib.hid (ht.2 x (List.mem_iff_getElem?.2 ⟨k, hk⟩))
  have HP := Lib.hid (fun (W : World) (hW : Below w.heap.size w W) => placesAt_bad x.val x.t (offOf0 (fr.addr - m.a) ret) W (HXV.out.below (Nat.le_refl _) hW) hbad)
  unfold Te.val at HP
  clear hbad HXV
  clear h hx
  obtain ⟨⟨pt, ct, rfl, -, hct, -, ot⟩, -⟩ := ht
  obtain ⟨pm, cm, rfl, -, -, -, om⟩ := hm
  obtain ⟨hil, hmx⟩ := List.getElem?_eq_some_iff.1 hi
  obtain ⟨hkl, hkx⟩ := List.getElem?_eq_some_iff.1 hk
  rcases om with h0 | ⟨b, off, rfl, hb, hc⟩
  · rw [h0] at hil; simp at hil
  rcases ot with h0 | ⟨b2, off2, rfl, hb2, hc2⟩
  · rw [h0] at hkl; simp at hkl
  obtain ⟨k0, k1, k2, k3⟩ := hc.mod hil
  rw [hmx] at k0 k1 k2 k3
  obtain ⟨q0, q1, q2, q3, q4, q5⟩ := hc2.tab hkl
  rw [hkx] at q0 q1 q2 q3 q4 q5
  obtain ⟨mn, mid, ma, mb⟩ := m
  simp only at k0 k1 k2 k3 HT ho1 ho2 HP hq
  have hiz : (i : Int) < (ms.length : Int) := by omega
  have hwi : IntKind.i64.wrap (i : Int) = (i : Int) := IntWalk.i64_in _ ⟨by omega, by omega⟩
  have hkz : (k : Int) < (ts.length : Int) := by omega
  have hwk : IntKind.i64.wrap (k : Int) = (k : Int) := IntWalk.i64_in _ ⟨by omega, by omega⟩
  have hk0 : decide ((k : Int) < 0) = false := decide_eq_false (by omega)
  have hw0 : IntKind.i64.wrap (fr.addr - ma) = fr.addr - ma := IntWalk.i64_in _ ⟨ho1, ho2⟩
  have hw1 : IntKind.i64.wrap (fr.addr - ma - 1) = fr.addr - ma - 1 ∨ ¬ 0 < fr.addr - ma := by
    by_cases hp : 0 < fr.addr - ma
    · exact .inl (IntWalk.i64_in _ ⟨by omega, by omega⟩)
    · exact .inr hp
  clear hi hmx hc hil hn hk hkx hc2 hkl hnt
  have hA : Below w.heap.size w (w.alloc (.cells #[.string fr.m, .string fr.f, .string fr.i, .int .i64 fr.line, .int .i64 fr.addr, .bool fr.own] 35)) := (Below.refl _ _).alloc (Nat.le_refl _) _
  clear ho1 ho2
  cases ret with
  | false =>
    have HOF := Lib.hid (show offOf0 (fr.addr - ma) false = (fr.addr - ma) from by unfold offOf0; rw [if_neg (by simp)])
    rw [HOF.out] at HP
    rw [HOF.out] at hq
    clear HOF
    generalize plErr x.t (fr.addr - ma) = E at *
    go_enter Tryd.func28, Tryd.ntmps28
    go_wp2_with (first | (go_at_call 29; with_reducible refine (HM.out _ hA).mono ?_; rintro e w1 ⟨rfl, hb1⟩; have hbw1 := below_call hA hA.size hb1; have k0 := (hbw1.cell (p := ⟨b, _, none⟩) hb).trans k0; have k1 := (hbw1.cell (p := ⟨b, _, none⟩) hb).trans k1; have k2 := (hbw1.cell (p := ⟨b, _, none⟩) hb).trans k2; have k3 := (hbw1.cell (p := ⟨b, _, none⟩) hb).trans k3; have hbw2 := hbw1.alloc hbw1.size (.cells #[.string mn, .string mid, .int .i64 ma, .int .i64 mb] 77); have f4 : w1.cell? ⟨w.heap.size, 4, none⟩ = some (.int .i64 fr.addr) := (hb1.cell (p := ⟨w.heap.size, 4, none⟩) (by simp)).trans (by go_simp); have f5 : w1.cell? ⟨w.heap.size, 5, none⟩ = some (.bool fr.own) := (hb1.cell (p := ⟨w.heap.size, 5, none⟩) (by simp)).trans (by go_simp); have hlf := World.block_lt_of_cell? _ _ f4; simp only at hlf; have fa4 : (w1.alloc (.cells #[.string mn, .string mid, .int .i64 ma, .int .i64 mb] 77)).cell? ⟨w.heap.size, 4, none⟩ = some (.int .i64 fr.addr) := (World.cell?_alloc_lt _ _ _ hlf).trans f4; have fa5 : (w1.alloc (.cells #[.string mn, .string mid, .int .i64 ma, .int .i64 mb] 77)).cell? ⟨w.heap.size, 5, none⟩ = some (.bool fr.own) := (World.cell?_alloc_lt _ _ _ hlf).trans f5) | (go_at_call 30; with_reducible refine (HT.out _ hbw2).mono ?_; rintro e' w3 ⟨rfl, hb3⟩; have hbw3 := below_call hbw2 hbw2.size hb3; have g4 := cell_keep fa4 hb3; have g5 := cell_keep fa5 hb3; have m0 : w3.cell? ⟨w1.heap.size, 0, none⟩ = some (.string mn) := (hb3.cell (p := ⟨w1.heap.size, 0, none⟩) (by simp)).trans (by go_simp); have m1 : w3.cell? ⟨w1.heap.size, 1, none⟩ = some (.string mid) := (hb3.cell (p := ⟨w1.heap.size, 1, none⟩) (by simp)).trans (by go_simp); have m2 : w3.cell? ⟨w1.heap.size, 2, none⟩ = some (.int .i64 ma) := (hb3.cell (p := ⟨w1.heap.size, 2, none⟩) (by simp)).trans (by go_simp); have m3 : w3.cell? ⟨w1.heap.size, 3, none⟩ = some (.int .i64 mb) := (hb3.cell (p := ⟨w1.heap.size, 3, none⟩) (by simp)).trans (by go_simp); have q0 := (hbw3.cell (p := ⟨b2, _, none⟩) hb2).trans q0; have q1 := (hbw3.cell (p := ⟨b2, _, none⟩) hb2).trans q1; have q2 := (hbw3.cell (p := ⟨b2, _, none⟩) hb2).trans q2; have q3 := (hbw3.cell (p := ⟨b2, _, none⟩) hb2).trans q3; have q4 := (hbw3.cell (p := ⟨b2, _, none⟩) hb2).trans q4; have q5 := (hbw3.cell (p := ⟨b2, _, none⟩) hb2).trans q5) | (go_at_call 43; with_reducible refine (HP.out _ hbw3).mono ?_; rintro e' w4 ⟨rfl, hb4⟩; have hbw4 := below_call hbw3 hbw3.size hb4))
    go_ret2
    exact ⟨rfl, hbw4⟩
  | true =>
    by_cases hp : 0 < (fr.addr - ma)
    · have HOF := Lib.hid (show offOf0 (fr.addr - ma) true = (fr.addr - ma) - 1 from by unfold offOf0; rw [if_pos ⟨rfl, hp⟩])
      rw [HOF.out] at HP
      have hd1 : decide (0 < (fr.addr - ma)) = true := decide_eq_true hp
      have hd2 : decide (ma < fr.addr) = true := decide_eq_true (by omega)
      have hw1 : IntKind.i64.wrap ((fr.addr - ma) - 1) = (fr.addr - ma) - 1 := by rcases hw1 with h | h; exact h; exact absurd hp h
      clear hp
      rw [HOF.out] at hq
      clear HOF
      generalize plErr x.t ((fr.addr - ma) - 1) = E at *
      go_enter Tryd.func28, Tryd.ntmps28
      go_wp2_with (first | (go_at_call 29; with_reducible refine (HM.out _ hA).mono ?_; rintro e w1 ⟨rfl, hb1⟩; have hbw1 := below_call hA hA.size hb1; have k0 := (hbw1.cell (p := ⟨b, _, none⟩) hb).trans k0; have k1 := (hbw1.cell (p := ⟨b, _, none⟩) hb).trans k1; have k2 := (hbw1.cell (p := ⟨b, _, none⟩) hb).trans k2; have k3 := (hbw1.cell (p := ⟨b, _, none⟩) hb).trans k3; have hbw2 := hbw1.alloc hbw1.size (.cells #[.string mn, .string mid, .int .i64 ma, .int .i64 mb] 77); have f4 : w1.cell? ⟨w.heap.size, 4, none⟩ = some (.int .i64 fr.addr) := (hb1.cell (p := ⟨w.heap.size, 4, none⟩) (by simp)).trans (by go_simp); have f5 : w1.cell? ⟨w.heap.size, 5, none⟩ = some (.bool fr.own) := (hb1.cell (p := ⟨w.heap.size, 5, none⟩) (by simp)).trans (by go_simp); have hlf := World.block_lt_of_cell? _ _ f4; simp only at hlf; have fa4 : (w1.alloc (.cells #[.string mn, .string mid, .int .i64 ma, .int .i64 mb] 77)).cell? ⟨w.heap.size, 4, none⟩ = some (.int .i64 fr.addr) := (World.cell?_alloc_lt _ _ _ hlf).trans f4; have fa5 : (w1.alloc (.cells #[.string mn, .string mid, .int .i64 ma, .int .i64 mb] 77)).cell? ⟨w.heap.size, 5, none⟩ = some (.bool fr.own) := (World.cell?_alloc_lt _ _ _ hlf).trans f5) | (go_at_call 30; with_reducible refine (HT.out _ hbw2).mono ?_; rintro e' w3 ⟨rfl, hb3⟩; have hbw3 := below_call hbw2 hbw2.size hb3; have g4 := cell_keep fa4 hb3; have g5 := cell_keep fa5 hb3; have m0 : w3.cell? ⟨w1.heap.size, 0, none⟩ = some (.string mn) := (hb3.cell (p := ⟨w1.heap.size, 0, none⟩) (by simp)).trans (by go_simp); have m1 : w3.cell? ⟨w1.heap.size, 1, none⟩ = some (.string mid) := (hb3.cell (p := ⟨w1.heap.size, 1, none⟩) (by simp)).trans (by go_simp); have m2 : w3.cell? ⟨w1.heap.size, 2, none⟩ = some (.int .i64 ma) := (hb3.cell (p := ⟨w1.heap.size, 2, none⟩) (by simp)).trans (by go_simp); have m3 : w3.cell? ⟨w1.heap.size, 3, none⟩ = some (.int .i64 mb) := (hb3.cell (p := ⟨w1.heap.size, 3, none⟩) (by simp)).trans (by go_simp); have q0 := (hbw3.cell (p := ⟨b2, _, none⟩) hb2).trans q0; have q1 := (hbw3.cell (p := ⟨b2, _, none⟩) hb2).trans q1; have q2 := (hbw3.cell (p := ⟨b2, _, none⟩) hb2).trans q2; have q3 := (hbw3.cell (p := ⟨b2, _, none⟩) hb2).trans q3; have q4 := (hbw3.cell (p := ⟨b2, _, none⟩) hb2).trans q4; have q5 := (hbw3.cell (p := ⟨b2, _, none⟩) hb2).trans q5) | (go_at_call 43; with_reducible refine (HP.out _ hbw3).mono ?_; rintro e' w4 ⟨rfl, hb4⟩; have hbw4 := below_call hbw3 hbw3.size hb4))
      go_ret2
      exact ⟨rfl, hbw4⟩
    · have HOF := Lib.hid (show offOf0 (fr.addr - ma) true = (fr.addr - ma) from by unfold offOf0; rw [if_neg (by rintro ⟨_, h⟩; exact hp h)])
      rw [HOF.out] at HP
      have hd1 : decide (0 < (fr.addr - ma)) = false := decide_eq_false hp
      have hd2 : decide (ma < fr.addr) = false := decide_eq_false (by omega)
      clear hp hw1
      rw [HOF.out] at hq
      clear HOF
      generalize plErr x.t (fr.addr - ma) = E at *
      go_enter Tryd.func28, Tryd.ntmps28
      go_wp2_with (first | (go_at_call 29; with_reducible refine (HM.out _ hA).mono ?_; rintro e w1 ⟨rfl, hb1⟩; have hbw1 := below_call hA hA.size hb1; have k0 := (hbw1.cell (p := ⟨b, _, none⟩) hb).trans k0; have k1 := (hbw1.cell (p := ⟨b, _, none⟩) hb).trans k1; have k2 := (hbw1.cell (p := ⟨b, _, none⟩) hb).trans k2; have k3 := (hbw1.cell (p := ⟨b, _, none⟩) hb).trans k3; have hbw2 := hbw1.alloc hbw1.size (.cells #[.string mn, .string mid, .int .i64 ma, .int .i64 mb] 77); have f4 : w1.cell? ⟨w.heap.size, 4, none⟩ = some (.int .i64 fr.addr) := (hb1.cell (p := ⟨w.heap.size, 4, none⟩) (by simp)).trans (by go_simp); have f5 : w1.cell? ⟨w.heap.size, 5, none⟩ = some (.bool fr.own) := (hb1.cell (p := ⟨w.heap.size, 5, none⟩) (by simp)).trans (by go_simp); have hlf := World.block_lt_of_cell? _ _ f4; simp only at hlf; have fa4 : (w1.alloc (.cells #[.string mn, .string mid, .int .i64 ma, .int .i64 mb] 77)).cell? ⟨w.heap.size, 4, none⟩ = some (.int .i64 fr.addr) := (World.cell?_alloc_lt _ _ _ hlf).trans f4; have fa5 : (w1.alloc (.cells #[.string mn, .string mid, .int .i64 ma, .int .i64 mb] 77)).cell? ⟨w.heap.size, 5, none⟩ = some (.bool fr.own) := (World.cell?_alloc_lt _ _ _ hlf).trans f5) | (go_at_call 30; with_reducible refine (HT.out _ hbw2).mono ?_; rintro e' w3 ⟨rfl, hb3⟩; have hbw3 := below_call hbw2 hbw2.size hb3; have g4 := cell_keep fa4 hb3; have g5 := cell_keep fa5 hb3; have m0 : w3.cell? ⟨w1.heap.size, 0, none⟩ = some (.string mn) := (hb3.cell (p := ⟨w1.heap.size, 0, none⟩) (by simp)).trans (by go_simp); have m1 : w3.cell? ⟨w1.heap.size, 1, none⟩ = some (.string mid) := (hb3.cell (p := ⟨w1.heap.size, 1, none⟩) (by simp)).trans (by go_simp); have m2 : w3.cell? ⟨w1.heap.size, 2, none⟩ = some (.int .i64 ma) := (hb3.cell (p := ⟨w1.heap.size, 2, none⟩) (by simp)).trans (by go_simp); have m3 : w3.cell? ⟨w1.heap.size, 3, none⟩ = some (.int .i64 mb) := (hb3.cell (p := ⟨w1.heap.size, 3, none⟩) (by simp)).trans (by go_simp); have q0 := (hbw3.cell (p := ⟨b2, _, none⟩) hb2).trans q0; have q1 := (hbw3.cell (p := ⟨b2, _, none⟩) hb2).trans q1; have q2 := (hbw3.cell (p := ⟨b2, _, none⟩) hb2).trans q2; have q3 := (hbw3.cell (p := ⟨b2, _, none⟩) hb2).trans q3; have q4 := (hbw3.cell (p := ⟨b2, _, none⟩) hb2).trans q4; have q5 := (hbw3.cell (p := ⟨b2, _, none⟩) hb2).trans q5) | (go_at_call 43; with_reducible refine (HP.out _ hbw3).mono ?_; rintro e' w4 ⟨rfl, hb4⟩; have hbw4 := below_call hbw3 hbw3.size hb4))
      go_ret2
      exact ⟨rfl, hbw4⟩
end Go.Proofs.YtcdaalnjanncmaaDoor

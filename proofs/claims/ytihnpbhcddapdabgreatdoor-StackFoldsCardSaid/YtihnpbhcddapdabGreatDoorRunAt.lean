/- What runAt answers: the best run at a position. -/
import Derived.Test.YtihnpbhcddapdabGreatDoorTimes
namespace Go.Proofs.YtihnpbhcddapdabGreatDoor
open Go.RowKit

/-- A run in a block of its own. -/
def Box (w : World) (g : Nat) (a b c : Int) : Prop := w.heap[g]? = some (.cells #[.int .i64 a, .int .i64 b, .int .i64 c] 37 (0, 0))

theorem World.heap_alloc_size' (w : World) (o : Obj) : (w.alloc o).heap.size = w.heap.size + 1 := by simp
theorem Box.lt {w : World} {g : Nat} {a b c : Int} (h : Box w g a b c) : g < w.heap.size := (Array.getElem?_eq_some_iff.1 h).1
theorem Box.cells {w : World} {g : Nat} {a b c : Int} (h : Box w g a b c) : w.cell? ⟨g, 0, none⟩ = some (.int .i64 a) ∧ w.cell? ⟨g, 1, none⟩ = some (.int .i64 b) ∧ w.cell? ⟨g, 2, none⟩ = some (.int .i64 c) ∧
    w.frozen? ⟨g, 0, none⟩ = false ∧ w.frozen? ⟨g, 1, none⟩ = false ∧ w.frozen? ⟨g, 2, none⟩ = false := by
  unfold Box at h
  refine ⟨?_, ?_, ?_, ?_, ?_, ?_⟩ <;> simp [World.cell?, World.frozen?, h]
theorem Box.below {w w' : World} {g : Nat} {a b c : Int} {B : Nat} (h : Box w g a b c) (hw : Below B w w') (hg : g < B) : Box w' g a b c := by
  unfold Box at h ⊢; rw [hw.block g hg]; exact h
theorem Box.made (w : World) (a b c : Int) : Box (w.alloc (.cells #[.int .i64 a, .int .i64 b, .int .i64 c] 37)) w.heap.size a b c := by
  show (w.heap.push _)[w.heap.size]? = _
  exact Array.getElem?_push_size ..
theorem Box.alloc {w : World} {g : Nat} {a b c : Int} (h : Box w g a b c) (o : Obj) : Box (w.alloc o) g a b c := by
  unfold Box at h ⊢
  rw [Below.heap_alloc w o g (Array.getElem?_eq_some_iff.1 h).1]; exact h
theorem Box.set {w : World} {g : Nat} {a b c : Int} (h : Box w g a b c) (j : Nat) (n : Int) :
    (w.setCell ⟨g, j, none⟩ (.int .i64 n)).heap[g]? = some (.cells ((#[.int .i64 a, .int .i64 b, .int .i64 c] : Array Value).setIfInBounds j (.int .i64 n)) 37 (0, 0)) := by
  have hlt := h.lt
  have h' : w.heap[g] = .cells #[.int .i64 a, .int .i64 b, .int .i64 c] 37 (0, 0) := by simpa [Box, Array.getElem?_eq_getElem hlt] using h
  show (w.heap.modify g _)[g]? = _
  rw [Array.getElem?_eq_getElem (by simpa using hlt), Array.getElem_modify_self, h']
  simp
theorem Box.set0 {w : World} {g : Nat} {a b c : Int} (h : Box w g a b c) (n : Int) : Box (w.setCell ⟨g, 0, none⟩ (.int .i64 n)) g n b c := h.set 0 n
theorem Box.set1 {w : World} {g : Nat} {a b c : Int} (h : Box w g a b c) (n : Int) : Box (w.setCell ⟨g, 1, none⟩ (.int .i64 n)) g a n c := h.set 1 n
theorem Box.set2 {w : World} {g : Nat} {a b c : Int} (h : Box w g a b c) (n : Int) : Box (w.setCell ⟨g, 2, none⟩ (.int .i64 n)) g a b n := h.set 2 n
theorem Box.other {w : World} {g g' j : Nat} {a b c : Int} {u : Value} (h : Box w g a b c) (hne : g ≠ g') : Box (w.setCell ⟨g', j, none⟩ u) g a b c := by
  unfold Box at h ⊢
  rw [Below.heap_setCell _ _ _ _ hne]; exact h

set_option maxHeartbeats 2000000 in
set_option maxRecDepth 100000 in
theorem runAt_any (b off cap i : Nat) (l : List Fr) (w : World) (hb : b < w.heap.size) (hcap : l.length ≤ cap) (hcm : cap ≤ maxLen) (hf : ∀ x ∈ l, x.fit) (hc : FrsAt w b off l) (hl2 : l.length ≤ 200) (hi : i < l.length) :
    Calls Tryz.prog 27 #[.slice (some ⟨b, off, none⟩) l.length cap, .int .i64 i] w fun e w' => e = .returned (.agg #[.int .i64 i, .int .i64 (best (l.drop i)).1, .int .i64 (best (l.drop i)).2]) ∧ Below w.heap.size w w' := by
  have hn1 : (l.drop i).length = l.length - i := List.length_drop
  have HT := Lib.hid (fun (W : World) (hW : Below w.heap.size w W) (long : Nat) (h1 : 1 ≤ long) (h2 : long ≤ (l.drop i).length) =>
    timesOf_any b (off + i * 6) (cap - i) long (l.drop i) W (by have := hW.size; omega) (by rw [List.length_drop]; omega) (by omega) (fun x hx => hf x (List.mem_of_mem_drop hx)) ((hc.drop i).below hb hW) (by rw [List.length_drop]; omega) h1 h2)
  have hbk := bestK_ok (l.drop i) (by rw [List.length_drop]; omega)
  have HBE := Lib.hid (show best (l.drop i) = bestK (l.drop i) ((l.drop i).length / 2) from rfl)
  have HLE := Lib.hid (fun (long : Nat) (h : long ≤ (l.drop i).length) => timesN_le (l := l.drop i) h)
  unfold maxLen at hcm
  clear hc hf
  rw [hn1] at HT hbk HBE HLE
  clear hn1
  generalize l.drop i = r at *
  generalize l.length = n at *
  have hne : ¬ cap = i := by omega
  go_enter Tryz.func27, Tryz.ntmps27
  go_wp2_with fail
  go_loopw [7] (fun v wr => ∃ k : Nat, k ≤ (n - i) / 2 ∧ Box wr (w.heap.size + 1) i (bestK r k).1 (bestK r k).2 ∧ Box wr w.heap.size 0 0 0 ∧ v = .int .i64 ((k : Int) + 1) ∧ Below w.heap.size w wr) (fun v _ => 400 - (intOf v).toNat)
  case atStart => exact ⟨0, Nat.zero_le _, by have := Box.made (w.alloc (.cells #[.int .i64 0, .int .i64 0, .int .i64 0] 37)) i 1 1; rw [World.heap_alloc_size'] at this; exact this, (Box.made w 0 0 0).alloc _, rfl, ((Below.refl _ _).alloc (Nat.le_refl _) _).alloc (by simp) _⟩
  case round =>
    obtain ⟨k, hk, hB, hR, rfl, hbw⟩ := hrel
    obtain ⟨m1, m2, m3⟩ := hbk k hk
    by_cases hlt : k + 1 ≤ (n - i) / 2
    · have HSTEP := Lib.hid (show bestK r (k + 1) = if 1 < timesN r (k + 1) ∧ (bestK r k).1 * (bestK r k).2 < (k + 1) * timesN r (k + 1) then (k + 1, timesN r (k + 1)) else bestK r k from rfl)
      have HC := Lib.hid (HT.out wr hbw (k + 1) (by omega) (by omega))
      have hle : timesN r (k + 1) * (k + 1) ≤ n - i := HLE.out (k + 1) (by omega)
      have hge := timesN_ge r (k + 1)
      generalize timesN r (k + 1) = T at *
      generalize bestK r k = bb at *
      obtain ⟨x1, x2⟩ := bb
      simp only at hB m1 m2 m3 HSTEP
      rw [Int.natCast_add] at HC
      have HPT := Lib.hid (show (((k + 1) * T : Nat) : Int) = ((k : Int) + 1) * T by rw [Int.natCast_mul]; rfl)
      have HPX := Lib.hid (show ((x1 * x2 : Nat) : Int) = (x1 : Int) * x2 from Int.natCast_mul _ _)
      have p1 : (0 : Int) ≤ ((k : Int) + 1) * T := by rw [← HPT.out]; omega
      have p2 : ((k : Int) + 1) * T ≤ 200 := by rw [← HPT.out, Nat.mul_comm]; omega
      have p3 : (0 : Int) ≤ (x1 : Int) * x2 := by rw [← HPX.out]; omega
      have p4 : (x1 : Int) * x2 ≤ 200 := by rw [← HPX.out]; omega
      by_cases hT : 1 < T
      · by_cases hP : x1 * x2 < (k + 1) * T
        · have q1 : (x1 : Int) * x2 < ((k : Int) + 1) * T := by rw [← HPT.out, ← HPX.out]; omega
          have HS2 := Lib.hid (show bestK r (k + 1) = (k + 1, T) by rw [HSTEP.out, if_pos ⟨hT, hP⟩])
          clear hP hle
          go_wp2_with (go_at_call 46; refine HC.out.mono ?_; rintro e w1 ⟨rfl, hbT⟩; have hB1 := hB.below hbT hB.lt; have hR1 := hR.below hbT hR.lt; have hb1 := below_call hbw hbw.size hbT; obtain ⟨d0, d1, d2, f0, f1, f2⟩ := hB1.cells)
          exact ⟨⟨k + 1, hlt, by rw [HS2.out]; exact (hB1.set1 _).set2 _, (hR1.other (by omega)).other (by omega), by go_num, (hb1.setCell (by simp) _).setCell (by simp) _⟩, by simp [intOf]; omega⟩
        · have q1 : ((k : Int) + 1) * T ≤ (x1 : Int) * x2 := by rw [← HPT.out, ← HPX.out]; omega
          have HS2 := Lib.hid (show bestK r (k + 1) = (x1, x2) by rw [HSTEP.out, if_neg (fun h => hP h.2)])
          clear hP hle
          go_wp2_with (go_at_call 46; refine HC.out.mono ?_; rintro e w1 ⟨rfl, hbT⟩; have hB1 := hB.below hbT hB.lt; have hR1 := hR.below hbT hR.lt; have hb1 := below_call hbw hbw.size hbT; obtain ⟨d0, d1, d2, f0, f1, f2⟩ := hB1.cells)
          exact ⟨⟨k + 1, hlt, by rw [HS2.out]; exact hB1, hR1, by go_num, hb1⟩, by simp [intOf]; omega⟩
      · have HS2 := Lib.hid (show bestK r (k + 1) = (x1, x2) by rw [HSTEP.out, if_neg (fun h => hT h.1)])
        obtain rfl : T = 1 := by omega
        go_wp2_with (go_at_call 46; refine HC.out.mono ?_; rintro e w1 ⟨rfl, hbT⟩; have hB1 := hB.below hbT hB.lt; have hR1 := hR.below hbT hR.lt; have hb1 := below_call hbw hbw.size hbT; obtain ⟨d0, d1, d2, f0, f1, f2⟩ := hB1.cells)
        exact ⟨⟨k + 1, hlt, by rw [HS2.out]; exact hB1, hR1, by go_num, hb1⟩, by simp [intOf]; omega⟩
    · obtain rfl : k = (n - i) / 2 := by omega
      rw [← HBE.out] at hB
      obtain ⟨d0, d1, d2, f0, f1, f2⟩ := hB.cells
      obtain ⟨e0, e1, e2, g0, g1, g2⟩ := hR.cells
      go_wp2_with fail
      have s0 := (hR.set0 (i : Int)).cells.1
      have s1 := ((hR.set0 (i : Int)).set1 ((best r).1 : Int)).cells.2.1
      have s2 := (((hR.set0 (i : Int)).set1 ((best r).1 : Int)).set2 ((best r).2 : Int)).cells.2.2.1
      exact bodyPost_ret (v := .agg #[.int .i64 i, .int .i64 (best r).1, .int .i64 (best r).2]) (by simp [results, Tryz.results27, go_sem, s0, s1, s2]) rfl ⟨rfl, ((hbw.setCell (by simp) _).setCell (by simp) _).setCell (by simp) _⟩
end Go.Proofs.YtihnpbhcddapdabGreatDoor

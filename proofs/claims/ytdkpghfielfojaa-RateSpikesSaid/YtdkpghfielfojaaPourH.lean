/- Worlds that grow, and blocks of three cells. -/
import Derived.Test.YtdkpghfielfojaaPourB
import Derived.OneCell
import Derived.Deep.CutRange
namespace Go.Proofs.Ytdkpghfielfojaa
open Go.RowKit Go.Lib

theorem cell_keep {W W' : World} {p : Addr} {v : Value} (h : W.cell? p = some v) (hb : Below W.heap.size W W') : W'.cell? p = some v := (hb.cell (World.block_lt_of_cell? _ _ h)).trans h
theorem below_call {B : Nat} {a w w' : World} (h : Below B a w) (hB : B ≤ w.heap.size) (hk : Below w.heap.size w w') : Below B a w' := h.trans (hk.mono hB)
theorem below_drewE {B : Nat} {a w : World} (h : Below B a w) (n : Nat) : Below B a (w.drewN n) := ⟨h.os, h.tape, h.output, h.size, h.block⟩
/-- A block of three cells. -/
structure Bx3 (w : World) (B : Nat) (v0 v1 v2 : Value) : Prop where
  c0 : w.cell? ⟨B, 0, none⟩ = some v0
  c1 : w.cell? ⟨B, 1, none⟩ = some v1
  c2 : w.cell? ⟨B, 2, none⟩ = some v2
  f0 : w.frozen? ⟨B, 0, none⟩ = false
  f1 : w.frozen? ⟨B, 1, none⟩ = false
  f2 : w.frozen? ⟨B, 2, none⟩ = false
theorem Bx3.lt {w : World} {B : Nat} {v0 v1 v2 : Value} (h : Bx3 w B v0 v1 v2) : B < w.heap.size := World.block_lt_of_cell? _ _ h.c0
theorem Bx3.of {w w' : World} {B : Nat} {v0 v1 v2 : Value} (h : Bx3 w B v0 v1 v2) (e : w'.heap[B]? = w.heap[B]?) : Bx3 w' B v0 v1 v2 := by
  have c := fun i v (hc : w.cell? ⟨B, i, none⟩ = some v) => (World.cell?_of_block (a := ⟨B, i, none⟩) e).trans hc
  have f := fun i (hc : w.frozen? ⟨B, i, none⟩ = false) => (World.frozen?_of_block (a := ⟨B, i, none⟩) e).trans hc
  exact ⟨c _ _ h.c0, c _ _ h.c1, c _ _ h.c2, f _ h.f0, f _ h.f1, f _ h.f2⟩
theorem Bx3.below {w w' : World} {B : Nat} {v0 v1 v2 : Value} (h : Bx3 w B v0 v1 v2) (hg : Below w.heap.size w w') : Bx3 w' B v0 v1 v2 := h.of (hg.block B h.lt)
theorem Bx3.alloc {w : World} {B : Nat} {v0 v1 v2 : Value} (h : Bx3 w B v0 v1 v2) (o : Obj) : Bx3 (w.alloc o) B v0 v1 v2 := h.below ((Below.refl _ _).alloc (Nat.le_refl _) _)
theorem Bx3.drew {w : World} {B : Nat} {v0 v1 v2 : Value} (h : Bx3 w B v0 v1 v2) : Bx3 w.drew B v0 v1 v2 := ⟨h.1, h.2, h.3, h.4, h.5, h.6⟩
theorem Bx3.new (w : World) (v0 v1 v2 : Value) (t : TypeId) : Bx3 (w.alloc (.cells #[v0, v1, v2] t)) w.heap.size v0 v1 v2 :=
  ⟨by go_simp, by go_simp, by go_simp, by go_simp, by go_simp, by go_simp⟩
theorem Bx3.set0 {w : World} {B : Nat} {v0 v1 v2 : Value} (h : Bx3 w B v0 v1 v2) (v : Value) : Bx3 (w.setCell ⟨B, 0, none⟩ v) B v v1 v2 := by
  obtain ⟨c0, c1, c2, f0, f1, f2⟩ := h
  exact ⟨by go_simp, by go_simp, by go_simp, by rw [World.frozen?_setCell]; exact f0, by rw [World.frozen?_setCell]; exact f1, by rw [World.frozen?_setCell]; exact f2⟩
theorem Bx3.set1 {w : World} {B : Nat} {v0 v1 v2 : Value} (h : Bx3 w B v0 v1 v2) (v : Value) : Bx3 (w.setCell ⟨B, 1, none⟩ v) B v0 v v2 := by
  obtain ⟨c0, c1, c2, f0, f1, f2⟩ := h
  exact ⟨by go_simp, by go_simp, by go_simp, by rw [World.frozen?_setCell]; exact f0, by rw [World.frozen?_setCell]; exact f1, by rw [World.frozen?_setCell]; exact f2⟩
theorem Bx3.set2 {w : World} {B : Nat} {v0 v1 v2 : Value} (h : Bx3 w B v0 v1 v2) (v : Value) : Bx3 (w.setCell ⟨B, 2, none⟩ v) B v0 v1 v := by
  obtain ⟨c0, c1, c2, f0, f1, f2⟩ := h
  exact ⟨by go_simp, by go_simp, by go_simp, by rw [World.frozen?_setCell]; exact f0, by rw [World.frozen?_setCell]; exact f1, by rw [World.frozen?_setCell]; exact f2⟩
theorem Bx3.all {w : World} {B : Nat} {v0 v1 v2 : Value} (h : Bx3 w B v0 v1 v2) (u0 u1 u2 : Value) : Bx3 (((w.setCell ⟨B, 0, none⟩ u0).setCell ⟨B, 1, none⟩ u1).setCell ⟨B, 2, none⟩ u2) B u0 u1 u2 := ((h.set0 u0).set1 u1).set2 u2
theorem set3_below {N : Nat} {a w : World} {B : Nat} (h : Below N a w) (hB : N ≤ B) (u0 u1 u2 : Value) : Below N a (((w.setCell ⟨B, 0, none⟩ u0).setCell ⟨B, 1, none⟩ u1).setCell ⟨B, 2, none⟩ u2) :=
  ((h.setCell (p := ⟨B, 0, none⟩) hB u0).setCell (p := ⟨B, 1, none⟩) hB u1).setCell (p := ⟨B, 2, none⟩) hB u2

/-- The two boxes that each of these functions makes of its bucket and its level. -/
structure Two (w W : World) (S A E h t r : Int) : Prop where
  b : Bx3 W w.heap.size (.int .i64 S) (.int .i64 A) (.int .i64 E)
  l : Bx3 W (w.heap.size + 1) (.int .i64 h) (.int .i64 t) (.int .i64 r)
  bw : Below w.heap.size w W
theorem Two.new (w : World) (S A E h t r : Int) : Two w ((w.alloc (.cells #[.int .i64 S, .int .i64 A, .int .i64 E] 44)).alloc (.cells #[.int .i64 h, .int .i64 t, .int .i64 r] 46)) S A E h t r := by
  refine ⟨(Bx3.new _ _ _ _ _).alloc _, ?_, ((Below.refl _ _).alloc (Nat.le_refl _) _).alloc (by simp) _⟩
  have := Bx3.new (w.alloc (.cells #[.int .i64 S, .int .i64 A, .int .i64 E] 44)) (.int .i64 h) (.int .i64 t) (.int .i64 r) 46
  rwa [show (w.alloc (.cells #[.int .i64 S, .int .i64 A, .int .i64 E] 44)).heap.size = w.heap.size + 1 by simp] at this
theorem Two.below {w W W' : World} {S A E h t r : Int} (x : Two w W S A E h t r) (hb : Below W.heap.size W W') : Two w W' S A E h t r := ⟨x.b.below hb, x.l.below hb, below_call x.bw x.bw.size hb⟩
theorem Two.alloc {w W : World} {S A E h t r : Int} (x : Two w W S A E h t r) (o : Obj) : Two w (W.alloc o) S A E h t r := x.below ((Below.refl _ _).alloc (Nat.le_refl _) _)
theorem Two.drew {w W : World} {S A E h t r : Int} (x : Two w W S A E h t r) : Two w W.drew S A E h t r := ⟨x.b.drew, x.l.drew, x.bw.drew⟩
theorem Two.lt {w W : World} {S A E h t r : Int} (x : Two w W S A E h t r) : w.heap.size + 1 < W.heap.size := x.l.lt
end Go.Proofs.Ytdkpghfielfojaa

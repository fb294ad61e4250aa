/- Versions as data; what the closure of parse answers. -/
import Derived.Test.YtnpnoohnkbpokaaDoorVerC
import Derived.Lib.LastIndexByte
import Derived.Lib.SplitLaws
import Derived.Laws.EntriesVeiled
import Derived.Deep.RegionLaw
namespace Go.Proofs.YtnpnoohnkbpokaaDoor
open Go.RowKit Go.Lib

/-- A version as data. -/
structure Vr where
  pj : ByteArray
  ma : Int
  mi : Int
  pa : Int
  pre : List ByteArray
def vr0 : Vr := ⟨⟨#[]⟩, 0, 0, 0, []⟩
/-- A value is a version. -/
def VrV (w : World) (v : Value) (x : Vr) : Prop :=
  ∃ p, v = .agg #[.string x.pj, .int .i64 x.ma, .int .i64 x.mi, .int .i64 x.pa, p] ∧ SlG encS 1 fitP w p x.pre
theorem VrV.below {w w' : World} {v : Value} {x : Vr} {B : Nat} (h : VrV w v x) (hB : w.heap.size ≤ B) (hw : Below B w w') : VrV w' v x := by
  obtain ⟨p, hv, hp⟩ := h
  exact ⟨p, hv, hp.below hB hw⟩
theorem VrV.zero (w : World) : VrV w (.agg #[.string ⟨#[]⟩, .int .i64 0, .int .i64 0, .int .i64 0, .slice none 0 0]) vr0 := ⟨_, rfl, SlG.nil w⟩

/-- A box of one cell. -/
def Bx1 (w : World) (B : Nat) (v : Value) : Prop := w.cell? ⟨B, 0, none⟩ = some v ∧ w.frozen? ⟨B, 0, none⟩ = false
theorem Bx1.lt {w : World} {B : Nat} {v : Value} (h : Bx1 w B v) : B < w.heap.size := World.block_lt_of_cell? _ _ h.1
theorem Bx1.grown {w w' : World} {B : Nat} {v : Value} {r : Option Nat} (h : Bx1 w B v) (hg : w.grownBy w' r) (hr : r ≠ some B) : Bx1 w' B v := by
  have e : w'.heap[B]? = w.heap[B]? := hg.block B h.lt (fun e => hr e.symm)
  exact ⟨(World.cell?_of_block (a := ⟨B, 0, none⟩) e).trans h.1, (World.frozen?_of_block (a := ⟨B, 0, none⟩) e).trans h.2⟩
theorem Bx1.alloc {w : World} {B : Nat} {v : Value} (h : Bx1 w B v) (o : Obj) : Bx1 (w.alloc o) B v := h.grown (World.grownBy_alloc w o none) (by simp)
theorem Bx1.below {w w' : World} {B : Nat} {v : Value} (h : Bx1 w B v) (hb : Below w.heap.size w w') : Bx1 w' B v := h.grown (r := none) (grownBy_of_below hb) (by simp)
/-- A box of five cells. -/
structure Bx5 (w : World) (B : Nat) (v0 v1 v2 v3 v4 : Value) : Prop where
  c0 : w.cell? ⟨B, 0, none⟩ = some v0
  c1 : w.cell? ⟨B, 1, none⟩ = some v1
  c2 : w.cell? ⟨B, 2, none⟩ = some v2
  c3 : w.cell? ⟨B, 3, none⟩ = some v3
  c4 : w.cell? ⟨B, 4, none⟩ = some v4
  f0 : w.frozen? ⟨B, 0, none⟩ = false
  f1 : w.frozen? ⟨B, 1, none⟩ = false
  f2 : w.frozen? ⟨B, 2, none⟩ = false
  f3 : w.frozen? ⟨B, 3, none⟩ = false
  f4 : w.frozen? ⟨B, 4, none⟩ = false
theorem Bx5.lt {w : World} {B : Nat} {v0 v1 v2 v3 v4 : Value} (h : Bx5 w B v0 v1 v2 v3 v4) : B < w.heap.size := World.block_lt_of_cell? _ _ h.c0
theorem Bx5.grown {w w' : World} {B : Nat} {v0 v1 v2 v3 v4 : Value} {r : Option Nat} (h : Bx5 w B v0 v1 v2 v3 v4) (hg : w.grownBy w' r) (hr : r ≠ some B) : Bx5 w' B v0 v1 v2 v3 v4 := by
  have e : w'.heap[B]? = w.heap[B]? := hg.block B h.lt (fun e => hr e.symm)
  have c := fun i v (hc : w.cell? ⟨B, i, none⟩ = some v) => (World.cell?_of_block (a := ⟨B, i, none⟩) e).trans hc
  have f := fun i (hc : w.frozen? ⟨B, i, none⟩ = false) => (World.frozen?_of_block (a := ⟨B, i, none⟩) e).trans hc
  exact ⟨c _ _ h.c0, c _ _ h.c1, c _ _ h.c2, c _ _ h.c3, c _ _ h.c4, f _ h.f0, f _ h.f1, f _ h.f2, f _ h.f3, f _ h.f4⟩
theorem Bx5.alloc {w : World} {B : Nat} {v0 v1 v2 v3 v4 : Value} (h : Bx5 w B v0 v1 v2 v3 v4) (o : Obj) : Bx5 (w.alloc o) B v0 v1 v2 v3 v4 := h.grown (World.grownBy_alloc w o none) (by simp)
theorem Bx5.below {w w' : World} {B : Nat} {v0 v1 v2 v3 v4 : Value} (h : Bx5 w B v0 v1 v2 v3 v4) (hb : Below w.heap.size w w') : Bx5 w' B v0 v1 v2 v3 v4 := h.grown (r := none) (grownBy_of_below hb) (by simp)

set_option maxHeartbeats 1000000 in
set_option maxRecDepth 100000 in
theorem number_any (b : Nat) (c : Bool) (s : ByteArray) (w : World) (hs : s.size ≤ 1048576) (h : Bx1 w b (.bool c)) :
    Calls Tryd.prog 85 #[.string s, .pointer (some ⟨b, 0, none⟩)] w fun e w' => e = .returned (.int .i64 (rdNum 6 s.data.toList)) ∧ Bx1 w' b (.bool (c && numOk 6 s.data.toList)) ∧ w.grownBy w' (some b) := by
  have HR := Lib.hid (fun W => readNumber_any s 6 W (by omega) (by omega))
  have HB := Lib.hid h
  generalize rdNum 6 s.data.toList = n at *
  generalize numOk 6 s.data.toList = o at *
  clear h
  cases c <;> cases o
  all_goals
    go_enter Tryd.func85, Tryd.ntmps85
    go_wp2_with (go_at_call 80; refine (HR.out _).mono ?_; rintro e w1 ⟨rfl, hb⟩; have HX := Lib.hid (HB.out.below hb); have x0 := HX.out.1; have f0 := HX.out.2)
    go_ret
    exact ⟨rfl, ⟨by go_simp, by rw [World.frozen?_setCell]; exact f0⟩, grownBy_trans (grownBy_of_below hb) (grownBy_set _ _ _)⟩
end Go.Proofs.YtnpnoohnkbpokaaDoor

/- Whether one function has all offsets of a call: inFunc. -/
import Derived.Test.YtcdaalnjanncmaaDoorSymE
namespace Go.Proofs.YtcdaalnjanncmaaDoor
open Go.RowKit

/-- The program's test. -/
def inFB (fs : List Fc) (c : Cl) : Bool := fs.zipIdx.any fun x => decide (fncAt c.a fs = (x.2 : Int)) && decide (c.b ≤ x.1.b)
theorem inFB_iff {fs : List Fc} {c : Cl} : inFB fs c = true ↔ ∃ i : Nat, ∃ hi : i < fs.length, fncAt c.a fs = (i : Int) ∧ c.b ≤ fs[i].b := by
  unfold inFB
  rw [List.any_eq_true]
  constructor
  · rintro ⟨⟨f, i⟩, hm, h⟩
    rw [List.mem_zipIdx_iff_getElem?] at hm
    obtain ⟨hi, hf⟩ := List.getElem?_eq_some_iff.1 hm
    simp only [Bool.and_eq_true, decide_eq_true_eq] at h
    exact ⟨i, hi, h.1, by rw [hf]; exact h.2⟩
  · rintro ⟨i, hi, h1, h2⟩
    refine ⟨(fs[i], i), ?_, by simp [h1, h2]⟩
    rw [List.mem_zipIdx_iff_getElem?]
    exact List.getElem?_eq_getElem hi
theorem inFB_none {fs : List Fc} {c : Cl} (h : fncAt c.a fs = -1) : inFB fs c = false := by
  rw [Bool.eq_false_iff]
  intro hh
  obtain ⟨i, _, h1, _⟩ := inFB_iff.1 hh
  omega
theorem inFB_some {fs : List Fc} {c : Cl} {i : Nat} (hi : i < fs.length) (h : fncAt c.a fs = (i : Int)) : inFB fs c = decide (c.b ≤ fs[i].b) := by
  rw [Bool.eq_iff_iff, inFB_iff, decide_eq_true_eq]
  constructor
  · rintro ⟨j, hj, h1, h2⟩
    obtain rfl : i = j := by omega
    exact h2
  · intro h2
    exact ⟨i, hi, h, h2⟩

set_option maxHeartbeats 2000000 in
set_option maxRecDepth 100000 in
theorem inFunc_some (id : ByteArray) (size : Int) (b off n2 : Nat) (p1 p3 p4 : Option Addr) (n1 n3 n4 c1 c2 c3 c4 : Nat) (l : List Fc) (c : Cl) (w : World) (hl : l.length = n2) (hn : n2 ≤ 9223372036854775807) (hb : b < w.heap.size) (hc : AtG encF 3 w b off l) :
    Calls Tryd.prog 90 #[.agg #[.string id, .int .i64 size, .slice p1 n1 c1, .slice (some ⟨b, off, none⟩) n2 c2, .slice p3 n3 c3, .slice p4 n4 c4], .agg #[.string c.n, .int .i64 c.a, .int .i64 c.b, .int .i64 c.f, .int .i64 c.l]] w fun e w' => e = .returned (.bool (inFB l c)) ∧ Below w.heap.size w w' := by
  obtain ⟨cn, ca, cb, cf, cl⟩ := c
  simp only
  have HAT := Lib.hid (fun (W : World) (hW : Below w.heap.size w W) => funcAt_some id size ca b off n2 p1 p3 p4 n1 n3 n4 c1 c2 c3 c4 l W hl hn (by have := hW.size; omega) (hc.below hb hW))
  have hA : Below w.heap.size w ((w.alloc (.cells #[.string id, .int .i64 size, .slice p1 n1 c1, .slice (some ⟨b, off, none⟩) n2 c2, .slice p3 n3 c3, .slice p4 n4 c4] 42)).alloc (.cells #[.string cn, .int .i64 ca, .int .i64 cb, .int .i64 cf, .int .i64 cl] 84)) := ((Below.refl _ _).alloc (Nat.le_refl _) _).alloc (by simp) _
  by_cases hz : fncAt ca l = -1
  · have HV := Lib.hid (show atVal (fncAt ca l) = .tuple #[.int .i64 0, .bool false] by unfold atVal; rw [if_pos hz])
    rw [HV.out] at HAT
    have HR := Lib.hid (inFB_none (fs := l) (c := ⟨cn, ca, cb, cf, cl⟩) hz)
    clear hz
    go_enter Tryd.func90, Tryd.ntmps90
    go_wp2_with (go_at_call 16; refine (HAT.out _ hA).mono ?_; rintro e w1 ⟨rfl, hb1⟩)
    go_quiet (fail)
    go_wp2_with fail
    go_ret
    exact ⟨ret_bool HR.out.symm, (hA.trans (hb1.mono hA.size)).trans ⟨rfl, rfl, rfl, Nat.le_refl _, fun _ _ => rfl⟩⟩
  · obtain ⟨i, hi, h1, h2, h3⟩ := fncAt_lt hz
    have HV := Lib.hid (show atVal (fncAt ca l) = .tuple #[.int .i64 i, .bool true] from atVal_some h1)
    rw [HV.out] at HAT
    have HR := Lib.hid (inFB_some (fs := l) (c := ⟨cn, ca, cb, cf, cl⟩) hi h1)
    obtain ⟨q0, q1, q2⟩ := hc.fnc hi
    have hin : (i : Int) < (n2 : Int) := by omega
    clear hz h1 h2 h3
    generalize l[i] = f at *
    obtain ⟨s, fa, fb⟩ := f
    simp only at q0 q1 q2
    go_enter Tryd.func90, Tryd.ntmps90
    go_wp2_with (go_at_call 16; refine (HAT.out _ hA).mono ?_; rintro e w1 ⟨rfl, hb1⟩)
    have hB1 : Below w.heap.size w w1 := hA.trans (hb1.mono hA.size)
    have q2 := (hB1.cell (p := ⟨b, _, none⟩) hb).trans q2
    have e2 : w1.cell? ⟨w.heap.size + 1, 2, none⟩ = some (.int .i64 cb) := (hb1.cell (p := ⟨w.heap.size + 1, 2, none⟩) (by simp)).trans (by go_simp)
    have e3 : w1.cell? ⟨w.heap.size, 3, none⟩ = some (.slice (some ⟨b, off, none⟩) n2 c2) := (hb1.cell (p := ⟨w.heap.size, 3, none⟩) (by simp; omega)).trans (by go_simp)
    go_quiet (fail)
    go_wp2_with fail
    go_ret
    exact ⟨ret_bool HR.out.symm, hB1.trans ⟨rfl, rfl, rfl, Nat.le_refl _, fun _ _ => rfl⟩⟩
end Go.Proofs.YtcdaalnjanncmaaDoor

/- The reader of a line: skip, expect. -/
import Derived.Test.YtooilpblbkgloaaGreatDoorRuleE
import Derived.Laws.AppendOwn
import Derived.Lib.OthersKept
import Derived.OneCell
import Derived.Laws.EntriesVeiled
namespace Go.Proofs.YtooilpblbkgloaaGreatDoor
open Go.RowKit Go.Lib

/-- A reader in block b has s to read, and nothing went wrong. -/
structure RdC (w : World) (b : Nat) (s : ByteArray) : Prop where
  c0 : w.cell? ⟨b, 0, none⟩ = some (.string s)
  c1 : w.cell? ⟨b, 1, none⟩ = some (.bool false)
  f0 : w.frozen? ⟨b, 0, none⟩ = false
theorem RdC.lt {w : World} {b : Nat} {s : ByteArray} (h : RdC w b s) : b < w.heap.size := World.block_lt_of_cell? _ _ h.c0
theorem RdC.grown {w w' : World} {b : Nat} {s : ByteArray} {r : Option Nat} (h : RdC w b s) (hg : w.grownBy w' r) (hr : r ≠ some b) : RdC w' b s := by
  have e : w'.heap[b]? = w.heap[b]? := hg.block b h.lt (fun e => hr e.symm)
  exact ⟨(World.cell?_of_block (a := ⟨b, 0, none⟩) e).trans h.c0, (World.cell?_of_block (a := ⟨b, 1, none⟩) e).trans h.c1, (World.frozen?_of_block (a := ⟨b, 0, none⟩) e).trans h.f0⟩
theorem RdC.below {w w' : World} {b : Nat} {s : ByteArray} {B : Nat} (h : RdC w b s) (hg : Below B w w') (hB : b < B) : RdC w' b s := by
  have e : w'.heap[b]? = w.heap[b]? := hg.block b hB
  exact ⟨(World.cell?_of_block (a := ⟨b, 0, none⟩) e).trans h.c0, (World.cell?_of_block (a := ⟨b, 1, none⟩) e).trans h.c1, (World.frozen?_of_block (a := ⟨b, 0, none⟩) e).trans h.f0⟩
theorem RdC.set {w : World} {b : Nat} {s : ByteArray} (h : RdC w b s) (t : ByteArray) : RdC (w.setCell ⟨b, 0, none⟩ (.string t)) b t := by
  have h0 := h.c0
  have h1 := h.c1
  have hf := h.f0
  exact ⟨by go_simp, by go_simp, by rw [World.frozen?_setCell]; exact hf⟩
theorem grownBy_set (w : World) (p : Addr) (v : Value) : w.grownBy (w.setCell p v) (some p.block) :=
  ⟨rfl, rfl, rfl, by simp [World.setCell], fun k _ hk => Below.heap_setCell _ _ _ _ (fun e => hk (by rw [e]))⟩
theorem grownBy_refl (w : World) (r : Option Nat) : w.grownBy w r := ⟨rfl, rfl, rfl, Nat.le_refl _, fun _ _ _ => rfl⟩
theorem grownBy_trans {a b c : World} {r : Option Nat} (h : a.grownBy b r) (k : b.grownBy c r) : a.grownBy c r :=
  ⟨k.os.trans h.os, k.tape.trans h.tape, k.output.trans h.output, Nat.le_trans h.size k.size, fun i hi hr => (k.block i (Nat.lt_of_lt_of_le hi h.size) hr).trans (h.block i hi hr)⟩
theorem grownBy_below {a b c : World} {r : Option Nat} (h : a.grownBy b r) (k : Below b.heap.size b c) : a.grownBy c r :=
  ⟨k.os.trans h.os, k.tape.trans h.tape, k.output.trans h.output, Nat.le_trans h.size k.size, fun i hi hr => (k.block i (Nat.lt_of_lt_of_le hi h.size)).trans (h.block i hi hr)⟩
theorem grownBy_of_below {a c : World} {r : Option Nat} (k : Below a.heap.size a c) : a.grownBy c r := grownBy_below (grownBy_refl a r) k
theorem cell_grownBy {w w' : World} {r : Option Nat} {p : Addr} {v : Value} (h : w.cell? p = some v) (hg : w.grownBy w' r) (hr : r ≠ some p.block) : w'.cell? p = some v :=
  (World.cell?_of_block (hg.block p.block (World.block_lt_of_cell? _ _ h) (fun e => hr e.symm))).trans h

theorem bs_cut (m l : List UInt8) : Lib.hasPrefix (bs (m ++ l)).data.toList m = true ∧ Lib.trimPrefix (bs (m ++ l)).data.toList m = l := by
  have h : Lib.hasPrefix (m ++ l) m = true := by unfold Lib.hasPrefix; simp
  refine ⟨h, ?_⟩
  show (if Lib.hasPrefix (m ++ l) m then (m ++ l).drop m.length else (m ++ l)) = l
  rw [if_pos h]; simp

set_option maxHeartbeats 1000000 in
set_option maxRecDepth 100000 in
theorem skip_hit (b : Nat) (m l : List UInt8) (w : World) (hR : RdC w b (bs (m ++ l))) :
    Calls Tryz.prog 25 #[.pointer (some ⟨b, 0, none⟩), .string (bs m)] w fun e w' => e = .returned (.bool true) ∧ RdC w' b (bs l) ∧ w.grownBy w' (some b) := by
  have H0 := Lib.hid (bs_cut m l)
  have HR := Lib.hid hR
  have h0 := hR.c0
  have hf := hR.f0
  clear hR
  go_enter Tryz.func25, Tryz.ntmps25
  go_wp2_with (go_at_call 32; refine (Tryz.strings_CutPrefix _ _ _).mono ?_; rintro e w' ⟨rfl, rfl⟩; rw [show Lib.hasPrefix (bs (m ++ l)).data.toList (bs m).data.toList = true from H0.out.1, show Lib.trimPrefix (bs (m ++ l)).data.toList (bs m).data.toList = l from H0.out.2])
  go_ret
  exact ⟨rfl, HR.out.set _, grownBy_set _ _ _⟩

set_option maxHeartbeats 1000000 in
set_option maxRecDepth 100000 in
theorem skip_miss (b : Nat) (m s : ByteArray) (w : World) (hR : RdC w b s) (hp : Lib.hasPrefix s.data.toList m.data.toList = false) :
    Calls Tryz.prog 25 #[.pointer (some ⟨b, 0, none⟩), .string m] w fun e w' => e = .returned (.bool false) ∧ w' = w := by
  have HP := Lib.hid hp
  have h0 := hR.c0
  clear hR hp
  go_enter Tryz.func25, Tryz.ntmps25
  go_wp2_with (go_at_call 32; refine (Tryz.strings_CutPrefix _ _ _).mono ?_; rintro e w' ⟨rfl, rfl⟩; rw [HP.out])
  go_ret
  exact ⟨rfl, rfl⟩

set_option maxHeartbeats 1000000 in
set_option maxRecDepth 100000 in
theorem expect_hit (b : Nat) (m l : List UInt8) (w : World) (hR : RdC w b (bs (m ++ l))) :
    Calls Tryz.prog 27 #[.pointer (some ⟨b, 0, none⟩), .string (bs m)] w fun e w' => e = .returned (.tuple #[]) ∧ RdC w' b (bs l) ∧ w.grownBy w' (some b) := by
  have H0 := Lib.hid (skip_hit b m l w hR)
  clear hR
  go_enter Tryz.func27, Tryz.ntmps27
  go_wp2_with (go_at_call 25; refine H0.out.mono ?_; rintro e w' ⟨rfl, hR', hg'⟩)
  go_end0
  exact ⟨rfl, hR', hg'⟩
end Go.Proofs.YtooilpblbkgloaaGreatDoor

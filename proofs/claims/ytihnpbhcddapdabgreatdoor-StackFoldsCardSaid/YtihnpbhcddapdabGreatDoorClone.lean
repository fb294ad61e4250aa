/- What slices.Clone, Grow and Concat leave, of frames. -/
import Derived.Test.YtihnpbhcddapdabGreatDoorUnfold
import Derived.WalkSpells
namespace Go.Proofs.YtihnpbhcddapdabGreatDoor
open Go.RowKit

/-- A slice of frames that the call has made. -/
def Made (l : List Fr) (w : World) (e : Ending) (w' : World) : Prop := ∃ v, e = .returned v ∧ w'.ownsRow w.heap.size 42 6 v l.length (cellsOf l) ∧ Below w.heap.size w w'

set_option maxHeartbeats 1000000 in
set_option maxRecDepth 100000 in
theorem clone_some (a : Addr) (cap : Nat) (l : List Fr) (w : World) (hl : l.length ≤ 200) (hsrc : ∀ i u, (cellsOf l)[i]? = some u → w.cell? (a.add i) = some u) :
    Calls Tryz.prog 32 #[.slice (some a) l.length cap] w (Made l w) := by
  obtain ⟨i0, hi, hz0, hz1, hz2⟩ := info_parts Tryz.info23
  have hown : (w.alloc (.cells #[] 42)).ownsRow w.heap.size 42 6 (.slice (some ⟨w.heap.size, 0, none⟩) 0 0) 0 [] := World.ownsRow_made w #[] 0 (Nat.le_refl _) (by simp [maxLen]) (by simp)
  have hsrc' : ∀ i u, (cellsOf l)[i]? = some u → (w.alloc (.cells #[] 42)).cell? (a.add i) = some u := fun i u hu => by
    have h := hsrc i u hu
    have hb := World.block_lt_of_cell? w _ h
    exact (((Below.refl w.heap.size w).alloc (Nat.le_refl _) (.cells #[] 42)).cell hb).trans h
  have hl2 : (cellsOf l).length = l.length * 6 := cellsOf_length l
  have hone := cellsOf_one (l := l)
  have HM := Lib.hid (fun (v' : Value) (w1 : World) (h : w1.ownsRow w.heap.size 42 6 v' (0 + l.length) ([] ++ cellsOf l)) (hb : Below w.heap.size w w1) => (show Made l w (.returned v') w1 from ⟨v', rfl, by rwa [Nat.zero_add, List.nil_append] at h, hb⟩))
  have q1 : 0 + l.length ≤ maxLen := by unfold maxLen; omega
  have q2 : (0 + l.length) * 72 ≤ 140737488355328 := by omega
  have q3 : w.heap.size ≤ (w.alloc (.cells #[] 42)).heap.size := by simp
  have hz6 : (Value.agg #[.string ⟨#[]⟩, .string ⟨#[]⟩, .string ⟨#[]⟩, .int .i64 0, .int .i64 0, .bool false]).cells.size = 6 := rfl
  generalize cellsOf l = news at *
  generalize l.length = n at *
  clear hsrc
  have Hl2 := Lib.hid hl2
  clear hl2
  have hnil := @Lib.run_eql_slice_nil
  go_enter Tryz.func32, Tryz.ntmps32
  go_wp2_with (at_builtin; (refine wpList_append_own _ rfl _ _ 32 rfl w.heap.size 42 i0 _ 6 72 Tryz.underlying32 hi hz0 hz1 hz2 hz6 (by decide) _ 0 [] rfl hown a n cap news rfl Hl2.out hsrc' hone q1 q2 q3 ?_; intro v' w1 hown3 hgrow _))
  go_ret
  exact HM.out _ _ hown3 (((Below.refl _ _).alloc (Nat.le_refl _) _).grown hgrow q3 (own_ge hown))

theorem clone_nil (cap : Nat) (w : World) :
    Calls Tryz.prog 32 #[.slice none 0 cap] w (Made [] w) := by
  have HM : Hid (Made [] w (.returned (.slice none 0 0)) w) := Lib.hid ⟨_, rfl, ⟨rfl, .inl ⟨rfl, rfl⟩⟩, Below.refl _ _⟩
  have hnil := @Lib.run_eql_slice_nil
  go_enter Tryz.func32, Tryz.ntmps32
  go_wp2_with fail
  go_ret
  exact HM.out

theorem clone_any (v : Value) (l : List Fr) (w : World) (hl : l.length ≤ 200) (h : SlF w v l) : Calls Tryz.prog 32 #[v] w (Made l w) := by
  obtain ⟨p, cap, rfl, h1, h2, h3, h4⟩ := h
  cases p with
  | none =>
    rcases h4 with rfl | ⟨b, off, hp, _⟩
    · exact clone_nil cap w
    · cases hp
  | some a =>
    refine clone_some a cap l w hl fun i u hu => ?_
    rcases h4 with rfl | ⟨b, off, hp, hb, hc⟩
    · simp [cellsOf] at hu
    · cases hp
      rw [add_none]; exact hc.cells i u hu
end Go.Proofs.YtihnpbhcddapdabGreatDoor

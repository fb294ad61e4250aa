/- What slices.Clone, Grow and Concat leave, of frames. -/
import Derived.Test.YtcdaalnjanncmaaDoorResD
import Derived.Test.YtcdaalnjanncmaaDoorFrames
import Derived.Test.YtcdaalnjanncmaaDoorRowPlain
import Derived.WalkSpells
namespace Go.Proofs.YtcdaalnjanncmaaDoor
open Go.RowKit

/-- A slice of frames that the call has made. -/
def Made (l : List Fr) (w : World) (e : Ending) (w' : World) : Prop := ∃ v, e = .returned v ∧ w'.ownsRow w.heap.size 35 6 v l.length (cellsOf l) ∧ Below w.heap.size w w'

set_option maxHeartbeats 1000000 in
set_option maxRecDepth 100000 in
theorem clone_some (a : Addr) (cap : Nat) (l : List Fr) (w : World) (hl : l.length ≤ 200) (hsrc : ∀ i u, (cellsOf l)[i]? = some u → w.cell? (a.add i) = some u) :
    Calls Tryd.prog 80 #[.slice (some a) l.length cap] w (Made l w) := by
  obtain ⟨i0, hi, hz0, hz1, hz2⟩ := info_parts Tryd.info35
  have hown : (w.alloc (.cells #[] 35)).ownsRow w.heap.size 35 6 (.slice (some ⟨w.heap.size, 0, none⟩) 0 0) 0 [] := World.ownsRow_made w #[] 0 (Nat.le_refl _) (by simp [maxLen]) (by simp)
  have hsrc' : ∀ i u, (cellsOf l)[i]? = some u → (w.alloc (.cells #[] 35)).cell? (a.add i) = some u := fun i u hu => by
    have h := hsrc i u hu
    have hb := World.block_lt_of_cell? w _ h
    exact (((Below.refl w.heap.size w).alloc (Nat.le_refl _) (.cells #[] 35)).cell hb).trans h
  have hl2 : (cellsOf l).length = l.length * 6 := cellsOf_length l
  have hone := cellsOf_one (l := l)
  have HM := Lib.hid (fun (v' : Value) (w1 : World) (h : w1.ownsRow w.heap.size 35 6 v' (0 + l.length) ([] ++ cellsOf l)) (hb : Below w.heap.size w w1) => (show Made l w (.returned v') w1 from ⟨v', rfl, by rwa [Nat.zero_add, List.nil_append] at h, hb⟩))
  have q1 : 0 + l.length ≤ maxLen := by unfold maxLen; omega
  have q2 : (0 + l.length) * 72 ≤ 140737488355328 := by omega
  have q3 : w.heap.size ≤ (w.alloc (.cells #[] 35)).heap.size := by simp
  have hz6 : (Value.agg #[.string ⟨#[]⟩, .string ⟨#[]⟩, .string ⟨#[]⟩, .int .i64 0, .int .i64 0, .bool false]).cells.size = 6 := rfl
  generalize cellsOf l = news at *
  generalize l.length = n at *
  clear hsrc
  have Hl2 := Lib.hid hl2
  clear hl2
  have hnil := @Lib.run_eql_slice_nil
  go_enter Tryd.func80, Tryd.ntmps80
  go_wp2_with (at_builtin; (refine wpList_append_own _ rfl _ _ 22 rfl w.heap.size 35 i0 _ 6 72 Tryd.underlying22 hi hz0 hz1 hz2 hz6 (by decide) _ 0 [] rfl hown a n cap news rfl Hl2.out hsrc' hone q1 q2 q3 ?_; intro v' w1 hown3 hgrow _))
  go_ret
  exact HM.out _ _ hown3 (((Below.refl _ _).alloc (Nat.le_refl _) _).grown hgrow q3 (own_ge hown))

theorem clone_nil (cap : Nat) (w : World) :
    Calls Tryd.prog 80 #[.slice none 0 cap] w (Made [] w) := by
  have HM : Hid (Made [] w (.returned (.slice none 0 0)) w) := Lib.hid ⟨_, rfl, ⟨rfl, .inl ⟨rfl, rfl⟩⟩, Below.refl _ _⟩
  have hnil := @Lib.run_eql_slice_nil
  go_enter Tryd.func80, Tryd.ntmps80
  go_wp2_with fail
  go_ret
  exact HM.out

theorem clone_any (v : Value) (l : List Fr) (w : World) (hl : l.length ≤ 200) (h : SlF w v l) : Calls Tryd.prog 80 #[v] w (Made l w) := by
  obtain ⟨p, cap, rfl, h1, h2, h3, h4⟩ := h
  cases p with
  | none =>
    rcases h4 with rfl | ⟨b, off, hp, _⟩
    · exact clone_nil cap w
    · cases hp
  | some a =>
    refine clone_some a cap l w hl fun i u hu => ?_
    rcases h4 with rfl | ⟨b, off, hp, hb, hc⟩
    · simp [cellsOf] at hu
    · cases hp
      rw [add_none]; exact hc.cells i u hu
end Go.Proofs.YtcdaalnjanncmaaDoor

namespace Go.Proofs.YtcdaalnjanncmaaDoor
open Go.RowKit

/-- The frames that stay. -/
def cutL (l : List Fr) (m : Nat) : List Fr := if l.length ≤ m then l else l.take ((m + 1) / 2) ++ l.drop (l.length - m / 2)

/-- A slice that the call has made, and a number and an error beside it. -/
def Made3 (l : List Fr) (n : Int) (w : World) (e : Ending) (w' : World) : Prop := ∃ v, e = .returned (.tuple #[v, .int .i64 n, .int .i64 0]) ∧ w'.ownsRow w.heap.size 35 6 v l.length (cellsOf l) ∧ Below w.heap.size w w'
def Made2 (l : List Fr) (n : Int) (w : World) (e : Ending) (w' : World) : Prop := ∃ v, e = .returned (.tuple #[v, .int .i64 n]) ∧ w'.ownsRow w.heap.size 35 6 v l.length (cellsOf l) ∧ Below w.heap.size w w'

set_option maxHeartbeats 1000000 in
set_option maxRecDepth 100000 in
theorem cut_bad (v : Value) (l : List Fr) (m : Int) (w : World) (h : SlF w v l) (he : frsErr l ≠ 0) :
    Calls Tryd.prog 55 #[v, .int .i64 m] w fun e w' => e = .returned (.tuple #[.slice none 0 0, .int .i64 0, .int .i64 (frsErr l)]) ∧ Below w.heap.size w w' := by
  have hq : (frsErr l != 0) = true := by simpa using he
  go_enter Tryd.func55, Tryd.ntmps55
  go_wp2_with (go_at_call 79; refine (checkFrames_any _ l _ h).mono ?_; rintro e w1 ⟨rfl, hb1⟩)
  go_ret3
  exact ⟨rfl, hb1⟩

theorem Made.on {l : List Fr} {w w1 w2 : World} {e : Ending} (h : Made l w1 e w2) (hb : Below w.heap.size w w1) : Made l w e w2 := by
  obtain ⟨v, he, ⟨h1, h2⟩, h3⟩ := h
  refine ⟨v, he, ⟨h1, ?_⟩, below_call hb hb.size h3⟩
  rcases h2 with h2 | ⟨g, cap, cur, a1, a2, a3⟩
  · exact .inl h2
  · exact .inr ⟨g, cap, cur, a1, Nat.le_trans hb.size a2, a3⟩

set_option maxHeartbeats 1000000 in
set_option maxRecDepth 100000 in
theorem cut_whole (v : Value) (l : List Fr) (m : Nat) (w : World) (h : SlF w v l) (he : frsErr l = 0) (hm : 1 ≤ m) (hm2 : m ≤ 200) (hl : l.length ≤ m) :
    Calls Tryd.prog 55 #[v, .int .i64 m] w (Made3 (cutL l m) 0 w) := by
  have HE := Lib.hid he
  have hl2 : l.length ≤ 200 := frsErr_zero he
  rw [show cutL l m = l by unfold cutL; rw [if_pos hl]]
  have HC := Lib.hid (fun (W : World) (hb : Below w.heap.size w W) => clone_any v l W hl2 (h.below (Nat.le_refl _) hb))
  have HK := Lib.hid (checkFrames_any v l w h)
  have HM := Lib.hid (fun (v' : Value) (w1 : World) (hh : Made l w (.returned v') w1) => (show Made3 l 0 w (.returned (.tuple #[v', .int .i64 0, .int .i64 0])) w1 by
    obtain ⟨u, hu, h1, h2⟩ := hh
    cases hu
    exact ⟨_, rfl, h1, h2⟩))
  clear he
  obtain ⟨p, cap, rfl, _⟩ := h
  go_enter Tryd.func55, Tryd.ntmps55
  go_wp2_with (first
    | (go_at_call 79; refine HK.out.mono ?_; rintro e w1 ⟨rfl, hb1⟩; rw [HE.out])
    | (go_at_call 80; refine (HC.out _ (by assumption)).mono ?_; rintro e w2 hmd; obtain ⟨u, rfl, hrow⟩ := id hmd; have HD := Lib.hid (hmd.on hb1); clear hmd hrow))
  go_ret3
  exact HM.out _ _ HD.out

end Go.Proofs.YtcdaalnjanncmaaDoor

/- What VersionOf answers, in the words of parse; what the law compares. -/
import Derived.Test.YtnpnoohnkbpokaaGreatDoorVerZ
import Derived.Test.YtnpnoohnkbpokaaGreatDoorVerQ
import Derived.Test.YtnpnoohnkbpokaaGreatDoorVerR
import Derived.Test.YtnpnoohnkbpokaaGreatDoorVerS
import Derived.Test.YtnpnoohnkbpokaaGreatDoorVerT
namespace Go.Proofs.YtnpnoohnkbpokaaGreatDoor
open Go.RowKit Go.Lib

theorem VOf_same (s : ByteArray) (w : World) (hs : s.size ≤ 1048576) (he : Env w) :
    Calls Tryz.prog 10 #[.string s] w fun e w' => ∃ v, e = .returned (.tuple #[v, .int .i64 (verErr s)]) ∧ VrV w' v (verOf s) ∧ Below w.heap.size w w' := by
  refine (VOf_any s w hs he).mono ?_
  rintro e w' ⟨v, n, x, rfl, hv, hy, hn, hb⟩
  obtain ⟨p1, p2⟩ := parse_V s
  cases hk : parseOk s
  · have hV : ¬ VOk s := fun k => by rw [p1.2 k] at hk; cases hk
    obtain ⟨rfl, rfl⟩ := hn hV
    refine ⟨v, ?_, ?_, hb⟩
    · unfold verErr; rw [hk]; rfl
    · unfold verOf; rw [hk]; exact hv.val
  · obtain ⟨rfl, rfl⟩ := hy (p1.1 hk)
    refine ⟨v, ?_, ?_, hb⟩
    · unfold verErr; rw [hk]; rfl
    · unfold verOf; rw [hk, if_pos rfl, p2 hk]; exact hv.val
theorem Parse_same (s : ByteArray) (w : World) (hs : s.size ≤ 1048576) (he : Env w) :
    Calls Tryz.prog 9 #[.string s] w fun e w' => ∃ v, e = .returned (.tuple #[v, .int .i64 (verErr s)]) ∧ VrV w' v (verOf s) ∧ Below w.heap.size w w' := by
  refine (Parse_any s w hs he).mono ?_
  rintro e w' ⟨v, rfl, hv, hb⟩
  exact ⟨v, rfl, hv.val, hb⟩
theorem txtOf_le (x : Vr) : (txtOf x).size ≤ 40 := by
  unfold txtOf
  split
  · rename_i h
    unfold txtErr at h
    split at h
    · cases h
    split at h
    · cases h
    split at h
    · cases h
    split at h
    · cases h
    split at h
    · cases h
    · omega
  · exact Nat.zero_le _
theorem txt_none (x : Vr) (h : txtErr x ≠ 0) : txtOf x = ⟨#[]⟩ := by
  unfold txtOf; rw [if_neg h]
end Go.Proofs.YtnpnoohnkbpokaaGreatDoor

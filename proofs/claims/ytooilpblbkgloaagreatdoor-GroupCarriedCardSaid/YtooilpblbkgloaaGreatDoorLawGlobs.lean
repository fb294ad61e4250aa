/- The law GroupGlobs, walked. -/
import Derived.Test.YtooilpblbkgloaaGreatDoorPlainC
namespace Go.Proofs.YtooilpblbkgloaaGreatDoor
open Go.RowKit Go.Lib

set_option maxHeartbeats 1000000 in
set_option maxRecDepth 100000 in
theorem awake_any (w : World) : Calls Tryz.prog 8 #[] w fun e w' => e = .returned (.bool true) ∧ Below w.heap.size w w' := by
  have HP := Lib.hid (plain_any ⟨#[49]⟩ w (by decide))
  rw [show bs (pl (⟨#[49]⟩ : ByteArray).data.toList) = ⟨#[60, 110, 62]⟩ by decide] at HP
  go_enter Tryz.func8, Tryz.ntmps8
  go_wp2_with (go_at_call 20; refine HP.out.mono ?_; rintro e w1 ⟨rfl, hb1⟩)
  go_ret
  exact ⟨rfl, hb1⟩

theorem app_data (a b : ByteArray) : (a ++ b).data.toList = a.data.toList ++ b.data.toList := by simp
/-- No sign among the first ones. -/
def NoSign (l : List UInt8) (k : Nat) : Prop := ∀ c ∈ l.take k, c ≠ 42 ∧ c ≠ 63
theorem NoSign.next {l : List UInt8} {k : Nat} (h : NoSign l k) (hk : k < l.length) (h1 : l[k] ≠ 42) (h2 : l[k] ≠ 63) : NoSign l (k + 1) := by
  intro c hc
  rw [List.take_succ_eq_append_getElem hk, List.mem_append] at hc
  rcases hc with hc | hc
  · exact h c hc
  · simp at hc; subst hc; exact ⟨h1, h2⟩
theorem star_size : (⟨#[42]⟩ : ByteArray).size = 1 := rfl

end Go.Proofs.YtooilpblbkgloaaGreatDoor

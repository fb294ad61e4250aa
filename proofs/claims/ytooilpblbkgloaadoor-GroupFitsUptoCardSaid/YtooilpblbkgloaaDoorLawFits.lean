/- The law GroupFits, walked. -/
import Derived.Test.YtooilpblbkgloaaDoorFitsR
import Derived.Test.YtooilpblbkgloaaDoorPlainC
import Derived.Test.YtooilpblbkgloaaDoorPlainedP
namespace Go.Proofs.YtooilpblbkgloaaDoor
open Go.RowKit Go.Lib

set_option maxHeartbeats 1000000 in
set_option maxRecDepth 100000 in
theorem fits_law (g s : ByteArray) (w : World) (hg : g.size ≤ 1048576) (hs : s.size ≤ 1048576) :
    Calls Tryd.prog 3 #[.string g, .string s] w fun e w' => e = .returned (.bool true) ∧ Below w.heap.size w w' := by
  have H6 := Lib.hid (fun W => fits_any g s W (by omega) (by omega))
  have H7 := Lib.hid (fun W => fitsIn_any g s W (by omega))
  have H8 := Lib.hid (fun W => plain_any s W (by omega))
  have H9 := Lib.hid (fun W => plained_any s W (by omega))
  generalize fitsB g.data.toList s.data.toList = b at *
  generalize bs (pl s.data.toList) = r at *
  cases b
  all_goals
    go_enter Tryd.func3, Tryd.ntmps3
    go_wp2_with (first
      | (go_at_call 6; refine (H6.out _).mono ?_; rintro e w1 ⟨rfl, hb1⟩)
      | (go_at_call 7; refine (H7.out _).mono ?_; rintro e w2 ⟨rfl, hb2⟩)
      | (go_at_call 8; refine (H8.out _).mono ?_; rintro e w3 ⟨rfl, hb3⟩)
      | (go_at_call 9; refine (H9.out _).mono ?_; rintro e w4 ⟨rfl, hb4⟩))
    go_ret
    have b2 := hb1.trans (hb2.mono hb1.size)
    have b3 := b2.trans (hb3.mono b2.size)
    exact ⟨rfl, b3.trans (hb4.mono b3.size)⟩
end Go.Proofs.YtooilpblbkgloaaDoor

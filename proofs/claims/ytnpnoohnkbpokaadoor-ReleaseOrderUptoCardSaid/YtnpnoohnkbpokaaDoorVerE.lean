/- What parse answers. -/
import Derived.Test.YtnpnoohnkbpokaaDoorVerD
import Derived.Deep.CutRange
namespace Go.Proofs.YtnpnoohnkbpokaaDoor
open Go.RowKit Go.Lib

theorem bx5_new (w : World) (v0 v1 v2 v3 v4 : Value) (t : TypeId) : Bx5 (w.alloc (.cells #[v0, v1, v2, v3, v4] t)) w.heap.size v0 v1 v2 v3 v4 := by
  constructor <;> go_simp
theorem bx1_new (w : World) (v : Value) (t : TypeId) : Bx1 (w.alloc (.cells #[v] t)) w.heap.size v := by
  constructor <;> go_simp
theorem results_vr {fn : Func} {p q : Tmp} {v0 v1 v2 v3 v4 u : Value} (h : fn.results = #[.cell p 43, .tmp q]) (tmps : Array Value) (w : World) (g : Nat) (hp : tmps.getD p undef = .pointer (some ⟨g, 0, none⟩)) (hq : tmps.getD q undef = u) (hb : Bx5 w g v0 v1 v2 v3 v4) :
    (results fn tmps).run Tryd.prog w = .ok (.tuple #[.agg #[v0, v1, v2, v3, v4], u]) w := by
  obtain ⟨c0, c1, c2, c3, c4, _⟩ := hb
  have hp' : tmps[p]?.getD undef = .pointer (some ⟨g, 0, none⟩) := by simpa using hp
  have hq' : tmps[q]?.getD undef = u := by simpa using hq
  simp [results, h, hp', hq', asAddr, loadVar]
  go_simp

def splitL (s : ByteArray) (c : UInt8) : List ByteArray := Lib.splitB ⟨#[c]⟩ 0 (Lib.countB s ⟨#[c]⟩) s
def vrOk (J M MI PA : ByteArray) (P : List ByteArray) : Bool := (numOk 6 M.data.toList && numOk 6 MI.data.toList && numOk 6 PA.data.toList) && (projB J.data.toList && (decide (P.length ≤ 5) && !anyBad P))

theorem splitB_sizes (sep : ByteArray) : ∀ (k : Nat) (s : ByteArray), ∀ x ∈ Lib.splitB sep 0 k s, x.size ≤ s.size
  | 0, s, x, h => by simp [Lib.splitB] at h; subst h; exact Nat.le_refl _
  | k + 1, s, x, h => by
    unfold Lib.splitB at h
    split at h
    · simp at h; subst h; exact Nat.le_refl _
    · rw [List.mem_cons] at h
      rcases h with rfl | h
      · rw [ByteArray.size_extract]; omega
      · have := splitB_sizes sep k _ x h
        rw [ByteArray.size_extract] at this; omega
theorem one_le (c : UInt8) : 1 ≤ (⟨#[c]⟩ : ByteArray).size := Nat.le_refl 1
theorem heap_new (w : World) (o : Obj) : (w.alloc o).heap[w.heap.size]? = some o := by
  have : (w.alloc o).heap = w.heap.push o := rfl
  rw [this]; simp
theorem split_any (s : ByteArray) (c : UInt8) (w : World) (hs : s.size ≤ 1048576) (he : Env w) :
    Calls Tryd.prog 49 #[.string s, .string ⟨#[c]⟩] w fun e w' => ∃ g n, e = .returned (.slice (some ⟨g, 0, none⟩) n n) ∧ n = (splitL s c).length ∧ SlG encS 1 fitP w' (.slice (some ⟨g, 0, none⟩) n n) (splitL s c) ∧ w.heap.size ≤ g ∧ Below w.heap.size w w' := by
  obtain ⟨⟨m, hm⟩, _⟩ := he
  refine (Tryd.strings_Split s ⟨#[c]⟩ m w (by omega) hm (one_le c)).mono ?_
  rintro e w' ⟨rfl, rfl⟩
  have hl : (splitL s c).length = Lib.countB s ⟨#[c]⟩ + 1 := Lib.splitB_all ⟨#[c]⟩ (one_le c) 0 _ s rfl
  have hc := Lib.countB_le ⟨#[c]⟩ (one_le c) s.size s (Nat.le_refl _)
  refine ⟨w.heap.size, Lib.countB s ⟨#[c]⟩ + 1, rfl, hl.symm, ?_, Nat.le_refl _, (Below.refl _ _).alloc (Nat.le_refl _) _⟩
  refine ⟨_, _, by rw [hl], by omega, by unfold maxLen; omega, fun x hx => ?_, Or.inr ⟨w.heap.size, 0, rfl, by simp, fun i hi j hj => ?_⟩⟩
  · have := splitB_sizes _ _ _ x hx; unfold fitP; omega
  · obtain rfl : j = 0 := by omega
    have hi' : i < (Lib.splitB ⟨#[c]⟩ 0 (Lib.countB s ⟨#[c]⟩) s).length := hi
    have e := heap_new w (.cells ((Lib.splitB ⟨#[c]⟩ 0 (Lib.countB s ⟨#[c]⟩) s).map Value.string).toArray 9)
    simp only [World.cell?, e, Nat.zero_add, Nat.mul_one, Nat.add_zero]
    simp [encS, splitL, hi']

theorem cut_any (s : ByteArray) (c : UInt8) (w : World) (hs : s.size ≤ 1048576) (he : Env w) :
    Calls Tryd.prog 48 #[.string s, .string ⟨#[c]⟩] w fun e w' => e = .returned (.tuple #[.string (bs (Lib.cut s.data.toList [c]).1), .string (bs (Lib.cut s.data.toList [c]).2.1), .bool (Lib.cut s.data.toList [c]).2.2]) ∧ Below w.heap.size w w' := by
  obtain ⟨⟨m, hm⟩, _⟩ := he
  refine (Tryd.strings_Cut s ⟨#[c]⟩ m w (by omega) hm).mono ?_
  rintro e w' ⟨rfl, n, rfl⟩
  exact ⟨rfl, below_drewE (Below.refl _ _) n⟩
theorem cut_sizes (l : List UInt8) (c : UInt8) : (Lib.cut l [c]).1.length ≤ l.length ∧ (Lib.cut l [c]).2.1.length ≤ l.length := by
  unfold Lib.cut
  split <;> simp <;> omega
end Go.Proofs.YtnpnoohnkbpokaaDoor

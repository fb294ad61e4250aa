/- awakeStack: Write of one fault without frames. -/
import Derived.Test.YtkenckolkpgebaaGreatDoorBuilder
import Derived.Test.YtkenckolkpgebaaGreatDoorFaults
import Derived.Test.YtkenckolkpgebaaGreatDoorPairs
import Derived.Laws.EntriesVeiled
namespace Go.Proofs.YtkenckolkpgebaaGreatDoor
open Go.RowKit

set_option maxHeartbeats 1000000 in
set_option maxRecDepth 100000 in
theorem writeLine_any (B b : Nat) (bs : List Value) (m s : ByteArray) (w : World) (h : Lib.IsBuilder 56 5 B b bs w) (hlen : bs.length + m.size + s.size + 1 ≤ 140737488355328) (hBw : B ≤ w.heap.size) :
    Calls Tryz.prog 35 #[.pointer (some ⟨b, 0, none⟩), .string m, .string s] w fun e w' => e = .returned (.tuple #[]) ∧ (Lib.BuilderAt 56 5 B b (.pointer (some ⟨b, 0, none⟩)) (bs ++ Lib.strCells m ++ Lib.strCells s ++ [.int .u8 10]) w' ∧ Below B w w' ∧ Lib.OthersKept 5 (some b) w w') := by
  go_enter Tryz.func35, Tryz.ntmps35
  go_wp2_with (go_at_call 33; refine (writeString_any B b bs m _ h (by omega) hBw).mono ?_)
  rintro e w1 ⟨rfl, h1, b1, k1⟩
  have s1 := b1.size
  go_wp2_with (go_at_call 33; refine (writeString_any B b _ s _ (.inr h1) (by simp [Lib.strCells_length]; omega) (by omega)).mono ?_)
  rintro e w2 ⟨rfl, h2, b2, k2⟩
  have s2 := b2.size
  go_wp2_with (go_at_call 55; refine (writeByte_any B b _ 10 _ (.inr h2) (by simp [Lib.strCells_length]; omega) (by omega)).mono ?_)
  rintro e w3 ⟨rfl, h3, b3, k3⟩
  go_wp2
  go_end0
  exact ⟨rfl, h3, b1.trans (b2.trans b3), k1.trans (k2.trans k3)⟩

set_option maxHeartbeats 1000000 in
set_option maxRecDepth 100000 in
theorem headK (w : World) :
    Calls Tryz.prog 36 #[.agg #[.string ⟨#[75]⟩, .string ⟨#[]⟩, .slice none 0 0]] w fun e w' => e = .returned (.string ⟨#[75, 58]⟩) ∧ Below w.heap.size w w' := by
  go_enter Tryz.func36, Tryz.ntmps36
  go_wp2
  go_ret
  exact ⟨rfl, (Below.refl _ _).alloc (Nat.le_refl _) _⟩

set_option maxHeartbeats 1000000 in
set_option maxRecDepth 100000 in
theorem framesIndexK (w : World) :
    Calls Tryz.prog 51 #[.slice none 0 0, .func (.func 28) #[] #[]] w fun e w' => e = .returned (.int .i64 (-1)) ∧ Below w.heap.size w w' := by
  go_enter Tryz.func51, Tryz.ntmps51
  go_wp2_with fail
  go_loop [8] (fun v => v = .int .i64 0) (fun _ => 0)
  case atStart => rfl
  case round =>
    subst hrel
    go_wp2_with fail
    go_ret
    exact ⟨rfl, Below.refl _ _⟩

set_option maxHeartbeats 1000000 in
set_option maxRecDepth 100000 in
theorem framesContK (w : World) :
    Calls Tryz.prog 27 #[.slice none 0 0, .func (.func 28) #[] #[]] w fun e w' => e = .returned (.bool false) ∧ Below w.heap.size w w' := by
  go_enter Tryz.func27, Tryz.ntmps27
  go_wp2_with (go_at_call 51; refine (framesIndexK _).mono ?_; rintro e w' ⟨rfl, hb⟩)
  go_ret
  exact ⟨rfl, hb⟩

set_option maxHeartbeats 1000000 in
set_option maxRecDepth 100000 in
theorem ambK (w : World) :
    Calls Tryz.prog 14 #[.agg #[.string ⟨#[75]⟩, .string ⟨#[]⟩, .slice none 0 0]] w fun e w' => e = .returned (.bool false) ∧ Below w.heap.size w w' := by
  go_enter Tryz.func14, Tryz.ntmps14
  go_wp2_with (go_at_call 27; refine (framesContK _).mono ?_; rintro e w' ⟨rfl, hb⟩)
  go_ret
  exact ⟨rfl, below_a1 (Below.refl _ _) (Nat.le_refl _) hb⟩

set_option maxHeartbeats 1000000 in
set_option maxRecDepth 100000 in
theorem indexK (b c : Nat) (w : World) (hb : b < w.heap.size) (c0 : w.cell? ⟨b, 0, none⟩ = some (.string ⟨#[75]⟩)) (c1 : w.cell? ⟨b, 1, none⟩ = some (.string ⟨#[]⟩)) (c2 : w.cell? ⟨b, 2, none⟩ = some (.slice none 0 0)) :
    Calls Tryz.prog 26 #[.slice (some ⟨b, 0, none⟩) 1 c, .func (.func 14) #[] #[]] w fun e w' => e = .returned (.int .i64 (-1)) ∧ Below w.heap.size w w' := by
  go_enter Tryz.func26, Tryz.ntmps26
  go_wp2_with fail
  go_loopw [8] (fun v wr => ∃ k : Nat, k ≤ 1 ∧ v = .int .i64 k ∧ Below w.heap.size w wr) (fun v _ => 1 - (intOf v).toNat)
  case atStart => exact ⟨0, Nat.zero_le _, rfl, Below.refl _ _⟩
  case round =>
    obtain ⟨k, hk, rfl, hbw⟩ := hrel
    obtain rfl | rfl : k = 0 ∨ k = 1 := by omega
    · have d0 : wr.cell? ⟨b, 0, none⟩ = some (.string ⟨#[75]⟩) := (hbw.cell (p := ⟨b, _, none⟩) hb).trans c0
      have d1 : wr.cell? ⟨b, 1, none⟩ = some (.string ⟨#[]⟩) := (hbw.cell (p := ⟨b, _, none⟩) hb).trans c1
      have d2 : wr.cell? ⟨b, 2, none⟩ = some (.slice none 0 0) := (hbw.cell (p := ⟨b, _, none⟩) hb).trans c2
      go_wp2_with (go_at_call 14; refine (ambK _).mono ?_; rintro e w' ⟨rfl, hb1⟩)
      case roundEnd => exact ⟨⟨1, by omega, rfl, below_call hbw hbw.size hb1⟩, by simp [intOf]⟩
    · go_wp2_with fail
      go_ret
      exact ⟨rfl, hbw⟩

set_option maxHeartbeats 1000000 in
set_option maxRecDepth 100000 in
theorem formatK (w : World) :
    Calls Tryz.prog 12 #[.int .i64 1] w fun e w' => e = .returned (.tuple #[.agg #[.func (.func 20) #[] #[], .func (.func 21) #[] #[]], .bool true]) ∧ Below w.heap.size w w' := by
  go_enter Tryz.func12, Tryz.ntmps12
  go_wp2
  (try simp only [Exit.inBlock, Exit.then])
  refine bodyPost_ret (by simp [results, Tryz.results12, go_sem]; try rfl) rfl ?_
  exact ⟨rfl, ((Below.refl _ _).alloc (Nat.le_refl _) _).alloc (by simp) _⟩

theorem contK (b c : Nat) (w : World) (hb : b < w.heap.size) (c0 : w.cell? ⟨b, 0, none⟩ = some (.string ⟨#[75]⟩)) (c1 : w.cell? ⟨b, 1, none⟩ = some (.string ⟨#[]⟩)) (c2 : w.cell? ⟨b, 2, none⟩ = some (.slice none 0 0)) :
    Calls Tryz.prog 13 #[.slice (some ⟨b, 0, none⟩) 1 c, .func (.func 14) #[] #[]] w fun e w' => e = .returned (.bool false) ∧ Below w.heap.size w w' := by
  go_enter Tryz.func13, Tryz.ntmps13
  go_wp2_with (go_at_call 26; refine (indexK b c _ hb c0 c1 c2).mono ?_; rintro e w' ⟨rfl, hb⟩)
  go_ret
  exact ⟨rfl, by assumption⟩

theorem bAt_keeps {T e : TypeId} {B b : Nat} {p : Value} {bs : List Value} {w w' : World} (h : Lib.BuilderAt T e B b p bs w) (hb : Below w.heap.size w w') : Lib.BuilderAt T e B b p bs w' := by
  have hlt := h.lt
  obtain ⟨hB, v, hk, hown, hne⟩ := h
  exact ⟨hB, v, (hb.block b hlt).trans hk, own_keeps hown hb, hne⟩
theorem isB_keeps {T e : TypeId} {B b : Nat} {bs : List Value} {w w' : World} (h : Lib.IsBuilder T e B b bs w) (hb : Below w.heap.size w w') : Lib.IsBuilder T e B b bs w' :=
  h.imp (bAt_keeps · hb) (bAt_keeps · hb)

set_option maxHeartbeats 1000000 in
set_option maxRecDepth 100000 in
theorem innerK (B a c b : Nat) (w : World) (h : Lib.IsBuilder 56 5 B b [] w) (hBw : B ≤ w.heap.size) (c0 : w.cell? ⟨a, 0, none⟩ = some (.string ⟨#[75]⟩)) (c1 : w.cell? ⟨a, 1, none⟩ = some (.string ⟨#[]⟩)) (c2 : w.cell? ⟨a, 2, none⟩ = some (.slice none 0 0)) :
    Calls Tryz.prog 20 #[.pointer (some ⟨b, 0, none⟩), .slice (some ⟨a, 0, none⟩) 1 c] w fun e w' => e = .returned (.tuple #[]) ∧ Lib.IsBuilder 56 5 B b (Lib.byteCells [75, 58, 10]) w' ∧ Below B w w' := by
  go_enter Tryz.func20, Tryz.ntmps20
  go_wp2_with fail
  go_loopw [11] (fun v wr => (v = .int .i64 0 ∧ wr = w) ∨ (v = .int .i64 1 ∧ Lib.IsBuilder 56 5 B b (Lib.byteCells [75, 58, 10]) wr ∧ Below B w wr)) (fun v _ => 1 - (intOf v).toNat)
  case atStart => exact .inl ⟨rfl, rfl⟩
  case round =>
    rcases hrel with ⟨rfl, rfl⟩ | ⟨rfl, h1, b1⟩
    · go_wp2_with (first | (go_at_call 36; refine (headK _).mono ?_; rintro e w2 ⟨rfl, hb2⟩))
      have hk2 := below_a1 (Below.refl wr.heap.size wr) (Nat.le_refl _) hb2
      have hz2 := hk2.size
      refine (writeLine_any B b [] _ _ _ (isB_keeps h hk2) (by decide) (by omega)).mono ?_
      rintro e w3 ⟨rfl, h3, b3, k3⟩
      have hlb : b < wr.heap.size := by rcases h with h | h <;> exact h.lt
      have g0 : w2.heap[wr.heap.size]? = some (.cells #[.string ⟨#[75]⟩, .string ⟨#[]⟩, .slice none 0 0] 37 (0, 0)) := by
        rw [hb2.block _ (by simp)]
        show (wr.heap.push _)[wr.heap.size]? = _
        exact Array.getElem?_push_size
      have g3 : w3.heap[wr.heap.size]? = some (.cells #[.string ⟨#[75]⟩, .string ⟨#[]⟩, .slice none 0 0] 37 (0, 0)) :=
        k3 _ _ g0 (by simp; omega) (by simp)
      have d0 : w3.cell? ⟨wr.heap.size, 0, none⟩ = some (.string ⟨#[75]⟩) := by rw [Lib.cell_of_heap g3]; rfl
      have d1 : w3.cell? ⟨wr.heap.size, 1, none⟩ = some (.string ⟨#[]⟩) := by rw [Lib.cell_of_heap g3]; rfl
      have d2 : w3.cell? ⟨wr.heap.size, 2, none⟩ = some (.slice none 0 0) := by rw [Lib.cell_of_heap g3]; rfl
      clear g0 g3
      go_wp2_with fail
      go_loop [44] (fun v => v = .int .i64 0) (fun _ => 0)
      case atStart => rfl
      subst hrel
      go_wp2_with fail
      exact ⟨.inr ⟨rfl, .inr h3, (hk2.mono hBw).trans b3⟩, by simp [intOf]⟩
    · go_wp2_with fail
      go_end0
      exact ⟨rfl, h1, b1⟩

def faK : Fa := ⟨⟨#[75]⟩, ⟨#[]⟩, .slice none 0 0, []⟩

set_option maxHeartbeats 1000000 in
set_option maxRecDepth 100000 in
theorem writeK (a : Nat) (w : World) (ha : a < w.heap.size) (c0 : w.cell? ⟨a, 0, none⟩ = some (.string ⟨#[75]⟩)) (c1 : w.cell? ⟨a, 1, none⟩ = some (.string ⟨#[]⟩)) (c2 : w.cell? ⟨a, 2, none⟩ = some (.slice none 0 0)) :
    Calls Tryz.prog 7 #[.slice (some ⟨a, 0, none⟩) 1 1, .int .i64 1] w fun e w' => e = .returned (.tuple #[.string ⟨#[75, 58, 10]⟩, .int .i64 0]) ∧ Below w.heap.size w w' := by
  have hA : SlA w (.slice (some ⟨a, 0, none⟩) 1 1) [faK] := by
    refine ⟨some ⟨a, 0, none⟩, 1, rfl, Nat.le_refl _, by unfold maxLen; omega, ?_, .inr ⟨a, 0, rfl, ha, ?_⟩⟩
    · intro x hx
      simp only [List.mem_singleton] at hx
      subst hx
      exact ⟨by decide, by decide, none, 0, rfl, Nat.le_refl _, by decide, (by intro x hx; cases hx), .inl rfl⟩
    · intro k hk
      simp only [List.length_singleton] at hk
      obtain rfl : k = 0 := by omega
      exact ⟨c0, c1, c2⟩
  have hE : fasErr [faK] = 0 := by decide
  go_enter Tryz.func7, Tryz.ntmps7
  have HC := Lib.hid (fun (w' : World) (hb : Below w.heap.size w w') => contK a 1 w' (by have := hb.size; omega) ((hb.cell (p := ⟨a, _, none⟩) ha).trans c0) ((hb.cell (p := ⟨a, _, none⟩) ha).trans c1) ((hb.cell (p := ⟨a, _, none⟩) ha).trans c2))
  have HI := Lib.hid (fun (w' : World) (hb : Below w.heap.size w w') (b : Nat) (h : Lib.IsBuilder 56 5 b b [] w') (hb2 : b ≤ w'.heap.size) => innerK b a 1 b w' h hb2 ((hb.cell (p := ⟨a, _, none⟩) ha).trans c0) ((hb.cell (p := ⟨a, _, none⟩) ha).trans c1) ((hb.cell (p := ⟨a, _, none⟩) ha).trans c2))
  go_wp2_with (first
    | (go_at_call 11; refine (check_any _ _ _ hA).mono ?_; rw [hE]; rintro e w1 ⟨rfl, hb1⟩)
    | (go_at_call 12; refine (formatK _).mono ?_; rintro e w2 ⟨rfl, hb2⟩))
  have hs1 := hb1.size
  have hs2 := hb2.size
  have hb3 : Below w.heap.size w w2 := below_call hb1 hs1 hb2
  refine (HC.out _ (hb3.alloc (by omega) _)).mono ?_
  rintro e w3 ⟨rfl, hb4⟩
  have hb5 := below_a1 hb3 (by omega) hb4
  have f0 : w3.cell? ⟨w2.heap.size, 0, none⟩ = some (.func (.func 20) #[] #[]) := by
    rw [hb4.cell (p := ⟨w2.heap.size, 0, none⟩) (by simp)]
    simp
  have f1 : w3.cell? ⟨w2.heap.size, 1, none⟩ = some (.func (.func 21) #[] #[]) := by
    rw [hb4.cell (p := ⟨w2.heap.size, 1, none⟩) (by simp)]
    simp
  have hlt3 : w2.heap.size < w3.heap.size := by have := hb4.size; simp at this; omega
  go_wp2_with fail
  have hs5 := hb5.size
  refine (HI.out _ (hb5.alloc hs5 _) w3.heap.size (Lib.fresh_isBuilder 56 5 w3) (by simp)).mono ?_
  rintro e w4 ⟨rfl, h4, b4⟩
  have b5 : Below w3.heap.size w3 w4 := ((Below.refl _ w3).alloc (Nat.le_refl _) _).trans b4
  have hs4 := b5.size
  go_wp2_with (first
    | (go_at_call 15; refine (Tryz.Builder_Len w3.heap.size w3.heap.size _ _ h4).mono ?_; rintro e w5 ⟨rfl, rfl⟩)
    | (go_at_call 16; refine (Tryz.Builder_String w3.heap.size w3.heap.size [75, 58, 10] _ h4 (by simp)).mono ?_; rintro e w6 ⟨rfl, b6⟩))
  go_ret2
  exact ⟨rfl, hb5.trans ((b5.trans b6).mono hs5)⟩

set_option maxHeartbeats 1000000 in
set_option maxRecDepth 100000 in
/-- awakeStack answers true, in whatever world. -/
theorem awake_any (w : World) : Calls Tryz.prog 4 #[] w fun e w' => e = .returned (.bool true) ∧ Below w.heap.size w w' := by
  go_enter Tryz.func4, Tryz.ntmps4
  go_wp2_with (first
    | (go_at_call 7; refine (writeK w.heap.size _ (by simp) (by simp) (by simp) (by simp)).mono ?_; rintro e w1 ⟨rfl, hb1⟩))
  go_ret
  exact ⟨rfl, below_a1 (Below.refl _ _) (Nat.le_refl _) hb1⟩
end Go.Proofs.YtkenckolkpgebaaGreatDoor

/- Lines of a trace: writeLine, and the form of pairs. -/
import Derived.Test.YtmoofdcoodaaiaaGreatDoorWrA
import Derived.Lib.AppendStr
import Derived.Lib.UnsafeStr
namespace Go.Proofs.YtmoofdcoodaaiaaGreatDoor
open Go.RowKit Go.Lib

theorem grownBy_of_below {w w' : World} (h : Below w.heap.size w w') : w.grownBy w' none :=
  ⟨h.os, h.tape, h.output, h.size, fun k hk _ => h.block k hk⟩
theorem bAt_keeps {T e : TypeId} {B b : Nat} {p : Value} {bs : List Value} {w w' : World} (h : Lib.BuilderAt T e B b p bs w) (hb : Below w.heap.size w w') : Lib.BuilderAt T e B b p bs w' := by
  have hlt := h.lt
  obtain ⟨hB, v, hk, hown, hne⟩ := h
  refine ⟨hB, v, (hb.block b hlt).trans hk, ?_, hne⟩
  refine hown.kept (grownBy_of_below hb) ?_
  rcases hown.2 with ⟨rfl, _⟩ | ⟨g, cap, cur, rfl, _⟩
  · exact .inl rfl
  · exact .inr (by simp [Value.ownBlock])
theorem isB_keeps {T e : TypeId} {B b : Nat} {bs : List Value} {w w' : World} (h : Lib.IsBuilder T e B b bs w) (hb : Below w.heap.size w w') : Lib.IsBuilder T e B b bs w' :=
  h.imp (bAt_keeps · hb) (bAt_keeps · hb)
theorem isB_lt {T e : TypeId} {B b : Nat} {bs : List Value} {w : World} (h : Lib.IsBuilder T e B b bs w) : b < w.heap.size := by
  rcases h with h | h <;> exact h.lt

/-- A block of cells. -/
def Bk (w : World) (k : Nat) (cs : Array Value) (t : TypeId) : Prop := w.heap[k]? = some (.cells cs t (0, 0))
theorem Bk.new (w : World) (cs : Array Value) (t : TypeId) : Bk (w.alloc (.cells cs t)) w.heap.size cs t := by
  show (w.heap.push _)[w.heap.size]? = _
  exact Array.getElem?_push_size
theorem Bk.lt {w : World} {k : Nat} {cs : Array Value} {t : TypeId} (h : Bk w k cs t) : k < w.heap.size := (Array.getElem?_eq_some_iff.1 h).1
theorem Bk.below {w w' : World} {k : Nat} {cs : Array Value} {t : TypeId} (h : Bk w k cs t) (hb : Below w.heap.size w w') : Bk w' k cs t := (hb.block k h.lt).trans h
theorem Bk.kept {w w' : World} {k b : Nat} {cs : Array Value} {t : TypeId} (h : Bk w k cs t) (hk : Lib.OthersKept 5 (some b) w w') (hne : k ≠ b) (ht : t ≠ 5) : Bk w' k cs t :=
  hk k _ h (by simpa using hne) (fun c fz e => ht (by cases e; rfl))
theorem Bk.cell {w : World} {k : Nat} {cs : Array Value} {t : TypeId} (h : Bk w k cs t) (j : Nat) : w.cell? ⟨k, j, none⟩ = cs[j]? := by
  rw [Lib.cell_of_heap h]

def lnL (m s : List UInt8) : List UInt8 := m ++ (s ++ [10])

set_option maxHeartbeats 1000000 in
set_option maxRecDepth 100000 in
theorem line_any (B b : Nat) (L : List UInt8) (m s : ByteArray) (w : World) (h : Lib.IsBuilder 49 5 B b (Lib.byteCells L) w) (hlen : L.length + m.size + s.size + 1 ≤ 140737488355328) (hBw : B ≤ w.heap.size) :
    Calls Tryz.prog 50 #[.pointer (some ⟨b, 0, none⟩), .string m, .string s] w fun e w' => e = .returned (.tuple #[]) ∧ (Lib.IsBuilder 49 5 B b (Lib.byteCells (L ++ lnL m.data.toList s.data.toList)) w' ∧ Below B w w' ∧ Lib.OthersKept 5 (some b) w w') := by
  have hl : (Lib.byteCells L).length = L.length := Lib.byteCells_length L
  go_enter Tryz.func50, Tryz.ntmps50
  go_wp2_with (go_at_call 44; refine (writeString_any B b (Lib.byteCells L) m _ h (by omega) hBw).mono ?_)
  rintro e w1 ⟨rfl, h1, b1, k1⟩
  have s1 := b1.size
  go_wp2_with (go_at_call 44; refine (writeString_any B b _ s _ (.inr h1) (by rw [List.length_append, Lib.strCells_length]; omega) (by omega)).mono ?_)
  rintro e w2 ⟨rfl, h2, b2, k2⟩
  have s2 := b2.size
  go_wp2_with (go_at_call 73; refine (writeByte_any B b _ 10 _ (.inr h2) (by rw [List.length_append, List.length_append, Lib.strCells_length, Lib.strCells_length]; omega) (by omega)).mono ?_)
  rintro e w3 ⟨rfl, h3, b3, k3⟩
  go_wp2
  go_end0
  refine ⟨rfl, ?_, b1.trans (b2.trans b3), k1.trans (k2.trans k3)⟩
  have e1 : Lib.byteCells (L ++ lnL m.data.toList s.data.toList) = Lib.byteCells L ++ Lib.strCells m ++ Lib.strCells s ++ [.int .u8 10] := by
    unfold lnL
    rw [Lib.byteCells_append, Lib.byteCells_append, Lib.byteCells_append, Lib.strCells_eq, Lib.strCells_eq]
    simp [Lib.byteCells]
  rw [e1]
  exact .inr h3

/-- A right fault: what is so of its parts. -/
structure FaOk (x : Fa) : Prop where
  k : x.kind.size ≤ 200
  t : x.text.size ≤ 2000
  n : x.fr.length ≤ 200
  f : ∀ y ∈ x.fr, FrOk y
theorem firstErr_zero {α : Type} {f : α → Int} : ∀ {l : List α}, firstErr f l = 0 → ∀ x ∈ l, f x = 0
  | [], _, x, hx => by cases hx
  | a :: l, h, x, hx => by
    rw [firstErr] at h
    by_cases ha : f a = 0
    · rw [if_neg (by omega)] at h
      rcases List.mem_cons.1 hx with rfl | hx
      · exact ha
      · exact firstErr_zero h x hx
    · rw [if_pos ha] at h; exact absurd h ha
theorem own_keeps {w w' : World} {base : Nat} {e : TypeId} {size : Nat} {v : Value} {n : Nat} {xs : List Value} (h : w.ownsRow base e size v n xs) (hb : Below w.heap.size w w') : w'.ownsRow base e size v n xs := by
  obtain ⟨h1, h2⟩ := h
  refine ⟨h1, ?_⟩
  rcases h2 with h2 | ⟨g, cap, cur, hv, hg, hc, r⟩
  · exact Or.inl h2
  · exact Or.inr ⟨g, cap, cur, hv, hg, (hb.block _ (Array.getElem?_eq_some_iff.1 hc).1).trans hc, r⟩
theorem frsErr1_zero : ∀ {l : List Fr}, frsErr1 l = 0 → ∀ x ∈ l, frErr x = 0
  | [], _, x, hx => by cases hx
  | a :: l, h, x, hx => by
    rw [frsErr1] at h
    by_cases ha : frErr a = 0
    · rw [if_neg (by omega)] at h
      rcases List.mem_cons.1 hx with rfl | hx
      · exact ha
      · exact frsErr1_zero h x hx
    · rw [if_pos ha] at h; exact absurd h ha
theorem faOk_of {x : Fa} (h : x.err = 0) : FaOk x := by
  unfold Fa.err faErr at h
  split at h
  · cases h
  split at h
  · cases h
  split at h
  · cases h
  split at h
  · cases h
  split at h
  · cases h
  rename_i h1 h2 h3 h4 h5
  unfold frsErr at h
  split at h
  · cases h
  rename_i h6
  exact ⟨by omega, by omega, by omega, fun y hy => frOk_of (frsErr1_zero h y hy)⟩
theorem fas_ok {l : List Fa} (h : fasErr l = 0) : l.length ≤ 10 ∧ ∀ x ∈ l, FaOk x := by
  unfold fasErr at h
  split at h
  · cases h
  split at h
  · cases h
  exact ⟨by omega, fun x hx => faOk_of (firstErr_zero h x hx)⟩
def d (s : ByteArray) : List UInt8 := s.data.toList
theorem d_len (s : ByteArray) : (d s).length = s.size := (Lib.size_eq s).symm
theorem headB_len {k t : ByteArray} (hk : k.size ≤ 200) (ht : t.size ≤ 2000) : (headB k t).size ≤ 2202 := by
  have hz1 : (⟨#[58]⟩ : ByteArray).size = 1 := rfl
  have hz2 : (⟨#[58, 32]⟩ : ByteArray).size = 2 := rfl
  unfold headB; split <;> simp only [ByteArray.size_append] <;> omega
theorem callB_len {x : Fr} (h : FrOk x) : (callB x).size ≤ 401 := by
  obtain ⟨h1, h2, -⟩ := h
  have hz1 : (⟨#[33]⟩ : ByteArray).size = 1 := rfl
  unfold callB; split <;> (try simp only [ByteArray.size_append]) <;> omega
theorem restB_len {x : Fr} (h : FrOk x) : (restB x).size ≤ 240 := by
  obtain ⟨h1, h2, h3, h4, h5, h6, h7⟩ := h
  have hz1 : (⟨#[41]⟩ : ByteArray).size = 1 := rfl
  have hz2 : (⟨#[58]⟩ : ByteArray).size = 1 := rfl
  have hz3 : (⟨#[32, 40]⟩ : ByteArray).size = 2 := rfl
  have hz4 : (⟨#[32, 64]⟩ : ByteArray).size = 2 := rfl
  have hz5 : (⟨#[32, 42]⟩ : ByteArray).size = 2 := rfl
  have hz0 : (⟨#[]⟩ : ByteArray).size = 0 := rfl
  have hil := itoa_len h4 h5
  have a1 : (r1 x).size ≤ 211 := by unfold r1; split <;> (try split) <;> (try simp only [ByteArray.size_append]) <;> omega
  have a2 : (r2 x (r1 x)).size ≤ 229 := by
    unfold r2
    split
    · omega
    · have := hex_len (n := x.addr) (by omega) h7
      simp only [ByteArray.size_append]; omega
  unfold restB r3; split <;> (try simp only [ByteArray.size_append]) <;> omega
end Go.Proofs.YtmoofdcoodaaiaaGreatDoor

/- What the checks say, of lists alone: no program. -/
import Derived.Lib.Strings
import Derived.Lib.Bytealg
import Derived.WalkKit
namespace Go.Proofs.YtmoofdcoodaaiaaGreatDoor
open Go.RowKit

theorem ret_int {k : IntKind} {a b : Int} (h : a = b) : Ending.returned (.int k a) = .returned (.int k b) := by rw [h]
theorem ret2i {a : Value} {k : IntKind} {x y : Int} (h : x = y) : Ending.returned (.tuple #[a, .int k x]) = .returned (.tuple #[a, .int k y]) := by rw [h]
theorem ret_bool {a b : Bool} (h : a = b) : Ending.returned (.bool a) = .returned (.bool b) := by rw [h]

theorem emp (s : ByteArray) : s.toList.isEmpty = decide (s.size = 0) := by
  obtain ⟨d⟩ := s
  rw [ByteArray.toList_eq, Bool.eq_iff_iff, List.isEmpty_iff, decide_eq_true_eq]
  simp only [ByteArray.size]
  rw [← Array.length_toList, List.length_eq_zero_iff]

/-- A byte is from low to 126, and not in t. -/
def okC (low : Nat) (t : List UInt8) (c : UInt8) : Bool := decide (low ≤ c.toNat) && decide (c.toNat ≤ 126) && decide (Lib.indexByte t c < 0)
/-- All bytes are so. -/
def okB (low : Nat) (t s : List UInt8) : Bool := s.all (okC low t)

theorem okC_true {low : Nat} {t : List UInt8} {c : UInt8} (h1 : (low : Int) ≤ c.toNat) (h2 : (c.toNat : Int) ≤ 126) (h3 : Lib.indexByte t c < 0) : okC low t c = true := by
  unfold okC; simp; omega
theorem okC_false {low : Nat} {t : List UInt8} {c : UInt8} (h : (c.toNat : Int) < low ∨ 126 < (c.toNat : Int) ∨ 0 ≤ Lib.indexByte t c) : okC low t c = false := by
  rw [Bool.eq_false_iff]; unfold okC; simp; omega

theorem all_take_succ {α : Type} {p : α → Bool} {l : List α} {k : Nat} (hk : k < l.length) (h : (l.take k).all p = true) (hc : p l[k] = true) : (l.take (k + 1)).all p = true := by
  rw [List.take_succ_eq_append_getElem hk, List.all_append, h]; simp [hc]
theorem all_false_at {α : Type} {p : α → Bool} {l : List α} {k : Nat} (hk : k < l.length) (hc : p l[k] = false) : l.all p = false := by
  rw [List.all_eq_false]; exact ⟨l[k], List.getElem_mem hk, by simp [hc]⟩
theorem all_take_end {α : Type} {p : α → Bool} {l : List α} {k : Nat} (hk : l.length ≤ k) (h : (l.take k).all p = true) : l.all p = true := by
  rw [List.take_of_length_le hk] at h; exact h

theorem okB_step {low : Nat} {t : List UInt8} {s : ByteArray} {k : Nat} (hk : k < s.size) (h : (s.data.toList.take k).all (okC low t) = true) (h1 : (low : Int) ≤ s[k].toNat) (h2 : (s[k].toNat : Int) ≤ 126) (h3 : Lib.indexByte t s[k] < 0) :
    (s.data.toList.take (k + 1)).all (okC low t) = true :=
  all_take_succ (by simpa using hk) h (okC_true h1 h2 h3)
theorem okB_not {low : Nat} {t : List UInt8} {s : ByteArray} {k : Nat} (hk : k < s.size) (h : (s[k].toNat : Int) < low ∨ 126 < (s[k].toNat : Int) ∨ 0 ≤ Lib.indexByte t s[k]) : okB low t s.data.toList = false :=
  all_false_at (k := k) (by simpa using hk) (okC_false h)
theorem okB_end {low : Nat} {t : List UInt8} {s : ByteArray} {k : Nat} (hk : ¬ k < s.size) (h : (s.data.toList.take k).all (okC low t) = true) : okB low t s.data.toList = true :=
  all_take_end (by simpa using hk) h

/-! ### Frames and faults as data -/
/-- A frame. -/
structure Fr where
  m : ByteArray
  f : ByteArray
  i : ByteArray
  line : Int
  addr : Int
  own : Bool
deriving DecidableEq

def Fr.val (x : Fr) : Value := .agg #[.string x.m, .string x.f, .string x.i, .int .i64 x.line, .int .i64 x.addr, .bool x.own]
def Fr.cells (x : Fr) : List Value := [.string x.m, .string x.f, .string x.i, .int .i64 x.line, .int .i64 x.addr, .bool x.own]

/-- A word of a frame has right bytes. -/
def okF (s : ByteArray) : Bool := okB 33 [40, 41, 58, 44] s.data.toList
/-- A kind has right bytes. -/
def okK (s : ByteArray) : Bool := okB 33 [58] s.data.toList

/-- The error of a frame. -/
def frErr (x : Fr) : Int :=
  if 200 < (x.m.size : Int) ∨ 200 < (x.f.size : Int) ∨ 200 < (x.i.size : Int) then 4
  else if okF x.m = false ∨ okF x.f = false ∨ okF x.i = false then 9
  else if x.f.size = 0 then 1
  else if x.line < 0 ∨ 9999999 < x.line ∨ x.addr < -1 ∨ 281474976710655 < x.addr then 2
  else if x.line ≠ 0 ∧ x.i.size = 0 then 1
  else 0

theorem frErr_large {x : Fr} (h : 200 < (x.m.size : Int) ∨ 200 < (x.f.size : Int) ∨ 200 < (x.i.size : Int)) : frErr x = 4 := by unfold frErr; rw [if_pos h]
theorem frErr_byte {x : Fr} (h1 : (x.m.size : Int) ≤ 200) (h2 : (x.f.size : Int) ≤ 200) (h3 : (x.i.size : Int) ≤ 200) (h : okF x.m = false ∨ okF x.f = false ∨ okF x.i = false) : frErr x = 9 := by
  unfold frErr; rw [if_neg (by omega), if_pos h]
theorem frErr_tail {x : Fr} (h1 : (x.m.size : Int) ≤ 200) (h2 : (x.f.size : Int) ≤ 200) (h3 : (x.i.size : Int) ≤ 200) (k1 : okF x.m = true) (k2 : okF x.f = true) (k3 : okF x.i = true) :
    frErr x = if x.f.size = 0 then 1 else if x.line < 0 ∨ 9999999 < x.line ∨ x.addr < -1 ∨ 281474976710655 < x.addr then 2 else if x.line ≠ 0 ∧ x.i.size = 0 then 1 else 0 := by
  unfold frErr; rw [if_neg (by omega), if_neg (by simp [k1, k2, k3])]

/-! ### Worlds: what a call behind one or two new blocks leaves -/
theorem below_call {B : Nat} {a w w' : World} (h : Below B a w) (hB : B ≤ w.heap.size) (hk : Below w.heap.size w w') : Below B a w' := h.trans (hk.mono hB)
theorem below_a1 {B : Nat} {a w w' : World} {o : Obj} (h : Below B a w) (hB : B ≤ w.heap.size) (hk : Below (w.alloc o).heap.size (w.alloc o) w') : Below B a w' :=
  (h.alloc hB _).trans (hk.mono (by simp; omega))
theorem below_a2 {B : Nat} {a w w' : World} {o o' : Obj} (h : Below B a w) (hB : B ≤ w.heap.size) (hk : Below ((w.alloc o).alloc o').heap.size ((w.alloc o).alloc o') w') : Below B a w' :=
  ((h.alloc hB _).alloc (by simp; omega) _).trans (hk.mono (by simp; omega))

/-! ### Frames in memory -/
/-- A frame lies at a place. -/
def FrAt (w : World) (b o : Nat) (x : Fr) : Prop :=
  w.cell? ⟨b, o, none⟩ = some (.string x.m) ∧ w.cell? ⟨b, o + 1, none⟩ = some (.string x.f) ∧ w.cell? ⟨b, o + 2, none⟩ = some (.string x.i) ∧
  w.cell? ⟨b, o + 3, none⟩ = some (.int .i64 x.line) ∧ w.cell? ⟨b, o + 4, none⟩ = some (.int .i64 x.addr) ∧ w.cell? ⟨b, o + 5, none⟩ = some (.bool x.own)
theorem FrAt.below {B : Nat} {w w' : World} {b o : Nat} {x : Fr} (h : FrAt w b o x) (hb : b < B) (hw : Below B w w') : FrAt w' b o x := by
  obtain ⟨c0, c1, c2, c3, c4, c5⟩ := h
  exact ⟨(hw.cell (p := ⟨b, _, none⟩) hb).trans c0, (hw.cell (p := ⟨b, _, none⟩) hb).trans c1, (hw.cell (p := ⟨b, _, none⟩) hb).trans c2, (hw.cell (p := ⟨b, _, none⟩) hb).trans c3, (hw.cell (p := ⟨b, _, none⟩) hb).trans c4, (hw.cell (p := ⟨b, _, none⟩) hb).trans c5⟩
/-- Frames lie one after the other. -/
def FrsAt (w : World) (b off : Nat) (l : List Fr) : Prop := ∀ k (h : k < l.length), FrAt w b (off + k * 6) l[k]
theorem FrsAt.below {B : Nat} {w w' : World} {b o : Nat} {l : List Fr} (h : FrsAt w b o l) (hb : b < B) (hw : Below B w w') : FrsAt w' b o l := fun k hk => (h k hk).below hb hw

/-- The words of a frame are no longer than strings are. -/
def Fr.fit (x : Fr) : Prop := x.m.size ≤ maxLen ∧ x.f.size ≤ maxLen ∧ x.i.size ≤ maxLen

/-- The error of the first wrong frame. -/
def frsErr1 : List Fr → Int
  | [] => 0
  | x :: l => if frErr x ≠ 0 then frErr x else frsErr1 l
/-- The error of frames. -/
def frsErr (l : List Fr) : Int := if 200 < l.length then 4 else frsErr1 l

theorem frsErr1_take {l : List Fr} {k : Nat} (hk : l.length ≤ k) (h : ∀ x ∈ l.take k, frErr x = 0) : frsErr1 l = 0 := by
  rw [List.take_of_length_le hk] at h
  clear hk
  induction l with
  | nil => rfl
  | cons a l ih =>
    rw [frsErr1, if_neg (by simp [h a (by simp)])]
    exact ih fun x hx => h x (by simp [hx])
theorem frsErr1_at : ∀ {l : List Fr} {k : Nat} (hk : k < l.length), (∀ x ∈ l.take k, frErr x = 0) → frErr l[k] ≠ 0 → frsErr1 l = frErr l[k]
  | a :: l, 0, _, _, hn => by rw [frsErr1]; exact if_pos hn
  | a :: l, k + 1, hk, h, hn => by
    rw [frsErr1, if_neg (by simp [h a (by simp)])]
    exact frsErr1_at (k := k) (by simpa using hk) (fun x hx => h x (by simp [hx])) hn
theorem allz_succ {α : Type} {p : α → Prop} {l : List α} {k : Nat} (hk : k < l.length) (h : ∀ x ∈ l.take k, p x) (hc : p l[k]) : ∀ x ∈ l.take (k + 1), p x := by
  intro x hx
  rw [List.take_succ_eq_append_getElem hk, List.mem_append] at hx
  rcases hx with hx | hx
  · exact h x hx
  · rw [List.mem_singleton] at hx; rw [hx]; exact hc

theorem frsErr_large {l : List Fr} (h : 200 < l.length) : frsErr l = 4 := by unfold frsErr; rw [if_pos h]
theorem frsErr_small {l : List Fr} (h : l.length ≤ 200) : frsErr l = frsErr1 l := by unfold frsErr; rw [if_neg (by omega)]

/-- A value is a slice of frames: where they lie. -/
def SlF (w : World) (v : Value) (l : List Fr) : Prop :=
  ∃ (p : Option Addr) (cap : Nat), v = .slice p l.length cap ∧ l.length ≤ cap ∧ cap ≤ maxLen ∧ (∀ x ∈ l, x.fit) ∧ (l = [] ∨ ∃ b off, p = some ⟨b, off, none⟩ ∧ b < w.heap.size ∧ FrsAt w b off l)
theorem SlF.below {w w' : World} {v : Value} {l : List Fr} {B : Nat} (h : SlF w v l) (hB : w.heap.size ≤ B) (hw : Below B w w') : SlF w' v l := by
  obtain ⟨p, cap, hv, h1, h2, h3, h4⟩ := h
  refine ⟨p, cap, hv, h1, h2, h3, ?_⟩
  rcases h4 with h4 | ⟨b, off, hp, hb, hc⟩
  · exact .inl h4
  · exact .inr ⟨b, off, hp, by have := hw.size; omega, hc.below (B := B) (by omega) hw⟩
end Go.Proofs.YtmoofdcoodaaiaaGreatDoor

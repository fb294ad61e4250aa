/- Faults as data and in memory: no program. -/
import Derived.Test.YtmoofdcoodaaiaaGreatDoorRowPlain
namespace Go.Proofs.YtmoofdcoodaaiaaGreatDoor
open Go.RowKit

/-- A byte of a text: no control character. -/
def okTC (c : UInt8) : Bool := decide (32 ≤ c.toNat) && !decide (c.toNat = 127)
def okT (s : ByteArray) : Bool := s.data.toList.all okTC
theorem okT_step {s : ByteArray} {k : Nat} (hk : k < s.size) (h : (s.data.toList.take k).all okTC = true) (h1 : (32 : Int) ≤ s[k].toNat) (h2 : ¬ (s[k].toNat : Int) = 127) : (s.data.toList.take (k + 1)).all okTC = true :=
  all_take_succ (by simpa using hk) h (by
    have e : s.data.toList[k]'(by simpa using hk) = s[k] := rfl
    rw [e]; unfold okTC; simp; omega)
theorem okT_not {s : ByteArray} {k : Nat} (hk : k < s.size) (h : (s[k].toNat : Int) < 32 ∨ (s[k].toNat : Int) = 127) : okT s = false :=
  all_false_at (k := k) (by simpa using hk) (by
    have e : s.data.toList[k]'(by simpa using hk) = s[k] := rfl
    rw [e, Bool.eq_false_iff]; unfold okTC; simp; omega)
theorem okT_end {s : ByteArray} {k : Nat} (hk : ¬ k < s.size) (h : (s.data.toList.take k).all okTC = true) : okT s = true := all_take_end (by simpa using hk) h

/-- A fault: fv is the slice that holds the frames. -/
structure Fa where
  kind : ByteArray
  text : ByteArray
  fv : Value
  fr : List Fr

/-- The error of a fault. -/
def faErr (k t : ByteArray) (l : List Fr) : Int :=
  if 200 < (k.size : Int) then 4 else if okK k = false then 9 else if k.size = 0 then 1 else if 2000 < (t.size : Int) then 4 else if okT t = false then 9 else frsErr l
def Fa.err (x : Fa) : Int := faErr x.kind x.text x.fr
/-- A fault's words fit, and its frames lie where fv says. -/
def Fa.ok (w : World) (x : Fa) : Prop := x.kind.size ≤ maxLen ∧ x.text.size ≤ maxLen ∧ SlF w x.fv x.fr
theorem Fa.ok.below {w w' : World} {x : Fa} {B : Nat} (h : x.ok w) (hB : w.heap.size ≤ B) (hw : Below B w w') : x.ok w' := ⟨h.1, h.2.1, h.2.2.below hB hw⟩

def FaAt (w : World) (b o : Nat) (x : Fa) : Prop := w.cell? ⟨b, o, none⟩ = some (.string x.kind) ∧ w.cell? ⟨b, o + 1, none⟩ = some (.string x.text) ∧ w.cell? ⟨b, o + 2, none⟩ = some x.fv
theorem FaAt.below {B : Nat} {w w' : World} {b o : Nat} {x : Fa} (h : FaAt w b o x) (hb : b < B) (hw : Below B w w') : FaAt w' b o x := by
  obtain ⟨c0, c1, c2⟩ := h
  exact ⟨(hw.cell (p := ⟨b, _, none⟩) hb).trans c0, (hw.cell (p := ⟨b, _, none⟩) hb).trans c1, (hw.cell (p := ⟨b, _, none⟩) hb).trans c2⟩
def FasAt (w : World) (b off : Nat) (l : List Fa) : Prop := ∀ k (h : k < l.length), FaAt w b (off + k * 3) l[k]

/-- A value is a slice of faults. -/
def SlA (w : World) (v : Value) (l : List Fa) : Prop :=
  ∃ (p : Option Addr) (cap : Nat), v = .slice p l.length cap ∧ l.length ≤ cap ∧ cap ≤ maxLen ∧ (∀ x ∈ l, x.ok w) ∧ (l = [] ∨ ∃ b off, p = some ⟨b, off, none⟩ ∧ b < w.heap.size ∧ FasAt w b off l)
theorem SlA.below {w w' : World} {v : Value} {l : List Fa} {B : Nat} (h : SlA w v l) (hB : w.heap.size ≤ B) (hw : Below B w w') : SlA w' v l := by
  obtain ⟨p, cap, hv, h1, h2, h3, h4⟩ := h
  refine ⟨p, cap, hv, h1, h2, fun x hx => (h3 x hx).below hB hw, ?_⟩
  rcases h4 with h4 | ⟨b, off, hp, hb, hc⟩
  · exact .inl h4
  · exact .inr ⟨b, off, hp, by have := hw.size; omega, fun k hk => (hc k hk).below (B := B) (by omega) hw⟩

/-- The error of the first wrong one. -/
def firstErr {α : Type} (f : α → Int) : List α → Int
  | [] => 0
  | x :: l => if f x ≠ 0 then f x else firstErr f l
theorem firstErr_take {α : Type} {f : α → Int} {l : List α} {k : Nat} (hk : l.length ≤ k) (h : ∀ x ∈ l.take k, f x = 0) : firstErr f l = 0 := by
  rw [List.take_of_length_le hk] at h
  clear hk
  induction l with
  | nil => rfl
  | cons a l ih =>
    rw [firstErr, if_neg (by simp [h a (by simp)])]
    exact ih fun x hx => h x (by simp [hx])
theorem firstErr_at {α : Type} {f : α → Int} : ∀ {l : List α} {k : Nat} (hk : k < l.length), (∀ x ∈ l.take k, f x = 0) → f l[k] ≠ 0 → firstErr f l = f l[k]
  | a :: l, 0, _, _, hn => by rw [firstErr]; exact if_pos hn
  | a :: l, k + 1, hk, h, hn => by
    rw [firstErr, if_neg (by simp [h a (by simp)])]
    exact firstErr_at (k := k) (by simpa using hk) (fun x hx => h x (by simp [hx])) hn
/-- The error of faults. -/
def fasErr (l : List Fa) : Int := if l.length = 0 then 7 else if 10 < l.length then 4 else firstErr Fa.err l

theorem faErr_tail {k t : ByteArray} {l : List Fr} (h1 : (k.size : Int) ≤ 200) (h2 : okK k = true) (h3 : ¬ k.size = 0) (h4 : (t.size : Int) ≤ 2000) : faErr k t l = if okT t = false then 9 else frsErr l := by
  unfold faErr; rw [if_neg (by omega), if_neg (by simp [h2]), if_neg h3, if_neg (by omega)]
end Go.Proofs.YtmoofdcoodaaiaaGreatDoor

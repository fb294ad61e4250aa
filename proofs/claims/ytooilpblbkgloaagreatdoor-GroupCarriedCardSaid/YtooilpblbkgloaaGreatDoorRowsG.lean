/- Rows of elements in memory; rules in memory. -/
import Derived.Test.YtooilpblbkgloaaGreatDoorRulePlain
import Derived.Lib.Slices
import Derived.Lib.SlicesS
import Derived.WalkKit
namespace Go.Proofs.YtooilpblbkgloaaGreatDoor
open Go.RowKit

section
variable {α : Type}
/-- Elements lie one after the other, k cells each. -/
def AtG (enc : α → List Value) (k : Nat) (w : World) (b off : Nat) (l : List α) : Prop :=
  ∀ i (h : i < l.length) j, j < k → w.cell? ⟨b, off + i * k + j, none⟩ = (enc l[i])[j]?
theorem AtG.below {enc : α → List Value} {k B : Nat} {w w' : World} {b o : Nat} {l : List α} (h : AtG enc k w b o l) (hb : b < B) (hw : Below B w w') : AtG enc k w' b o l :=
  fun i hi j hj => (hw.cell (p := ⟨b, _, none⟩) hb).trans (h i hi j hj)
/-- A value is a slice of elements: where they lie. -/
def SlG (enc : α → List Value) (k : Nat) (fit : α → Prop) (w : World) (v : Value) (l : List α) : Prop :=
  ∃ (p : Option Addr) (cap : Nat), v = .slice p l.length cap ∧ l.length ≤ cap ∧ cap ≤ maxLen ∧ (∀ x ∈ l, fit x) ∧ (l = [] ∨ ∃ b off, p = some ⟨b, off, none⟩ ∧ b < w.heap.size ∧ AtG enc k w b off l)
theorem SlG.below {enc : α → List Value} {k : Nat} {fit : α → Prop} {w w' : World} {v : Value} {l : List α} {B : Nat} (h : SlG enc k fit w v l) (hB : w.heap.size ≤ B) (hw : Below B w w') : SlG enc k fit w' v l := by
  obtain ⟨p, cap, hv, h1, h2, h3, h4⟩ := h
  refine ⟨p, cap, hv, h1, h2, h3, ?_⟩
  rcases h4 with h4 | ⟨b, off, hp, hb, hc⟩
  · exact .inl h4
  · exact .inr ⟨b, off, hp, by have := hw.size; omega, hc.below (B := B) (by omega) hw⟩
theorem SlG.nil {enc : α → List Value} {k : Nat} {fit : α → Prop} (w : World) : SlG enc k fit w (.slice none 0 0) [] :=
  ⟨none, 0, rfl, Nat.le_refl _, by simp [maxLen], by simp, .inl rfl⟩
def cellsG (enc : α → List Value) (l : List α) : List Value := l.flatMap enc
theorem cellsG_length {enc : α → List Value} {k : Nat} (hk : ∀ x, (enc x).length = k) (l : List α) : (cellsG enc l).length = l.length * k := by
  induction l with
  | nil => simp [cellsG]
  | cons x l ih => rw [cellsG, List.flatMap_cons, List.length_append, hk]; rw [cellsG] at ih; rw [ih, List.length_cons, Nat.succ_mul]; omega
theorem cellsG_append (enc : α → List Value) (a b : List α) : cellsG enc (a ++ b) = cellsG enc a ++ cellsG enc b := by simp [cellsG]
theorem cellsG_at {enc : α → List Value} {k : Nat} (hk : ∀ x, (enc x).length = k) : ∀ {l : List α} {i : Nat} (h : i < l.length) {j : Nat}, j < k → (cellsG enc l)[i * k + j]? = (enc l[i])[j]?
  | x :: l, 0, _, j, hj => by
    rw [cellsG, List.flatMap_cons, List.getElem?_append_left (by rw [hk]; omega)]; simp
  | x :: l, i + 1, h, j, hj => by
    rw [cellsG, List.flatMap_cons, List.getElem?_append_right (by rw [hk, Nat.succ_mul]; omega)]
    have e : (i + 1) * k + j - (enc x).length = i * k + j := by rw [hk, Nat.succ_mul]; omega
    rw [e, ← cellsG, cellsG_at hk (by simpa using h) hj]
    simp
/-- A row of the call's own holds elements: it is a slice of them. -/
theorem slG_of_owns {enc : α → List Value} {k : Nat} (hk : ∀ x, (enc x).length = k) (hk0 : 0 < k) {fit : α → Prop} {w : World} {base : Nat} {e : TypeId} {v : Value} {n : Nat} {l : List α} (h : w.ownsRow base e k v n (cellsG enc l)) (hf : ∀ x ∈ l, fit x) : SlG enc k fit w v l := by
  obtain ⟨hlen, h⟩ := h
  rw [cellsG_length hk] at hlen
  obtain rfl : n = l.length := (Nat.eq_of_mul_eq_mul_right hk0 hlen).symm
  rcases h with ⟨rfl, h0⟩ | ⟨g, cap, cur, rfl, _, hg, hn, hc, hsz, htk⟩
  · exact ⟨none, 0, by rw [h0], by omega, by simp [maxLen], hf, .inl (List.length_eq_zero_iff.1 h0)⟩
  · refine ⟨_, cap, rfl, hn, hc, hf, .inr ⟨g, 0, rfl, (Array.getElem?_eq_some_iff.1 hg).1, fun i hi j hj => ?_⟩⟩
    rw [← cellsG_at hk hi hj, ← htk, Nat.zero_add]
    simp only [World.cell?, hg]
    have : i * k + j < l.length * k := by
      have : (i + 1) * k ≤ l.length * k := Nat.mul_le_mul_right _ hi
      rw [Nat.succ_mul] at this; omega
    rw [List.getElem?_take_of_lt this]
    simp
end

def fitS (s : ByteArray) : Prop := s.size ≤ 9223372036854775807
def encM (m : Mt) : List Value := [.int .i64 m.on, .bool m.nt, .string m.gl]
def encA (a : Ac) : List Value := [.int .i64 a.d, .int .i64 a.n, .string a.t]
def fitM (m : Mt) : Prop := fitS m.gl
def fitA (a : Ac) : Prop := fitS a.t
theorem AtG.mat {w : World} {b off : Nat} {l : List Mt} (h : AtG encM 3 w b off l) {i : Nat} (hi : i < l.length) :
    w.cell? ⟨b, off + i * 3, none⟩ = some (.int .i64 l[i].on) ∧ w.cell? ⟨b, off + i * 3 + 1, none⟩ = some (.bool l[i].nt) ∧ w.cell? ⟨b, off + i * 3 + 2, none⟩ = some (.string l[i].gl) :=
  ⟨by simpa [encM] using h i hi 0 (by omega), by simpa [encM] using h i hi 1 (by omega), by simpa [encM] using h i hi 2 (by omega)⟩
theorem AtG.act {w : World} {b off : Nat} {l : List Ac} (h : AtG encA 3 w b off l) {i : Nat} (hi : i < l.length) :
    w.cell? ⟨b, off + i * 3, none⟩ = some (.int .i64 l[i].d) ∧ w.cell? ⟨b, off + i * 3 + 1, none⟩ = some (.int .i64 l[i].n) ∧ w.cell? ⟨b, off + i * 3 + 2, none⟩ = some (.string l[i].t) :=
  ⟨by simpa [encA] using h i hi 0 (by omega), by simpa [encA] using h i hi 1 (by omega), by simpa [encA] using h i hi 2 (by omega)⟩

/-- Two values are the two slices of a rule. -/
def RuV (w : World) (v1 v2 : Value) (r : Ru) : Prop := SlG encM 3 fitM w v1 r.ms ∧ SlG encA 3 fitA w v2 r.as
theorem RuV.below {w w' : World} {v1 v2 : Value} {r : Ru} {B : Nat} (h : RuV w v1 v2 r) (hB : w.heap.size ≤ B) (hw : Below B w w') : RuV w' v1 v2 r := ⟨h.1.below hB hw, h.2.below hB hw⟩
/-- A value is a slice of rules. -/
def RsV (w : World) (v : Value) (l : List Ru) : Prop :=
  ∃ (p : Option Addr) (cap : Nat), v = .slice p l.length cap ∧ l.length ≤ cap ∧ cap ≤ maxLen ∧ (l = [] ∨ ∃ b off, p = some ⟨b, off, none⟩ ∧ b < w.heap.size ∧
    ∀ i (h : i < l.length), ∃ v1 v2, w.cell? ⟨b, off + i * 2, none⟩ = some v1 ∧ w.cell? ⟨b, off + i * 2 + 1, none⟩ = some v2 ∧ RuV w v1 v2 l[i])
theorem RsV.below {w w' : World} {v : Value} {l : List Ru} {B : Nat} (h : RsV w v l) (hB : w.heap.size ≤ B) (hw : Below B w w') : RsV w' v l := by
  obtain ⟨p, cap, hv, h1, h2, h4⟩ := h
  refine ⟨p, cap, hv, h1, h2, ?_⟩
  rcases h4 with h4 | ⟨b, off, hp, hb, hc⟩
  · exact .inl h4
  · refine .inr ⟨b, off, hp, by have := hw.size; omega, fun i hi => ?_⟩
    obtain ⟨v1, v2, c1, c2, hr⟩ := hc i hi
    exact ⟨v1, v2, (hw.cell (p := ⟨b, _, none⟩) (Nat.lt_of_lt_of_le hb hB)).trans c1, (hw.cell (p := ⟨b, _, none⟩) (Nat.lt_of_lt_of_le hb hB)).trans c2, hr.below hB hw⟩
end Go.Proofs.YtooilpblbkgloaaGreatDoor

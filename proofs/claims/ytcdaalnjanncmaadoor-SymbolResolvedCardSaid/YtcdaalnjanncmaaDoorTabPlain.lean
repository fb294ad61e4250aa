/- Tables of addresses as data, and their errors: lists alone. -/
import Derived.Lib.Strings
import Derived.Lib.Bytealg
import Derived.Lib.IndexMore
import Derived.Lib.Slices
import Derived.Lib.SlicesS
import Derived.WalkKit
namespace Go.Proofs.YtcdaalnjanncmaaDoor
open Go.RowKit

/-! ### Rows of elements in memory -/
section
variable {α : Type}
/-- Elements lie one after the other, k cells each. -/
def AtG (enc : α → List Value) (k : Nat) (w : World) (b off : Nat) (l : List α) : Prop :=
  ∀ i (h : i < l.length) j, j < k → w.cell? ⟨b, off + i * k + j, none⟩ = (enc l[i])[j]?
theorem AtG.below {enc : α → List Value} {k B : Nat} {w w' : World} {b o : Nat} {l : List α} (h : AtG enc k w b o l) (hb : b < B) (hw : Below B w w') : AtG enc k w' b o l :=
  fun i hi j hj => (hw.cell (p := ⟨b, _, none⟩) hb).trans (h i hi j hj)
theorem AtG.take {enc : α → List Value} {k : Nat} {w : World} {b o : Nat} {l : List α} (h : AtG enc k w b o l) (n : Nat) : AtG enc k w b o (l.take n) := by
  intro i hi j hj
  have hi' : i < l.length := by rw [List.length_take] at hi; omega
  rw [List.getElem_take]; exact h i hi' j hj
theorem AtG.drop {enc : α → List Value} {k : Nat} {w : World} {b o : Nat} {l : List α} (h : AtG enc k w b o l) (n : Nat) : AtG enc k w b (o + n * k) (l.drop n) := by
  intro i hi j hj
  have hi' : n + i < l.length := by rw [List.length_drop] at hi; omega
  rw [List.getElem_drop, show o + n * k + i * k + j = o + (n + i) * k + j by rw [Nat.add_mul]; omega]; exact h _ hi' j hj
/-- A value is a slice of elements: where they lie. -/
def SlG (enc : α → List Value) (k : Nat) (fit : α → Prop) (w : World) (v : Value) (l : List α) : Prop :=
  ∃ (p : Option Addr) (cap : Nat), v = .slice p l.length cap ∧ l.length ≤ cap ∧ cap ≤ maxLen ∧ (∀ x ∈ l, fit x) ∧ (l = [] ∨ ∃ b off, p = some ⟨b, off, none⟩ ∧ b < w.heap.size ∧ AtG enc k w b off l)
theorem SlG.below {enc : α → List Value} {k : Nat} {fit : α → Prop} {w w' : World} {v : Value} {l : List α} {B : Nat} (h : SlG enc k fit w v l) (hB : w.heap.size ≤ B) (hw : Below B w w') : SlG enc k fit w' v l := by
  obtain ⟨p, cap, hv, h1, h2, h3, h4⟩ := h
  refine ⟨p, cap, hv, h1, h2, h3, ?_⟩
  rcases h4 with h4 | ⟨b, off, hp, hb, hc⟩
  · exact .inl h4
  · exact .inr ⟨b, off, hp, by have := hw.size; omega, hc.below (B := B) (by omega) hw⟩
theorem SlG.nil {enc : α → List Value} {k : Nat} {fit : α → Prop} (w : World) : SlG enc k fit w (.slice none 0 0) [] :=
  ⟨none, 0, rfl, Nat.le_refl _, by simp [maxLen], by simp, .inl rfl⟩
def cellsG (enc : α → List Value) (l : List α) : List Value := l.flatMap enc
theorem cellsG_length {enc : α → List Value} {k : Nat} (hk : ∀ x, (enc x).length = k) (l : List α) : (cellsG enc l).length = l.length * k := by
  induction l with
  | nil => simp [cellsG]
  | cons x l ih => rw [cellsG, List.flatMap_cons, List.length_append, hk]; rw [cellsG] at ih; rw [ih, List.length_cons, Nat.succ_mul]; omega
theorem cellsG_append (enc : α → List Value) (a b : List α) : cellsG enc (a ++ b) = cellsG enc a ++ cellsG enc b := by simp [cellsG]
theorem cellsG_at {enc : α → List Value} {k : Nat} (hk : ∀ x, (enc x).length = k) : ∀ {l : List α} {i : Nat} (h : i < l.length) {j : Nat}, j < k → (cellsG enc l)[i * k + j]? = (enc l[i])[j]?
  | x :: l, 0, _, j, hj => by
    rw [cellsG, List.flatMap_cons, List.getElem?_append_left (by rw [hk]; omega)]; simp
  | x :: l, i + 1, h, j, hj => by
    rw [cellsG, List.flatMap_cons, List.getElem?_append_right (by rw [hk, Nat.succ_mul]; omega)]
    have e : (i + 1) * k + j - (enc x).length = i * k + j := by rw [hk, Nat.succ_mul]; omega
    rw [e, ← cellsG, cellsG_at hk (by simpa using h) hj]
    simp
/-- A row of the call's own holds elements: it is a slice of them. -/
theorem slG_of_owns {enc : α → List Value} {k : Nat} (hk : ∀ x, (enc x).length = k) (hk0 : 0 < k) {fit : α → Prop} {w : World} {base : Nat} {e : TypeId} {v : Value} {n : Nat} {l : List α} (h : w.ownsRow base e k v n (cellsG enc l)) (hf : ∀ x ∈ l, fit x) : SlG enc k fit w v l := by
  obtain ⟨hlen, h⟩ := h
  rw [cellsG_length hk] at hlen
  obtain rfl : n = l.length := (Nat.eq_of_mul_eq_mul_right hk0 hlen).symm
  rcases h with ⟨rfl, h0⟩ | ⟨g, cap, cur, rfl, _, hg, hn, hc, hsz, htk⟩
  · exact ⟨none, 0, by rw [h0], by omega, by simp [maxLen], hf, .inl (List.length_eq_zero_iff.1 h0)⟩
  · refine ⟨_, cap, rfl, hn, hc, hf, .inr ⟨g, 0, rfl, (Array.getElem?_eq_some_iff.1 hg).1, fun i hi j hj => ?_⟩⟩
    rw [← cellsG_at hk hi hj, ← htk, Nat.zero_add]
    simp only [World.cell?, hg]
    have : i * k + j < l.length * k := by
      have : (i + 1) * k ≤ l.length * k := Nat.mul_le_mul_right _ hi
      rw [Nat.succ_mul] at this; omega
    rw [List.getElem?_take_of_lt this]
    simp
end

/-! ### Tables -/
structure Fc where
  n : ByteArray
  a : Int
  b : Int
deriving DecidableEq
structure Rw where
  p : Int
  f : Int
  l : Int
deriving DecidableEq
structure Cl where
  n : ByteArray
  a : Int
  b : Int
  f : Int
  l : Int
deriving DecidableEq
structure Tb where
  id : ByteArray
  size : Int
  files : List ByteArray
  funcs : List Fc
  rows : List Rw
  calls : List Cl
deriving DecidableEq

def encS (s : ByteArray) : List Value := [.string s]
def encF (x : Fc) : List Value := [.string x.n, .int .i64 x.a, .int .i64 x.b]
def encR (x : Rw) : List Value := [.int .i64 x.p, .int .i64 x.f, .int .i64 x.l]
def encC (x : Cl) : List Value := [.string x.n, .int .i64 x.a, .int .i64 x.b, .int .i64 x.f, .int .i64 x.l]
def in64 (n : Int) : Prop := -9223372036854775808 ≤ n ∧ n ≤ 9223372036854775807
def fitS (s : ByteArray) : Prop := s.size ≤ 9223372036854775807
def fitF (x : Fc) : Prop := fitS x.n ∧ in64 x.a ∧ in64 x.b
def fitR (x : Rw) : Prop := in64 x.p ∧ in64 x.f ∧ in64 x.l
def fitC (x : Cl) : Prop := fitS x.n ∧ in64 x.a ∧ in64 x.b ∧ in64 x.f ∧ in64 x.l
/-- A value is a table. -/
def TbV (w : World) (v : Value) (t : Tb) : Prop :=
  ∃ v1 v2 v3 v4, v = .agg #[.string t.id, .int .i64 t.size, v1, v2, v3, v4] ∧ fitS t.id ∧ in64 t.size ∧ SlG encS 1 fitS w v1 t.files ∧ SlG encF 3 fitF w v2 t.funcs ∧ SlG encR 3 fitR w v3 t.rows ∧ SlG encC 5 fitC w v4 t.calls
theorem TbV.below {w w' : World} {v : Value} {t : Tb} {B : Nat} (h : TbV w v t) (hB : w.heap.size ≤ B) (hw : Below B w w') : TbV w' v t := by
  obtain ⟨v1, v2, v3, v4, h0, h1, h2, h3, h4, h5, h6⟩ := h
  exact ⟨v1, v2, v3, v4, h0, h1, h2, h3.below hB hw, h4.below hB hw, h5.below hB hw, h6.below hB hw⟩

theorem AtG.str {w : World} {b off : Nat} {l : List ByteArray} (h : AtG encS 1 w b off l) {i : Nat} (hi : i < l.length) : w.cell? ⟨b, off + i, none⟩ = some (.string l[i]) := by
  have := h i hi 0 (by omega); simpa [encS] using this
theorem AtG.fnc {w : World} {b off : Nat} {l : List Fc} (h : AtG encF 3 w b off l) {i : Nat} (hi : i < l.length) :
    w.cell? ⟨b, off + i * 3, none⟩ = some (.string l[i].n) ∧ w.cell? ⟨b, off + i * 3 + 1, none⟩ = some (.int .i64 l[i].a) ∧ w.cell? ⟨b, off + i * 3 + 2, none⟩ = some (.int .i64 l[i].b) :=
  ⟨by simpa [encF] using h i hi 0 (by omega), by simpa [encF] using h i hi 1 (by omega), by simpa [encF] using h i hi 2 (by omega)⟩
theorem AtG.row {w : World} {b off : Nat} {l : List Rw} (h : AtG encR 3 w b off l) {i : Nat} (hi : i < l.length) :
    w.cell? ⟨b, off + i * 3, none⟩ = some (.int .i64 l[i].p) ∧ w.cell? ⟨b, off + i * 3 + 1, none⟩ = some (.int .i64 l[i].f) ∧ w.cell? ⟨b, off + i * 3 + 2, none⟩ = some (.int .i64 l[i].l) :=
  ⟨by simpa [encR] using h i hi 0 (by omega), by simpa [encR] using h i hi 1 (by omega), by simpa [encR] using h i hi 2 (by omega)⟩
theorem AtG.cal {w : World} {b off : Nat} {l : List Cl} (h : AtG encC 5 w b off l) {i : Nat} (hi : i < l.length) :
    w.cell? ⟨b, off + i * 5, none⟩ = some (.string l[i].n) ∧ w.cell? ⟨b, off + i * 5 + 1, none⟩ = some (.int .i64 l[i].a) ∧ w.cell? ⟨b, off + i * 5 + 2, none⟩ = some (.int .i64 l[i].b) ∧ w.cell? ⟨b, off + i * 5 + 3, none⟩ = some (.int .i64 l[i].f) ∧ w.cell? ⟨b, off + i * 5 + 4, none⟩ = some (.int .i64 l[i].l) :=
  ⟨by simpa [encC] using h i hi 0 (by omega), by simpa [encC] using h i hi 1 (by omega), by simpa [encC] using h i hi 2 (by omega), by simpa [encC] using h i hi 3 (by omega), by simpa [encC] using h i hi 4 (by omega)⟩

/-! ### The first function that has an offset -/
/-- The place of the first element that has a number, from k on; -1: there is none. -/
def firstFrom (k : Nat) (p : Int) : List (Int × Int) → Int
  | [] => -1
  | x :: l => if x.1 ≤ p ∧ p < x.2 then k else firstFrom (k + 1) p l
theorem firstFrom_hit {k : Nat} {p : Int} {x : Int × Int} {l : List (Int × Int)} (h1 : x.1 ≤ p) (h2 : p < x.2) : firstFrom k p (x :: l) = k := by rw [firstFrom, if_pos ⟨h1, h2⟩]
theorem firstFrom_miss {k : Nat} {p : Int} {x : Int × Int} {l : List (Int × Int)} (h : p < x.1 ∨ x.2 ≤ p) : firstFrom k p (x :: l) = firstFrom (k + 1) p l := by rw [firstFrom, if_neg (by omega)]
theorem firstFrom_lt : ∀ {l : List (Int × Int)} {k : Nat} {p : Int}, firstFrom k p l ≠ -1 → ∃ i : Nat, ∃ h : i < l.length, firstFrom k p l = ((k + i : Nat) : Int) ∧ l[i].1 ≤ p ∧ p < l[i].2 ∧ ∀ j (hj : j < i), ¬ (l[j].1 ≤ p ∧ p < l[j].2)
  | [], k, p, h => absurd rfl h
  | x :: l, k, p, h => by
    rw [firstFrom] at h ⊢
    split at h
    · rename_i hx
      rw [if_pos hx]
      exact ⟨0, by simp, by simp, hx.1, hx.2, by omega⟩
    · rename_i hx
      rw [if_neg hx]
      obtain ⟨i, hi, h1, h2, h3, h4⟩ := firstFrom_lt h
      refine ⟨i + 1, by simpa using hi, by rw [h1]; congr 1; omega, by simpa using h2, by simpa using h3, ?_⟩
      intro j hj
      cases j with
      | zero => simpa using hx
      | succ j => simpa using h4 j (by omega)
theorem firstFrom_none : ∀ {l : List (Int × Int)} {k : Nat} {p : Int}, firstFrom k p l = -1 → ∀ x ∈ l, ¬ (x.1 ≤ p ∧ p < x.2)
  | [], k, p, _, x, hx => absurd hx (by simp)
  | y :: l, k, p, h, x, hx => by
    rw [firstFrom] at h
    split at h
    · omega
    · rename_i hy
      rw [List.mem_cons] at hx
      rcases hx with rfl | hx
      · exact hy
      · exact firstFrom_none h x hx
end Go.Proofs.YtcdaalnjanncmaaDoor

/- Runs: what the checks of them say, of lists alone. -/
import Derived.Test.YtmoofdcoodaaiaaGreatDoorPlain
namespace Go.Proofs.YtmoofdcoodaaiaaGreatDoor
open Go.RowKit

/-- A run. -/
structure Rn where
  start : Int
  long : Int
  times : Int
deriving DecidableEq, Inhabited

def RnAt (w : World) (b o : Nat) (r : Rn) : Prop :=
  w.cell? ⟨b, o, none⟩ = some (.int .i64 r.start) ∧ w.cell? ⟨b, o + 1, none⟩ = some (.int .i64 r.long) ∧ w.cell? ⟨b, o + 2, none⟩ = some (.int .i64 r.times)
theorem RnAt.below {B : Nat} {w w' : World} {b o : Nat} {x : Rn} (h : RnAt w b o x) (hb : b < B) (hw : Below B w w') : RnAt w' b o x := by
  obtain ⟨c0, c1, c2⟩ := h
  exact ⟨(hw.cell (p := ⟨b, _, none⟩) hb).trans c0, (hw.cell (p := ⟨b, _, none⟩) hb).trans c1, (hw.cell (p := ⟨b, _, none⟩) hb).trans c2⟩
def RnsAt (w : World) (b off : Nat) (l : List Rn) : Prop := ∀ k (h : k < l.length), RnAt w b (off + k * 3) l[k]
theorem RnsAt.below {B : Nat} {w w' : World} {b o : Nat} {l : List Rn} (h : RnsAt w b o l) (hb : b < B) (hw : Below B w w') : RnsAt w' b o l := fun k hk => (h k hk).below hb hw

/-- A value is a slice of runs. -/
def SlR (w : World) (v : Value) (l : List Rn) : Prop :=
  ∃ (p : Option Addr) (cap : Nat), v = .slice p l.length cap ∧ l.length ≤ cap ∧ cap ≤ 5864062014634 ∧ (l = [] ∨ ∃ b off, p = some ⟨b, off, none⟩ ∧ b < w.heap.size ∧ RnsAt w b off l)
theorem SlR.below {w w' : World} {v : Value} {l : List Rn} {B : Nat} (h : SlR w v l) (hB : w.heap.size ≤ B) (hw : Below B w w') : SlR w' v l := by
  obtain ⟨p, cap, hv, h1, h2, h4⟩ := h
  refine ⟨p, cap, hv, h1, h2, ?_⟩
  rcases h4 with h4 | ⟨b, off, hp, hb, hc⟩
  · exact .inl h4
  · exact .inr ⟨b, off, hp, by have := hw.size; omega, hc.below (B := B) (by omega) hw⟩

def Rn.ok (r : Rn) : Bool := decide (1 ≤ r.long) && decide (r.long ≤ 200) && decide (1 ≤ r.times) && decide (r.times ≤ 200)
theorem Rn.ok_iff (r : Rn) : r.ok = true ↔ 1 ≤ r.long ∧ r.long ≤ 200 ∧ 1 ≤ r.times ∧ r.times ≤ 200 := by unfold Rn.ok; simp [and_assoc]
def sumL : List Rn → Int
  | [] => 0
  | r :: l => r.long + sumL l
def totL : List Rn → Int
  | [] => 0
  | r :: l => r.long * r.times + totL l
theorem sumL_append (a b : List Rn) : sumL (a ++ b) = sumL a + sumL b := by induction a with | nil => simp [sumL] | cons x a ih => simp [sumL, ih]; omega
theorem totL_append (a b : List Rn) : totL (a ++ b) = totL a + totL b := by
  induction a with
  | nil => simp [totL]
  | cons x a ih => rw [List.cons_append, totL, totL, ih, Int.add_assoc]
theorem sumL_succ {l : List Rn} {k : Nat} (h : k < l.length) : sumL (l.take (k + 1)) = sumL (l.take k) + l[k].long := by
  rw [List.take_succ_eq_append_getElem h, sumL_append]; simp [sumL]
theorem totL_succ {l : List Rn} {k : Nat} (h : k < l.length) : totL (l.take (k + 1)) = totL (l.take k) + l[k].long * l[k].times := by
  rw [List.take_succ_eq_append_getElem h, totL_append]; simp [totL]
theorem sumL_le {l : List Rn} (h : ∀ x ∈ l, x.ok = true) : (l.length : Int) ≤ sumL l ∧ sumL l ≤ 200 * l.length := by
  induction l with
  | nil => simp [sumL]
  | cons x l ih =>
    have h1 := (x.ok_iff).1 (h x (by simp))
    have h2 := ih fun y hy => h y (by simp [hy])
    simp only [sumL, List.length_cons]; omega
theorem prod_le {a b : Int} (h1 : 1 ≤ a) (h2 : a ≤ 200) (h3 : 1 ≤ b) (h4 : b ≤ 200) : 1 ≤ a * b ∧ a * b ≤ 40000 := by
  have e1 : a * 1 ≤ a * b := Int.mul_le_mul_of_nonneg_left h3 (by omega)
  have e2 : a * b ≤ a * 200 := Int.mul_le_mul_of_nonneg_left h4 (by omega)
  omega
theorem Rn.prod {r : Rn} (h : r.ok = true) : 1 ≤ r.long * r.times ∧ r.long * r.times ≤ 40000 := by
  obtain ⟨h1, h2, h3, h4⟩ := r.ok_iff.1 h; exact prod_le h1 h2 h3 h4
theorem totL_le {l : List Rn} (h : ∀ x ∈ l, x.ok = true) : (l.length : Int) ≤ totL l ∧ totL l ≤ 40000 * l.length := by
  induction l with
  | nil => simp [totL]
  | cons x l ih =>
    have h1 := Rn.prod (h x (by simp))
    have h2 := ih fun y hy => h y (by simp [hy])
    simp only [totL, List.length_cons]; omega

/-- Each run begins where those before it end. -/
def starts (l : List Rn) : Bool := (List.range l.length).all fun i => decide ((l.getD i default).start = totL (l.take i))
/-- The error of runs over so many frames. -/
def runsErr (l : List Rn) (n : Int) : Int :=
  if l.all Rn.ok = false then 2 else if sumL l ≠ n then 1 else if starts l = false then 2 else if 200 < totL l then 4 else 0

theorem runsErr_ok {l : List Rn} {n : Int} {k : Nat} (hk : k < l.length) (h : l[k].ok = false) : runsErr l n = 2 := by unfold runsErr; rw [if_pos (all_false_at hk h)]
theorem all_of_take {l : List Rn} {k : Nat} (hk : l.length ≤ k) (h : ∀ x ∈ l.take k, x.ok = true) : ∀ x ∈ l, x.ok = true := by rw [List.take_of_length_le hk] at h; exact h
theorem runsErr_sum {l : List Rn} {n : Int} (h : ∀ x ∈ l, x.ok = true) (hs : sumL l ≠ n) : runsErr l n = 1 := by
  unfold runsErr; rw [if_neg (by simpa using h), if_pos hs]
theorem runsErr_start {l : List Rn} {n : Int} {k : Nat} (hk : k < l.length) (h : ∀ x ∈ l, x.ok = true) (hs : sumL l = n) (ht : l[k].start ≠ totL (l.take k)) : runsErr l n = 2 := by
  unfold runsErr; rw [if_neg (by simpa using h), if_neg (by omega), if_pos]
  unfold starts; rw [List.all_eq_false]
  exact ⟨k, by simpa using hk, by simp [List.getD_eq_getElem?_getD, hk, ht]⟩
theorem runsErr_end {l : List Rn} {n : Int} {k : Nat} (hk : l.length ≤ k) (h : ∀ x ∈ l, x.ok = true) (hs : sumL l = n) (ht : ∀ i, i < k → (l.getD i default).start = totL (l.take i)) : runsErr l n = if 200 < totL l then 4 else 0 := by
  have : starts l = true := by
    unfold starts; rw [List.all_eq_true]
    intro i hi
    have := List.mem_range.1 hi
    simp only [ht i (by omega), decide_true]
  unfold runsErr; rw [if_neg (by simpa using h), if_neg (by omega), if_neg (by simp [this])]
theorem starts_succ {l : List Rn} {k : Nat} (h : ∀ i, i < k → (l.getD i default).start = totL (l.take i)) (hc : (l.getD k default).start = totL (l.take k)) : ∀ i, i < k + 1 → (l.getD i default).start = totL (l.take i) := by
  intro i hi
  by_cases hk : i < k
  · exact h i hk
  · obtain rfl : i = k := by omega
    exact hc
end Go.Proofs.YtmoofdcoodaaiaaGreatDoor

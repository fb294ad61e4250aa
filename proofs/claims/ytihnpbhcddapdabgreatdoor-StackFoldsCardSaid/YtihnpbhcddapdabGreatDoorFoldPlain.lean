/- Runs of frames found: lists alone. -/
import Derived.Test.YtihnpbhcddapdabGreatDoorRowPlain
namespace Go.Proofs.YtihnpbhcddapdabGreatDoor
open Go.RowKit

/-- The frames at j times long are the first ones again. -/
def mtch (l : List Fr) (long j : Nat) : Bool := decide ((j + 1) * long ≤ l.length) && decide (l.take long = (l.drop (j * long)).take long)
def timesG (l : List Fr) (long : Nat) : Nat → Nat → Nat
  | 0, j => j
  | n + 1, j => if mtch l long j then timesG l long n (j + 1) else j
/-- How often the first frames come one after the other. -/
def timesN (l : List Fr) (long : Nat) : Nat := timesG l long l.length 1
theorem timesG_eq {l : List Fr} {long t : Nat} : ∀ {n j : Nat}, j ≤ t → t ≤ n + j → (∀ i, j ≤ i → i < t → mtch l long i = true) → mtch l long t = false → timesG l long n j = t
  | 0, j, h1, h2, _, _ => by rw [timesG]; omega
  | n + 1, j, h1, h2, h3, h4 => by
    rw [timesG]
    by_cases hj : j = t
    · subst hj; rw [h4]; rfl
    · rw [if_pos (h3 j (Nat.le_refl _) (by omega))]
      exact timesG_eq (by omega) (by omega) (fun i hi hit => h3 i (by omega) hit) h4
theorem mtch_len {l : List Fr} {long j : Nat} (h : mtch l long j = true) : (j + 1) * long ≤ l.length := by
  unfold mtch at h; simp at h; exact h.1
theorem timesN_eq {l : List Fr} {long t : Nat} (hl : 1 ≤ long) (h1 : 1 ≤ t) (h3 : ∀ i, 1 ≤ i → i < t → mtch l long i = true) (h4 : mtch l long t = false) : timesN l long = t := by
  refine timesG_eq h1 ?_ h3 h4
  by_cases ht : t = 1
  · omega
  · have := mtch_len (h3 (t - 1) (by omega) (by omega))
    rw [show t - 1 + 1 = t by omega] at this
    have e : t * 1 ≤ t * long := Nat.mul_le_mul_left _ hl
    omega
theorem timesG_spec {l : List Fr} {long : Nat} : ∀ (n j : Nat), (∀ i, j ≤ i → i < timesG l long n j → mtch l long i = true) ∧ j ≤ timesG l long n j
  | 0, j => ⟨fun i h1 h2 => by rw [timesG] at h2; omega, by rw [timesG]; exact Nat.le_refl _⟩
  | n + 1, j => by
    rw [timesG]
    by_cases hm : mtch l long j = true
    · rw [if_pos hm]
      obtain ⟨h1, h2⟩ := timesG_spec (l := l) (long := long) n (j + 1)
      refine ⟨fun i hi hit => ?_, by omega⟩
      by_cases hij : i = j
      · subst hij; exact hm
      · exact h1 i (by omega) hit
    · rw [if_neg hm]
      exact ⟨fun i h1 h2 => by omega, Nat.le_refl _⟩
theorem timesN_ge (l : List Fr) (long : Nat) : 1 ≤ timesN l long := (timesG_spec l.length 1).2
theorem timesN_le {l : List Fr} {long : Nat} (h : long ≤ l.length) : timesN l long * long ≤ l.length := by
  by_cases ht : timesN l long = 1
  · rw [ht, Nat.one_mul]; exact h
  · have hg := timesN_ge l long
    have := mtch_len ((timesG_spec (l := l) (long := long) l.length 1).1 (timesN l long - 1) (by omega) (by show _ < timesN l long; omega))
    rwa [show timesN l long - 1 + 1 = timesN l long by omega] at this

/-- One Long more is asked. -/
def stepB (r : List Fr) (b : Nat × Nat) (long : Nat) : Nat × Nat := if 1 < timesN r long ∧ b.1 * b.2 < long * timesN r long then (long, timesN r long) else b
/-- The best run of the first k Longs. -/
def bestK (r : List Fr) : Nat → Nat × Nat
  | 0 => (1, 1)
  | k + 1 => stepB r (bestK r k) (k + 1)
def best (r : List Fr) : Nat × Nat := bestK r (r.length / 2)
theorem bestK_ok (r : List Fr) (hr : 1 ≤ r.length) : ∀ k, k ≤ r.length / 2 → 1 ≤ (bestK r k).1 ∧ 1 ≤ (bestK r k).2 ∧ (bestK r k).1 * (bestK r k).2 ≤ r.length
  | 0, _ => ⟨by simp [bestK], by simp [bestK], by simpa [bestK] using hr⟩
  | k + 1, hk => by
    rw [bestK, stepB]
    split
    · rename_i h
      refine ⟨by simp, by simp; omega, ?_⟩
      have := timesN_le (l := r) (long := k + 1) (by omega)
      rw [Nat.mul_comm]; exact this
    · exact bestK_ok r hr k (by omega)

def cellsR (l : List Rn) : List Value := l.flatMap fun r => [.int .i64 r.start, .int .i64 r.long, .int .i64 r.times]
theorem cellsR_length (l : List Rn) : (cellsR l).length = l.length * 3 := by
  induction l with
  | nil => rfl
  | cons x l ih => rw [cellsR, List.flatMap_cons, List.length_append]; rw [cellsR] at ih; rw [ih]; simp; omega
theorem cellsR_append (a b : List Rn) : cellsR (a ++ b) = cellsR a ++ cellsR b := by simp [cellsR]
theorem cellsR_one {l : List Rn} : ∀ u ∈ cellsR l, u.oneCell' = true := by
  intro u hu
  obtain ⟨x, _, hx⟩ := List.mem_flatMap.1 hu
  simp only [List.mem_cons, List.not_mem_nil, or_false] at hx
  rcases hx with rfl | rfl | rfl <;> rfl
theorem cellsR_at : ∀ {l : List Rn} {k : Nat} (h : k < l.length) {j : Nat}, j < 3 → (cellsR l)[k * 3 + j]? = ([Value.int .i64 l[k].start, .int .i64 l[k].long, .int .i64 l[k].times] : List Value)[j]?
  | x :: l, 0, _, j, hj => by
    rw [cellsR, List.flatMap_cons, List.getElem?_append_left (by simp; omega)]; simp
  | x :: l, k + 1, h, j, hj => by
    rw [cellsR, List.flatMap_cons, List.getElem?_append_right (by simp; omega)]
    have e : (k + 1) * 3 + j - ([Value.int .i64 x.start, .int .i64 x.long, .int .i64 x.times] : List Value).length = k * 3 + j := by simp; omega
    rw [e, ← cellsR, cellsR_at (by simpa using h) hj]
    simp
theorem cellsR_set (ys : List Rn) (x : Rn) (n : Int) : (cellsR (ys ++ [x])).set (ys.length * 3 + 1) (.int .i64 n) = cellsR (ys ++ [⟨x.start, n, x.times⟩]) := by
  rw [cellsR_append, cellsR_append, List.set_append_right _ _ (by rw [cellsR_length]; omega), cellsR_length]
  rw [show ys.length * 3 + 1 - ys.length * 3 = 1 by omega]
  rfl

/-- A run is added: it goes into the last one if both come once. -/
def addRun (runs : List Rn) (r : Rn) : List Rn :=
  match runs.getLast? with
  | some x => if r.times = 1 ∧ x.times = 1 then runs.dropLast ++ [⟨x.start, x.long + 1, x.times⟩] else runs ++ [r]
  | none => runs ++ [r]
theorem addRun_nil (r : Rn) : addRun [] r = [r] := rfl
theorem addRun_in {ys : List Rn} {x r : Rn} (h1 : r.times = 1) (h2 : x.times = 1) : addRun (ys ++ [x]) r = ys ++ [⟨x.start, x.long + 1, x.times⟩] := by
  unfold addRun; simp [h1, h2]
theorem addRun_not {ys : List Rn} {x r : Rn} (h : ¬ (r.times = 1 ∧ x.times = 1)) : addRun (ys ++ [x]) r = (ys ++ [x]) ++ [r] := by
  unfold addRun; simp [h]
theorem addRun_length (runs : List Rn) (r : Rn) : (addRun runs r).length ≤ runs.length + 1 := by
  rcases List.eq_nil_or_concat runs with rfl | ⟨ys, x, rfl⟩
  · simp [addRun_nil]
  · rw [List.concat_eq_append]
    by_cases h : r.times = 1 ∧ x.times = 1
    · rw [addRun_in h.1 h.2]; simp
    · rw [addRun_not h]; simp

/-- All runs, with fuel. -/
def foldG (l : List Fr) : Nat → List Rn → Nat → List Rn
  | 0, runs, _ => runs
  | n + 1, runs, i => if i < l.length then foldG l n (addRun runs ⟨i, (best (l.drop i)).1, (best (l.drop i)).2⟩) (i + (best (l.drop i)).1 * (best (l.drop i)).2) else runs
def foldN (l : List Fr) : List Rn := foldG l l.length [] 0
theorem foldG_end {l : List Fr} {n : Nat} {runs : List Rn} {i : Nat} (h : l.length ≤ i) : foldG l n runs i = runs := by
  cases n with
  | zero => rfl
  | succ n => rw [foldG, if_neg (by omega)]
theorem foldG_step {l : List Fr} {n : Nat} {runs : List Rn} {i : Nat} (h : i < l.length) (hn : l.length - i ≤ n) :
    ∃ n', foldG l n runs i = foldG l n' (addRun runs ⟨i, (best (l.drop i)).1, (best (l.drop i)).2⟩) (i + (best (l.drop i)).1 * (best (l.drop i)).2) ∧ l.length - (i + (best (l.drop i)).1 * (best (l.drop i)).2) ≤ n' := by
  cases n with
  | zero => omega
  | succ n =>
    refine ⟨n, by rw [foldG, if_pos h], ?_⟩
    obtain ⟨h1, h2, _⟩ := bestK_ok (l.drop i) (by rw [List.length_drop]; omega) _ (Nat.le_refl _)
    have e : 1 * 1 ≤ (best (l.drop i)).1 * (best (l.drop i)).2 := Nat.mul_le_mul h1 h2
    omega

/-- A piece of a slice of frames. -/
theorem slF_sub {w : World} {b off cap lo hi : Nat} {l : List Fr} (hl : l.length ≤ cap) (hc : cap ≤ maxLen) (hf : ∀ x ∈ l, x.fit) (hb : b < w.heap.size) (h : FrsAt w b off l) (h1 : lo ≤ hi) (h2 : hi ≤ l.length) :
    SlF w (.slice (some ⟨b, off + lo * 6, none⟩) (hi - lo) (cap - lo)) ((l.drop lo).take (hi - lo)) :=
  ⟨_, cap - lo, by rw [List.length_take, List.length_drop, Nat.min_eq_left (by omega)], by rw [List.length_take, List.length_drop]; omega, by omega, fun x hx => hf x (List.mem_of_mem_drop (List.mem_of_mem_take hx)), .inr ⟨b, off + lo * 6, rfl, hb, (h.drop lo).take _⟩⟩
end Go.Proofs.YtihnpbhcddapdabGreatDoor

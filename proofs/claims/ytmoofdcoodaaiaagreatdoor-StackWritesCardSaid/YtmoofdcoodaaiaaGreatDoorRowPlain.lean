/- Rows of frames as cells, and runs unfolded: lists alone. -/
import Derived.Test.YtmoofdcoodaaiaaGreatDoorRunsPlain
namespace Go.Proofs.YtmoofdcoodaaiaaGreatDoor
open Go.RowKit

def cellsOf (l : List Fr) : List Value := l.flatMap Fr.cells
theorem cellsOf_length (l : List Fr) : (cellsOf l).length = l.length * 6 := by
  induction l with
  | nil => rfl
  | cons x l ih => rw [cellsOf, List.flatMap_cons, List.length_append]; rw [cellsOf] at ih; rw [ih]; simp [Fr.cells]; omega
theorem cellsOf_append (a b : List Fr) : cellsOf (a ++ b) = cellsOf a ++ cellsOf b := by simp [cellsOf]
theorem cellsOf_one {l : List Fr} : ∀ u ∈ cellsOf l, u.oneCell' = true := by
  intro u hu
  obtain ⟨x, _, hx⟩ := List.mem_flatMap.1 hu
  simp only [Fr.cells, List.mem_cons, List.not_mem_nil, or_false] at hx
  rcases hx with rfl | rfl | rfl | rfl | rfl | rfl <;> rfl
theorem cellsOf_at : ∀ {l : List Fr} {k : Nat} (h : k < l.length) {j : Nat}, j < 6 → (cellsOf l)[k * 6 + j]? = (l[k].cells)[j]?
  | x :: l, 0, _, j, hj => by
    rw [cellsOf, List.flatMap_cons, List.getElem?_append_left (by simp [Fr.cells]; omega)]; simp
  | x :: l, k + 1, h, j, hj => by
    rw [cellsOf, List.flatMap_cons, List.getElem?_append_right (by simp [Fr.cells]; omega)]
    have e : (k + 1) * 6 + j - x.cells.length = k * 6 + j := by simp [Fr.cells]; omega
    rw [e, ← cellsOf, cellsOf_at (by simpa using h) hj]
    simp

/-- The cells of a frame, by their place. -/
theorem FrAt.cell {w : World} {b o : Nat} {x : Fr} (h : FrAt w b o x) {j : Nat} (hj : j < 6) : w.cell? ⟨b, o + j, none⟩ = x.cells[j]? := by
  obtain ⟨c0, c1, c2, c3, c4, c5⟩ := h
  obtain rfl | rfl | rfl | rfl | rfl | rfl : j = 0 ∨ j = 1 ∨ j = 2 ∨ j = 3 ∨ j = 4 ∨ j = 5 := by omega
  · exact c0
  · exact c1
  · exact c2
  · exact c3
  · exact c4
  · exact c5
theorem FrAt.mk' {w : World} {b o : Nat} {x : Fr} (h : ∀ j, j < 6 → w.cell? ⟨b, o + j, none⟩ = x.cells[j]?) : FrAt w b o x :=
  ⟨h 0 (by omega), h 1 (by omega), h 2 (by omega), h 3 (by omega), h 4 (by omega), h 5 (by omega)⟩
theorem FrsAt.cells {w : World} {b off : Nat} {l : List Fr} (h : FrsAt w b off l) (j : Nat) (u : Value) (hu : (cellsOf l)[j]? = some u) : w.cell? ⟨b, off + j, none⟩ = some u := by
  have hj : j < l.length * 6 := by rw [← cellsOf_length]; exact (List.getElem?_eq_some_iff.1 hu).1
  have hk : j / 6 < l.length := by omega
  have e : j = (j / 6) * 6 + j % 6 := by omega
  have h1 := (h _ hk).cell (j := j % 6) (by omega)
  rw [← cellsOf_at hk (by omega), ← e, hu, Nat.add_assoc, ← e] at h1
  exact h1
theorem FrsAt.take {w : World} {b off : Nat} {l : List Fr} (h : FrsAt w b off l) (n : Nat) : FrsAt w b off (l.take n) := by
  intro k hk
  have hk' : k < l.length := by rw [List.length_take] at hk; omega
  rw [List.getElem_take]; exact h k hk'
theorem FrsAt.drop {w : World} {b off : Nat} {l : List Fr} (h : FrsAt w b off l) (n : Nat) : FrsAt w b (off + n * 6) (l.drop n) := by
  intro k hk
  have hk' : n + k < l.length := by rw [List.length_drop] at hk; omega
  rw [List.getElem_drop, show off + n * 6 + k * 6 = off + (n + k) * 6 by omega]; exact h _ hk'

/-- A row of the call's own holds frames: it is a slice of them. -/
theorem slF_of_owns {w : World} {base : Nat} {e : TypeId} {v : Value} {n : Nat} {l : List Fr} (h : w.ownsRow base e 6 v n (cellsOf l)) (hf : ∀ x ∈ l, x.fit) : SlF w v l := by
  obtain ⟨hlen, h⟩ := h
  rw [cellsOf_length] at hlen
  obtain rfl : n = l.length := by omega
  rcases h with ⟨rfl, h0⟩ | ⟨g, cap, cur, rfl, _, hg, hn, hc, hsz, htk⟩
  · exact ⟨none, 0, by rw [h0], by omega, by simp [maxLen], hf, .inl (List.length_eq_zero_iff.1 h0)⟩
  · refine ⟨_, cap, rfl, hn, hc, hf, .inr ⟨g, 0, rfl, (Array.getElem?_eq_some_iff.1 hg).1, fun k hk => FrAt.mk' fun j hj => ?_⟩⟩
    rw [← cellsOf_at hk hj, ← htk, Nat.zero_add]
    simp only [World.cell?, hg]
    rw [List.getElem?_take_of_lt (by omega)]
    simp

/-! ### Unfold -/
def rep (n : Nat) (x : List Fr) : List Fr := (List.replicate n x).flatten
theorem rep_succ (n : Nat) (x : List Fr) : rep (n + 1) x = rep n x ++ x := by rw [rep, List.replicate_succ', List.flatten_append]; simp [rep]
theorem rep_length (n : Nat) (x : List Fr) : (rep n x).length = n * x.length := by induction n with | zero => simp [rep] | succ n ih => rw [rep_succ, List.length_append, ih, Nat.succ_mul]
def unf : List Fr → List Rn → List Fr
  | _, [] => []
  | l, r :: rs => rep r.times.toNat (l.take r.long.toNat) ++ unf (l.drop r.long.toNat) rs
def eat : List Fr → List Rn → List Fr
  | l, [] => l
  | l, r :: rs => eat (l.drop r.long.toNat) rs
theorem unf_snoc (r : Rn) : ∀ (l : List Fr) (rs : List Rn), unf l (rs ++ [r]) = unf l rs ++ rep r.times.toNat ((eat l rs).take r.long.toNat)
  | l, [] => by simp [unf, eat]
  | l, a :: rs => by rw [List.cons_append, unf, unf, unf_snoc r, eat, List.append_assoc]
theorem eat_snoc (r : Rn) : ∀ (l : List Fr) (rs : List Rn), eat l (rs ++ [r]) = (eat l rs).drop r.long.toNat
  | l, [] => by simp [eat]
  | l, a :: rs => by rw [List.cons_append, eat, eat, eat_snoc r]
theorem eat_length : ∀ (l : List Fr) (rs : List Rn), (∀ x ∈ rs, x.ok = true) → sumL rs ≤ l.length → ((eat l rs).length : Int) = l.length - sumL rs
  | l, [], _, _ => by simp [eat, sumL]
  | l, a :: rs, h, hs => by
    have h1 := a.ok_iff.1 (h a (by simp))
    have h2 := sumL_le (l := rs) fun x hx => h x (by simp [hx])
    rw [sumL] at hs ⊢
    rw [eat, eat_length _ rs (fun x hx => h x (by simp [hx])) (by rw [List.length_drop]; omega), List.length_drop]
    omega
theorem mem_eat : ∀ {l : List Fr} {rs : List Rn} {x : Fr}, x ∈ eat l rs → x ∈ l
  | _, [], _, h => h
  | _, _ :: _, _, h => List.mem_of_mem_drop (mem_eat h)
theorem mem_rep {n : Nat} {l : List Fr} {x : Fr} (h : x ∈ rep n l) : x ∈ l := by
  obtain ⟨y, hy, hx⟩ := List.mem_flatten.1 h
  rw [List.mem_replicate] at hy
  rw [← hy.2]; exact hx
theorem mem_unf : ∀ {l : List Fr} {rs : List Rn} {x : Fr}, x ∈ unf l rs → x ∈ l
  | _, [], _, h => absurd h (by simp [unf])
  | l, r :: rs, x, h => by
    rw [unf, List.mem_append] at h
    rcases h with h | h
    · exact List.mem_of_mem_take (mem_rep h)
    · exact List.mem_of_mem_drop (mem_unf h)
theorem unf_length : ∀ (l : List Fr) (rs : List Rn), (∀ x ∈ rs, x.ok = true) → ((unf l rs).length : Int) ≤ totL rs
  | l, [], _ => by simp [unf, totL]
  | l, r :: rs, h => by
    obtain ⟨h1, _, h3, _⟩ := r.ok_iff.1 (h r (by simp))
    have h2 := unf_length (l.drop r.long.toNat) rs fun x hx => h x (by simp [hx])
    rw [unf, List.length_append, rep_length, totL, List.length_take]
    have e : r.times.toNat * min r.long.toNat l.length ≤ r.times.toNat * r.long.toNat := Nat.mul_le_mul_left _ (Nat.min_le_left _ _)
    have e2 : ((r.times.toNat * r.long.toNat : Nat) : Int) = r.long * r.times := by
      rw [Int.natCast_mul, Int.toNat_of_nonneg (by omega), Int.toNat_of_nonneg (by omega), Int.mul_comm]
    omega

theorem take_rn_succ {rs : List Rn} {k : Nat} (h : k < rs.length) : rs.take (k + 1) = rs.take k ++ [rs[k]] := List.take_succ_eq_append_getElem h

theorem runsErr_zero {l : List Rn} {n : Int} (h : runsErr l n = 0) : (∀ x ∈ l, x.ok = true) ∧ sumL l = n ∧ totL l ≤ 200 := by
  unfold runsErr at h
  split at h
  · omega
  rename_i h1
  split at h
  · omega
  rename_i h2
  split at h
  · omega
  split at h
  · omega
  exact ⟨by simpa using h1, by omega, by omega⟩
theorem frsErr_zero {l : List Fr} (h : frsErr l = 0) : l.length ≤ 200 := by
  unfold frsErr at h
  split at h
  · omega
  · omega
theorem sumL_take_le {l : List Rn} (h : ∀ x ∈ l, x.ok = true) (k : Nat) : sumL (l.take k) ≤ sumL l := by
  have e := congrArg sumL (List.take_append_drop k l)
  rw [sumL_append] at e
  have := sumL_le (l := l.drop k) fun x hx => h x (List.mem_of_mem_drop hx)
  omega
theorem totL_take_le {l : List Rn} (h : ∀ x ∈ l, x.ok = true) (k : Nat) : totL (l.take k) ≤ totL l := by
  have e := congrArg totL (List.take_append_drop k l)
  rw [totL_append] at e
  have := totL_le (l := l.drop k) fun x hx => h x (List.mem_of_mem_drop hx)
  omega
/-- What a round needs: the run fits what is left, and the frames so far are few. -/
theorem round_fits {l : List Fr} {rs : List Rn} {k : Nat} (hk : k < rs.length) (ho : ∀ x ∈ rs, x.ok = true) (hs : sumL rs = l.length) (ht : totL rs ≤ 200) :
    rs[k].long ≤ (eat l (rs.take k)).length ∧ ((unf l (rs.take k)).length : Int) + rs[k].long * rs[k].times ≤ 200 := by
  have h1 := sumL_take_le ho (k + 1)
  have h2 := totL_take_le ho (k + 1)
  rw [sumL_succ hk] at h1
  rw [totL_succ hk] at h2
  have hot : ∀ x ∈ rs.take k, x.ok = true := fun x hx => ho x (List.mem_of_mem_take hx)
  have h4 := (rs[k]).ok_iff.1 (ho _ (List.getElem_mem hk))
  have h3 := eat_length l (rs.take k) hot (by omega)
  have h5 := unf_length l (rs.take k) hot
  omega

/-- The own row's block holds frames: no other kind of block is it. -/
theorem own_ne {w : World} {base : Nat} {e : TypeId} {size : Nat} {v : Value} {n : Nat} {xs : List Value} {g : Nat} {cs : Array Value} {t : TypeId} {fr : Nat × Nat} (h : w.ownsRow base e size v n xs) (hg : w.heap[g]? = some (.cells cs t fr)) (ht : t ≠ e) : v.ownBlock ≠ some g := by
  obtain ⟨_, ⟨rfl, _⟩ | ⟨g', cap, cur, rfl, _, hg', _⟩⟩ := h
  · simp [Value.ownBlock]
  · simp only [Value.ownBlock]
    intro he
    simp only [Option.some.injEq] at he
    subst he
    rw [hg'] at hg
    simp at hg
    exact ht hg.2.1.symm
theorem own_ge {w : World} {base : Nat} {e : TypeId} {size : Nat} {v : Value} {n : Nat} {xs : List Value} (h : w.ownsRow base e size v n xs) : ∀ k, v.ownBlock = some k → base ≤ k := by
  obtain ⟨_, ⟨rfl, _⟩ | ⟨g', cap, cur, rfl, hb, _⟩⟩ := h
  · simp [Value.ownBlock]
  · simp only [Value.ownBlock]
    intro k hk
    simp only [Option.some.injEq] at hk
    omega
theorem box_kept {w w' : World} {r : Option Nat} {g : Nat} {x : Obj} (hg : w.grownBy w' r) (hx : w.heap[g]? = some x) (hne : r ≠ some g) : w'.heap[g]? = some x := by
  rw [hg.block g (Array.getElem?_eq_some_iff.1 hx).1 (fun h => hne h.symm), hx]
theorem add_none (b o i : Nat) : (⟨b, o, none⟩ : Addr).add i = ⟨b, o + i, none⟩ := by unfold Addr.add; split <;> simp_all
/-- What is behind the first frames of a slice. -/
theorem slF_drop {w : World} {b off cap n : Nat} {l : List Fr} (hl : l.length ≤ cap) (hc : cap ≤ maxLen) (hf : ∀ x ∈ l, x.fit) (hb : b < w.heap.size) (h : FrsAt w b off l) (hn : n ≤ l.length) :
    SlF w (.slice (if cap = n then some ⟨b, off, none⟩ else some ⟨b, off + n * 6, none⟩) (l.length - n) (cap - n)) (l.drop n) := by
  refine ⟨_, cap - n, by rw [List.length_drop], by rw [List.length_drop]; omega, by omega, fun x hx => hf x (List.mem_of_mem_drop hx), ?_⟩
  by_cases he : cap = n
  · left; rw [List.drop_eq_nil_iff]; omega
  · right; rw [if_neg he]; exact ⟨b, _, rfl, hb, h.drop n⟩
theorem slF_take {w : World} {b off cap n : Nat} {l : List Fr} (hl : l.length ≤ cap) (hc : cap ≤ maxLen) (hf : ∀ x ∈ l, x.fit) (hb : b < w.heap.size) (h : FrsAt w b off l) (hn : n ≤ l.length) :
    SlF w (.slice (some ⟨b, off, none⟩) n cap) (l.take n) :=
  ⟨_, cap, by rw [List.length_take, Nat.min_eq_left hn], by rw [List.length_take]; omega, hc, fun x hx => hf x (List.mem_of_mem_take hx), .inr ⟨b, off, rfl, hb, h.take n⟩⟩
end Go.Proofs.YtmoofdcoodaaiaaGreatDoor

/- Lists of calls, once more: what the loop over calls asks. Rows of the call's own. -/
import Derived.Test.YtcdaalnjanncmaaDoorSymK
namespace Go.Proofs.YtcdaalnjanncmaaDoor
open Go.RowKit Go.Deep

section
variable {size nf : Int} {fs : List Fc} {pre : List Cl} {c : Cl} {l : List Cl}
theorem calsErr_err (h : callErr size nf fs pre c ≠ 0) : calsErr size nf fs pre (c :: l) = callErr size nf fs pre c := by rw [calsErr, if_pos h]
theorem calsErr_next (h : callErr size nf fs pre c = 0) : calsErr size nf fs pre (c :: l) = calsErr size nf fs (pre ++ [c]) l := by rw [calsErr, if_neg (by rw [h]; decide)]
theorem callErr_name (h : namErr c.n ≠ 0) : callErr size nf fs pre c = namErr c.n := by rw [callErr, if_pos h]
theorem callErr_bad (h : namErr c.n = 0) (hb : callBad size nf c) : callErr size nf fs pre c = 2 := by rw [callErr, if_neg (by rw [h]; decide), if_pos hb]
theorem callErr_ord (h : namErr c.n = 0) (hb : ¬ callBad size nf c) (ho : disord pre c) : callErr size nf fs pre c = 5 := by rw [callErr, if_neg (by rw [h]; decide), if_neg hb, if_pos ho]
theorem callErr_tail (h : namErr c.n = 0) (hb : ¬ callBad size nf c) (ho : ¬ disord pre c) : callErr size nf fs pre c = if ¬ within fs c ∨ cuts pre c then 11 else if 10 ≤ deep pre c then 13 else 0 := by rw [callErr, if_neg (by rw [h]; decide), if_neg hb, if_neg ho]
theorem callErr_out (h : namErr c.n = 0) (hb : ¬ callBad size nf c) (ho : ¬ disord pre c) (hw : ¬ within fs c ∨ cuts pre c) : callErr size nf fs pre c = 11 := by rw [callErr_tail h hb ho, if_pos hw]
theorem callErr_deep (h : namErr c.n = 0) (hb : ¬ callBad size nf c) (ho : ¬ disord pre c) (hw : within fs c) (hk : ¬ cuts pre c) (hd : 10 ≤ deep pre c) : callErr size nf fs pre c = 13 := by
  rw [callErr_tail h hb ho, if_neg (by rw [not_or, Classical.not_not]; exact ⟨hw, hk⟩), if_pos hd]
theorem callErr_ok (h : namErr c.n = 0) (hb : ¬ callBad size nf c) (ho : ¬ disord pre c) (hw : within fs c) (hk : ¬ cuts pre c) (hd : ¬ 10 ≤ deep pre c) : callErr size nf fs pre c = 0 := by
  rw [callErr_tail h hb ho, if_neg (by rw [not_or, Classical.not_not]; exact ⟨hw, hk⟩), if_neg hd]
theorem disord_nil : ¬ disord [] c := by intro h; obtain ⟨d, hd, _⟩ := disord_iff.1 h; simp at hd
theorem begB_iff {d : Cl} : begB c d = true ↔ (c.a < d.a ∨ c.a = d.a ∧ d.b < c.b) := by unfold begB; simp
theorem last_take {j : Nat} {d : Cl} (h : l[j]? = some d) : (l.take (j + 1)).getLast? = some d := by
  obtain ⟨hj, hx⟩ := List.getElem?_eq_some_iff.1 h
  rw [List.take_succ_eq_append_getElem hj, hx]; simp
theorem disord_take {j : Nat} {d : Cl} (h : l[j]? = some d) : disord (l.take (j + 1)) c ↔ begB c d = true := by
  rw [disord_iff, last_take h, begB_iff]
  constructor
  · rintro ⟨e, he, h⟩; obtain rfl := Option.some.inj he; exact h
  · intro h; exact ⟨d, rfl, h⟩
theorem around_left (ho : ¬ disord pre c) : left c.a (aroundOf pre) = opens pre c := by
  rw [← opens_of_around ho]
  unfold left
  apply List.filter_congr
  intro e _
  rw [Bool.eq_iff_iff]; simp
theorem around_len : (aroundOf pre).length ≤ pre.length := by
  unfold aroundOf
  split
  · simp
  · exact List.length_filter_le _ _
end

theorem cell_keep {W W' : World} {p : Addr} {v : Value} (h : W.cell? p = some v) (hb : Below W.heap.size W W') : W'.cell? p = some v := (hb.cell (World.block_lt_of_cell? _ _ h)).trans h
theorem below_keep {B : Nat} {a W W' : World} (h : Below B a W) (hB : B ≤ a.heap.size) (hb : Below W.heap.size W W') : Below B a W' := h.trans (hb.mono (by have := h.size; omega))
section
variable {w w' : World} {base : Nat} {e : TypeId} {size : Nat} {v : Value} {n : Nat} {xs : List Value}
theorem own_keeps (h : w.ownsRow base e size v n xs) (hb : Below w.heap.size w w') : w'.ownsRow base e size v n xs := by
  obtain ⟨h1, h2⟩ := h
  refine ⟨h1, ?_⟩
  rcases h2 with h2 | ⟨g, cap, cur, hv, hg, hc, r⟩
  · exact Or.inl h2
  · exact Or.inr ⟨g, cap, cur, hv, hg, (hb.block _ (Array.getElem?_eq_some_iff.1 hc).1).trans hc, r⟩
theorem own_mono {base' : Nat} (h : w.ownsRow base e size v n xs) (hB : base' ≤ base) : w.ownsRow base' e size v n xs := by
  obtain ⟨h1, h2⟩ := h
  refine ⟨h1, ?_⟩
  rcases h2 with h2 | ⟨g, cap, cur, hv, hg, r⟩
  · exact Or.inl h2
  · exact Or.inr ⟨g, cap, cur, hv, by omega, r⟩
theorem own_lt (h : w.ownsRow base e size v n xs) {k : Nat} (hk : v.ownBlock = some k) : base ≤ k ∧ k < w.heap.size := h.lt k hk
/-- A row with an element is a slice at a block. -/
theorem own_slice (h : w.ownsRow base e size v n xs) (hn : 0 < n) : ∃ g cap, v = .slice (some ⟨g, 0, none⟩) n cap ∧ base ≤ g ∧ g < w.heap.size ∧ ∀ j u, xs[j]? = some u → w.cell? ⟨g, j, none⟩ = some u := by
  obtain ⟨h1, ⟨_, h2⟩ | ⟨g, cap, cur, hv, hg, hc, h3, h4, h5, h6⟩⟩ := h
  · omega
  · refine ⟨g, cap, hv, hg, (Array.getElem?_eq_some_iff.1 hc).1, fun j u hj => ?_⟩
    simp only [World.cell?, hc]
    rw [← h6, List.getElem?_take] at hj
    split at hj
    · simpa using hj
    · exact absurd hj (by simp)
theorem own_len (h : w.ownsRow base e size v n xs) : ∃ p cap, v = .slice p n cap := by
  obtain ⟨_, ⟨h2, h3⟩ | ⟨g, cap, cur, hv, _⟩⟩ := h
  · subst h3; exact ⟨_, _, h2⟩
  · exact ⟨_, _, hv⟩
/-- A cell that is not of the row that grew. -/
theorem cell_grown {p : Addr} {u : Value} {row : Option Nat} (hg : w.grownBy w' row) (h : w.cell? p = some u) (hne : row ≠ some p.block) : w'.cell? p = some u := hg.cell h (fun h => hne h.symm)
theorem below_grown {B : Nat} {a : World} {row : Option Nat} (h : Below B a w) (hg : w.grownBy w' row) (hr : ∀ k, row = some k → B ≤ k) (hB : B ≤ w.heap.size) : Below B a w' :=
  ⟨hg.os.trans h.os, hg.tape.trans h.tape, hg.output.trans h.output, Nat.le_trans h.size hg.size, fun k hk => (hg.block k (by omega) (fun e => by have := hr k e.symm; omega)).trans (h.block k hk)⟩
end
theorem cellsC_at {l : List Cl} {i : Nat} {x : Cl} (h : l[i]? = some x) {j : Nat} (hj : j < 5) : (cellsG encC l)[i * 5 + j]? = (encC x)[j]? := by
  obtain ⟨hi, rfl⟩ := List.getElem?_eq_some_iff.1 h
  exact cellsG_at (k := 5) (fun _ => rfl) hi hj
theorem cellsC_len (l : List Cl) : (cellsG encC l).length = l.length * 5 := cellsG_length (enc := encC) (k := 5) (fun _ => rfl) l
theorem cellsC_snoc (l : List Cl) (c : Cl) : cellsG encC (l ++ [c]) = cellsG encC l ++ encC c := by rw [cellsG_append]; simp [cellsG]
theorem cellsC_one (l : List Cl) : ∀ u ∈ cellsG encC l, u.oneCell' = true := by
  intro u hu
  obtain ⟨x, _, hx⟩ := List.mem_flatMap.1 hu
  simp only [encC, List.mem_cons, List.not_mem_nil, or_false] at hx
  rcases hx with rfl | rfl | rfl | rfl | rfl <;> rfl
end Go.Proofs.YtcdaalnjanncmaaDoor

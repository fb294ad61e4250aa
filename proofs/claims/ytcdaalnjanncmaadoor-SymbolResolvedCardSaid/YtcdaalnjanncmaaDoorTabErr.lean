/- The errors of tables and of modules: lists alone. -/
import Derived.Test.YtcdaalnjanncmaaDoorTabPlain
import Derived.Test.YtcdaalnjanncmaaDoorPlain
namespace Go.Proofs.YtcdaalnjanncmaaDoor
open Go.RowKit

def noB : ByteArray := ⟨#[]⟩
def fB : ByteArray := ⟨#[102]⟩
/-- A string has a `!`. -/
def bang (s : ByteArray) : Bool := decide (0 ≤ Lib.indexByte s.data.toList 33)
/-- The error of a name of a function. -/
def namErr (s : ByteArray) : Int := if frErr ⟨noB, s, noB, 0, -1, false⟩ ≠ 0 then frErr ⟨noB, s, noB, 0, -1, false⟩ else if bang s = true then 9 else 0
/-- The error of a file alone. -/
def filErr (s : ByteArray) : Int := if s.size = 0 then 1 else frErr ⟨noB, fB, s, 0, -1, false⟩
/-- The error of a module's name. -/
def modErr (s : ByteArray) : Int := if s.size = 0 then 1 else if frErr ⟨s, fB, noB, 0, -1, false⟩ ≠ 0 then frErr ⟨s, fB, noB, 0, -1, false⟩ else if bang s = true then 9 else 0

def idSet : List UInt8 := [48, 49, 50, 51, 52, 53, 54, 55, 56, 57, 97, 98, 99, 100, 101, 102]
def isIdB (s : ByteArray) : Bool := decide (s.size = 16) && s.data.toList.all (fun c => decide (c ∈ idSet))

/-- Is an earlier string equal? -/
def filsErr : List ByteArray → List ByteArray → Int
  | _, [] => 0
  | pre, s :: l => if filErr s ≠ 0 then filErr s else if Lib.containsS pre s = true then 6 else filsErr (pre ++ [s]) l
def spanOk (a b size : Int) : Prop := 0 ≤ a ∧ a < b ∧ b ≤ size
instance (a b size : Int) : Decidable (spanOk a b size) := by unfold spanOk; infer_instance
def fncsErr (size : Int) : Int → List Fc → Int
  | _, [] => 0
  | e, f :: l => if namErr f.n ≠ 0 then namErr f.n else if ¬ spanOk f.a f.b size then 2 else if f.a < e then 5 else fncsErr size f.b l
def rowBad (size nf : Int) (r : Rw) : Prop := r.p < 0 ∨ size ≤ r.p ∨ r.f < -1 ∨ nf ≤ r.f ∨ r.l < 0 ∨ 9999999 < r.l
instance (size nf : Int) (r : Rw) : Decidable (rowBad size nf r) := by unfold rowBad; infer_instance
def rowOdd (r : Rw) : Prop := (r.f = -1 ∧ r.l ≠ 0) ∨ (r.f ≠ -1 ∧ r.l = 0)
instance (r : Rw) : Decidable (rowOdd r) := by unfold rowOdd; infer_instance
def rowsErr (size nf : Int) : Int → List Rw → Int
  | _, [] => 0
  | e, r :: l => if rowBad size nf r then 2 else if rowOdd r then 1 else if r.p ≤ e then 5 else rowsErr size nf r.p l
def callBad (size nf : Int) (c : Cl) : Prop := ¬ spanOk c.a c.b size ∨ c.f < 0 ∨ nf ≤ c.f ∨ c.l < 1 ∨ 9999999 < c.l
instance (size nf : Int) (c : Cl) : Decidable (callBad size nf c) := by unfold callBad; infer_instance
/-- A call stands before the one before it. -/
def disord (pre : List Cl) (c : Cl) : Prop := (pre.getLast?.any fun d => decide (c.a < d.a ∨ c.a = d.a ∧ d.b < c.b)) = true
instance (pre : List Cl) (c : Cl) : Decidable (disord pre c) := by unfold disord; infer_instance
theorem disord_iff {pre : List Cl} {c : Cl} : disord pre c ↔ ∃ d, pre.getLast? = some d ∧ (c.a < d.a ∨ c.a = d.a ∧ d.b < c.b) := by unfold disord; rw [Option.any_eq_true]; simp
/-- A function has all offsets of a call. -/
def within (fs : List Fc) (c : Cl) : Prop := (fs.any fun f => decide (f.a ≤ c.a ∧ c.b ≤ f.b)) = true
instance (fs : List Fc) (c : Cl) : Decidable (within fs c) := by unfold within; infer_instance
theorem within_def {fs : List Fc} {c : Cl} : within fs c ↔ ∃ f ∈ fs, f.a ≤ c.a ∧ c.b ≤ f.b := by unfold within; rw [List.any_eq_true]; simp
/-- An earlier call has some offsets of a call, and not all. -/
def cuts (pre : List Cl) (c : Cl) : Prop := (pre.any fun d => decide (¬ (d.a ≤ c.a ∧ c.b ≤ d.b) ∧ d.a < c.b ∧ c.a < d.b)) = true
instance (pre : List Cl) (c : Cl) : Decidable (cuts pre c) := by unfold cuts; infer_instance
theorem cuts_def {pre : List Cl} {c : Cl} : cuts pre c ↔ ∃ d ∈ pre, ¬ (d.a ≤ c.a ∧ c.b ≤ d.b) ∧ d.a < c.b ∧ c.a < d.b := by unfold cuts; rw [List.any_eq_true]; simp only [decide_eq_true_eq]
/-- How many earlier calls have all offsets of a call. -/
def deep (pre : List Cl) (c : Cl) : Nat := (pre.filter fun d => decide (d.a ≤ c.a ∧ c.b ≤ d.b)).length
def callErr (size nf : Int) (fs : List Fc) (pre : List Cl) (c : Cl) : Int :=
  if namErr c.n ≠ 0 then namErr c.n else if callBad size nf c then 2 else if disord pre c then 5 else if ¬ within fs c ∨ cuts pre c then 11 else if 10 ≤ deep pre c then 13 else 0
def calsErr (size nf : Int) (fs : List Fc) : List Cl → List Cl → Int
  | _, [] => 0
  | pre, c :: l => if callErr size nf fs pre c ≠ 0 then callErr size nf fs pre c else calsErr size nf fs (pre ++ [c]) l

/-- The errors of the four lists. -/
def eFiles (t : Tb) : Int := if 200 < t.files.length then 4 else filsErr [] t.files
def eFuncs (t : Tb) : Int := if 1000 < t.funcs.length then 4 else fncsErr t.size 0 t.funcs
def eRows (t : Tb) : Int := if 5000 < t.rows.length then 4 else rowsErr t.size t.files.length (-1) t.rows
def eCalls (t : Tb) : Int := if 1000 < t.calls.length then 4 else calsErr t.size t.files.length t.funcs [] t.calls
/-- The error of a table. -/
def tabErr (t : Tb) : Int :=
  if isIdB t.id = false then 1 else if t.size < 1 ∨ 4294967296 < t.size then 2
  else if eFiles t ≠ 0 then eFiles t else if eFuncs t ≠ 0 then eFuncs t else if eRows t ≠ 0 then eRows t else eCalls t

/-! ### What is known behind a check -/
theorem fncs_ok {size : Int} : ∀ {l : List Fc} {e : Int}, fncsErr size e l = 0 → (∀ f ∈ l, spanOk f.a f.b size ∧ e ≤ f.a) ∧ l.Pairwise (fun f g => f.b ≤ g.a)
  | [], _, _ => by simp
  | f :: l, e, h => by
    rw [fncsErr] at h
    split at h
    · omega
    · split at h
      · omega
      · rename_i h1 h2
        rw [Classical.not_not] at h2
        split at h
        · omega
        · obtain ⟨k1, k2⟩ := fncs_ok h
          refine ⟨?_, List.pairwise_cons.2 ⟨fun g hg => (k1 g hg).2, k2⟩⟩
          intro g hg
          rw [List.mem_cons] at hg
          rcases hg with rfl | hg
          · exact ⟨h2, by omega⟩
          · have := (k1 g hg); unfold spanOk at *; omega
theorem rows_ok {size nf : Int} : ∀ {l : List Rw} {e : Int}, rowsErr size nf e l = 0 → (∀ r ∈ l, ¬ rowBad size nf r ∧ ¬ rowOdd r ∧ e < r.p) ∧ l.Pairwise (fun r s => r.p < s.p)
  | [], _, _ => by simp
  | r :: l, e, h => by
    rw [rowsErr] at h
    split at h
    · omega
    · rename_i h1
      split at h
      · omega
      · rename_i h2
        split at h
        · omega
        · obtain ⟨k1, k2⟩ := rows_ok h
          refine ⟨?_, List.pairwise_cons.2 ⟨fun g hg => (k1 g hg).2.2, k2⟩⟩
          intro g hg
          rw [List.mem_cons] at hg
          rcases hg with rfl | hg
          · exact ⟨h1, h2, by omega⟩
          · have := k1 g hg; exact ⟨this.1, this.2.1, by omega⟩
end Go.Proofs.YtcdaalnjanncmaaDoor
namespace Go.Proofs.YtcdaalnjanncmaaDoor
open Go.RowKit

/-! ### Calls within one another -/
/-- Of two calls the later one begins no earlier, and is apart from the other one or within it. -/
def nests (l : List Cl) : Prop := l.Pairwise (fun d e => d.a ≤ e.a ∧ (d.b ≤ e.a ∨ e.b ≤ d.b))
/-- The earlier calls that have where the last one begins. -/
def aroundOf (pre : List Cl) : List Cl :=
  match pre.getLast? with
  | none => []
  | some d => pre.filter fun e => decide (d.a < e.b)
/-- The earlier calls that have where a call begins. -/
def opens (pre : List Cl) (c : Cl) : List Cl := pre.filter fun e => decide (c.a < e.b)

theorem callErr_zero {size nf : Int} {fs : List Fc} {pre : List Cl} {c : Cl} (h : callErr size nf fs pre c = 0) :
    namErr c.n = 0 ∧ ¬ callBad size nf c ∧ ¬ disord pre c ∧ within fs c ∧ ¬ cuts pre c ∧ deep pre c < 10 := by
  unfold callErr at h
  split at h
  · omega
  rename_i h1
  split at h
  · omega
  rename_i h2
  split at h
  · omega
  rename_i h3
  split at h
  · omega
  rename_i h4
  split at h
  · omega
  rename_i h5
  rw [not_or, Classical.not_not] at h4
  exact ⟨Classical.not_not.1 h1, h2, h3, h4.1, h4.2, by omega⟩

theorem nests_last {pre : List Cl} {c d : Cl} (h : nests (pre ++ [c])) (hd : d ∈ pre) : d.a ≤ c.a :=
  ((List.pairwise_append.1 h).2.2 d hd c (by simp)).1
theorem nests_le {pre : List Cl} {c d : Cl} (h : nests pre) (ho : ¬ disord pre c) (hd : d ∈ pre) : d.a ≤ c.a := by
  rcases List.eq_nil_or_concat pre with rfl | ⟨q, e, rfl⟩
  · simp at hd
  · rw [List.concat_eq_append] at *
    have h1 : ¬ (c.a < e.a) := fun hlt => ho (disord_iff.2 ⟨e, by simp, .inl hlt⟩)
    rw [List.mem_append, List.mem_singleton] at hd
    rcases hd with hd | rfl
    · have := nests_last h hd; omega
    · omega
theorem nests_snoc {size nf : Int} {fs : List Fc} {pre : List Cl} {c : Cl} (h : nests pre) (hc : callErr size nf fs pre c = 0) : nests (pre ++ [c]) := by
  obtain ⟨_, hb, ho, _, hk, _⟩ := callErr_zero hc
  refine List.pairwise_append.2 ⟨h, List.pairwise_singleton _ _, ?_⟩
  intro d hd e he
  rw [List.mem_singleton] at he
  subst he
  have h1 := nests_le h ho hd
  refine ⟨h1, ?_⟩
  by_cases h2 : d.b ≤ e.a
  · exact .inl h2
  · refine .inr ?_
    apply Classical.byContradiction
    intro h3
    have hs : spanOk e.a e.b size := Classical.byContradiction fun hn => hb (.inl hn)
    unfold spanOk at hs
    exact hk (cuts_def.2 ⟨d, hd, by omega, by omega, by omega⟩)
theorem opens_pair {pre : List Cl} {c : Cl} (h : nests pre) (ho : ¬ disord pre c) : (opens pre c).Pairwise (fun d e => e.b ≤ d.b) := by
  have h1 : (opens pre c).Pairwise (fun d e => d.a ≤ e.a ∧ (d.b ≤ e.a ∨ e.b ≤ d.b)) := h.sublist List.filter_sublist
  refine List.Pairwise.imp_of_mem ?_ h1
  intro d e hd he hde
  have hd' := List.mem_filter.1 hd
  have he' := List.mem_filter.1 he
  have k1 := nests_le h ho he'.1
  have k2 : c.a < d.b := by simpa using hd'.2
  omega
theorem opens_last {pre : List Cl} {c d : Cl} (h : nests pre) (ho : ¬ disord pre c) (hl : (opens pre c).getLast? = some d) : ∀ e ∈ opens pre c, d.b ≤ e.b := by
  have hp := opens_pair h ho
  obtain ⟨q, hq⟩ := List.getLast?_eq_some_iff.1 hl
  rw [hq] at hp ⊢
  intro e he
  rw [List.mem_append, List.mem_singleton] at he
  rcases he with he | rfl
  · exact (List.pairwise_append.1 hp).2.2 e he d (by simp)
  · exact Int.le_refl _
theorem cuts_iff {size nf : Int} {pre : List Cl} {c : Cl} (h : nests pre) (hb : ¬ callBad size nf c) (ho : ¬ disord pre c) : cuts pre c ↔ ∃ d, (opens pre c).getLast? = some d ∧ d.b < c.b := by
  have hs : spanOk c.a c.b size := Classical.byContradiction fun hn => hb (.inl hn)
  unfold spanOk at hs
  rw [cuts_def]
  constructor
  · rintro ⟨d, hd, h1, h2, h3⟩
    have hda := nests_le h ho hd
    have hm : d ∈ opens pre c := List.mem_filter.2 ⟨hd, by simpa using h3⟩
    obtain ⟨e, he⟩ : ∃ e, (opens pre c).getLast? = some e := by
      rw [← Option.ne_none_iff_exists']
      intro hn
      rw [List.getLast?_eq_none_iff] at hn
      rw [hn] at hm; simp at hm
    have := opens_last h ho he d hm
    exact ⟨e, he, by omega⟩
  · rintro ⟨d, hl, hlt⟩
    have hm : d ∈ opens pre c := List.mem_of_getLast? hl
    have hm' := List.mem_filter.1 hm
    have hda := nests_le h ho hm'.1
    have : c.a < d.b := by simpa using hm'.2
    exact ⟨d, hm'.1, by omega, by omega, by omega⟩
theorem deep_eq {size nf : Int} {pre : List Cl} {c : Cl} (h : nests pre) (hb : ¬ callBad size nf c) (ho : ¬ disord pre c) (hk : ¬ cuts pre c) : deep pre c = (opens pre c).length := by
  have hs : spanOk c.a c.b size := Classical.byContradiction fun hn => hb (.inl hn)
  unfold spanOk at hs
  unfold deep opens
  congr 1
  apply List.filter_congr
  intro d hd
  have hda := nests_le h ho hd
  rw [decide_eq_decide]
  constructor
  · intro hh; omega
  · intro hh
    refine ⟨hda, ?_⟩
    apply Classical.byContradiction
    intro hn
    exact hk (cuts_def.2 ⟨d, hd, by omega, by omega, by omega⟩)
theorem opens_of_around {pre : List Cl} {c : Cl} (ho : ¬ disord pre c) : (aroundOf pre).filter (fun e => !decide (e.b ≤ c.a)) = opens pre c := by
  unfold aroundOf opens
  rcases hq : pre.getLast? with _ | d
  · rw [List.getLast?_eq_none_iff] at hq
    subst hq; rfl
  · simp only [List.filter_filter]
    apply List.filter_congr
    intro e _
    have : ¬ c.a < d.a := fun hlt => ho (disord_iff.2 ⟨d, hq, .inl hlt⟩)
    rw [Bool.eq_iff_iff]
    simp
    omega
theorem around_snoc {size nf : Int} {pre : List Cl} {c : Cl} (hb : ¬ callBad size nf c) : aroundOf (pre ++ [c]) = opens pre c ++ [c] := by
  have hs : spanOk c.a c.b size := Classical.byContradiction fun hn => hb (.inl hn)
  unfold spanOk at hs
  unfold aroundOf opens
  rw [List.getLast?_append]
  simp only [List.getLast?_singleton, Option.some_or, List.filter_append]
  congr 1
  rw [List.filter_cons_of_pos (by simp; omega), List.filter_nil]

def prs (fs : List Fc) : List (Int × Int) := fs.map fun f => (f.a, f.b)
/-- The first function that has an offset. -/
def fncAt (p : Int) (fs : List Fc) : Int := firstFrom 0 p (prs fs)
theorem fncAt_lt {p : Int} {fs : List Fc} (h : fncAt p fs ≠ -1) : ∃ i : Nat, ∃ hi : i < fs.length, fncAt p fs = (i : Int) ∧ fs[i].a ≤ p ∧ p < fs[i].b := by
  obtain ⟨i, hi, h1, h2, h3, _⟩ := firstFrom_lt h
  have hi' : i < fs.length := by simpa [prs] using hi
  refine ⟨i, hi', ?_, ?_, ?_⟩
  · unfold fncAt; rw [h1]; simp
  · simpa [prs] using h2
  · simpa [prs] using h3
theorem fncAt_none {p : Int} {fs : List Fc} (h : fncAt p fs = -1) : ∀ f ∈ fs, ¬ (f.a ≤ p ∧ p < f.b) := by
  intro f hf
  have := firstFrom_none h (f.a, f.b) (List.mem_map.2 ⟨f, hf, rfl⟩)
  exact this
theorem pair_eq {fs : List Fc} (h : fs.Pairwise (fun f g => f.b ≤ g.a)) {i j : Nat} (hi : i < fs.length) (hj : j < fs.length) {p : Int} (h1 : fs[i].a ≤ p) (h2 : p < fs[i].b) (h3 : fs[j].a ≤ p) (h4 : p < fs[j].b) : i = j := by
  rw [List.pairwise_iff_getElem] at h
  rcases Nat.lt_trichotomy i j with hlt | rfl | hlt
  · have := h i j hi hj hlt; omega
  · rfl
  · have := h j i hj hi hlt; omega
/-- One function has all offsets of a call just if the first one that has its first offset does. -/
theorem within_iff {fs : List Fc} {c : Cl} (h : fs.Pairwise (fun f g => f.b ≤ g.a)) (hc : c.a < c.b) : within fs c ↔ ∃ i : Nat, ∃ hi : i < fs.length, fncAt c.a fs = (i : Int) ∧ c.b ≤ fs[i].b := by
  rw [within_def]
  constructor
  · rintro ⟨f, hf, h1, h2⟩
    obtain ⟨j, hj, rfl⟩ := List.mem_iff_getElem.1 hf
    by_cases hn : fncAt c.a fs = -1
    · exact absurd ⟨h1, by omega⟩ (fncAt_none hn _ hf)
    · obtain ⟨i, hi, k1, k2, k3⟩ := fncAt_lt hn
      obtain rfl := pair_eq h hi hj k2 k3 h1 (by omega)
      exact ⟨i, hi, k1, h2⟩
  · rintro ⟨i, hi, k1, k2⟩
    have hn : fncAt c.a fs ≠ -1 := by omega
    obtain ⟨i', hi', l1, l2, l3⟩ := fncAt_lt hn
    obtain rfl : i = i' := by omega
    exact ⟨fs[i], List.getElem_mem _, l2, k2⟩
end Go.Proofs.YtcdaalnjanncmaaDoor

/- Calls that end ahead of a call are taken out of a row: the closure of checkCalls, IndexFunc and DeleteFunc at it; and which of two calls stands first. -/
import Derived.Test.YtcdaalnjanncmaaDoorSymF
import Derived.Test.YtcdaalnjanncmaaDoorSymJ
import Derived.Deep.OwnRows
import Derived.Lib.LazyBuf
import Derived.Lib.SliceRun
import Derived.Maps.AppendAt
namespace Go.Proofs.YtcdaalnjanncmaaDoor
open Go.RowKit Go.Deep

/-- One call stands ahead of another one. -/
def begB (c d : Cl) : Bool := decide (c.a < d.a) || (decide (c.a = d.a) && decide (d.b < c.b))
set_option maxHeartbeats 1000000 in
set_option maxRecDepth 100000 in
theorem beginsBefore_any (c d : Cl) (w : World) :
    Calls Tryd.prog 87 #[.agg #[.string c.n, .int .i64 c.a, .int .i64 c.b, .int .i64 c.f, .int .i64 c.l], .agg #[.string d.n, .int .i64 d.a, .int .i64 d.b, .int .i64 d.f, .int .i64 d.l]] w fun e w' => e = .returned (.bool (begB c d)) ∧ Below w.heap.size w w' := by
  obtain ⟨cn, ca, cb, cf, cl⟩ := c
  obtain ⟨dn, da, db, df, dl⟩ := d
  simp only
  have HB := Lib.hid (show begB ⟨cn, ca, cb, cf, cl⟩ ⟨dn, da, db, df, dl⟩ = (decide (ca < da) || (decide (ca = da) && decide (db < cb))) from rfl)
  go_enter Tryd.func87, Tryd.ntmps87
  go_wp2_with fail
  all_goals (go_ret; refine ⟨ret_bool ?_, ((Below.refl _ _).alloc (Nat.le_refl _) _).alloc (by simp) _⟩; rw [HB.out]; rw [Bool.eq_iff_iff]; simp only [Bool.or_eq_true, Bool.and_eq_true, decide_eq_true_eq] at *; first | omega | (simp; omega))

set_option maxHeartbeats 1000000 in
set_option maxRecDepth 100000 in
theorem closure32 (x : Cl) (pc : Nat) (ca : Int) (w : World) (hcell : w.cell? ⟨pc, 1, none⟩ = some (.int .i64 ca)) :
    Calls Tryd.prog 89 #[.agg #[.string x.n, .int .i64 x.a, .int .i64 x.b, .int .i64 x.f, .int .i64 x.l], .pointer (some ⟨pc, 0, none⟩)] w fun e w' => e = .returned (.bool (decide (x.b ≤ ca))) ∧ Below w.heap.size w w' := by
  obtain ⟨xn, xa, xb, xf, xl⟩ := x
  simp only
  have hlt := World.block_lt_of_cell? _ _ hcell
  simp only at hlt
  have hA : Below w.heap.size w (w.alloc (.cells #[.string xn, .int .i64 xa, .int .i64 xb, .int .i64 xf, .int .i64 xl] 84)) := (Below.refl _ _).alloc (Nat.le_refl _) _
  go_enter Tryd.func89, Tryd.ntmps89
  go_wp2_with fail
  go_ret
  exact ⟨rfl, hA⟩

/-- The first call of a row that ends ahead of an offset, from k on; -1: there is none. -/
def idxR (k : Nat) (ca : Int) : List Cl → Int
  | [] => -1
  | x :: l => if x.b ≤ ca then k else idxR (k + 1) ca l
theorem idxR_hit {k : Nat} {ca : Int} {x : Cl} {l : List Cl} (h : x.b ≤ ca) : idxR k ca (x :: l) = k := by rw [idxR, if_pos h]
theorem idxR_miss {k : Nat} {ca : Int} {x : Cl} {l : List Cl} (h : ¬ x.b ≤ ca) : idxR k ca (x :: l) = idxR (k + 1) ca l := by rw [idxR, if_neg h]
theorem idxR_cases : ∀ (k : Nat) (ca : Int) (l : List Cl), (idxR k ca l = -1 ∧ ∀ x ∈ l, ¬ x.b ≤ ca) ∨ ∃ i x, l[i]? = some x ∧ x.b ≤ ca ∧ idxR k ca l = ((k + i : Nat) : Int) ∧ ∀ y ∈ l.take i, ¬ y.b ≤ ca
  | _, _, [] => .inl ⟨rfl, by simp⟩
  | k, ca, x :: l => by
    by_cases h : x.b ≤ ca
    · exact .inr ⟨0, x, rfl, h, idxR_hit h, by simp⟩
    · rw [idxR_miss h]
      rcases idxR_cases (k + 1) ca l with ⟨h1, h2⟩ | ⟨i, y, h1, h2, h3, h4⟩
      · refine .inl ⟨h1, fun z hz => ?_⟩
        rw [List.mem_cons] at hz
        rcases hz with rfl | hz
        · exact h
        · exact h2 z hz
      · refine .inr ⟨i + 1, y, by simpa using h1, h2, by rw [h3]; congr 1; omega, fun z hz => ?_⟩
        rw [List.take_succ_cons, List.mem_cons] at hz
        rcases hz with rfl | hz
        · exact h
        · exact h4 z hz

/-- What five cells hold. -/
def five (F : Nat → Value) (m : Nat) (x : Cl) : Prop := F m = .string x.n ∧ F (m + 1) = .int .i64 x.a ∧ F (m + 2) = .int .i64 x.b ∧ F (m + 3) = .int .i64 x.f ∧ F (m + 4) = .int .i64 x.l
/-- A row's block holds the elements from one on to another one. -/
def fives (F : Nat → Value) (l : List Cl) (a b : Nat) : Prop := ∀ q x, a ≤ q → q < b → l[q]? = some x → five F (q * 5) x

set_option maxHeartbeats 1000000 in
set_option maxRecDepth 100000 in
theorem index50_some (g cap n N pc : Nat) (ca : Int) (F : Nat → Value) (l : List Cl) (w : World) (hl : l.length = n) (hn : n ≤ 1000) (hN : n * 5 ≤ N) (hrow : w.rowIs g 84 N F) (hF : fives F l 0 n) (hcell : w.cell? ⟨pc, 1, none⟩ = some (.int .i64 ca)) :
    Calls Tryd.prog 117 #[.slice (some ⟨g, 0, none⟩) n cap, .func (.func 89) #[] #[.pointer (some ⟨pc, 0, none⟩)]] w fun e w' => e = .returned (.int .i64 (idxR 0 ca l)) ∧ Below w.heap.size w w' := by
  have hlt := World.block_lt_of_cell? _ _ hcell
  simp only at hlt
  have hg := hrow.lt
  go_enter Tryd.func117, Tryd.ntmps117
  go_wp2_with fail
  go_loopw [8] (fun v wr => ∃ k : Nat, k ≤ n ∧ v = .int .i64 k ∧ idxR 0 ca l = idxR k ca (l.drop k) ∧ Below w.heap.size w wr) (fun v _ => n - (RowKit.intOf v).toNat)
  case atStart => exact ⟨0, Nat.zero_le _, rfl, rfl, Below.refl _ _⟩
  case round =>
    obtain ⟨k, hk, rfl, heq, hbw⟩ := hrel
    have HEQ := Lib.hid heq
    clear heq
    by_cases hkn : k < n
    · have hkl : k < l.length := by omega
      have HD := Lib.hid (List.drop_eq_getElem_cons hkl)
      obtain ⟨f0, f1, f2, f3, f4⟩ := hF k _ (Nat.zero_le _) hkn (List.getElem?_eq_getElem hkl)
      have c0 := (hbw.cell (p := ⟨g, k * 5, none⟩) hg).trans (hrow.cell (by omega))
      have c1 := (hbw.cell (p := ⟨g, k * 5 + 1, none⟩) hg).trans (hrow.cell (by omega))
      have c2 := (hbw.cell (p := ⟨g, k * 5 + 2, none⟩) hg).trans (hrow.cell (by omega))
      have c3 := (hbw.cell (p := ⟨g, k * 5 + 3, none⟩) hg).trans (hrow.cell (by omega))
      have c4 := (hbw.cell (p := ⟨g, k * 5 + 4, none⟩) hg).trans (hrow.cell (by omega))
      rw [f0] at c0
      rw [f1] at c1
      rw [f2] at c2
      rw [f3] at c3
      rw [f4] at c4
      clear f0 f1 f2 f3 f4
      generalize l[k] = x at *
      have HC := Lib.hid (fun (W : World) (hW : Below w.heap.size w W) => closure32 x pc ca W ((hW.cell (p := ⟨pc, 1, none⟩) hlt).trans hcell))
      by_cases hx : x.b ≤ ca
      · rw [decide_eq_true hx] at HC
        have HR := Lib.hid (show idxR 0 ca l = k by rw [HEQ.out, HD.out, idxR_hit hx])
        clear hx
        obtain ⟨xn, xa, xb, xf, xl⟩ := x
        simp only at c0 c1 c2 c3 c4 HC
        go_wp2_with (go_at_call 89; refine (HC.out _ hbw).mono ?_; rintro e w1 ⟨rfl, hb1⟩)
        go_ret
        exact ⟨ret_int HR.out.symm, below_call hbw hbw.size hb1⟩
      · rw [decide_eq_false hx] at HC
        have HR := Lib.hid (show idxR 0 ca l = idxR (k + 1) ca (l.drop (k + 1)) by rw [HEQ.out, HD.out, idxR_miss hx])
        clear hx
        obtain ⟨xn, xa, xb, xf, xl⟩ := x
        simp only at c0 c1 c2 c3 c4 HC
        go_wp2_with (go_at_call 89; refine (HC.out _ hbw).mono ?_; rintro e w1 ⟨rfl, hb1⟩)
        exact ⟨⟨k + 1, by omega, by go_num, HR.out, below_call hbw hbw.size hb1⟩, by simp [RowKit.intOf]; omega⟩
    · have HR := Lib.hid (show idxR 0 ca l = -1 by rw [HEQ.out, List.drop_of_length_le (by omega)]; rfl)
      go_wp2_with fail
      go_ret
      exact ⟨ret_int HR.out.symm, hbw⟩

/-- The row behind the taking out. -/
def left (ca : Int) (l : List Cl) : List Cl := l.filter fun e => decide (ca < e.b)
theorem left_snoc {ca : Int} {l : List Cl} {j : Nat} {x : Cl} (h : l[j]? = some x) : left ca (l.take (j + 1)) = left ca (l.take j) ++ (if ca < x.b then [x] else []) := by
  obtain ⟨hj, hx⟩ := List.getElem?_eq_some_iff.1 h
  unfold left
  rw [List.take_succ_eq_append_getElem hj, List.filter_append, hx]
  congr 1
  by_cases hc : ca < x.b
  · rw [if_pos hc, List.filter_cons_of_pos (by simpa using hc), List.filter_nil]
  · rw [if_neg hc, List.filter_cons_of_neg (by simpa using hc), List.filter_nil]
theorem left_len (ca : Int) (l : List Cl) (j : Nat) : (left ca (l.take j)).length ≤ j := Nat.le_trans (List.length_filter_le _ _) (by rw [List.length_take]; omega)

theorem five_set {F : Nat → Value} {vs : List Value} {o m : Nat} {x : Cl} (h : five F m x) (hd : m + 5 ≤ o ∨ o + vs.length ≤ m) : five (fun j => if o ≤ j ∧ j < o + vs.length then vs[j - o]?.getD default else F j) m x := by
  obtain ⟨h0, h1, h2, h3, h4⟩ := h
  refine ⟨?_, ?_, ?_, ?_, ?_⟩ <;> (simp only; rw [if_neg (by omega)]; assumption)
theorem five_new (F : Nat → Value) (o : Nat) (x : Cl) : five (fun j => if o ≤ j ∧ j < o + (encC x).length then (encC x)[j - o]?.getD default else F j) o x := by
  have hl : (encC x).length = 5 := rfl
  refine ⟨?_, ?_, ?_, ?_, ?_⟩ <;> (simp only [hl]; rw [if_pos (by omega)])
  · rw [Nat.sub_self]; rfl
  · rw [Nat.add_sub_cancel_left]; rfl
  · rw [Nat.add_sub_cancel_left]; rfl
  · rw [Nat.add_sub_cancel_left]; rfl
  · rw [Nat.add_sub_cancel_left]; rfl
theorem grownBy_setCell (w : World) (b i : Nat) (v : Value) : w.grownBy (w.setCell ⟨b, i, none⟩ v) (some b) :=
  ⟨rfl, rfl, rfl, by simp [World.setCell], fun k _ hne => Below.heap_setCell _ _ _ _ (fun e => hne (by rw [e]))⟩
theorem grownBy_setCells (b : Nat) : ∀ (vs : List Value) (o : Nat) (w : World), w.grownBy (w.setCells b o vs) (some b)
  | [], _, w => World.grownBy.refl w _
  | v :: r, o, w => (grownBy_setCell w b o v).trans (grownBy_setCells b r (o + 1) _)
theorem grownBy_of_below {w w' : World} (h : Below w.heap.size w w') (row : Option Nat) : w.grownBy w' row := ⟨h.os, h.tape, h.output, h.size, fun k hk _ => h.block k hk⟩

set_option maxRecDepth 100000 in
/-- clear of a row's tail: its cells change, no other ones. -/
theorem clear55 (w : World) (b o n : Nat) (hn : 0 < n) (hc : ∀ j, j < n * 5 → (w.cell? ⟨b, o + j, none⟩).isSome = true) (hf : ∀ j, j < n * 5 → w.frozen? ⟨b, o + j, none⟩ = false) :
    ∃ vs : List Value, vs.length = n * 5 ∧ ∀ c ty, (Builtin.clear_ #[40] ty #[.slice (some ⟨b, o, none⟩) n c]).run Tryd.prog w = .ok (.tuple #[]) (w.setCells b o vs) := by
  obtain ⟨m, rfl⟩ : ∃ m, n = m + 1 := ⟨n - 1, by omega⟩
  have hz : ∀ w, (zeroValue 84).run Tryd.prog w = .ok (.agg #[.string ⟨#[]⟩, .int .i64 0, .int .i64 0, .int .i64 0, .int .i64 0]) w := Tryd.zeroValue84
  have hcs : (Value.agg #[.string ⟨#[]⟩, .int .i64 0, .int .i64 0, .int .i64 0, .int .i64 0]).cells = #[.string ⟨#[]⟩, .int .i64 0, .int .i64 0, .int .i64 0, .int .i64 0] := by rfl
  have hlen : (Builtin.zeroCells (Value.agg #[.string ⟨#[]⟩, .int .i64 0, .int .i64 0, .int .i64 0, .int .i64 0]).cells (m + 1)).toList.length = (m + 1) * 5 := by
    rw [hcs]; simp [Builtin.zeroCells]
  refine ⟨_, hlen, fun c ty => ?_⟩
  have hst := run_storeCells_cells (P := Tryd.prog) b o (Builtin.zeroCells (Value.agg #[.string ⟨#[]⟩, .int .i64 0, .int .i64 0, .int .i64 0, .int .i64 0]).cells (m + 1)).toList 0 w (by rw [hlen]; simpa using hc) (by rw [hlen]; simpa using hf) (by
    intro v hv
    rw [hcs] at hv
    simp only [Builtin.zeroCells, Array.toList_map, List.mem_map] at hv
    obtain ⟨i, _, rfl⟩ := hv
    have : i % 5 < 5 := Nat.mod_lt _ (by omega)
    show (#[Value.string ⟨#[]⟩, .int .i64 0, .int .i64 0, .int .i64 0, .int .i64 0][i % 5]!).oneCell' = true
    generalize i % 5 = r at this
    match r, this with
    | 0, _ => rfl
    | 1, _ => rfl
    | 2, _ => rfl
    | 3, _ => rfl
    | 4, _ => rfl)
  simp only [Nat.add_zero] at hst
  simp [Builtin.clear_, run_underlying Tryd.underlying40, hz, hst]
end Go.Proofs.YtcdaalnjanncmaaDoor

/- The reference's test of a call against all functions: its closure, IndexFunc and ContainsFunc at it; lists for the reference's check of calls. -/
import Derived.Test.YtcdaalnjanncmaaDoorCallPlain
namespace Go.Proofs.YtcdaalnjanncmaaDoor
open Go.RowKit Go.Deep

/-- A function has all offsets from one on to another one. -/
def hasB (ca cb : Int) (f : Fc) : Bool := decide (f.a ≤ ca) && decide (cb ≤ f.b)
set_option maxHeartbeats 1000000 in
set_option maxRecDepth 100000 in
theorem closure39 (x : Fc) (pc : Nat) (ca cb : Int) (w : World) (h1 : w.cell? ⟨pc, 1, none⟩ = some (.int .i64 ca)) (h2 : w.cell? ⟨pc, 2, none⟩ = some (.int .i64 cb)) :
    Calls Tryd.prog 78 #[.agg #[.string x.n, .int .i64 x.a, .int .i64 x.b], .pointer (some ⟨pc, 0, none⟩)] w fun e w' => e = .returned (.bool (hasB ca cb x)) ∧ Below w.heap.size w w' := by
  obtain ⟨xn, xa, xb⟩ := x
  simp only
  have hlt := World.block_lt_of_cell? _ _ h1
  simp only at hlt
  have HB := Lib.hid (show hasB ca cb ⟨xn, xa, xb⟩ = (decide (xa ≤ ca) && decide (cb ≤ xb)) from rfl)
  have hA : Below w.heap.size w (w.alloc (.cells #[.string xn, .int .i64 xa, .int .i64 xb] 50)) := (Below.refl _ _).alloc (Nat.le_refl _) _
  go_enter Tryd.func78, Tryd.ntmps78
  go_wp2_with fail
  all_goals (go_ret; refine ⟨ret_bool ?_, hA⟩; rw [HB.out]; rw [Bool.eq_iff_iff]; simp only [Bool.and_eq_true, decide_eq_true_eq] at *; first | omega | (simp; omega))

/-- The first function that has them, from k on; -1: there is none. -/
def idxF (k : Nat) (ca cb : Int) : List Fc → Int
  | [] => -1
  | x :: l => if hasB ca cb x = true then k else idxF (k + 1) ca cb l
theorem idxF_hit {k : Nat} {ca cb : Int} {x : Fc} {l : List Fc} (h : hasB ca cb x = true) : idxF k ca cb (x :: l) = k := by rw [idxF, if_pos h]
theorem idxF_miss {k : Nat} {ca cb : Int} {x : Fc} {l : List Fc} (h : hasB ca cb x = false) : idxF k ca cb (x :: l) = idxF (k + 1) ca cb l := by rw [idxF, if_neg (by simp [h])]
theorem idxF_any : ∀ (k : Nat) (ca cb : Int) (l : List Fc), (0 ≤ idxF k ca cb l ∧ l.any (hasB ca cb) = true) ∨ (idxF k ca cb l = -1 ∧ l.any (hasB ca cb) = false)
  | _, _, _, [] => .inr ⟨rfl, rfl⟩
  | k, ca, cb, x :: l => by
    cases h : hasB ca cb x
    · rw [idxF_miss h, List.any_cons, h, Bool.false_or]
      exact idxF_any (k + 1) ca cb l
    · rw [idxF_hit h, List.any_cons, h, Bool.true_or]
      exact .inl ⟨by omega, rfl⟩

set_option maxHeartbeats 1000000 in
set_option maxRecDepth 100000 in
theorem index52_some (b off n cap pc : Nat) (ca cb : Int) (l : List Fc) (w : World) (hl : l.length = n) (hn : n ≤ 9223372036854775807) (hb : b < w.heap.size) (hc : AtG encF 3 w b off l) (h1 : w.cell? ⟨pc, 1, none⟩ = some (.int .i64 ca)) (h2 : w.cell? ⟨pc, 2, none⟩ = some (.int .i64 cb)) :
    Calls Tryd.prog 113 #[.slice (some ⟨b, off, none⟩) n cap, .func (.func 78) #[] #[.pointer (some ⟨pc, 0, none⟩)]] w fun e w' => e = .returned (.int .i64 (idxF 0 ca cb l)) ∧ Below w.heap.size w w' := by
  have hlt := World.block_lt_of_cell? _ _ h1
  simp only at hlt
  go_enter Tryd.func113, Tryd.ntmps113
  go_wp2_with fail
  go_loopw [8] (fun v wr => ∃ k : Nat, k ≤ n ∧ v = .int .i64 k ∧ idxF 0 ca cb l = idxF k ca cb (l.drop k) ∧ Below w.heap.size w wr) (fun v _ => n - (RowKit.intOf v).toNat)
  case atStart => exact ⟨0, Nat.zero_le _, rfl, rfl, Below.refl _ _⟩
  case round =>
    obtain ⟨k, hk, rfl, heq, hbw⟩ := hrel
    have HEQ := Lib.hid heq
    clear heq
    by_cases hkn : k < n
    · have hkl : k < l.length := by omega
      have HD := Lib.hid (List.drop_eq_getElem_cons hkl)
      obtain ⟨c0, c1, c2⟩ := hc.fnc hkl
      have c0 := (hbw.cell (p := ⟨b, _, none⟩) hb).trans c0
      have c1 := (hbw.cell (p := ⟨b, _, none⟩) hb).trans c1
      have c2 := (hbw.cell (p := ⟨b, _, none⟩) hb).trans c2
      generalize l[k] = x at *
      have HC := Lib.hid (fun (W : World) (hW : Below w.heap.size w W) => closure39 x pc ca cb W ((hW.cell (p := ⟨pc, 1, none⟩) hlt).trans h1) ((hW.cell (p := ⟨pc, 2, none⟩) hlt).trans h2))
      cases hx : hasB ca cb x
      · rw [hx] at HC
        have HR := Lib.hid (show idxF 0 ca cb l = idxF (k + 1) ca cb (l.drop (k + 1)) by rw [HEQ.out, HD.out, idxF_miss hx])
        clear hx
        obtain ⟨xn, xa, xb⟩ := x
        simp only at c0 c1 c2 HC
        go_wp2_with (go_at_call 78; refine (HC.out _ hbw).mono ?_; rintro e w1 ⟨rfl, hb1⟩)
        exact ⟨⟨k + 1, by omega, by go_num, HR.out, below_call hbw hbw.size hb1⟩, by simp [RowKit.intOf]; omega⟩
      · rw [hx] at HC
        have HR := Lib.hid (show idxF 0 ca cb l = k by rw [HEQ.out, HD.out, idxF_hit hx])
        clear hx
        obtain ⟨xn, xa, xb⟩ := x
        simp only at c0 c1 c2 HC
        go_wp2_with (go_at_call 78; refine (HC.out _ hbw).mono ?_; rintro e w1 ⟨rfl, hb1⟩)
        go_ret
        exact ⟨ret_int HR.out.symm, below_call hbw hbw.size hb1⟩
    · have HR := Lib.hid (show idxF 0 ca cb l = -1 by rw [HEQ.out, List.drop_of_length_le (by omega)]; rfl)
      go_wp2_with fail
      go_ret
      exact ⟨ret_int HR.out.symm, hbw⟩

set_option maxHeartbeats 1000000 in
set_option maxRecDepth 100000 in
theorem index52_none (p : Option Addr) (cap : Nat) (fv : Value) (w : World) :
    Calls Tryd.prog 113 #[.slice p 0 cap, fv] w fun e w' => e = .returned (.int .i64 (-1)) ∧ Below w.heap.size w w' := by
  go_enter Tryd.func113, Tryd.ntmps113
  go_wp2_with fail
  go_loop [8] (fun v => v = .int .i64 0) (fun _ => 0)
  case atStart => rfl
  case round =>
    subst hrel
    go_wp2_with fail
    go_ret
    exact ⟨rfl, Below.refl _ _⟩

theorem index52_any (v : Value) (pc : Nat) (ca cb : Int) (l : List Fc) (w : World) (hv : SlG encF 3 fitF w v l) (h1 : w.cell? ⟨pc, 1, none⟩ = some (.int .i64 ca)) (h2 : w.cell? ⟨pc, 2, none⟩ = some (.int .i64 cb)) :
    Calls Tryd.prog 113 #[v, .func (.func 78) #[] #[.pointer (some ⟨pc, 0, none⟩)]] w fun e w' => e = .returned (.int .i64 (idxF 0 ca cb l)) ∧ Below w.heap.size w w' := by
  obtain ⟨p, cap, rfl, hlc, hcm, _, rfl | ⟨b, off, rfl, hb, hc⟩⟩ := hv
  · exact index52_none p cap _ w
  · exact index52_some b off _ cap pc ca cb l w rfl (by unfold maxLen at hcm; omega) hb hc h1 h2

set_option maxHeartbeats 1000000 in
set_option maxRecDepth 100000 in
theorem contains38_any (v : Value) (pc : Nat) (ca cb : Int) (l : List Fc) (w : World) (hv : SlG encF 3 fitF w v l) (h1 : w.cell? ⟨pc, 1, none⟩ = some (.int .i64 ca)) (h2 : w.cell? ⟨pc, 2, none⟩ = some (.int .i64 cb)) :
    Calls Tryd.prog 77 #[v, .func (.func 78) #[] #[.pointer (some ⟨pc, 0, none⟩)]] w fun e w' => e = .returned (.bool (l.any (hasB ca cb))) ∧ Below w.heap.size w w' := by
  have HI := Lib.hid (index52_any v pc ca cb l w hv h1 h2)
  clear hv h1 h2
  rcases idxF_any 0 ca cb l with ⟨k1, k2⟩ | ⟨k1, k2⟩
  · rw [k2]
    generalize idxF 0 ca cb l = i at *
    have hd : decide ((0 : Int) ≤ i) = true := decide_eq_true k1
    clear k1 k2
    go_enter Tryd.func77, Tryd.ntmps77
    go_wp2_with (go_at_call 113; refine HI.out.mono ?_; rintro e w1 ⟨rfl, hb1⟩)
    go_ret
    exact ⟨rfl, hb1⟩
  · rw [k2]
    rw [k1] at HI
    clear k1 k2
    go_enter Tryd.func77, Tryd.ntmps77
    go_wp2_with (go_at_call 113; refine HI.out.mono ?_; rintro e w1 ⟨rfl, hb1⟩)
    go_ret
    exact ⟨rfl, hb1⟩

/-! ### Lists: what the reference counts of the calls before -/
def cutB (c d : Cl) : Bool := decide (¬ (d.a ≤ c.a ∧ c.b ≤ d.b) ∧ d.a < c.b ∧ c.a < d.b)
def cutsB (pre : List Cl) (c : Cl) : Bool := pre.any (cutB c)
theorem cutsB_iff {pre : List Cl} {c : Cl} : cutsB pre c = true ↔ cuts pre c := Iff.rfl
theorem cutsB_snoc {l : List Cl} {j : Nat} {c d : Cl} (h : l[j]? = some d) : cutsB (l.take (j + 1)) c = (cutsB (l.take j) c || cutB c d) := by
  obtain ⟨hj, hx⟩ := List.getElem?_eq_some_iff.1 h
  unfold cutsB
  rw [List.take_succ_eq_append_getElem hj, List.any_append, hx]; simp
theorem deep_hit {l : List Cl} {j : Nat} {c d : Cl} (h : l[j]? = some d) (hd : d.a ≤ c.a ∧ c.b ≤ d.b) : deep (l.take (j + 1)) c = deep (l.take j) c + 1 := by
  obtain ⟨hj, hx⟩ := List.getElem?_eq_some_iff.1 h
  unfold deep
  rw [List.take_succ_eq_append_getElem hj, List.filter_append, hx, List.length_append, List.filter_cons_of_pos (by simpa using hd), List.filter_nil]; rfl
theorem deep_miss {l : List Cl} {j : Nat} {c d : Cl} (h : l[j]? = some d) (hd : ¬ (d.a ≤ c.a ∧ c.b ≤ d.b)) : deep (l.take (j + 1)) c = deep (l.take j) c := by
  obtain ⟨hj, hx⟩ := List.getElem?_eq_some_iff.1 h
  unfold deep
  rw [List.take_succ_eq_append_getElem hj, List.filter_append, hx, List.length_append, List.filter_cons_of_neg (by simpa using hd), List.filter_nil]; rfl
theorem deep_le (pre : List Cl) (c : Cl) : deep pre c ≤ pre.length := by unfold deep; exact List.length_filter_le _ _
theorem within_any {fs : List Fc} {c : Cl} : fs.any (hasB c.a c.b) = true ↔ within fs c := by
  rw [within_def, List.any_eq_true]
  simp [hasB]
theorem cutB_hit {c d : Cl} (h : d.a ≤ c.a ∧ c.b ≤ d.b) : cutB c d = false := by unfold cutB; simp; omega
theorem cutB_miss {c d : Cl} (h : ¬ (d.a ≤ c.a ∧ c.b ≤ d.b)) : cutB c d = decide (d.a < c.b ∧ c.a < d.b) := by unfold cutB; simp only [h, not_false_eq_true, true_and]
end Go.Proofs.YtcdaalnjanncmaaDoor

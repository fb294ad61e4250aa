/- The law StackAligns, walked. -/
import Derived.Test.YtffjnomaebjbdaaAlign
import Derived.Test.YtffjnomaebjbdaaAlignedR
import Derived.ChangeKeysEq
namespace Go.Proofs.Ytffjnomaebjbdaa
open Go.RowKit Go.Deep Go.Lib

theorem frsErr_le {l : List Fr} (h : frsErr l = 0) : l.length ≤ 200 := by
  apply Classical.byContradiction
  intro hn
  rw [frsErr_large (by omega)] at h
  omega
theorem twoErr_le {a b : List Fr} (h : twoErr a b = 0) : a.length ≤ 200 ∧ b.length ≤ 200 := by
  unfold twoErr at h
  split at h
  · omega
  · rename_i hn
    exact ⟨frsErr_le (by omega), frsErr_le h⟩
theorem SlF.parts {w : World} {v : Value} {l : List Fr} (h : SlF w v l) : ∃ (p : Option Addr) (b o cap : Nat), v = .slice p l.length cap ∧ (0 < l.length → p = some ⟨b, o, none⟩ ∧ b < w.heap.size) ∧ FrsAt w b o l := by
  obtain ⟨p, cap, rfl, _, _, _, h4⟩ := h
  rcases h4 with rfl | ⟨b, off, rfl, hb, hc⟩
  · exact ⟨p, 0, 0, cap, rfl, fun h => by simp at h, fun k hk => by simp at hk⟩
  · exact ⟨_, b, off, cap, rfl, fun _ => ⟨rfl, hb⟩, hc⟩

theorem align_good (v1 v2 : Value) (a b : List Fr) (w : World) (h1 : SlF w v1 a) (h2 : SlF w v2 b) (he : twoErr a b = 0) :
    Calls Try.prog 28 #[v1, v2] w fun e w' => ∃ v, e = .returned (.tuple #[v, .int .i64 0]) ∧ w'.ownsRow w.heap.size 62 2 v (prg a b a.length 0 0).length (cellsP (prg a b a.length 0 0)) ∧ Below w.heap.size w w' := by
  obtain ⟨hl1, hl2⟩ := twoErr_le he
  obtain ⟨pa, ba, oa, ca, rfl, hpa, hca⟩ := h1.parts
  obtain ⟨pb, bb, ob, cb, rfl, hpb, hcb⟩ := h2.parts
  exact align_some pa pb ba oa ca bb ob cb _ _ _ _ a b w rfl rfl rfl rfl hpa hpb hl1 hl2 hca hcb h1 h2 he
theorem aligned_good (v1 v2 : Value) (a b : List Fr) (w : World) (h1 : SlF w v1 a) (h2 : SlF w v2 b) (he : twoErr a b = 0) :
    Calls Try.prog 32 #[v1, v2] w fun e w' => ∃ v, e = .returned v ∧ w'.ownsRow w.heap.size 62 2 v (prg a b a.length 0 0).length (cellsP (prg a b a.length 0 0)) ∧ Below w.heap.size w w' := by
  obtain ⟨hl1, hl2⟩ := twoErr_le he
  obtain ⟨pa, ba, oa, ca, rfl, hpa, hca⟩ := h1.parts
  obtain ⟨pb, bb, ob, cb, rfl, hpb, hcb⟩ := h2.parts
  exact aligned_some pa pb ba oa ca bb ob cb _ _ _ _ a b w rfl rfl rfl rfl hpa hpb hl1 hl2 hca hcb

/-- How near two rows are. -/
def nearV (a b : List Fr) : Int := if a.length + b.length = 0 then 1000 else Int.tdiv (2000 * ((prg a b a.length 0 0).length : Nat)) ((a.length : Int) + (b.length : Int))

theorem own_slice {w : World} {base : Nat} {e : TypeId} {size : Nat} {v : Value} {n : Nat} {xs : List Value} (h : w.ownsRow base e size v n xs) : ∃ p cap, v = .slice p n cap := by
  obtain ⟨h1, ⟨rfl, h0⟩ | ⟨g, cap, cur, hv, _⟩⟩ := h
  · subst h0; exact ⟨none, 0, rfl⟩
  · exact ⟨_, cap, hv⟩

set_option maxHeartbeats 1000000 in
set_option maxRecDepth 100000 in
theorem near_bad (v1 v2 : Value) (a b : List Fr) (w : World) (h1 : SlF w v1 a) (h2 : SlF w v2 b) (he : twoErr a b ≠ 0) :
    Calls Try.prog 29 #[v1, v2] w fun e w' => e = .returned (.tuple #[.int .i64 0, .int .i64 (twoErr a b)]) ∧ Below w.heap.size w w' := by
  have HC := Lib.hid (align_bad v1 v2 a b w h1 h2 he)
  have hq : (twoErr a b != 0) = true := by simpa using he
  clear he h1 h2
  go_enter Try.func29, Try.ntmps29
  go_wp2_with (go_at_call 28; refine HC.out.mono ?_; rintro e w1 ⟨rfl, hb1⟩)
  go_ret2
  exact ⟨rfl, hb1⟩

set_option maxHeartbeats 1000000 in
set_option maxRecDepth 100000 in
theorem near_good (v1 v2 : Value) (a b : List Fr) (w : World) (h1 : SlF w v1 a) (h2 : SlF w v2 b) (he : twoErr a b = 0) :
    Calls Try.prog 29 #[v1, v2] w fun e w' => e = .returned (.tuple #[.int .i64 (nearV a b), .int .i64 0]) ∧ Below w.heap.size w w' := by
  have HC := Lib.hid (align_good v1 v2 a b w h1 h2 he)
  obtain ⟨hl1, hl2⟩ := twoErr_le he
  have HV := Lib.hid (show nearV a b = if a.length + b.length = 0 then 1000 else Int.tdiv (2000 * ((prg a b a.length 0 0).length : Nat)) ((a.length : Int) + (b.length : Int)) from rfl)
  have hpl := prg_length (a := a) (b := b) a.length 0 0
  obtain ⟨p1, c1, rfl, _⟩ := id h1
  obtain ⟨p2, c2, rfl, _⟩ := id h2
  clear he h1 h2
  generalize (prg a b a.length 0 0).length = L at *
  by_cases h0 : a.length + b.length = 0
  · rw [if_pos h0] at HV
    have hz : ((a.length : Int) + (b.length : Int) == 0) = true := by rw [beq_iff_eq]; omega
    go_enter Try.func29, Try.ntmps29
    go_wp2_with (go_at_call 28; refine HC.out.mono ?_; rintro e w1 ⟨v, rfl, hown, hb1⟩)
    go_ret2
    exact ⟨by rw [HV.out]; rfl, hb1⟩
  · rw [if_neg h0] at HV
    have hz : ((a.length : Int) + (b.length : Int) == 0) = false := by rw [beq_eq_false_iff_ne]; omega
    have hnz : ¬ (a.length : Int) + (b.length : Int) = 0 := by omega
    have hqr : IntKind.i64.wrap (Int.tdiv (2000 * (L : Int)) ((a.length : Int) + (b.length : Int))) = Int.tdiv (2000 * (L : Int)) ((a.length : Int) + (b.length : Int)) := by
      refine IntWalk.i64_in _ ⟨?_, ?_⟩
      · have := Int.tdiv_nonneg (a := 2000 * (L : Int)) (b := (a.length : Int) + (b.length : Int)) (by omega) (by omega)
        omega
      · have := Int.tdiv_le_self (a := 2000 * (L : Int)) ((a.length : Int) + (b.length : Int)) (by omega)
        omega
    go_enter Try.func29, Try.ntmps29
    go_wp2_with (go_at_call 28; refine HC.out.mono ?_; rintro e w1 ⟨v, rfl, hown, hb1⟩; obtain ⟨p, cap, rfl⟩ := own_slice hown)
    go_ret2
    exact ⟨by rw [HV.out]; rfl, hb1⟩

set_option maxHeartbeats 1000000 in
set_option maxRecDepth 100000 in
theorem nearness_good (v1 v2 : Value) (a b : List Fr) (w : World) (h1 : SlF w v1 a) (h2 : SlF w v2 b) (he : twoErr a b = 0) :
    Calls Try.prog 33 #[v1, v2] w fun e w' => e = .returned (.int .i64 (nearV a b)) ∧ Below w.heap.size w w' := by
  have HC := Lib.hid (aligned_good v1 v2 a b w h1 h2 he)
  obtain ⟨hl1, hl2⟩ := twoErr_le he
  have HV := Lib.hid (show nearV a b = if a.length + b.length = 0 then 1000 else Int.tdiv (2000 * ((prg a b a.length 0 0).length : Nat)) ((a.length : Int) + (b.length : Int)) from rfl)
  have hpl := prg_length (a := a) (b := b) a.length 0 0
  obtain ⟨p1, c1, rfl, _⟩ := id h1
  obtain ⟨p2, c2, rfl, _⟩ := id h2
  clear he h1 h2
  generalize (prg a b a.length 0 0).length = L at *
  by_cases h0 : a.length + b.length = 0
  · rw [if_pos h0] at HV
    have hz : ((a.length : Int) + (b.length : Int) == 0) = true := by rw [beq_iff_eq]; omega
    go_enter Try.func33, Try.ntmps33
    go_wp2_with fail
    go_ret
    exact ⟨by rw [HV.out]; rfl, Below.refl _ _⟩
  · rw [if_neg h0] at HV
    have hz : ((a.length : Int) + (b.length : Int) == 0) = false := by rw [beq_eq_false_iff_ne]; omega
    have hnz : ¬ (a.length : Int) + (b.length : Int) = 0 := by omega
    have hqr : IntKind.i64.wrap (Int.tdiv (2000 * (L : Int)) ((a.length : Int) + (b.length : Int))) = Int.tdiv (2000 * (L : Int)) ((a.length : Int) + (b.length : Int)) := by
      refine IntWalk.i64_in _ ⟨?_, ?_⟩
      · have := Int.tdiv_nonneg (a := 2000 * (L : Int)) (b := (a.length : Int) + (b.length : Int)) (by omega) (by omega)
        omega
      · have := Int.tdiv_le_self (a := 2000 * (L : Int)) ((a.length : Int) + (b.length : Int)) (by omega)
        omega
    go_enter Try.func33, Try.ntmps33
    go_wp2_with (go_at_call 32; refine HC.out.mono ?_; rintro e w1 ⟨v, rfl, hown, hb1⟩; obtain ⟨p, cap, rfl⟩ := own_slice hown)
    go_ret
    exact ⟨by rw [HV.out]; rfl, hb1⟩

set_option maxHeartbeats 1000000 in
set_option maxRecDepth 100000 in
theorem pairError_any (v1 v2 : Value) (a b : List Fr) (w : World) (h1 : SlF w v1 a) (h2 : SlF w v2 b) :
    Calls Try.prog 30 #[v1, v2] w fun e w' => e = .returned (.int .i64 (twoErr a b)) ∧ Below w.heap.size w w' := by
  have HE := Lib.hid (show twoErr a b = if frsErr a ≠ 0 then frsErr a else frsErr b from rfl)
  have H2 := Lib.hid (fun (W : World) (hb : Below w.heap.size w W) => framesError_any v2 b W (h2.below (Nat.le_refl _) hb))
  have H1 := Lib.hid (framesError_any v1 a w h1)
  clear h1 h2
  go_enter Try.func30, Try.ntmps30
  go_wp2_with (first
    | (go_at_call 21; (with_reducible refine H1.out.mono ?_); rintro e w1 ⟨rfl, hb1⟩)
    | (go_at_call 21; (with_reducible refine (H2.out _ (by assumption)).mono ?_); rintro e w2 ⟨rfl, hb2⟩))
  · go_ret
    have hq : (frsErr a != 0) = true := by assumption
    exact ⟨ret_int (by rw [HE.out, if_pos (by simpa using hq)]), hb1⟩
  · go_ret
    have hq : (frsErr a != 0) = false := by assumption
    exact ⟨ret_int (by rw [HE.out, if_neg (by simpa using hq)]), below_call hb1 hb1.size hb2⟩

theorem neqPr (x y : Int) (w : World) : (binOp .neq 62 (.agg #[.int .i64 x, .int .i64 y]) (.agg #[.int .i64 x, .int .i64 y])).run Try.prog w = .ok (.bool false) w := by
  have hS : Try.prog.underlying 62 = some (.array 2 3) := by kernel_rfl
  obtain ⟨i3, hi3, hz0, hz1, hz2⟩ := info_parts Try.info3
  have hc : Try.prog.cellsOf 3 = 1 := by kernel_rfl
  have u3 := Try.underlying3
  rw [run_neq_struct, show (10000 : Nat) = 9999 + 1 from rfl, run_equalIn_array w 9999 _ _ hS hi3, hc]
  simp only [List.range_succ, List.range_zero, List.nil_append, List.cons_append, Op.eqItems]
  go_simp

set_option maxHeartbeats 1000000 in
set_option maxRecDepth 100000 in
theorem equalP_some (b1 b2 c1 c2 n : Nat) (l : List (Nat × Nat)) (w : World) (hn : l.length = n) (hm : n ≤ 200) (hb1 : b1 < w.heap.size) (hb2 : b2 < w.heap.size)
    (h1 : ∀ i (h : i < l.length), w.cell? ⟨b1, i * 2, none⟩ = some (.int .i64 l[i].1) ∧ w.cell? ⟨b1, i * 2 + 1, none⟩ = some (.int .i64 l[i].2))
    (h2 : ∀ i (h : i < l.length), w.cell? ⟨b2, i * 2, none⟩ = some (.int .i64 l[i].1) ∧ w.cell? ⟨b2, i * 2 + 1, none⟩ = some (.int .i64 l[i].2)) :
    Calls Try.prog 31 #[.slice (some ⟨b1, 0, none⟩) n c1, .slice (some ⟨b2, 0, none⟩) n c2] w fun e w' => e = .returned (.bool true) ∧ Below w.heap.size w w' := by
  go_enter Try.func31, Try.ntmps31
  go_wp2_with fail
  go_loopw [13] (fun v wr => ∃ k : Nat, k ≤ n ∧ v = .int .i64 k ∧ Below w.heap.size w wr) (fun v _ => n - (intOf v).toNat)
  case atStart => exact ⟨0, Nat.zero_le _, rfl, Below.refl _ _⟩
  case round =>
    obtain ⟨k, hk, rfl, hbw⟩ := hrel
    by_cases hlt : k < n
    · obtain ⟨c0, c1'⟩ := h1 k (by omega)
      obtain ⟨d0, d1⟩ := h2 k (by omega)
      have c0 := (hbw.cell (p := ⟨b1, _, none⟩) hb1).trans c0
      have c1' := (hbw.cell (p := ⟨b1, _, none⟩) hb1).trans c1'
      have d0 := (hbw.cell (p := ⟨b2, _, none⟩) hb2).trans d0
      have d1 := (hbw.cell (p := ⟨b2, _, none⟩) hb2).trans d1
      have hkl : k < l.length := by omega
      generalize l[k] = x at *
      obtain ⟨x1, x2⟩ := x
      simp only at c0 c1' d0 d1
      have hq := neqPr x1 x2
      go_wp2_with fail
      go_quiet (fail)
      go_wp2_with fail
      exact ⟨⟨k + 1, by omega, by go_num, below_drewN hbw _⟩, by simp [intOf]; omega⟩
    · go_wp2_with fail
      go_ret
      exact ⟨rfl, hbw⟩
theorem equalP_none (p q : Option Addr) (c1 c2 : Nat) (w : World) :
    Calls Try.prog 31 #[.slice p 0 c1, .slice q 0 c2] w fun e w' => e = .returned (.bool true) ∧ Below w.heap.size w w' := by
  go_enter Try.func31, Try.ntmps31
  go_wp2_with fail
  go_loop [13] (fun v => v = .int .i64 0) (fun _ => 0)
  case atStart => rfl
  case round =>
    subst hrel
    go_wp2_with fail
    go_ret
    exact ⟨rfl, Below.refl _ _⟩
theorem equalP_same (v1 v2 : Value) (l : List (Nat × Nat)) (w : World) (hl : l.length ≤ 200) (h1 : SlP w v1 l) (h2 : SlP w v2 l) :
    Calls Try.prog 31 #[v1, v2] w fun e w' => e = .returned (.bool true) ∧ Below w.heap.size w w' := by
  obtain ⟨p, c1, rfl, h1⟩ := h1
  obtain ⟨q, c2, rfl, h2⟩ := h2
  rcases h1 with rfl | ⟨b1, rfl, hb1, k1⟩
  · exact equalP_none p q c1 c2 w
  · rcases h2 with rfl | ⟨b2, rfl, hb2, k2⟩
    · exact equalP_none _ q c1 c2 w
    · exact equalP_some b1 b2 c1 c2 _ l w rfl hl hb1 hb2 k1 k2

set_option maxHeartbeats 2000000 in
set_option maxRecDepth 100000 in
theorem lawAligns_bad (v1 v2 : Value) (a b : List Fr) (w : World) (h1 : SlF w v1 a) (h2 : SlF w v2 b) (he : twoErr a b ≠ 0) :
    Calls Try.prog 6 #[v1, v2] w fun e w' => e = .returned (.bool true) ∧ Below w.heap.size w w' := by
  have H28 := Lib.hid (align_bad v1 v2 a b w h1 h2 he)
  have H29 := Lib.hid (fun (W : World) (hb : Below w.heap.size w W) => near_bad v1 v2 a b W (h1.below (Nat.le_refl _) hb) (h2.below (Nat.le_refl _) hb) he)
  have H30 := Lib.hid (fun (W : World) (hb : Below w.heap.size w W) => pairError_any v1 v2 a b W (h1.below (Nat.le_refl _) hb) (h2.below (Nat.le_refl _) hb))
  have hq : (twoErr a b != 0) = true := by simpa using he
  clear he h1 h2
  generalize twoErr a b = E at *
  go_enter Try.func6, Try.ntmps6
  go_wp2_with (first
    | (go_at_call 28; refine H28.out.mono ?_; rintro e w1 ⟨rfl, hb1⟩)
    | (go_at_call 29; refine (H29.out _ hb1).mono ?_; rintro e w2 ⟨rfl, hb2⟩; have hb12 := below_call hb1 hb1.size hb2)
    | (go_at_call 30; refine (H30.out _ hb12).mono ?_; rintro e w3 ⟨rfl, hb3⟩; have hb13 := below_call hb12 hb12.size hb3))
  go_ret
  exact ⟨rfl, hb13⟩

set_option maxHeartbeats 2000000 in
set_option maxRecDepth 100000 in
theorem lawAligns_good (v1 v2 : Value) (a b : List Fr) (w : World) (h1 : SlF w v1 a) (h2 : SlF w v2 b) (he : twoErr a b = 0) :
    Calls Try.prog 6 #[v1, v2] w fun e w' => e = .returned (.bool true) ∧ Below w.heap.size w w' := by
  have hpl := prg_length (a := a) (b := b) a.length 0 0
  obtain ⟨hl1, hl2⟩ := twoErr_le he
  have H28 := Lib.hid (align_good v1 v2 a b w h1 h2 he)
  have H29 := Lib.hid (fun (W : World) (hb : Below w.heap.size w W) => near_good v1 v2 a b W (h1.below (Nat.le_refl _) hb) (h2.below (Nat.le_refl _) hb) he)
  have H30 := Lib.hid (fun (W : World) (hb : Below w.heap.size w W) => pairError_any v1 v2 a b W (h1.below (Nat.le_refl _) hb) (h2.below (Nat.le_refl _) hb))
  rw [he] at H30
  have H32 := Lib.hid (fun (W : World) (hb : Below w.heap.size w W) => aligned_good v1 v2 a b W (h1.below (Nat.le_refl _) hb) (h2.below (Nat.le_refl _) hb) he)
  have H33 := Lib.hid (fun (W : World) (hb : Below w.heap.size w W) => nearness_good v1 v2 a b W (h1.below (Nat.le_refl _) hb) (h2.below (Nat.le_refl _) hb) he)
  have H31 := Lib.hid (fun (u1 u2 : Value) (W : World) => equalP_same u1 u2 (prg a b a.length 0 0) W (by omega))
  clear he h1 h2 hpl hl1 hl2
  generalize prg a b a.length 0 0 = L at *
  generalize nearV a b = N at *
  go_enter Try.func6, Try.ntmps6
  go_wp2_with (first
    | (go_at_call 28; refine H28.out.mono ?_; rintro e w1 ⟨v, rfl, hown, hb1⟩)
    | (go_at_call 29; refine (H29.out _ hb1).mono ?_; rintro e w2 ⟨rfl, hb2⟩; have hb12 := below_call hb1 hb1.size hb2)
    | (go_at_call 30; refine (H30.out _ hb12).mono ?_; rintro e w3 ⟨rfl, hb3⟩; have hb13 := below_call hb12 hb12.size hb3)
    | (go_at_call 32; refine (H32.out _ hb13).mono ?_; rintro e w4 ⟨u, rfl, hown4, hb4⟩; have hb14 := below_call hb13 hb13.size hb4)
    | (go_at_call 31; refine (H31.out _ _ _ ((((slP_of_owns hown).below (Nat.le_refl _) hb2).below (Nat.le_refl _) hb3).below (Nat.le_refl _) hb4) (slP_of_owns hown4)).mono ?_; rintro e w5 ⟨rfl, hb5⟩; have hb15 := below_call hb14 hb14.size hb5)
    | (go_at_call 33; refine (H33.out _ hb15).mono ?_; rintro e w6 ⟨rfl, hb6⟩; have hb16 := below_call hb15 hb15.size hb6))
  go_ret
  exact ⟨by simp, hb16⟩

theorem lawAligns (v1 v2 : Value) (a b : List Fr) (w : World) (h1 : SlF w v1 a) (h2 : SlF w v2 b) :
    Calls Try.prog 6 #[v1, v2] w fun e w' => e = .returned (.bool true) ∧ Below w.heap.size w w' := by
  by_cases he : twoErr a b = 0
  · exact lawAligns_good v1 v2 a b w h1 h2 he
  · exact lawAligns_bad v1 v2 a b w h1 h2 he
end Go.Proofs.Ytffjnomaebjbdaa

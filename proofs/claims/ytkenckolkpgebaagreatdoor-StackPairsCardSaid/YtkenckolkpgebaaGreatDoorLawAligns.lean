/- The law StackAligns, walked. -/
import Derived.Test.YtkenckolkpgebaaGreatDoorAlign
import Derived.ChangeKeysEq
namespace Go.Proofs.YtkenckolkpgebaaGreatDoor
open Go.RowKit Go.Deep Go.Lib

theorem frsErr_le {l : List Fr} (h : frsErr l = 0) : l.length ≤ 200 := by
  apply Classical.byContradiction
  intro hn
  rw [frsErr_large (by omega)] at h
  omega
theorem twoErr_le {a b : List Fr} (h : twoErr a b = 0) : a.length ≤ 200 ∧ b.length ≤ 200 := by
  unfold twoErr at h
  split at h
  · omega
  · rename_i hn
    exact ⟨frsErr_le (by omega), frsErr_le h⟩
theorem SlF.parts {w : World} {v : Value} {l : List Fr} (h : SlF w v l) : ∃ (p : Option Addr) (b o cap : Nat), v = .slice p l.length cap ∧ (0 < l.length → p = some ⟨b, o, none⟩ ∧ b < w.heap.size) ∧ FrsAt w b o l := by
  obtain ⟨p, cap, rfl, _, _, _, h4⟩ := h
  rcases h4 with rfl | ⟨b, off, rfl, hb, hc⟩
  · exact ⟨p, 0, 0, cap, rfl, fun h => by simp at h, fun k hk => by simp at hk⟩
  · exact ⟨_, b, off, cap, rfl, fun _ => ⟨rfl, hb⟩, hc⟩

theorem align_good (v1 v2 : Value) (a b : List Fr) (w : World) (h1 : SlF w v1 a) (h2 : SlF w v2 b) (he : twoErr a b = 0) :
    Calls Tryz.prog 5 #[v1, v2] w fun e w' => ∃ v, e = .returned (.tuple #[v, .int .i64 0]) ∧ w'.ownsRow w.heap.size 30 2 v (prg a b a.length 0 0).length (cellsP (prg a b a.length 0 0)) ∧ Below w.heap.size w w' := by
  obtain ⟨hl1, hl2⟩ := twoErr_le he
  obtain ⟨pa, ba, oa, ca, rfl, hpa, hca⟩ := h1.parts
  obtain ⟨pb, bb, ob, cb, rfl, hpb, hcb⟩ := h2.parts
  exact align_some pa pb ba oa ca bb ob cb _ _ _ _ a b w rfl rfl rfl rfl hpa hpb hl1 hl2 hca hcb h1 h2 he
/-- How near two rows are. -/
def nearV (a b : List Fr) : Int := if a.length + b.length = 0 then 1000 else Int.tdiv (2000 * ((prg a b a.length 0 0).length : Nat)) ((a.length : Int) + (b.length : Int))

theorem own_slice {w : World} {base : Nat} {e : TypeId} {size : Nat} {v : Value} {n : Nat} {xs : List Value} (h : w.ownsRow base e size v n xs) : ∃ p cap, v = .slice p n cap := by
  obtain ⟨h1, ⟨rfl, h0⟩ | ⟨g, cap, cur, hv, _⟩⟩ := h
  · subst h0; exact ⟨none, 0, rfl⟩
  · exact ⟨_, cap, hv⟩

set_option maxHeartbeats 1000000 in
set_option maxRecDepth 100000 in
theorem near_bad (v1 v2 : Value) (a b : List Fr) (w : World) (h1 : SlF w v1 a) (h2 : SlF w v2 b) (he : twoErr a b ≠ 0) :
    Calls Tryz.prog 6 #[v1, v2] w fun e w' => e = .returned (.tuple #[.int .i64 0, .int .i64 (twoErr a b)]) ∧ Below w.heap.size w w' := by
  have HC := Lib.hid (align_bad v1 v2 a b w h1 h2 he)
  have hq : (twoErr a b != 0) = true := by simpa using he
  clear he h1 h2
  go_enter Tryz.func6, Tryz.ntmps6
  go_wp2_with (go_at_call 5; refine HC.out.mono ?_; rintro e w1 ⟨rfl, hb1⟩)
  go_ret2
  exact ⟨rfl, hb1⟩

set_option maxHeartbeats 1000000 in
set_option maxRecDepth 100000 in
theorem near_good (v1 v2 : Value) (a b : List Fr) (w : World) (h1 : SlF w v1 a) (h2 : SlF w v2 b) (he : twoErr a b = 0) :
    Calls Tryz.prog 6 #[v1, v2] w fun e w' => e = .returned (.tuple #[.int .i64 (nearV a b), .int .i64 0]) ∧ Below w.heap.size w w' := by
  have HC := Lib.hid (align_good v1 v2 a b w h1 h2 he)
  obtain ⟨hl1, hl2⟩ := twoErr_le he
  have HV := Lib.hid (show nearV a b = if a.length + b.length = 0 then 1000 else Int.tdiv (2000 * ((prg a b a.length 0 0).length : Nat)) ((a.length : Int) + (b.length : Int)) from rfl)
  have hpl := prg_length (a := a) (b := b) a.length 0 0
  obtain ⟨p1, c1, rfl, _⟩ := id h1
  obtain ⟨p2, c2, rfl, _⟩ := id h2
  clear he h1 h2
  generalize (prg a b a.length 0 0).length = L at *
  by_cases h0 : a.length + b.length = 0
  · rw [if_pos h0] at HV
    have hz : ((a.length : Int) + (b.length : Int) == 0) = true := by rw [beq_iff_eq]; omega
    go_enter Tryz.func6, Tryz.ntmps6
    go_wp2_with (go_at_call 5; refine HC.out.mono ?_; rintro e w1 ⟨v, rfl, hown, hb1⟩)
    go_ret2
    exact ⟨by rw [HV.out]; rfl, hb1⟩
  · rw [if_neg h0] at HV
    have hz : ((a.length : Int) + (b.length : Int) == 0) = false := by rw [beq_eq_false_iff_ne]; omega
    have hnz : ¬ (a.length : Int) + (b.length : Int) = 0 := by omega
    have hqr : IntKind.i64.wrap (Int.tdiv (2000 * (L : Int)) ((a.length : Int) + (b.length : Int))) = Int.tdiv (2000 * (L : Int)) ((a.length : Int) + (b.length : Int)) := by
      refine IntWalk.i64_in _ ⟨?_, ?_⟩
      · have := Int.tdiv_nonneg (a := 2000 * (L : Int)) (b := (a.length : Int) + (b.length : Int)) (by omega) (by omega)
        omega
      · have := Int.tdiv_le_self (a := 2000 * (L : Int)) ((a.length : Int) + (b.length : Int)) (by omega)
        omega
    go_enter Tryz.func6, Tryz.ntmps6
    go_wp2_with (go_at_call 5; refine HC.out.mono ?_; rintro e w1 ⟨v, rfl, hown, hb1⟩; obtain ⟨p, cap, rfl⟩ := own_slice hown)
    go_ret2
    exact ⟨by rw [HV.out]; rfl, hb1⟩

theorem neqPr (x y : Int) (w : World) : (binOp .neq 30 (.agg #[.int .i64 x, .int .i64 y]) (.agg #[.int .i64 x, .int .i64 y])).run Tryz.prog w = .ok (.bool false) w := by
  have hS : Tryz.prog.underlying 30 = some (.array 2 3) := by kernel_rfl
  obtain ⟨i3, hi3, hz0, hz1, hz2⟩ := info_parts Tryz.info3
  have hc : Tryz.prog.cellsOf 3 = 1 := by kernel_rfl
  have u3 := Tryz.underlying3
  rw [run_neq_struct, show (10000 : Nat) = 9999 + 1 from rfl, run_equalIn_array w 9999 _ _ hS hi3, hc]
  simp only [List.range_succ, List.range_zero, List.nil_append, List.cons_append, Op.eqItems]
  go_simp

end Go.Proofs.YtkenckolkpgebaaGreatDoor

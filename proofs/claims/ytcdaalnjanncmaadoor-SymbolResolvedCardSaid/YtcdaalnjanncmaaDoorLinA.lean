/- A span is added behind the others, or to the last one: addSpan. -/
import Derived.Test.YtcdaalnjanncmaaDoorCallPlain
import Derived.Test.YtcdaalnjanncmaaDoorLawPlain
import Derived.Laws.OwnMore
import Derived.BigQuiet
namespace Go.Proofs.YtcdaalnjanncmaaDoor
open Go.RowKit Go.Deep

theorem Tryd.info63 : (Tryd.prog.info? 63).map (fun i => (i.zero, i.size, i.bytes)) = some (some (.agg #[.int .i64 0, .int .i64 0]), 2, 16) := by kernel_rfl
theorem cellsSp_len (l : List Sp) : (cellsG encSp l).length = l.length * 2 := cellsG_length (enc := encSp) (k := 2) (fun _ => rfl) l
theorem cellsSp_at {l : List Sp} {i : Nat} {x : Sp} (h : l[i]? = some x) {j : Nat} (hj : j < 2) : (cellsG encSp l)[i * 2 + j]? = (encSp x)[j]? := by
  obtain ⟨hi, rfl⟩ := List.getElem?_eq_some_iff.1 h
  exact cellsG_at (k := 2) (fun _ => rfl) hi hj
theorem cellsSp_snoc (l : List Sp) (c : Sp) : cellsG encSp (l ++ [c]) = cellsG encSp l ++ [.int .i64 c.a, .int .i64 c.b] := by rw [cellsG_append]; simp [cellsG, encSp]
theorem cellsSp_set (q : List Sp) (d : Sp) (b : Int) : (cellsG encSp (q ++ [d])).set (q.length * 2 + 1) (.int .i64 b) = cellsG encSp (q ++ [⟨d.a, b⟩]) := by
  rw [cellsSp_snoc, cellsSp_snoc, List.set_append_right _ _ (by rw [cellsSp_len]; omega), cellsSp_len, Nat.add_sub_cancel_left]
  rfl
theorem cells2_new (w : World) (a b : Int) (t : TypeId) : ∀ j u, [Value.int .i64 a, .int .i64 b][j]? = some u → (w.alloc (.cells #[.int .i64 a, .int .i64 b] t)).cell? ((⟨w.heap.size, 0, none⟩ : Addr).add j) = some u := by
  intro j u hj
  match j, hj with
  | 0, hj => simp at hj; subst hj; simp [Addr.add]
  | 1, hj => simp at hj; subst hj; simp [Addr.add]
theorem cells2_one (a b : Int) : ∀ u ∈ [Value.int .i64 a, .int .i64 b], u.oneCell' = true := by
  intro u hx
  simp only [List.mem_cons, List.not_mem_nil, or_false] at hx
  rcases hx with rfl | rfl <;> rfl
theorem addSp_nil (s : Sp) : addSp [] s = [s] := rfl
theorem addSp_join (q : List Sp) (d s : Sp) (h : d.b = s.a) : addSp (q ++ [d]) s = q ++ [⟨d.a, s.b⟩] := by
  unfold addSp
  rw [List.getLast?_concat]
  simp only
  rw [if_pos h, List.dropLast_concat]
theorem addSp_apart (q : List Sp) (d s : Sp) (h : ¬ d.b = s.a) : addSp (q ++ [d]) s = q ++ [d] ++ [s] := by
  unfold addSp
  rw [List.getLast?_concat]
  simp only
  rw [if_neg h]
theorem own_drewN {w : World} {base : Nat} {e : TypeId} {size : Nat} {v : Value} {n : Nat} {xs : List Value} (h : w.ownsRow base e size v n xs) (k : Nat) : (w.drewN k).ownsRow base e size v n xs := h
theorem grown_drewN (w : World) (o : Obj) (k : Nat) (row : Option Nat) : w.grownBy ((w.alloc o).drewN k) row := ⟨rfl, rfl, rfl, by simp [World.drewN], fun i hi hne => (World.grownBy_alloc w o row).block i hi hne⟩

set_option maxHeartbeats 2000000 in
set_option maxRecDepth 100000 in
theorem addSpan_own (base : Nat) (v : Value) (l : List Sp) (s : Sp) (w : World) (hl : l.length ≤ 5000) (hown : w.ownsRow base 63 2 v l.length (cellsG encSp l)) (hbase : base ≤ w.heap.size) :
    Calls Tryd.prog 45 #[v, .agg #[.int .i64 s.a, .int .i64 s.b]] w fun e w' => ∃ v', e = .returned v' ∧ w'.ownsRow base 63 2 v' (addSp l s).length (cellsG encSp (addSp l s)) ∧ w.grownBy w' v.ownBlock := by
  obtain ⟨sa, sb⟩ := s
  simp only
  obtain ⟨i0, hi, hz0, hz1, hz2⟩ := info_parts Tryd.info63
  have hz5 : (Value.agg #[.int .i64 0, .int .i64 0]).cells.size = 2 := rfl
  have hone := cells2_one sa sb
  rcases List.eq_nil_or_concat l with rfl | ⟨q, d, rfl⟩
  · have HR := Lib.hid (addSp_nil ⟨sa, sb⟩)
    obtain ⟨p, cap, rfl⟩ := own_len hown
    simp only [List.length_nil] at hown
    go_enter Tryd.func45, Tryd.ntmps45
    go_wp2_with fail
    go_quiet (fail)
    have hownq := own_drewN (hown.alloc (.cells #[.int .i64 sa, .int .i64 sb] 63)) nq
    have hgq := grown_drewN w (.cells #[.int .i64 sa, .int .i64 sb] 63) nq (Value.ownBlock (.slice p 0 cap))
    have f0 : ((w.alloc (.cells #[.int .i64 sa, .int .i64 sb] 63)).drewN nq).cell? ⟨w.heap.size, 0, none⟩ = some (.int .i64 sa) := by show (w.alloc _).cell? _ = _; go_simp
    have f1 : ((w.alloc (.cells #[.int .i64 sa, .int .i64 sb] 63)).drewN nq).cell? ⟨w.heap.size, 1, none⟩ = some (.int .i64 sb) := by show (w.alloc _).cell? _ = _; go_simp
    generalize (w.alloc (.cells #[.int .i64 sa, .int .i64 sb] 63)).drewN nq = wq at *
    have hlq := hgq.size
    have hownY := hownq.alloc (.cells #[.int .i64 sa, .int .i64 sb] 63)
    have hsrc := cells2_new wq sa sb 63
    have q1 : 0 + 1 ≤ maxLen := by unfold maxLen; omega
    have q2 : (0 + 1) * 16 ≤ 140737488355328 := by omega
    have q3 : base ≤ (wq.alloc (.cells #[.int .i64 sa, .int .i64 sb] 63)).heap.size := by simp; omega
    go_wp2_with (at_builtin; (refine wpList_append_own _ rfl _ _ 59 rfl base 63 i0 _ 2 16 Tryd.underlying59 hi hz0 hz1 hz2 hz5 (by decide) _ 0 _ rfl hownY ⟨wq.heap.size, 0, none⟩ 1 1 [.int .i64 sa, .int .i64 sb] rfl rfl hsrc hone q1 q2 q3 ?_; intro v4 w4 hown4 hgr4 _))
    go_ret
    exact ⟨v4, rfl, by rw [HR.out]; exact hown4, hgq.trans ((World.grownBy_alloc _ _ _).trans hgr4)⟩
  · rw [List.concat_eq_append] at *
    have hn1 : (q ++ [d]).length = q.length + 1 := by simp
    have hd1 : (cellsG encSp (q ++ [d]))[q.length * 2 + 1]? = some (.int .i64 d.b) := by
      rw [cellsSp_at (l := q ++ [d]) (i := q.length) (x := d) (by simp) (j := 1) (by omega)]; rfl
    obtain ⟨g, cap, rfl, hbg, hgl, hcells⟩ := own_slice hown (by omega)
    have c1 := hcells _ _ hd1
    have hsz : q.length ≤ 4999 := by omega
    have HSET := Lib.hid (cellsSp_set q d sb)
    have HJ := Lib.hid (fun h => addSp_join q d ⟨sa, sb⟩ h)
    have HP := Lib.hid (fun h => addSp_apart q d ⟨sa, sb⟩ h)
    have HSN := Lib.hid (cellsSp_snoc (q ++ [d]) ⟨sa, sb⟩)
    have HLJ := Lib.hid (show (q ++ [(⟨d.a, sb⟩ : Sp)]).length = q.length + 1 by simp)
    have HLP := Lib.hid (show (q ++ [d] ++ [(⟨sa, sb⟩ : Sp)]).length = q.length + 1 + 1 by simp)
    rw [hn1] at hown ⊢
    have HQ := Lib.hid (show ∃ n, n = q.length from ⟨_, rfl⟩)
    generalize hxs : cellsG encSp (q ++ [d]) = xs at *
    clear hcells hd1 hn1 hl hxs
    generalize hn : q.length = n at *
    clear HQ hn
    have hwn : IntKind.i64.wrap (n : Int) = (n : Int) := IntWalk.i64_in _ ⟨by omega, by omega⟩
    have hnn : (n : Int) < (n : Int) + 1 := by omega
    have hnp : (0 : Int) ≤ (n : Int) := by omega
    have hd0 : decide ((0 : Int) ≤ (n : Int)) = true := decide_eq_true hnp
    by_cases he : d.b = sa
    · have hb1 : (d.b == sa) = true := by rw [beq_iff_eq]; exact he
      have HR := Lib.hid (HJ.out he)
      clear he HJ HP HSN HLP
      generalize d.b = db at *
      go_enter Tryd.func45, Tryd.ntmps45
      go_wp2_with fail
      go_quiet (fail)
      have hownq := own_drewN (hown.alloc (.cells #[.int .i64 sa, .int .i64 sb] 63)) nq
      have hgq := grown_drewN w (.cells #[.int .i64 sa, .int .i64 sb] 63) nq (Value.ownBlock (.slice (some ⟨g, 0, none⟩) (n + 1) cap))
      have f0 : ((w.alloc (.cells #[.int .i64 sa, .int .i64 sb] 63)).drewN nq).cell? ⟨w.heap.size, 0, none⟩ = some (.int .i64 sa) := by show (w.alloc _).cell? _ = _; go_simp
      have f1 : ((w.alloc (.cells #[.int .i64 sa, .int .i64 sb] 63)).drewN nq).cell? ⟨w.heap.size, 1, none⟩ = some (.int .i64 sb) := by show (w.alloc _).cell? _ = _; go_simp
      have c1q : ((w.alloc (.cells #[.int .i64 sa, .int .i64 sb] 63)).drewN nq).cell? ⟨g, n * 2 + 1, none⟩ = some (.int .i64 db) := (World.cell?_alloc_lt _ _ _ hgl).trans c1
      generalize (w.alloc (.cells #[.int .i64 sa, .int .i64 sb] 63)).drewN nq = wq at *
      have hst := hownq.stored (n * 2 + 1) (.int .i64 sb)
      have hfz := hownq.frozenAt (n * 2 + 1)
      go_wp2_with fail
      go_ret
      exact ⟨_, rfl, by rw [HR.out, HLJ.out, ← HSET.out]; exact hst.1, hgq.trans hst.2⟩
    · have hb1 : (d.b == sa) = false := by rw [beq_eq_false_iff_ne]; exact he
      have HR := Lib.hid (HP.out he)
      clear he HJ HP HSET HLJ
      generalize d.b = db at *
      go_enter Tryd.func45, Tryd.ntmps45
      go_wp2_with fail
      go_quiet (fail)
      have hownq := own_drewN (hown.alloc (.cells #[.int .i64 sa, .int .i64 sb] 63)) nq
      have hgq := grown_drewN w (.cells #[.int .i64 sa, .int .i64 sb] 63) nq (Value.ownBlock (.slice (some ⟨g, 0, none⟩) (n + 1) cap))
      have f0 : ((w.alloc (.cells #[.int .i64 sa, .int .i64 sb] 63)).drewN nq).cell? ⟨w.heap.size, 0, none⟩ = some (.int .i64 sa) := by show (w.alloc _).cell? _ = _; go_simp
      have f1 : ((w.alloc (.cells #[.int .i64 sa, .int .i64 sb] 63)).drewN nq).cell? ⟨w.heap.size, 1, none⟩ = some (.int .i64 sb) := by show (w.alloc _).cell? _ = _; go_simp
      generalize (w.alloc (.cells #[.int .i64 sa, .int .i64 sb] 63)).drewN nq = wq at *
      have hlq := hgq.size
      have hownY := hownq.alloc (.cells #[.int .i64 sa, .int .i64 sb] 63)
      have hsrc := cells2_new wq sa sb 63
      have q1 : n + 1 + 1 ≤ maxLen := by unfold maxLen; omega
      have q2 : (n + 1 + 1) * 16 ≤ 140737488355328 := by omega
      have q3 : base ≤ (wq.alloc (.cells #[.int .i64 sa, .int .i64 sb] 63)).heap.size := by simp; omega
      go_wp2_with (at_builtin; (refine wpList_append_own _ rfl _ _ 59 rfl base 63 i0 _ 2 16 Tryd.underlying59 hi hz0 hz1 hz2 hz5 (by decide) _ (n + 1) xs rfl hownY ⟨wq.heap.size, 0, none⟩ 1 1 [.int .i64 sa, .int .i64 sb] rfl rfl hsrc hone q1 q2 q3 ?_; intro v4 w4 hown4 hgr4 _))
      go_ret
      exact ⟨v4, rfl, by rw [HR.out, HLP.out, HSN.out]; exact hown4, hgq.trans ((World.grownBy_alloc _ _ _).trans hgr4)⟩
end Go.Proofs.YtcdaalnjanncmaaDoor

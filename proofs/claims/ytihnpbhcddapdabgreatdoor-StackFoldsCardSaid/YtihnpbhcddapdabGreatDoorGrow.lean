/- What slices.Grow of a nil slice leaves. -/
import Derived.Test.YtihnpbhcddapdabGreatDoorClone
namespace Go.Proofs.YtihnpbhcddapdabGreatDoor
open Go.RowKit

section
variable {P : Program} (w : World)
theorem run_append_make (t ti ty e : TypeId) (i : TypeInfo) (z : Value) (k : IntKind) (ht : P.underlying t = some (.slice e)) (hti : P.underlying ti = some (.int k)) (hi : P.info? e = some i) (hz : i.zero = some z)
    (n : Nat) (h0 : 0 < n) (h63 : (n : Int) ≤ 9223372036854775807) (h48 : n * i.bytes ≤ 281474976710656) (hsz : 0 < i.size) :
    (Builtin.append_ #[t, ti] ty #[.slice none 0 0, .int .i64 n]).run P w =
      .ok (.slice (some ⟨w.heap.size, 0, none⟩) n (grownCap w n 0 e)) (w.drew.alloc (.cells (Builtin.zeroCells z.cells n ++ Builtin.zeroCells z.cells (grownCap w n 0 e - n)) e)) := by
  have hn : n ≠ 0 := by omega
  have hn2 : ¬ n * i.size = 0 := by
    intro h
    rcases Nat.mul_eq_zero.1 h with h | h <;> omega
  have h63' : ¬ (9223372036854775807 < (n : Int)) := by omega
  have h48' : ¬ (281474976710656 < Builtin.nextslicecap n 0 * i.bytes) := by rw [nextslicecap_zero h0]; omega
  have h48'' : ¬ (281474976710656 < (n : Int) * (i.bytes : Int)) := by
    rw [← Int.natCast_mul]; omega
  have hneg : ¬ ((n : Int) < 0) := by omega
  have hw : IntKind.i64.wrap (n : Int) = n := IntWalk.i64_in _ ⟨by omega, by omega⟩
  simp [Builtin.append_, run_underlying ht, run_underlying hti, sizeOf, typeInfo, zeroValue, hi, hz, asInt, asIntOf, hw, hneg, h48'', hn, hn2, h63', h48', Question.forced, run_firstCells_none, newRow, grownCap]

theorem wpList_append_run {ops : Array Oper} {rest : List Oper} {o : Oper} {a : Act} {Q : Exit → Act → World → Prop} (hgd : o.guard = none) (s x : Operand) (t ti : TypeId)
    (ho : o.op = .call { callee := .builtin .append, args := #[s, x], argTypes := #[t, ti] }) (u v v' : Value) (w' : World) (hs : a.eval s = u) (hx : a.eval x = v)
    (hr : (Builtin.append_ #[t, ti] o.type #[u, v]).run P w = .ok v' w') (h : wpList P ops Q rest (a.put o.dst v') w') : wpList P ops Q (o :: rest) a w := by
  refine wpList_plain hgd fun K hK => ?_
  unfold Oper.wp execOp
  simp only [ho, resolve, invoke, builtin, Sem.run_bind, Sem.run_pure, Result.andThen_ok, List.map_toArray, List.map_cons, List.map_nil, hs, hx, hr]
  exact hK _ _ h
end

set_option maxHeartbeats 1000000 in
set_option maxRecDepth 100000 in
/-- Grow makes room: an empty slice of the call's own. -/
theorem grow_any (n : Nat) (w : World) (h0 : 0 < n) (hn : n ≤ 200) :
    Calls Tryz.prog 48 #[.slice none 0 0, .int .i64 n] w fun e w' => ∃ v, e = .returned v ∧ w'.ownsRow w.heap.size 42 6 v 0 [] ∧ Below w.heap.size w w' := by
  obtain ⟨i0, hi, hz0, hz1, hz2⟩ := info_parts Tryz.info23
  have hr := fun (w : World) (ty : TypeId) => run_append_make w 32 3 ty 42 i0 _ .i64 Tryz.underlying32 Tryz.underlying3 hi hz0 n h0 (by omega) (by rw [hz2]; omega) (by rw [hz1]; decide)
  have HO := Lib.hid (show (w.drew.alloc (.cells (Builtin.zeroCells (Value.agg #[.string ⟨#[]⟩, .string ⟨#[]⟩, .string ⟨#[]⟩, .int .i64 0, .int .i64 0, .bool false]).cells n ++ Builtin.zeroCells (Value.agg #[.string ⟨#[]⟩, .string ⟨#[]⟩, .string ⟨#[]⟩, .int .i64 0, .int .i64 0, .bool false]).cells (grownCap w n 0 42 - n)) 42)).ownsRow w.heap.size 42 6 (.slice (some ⟨w.heap.size, 0, none⟩) 0 (grownCap w n 0 42)) 0 [] by
    have hge := grownCap_ge w n 0 42
    refine World.ownsRow_made w.drew _ _ (Nat.le_refl _) (grownCap_le_maxLen w n 0 42 (by unfold maxLen; omega)) ?_
    rw [Array.size_append, size_zeroCells, size_zeroCells, show (Value.agg #[.string ⟨#[]⟩, .string ⟨#[]⟩, .string ⟨#[]⟩, .int .i64 0, .int .i64 0, .bool false]).cells.size = 6 from rfl]
    omega)
  go_enter Tryz.func48, Tryz.ntmps48
  go_wp2_with (at_builtin; (refine wpList_append_run _ rfl _ _ 32 3 rfl _ _ _ _ rfl rfl (hr _ _) ?_))
  go_ret
  exact ⟨_, rfl, HO.out, ((Below.refl _ _).drew).alloc (Nat.le_refl _) _⟩

theorem slF_src {w W : World} {a : Addr} {n c : Nat} {l : List Fr} (h : SlF w (.slice (some a) n c) l) (hb : Below w.heap.size w W) : n = l.length ∧ ∀ i u, (cellsOf l)[i]? = some u → W.cell? (a.add i) = some u := by
  obtain ⟨p, cap, hv, h1, h2, h3, h4⟩ := h
  obtain ⟨rfl, rfl, rfl⟩ := Value.slice.inj hv
  refine ⟨rfl, fun i u hu => ?_⟩
  rcases h4 with rfl | ⟨b, off, hp, hlt, hc⟩
  · simp [cellsOf] at hu
  · cases hp
    rw [add_none]; exact (hc.below hlt hb).cells i u hu

set_option maxHeartbeats 2000000 in
set_option maxRecDepth 100000 in
/-- Concat of two slices of frames. -/
theorem concat_two (g n1 c1 n2 c2 : Nat) (a1 a2 : Addr) (a b : List Fr) (w : World) (hg : g < w.heap.size) (hn : n1 + n2 ≤ 200) (h0 : 0 < n1 + n2)
    (k0 : w.cell? ⟨g, 0, none⟩ = some (.slice (some a1) n1 c1)) (k1 : w.cell? ⟨g, 1, none⟩ = some (.slice (some a2) n2 c2)) (ha : SlF w (.slice (some a1) n1 c1) a) (hb : SlF w (.slice (some a2) n2 c2) b) :
    Calls Tryz.prog 33 #[.slice (some ⟨g, 0, none⟩) 2 2] w (Made (a ++ b) w) := by
  obtain ⟨i0, hi, hz0, hz1, hz2⟩ := info_parts Tryz.info23
  have hz6 : (Value.agg #[.string ⟨#[]⟩, .string ⟨#[]⟩, .string ⟨#[]⟩, .int .i64 0, .int .i64 0, .bool false]).cells.size = 6 := rfl
  have HA := Lib.hid (fun (W : World) (hw : Below w.heap.size w W) => (slF_src ha hw).2)
  have HB := Lib.hid (fun (W : World) (hw : Below w.heap.size w W) => (slF_src hb hw).2)
  have HLA := Lib.hid (slF_src ha (Below.refl _ _)).1
  have HLB := Lib.hid (slF_src hb (Below.refl _ _)).1
  clear ha hb
  have hla : (cellsOf a).length = n1 * 6 := by rw [cellsOf_length, HLA.out]
  have hlb : (cellsOf b).length = n2 * 6 := by rw [cellsOf_length, HLB.out]
  have HLa := Lib.hid hla
  have HLb := Lib.hid hlb
  have hoa := cellsOf_one (l := a)
  have hob := cellsOf_one (l := b)
  have HM := Lib.hid (fun (v' : Value) (w1 : World) (h : w1.ownsRow w.heap.size 42 6 v' (n1 + n2) (cellsOf a ++ cellsOf b)) (hb : Below w.heap.size w w1) => (show Made (a ++ b) w (.returned v') w1 from ⟨v', rfl, by rw [List.length_append, ← HLA.out, ← HLB.out, cellsOf_append]; exact h, hb⟩))
  clear hla hlb
  generalize cellsOf a = xa at *
  generalize cellsOf b = xb at *
  have hc1 : n1 ≤ 200 := by omega
  have hc2 : n2 ≤ 200 := by omega
  go_enter Tryz.func33, Tryz.ntmps33
  go_wp2_with fail
  go_loop [3, 11] (fun s v => ∃ k : Nat, k ≤ 2 ∧ s = .int .i64 (if k = 0 then 0 else if k = 1 then n1 else n1 + n2) ∧ v = .int .i64 k) (fun _ v => 2 - (intOf v).toNat)
  case atStart => exact ⟨0, by omega, rfl, rfl⟩
  case round =>
    obtain ⟨k, hk, rfl, rfl⟩ := hrel
    obtain rfl | rfl | rfl : k = 0 ∨ k = 1 ∨ k = 2 := by omega
    · go_wp2_with fail
      exact ⟨⟨1, by omega, by simp, rfl⟩, by simp [intOf]⟩
    · go_wp2_with fail
      exact ⟨⟨2, by omega, by simp, rfl⟩, by simp [intOf]⟩
    · have h2 : (0 : Int) ≤ (n1 : Int) + n2 := by omega
      have HG := Lib.hid (grow_any (n1 + n2) w h0 hn)
      rw [Int.natCast_add] at HG
      go_wp2_with (go_at_call 48; refine HG.out.mono ?_; rintro e w1 ⟨v, rfl, hown, hb1⟩)
      go_loopw [6, 27] (fun s v wr => ∃ k : Nat, k ≤ 2 ∧ wr.ownsRow w.heap.size 42 6 s (if k = 0 then 0 else if k = 1 then n1 else n1 + n2) (if k = 0 then [] else if k = 1 then xa else xa ++ xb) ∧ v = .int .i64 k ∧ Below w.heap.size w wr) (fun _ v _ => 2 - (intOf v).toNat)
      case atStart => exact ⟨0, by omega, hown, rfl, hb1⟩
      clear hown hb1 HG
      obtain ⟨j, hj, hown, rfl, hbw⟩ := hrel
      have q3 := hbw.size
      obtain rfl | rfl | rfl : j = 0 ∨ j = 1 ∨ j = 2 := by omega
      · simp only [if_true] at hown
        have e0 : wr.cell? ⟨g, 0, none⟩ = some (.slice (some a1) n1 c1) := (hbw.cell (p := ⟨g, 0, none⟩) hg).trans k0
        have hsrc := HA.out wr hbw
        have q1 : 0 + n1 ≤ maxLen := by unfold maxLen; omega
        have q2 : (0 + n1) * 72 ≤ 140737488355328 := by omega
        have hge := own_ge hown
        go_wp2_with (at_builtin; (refine wpList_append_own _ rfl _ _ 32 rfl w.heap.size 42 i0 _ 6 72 Tryz.underlying32 hi hz0 hz1 hz2 hz6 (by decide) _ 0 [] rfl hown a1 n1 c1 xa rfl HLa.out hsrc hoa q1 q2 q3 ?_; intro v' w2 hown3 hgrow _))
        rw [Nat.zero_add, List.nil_append] at hown3
        exact ⟨⟨1, by omega, hown3, rfl, hbw.grown hgrow q3 hge⟩, by simp [intOf]⟩
      · simp only [if_true, Nat.one_ne_zero, if_false] at hown
        have e1 : wr.cell? ⟨g, 1, none⟩ = some (.slice (some a2) n2 c2) := (hbw.cell (p := ⟨g, 1, none⟩) hg).trans k1
        have hsrc := HB.out wr hbw
        have q1 : n1 + n2 ≤ maxLen := by unfold maxLen; omega
        have q2 : (n1 + n2) * 72 ≤ 140737488355328 := by omega
        have hge := own_ge hown
        go_wp2_with (at_builtin; (refine wpList_append_own _ rfl _ _ 32 rfl w.heap.size 42 i0 _ 6 72 Tryz.underlying32 hi hz0 hz1 hz2 hz6 (by decide) _ n1 xa rfl hown a2 n2 c2 xb rfl HLb.out hsrc hob q1 q2 q3 ?_; intro v' w2 hown3 hgrow _))
        exact ⟨⟨2, by omega, hown3, rfl, hbw.grown hgrow q3 hge⟩, by simp [intOf]⟩
      · have hown' : wr.ownsRow w.heap.size 42 6 u6 (n1 + n2) (xa ++ xb) := hown
        clear hown
        go_wp2_with fail
        go_ret
        exact HM.out _ _ hown' hbw
end Go.Proofs.YtihnpbhcddapdabGreatDoor

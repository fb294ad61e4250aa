/- What a frame becomes, where its table has places. -/
import Derived.Test.YtcdaalnjanncmaaDoorResC
namespace Go.Proofs.YtcdaalnjanncmaaDoor
open Go.RowKit Go.Deep Go.Lib

def encFr (x : Fr) : List Value := [.string x.m, .string x.f, .string x.i, .int .i64 x.line, .int .i64 x.addr, .bool x.own]
/-- The frame of a place. -/
def frOf (m : ByteArray) (addr : Int) (own : Bool) (p : Pl) : Fr := ⟨m, p.n, p.f, p.l, addr, own⟩
theorem cellsFr_snoc (l : List Pl) (m : ByteArray) (a : Int) (o : Bool) (n f : ByteArray) (ln : Int) : cellsG encFr (l.map (frOf m a o) ++ [⟨n, f, ln⟩].map (frOf m a o)) = cellsG encFr (l.map (frOf m a o)) ++ [.string m, .string n, .string f, .int .i64 ln, .int .i64 a, .bool o] := by rw [cellsG_append]; simp [cellsG, encFr, frOf]
theorem cells6_new (w : World) (x : Fr) (t : TypeId) : ∀ j u, [Value.string x.m, .string x.f, .string x.i, .int .i64 x.line, .int .i64 x.addr, .bool x.own][j]? = some u → (w.alloc (.cells #[.string x.m, .string x.f, .string x.i, .int .i64 x.line, .int .i64 x.addr, .bool x.own] t)).cell? ((⟨w.heap.size, 0, none⟩ : Addr).add j) = some u := by
  intro j u hj
  match j, hj with
  | 0, hj => simp at hj; subst hj; simp [Addr.add]
  | 1, hj => simp at hj; subst hj; simp [Addr.add]
  | 2, hj => simp at hj; subst hj; simp [Addr.add]
  | 3, hj => simp at hj; subst hj; simp [Addr.add]
  | 4, hj => simp at hj; subst hj; simp [Addr.add]
  | 5, hj => simp at hj; subst hj; simp [Addr.add]
theorem cells6_one (x : Fr) : ∀ u ∈ [Value.string x.m, .string x.f, .string x.i, .int .i64 x.line, .int .i64 x.addr, .bool x.own], u.oneCell' = true := by
  intro u hx
  simp only [List.mem_cons, List.not_mem_nil, or_false] at hx
  rcases hx with rfl | rfl | rfl | rfl | rfl | rfl <;> rfl
theorem placesOf_len {t : Tb} {p : Int} {nm : ByteArray} (h : Good t) : (placesOf t p nm).length ≤ 1001 := by
  unfold placesOf
  rw [List.length_reverse]
  have := outs_length t.files p (lineAt t p) t.calls nm
  have := h.calls
  omega

set_option maxHeartbeats 8000000 in
set_option maxRecDepth 100000 in
theorem resolveFrame_fine (fr : Fr) (ret : Bool) (vm vt : Value) (ms : List Md) (ts : List Te) (i k : Nat) (m : Md) (x : Te) (w : World) (hm : SlG encM 4 fitM w vm ms) (ht : TbsV w vt ts) (h : modAt fr.addr ms = (i : Int)) (hi : ms[i]? = some m) (hn : ms.length ≤ 100) (hx : tabIdx ts m.id = (k : Int)) (hk : ts[k]? = some x) (hnt : ts.length ≤ 100)
    (ho1 : -9223372036854775808 ≤ fr.addr - m.a) (ho2 : fr.addr - m.a ≤ 9223372036854775807) (hz : tabErr x.t = 0) (hok : plErr x.t (offOf0 (fr.addr - m.a) ret) = 0) :
    Calls Tryd.prog 28 #[fr.val, .bool ret, vm, vt] w fun e w' => ∃ u nm, e = .returned (.tuple #[u, .bool true]) ∧ Below w.heap.size w w' ∧ w'.ownsRow w.heap.size 35 6 u (placesOf x.t (offOf0 (fr.addr - m.a) ret) nm).length (cellsG encFr ((placesOf x.t (offOf0 (fr.addr - m.a) ret) nm).map (frOf m.n fr.addr fr.own))) ∧ (∃ i : Nat, fncAt (offOf0 (fr.addr - m.a) ret) x.t.funcs = (i : Int) ∧ ∃ fn, x.t.funcs[i]? = some fn ∧ fn.n = nm) := by
  obtain ⟨i0, hi0, hz0, hz1, hz2⟩ := info_parts Tryd.info35
  have hz5 : (Value.agg #[.string ⟨#[]⟩, .string ⟨#[]⟩, .string ⟨#[]⟩, .int .i64 0, .int .i64 0, .bool false]).cells.size = 6 := rfl
  have HLL := Lib.hid (fun nm => placesOf_len (p := offOf0 (fr.addr - m.a) ret) (nm := nm) (good_of hz))
  unfold Fr.val
  have HM := Lib.hid (fun (W : World) (hW : Below w.heap.size w W) => moduleAt_any vm ms fr.addr W (hm.below (Nat.le_refl _) hW))
  rw [atVal_some h] at HM
  have HT := Lib.hid (fun (W : World) (hW : Below w.heap.size w W) => tableOf_any vt m.id ts W (ht.below (Nat.le_refl _) hW))
  rw [hx] at HT
  have HXV := Lib.hid (ht.2 x (List.mem_iff_getElem?.2 ⟨k, hk⟩))
  have HP := Lib.hid (fun (W : World) (hW : Below w.heap.size w W) => placesAt_fine x.val x.t (offOf0 (fr.addr - m.a) ret) W (HXV.out.below (Nat.le_refl _) hW) hz hok)
  unfold Te.val at HP
  clear hok HXV hz
  clear h hx
  obtain ⟨⟨pt, ct, rfl, -, hct, -, ot⟩, -⟩ := ht
  obtain ⟨pm, cm, rfl, -, -, -, om⟩ := hm
  obtain ⟨hil, hmx⟩ := List.getElem?_eq_some_iff.1 hi
  obtain ⟨hkl, hkx⟩ := List.getElem?_eq_some_iff.1 hk
  rcases om with h0 | ⟨b, off, rfl, hb, hc⟩
  · rw [h0] at hil; simp at hil
  rcases ot with h0 | ⟨b2, off2, rfl, hb2, hc2⟩
  · rw [h0] at hkl; simp at hkl
  obtain ⟨k0, k1, k2, k3⟩ := hc.mod hil
  rw [hmx] at k0 k1 k2 k3
  obtain ⟨q0, q1, q2, q3, q4, q5⟩ := hc2.tab hkl
  rw [hkx] at q0 q1 q2 q3 q4 q5
  obtain ⟨mn, mid, ma, mb⟩ := m
  simp only at k0 k1 k2 k3 HT ho1 ho2 HP HLL ⊢
  have hiz : (i : Int) < (ms.length : Int) := by omega
  have hwi : IntKind.i64.wrap (i : Int) = (i : Int) := IntWalk.i64_in _ ⟨by omega, by omega⟩
  have hkz : (k : Int) < (ts.length : Int) := by omega
  have hwk : IntKind.i64.wrap (k : Int) = (k : Int) := IntWalk.i64_in _ ⟨by omega, by omega⟩
  have hk0 : decide ((k : Int) < 0) = false := decide_eq_false (by omega)
  have hw0 : IntKind.i64.wrap (fr.addr - ma) = fr.addr - ma := IntWalk.i64_in _ ⟨ho1, ho2⟩
  have hw1 : IntKind.i64.wrap (fr.addr - ma - 1) = fr.addr - ma - 1 ∨ ¬ 0 < fr.addr - ma := by
    by_cases hp : 0 < fr.addr - ma
    · exact .inl (IntWalk.i64_in _ ⟨by omega, by omega⟩)
    · exact .inr hp
  clear hi hmx hc hil hn hk hkx hc2 hkl hnt
  have hA : Below w.heap.size w (w.alloc (.cells #[.string fr.m, .string fr.f, .string fr.i, .int .i64 fr.line, .int .i64 fr.addr, .bool fr.own] 35)) := (Below.refl _ _).alloc (Nat.le_refl _) _
  clear ho1 ho2
  cases ret with
  | false =>
    have HOF := Lib.hid (show offOf0 (fr.addr - ma) false = (fr.addr - ma) from by unfold offOf0; rw [if_neg (by simp)])
    rw [HOF.out] at HP HLL ⊢
    clear HOF
    go_enter Tryd.func28, Tryd.ntmps28
    go_wp2_with (first | (go_at_call 29; with_reducible refine (HM.out _ hA).mono ?_; rintro e w1 ⟨rfl, hb1⟩; have hbw1 := below_call hA hA.size hb1; have k0 := (hbw1.cell (p := ⟨b, _, none⟩) hb).trans k0; have k1 := (hbw1.cell (p := ⟨b, _, none⟩) hb).trans k1; have k2 := (hbw1.cell (p := ⟨b, _, none⟩) hb).trans k2; have k3 := (hbw1.cell (p := ⟨b, _, none⟩) hb).trans k3; have hbw2 := hbw1.alloc hbw1.size (.cells #[.string mn, .string mid, .int .i64 ma, .int .i64 mb] 77); have f4 : w1.cell? ⟨w.heap.size, 4, none⟩ = some (.int .i64 fr.addr) := (hb1.cell (p := ⟨w.heap.size, 4, none⟩) (by simp)).trans (by go_simp); have f5 : w1.cell? ⟨w.heap.size, 5, none⟩ = some (.bool fr.own) := (hb1.cell (p := ⟨w.heap.size, 5, none⟩) (by simp)).trans (by go_simp); have hlf := World.block_lt_of_cell? _ _ f4; simp only at hlf; have fa4 : (w1.alloc (.cells #[.string mn, .string mid, .int .i64 ma, .int .i64 mb] 77)).cell? ⟨w.heap.size, 4, none⟩ = some (.int .i64 fr.addr) := (World.cell?_alloc_lt _ _ _ hlf).trans f4; have fa5 : (w1.alloc (.cells #[.string mn, .string mid, .int .i64 ma, .int .i64 mb] 77)).cell? ⟨w.heap.size, 5, none⟩ = some (.bool fr.own) := (World.cell?_alloc_lt _ _ _ hlf).trans f5) | (go_at_call 30; with_reducible refine (HT.out _ hbw2).mono ?_; rintro e' w3 ⟨rfl, hb3⟩; have hbw3 := below_call hbw2 hbw2.size hb3; have g4 := cell_keep fa4 hb3; have g5 := cell_keep fa5 hb3; have m0 : w3.cell? ⟨w1.heap.size, 0, none⟩ = some (.string mn) := (hb3.cell (p := ⟨w1.heap.size, 0, none⟩) (by simp)).trans (by go_simp); have m1 : w3.cell? ⟨w1.heap.size, 1, none⟩ = some (.string mid) := (hb3.cell (p := ⟨w1.heap.size, 1, none⟩) (by simp)).trans (by go_simp); have m2 : w3.cell? ⟨w1.heap.size, 2, none⟩ = some (.int .i64 ma) := (hb3.cell (p := ⟨w1.heap.size, 2, none⟩) (by simp)).trans (by go_simp); have m3 : w3.cell? ⟨w1.heap.size, 3, none⟩ = some (.int .i64 mb) := (hb3.cell (p := ⟨w1.heap.size, 3, none⟩) (by simp)).trans (by go_simp); have q0 := (hbw3.cell (p := ⟨b2, _, none⟩) hb2).trans q0; have q1 := (hbw3.cell (p := ⟨b2, _, none⟩) hb2).trans q1; have q2 := (hbw3.cell (p := ⟨b2, _, none⟩) hb2).trans q2; have q3 := (hbw3.cell (p := ⟨b2, _, none⟩) hb2).trans q3; have q4 := (hbw3.cell (p := ⟨b2, _, none⟩) hb2).trans q4; have q5 := (hbw3.cell (p := ⟨b2, _, none⟩) hb2).trans q5) | (go_at_call 43; with_reducible refine (HP.out _ hbw3).mono ?_; rintro e' w4 ⟨u, nm, rfl, hb4, hown, hnm⟩; obtain ⟨pu, cu, rfl⟩ := own_len hown; have hbw4 := below_call hbw3 hbw3.size hb4; have y4 := cell_keep g4 hb4; have y5 := cell_keep g5 hb4; have mm := cell_keep m0 hb4; have hll := HLL.out nm; have hs3 := hbw3.size; obtain ⟨L, hLE⟩ : ∃ L, L = placesOf x.t (fr.addr - ma) nm := ⟨_, rfl⟩; rw [← hLE] at hown hll ⊢; have HLE := Lib.hid hLE; clear hLE))
    go_loopw [17, 64] (fun v17 v wr => ∃ (q : Nat) (va : Value), va = v17 ∧ q ≤ L.length ∧ v = .int .i64 q ∧ wr.ownsRow w4.heap.size 35 6 va q (cellsG encFr ((L.take q).map (frOf mn fr.addr fr.own))) ∧ Below w4.heap.size w4 wr) (fun _ v _ => L.length - (RowKit.intOf v).toNat)
    case atStart => exact ⟨0, _, rfl, Nat.zero_le _, rfl, ⟨rfl, .inl ⟨rfl, rfl⟩⟩, Below.refl _ _⟩
    obtain ⟨q, va, rfl, hq, rfl, hownr, hbr⟩ := hrel
    by_cases hlt : q < L.length
    · obtain ⟨gg, cap, he, hbg, hgl, hcells⟩ := own_slice hown (by omega)
      obtain ⟨rfl, -, rfl⟩ := Value.slice.inj he
      have hx := List.getElem?_eq_getElem hlt
      have c0 := (hbr.cell (p := ⟨gg, q * 3 + 0, none⟩) hgl).trans (hcells _ _ (by rw [cellsP_at hx (j := 0) (by omega)]; rfl))
      have c1 := (hbr.cell (p := ⟨gg, q * 3 + 1, none⟩) hgl).trans (hcells _ _ (by rw [cellsP_at hx (j := 1) (by omega)]; rfl))
      have c2 := (hbr.cell (p := ⟨gg, q * 3 + 2, none⟩) hgl).trans (hcells _ _ (by rw [cellsP_at hx (j := 2) (by omega)]; rfl))
      have HTK := Lib.hid (List.take_succ_eq_append_getElem hlt)
      have z4 := cell_keep y4 hbr
      have z5 := cell_keep y5 hbr
      have zm := cell_keep mm hbr
      have hl1 := World.block_lt_of_cell? _ _ z4
      have hl2 := World.block_lt_of_cell? _ _ zm
      simp only at hl1 hl2
      generalize L[q] = pl at *
      obtain ⟨pn, pf, pll⟩ := pl
      simp only [Nat.add_zero] at c0 c1 c2
      have hge := fun h k => own_lt (k := h) hownr k
      have hbrA := (hbr.alloc hbr.size (.cells #[.string pn, .string pf, .int .i64 pll] 57)).alloc (by have := hbr.size; simp; omega) (.cells #[.string mn, .string pn, .string pf, .int .i64 pll, .int .i64 fr.addr, .bool fr.own] 35)
      have hownA := (hownr.alloc (.cells #[.string pn, .string pf, .int .i64 pll] 57)).alloc (.cells #[.string mn, .string pn, .string pf, .int .i64 pll, .int .i64 fr.addr, .bool fr.own] 35)
      have hsrc := cells6_new (wr.alloc (.cells #[.string pn, .string pf, .int .i64 pll] 57)) (frOf mn fr.addr fr.own ⟨pn, pf, pll⟩) 35
      have hone := cells6_one (frOf mn fr.addr fr.own ⟨pn, pf, pll⟩)
      unfold frOf at hsrc hone
      rw [show (wr.alloc (.cells #[.string pn, .string pf, .int .i64 pll] 57)).heap.size = wr.heap.size + 1 by simp] at hsrc
      have r1 : q + 1 ≤ maxLen := by unfold maxLen; omega
      have r2 : (q + 1) * 72 ≤ 140737488355328 := by omega
      have r3 : w4.heap.size ≤ ((wr.alloc (.cells #[.string pn, .string pf, .int .i64 pll] 57)).alloc (.cells #[.string mn, .string pn, .string pf, .int .i64 pll, .int .i64 fr.addr, .bool fr.own] 35)).heap.size := hbrA.size
      clear hx he hcells
      go_wp2_with (at_builtin; (refine wpList_append_own _ rfl _ _ 22 rfl w4.heap.size 35 i0 _ 6 72 Tryd.underlying22 hi0 hz0 hz1 hz2 hz5 (by decide) va q _ rfl hownA ⟨wr.heap.size + 1, 0, none⟩ 1 1 [.string mn, .string pn, .string pf, .int .i64 pll, .int .i64 fr.addr, .bool fr.own] rfl rfl hsrc hone r1 r2 r3 ?_; intro v6 w6 hown6 hgr6 _))
      exact ⟨⟨q + 1, v6, rfl, by omega, by go_num, by rw [HTK.out, List.map_append, cellsFr_snoc]; exact hown6, below_grown hbrA hgr6 (fun h k => (hge h k).1) hbrA.size⟩, by simp [RowKit.intOf]; omega⟩
    · obtain rfl : q = L.length := by omega
      go_wp2_with fail
      go_ret2
      have hbwr := below_keep hbw4 (Nat.le_refl _) hbr
      rw [List.take_of_length_le (Nat.le_refl _)] at hownr
      exact ⟨va, nm, rfl, hbwr, by rw [← HLE.out]; exact own_mono hownr (by have := hbw4.size; omega), hnm⟩
  | true =>
    by_cases hp : 0 < (fr.addr - ma)
    · have HOF := Lib.hid (show offOf0 (fr.addr - ma) true = (fr.addr - ma) - 1 from by unfold offOf0; rw [if_pos ⟨rfl, hp⟩])
      rw [HOF.out] at HP HLL ⊢
      have hd1 : decide (0 < (fr.addr - ma)) = true := decide_eq_true hp
      have hd2 : decide (ma < fr.addr) = true := decide_eq_true (by omega)
      have hw1 : IntKind.i64.wrap ((fr.addr - ma) - 1) = (fr.addr - ma) - 1 := by rcases hw1 with h | h; exact h; exact absurd hp h
      clear hp HOF
      go_enter Tryd.func28, Tryd.ntmps28
      go_wp2_with (first | (go_at_call 29; with_reducible refine (HM.out _ hA).mono ?_; rintro e w1 ⟨rfl, hb1⟩; have hbw1 := below_call hA hA.size hb1; have k0 := (hbw1.cell (p := ⟨b, _, none⟩) hb).trans k0; have k1 := (hbw1.cell (p := ⟨b, _, none⟩) hb).trans k1; have k2 := (hbw1.cell (p := ⟨b, _, none⟩) hb).trans k2; have k3 := (hbw1.cell (p := ⟨b, _, none⟩) hb).trans k3; have hbw2 := hbw1.alloc hbw1.size (.cells #[.string mn, .string mid, .int .i64 ma, .int .i64 mb] 77); have f4 : w1.cell? ⟨w.heap.size, 4, none⟩ = some (.int .i64 fr.addr) := (hb1.cell (p := ⟨w.heap.size, 4, none⟩) (by simp)).trans (by go_simp); have f5 : w1.cell? ⟨w.heap.size, 5, none⟩ = some (.bool fr.own) := (hb1.cell (p := ⟨w.heap.size, 5, none⟩) (by simp)).trans (by go_simp); have hlf := World.block_lt_of_cell? _ _ f4; simp only at hlf; have fa4 : (w1.alloc (.cells #[.string mn, .string mid, .int .i64 ma, .int .i64 mb] 77)).cell? ⟨w.heap.size, 4, none⟩ = some (.int .i64 fr.addr) := (World.cell?_alloc_lt _ _ _ hlf).trans f4; have fa5 : (w1.alloc (.cells #[.string mn, .string mid, .int .i64 ma, .int .i64 mb] 77)).cell? ⟨w.heap.size, 5, none⟩ = some (.bool fr.own) := (World.cell?_alloc_lt _ _ _ hlf).trans f5) | (go_at_call 30; with_reducible refine (HT.out _ hbw2).mono ?_; rintro e' w3 ⟨rfl, hb3⟩; have hbw3 := below_call hbw2 hbw2.size hb3; have g4 := cell_keep fa4 hb3; have g5 := cell_keep fa5 hb3; have m0 : w3.cell? ⟨w1.heap.size, 0, none⟩ = some (.string mn) := (hb3.cell (p := ⟨w1.heap.size, 0, none⟩) (by simp)).trans (by go_simp); have m1 : w3.cell? ⟨w1.heap.size, 1, none⟩ = some (.string mid) := (hb3.cell (p := ⟨w1.heap.size, 1, none⟩) (by simp)).trans (by go_simp); have m2 : w3.cell? ⟨w1.heap.size, 2, none⟩ = some (.int .i64 ma) := (hb3.cell (p := ⟨w1.heap.size, 2, none⟩) (by simp)).trans (by go_simp); have m3 : w3.cell? ⟨w1.heap.size, 3, none⟩ = some (.int .i64 mb) := (hb3.cell (p := ⟨w1.heap.size, 3, none⟩) (by simp)).trans (by go_simp); have q0 := (hbw3.cell (p := ⟨b2, _, none⟩) hb2).trans q0; have q1 := (hbw3.cell (p := ⟨b2, _, none⟩) hb2).trans q1; have q2 := (hbw3.cell (p := ⟨b2, _, none⟩) hb2).trans q2; have q3 := (hbw3.cell (p := ⟨b2, _, none⟩) hb2).trans q3; have q4 := (hbw3.cell (p := ⟨b2, _, none⟩) hb2).trans q4; have q5 := (hbw3.cell (p := ⟨b2, _, none⟩) hb2).trans q5) | (go_at_call 43; with_reducible refine (HP.out _ hbw3).mono ?_; rintro e' w4 ⟨u, nm, rfl, hb4, hown, hnm⟩; obtain ⟨pu, cu, rfl⟩ := own_len hown; have hbw4 := below_call hbw3 hbw3.size hb4; have y4 := cell_keep g4 hb4; have y5 := cell_keep g5 hb4; have mm := cell_keep m0 hb4; have hll := HLL.out nm; have hs3 := hbw3.size; obtain ⟨L, hLE⟩ : ∃ L, L = placesOf x.t ((fr.addr - ma) - 1) nm := ⟨_, rfl⟩; rw [← hLE] at hown hll ⊢; have HLE := Lib.hid hLE; clear hLE))
      go_loopw [17, 64] (fun v17 v wr => ∃ (q : Nat) (va : Value), va = v17 ∧ q ≤ L.length ∧ v = .int .i64 q ∧ wr.ownsRow w4.heap.size 35 6 va q (cellsG encFr ((L.take q).map (frOf mn fr.addr fr.own))) ∧ Below w4.heap.size w4 wr) (fun _ v _ => L.length - (RowKit.intOf v).toNat)
      case atStart => exact ⟨0, _, rfl, Nat.zero_le _, rfl, ⟨rfl, .inl ⟨rfl, rfl⟩⟩, Below.refl _ _⟩
      obtain ⟨q, va, rfl, hq, rfl, hownr, hbr⟩ := hrel
      by_cases hlt : q < L.length
      · obtain ⟨gg, cap, he, hbg, hgl, hcells⟩ := own_slice hown (by omega)
        obtain ⟨rfl, -, rfl⟩ := Value.slice.inj he
        have hx := List.getElem?_eq_getElem hlt
        have c0 := (hbr.cell (p := ⟨gg, q * 3 + 0, none⟩) hgl).trans (hcells _ _ (by rw [cellsP_at hx (j := 0) (by omega)]; rfl))
        have c1 := (hbr.cell (p := ⟨gg, q * 3 + 1, none⟩) hgl).trans (hcells _ _ (by rw [cellsP_at hx (j := 1) (by omega)]; rfl))
        have c2 := (hbr.cell (p := ⟨gg, q * 3 + 2, none⟩) hgl).trans (hcells _ _ (by rw [cellsP_at hx (j := 2) (by omega)]; rfl))
        have HTK := Lib.hid (List.take_succ_eq_append_getElem hlt)
        have z4 := cell_keep y4 hbr
        have z5 := cell_keep y5 hbr
        have zm := cell_keep mm hbr
        have hl1 := World.block_lt_of_cell? _ _ z4
        have hl2 := World.block_lt_of_cell? _ _ zm
        simp only at hl1 hl2
        generalize L[q] = pl at *
        obtain ⟨pn, pf, pll⟩ := pl
        simp only [Nat.add_zero] at c0 c1 c2
        have hge := fun h k => own_lt (k := h) hownr k
        have hbrA := (hbr.alloc hbr.size (.cells #[.string pn, .string pf, .int .i64 pll] 57)).alloc (by have := hbr.size; simp; omega) (.cells #[.string mn, .string pn, .string pf, .int .i64 pll, .int .i64 fr.addr, .bool fr.own] 35)
        have hownA := (hownr.alloc (.cells #[.string pn, .string pf, .int .i64 pll] 57)).alloc (.cells #[.string mn, .string pn, .string pf, .int .i64 pll, .int .i64 fr.addr, .bool fr.own] 35)
        have hsrc := cells6_new (wr.alloc (.cells #[.string pn, .string pf, .int .i64 pll] 57)) (frOf mn fr.addr fr.own ⟨pn, pf, pll⟩) 35
        have hone := cells6_one (frOf mn fr.addr fr.own ⟨pn, pf, pll⟩)
        unfold frOf at hsrc hone
        rw [show (wr.alloc (.cells #[.string pn, .string pf, .int .i64 pll] 57)).heap.size = wr.heap.size + 1 by simp] at hsrc
        have r1 : q + 1 ≤ maxLen := by unfold maxLen; omega
        have r2 : (q + 1) * 72 ≤ 140737488355328 := by omega
        have r3 : w4.heap.size ≤ ((wr.alloc (.cells #[.string pn, .string pf, .int .i64 pll] 57)).alloc (.cells #[.string mn, .string pn, .string pf, .int .i64 pll, .int .i64 fr.addr, .bool fr.own] 35)).heap.size := hbrA.size
        clear hx he hcells
        go_wp2_with (at_builtin; (refine wpList_append_own _ rfl _ _ 22 rfl w4.heap.size 35 i0 _ 6 72 Tryd.underlying22 hi0 hz0 hz1 hz2 hz5 (by decide) va q _ rfl hownA ⟨wr.heap.size + 1, 0, none⟩ 1 1 [.string mn, .string pn, .string pf, .int .i64 pll, .int .i64 fr.addr, .bool fr.own] rfl rfl hsrc hone r1 r2 r3 ?_; intro v6 w6 hown6 hgr6 _))
        exact ⟨⟨q + 1, v6, rfl, by omega, by go_num, by rw [HTK.out, List.map_append, cellsFr_snoc]; exact hown6, below_grown hbrA hgr6 (fun h k => (hge h k).1) hbrA.size⟩, by simp [RowKit.intOf]; omega⟩
      · obtain rfl : q = L.length := by omega
        go_wp2_with fail
        go_ret2
        have hbwr := below_keep hbw4 (Nat.le_refl _) hbr
        rw [List.take_of_length_le (Nat.le_refl _)] at hownr
        exact ⟨va, nm, rfl, hbwr, by rw [← HLE.out]; exact own_mono hownr (by have := hbw4.size; omega), hnm⟩
    · have HOF := Lib.hid (show offOf0 (fr.addr - ma) true = (fr.addr - ma) from by unfold offOf0; rw [if_neg (by rintro ⟨_, h⟩; exact hp h)])
      rw [HOF.out] at HP HLL ⊢
      have hd1 : decide (0 < (fr.addr - ma)) = false := decide_eq_false hp
      have hd2 : decide (ma < fr.addr) = false := decide_eq_false (by omega)
      clear hp hw1 HOF
      go_enter Tryd.func28, Tryd.ntmps28
      go_wp2_with (first | (go_at_call 29; with_reducible refine (HM.out _ hA).mono ?_; rintro e w1 ⟨rfl, hb1⟩; have hbw1 := below_call hA hA.size hb1; have k0 := (hbw1.cell (p := ⟨b, _, none⟩) hb).trans k0; have k1 := (hbw1.cell (p := ⟨b, _, none⟩) hb).trans k1; have k2 := (hbw1.cell (p := ⟨b, _, none⟩) hb).trans k2; have k3 := (hbw1.cell (p := ⟨b, _, none⟩) hb).trans k3; have hbw2 := hbw1.alloc hbw1.size (.cells #[.string mn, .string mid, .int .i64 ma, .int .i64 mb] 77); have f4 : w1.cell? ⟨w.heap.size, 4, none⟩ = some (.int .i64 fr.addr) := (hb1.cell (p := ⟨w.heap.size, 4, none⟩) (by simp)).trans (by go_simp); have f5 : w1.cell? ⟨w.heap.size, 5, none⟩ = some (.bool fr.own) := (hb1.cell (p := ⟨w.heap.size, 5, none⟩) (by simp)).trans (by go_simp); have hlf := World.block_lt_of_cell? _ _ f4; simp only at hlf; have fa4 : (w1.alloc (.cells #[.string mn, .string mid, .int .i64 ma, .int .i64 mb] 77)).cell? ⟨w.heap.size, 4, none⟩ = some (.int .i64 fr.addr) := (World.cell?_alloc_lt _ _ _ hlf).trans f4; have fa5 : (w1.alloc (.cells #[.string mn, .string mid, .int .i64 ma, .int .i64 mb] 77)).cell? ⟨w.heap.size, 5, none⟩ = some (.bool fr.own) := (World.cell?_alloc_lt _ _ _ hlf).trans f5) | (go_at_call 30; with_reducible refine (HT.out _ hbw2).mono ?_; rintro e' w3 ⟨rfl, hb3⟩; have hbw3 := below_call hbw2 hbw2.size hb3; have g4 := cell_keep fa4 hb3; have g5 := cell_keep fa5 hb3; have m0 : w3.cell? ⟨w1.heap.size, 0, none⟩ = some (.string mn) := (hb3.cell (p := ⟨w1.heap.size, 0, none⟩) (by simp)).trans (by go_simp); have m1 : w3.cell? ⟨w1.heap.size, 1, none⟩ = some (.string mid) := (hb3.cell (p := ⟨w1.heap.size, 1, none⟩) (by simp)).trans (by go_simp); have m2 : w3.cell? ⟨w1.heap.size, 2, none⟩ = some (.int .i64 ma) := (hb3.cell (p := ⟨w1.heap.size, 2, none⟩) (by simp)).trans (by go_simp); have m3 : w3.cell? ⟨w1.heap.size, 3, none⟩ = some (.int .i64 mb) := (hb3.cell (p := ⟨w1.heap.size, 3, none⟩) (by simp)).trans (by go_simp); have q0 := (hbw3.cell (p := ⟨b2, _, none⟩) hb2).trans q0; have q1 := (hbw3.cell (p := ⟨b2, _, none⟩) hb2).trans q1; have q2 := (hbw3.cell (p := ⟨b2, _, none⟩) hb2).trans q2; have q3 := (hbw3.cell (p := ⟨b2, _, none⟩) hb2).trans q3; have q4 := (hbw3.cell (p := ⟨b2, _, none⟩) hb2).trans q4; have q5 := (hbw3.cell (p := ⟨b2, _, none⟩) hb2).trans q5) | (go_at_call 43; with_reducible refine (HP.out _ hbw3).mono ?_; rintro e' w4 ⟨u, nm, rfl, hb4, hown, hnm⟩; obtain ⟨pu, cu, rfl⟩ := own_len hown; have hbw4 := below_call hbw3 hbw3.size hb4; have y4 := cell_keep g4 hb4; have y5 := cell_keep g5 hb4; have mm := cell_keep m0 hb4; have hll := HLL.out nm; have hs3 := hbw3.size; obtain ⟨L, hLE⟩ : ∃ L, L = placesOf x.t (fr.addr - ma) nm := ⟨_, rfl⟩; rw [← hLE] at hown hll ⊢; have HLE := Lib.hid hLE; clear hLE))
      go_loopw [17, 64] (fun v17 v wr => ∃ (q : Nat) (va : Value), va = v17 ∧ q ≤ L.length ∧ v = .int .i64 q ∧ wr.ownsRow w4.heap.size 35 6 va q (cellsG encFr ((L.take q).map (frOf mn fr.addr fr.own))) ∧ Below w4.heap.size w4 wr) (fun _ v _ => L.length - (RowKit.intOf v).toNat)
      case atStart => exact ⟨0, _, rfl, Nat.zero_le _, rfl, ⟨rfl, .inl ⟨rfl, rfl⟩⟩, Below.refl _ _⟩
      obtain ⟨q, va, rfl, hq, rfl, hownr, hbr⟩ := hrel
      by_cases hlt : q < L.length
      · obtain ⟨gg, cap, he, hbg, hgl, hcells⟩ := own_slice hown (by omega)
        obtain ⟨rfl, -, rfl⟩ := Value.slice.inj he
        have hx := List.getElem?_eq_getElem hlt
        have c0 := (hbr.cell (p := ⟨gg, q * 3 + 0, none⟩) hgl).trans (hcells _ _ (by rw [cellsP_at hx (j := 0) (by omega)]; rfl))
        have c1 := (hbr.cell (p := ⟨gg, q * 3 + 1, none⟩) hgl).trans (hcells _ _ (by rw [cellsP_at hx (j := 1) (by omega)]; rfl))
        have c2 := (hbr.cell (p := ⟨gg, q * 3 + 2, none⟩) hgl).trans (hcells _ _ (by rw [cellsP_at hx (j := 2) (by omega)]; rfl))
        have HTK := Lib.hid (List.take_succ_eq_append_getElem hlt)
        have z4 := cell_keep y4 hbr
        have z5 := cell_keep y5 hbr
        have zm := cell_keep mm hbr
        have hl1 := World.block_lt_of_cell? _ _ z4
        have hl2 := World.block_lt_of_cell? _ _ zm
        simp only at hl1 hl2
        generalize L[q] = pl at *
        obtain ⟨pn, pf, pll⟩ := pl
        simp only [Nat.add_zero] at c0 c1 c2
        have hge := fun h k => own_lt (k := h) hownr k
        have hbrA := (hbr.alloc hbr.size (.cells #[.string pn, .string pf, .int .i64 pll] 57)).alloc (by have := hbr.size; simp; omega) (.cells #[.string mn, .string pn, .string pf, .int .i64 pll, .int .i64 fr.addr, .bool fr.own] 35)
        have hownA := (hownr.alloc (.cells #[.string pn, .string pf, .int .i64 pll] 57)).alloc (.cells #[.string mn, .string pn, .string pf, .int .i64 pll, .int .i64 fr.addr, .bool fr.own] 35)
        have hsrc := cells6_new (wr.alloc (.cells #[.string pn, .string pf, .int .i64 pll] 57)) (frOf mn fr.addr fr.own ⟨pn, pf, pll⟩) 35
        have hone := cells6_one (frOf mn fr.addr fr.own ⟨pn, pf, pll⟩)
        unfold frOf at hsrc hone
        rw [show (wr.alloc (.cells #[.string pn, .string pf, .int .i64 pll] 57)).heap.size = wr.heap.size + 1 by simp] at hsrc
        have r1 : q + 1 ≤ maxLen := by unfold maxLen; omega
        have r2 : (q + 1) * 72 ≤ 140737488355328 := by omega
        have r3 : w4.heap.size ≤ ((wr.alloc (.cells #[.string pn, .string pf, .int .i64 pll] 57)).alloc (.cells #[.string mn, .string pn, .string pf, .int .i64 pll, .int .i64 fr.addr, .bool fr.own] 35)).heap.size := hbrA.size
        clear hx he hcells
        go_wp2_with (at_builtin; (refine wpList_append_own _ rfl _ _ 22 rfl w4.heap.size 35 i0 _ 6 72 Tryd.underlying22 hi0 hz0 hz1 hz2 hz5 (by decide) va q _ rfl hownA ⟨wr.heap.size + 1, 0, none⟩ 1 1 [.string mn, .string pn, .string pf, .int .i64 pll, .int .i64 fr.addr, .bool fr.own] rfl rfl hsrc hone r1 r2 r3 ?_; intro v6 w6 hown6 hgr6 _))
        exact ⟨⟨q + 1, v6, rfl, by omega, by go_num, by rw [HTK.out, List.map_append, cellsFr_snoc]; exact hown6, below_grown hbrA hgr6 (fun h k => (hge h k).1) hbrA.size⟩, by simp [RowKit.intOf]; omega⟩
      · obtain rfl : q = L.length := by omega
        go_wp2_with fail
        go_ret2
        have hbwr := below_keep hbw4 (Nat.le_refl _) hbr
        rw [List.take_of_length_le (Nat.le_refl _)] at hownr
        exact ⟨va, nm, rfl, hbwr, by rw [← HLE.out]; exact own_mono hownr (by have := hbw4.size; omega), hnm⟩
end Go.Proofs.YtcdaalnjanncmaaDoor

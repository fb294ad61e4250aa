/- What a frame becomes: resolveFrame. -/
import Derived.Test.YtcdaalnjanncmaaDoorResA
namespace Go.Proofs.YtcdaalnjanncmaaDoor
open Go.RowKit Go.Deep Go.Lib

theorem Tryd.info35 : (Tryd.prog.info? 35).map (fun i => (i.zero, i.size, i.bytes)) = some (some (.agg #[.string ⟨#[]⟩, .string ⟨#[]⟩, .string ⟨#[]⟩, .int .i64 0, .int .i64 0, .bool false]), 6, 72) := by kernel_rfl
/-- The error of places. -/
def plErr (t : Tb) (p : Int) : Int := if p < 0 ∨ t.size ≤ p then 2 else if fncAt p t.funcs = -1 then 7 else 0
theorem plErr_two {t : Tb} {p : Int} (h : p < 0 ∨ t.size ≤ p) : plErr t p = 2 := by unfold plErr; rw [if_pos h]
theorem plErr_seven {t : Tb} {p : Int} (h : ¬ (p < 0 ∨ t.size ≤ p)) (h2 : fncAt p t.funcs = -1) : plErr t p = 7 := by unfold plErr; rw [if_neg h, if_pos h2]
theorem plErr_zero {t : Tb} {p : Int} (h : plErr t p = 0) : ¬ (p < 0 ∨ t.size ≤ p) ∧ ¬ fncAt p t.funcs = -1 := by
  unfold plErr at h
  split at h
  · omega
  split at h
  · omega
  rename_i h1 h2
  exact ⟨h1, h2⟩

set_option maxHeartbeats 2000000 in
set_option maxRecDepth 100000 in
theorem placesAt_range (v : Value) (t : Tb) (p : Int) (w : World) (hv : TbV w v t) (h : p < 0 ∨ t.size ≤ p) :
    Calls Tryd.prog 43 #[v, .int .i64 p] w fun e w' => e = .returned (.tuple #[.slice none 0 0, .int .i64 2]) ∧ Below w.heap.size w w' := by
  obtain ⟨v1, v2, v3, v4, rfl, -, -, ⟨p1, c1, rfl, -, -, -, -⟩, ⟨p2, c2, rfl, -, -, -, -⟩, ⟨p3, c3, rfl, -, -, -, -⟩, ⟨p4, c4, rfl, -, -, -, -⟩⟩ := hv
  have hA : Below w.heap.size w (w.alloc (.cells #[.string t.id, .int .i64 t.size, .slice p1 t.files.length c1, .slice p2 t.funcs.length c2, .slice p3 t.rows.length c3, .slice p4 t.calls.length c4] 42)) := (Below.refl _ _).alloc (Nat.le_refl _) _
  by_cases h1 : p < 0
  · have d1 : decide (p < 0) = true := decide_eq_true h1
    clear h h1
    go_enter Tryd.func43, Tryd.ntmps43
    go_wp2_with fail
    go_ret2
    exact ⟨rfl, hA⟩
  · have d1 : decide (p < 0) = false := decide_eq_false h1
    have d2 : decide (t.size ≤ p) = true := decide_eq_true (by omega)
    clear h h1
    go_enter Tryd.func43, Tryd.ntmps43
    go_wp2_with fail
    go_ret2
    exact ⟨rfl, hA⟩
theorem placesAt_bad (v : Value) (t : Tb) (p : Int) (w : World) (hv : TbV w v t) (h : plErr t p ≠ 0) :
    Calls Tryd.prog 43 #[v, .int .i64 p] w fun e w' => e = .returned (.tuple #[.slice none 0 0, .int .i64 (plErr t p)]) ∧ Below w.heap.size w w' := by
  by_cases h1 : p < 0 ∨ t.size ≤ p
  · rw [plErr_two h1]
    exact placesAt_range v t p w hv h1
  · by_cases h2 : fncAt p t.funcs = -1
    · rw [plErr_seven h1 h2]
      exact placesAt_none v t p w hv (by omega) (by omega) h2
    · exfalso; apply h; unfold plErr; rw [if_neg h1, if_neg h2]
theorem placesAt_fine (v : Value) (t : Tb) (p : Int) (w : World) (hv : TbV w v t) (hz : tabErr t = 0) (h : plErr t p = 0) :
    Calls Tryd.prog 43 #[v, .int .i64 p] w fun e w' => ∃ u nm, e = .returned (.tuple #[u, .int .i64 0]) ∧ Below w.heap.size w w' ∧ w'.ownsRow (w.heap.size + 1) 57 3 u (placesOf t p nm).length (cellsG encP (placesOf t p nm)) ∧ (∃ i : Nat, fncAt p t.funcs = (i : Int) ∧ ∃ fn, t.funcs[i]? = some fn ∧ fn.n = nm) := by
  obtain ⟨h1, h2⟩ := plErr_zero h
  have hg := good_of hz
  obtain ⟨i, hi, h3, _, _⟩ := fncAt_lt h2
  refine (placesAt_ok v t p i _ w hv hg.rows hg.rowsUp (fun r hr => (hg.rowIn r hr).2.2) hg.calls hg.callIn (by omega) (by omega) h3 (List.getElem?_eq_getElem hi) hg.funcs).mono ?_
  rintro e w1 ⟨u, rfl, hb, ho⟩
  exact ⟨u, _, rfl, hb, ho, i, h3, _, List.getElem?_eq_getElem hi, rfl⟩

/-- The offset that is looked up. -/
def offOf (addr a : Int) (ret : Bool) : Int := if ret = true ∧ 0 < addr - a then addr - a - 1 else addr - a

set_option maxHeartbeats 4000000 in
set_option maxRecDepth 100000 in
/-- No module has the address. -/
theorem resolveFrame_out (fr : Fr) (ret : Bool) (vm vt : Value) (ms : List Md) (w : World) (hm : SlG encM 4 fitM w vm ms) (h : modAt fr.addr ms = -1) :
    Calls Tryd.prog 28 #[fr.val, .bool ret, vm, vt] w fun e w' => e = .returned (.tuple #[.slice none 0 0, .bool false]) ∧ Below w.heap.size w w' := by
  unfold Fr.val
  have HM := Lib.hid (fun (W : World) (hW : Below w.heap.size w W) => moduleAt_any vm ms fr.addr W (hm.below (Nat.le_refl _) hW))
  rw [atVal_none h] at HM
  clear h
  obtain ⟨pm, cm, rfl, -, -, -, -⟩ := hm
  have hA : Below w.heap.size w (w.alloc (.cells #[.string fr.m, .string fr.f, .string fr.i, .int .i64 fr.line, .int .i64 fr.addr, .bool fr.own] 35)) := (Below.refl _ _).alloc (Nat.le_refl _) _
  go_enter Tryd.func28, Tryd.ntmps28
  go_wp2_with (go_at_call 29; with_reducible refine (HM.out _ hA).mono ?_; rintro e w1 ⟨rfl, hb1⟩; have hbw1 := below_call hA hA.size hb1)
  go_ret2
  exact ⟨rfl, hbw1⟩

set_option maxHeartbeats 4000000 in
set_option maxRecDepth 100000 in
/-- No table has the module's id. -/
theorem resolveFrame_lone (fr : Fr) (ret : Bool) (vm vt : Value) (ms : List Md) (ts : List Te) (i : Nat) (m : Md) (w : World) (hm : SlG encM 4 fitM w vm ms) (ht : TbsV w vt ts) (h : modAt fr.addr ms = (i : Int)) (hi : ms[i]? = some m) (hn : ms.length ≤ 100) (hx : tabIdx ts m.id < 0) :
    Calls Tryd.prog 28 #[fr.val, .bool ret, vm, vt] w fun e w' => e = .returned (.tuple #[.slice none 0 0, .bool false]) ∧ Below w.heap.size w w' := by
  unfold Fr.val
  have HM := Lib.hid (fun (W : World) (hW : Below w.heap.size w W) => moduleAt_any vm ms fr.addr W (hm.below (Nat.le_refl _) hW))
  rw [atVal_some h] at HM
  have HT := Lib.hid (fun (W : World) (hW : Below w.heap.size w W) => tableOf_any vt m.id ts W (ht.below (Nat.le_refl _) hW))
  have hd : decide (tabIdx ts m.id < 0) = true := decide_eq_true hx
  clear h hx
  obtain ⟨⟨pt, ct, rfl, -, -, -, -⟩, -⟩ := ht
  obtain ⟨pm, cm, rfl, -, -, -, om⟩ := hm
  obtain ⟨hil, hmx⟩ := List.getElem?_eq_some_iff.1 hi
  rcases om with h0 | ⟨b, off, rfl, hb, hc⟩
  · rw [h0] at hil; simp at hil
  obtain ⟨k0, k1, k2, k3⟩ := hc.mod hil
  rw [hmx] at k0 k1 k2 k3
  obtain ⟨mn, mid, ma, mb⟩ := m
  simp only at k0 k1 k2 k3 HT hd
  generalize tabIdx ts mid = tx at *
  have hiz : (i : Int) < (ms.length : Int) := by omega
  have hwi : IntKind.i64.wrap (i : Int) = (i : Int) := IntWalk.i64_in _ ⟨by omega, by omega⟩
  clear hi hmx hc hil hn
  have hA : Below w.heap.size w (w.alloc (.cells #[.string fr.m, .string fr.f, .string fr.i, .int .i64 fr.line, .int .i64 fr.addr, .bool fr.own] 35)) := (Below.refl _ _).alloc (Nat.le_refl _) _
  go_enter Tryd.func28, Tryd.ntmps28
  go_wp2_with (first
    | (go_at_call 29; with_reducible refine (HM.out _ hA).mono ?_; rintro e w1 ⟨rfl, hb1⟩; have hbw1 := below_call hA hA.size hb1; have k0 := (hbw1.cell (p := ⟨b, _, none⟩) hb).trans k0; have k1 := (hbw1.cell (p := ⟨b, _, none⟩) hb).trans k1; have k2 := (hbw1.cell (p := ⟨b, _, none⟩) hb).trans k2; have k3 := (hbw1.cell (p := ⟨b, _, none⟩) hb).trans k3; have hbw2 := hbw1.alloc hbw1.size (.cells #[.string mn, .string mid, .int .i64 ma, .int .i64 mb] 77))
    | (go_at_call 30; with_reducible refine (HT.out _ hbw2).mono ?_; rintro e' w3 ⟨rfl, hb3⟩; have hbw3 := below_call hbw2 hbw2.size hb3))
  go_ret2
  exact ⟨rfl, hbw3⟩
end Go.Proofs.YtcdaalnjanncmaaDoor

/- Rows of tables, and the table that has an id: tableOf. -/
import Derived.Test.YtcdaalnjanncmaaDoorLinF
namespace Go.Proofs.YtcdaalnjanncmaaDoor
open Go.RowKit Go.Deep Go.Lib

/-- A table, and where its lists lie. -/
structure Te where
  t : Tb
  p1 : Option Addr
  p2 : Option Addr
  p3 : Option Addr
  p4 : Option Addr
  c1 : Nat
  c2 : Nat
  c3 : Nat
  c4 : Nat
def encT (x : Te) : List Value := [.string x.t.id, .int .i64 x.t.size, .slice x.p1 x.t.files.length x.c1, .slice x.p2 x.t.funcs.length x.c2, .slice x.p3 x.t.rows.length x.c3, .slice x.p4 x.t.calls.length x.c4]
def Te.val (x : Te) : Value := .agg #[.string x.t.id, .int .i64 x.t.size, .slice x.p1 x.t.files.length x.c1, .slice x.p2 x.t.funcs.length x.c2, .slice x.p3 x.t.rows.length x.c3, .slice x.p4 x.t.calls.length x.c4]
/-- A value is a slice of tables. -/
def TbsV (w : World) (v : Value) (l : List Te) : Prop := SlG encT 6 (fun _ => True) w v l ∧ ∀ x ∈ l, TbV w x.val x.t
theorem TbsV.below {w w' : World} {v : Value} {l : List Te} {B : Nat} (h : TbsV w v l) (hB : w.heap.size ≤ B) (hw : Below B w w') : TbsV w' v l := ⟨h.1.below hB hw, fun x hx => (h.2 x hx).below hB hw⟩
theorem AtG.tab {w : World} {b off : Nat} {l : List Te} (h : AtG encT 6 w b off l) {i : Nat} (hi : i < l.length) :
    w.cell? ⟨b, off + i * 6, none⟩ = some (.string l[i].t.id) ∧ w.cell? ⟨b, off + i * 6 + 1, none⟩ = some (.int .i64 l[i].t.size) ∧ w.cell? ⟨b, off + i * 6 + 2, none⟩ = some (.slice l[i].p1 l[i].t.files.length l[i].c1) ∧ w.cell? ⟨b, off + i * 6 + 3, none⟩ = some (.slice l[i].p2 l[i].t.funcs.length l[i].c2) ∧ w.cell? ⟨b, off + i * 6 + 4, none⟩ = some (.slice l[i].p3 l[i].t.rows.length l[i].c3) ∧ w.cell? ⟨b, off + i * 6 + 5, none⟩ = some (.slice l[i].p4 l[i].t.calls.length l[i].c4) :=
  ⟨by simpa [encT] using h i hi 0 (by omega), by simpa [encT] using h i hi 1 (by omega), by simpa [encT] using h i hi 2 (by omega), by simpa [encT] using h i hi 3 (by omega), by simpa [encT] using h i hi 4 (by omega), by simpa [encT] using h i hi 5 (by omega)⟩
def ids (l : List Te) : List ByteArray := l.map fun x => x.t.id
/-- The number of the table that has an id; -1: there is none. -/
def tabIdx (l : List Te) (id : ByteArray) : Int := idxOfS (ids l) id

set_option maxHeartbeats 1000000 in
set_option maxRecDepth 100000 in
theorem closure57 (x : Te) (po : Nat) (id : ByteArray) (w : World) (ho : w.cell? ⟨po, 0, none⟩ = some (.string id)) :
    Calls Tryd.prog 57 #[x.val, .pointer (some ⟨po, 0, none⟩)] w fun e w' => e = .returned (.bool (x.t.id.toList == id.toList)) ∧ Below w.heap.size w w' := by
  unfold Te.val
  have hlt := World.block_lt_of_cell? _ _ ho
  simp only at hlt
  have hA : Below w.heap.size w (w.alloc (.cells #[.string x.t.id, .int .i64 x.t.size, .slice x.p1 x.t.files.length x.c1, .slice x.p2 x.t.funcs.length x.c2, .slice x.p3 x.t.rows.length x.c3, .slice x.p4 x.t.calls.length x.c4] 42)) := (Below.refl _ _).alloc (Nat.le_refl _) _
  go_enter Tryd.func57, Tryd.ntmps57
  go_wp2_with fail
  go_ret
  exact ⟨rfl, hA⟩

theorem idx_hit {z x : ByteArray} {zs : List ByteArray} {i : Nat} (h : z = x) : idxFromS (z :: zs) x i = i := by rw [idxFromS, if_pos h]
theorem idx_miss {z x : ByteArray} {zs : List ByteArray} {i : Nat} (h : ¬ z = x) : idxFromS (z :: zs) x i = idxFromS zs x (i + 1) := by rw [idxFromS, if_neg h]

set_option maxHeartbeats 2000000 in
set_option maxRecDepth 100000 in
theorem index46_some (b off n cap po : Nat) (id : ByteArray) (l : List Te) (w : World) (hl : l.length = n) (hn : n ≤ 9223372036854775807) (hb : b < w.heap.size) (hc : AtG encT 6 w b off l) (ho : w.cell? ⟨po, 0, none⟩ = some (.string id)) :
    Calls Tryd.prog 46 #[.slice (some ⟨b, off, none⟩) n cap, .func (.func 57) #[] #[.pointer (some ⟨po, 0, none⟩)]] w fun e w' => e = .returned (.int .i64 (tabIdx l id)) ∧ Below w.heap.size w w' := by
  have hlt := World.block_lt_of_cell? _ _ ho
  simp only at hlt
  go_enter Tryd.func46, Tryd.ntmps46
  go_wp2_with fail
  go_loopw [8] (fun v wr => ∃ k : Nat, k ≤ n ∧ v = .int .i64 k ∧ tabIdx l id = idxFromS (ids (l.drop k)) id k ∧ Below w.heap.size w wr) (fun v _ => n - (RowKit.intOf v).toNat)
  case atStart => exact ⟨0, Nat.zero_le _, rfl, rfl, Below.refl _ _⟩
  case round =>
    obtain ⟨k, hk, rfl, heq, hbw⟩ := hrel
    have HEQ := Lib.hid heq
    clear heq
    by_cases hkn : k < n
    · have hkl : k < l.length := by omega
      have HD := Lib.hid (List.drop_eq_getElem_cons hkl)
      obtain ⟨c0, c1, c2, c3, c4, c5⟩ := hc.tab hkl
      have c0 := (hbw.cell (p := ⟨b, _, none⟩) hb).trans c0
      have c1 := (hbw.cell (p := ⟨b, _, none⟩) hb).trans c1
      have c2 := (hbw.cell (p := ⟨b, _, none⟩) hb).trans c2
      have c3 := (hbw.cell (p := ⟨b, _, none⟩) hb).trans c3
      have c4 := (hbw.cell (p := ⟨b, _, none⟩) hb).trans c4
      have c5 := (hbw.cell (p := ⟨b, _, none⟩) hb).trans c5
      generalize l[k] = x at *
      have HC := Lib.hid (fun (W : World) (hW : Below w.heap.size w W) => closure57 x po id W ((hW.cell (p := ⟨po, 0, none⟩) hlt).trans ho))
      unfold Te.val at HC
      by_cases hx : x.t.id = id
      · rw [show (x.t.id.toList == id.toList) = true from (bytes_beq_iff _ _).2 hx] at HC
        have HR := Lib.hid (show tabIdx l id = k by rw [HEQ.out, HD.out]; exact idx_hit hx)
        clear hx
        go_wp2_with (go_at_call 57; with_reducible refine (HC.out _ hbw).mono ?_; rintro e w1 ⟨rfl, hb1⟩)
        go_ret
        exact ⟨ret_int HR.out.symm, below_call hbw hbw.size hb1⟩
      · rw [show (x.t.id.toList == id.toList) = false from (bytes_beq_false_iff _ _).2 hx] at HC
        have HR := Lib.hid (show tabIdx l id = idxFromS (ids (l.drop (k + 1))) id (k + 1) by rw [HEQ.out, HD.out]; exact idx_miss hx)
        clear hx
        go_wp2_with (go_at_call 57; with_reducible refine (HC.out _ hbw).mono ?_; rintro e w1 ⟨rfl, hb1⟩)
        exact ⟨⟨k + 1, by omega, by go_num, HR.out, below_call hbw hbw.size hb1⟩, by simp [RowKit.intOf]; omega⟩
    · have HR := Lib.hid (show tabIdx l id = -1 by rw [HEQ.out, List.drop_of_length_le (by omega)]; rfl)
      go_wp2_with fail
      go_ret
      exact ⟨ret_int HR.out.symm, hbw⟩

set_option maxHeartbeats 1000000 in
set_option maxRecDepth 100000 in
theorem index46_none (p : Option Addr) (cap : Nat) (fv : Value) (w : World) :
    Calls Tryd.prog 46 #[.slice p 0 cap, fv] w fun e w' => e = .returned (.int .i64 (-1)) ∧ Below w.heap.size w w' := by
  go_enter Tryd.func46, Tryd.ntmps46
  go_wp2_with fail
  go_loop [8] (fun v => v = .int .i64 0) (fun _ => 0)
  case atStart => rfl
  case round =>
    subst hrel
    go_wp2_with fail
    go_ret
    exact ⟨rfl, Below.refl _ _⟩

theorem index46_any (v : Value) (po : Nat) (id : ByteArray) (l : List Te) (w : World) (hv : TbsV w v l) (ho : w.cell? ⟨po, 0, none⟩ = some (.string id)) :
    Calls Tryd.prog 46 #[v, .func (.func 57) #[] #[.pointer (some ⟨po, 0, none⟩)]] w fun e w' => e = .returned (.int .i64 (tabIdx l id)) ∧ Below w.heap.size w w' := by
  obtain ⟨⟨p, cap, rfl, hlc, hcm, _, rfl | ⟨b, off, rfl, hb, hc⟩⟩, _⟩ := hv
  · exact index46_none p cap _ w
  · exact index46_some b off _ cap po id l w rfl (by unfold maxLen at hcm; omega) hb hc ho

set_option maxHeartbeats 1000000 in
set_option maxRecDepth 100000 in
theorem tableOf_any (v : Value) (id : ByteArray) (l : List Te) (w : World) (hv : TbsV w v l) :
    Calls Tryd.prog 30 #[v, .string id] w fun e w' => e = .returned (.int .i64 (tabIdx l id)) ∧ Below w.heap.size w w' := by
  have hA : Below w.heap.size w (w.alloc (.cells #[.string id] 9)) := (Below.refl _ _).alloc (Nat.le_refl _) _
  have HI := Lib.hid (index46_any v w.heap.size id l (w.alloc (.cells #[.string id] 9)) (hv.below (Nat.le_refl _) hA) (by go_simp))
  go_enter Tryd.func30, Tryd.ntmps30
  go_wp2_with (go_at_call 46; with_reducible refine HI.out.mono ?_; rintro e w1 ⟨rfl, hb1⟩)
  go_ret
  exact ⟨rfl, below_call hA hA.size hb1⟩
theorem tabIdx_some {l : List Te} {id : ByteArray} (h : 0 ≤ tabIdx l id) : ∃ (k : Nat) (x : Te), tabIdx l id = (k : Int) ∧ l[k]? = some x ∧ x.t.id = id := by
  have gen : ∀ {zs : List ByteArray} {i : Nat}, 0 ≤ idxFromS zs id i → ∃ k : Nat, idxFromS zs id i = ((i + k : Nat) : Int) ∧ zs[k]? = some id := by
    intro zs
    induction zs with
    | nil => intro i h; simp [idxFromS] at h
    | cons z zs ih =>
      intro i h
      by_cases hz : z = id
      · exact ⟨0, by rw [idx_hit hz]; simp, by simp [hz]⟩
      · rw [idx_miss hz] at h ⊢
        obtain ⟨k, h1, h2⟩ := ih h
        exact ⟨k + 1, by rw [h1]; congr 1; omega, by simpa using h2⟩
  obtain ⟨k, h1, h2⟩ := gen h
  unfold ids at h2
  rw [List.getElem?_map, Option.map_eq_some_iff] at h2
  obtain ⟨x, h3, h4⟩ := h2
  exact ⟨k, x, by unfold tabIdx idxOfS ids; rw [← Nat.zero_add k]; exact h1, h3, h4⟩
theorem tabIdx_nil (id : ByteArray) : tabIdx [] id = -1 := rfl
end Go.Proofs.YtcdaalnjanncmaaDoor

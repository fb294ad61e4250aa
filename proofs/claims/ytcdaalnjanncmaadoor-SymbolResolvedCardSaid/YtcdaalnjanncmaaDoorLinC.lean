/- What the rows of a table tell of an offset: lineAt, by sort.Search at its closure. -/
import Derived.Test.YtcdaalnjanncmaaDoorCallPlain
import Derived.Test.YtcdaalnjanncmaaDoorLawPlain
import Derived.BigQuiet
namespace Go.Proofs.YtcdaalnjanncmaaDoor
open Go.RowKit Go.Deep

set_option maxHeartbeats 1000000 in
set_option maxRecDepth 100000 in
theorem closure103 (i n pt po b off c : Nat) (p rp : Int) (w : World) (hi : i < n) (hn : n ≤ 5000) (ht : w.cell? ⟨pt, 4, none⟩ = some (.slice (some ⟨b, off, none⟩) n c)) (ho : w.cell? ⟨po, 0, none⟩ = some (.int .i64 p)) (hr : w.cell? ⟨b, off + i * 3, none⟩ = some (.int .i64 rp)) :
    Calls Tryd.prog 103 #[.int .i64 i, .pointer (some ⟨pt, 0, none⟩), .pointer (some ⟨po, 0, none⟩)] w fun e w' => e = .returned (.bool (decide (p < rp))) ∧ Below w.heap.size w w' := by
  have hiz : (i : Int) < (n : Int) := by omega
  have hw : IntKind.i64.wrap (i : Int) = (i : Int) := IntWalk.i64_in _ ⟨by omega, by omega⟩
  go_enter Tryd.func103, Tryd.ntmps103
  go_wp2_with fail
  go_quiet (fail)
  go_wp2_with fail
  go_ret
  exact ⟨rfl, below_drewN (Below.refl _ _) _⟩

theorem begun_at {p : Int} : ∀ {l : List Rw} {i : Nat}, i ≤ l.length → (∀ q (h : q < l.length), q < i → l[q].p ≤ p) → (∀ q (h : q < l.length), i ≤ q → p < l[q].p) → begun p l = i
  | [], i, hi, _, _ => by
    have h0 : i = 0 := by simpa using hi
    subst h0; rfl
  | r :: l, 0, _, _, h2 => by
    have := h2 0 (by simp) (Nat.le_refl _)
    simp only [List.getElem_cons_zero] at this
    unfold begun
    rw [List.takeWhile_cons_of_neg (by simp; omega)]; rfl
  | r :: l, i + 1, hi, h1, h2 => by
    have h0 := h1 0 (by simp) (by omega)
    simp only [List.getElem_cons_zero] at h0
    have ih := begun_at (l := l) (i := i) (p := p) (by simpa using hi) (fun q h hq => by have := h1 (q + 1) (by simpa using h) (by omega); rwa [List.getElem_cons_succ] at this) (fun q h hq => by have := h2 (q + 1) (by simpa using h) (by omega); rwa [List.getElem_cons_succ] at this)
    unfold begun at ih ⊢
    rw [List.takeWhile_cons_of_pos (by simp; omega), List.length_cons, ih]
theorem sorted_le {l : List Rw} (h : l.Pairwise (fun r s => r.p < s.p)) {i j : Nat} (hij : i ≤ j) (hj : j < l.length) : (l[i]'(by omega)).p ≤ l[j].p := by
  rcases Nat.lt_or_ge i j with hlt | hge
  · exact Int.le_of_lt (List.pairwise_iff_getElem.1 h i j (by omega) hj hlt)
  · obtain rfl : i = j := by omega
    exact Int.le_refl _

set_option maxHeartbeats 2000000 in
set_option maxRecDepth 100000 in
theorem search_some (n pt po b off c : Nat) (p : Int) (l : List Rw) (w : World) (hl : l.length = n) (hn : n ≤ 5000) (hp : l.Pairwise (fun r s => r.p < s.p)) (ht : w.cell? ⟨pt, 4, none⟩ = some (.slice (some ⟨b, off, none⟩) n c)) (ho : w.cell? ⟨po, 0, none⟩ = some (.int .i64 p)) (hb : b < w.heap.size) (hc : AtG encR 3 w b off l) :
    Calls Tryd.prog 102 #[.int .i64 n, .func (.func 103) #[] #[.pointer (some ⟨pt, 0, none⟩), .pointer (some ⟨po, 0, none⟩)]] w fun e w' => e = .returned (.int .i64 (begun p l)) ∧ Below w.heap.size w w' := by
  have hlt1 := World.block_lt_of_cell? _ _ ht
  have hlt2 := World.block_lt_of_cell? _ _ ho
  simp only at hlt1 hlt2
  go_enter Tryd.func102, Tryd.ntmps102
  go_wp2_with fail
  go_loopw [5, 6] (fun v5 v6 wr => ∃ lo hi : Nat, lo ≤ hi ∧ hi ≤ n ∧ v5 = .int .i64 lo ∧ v6 = .int .i64 hi ∧ RowKit.Hid ((∀ q (h : q < l.length), q < lo → l[q].p ≤ p) ∧ (∀ q (h : q < l.length), hi ≤ q → p < l[q].p)) ∧ Below w.heap.size w wr) (fun v5 v6 _ => (RowKit.intOf v6).toNat - (RowKit.intOf v5).toNat)
  case atStart => exact ⟨0, n, Nat.zero_le _, Nat.le_refl _, rfl, rfl, Lib.hid ⟨fun q h hq => by omega, fun q h hq => by omega⟩, Below.refl _ _⟩
  case round =>
    obtain ⟨lo, hi, hlh, hin, rfl, rfl, HI, hbw⟩ := hrel
    by_cases hlt : lo < hi
    · have hm : (lo + hi) / 2 < n := by omega
      have hml : (lo + hi) / 2 < l.length := by omega
      have HC := Lib.hid (fun (W : World) (hW : Below w.heap.size w W) => closure103 ((lo + hi) / 2) n pt po b off c p (l[(lo + hi) / 2]).p W hm hn ((hW.cell (p := ⟨pt, 4, none⟩) hlt1).trans ht) ((hW.cell (p := ⟨po, 0, none⟩) hlt2).trans ho) ((hW.cell (p := ⟨b, _, none⟩) hb).trans (hc.row hml).1))
      rw [show (((lo + hi) / 2 : Nat) : Int) = ((lo : Int) + (hi : Int)) / 2 by omega] at HC
      by_cases hx : p < (l[(lo + hi) / 2]).p
      · rw [decide_eq_true hx] at HC
        have HN := Lib.hid (show (∀ q (h : q < l.length), q < lo → l[q].p ≤ p) ∧ (∀ q (h : q < l.length), (lo + hi) / 2 ≤ q → p < l[q].p) from ⟨HI.out.1, fun q h hq => by have := sorted_le hp hq h; omega⟩)
        clear hx
        go_wp2_with (go_at_call 103; with_reducible refine (HC.out _ hbw).mono ?_; rintro e w1 ⟨rfl, hb1⟩)
        exact ⟨⟨lo, (lo + hi) / 2, by omega, by omega, rfl, by rw [show ((lo : Int) + (hi : Int)) / 2 = (((lo + hi) / 2 : Nat) : Int) by omega], HN, below_call hbw hbw.size hb1⟩, by simp [RowKit.intOf]; omega⟩
      · rw [decide_eq_false hx] at HC
        have HN := Lib.hid (show (∀ q (h : q < l.length), q < (lo + hi) / 2 + 1 → l[q].p ≤ p) ∧ (∀ q (h : q < l.length), hi ≤ q → p < l[q].p) from ⟨fun q h hq => by have := sorted_le hp (show q ≤ (lo + hi) / 2 by omega) hml; omega, HI.out.2⟩)
        clear hx
        go_wp2_with (go_at_call 103; with_reducible refine (HC.out _ hbw).mono ?_; rintro e w1 ⟨rfl, hb1⟩)
        exact ⟨⟨(lo + hi) / 2 + 1, hi, by omega, hin, by rw [show ((lo : Int) + (hi : Int)) / 2 + 1 = (((lo + hi) / 2 + 1 : Nat) : Int) by omega], rfl, HN, below_call hbw hbw.size hb1⟩, by simp [RowKit.intOf]; omega⟩
    · obtain rfl : hi = lo := by omega
      have HE := Lib.hid (begun_at (i := hi) (by omega) HI.out.1 HI.out.2)
      go_wp2_with fail
      go_ret
      exact ⟨ret_int (by rw [HE.out]), hbw⟩

set_option maxHeartbeats 1000000 in
set_option maxRecDepth 100000 in
theorem search_zero (fv : Value) (w : World) :
    Calls Tryd.prog 102 #[.int .i64 0, fv] w fun e w' => e = .returned (.int .i64 0) ∧ Below w.heap.size w w' := by
  go_enter Tryd.func102, Tryd.ntmps102
  go_wp2_with fail
  go_loop [5, 6] (fun v5 v6 => v5 = .int .i64 0 ∧ v6 = .int .i64 0) (fun _ _ => 0)
  case atStart => exact ⟨rfl, rfl⟩
  case round =>
    obtain ⟨rfl, rfl⟩ := hrel
    go_wp2_with fail
    go_ret
    exact ⟨rfl, Below.refl _ _⟩

theorem lineAt_none {t : Tb} {p : Int} (h : begun p t.rows = 0) : lineAt t p = (noB, 0) := by
  unfold lineAt
  rw [h]
  split
  · rfl
  · simp
theorem lineAt_some {t : Tb} {p : Int} {k : Nat} {r : Rw} (h : begun p t.rows = k + 1) (hr : t.rows[k]? = some r) : lineAt t p = rowSays t.files r := by
  unfold lineAt
  rw [h, Nat.add_sub_cancel, hr]
  simp

set_option maxHeartbeats 4000000 in
set_option maxRecDepth 100000 in
theorem lineAt_any (v : Value) (t : Tb) (p : Int) (w : World) (hv : TbV w v t) (hn : t.rows.length ≤ 5000) (hp : t.rows.Pairwise (fun r s => r.p < s.p)) (hf : ∀ r ∈ t.rows, r.f = -1 ∨ (0 ≤ r.f ∧ r.f < t.files.length)) :
    Calls Tryd.prog 70 #[v, .int .i64 p] w fun e w' => e = .returned (.tuple #[.string (lineAt t p).1, .int .i64 (lineAt t p).2]) ∧ Below w.heap.size w w' := by
  obtain ⟨v1, v2, v3, v4, rfl, hid, hsz, ⟨p1, c1, rfl, l1, m1, f1, o1⟩, ⟨p2, c2, rfl, -, -, -, -⟩, ⟨p3, c3, rfl, l3, m3, f3, o3⟩, ⟨p4, c4, rfl, -, -, -, -⟩⟩ := hv
  have hA : Below w.heap.size w ((w.alloc (.cells #[.string t.id, .int .i64 t.size, .slice p1 t.files.length c1, .slice p2 t.funcs.length c2, .slice p3 t.rows.length c3, .slice p4 t.calls.length c4] 42)).alloc (.cells #[.int .i64 p] 3)) := ((Below.refl _ _).alloc (Nat.le_refl _) _).alloc (by simp) _
  rcases o3 with h0 | ⟨b, off, rfl, hb, hc⟩
  · have hl0 : t.rows.length = 0 := by rw [h0]; rfl
    have HR := Lib.hid (lineAt_none (t := t) (p := p) (by rw [h0]; rfl))
    rw [HR.out]
    unfold noB
    have HS := Lib.hid (fun fv W => search_zero fv W)
    generalize t.rows.length = n3 at *
    subst hl0
    go_enter Tryd.func70, Tryd.ntmps70
    go_wp2_with (go_at_call 102; with_reducible refine (HS.out _ _).mono ?_; rintro e w1 ⟨rfl, hb1⟩)
    go_ret2
    exact ⟨rfl, below_call hA hA.size hb1⟩
  · have HS := Lib.hid (fun (W : World) (hW : Below w.heap.size w W) h1 h2 => search_some t.rows.length w.heap.size (w.heap.size + 1) b off c3 p t.rows W rfl hn hp h1 h2 (by have := hW.size; omega) (hc.below hb hW))
    rcases hk : begun p t.rows with _ | k
    · rw [hk] at HS
      have HR := Lib.hid (lineAt_none hk)
      rw [HR.out]
      unfold noB
      clear hk
      go_enter Tryd.func70, Tryd.ntmps70
      go_wp2_with (go_at_call 102; with_reducible refine (HS.out _ hA (by go_simp) (by go_simp)).mono ?_; rintro e w1 ⟨rfl, hb1⟩)
      go_ret2
      exact ⟨rfl, below_call hA hA.size hb1⟩
    · rw [hk] at HS
      have hkl : k < t.rows.length := by
        have : begun p t.rows ≤ t.rows.length := (List.takeWhile_prefix _).length_le
        omega
      have HR := Lib.hid (lineAt_some hk (List.getElem?_eq_getElem hkl))
      have hfr := hf _ (List.getElem_mem hkl)
      obtain ⟨k0, k1, k2⟩ := hc.row hkl
      clear hk
      rw [HR.out]
      generalize t.rows[k] = r at *
      obtain ⟨rp, rf, rl⟩ := r
      simp only at k0 k1 k2 hfr
      have hwk : IntKind.i64.wrap (k : Int) = (k : Int) := IntWalk.i64_in _ ⟨by omega, by omega⟩
      have hkz : (k : Int) < (t.rows.length : Int) := by omega
      by_cases hneg : rf = -1
      · have HV := Lib.hid (show rowSays t.files ⟨rp, rf, rl⟩ = (noB, 0) by unfold rowSays; rw [if_pos hneg])
        rw [HV.out]
        unfold noB
        have b1 : (rf == -1) = true := by rw [beq_iff_eq]; exact hneg
        clear hneg hfr
        go_enter Tryd.func70, Tryd.ntmps70
        go_wp2_with (go_at_call 102; with_reducible refine (HS.out _ hA (by go_simp) (by go_simp)).mono ?_; rintro e w1 ⟨rfl, hb1⟩; have hbw1 := below_call hA hA.size hb1; have k0 := (hbw1.cell (p := ⟨b, _, none⟩) hb).trans k0; have k1 := (hbw1.cell (p := ⟨b, _, none⟩) hb).trans k1; have k2 := (hbw1.cell (p := ⟨b, _, none⟩) hb).trans k2; have g4 : w1.cell? ⟨w.heap.size, 4, none⟩ = some (.slice (some ⟨b, off, none⟩) t.rows.length c3) := (hb1.cell (p := ⟨w.heap.size, 4, none⟩) (by simp; omega)).trans (by go_simp); have hlw := World.block_lt_of_cell? _ _ g4; simp only at hlw; have hlb : b < w1.heap.size := (by have := hbw1.size; omega))
        go_ret2
        exact ⟨rfl, hbw1⟩
      · obtain ⟨fi, rfl⟩ := Int.eq_ofNat_of_zero_le (show 0 ≤ rf by omega)
        have hfl : fi < t.files.length := by omega
        have b1 : ((fi : Int) == -1) = false := by rw [beq_eq_false_iff_ne]; omega
        rcases o1 with h0 | ⟨bf, of, rfl, hbf, hcf⟩
        · rw [h0] at hfl; simp at hfl
        have q0 := hcf.str hfl
        have HV := Lib.hid (show rowSays t.files ⟨rp, fi, rl⟩ = (t.files[fi], rl) by unfold rowSays fileAt; rw [if_neg hneg]; simp [List.getD, List.getElem?_eq_getElem hfl])
        rw [HV.out]
        clear hneg hfr
        generalize t.files[fi] = fs at *
        have hfz : (fi : Int) < (t.files.length : Int) := by omega
        have hwf : IntKind.i64.wrap (fi : Int) = (fi : Int) := IntWalk.i64_in _ ⟨by omega, by unfold maxLen at m1; omega⟩
        go_enter Tryd.func70, Tryd.ntmps70
        go_wp2_with (go_at_call 102; with_reducible refine (HS.out _ hA (by go_simp) (by go_simp)).mono ?_; rintro e w1 ⟨rfl, hb1⟩; have hbw1 := below_call hA hA.size hb1; have k0 := (hbw1.cell (p := ⟨b, _, none⟩) hb).trans k0; have k1 := (hbw1.cell (p := ⟨b, _, none⟩) hb).trans k1; have k2 := (hbw1.cell (p := ⟨b, _, none⟩) hb).trans k2; have g4 : w1.cell? ⟨w.heap.size, 4, none⟩ = some (.slice (some ⟨b, off, none⟩) t.rows.length c3) := (hb1.cell (p := ⟨w.heap.size, 4, none⟩) (by simp; omega)).trans (by go_simp); have hlw := World.block_lt_of_cell? _ _ g4; simp only at hlw; have hlb : b < w1.heap.size := (by have := hbw1.size; omega); have q0 := (hbw1.cell (p := ⟨bf, _, none⟩) hbf).trans q0; have hlbf : bf < w1.heap.size := (by have := hbw1.size; omega); have g2 : w1.cell? ⟨w.heap.size, 2, none⟩ = some (.slice (some ⟨bf, of, none⟩) t.files.length c1) := (hb1.cell (p := ⟨w.heap.size, 2, none⟩) (by simp; omega)).trans (by go_simp))
        go_quiet (fail)
        go_wp2_with fail
        go_ret2
        exact ⟨rfl, below_drewN (hbw1.alloc hbw1.size _) _⟩
end Go.Proofs.YtcdaalnjanncmaaDoor

/- What Fold answers: the runs, or the error of the frames. -/
import Derived.Test.YtihnpbhcddapdabGreatDoorRunAt
namespace Go.Proofs.YtihnpbhcddapdabGreatDoor
open Go.RowKit

theorem Tryz.info46 : (Tryz.prog.info? 37).map (fun i => (i.zero, i.size, i.bytes)) = some (some (.agg #[.int .i64 0, .int .i64 0, .int .i64 0]), 3, 24) := by kernel_rfl

theorem own_below {w w' : World} {base : Nat} {e : TypeId} {size : Nat} {v : Value} {n : Nat} {xs : List Value} (h : w.ownsRow base e size v n xs) (hb : Below w.heap.size w w') : w'.ownsRow base e size v n xs := by
  obtain ⟨h1, h2 | ⟨g, cap, cur, a1, a2, a3, a4⟩⟩ := h
  · exact ⟨h1, .inl h2⟩
  · exact ⟨h1, .inr ⟨g, cap, cur, a1, a2, by rw [hb.block g (Array.getElem?_eq_some_iff.1 a3).1]; exact a3, a4⟩⟩

/-- The cells of a block that was just made. -/
theorem new_cells (w : World) {o : Obj} {cs : List Value} {j : Nat} {u : Value} (c : Array Value) (t : TypeId) (hc : c.toList = cs) (hu : cs[j]? = some u) : ((w.alloc o).alloc (.cells c t)).cell? ((⟨w.heap.size + 1, 0, none⟩ : Addr).add j) = some u := by
  rw [add_none, Nat.zero_add]
  have hg : ((w.alloc o).alloc (.cells c t)).heap[w.heap.size + 1]? = some (.cells c t (0, 0)) := by
    show (Array.push (Array.push _ _) _)[w.heap.size + 1]? = _
    have : (w.heap.push o).size = w.heap.size + 1 := Array.size_push ..
    rw [← this]; exact Array.getElem?_push_size ..
  simp only [World.cell?, hg]
  rw [← hc] at hu
  simpa using hu

/-- The last run of an own row. -/
theorem own_last {w : World} {base g cp : Nat} {ys : List Rn} {x : Rn} (h : w.ownsRow base 37 3 (.slice (some ⟨g, 0, none⟩) (ys.length + 1) cp) (ys.length + 1) (cellsR (ys ++ [x]))) :
    w.cell? ⟨g, ys.length * 3 + 1, none⟩ = some (.int .i64 x.long) ∧ w.cell? ⟨g, ys.length * 3 + 2, none⟩ = some (.int .i64 x.times) ∧ w.frozen? ⟨g, ys.length * 3 + 1, none⟩ = false := by
  have hc := h.cells (g := g) rfl
  have hat := fun j (hj : j < 3) => cellsR_at (l := ys ++ [x]) (k := ys.length) (by simp) hj
  have e1 := hc (ys.length * 3 + 1) (.int .i64 x.long) (by rw [hat 1 (by omega)]; simp)
  have e2 := hc (ys.length * 3 + 2) (.int .i64 x.times) (by rw [hat 2 (by omega)]; simp)
  rw [add_none, Nat.zero_add] at e1 e2
  refine ⟨e1, e2, ?_⟩
  obtain ⟨_, ⟨h0, _⟩ | ⟨g', cap, cur, a1, a2, a3, _⟩⟩ := h
  · cases h0
  · cases a1
    simp [World.frozen?, a3]

/-- Runs that the call has made. -/
def MadeR (l : List Rn) (w : World) (e : Ending) (w' : World) : Prop := ∃ v, e = .returned (.tuple #[v, .int .i64 0]) ∧ w'.ownsRow w.heap.size 37 3 v l.length (cellsR l) ∧ Below w.heap.size w w'

theorem fold_bad (v : Value) (l : List Fr) (w : World) (h : SlF w v l) (he : frsErr l ≠ 0) :
    Calls Tryz.prog 12 #[v] w fun e w' => e = .returned (.tuple #[.slice none 0 0, .int .i64 (frsErr l)]) ∧ Below w.heap.size w w' := by
  have hq : (frsErr l != 0) = true := by simpa using he
  go_enter Tryz.func12, Tryz.ntmps12
  go_wp2_with (go_at_call 26; refine (checkFrames_any _ l _ h).mono ?_; rintro e w1 ⟨rfl, hb1⟩)
  go_ret2
  exact ⟨rfl, hb1⟩

set_option maxHeartbeats 2000000 in
set_option maxRecDepth 100000 in
theorem fold_some (b off cap : Nat) (l : List Fr) (w : World) (hb : b < w.heap.size) (hcap : l.length ≤ cap) (hcm : cap ≤ maxLen) (hf : ∀ x ∈ l, x.fit) (hc : FrsAt w b off l) (he : frsErr l = 0) :
    Calls Tryz.prog 12 #[.slice (some ⟨b, off, none⟩) l.length cap] w (MadeR (foldN l) w) := by
  have h : SlF w (.slice (some ⟨b, off, none⟩) l.length cap) l := ⟨_, cap, rfl, hcap, hcm, hf, .inr ⟨b, off, rfl, hb, hc⟩⟩
  obtain ⟨i0, hi, hz0, hz1, hz2⟩ := info_parts Tryz.info46
  have hz3 : (Value.agg #[.int .i64 0, .int .i64 0, .int .i64 0]).cells.size = 3 := rfl
  have HE := Lib.hid he
  have hl2 : l.length ≤ 200 := frsErr_zero he
  have HK := Lib.hid (checkFrames_any _ l w h)
  have HR := Lib.hid (fun (W : World) (hW : Below w.heap.size w W) (i : Nat) (hi : i < l.length) => runAt_any b off cap i l W (by have := hW.size; omega) hcap hcm hf (hc.below hb hW) hl2 hi)
  have HST := Lib.hid (fun (n : Nat) (runs : List Rn) (i : Nat) (h : i < l.length) (hn : l.length - i ≤ n) => foldG_step (l := l) (n := n) (runs := runs) h hn)
  have HEND := Lib.hid (fun (n : Nat) (runs : List Rn) (i : Nat) (h : l.length ≤ i) => foldG_end (l := l) (n := n) (runs := runs) h)
  have HB := Lib.hid (fun (i : Nat) (h : i < l.length) => bestK_ok (l.drop i) (by rw [List.length_drop]; omega) _ (Nat.le_refl _))
  have HDL := Lib.hid (fun (i : Nat) => (List.length_drop : (l.drop i).length = l.length - i))
  have HF0 := Lib.hid (show foldG l l.length [] 0 = foldN l from rfl)
  clear he hc h hf
  generalize hn : l.length = n at *
  clear hn
  go_enter Tryz.func12, Tryz.ntmps12
  go_wp2_with (go_at_call 26; refine HK.out.mono ?_; rintro e w1 ⟨rfl, hb1⟩; rw [HE.out])
  go_loopw [5, 6] (fun v5 v6 wr => ∃ (runs : List Rn) (i fuel : Nat), i ≤ n ∧ n - i ≤ fuel ∧ foldG l fuel runs i = foldN l ∧ runs.length ≤ i ∧ (∀ r ∈ runs, 0 ≤ r.long ∧ r.long ≤ i) ∧ wr.ownsRow w.heap.size 37 3 v5 runs.length (cellsR runs) ∧ v6 = .int .i64 i ∧ Below w.heap.size w wr) (fun _ v _ => n - (intOf v).toNat)
  case atStart => exact ⟨[], 0, n, Nat.zero_le _, by omega, HF0.out, Nat.zero_le _, by simp, ⟨rfl, .inl ⟨rfl, rfl⟩⟩, rfl, hb1⟩
  case round =>
    obtain ⟨runs, i, fuel, g1, g2, g3, g4, g5, hown, rfl, hbw⟩ := hrel
    have G3 := Lib.hid g3
    have G5 := Lib.hid g5
    clear g3 g5
    by_cases hlt : i < n
    · obtain ⟨fuel', hf1, hf2⟩ := HST.out fuel runs i hlt g2
      have HF1 := Lib.hid hf1
      clear hf1
      have hbb : 1 ≤ (best (l.drop i)).1 ∧ 1 ≤ (best (l.drop i)).2 ∧ (best (l.drop i)).1 * (best (l.drop i)).2 ≤ n - i := by
        have := HB.out i hlt; rw [HDL.out] at this
        have e : bestK (l.drop i) ((n - i) / 2) = best (l.drop i) := by unfold best; rw [HDL.out]
        rwa [e] at this
      have HC := Lib.hid (HR.out wr hbw i hlt)
      generalize best (l.drop i) = bb at *
      obtain ⟨p, q⟩ := bb
      simp only at hbb HC hf2 HF1
      obtain ⟨m1, m2, m3⟩ := hbb
      have HPQ := Lib.hid (show ((p * q : Nat) : Int) = (p : Int) * q from Int.natCast_mul _ _)
      have p1 : (1 : Int) ≤ (p : Int) * q := by
        have e : 1 * 1 ≤ p * q := Nat.mul_le_mul m1 m2
        rw [← HPQ.out]; omega
      have p2 : (p : Int) * q ≤ 200 := by rw [← HPQ.out]; omega
      have H200 : ∀ r ∈ [(⟨i, p, q⟩ : Rn)], 0 ≤ r.long ∧ r.long ≤ ((i + p * q : Nat) : Int) := by
        intro r hr
        rw [List.mem_singleton] at hr
        subst hr
        have : p * 1 ≤ p * q := Nat.mul_le_mul_left _ m2
        simp only
        omega
      have HNEW := Lib.hid H200
      clear H200
      have hinc : i + 1 ≤ i + p * q := by
        have e : 1 * 1 ≤ p * q := Nat.mul_le_mul m1 m2
        omega
      have HCAST := Lib.hid (show ((i + p * q : Nat) : Int) = (i : Int) + (p : Int) * q by rw [Int.natCast_add, HPQ.out])
      have hm3 : i + p * q ≤ n := by omega
      have hone : ∀ u ∈ ([.int .i64 i, .int .i64 p, .int .i64 q] : List Value), u.oneCell' = true := by
        intro u hu
        simp only [List.mem_cons, List.not_mem_nil, or_false] at hu
        rcases hu with rfl | rfl | rfl <;> rfl
      by_cases hq : q = 1
      · subst hq
        rw [show ((1 : Nat) : Int) = 1 from rfl] at HC HF1 HNEW hone
        rcases List.eq_nil_or_concat runs with rfl | ⟨ys, x, rfl⟩
        · have HA := Lib.hid (show addRun [] (⟨i, p, 1⟩ : Rn) = [] ++ [⟨i, p, 1⟩] from addRun_nil _)
          have hown0 : wr.ownsRow w.heap.size 37 3 u5 0 [] := hown
          have qb1 : 0 + 1 ≤ maxLen := by unfold maxLen; omega
          have qb2 : (0 + 1) * 24 ≤ 140737488355328 := by omega
          rcases hown.2 with ⟨rfl, h0⟩ | ⟨g, cp, cur, rfl, _⟩
          all_goals
            clear hown
            go_wp2_with (first
            | (go_at_call 27; refine HC.out.mono ?_; rintro e w2 ⟨rfl, hb2⟩; have ho3 := (own_below hown0 hb2).alloc (.cells #[.int .i64 i, .int .i64 p, .int .i64 1] 37); have ho4 := ho3.alloc (.cells #[.int .i64 i, .int .i64 p, .int .i64 1] 37); have hb4 : Below w.heap.size w ((w2.alloc (.cells #[.int .i64 i, .int .i64 p, .int .i64 1] 37)).alloc (.cells #[.int .i64 i, .int .i64 p, .int .i64 1] 37)) := ((below_call hbw hbw.size hb2).alloc (by have := hbw.size; have := hb2.size; omega) _).alloc (by have := hbw.size; have := hb2.size; simp; omega) _; have q3 := hb4.size; have hsrc : ∀ j u, ([.int .i64 i, .int .i64 p, .int .i64 1] : List Value)[j]? = some u → ((w2.alloc (.cells #[.int .i64 i, .int .i64 p, .int .i64 1] 37)).alloc (.cells #[.int .i64 i, .int .i64 p, .int .i64 1] 37)).cell? ((⟨w2.heap.size + 1, 0, none⟩ : Addr).add j) = some u := (fun j u hu => new_cells w2 #[.int .i64 i, .int .i64 p, .int .i64 1] 37 rfl hu); have hge := own_ge ho4; clear ho3)
            | (at_builtin; (refine wpList_append_own _ rfl _ _ 33 rfl w.heap.size 37 i0 _ 3 24 Tryz.underlying33 hi hz0 hz1 hz2 hz3 (by decide) _ _ _ rfl ho4 ⟨w2.heap.size + 1, 0, none⟩ 1 1 [.int .i64 i, .int .i64 p, .int .i64 1] rfl rfl hsrc hone qb1 qb2 q3 ?_; intro v' w3 hown3 hgrow _)))
            exact ⟨⟨[] ++ [⟨i, p, 1⟩], i + p * 1, fuel', hm3, hf2, by rw [← HA.out, ← HF1.out]; exact G3.out, by simp at g4 ⊢; omega, by
            intro r hr
            rcases List.mem_append.1 hr with hr | hr
            · have := G5.out r hr; omega
            · exact HNEW.out r hr, by rw [cellsR_append, List.length_append]; exact hown3, by rw [Nat.mul_one]; go_num, hb4.grown hgrow q3 hge⟩, by simp [intOf]; omega⟩
        · rw [List.concat_eq_append] at *
          rw [List.length_append, List.length_singleton] at hown g4
          have qb1 : ys.length + 1 + 1 ≤ maxLen := by unfold maxLen; omega
          have qb2 : (ys.length + 1 + 1) * 24 ≤ 140737488355328 := by omega
          rcases hown.2 with ⟨_, h0⟩ | ⟨g, cp, cur, rfl, k1, k2, k3, k4, k5, k6⟩
          · omega
          have hx := G5.out x (by simp)
          clear k2 k3 k4 k5 k6
          by_cases hx1 : x.times = 1
          · have HA := Lib.hid (addRun_in (ys := ys) (x := x) (r := ⟨i, p, 1⟩) rfl hx1)
            have HX1 := Lib.hid hx1
            clear hx1
            go_wp2_with (go_at_call 27; refine HC.out.mono ?_; rintro e w2 ⟨rfl, hb2⟩; have ho3 := (own_below hown hb2).alloc (.cells #[.int .i64 i, .int .i64 p, .int .i64 1] 37); have HO3 := Lib.hid ho3; obtain ⟨z1, z2, zf⟩ := own_last ho3; clear ho3; rw [HX1.out] at z2)
            exact ⟨⟨ys ++ [⟨x.start, x.long + 1, x.times⟩], i + p * 1, fuel', hm3, hf2, by rw [← HA.out, ← HF1.out]; exact G3.out, by simp; omega, by
              intro r hr
              rcases List.mem_append.1 hr with hr | hr
              · have := G5.out r (by simp [hr]); omega
              · rw [List.mem_singleton] at hr
                subst hr
                simp only
                omega, by rw [List.length_append, ← cellsR_set]; exact (HO3.out.stored _ _).1, by rw [Nat.mul_one]; go_num, ((below_call hbw hbw.size hb2).alloc (by have := hbw.size; have := hb2.size; omega) _).setCell k1 _⟩, by simp [intOf]; omega⟩
          · have HA := Lib.hid (addRun_not (ys := ys) (x := x) (r := ⟨i, p, 1⟩) (fun h => hx1 h.2))
            have hxb : (x.times == 1) = false := by rw [beq_eq_false_iff_ne]; exact hx1
            clear hx1
            go_wp2_with (first
            | (go_at_call 27; refine HC.out.mono ?_; rintro e w2 ⟨rfl, hb2⟩; have ho3 := (own_below hown hb2).alloc (.cells #[.int .i64 i, .int .i64 p, .int .i64 1] 37); obtain ⟨z1, z2, zf⟩ := own_last ho3; have ho4 := ho3.alloc (.cells #[.int .i64 i, .int .i64 p, .int .i64 1] 37); have hb4 : Below w.heap.size w ((w2.alloc (.cells #[.int .i64 i, .int .i64 p, .int .i64 1] 37)).alloc (.cells #[.int .i64 i, .int .i64 p, .int .i64 1] 37)) := ((below_call hbw hbw.size hb2).alloc (by have := hbw.size; have := hb2.size; omega) _).alloc (by have := hbw.size; have := hb2.size; simp; omega) _; have q3 := hb4.size; have hsrc : ∀ j u, ([.int .i64 i, .int .i64 p, .int .i64 1] : List Value)[j]? = some u → ((w2.alloc (.cells #[.int .i64 i, .int .i64 p, .int .i64 1] 37)).alloc (.cells #[.int .i64 i, .int .i64 p, .int .i64 1] 37)).cell? ((⟨w2.heap.size + 1, 0, none⟩ : Addr).add j) = some u := (fun j u hu => new_cells w2 #[.int .i64 i, .int .i64 p, .int .i64 1] 37 rfl hu); have hge := own_ge ho4; clear ho3)
            | (at_builtin; (refine wpList_append_own _ rfl _ _ 33 rfl w.heap.size 37 i0 _ 3 24 Tryz.underlying33 hi hz0 hz1 hz2 hz3 (by decide) _ _ _ rfl ho4 ⟨w2.heap.size + 1, 0, none⟩ 1 1 [.int .i64 i, .int .i64 p, .int .i64 1] rfl rfl hsrc hone qb1 qb2 q3 ?_; intro v' w3 hown3 hgrow _)))
            exact ⟨⟨(ys ++ [x]) ++ [⟨i, p, 1⟩], i + p * 1, fuel', hm3, hf2, by rw [← HA.out, ← HF1.out]; exact G3.out, by simp at g4 ⊢; omega, by
            intro r hr
            rcases List.mem_append.1 hr with hr | hr
            · have := G5.out r hr; omega
            · exact HNEW.out r hr, by rw [cellsR_append, List.length_append, List.length_append]; exact hown3, by rw [Nat.mul_one]; go_num, hb4.grown hgrow q3 hge⟩, by simp [intOf]; omega⟩
      · have hqb : ((q : Int) == 1) = false := by rw [beq_eq_false_iff_ne]; omega
        rcases List.eq_nil_or_concat runs with rfl | ⟨ys, x, rfl⟩
        · have HA := Lib.hid (show addRun [] (⟨i, p, q⟩ : Rn) = [] ++ [⟨i, p, q⟩] from addRun_nil _)
          have hown0 : wr.ownsRow w.heap.size 37 3 u5 0 [] := hown
          have qb1 : 0 + 1 ≤ maxLen := by unfold maxLen; omega
          have qb2 : (0 + 1) * 24 ≤ 140737488355328 := by omega
          rcases hown.2 with ⟨rfl, h0⟩ | ⟨g, cp, cur, rfl, _⟩
          all_goals
            clear hown
            go_wp2_with (first
            | (go_at_call 27; refine HC.out.mono ?_; rintro e w2 ⟨rfl, hb2⟩; have ho3 := (own_below hown0 hb2).alloc (.cells #[.int .i64 i, .int .i64 p, .int .i64 q] 37); have ho4 := ho3.alloc (.cells #[.int .i64 i, .int .i64 p, .int .i64 q] 37); have hb4 : Below w.heap.size w ((w2.alloc (.cells #[.int .i64 i, .int .i64 p, .int .i64 q] 37)).alloc (.cells #[.int .i64 i, .int .i64 p, .int .i64 q] 37)) := ((below_call hbw hbw.size hb2).alloc (by have := hbw.size; have := hb2.size; omega) _).alloc (by have := hbw.size; have := hb2.size; simp; omega) _; have q3 := hb4.size; have hsrc : ∀ j u, ([.int .i64 i, .int .i64 p, .int .i64 q] : List Value)[j]? = some u → ((w2.alloc (.cells #[.int .i64 i, .int .i64 p, .int .i64 q] 37)).alloc (.cells #[.int .i64 i, .int .i64 p, .int .i64 q] 37)).cell? ((⟨w2.heap.size + 1, 0, none⟩ : Addr).add j) = some u := (fun j u hu => new_cells w2 #[.int .i64 i, .int .i64 p, .int .i64 q] 37 rfl hu); have hge := own_ge ho4; clear ho3)
            | (at_builtin; (refine wpList_append_own _ rfl _ _ 33 rfl w.heap.size 37 i0 _ 3 24 Tryz.underlying33 hi hz0 hz1 hz2 hz3 (by decide) _ _ _ rfl ho4 ⟨w2.heap.size + 1, 0, none⟩ 1 1 [.int .i64 i, .int .i64 p, .int .i64 q] rfl rfl hsrc hone qb1 qb2 q3 ?_; intro v' w3 hown3 hgrow _)))
            exact ⟨⟨[] ++ [⟨i, p, q⟩], i + p * q, fuel', hm3, hf2, by rw [← HA.out, ← HF1.out]; exact G3.out, by simp at g4 ⊢; omega, by
            intro r hr
            rcases List.mem_append.1 hr with hr | hr
            · have := G5.out r hr; omega
            · exact HNEW.out r hr, by rw [cellsR_append, List.length_append]; exact hown3, by rw [HCAST.out], hb4.grown hgrow q3 hge⟩, by simp [intOf]; omega⟩
        · rw [List.concat_eq_append] at *
          rw [List.length_append, List.length_singleton] at hown g4
          have qb1 : ys.length + 1 + 1 ≤ maxLen := by unfold maxLen; omega
          have qb2 : (ys.length + 1 + 1) * 24 ≤ 140737488355328 := by omega
          rcases hown.2 with ⟨_, h0⟩ | ⟨g, cp, cur, rfl, k1, k2, k3, k4, k5, k6⟩
          · omega
          have hx := G5.out x (by simp)
          clear k2 k3 k4 k5 k6
          have HA := Lib.hid (addRun_not (ys := ys) (x := x) (r := ⟨i, p, q⟩) (fun h => hq (by have := h.1; simp only at this; omega)))
          go_wp2_with (first
            | (go_at_call 27; refine HC.out.mono ?_; rintro e w2 ⟨rfl, hb2⟩; have ho3 := (own_below hown hb2).alloc (.cells #[.int .i64 i, .int .i64 p, .int .i64 q] 37); have ho4 := ho3.alloc (.cells #[.int .i64 i, .int .i64 p, .int .i64 q] 37); have hb4 : Below w.heap.size w ((w2.alloc (.cells #[.int .i64 i, .int .i64 p, .int .i64 q] 37)).alloc (.cells #[.int .i64 i, .int .i64 p, .int .i64 q] 37)) := ((below_call hbw hbw.size hb2).alloc (by have := hbw.size; have := hb2.size; omega) _).alloc (by have := hbw.size; have := hb2.size; simp; omega) _; have q3 := hb4.size; have hsrc : ∀ j u, ([.int .i64 i, .int .i64 p, .int .i64 q] : List Value)[j]? = some u → ((w2.alloc (.cells #[.int .i64 i, .int .i64 p, .int .i64 q] 37)).alloc (.cells #[.int .i64 i, .int .i64 p, .int .i64 q] 37)).cell? ((⟨w2.heap.size + 1, 0, none⟩ : Addr).add j) = some u := (fun j u hu => new_cells w2 #[.int .i64 i, .int .i64 p, .int .i64 q] 37 rfl hu); have hge := own_ge ho4; clear ho3)
            | (at_builtin; (refine wpList_append_own _ rfl _ _ 33 rfl w.heap.size 37 i0 _ 3 24 Tryz.underlying33 hi hz0 hz1 hz2 hz3 (by decide) _ _ _ rfl ho4 ⟨w2.heap.size + 1, 0, none⟩ 1 1 [.int .i64 i, .int .i64 p, .int .i64 q] rfl rfl hsrc hone qb1 qb2 q3 ?_; intro v' w3 hown3 hgrow _)))
          exact ⟨⟨(ys ++ [x]) ++ [⟨i, p, q⟩], i + p * q, fuel', hm3, hf2, by rw [← HA.out, ← HF1.out]; exact G3.out, by simp at g4 ⊢; omega, by
            intro r hr
            rcases List.mem_append.1 hr with hr | hr
            · have := G5.out r hr; omega
            · exact HNEW.out r hr, by rw [cellsR_append, List.length_append, List.length_append]; exact hown3, by rw [HCAST.out], hb4.grown hgrow q3 hge⟩, by simp [intOf]; omega⟩
    · have HF := Lib.hid (HEND.out fuel runs i (by omega))
      have hfin : runs = foldN l := by rw [← HF.out]; exact G3.out
      have HM : Hid (MadeR (foldN l) w (.returned (.tuple #[u5, .int .i64 0])) wr) := Lib.hid ⟨u5, rfl, by rw [← hfin]; exact hown, hbw⟩
      clear hfin hown
      go_wp2_with fail
      go_ret2
      exact HM.out

theorem foldN_nil : foldN [] = [] := rfl
set_option maxHeartbeats 1000000 in
set_option maxRecDepth 100000 in
theorem fold_none (p : Option Addr) (cap : Nat) (w : World) : Calls Tryz.prog 12 #[.slice p 0 cap] w (MadeR (foldN []) w) := by
  have HM := Lib.hid (fun (w' : World) (hb : Below w.heap.size w w') => (show MadeR (foldN []) w (.returned (.tuple #[.slice none 0 0, .int .i64 0])) w' from ⟨_, rfl, ⟨rfl, .inl ⟨rfl, rfl⟩⟩, hb⟩))
  go_enter Tryz.func12, Tryz.ntmps12
  go_wp2_with (go_at_call 26; refine (checkFrames_none p cap w).mono ?_; rintro e w1 ⟨rfl, hb1⟩)
  go_loop [5, 6] (fun v5 v6 => v5 = .slice none 0 0 ∧ v6 = .int .i64 0) (fun _ _ => 0)
  case atStart => exact ⟨rfl, rfl⟩
  case round =>
    obtain ⟨rfl, rfl⟩ := hrel
    go_wp2_with fail
    go_ret2
    exact HM.out _ hb1

theorem fold_good (v : Value) (l : List Fr) (w : World) (h : SlF w v l) (he : frsErr l = 0) : Calls Tryz.prog 12 #[v] w (MadeR (foldN l) w) := by
  obtain ⟨p, cap, rfl, h1, h2, h3, h4⟩ := h
  rcases h4 with rfl | ⟨b, off, rfl, hb, hc⟩
  · exact fold_none p cap w
  · exact fold_some b off cap l w hb h1 h2 h3 hc he
end Go.Proofs.YtihnpbhcddapdabGreatDoor

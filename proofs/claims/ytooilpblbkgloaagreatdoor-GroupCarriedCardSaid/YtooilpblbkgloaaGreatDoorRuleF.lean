/- What ruleText answers. -/
import Derived.Test.YtooilpblbkgloaaGreatDoorRuleE
import Derived.Lib.Join
import Derived.Laws.AppendOwn
namespace Go.Proofs.YtooilpblbkgloaaGreatDoor
open Go.RowKit Go.Lib Go.Deep

section
variable {w w' : World} {base : Nat} {e : TypeId} {size : Nat} {v : Value} {n : Nat} {xs : List Value}
theorem own_keeps (h : w.ownsRow base e size v n xs) (hb : Below w.heap.size w w') : w'.ownsRow base e size v n xs := by
  obtain ⟨h1, h2⟩ := h
  refine ⟨h1, ?_⟩
  rcases h2 with h2 | ⟨g, cap, cur, hv, hg, hc, r⟩
  · exact Or.inl h2
  · exact Or.inr ⟨g, cap, cur, hv, hg, (hb.block _ (Array.getElem?_eq_some_iff.1 hc).1).trans hc, r⟩
/-- A row with an element is a slice at a block. -/
theorem own_slice (h : w.ownsRow base e size v n xs) (hn : 0 < n) : ∃ g cap, v = .slice (some ⟨g, 0, none⟩) n cap ∧ n ≤ cap ∧ base ≤ g ∧ g < w.heap.size ∧ ∀ j u, xs[j]? = some u → w.cell? ⟨g, j, none⟩ = some u := by
  obtain ⟨h1, ⟨_, h2⟩ | ⟨g, cap, cur, hv, hg, hc, h3, h4, h5, h6⟩⟩ := h
  · omega
  · refine ⟨g, cap, hv, h3, hg, (Array.getElem?_eq_some_iff.1 hc).1, fun j u hj => ?_⟩
    simp only [World.cell?, hc]
    rw [← h6, List.getElem?_take] at hj
    split at hj
    · simpa using hj
    · exact absurd hj (by simp)
theorem own_base (h : w.ownsRow base e size v n xs) : ∀ k, v.ownBlock = some k → base ≤ k := fun k hk => (h.lt k hk).1
theorem below_grown {B : Nat} {a : World} {row : Option Nat} (h : Below B a w) (hg : w.grownBy w' row) (hr : ∀ k, row = some k → B ≤ k) (hB : B ≤ w.heap.size) : Below B a w' :=
  ⟨hg.os.trans h.os, hg.tape.trans h.tape, hg.output.trans h.output, Nat.le_trans h.size hg.size, fun k hk => (hg.block k (by omega) (fun e => by have := hr k e.symm; omega)).trans (h.block k hk)⟩
end

def sv (l : List (List UInt8)) : List Value := l.map fun x => .string (bs x)
theorem sv_snoc (l : List (List UInt8)) (x : List UInt8) : sv (l ++ [x]) = sv l ++ [.string (bs x)] := by simp [sv]
theorem infoS : (Tryz.prog.info? 9).map (fun i => (i.zero, i.size, i.bytes)) = some (some (.string ⟨#[]⟩), 1, 16) := by kernel_rfl
theorem cell_new (w : World) (u : Value) (t : TypeId) : ∀ (q : Nat) (x : Value), [u][q]? = some x → (w.alloc (.cells #[u] t)).cell? (Addr.add ⟨w.heap.size, 0, none⟩ q) = some x := by
  intro q x hq
  match q, hq with
  | 0, hq => simp at hq; subst hq; simp [Addr.add]
theorem one_cell (x : ByteArray) : ∀ u ∈ [Value.string x], u.oneCell' = true := by intro u hu; simp at hu; subst hu; rfl

theorem joinTail_len (sep : List UInt8) (M : Nat) : ∀ l : List (List UInt8), (∀ x ∈ l, x.length ≤ M) → (Lib.joinTail sep l).length ≤ l.length * (M + sep.length)
  | [], _ => by simp [Lib.joinTail]
  | x :: l, h => by
    have ih := joinTail_len sep M l (fun y hy => h y (List.mem_cons_of_mem _ hy))
    have hx := h x (by simp)
    have : Lib.joinTail sep (x :: l) = sep ++ x ++ Lib.joinTail sep l := by simp [Lib.joinTail]
    rw [this, List.length_append, List.length_append, List.length_cons, Nat.add_mul]
    omega
theorem join_len {sep : List UInt8} {M : Nat} {l : List (List UInt8)} (h : ∀ x ∈ l, x.length ≤ M) : (Lib.join l sep).length ≤ l.length * (M + sep.length) := by
  cases l with
  | nil => simp [Lib.join_nil]
  | cons x l =>
    rw [Lib.join_cons, List.length_append, List.length_cons, Nat.add_mul]
    have := joinTail_len sep M l (fun y hy => h y (List.mem_cons_of_mem _ hy))
    have hx := h x (by simp)
    omega
theorem mText_len {m : Mt} (h : mErr m = 0) : (mText m).length ≤ 210 := by
  obtain ⟨_, _, h3⟩ := mErr_fit h
  obtain ⟨on, nt, gl⟩ := m
  rw [mText_of]
  have h1 := mWordC_len on
  have h2 := qt_len gl
  simp only at h3
  rw [List.length_append, List.length_append]
  split <;> split <;> simp <;> omega
theorem aText_len {a : Ac} (h : aErr a = 0) : (aText a).length ≤ 210 := by
  obtain ⟨_, _, h3, h4⟩ := aErr_fit h
  obtain ⟨d, n, t⟩ := a
  unfold aText
  have h1 := aWord_len d
  have h2 := qt_len t
  simp only at h3 h4 ⊢
  rw [List.length_append]
  split
  · next h5 => have := digs_len (n := n) (by have := h4 h5; omega) (h4 h5).2; omega
  · split
    · omega
    · simp; omega
theorem rWords_len {r : Ru} (h : ruErr r = 0) : (rWords r).length ≤ 17 ∧ 0 < (rWords r).length ∧ ∀ x ∈ rWords r, x.length ≤ 210 := by
  obtain ⟨h1, h2, h3, h4⟩ := ruErr_fit h
  unfold rWords
  refine ⟨by simp; omega, by simp; omega, fun x hx => ?_⟩
  rw [List.mem_append, List.mem_append] at hx
  rcases hx with (hx | hx) | hx
  · obtain ⟨m, hm, rfl⟩ := List.mem_map.1 hx; exact mText_len (h3 m hm)
  · simp at hx; subst hx; simp
  · obtain ⟨a, ha, rfl⟩ := List.mem_map.1 hx; exact aText_len (h4 a ha)
theorem rText_len {r : Ru} (h : ruErr r = 0) : (rText r).length ≤ 3600 := by
  obtain ⟨h1, _, h2⟩ := rWords_len h
  have := join_len (sep := [32]) h2
  have h3 := Nat.mul_le_mul_right 211 h1
  unfold rText
  simp only [List.length_singleton] at this
  omega

set_option maxHeartbeats 4000000 in
set_option maxRecDepth 100000 in
theorem ruleText_any (r : Ru) (v1 v2 : Value) (w : World) (h : RuV w v1 v2 r) (hf : ruErr r = 0) (henv : Env w) :
    Calls Tryz.prog 22 #[.agg #[v1, v2]] w fun e w' => e = .returned (.string (bs (rText r))) ∧ Below w.heap.size w w' := by
  obtain ⟨i0, hi, hz0, hz1, hz2⟩ := info_parts infoS
  obtain ⟨hw1, hw2, hw3⟩ := rWords_len hf
  have HJL := Lib.hid (join_len (sep := [32]) hw3)
  obtain ⟨hl1, hl2, he1, he2⟩ := ruErr_fit hf
  obtain ⟨ms, ts⟩ := r
  obtain ⟨⟨p1, c1, rfl, hn1, hm1, hf1, h1⟩, ⟨p2, c2, rfl, hn2, hm2, hf2, h2⟩⟩ := h
  simp only at hn1 hn2 hf1 hf2 h1 h2 hl1 hl2 he1 he2 ⊢
  unfold maxLen at hm1 hm2
  obtain ⟨n1, e1⟩ : ∃ n, n = ms.length := ⟨_, rfl⟩
  obtain ⟨n2, e2⟩ : ∃ n, n = ts.length := ⟨_, rfl⟩
  rw [← e1] at hl1 hn1
  rw [← e2] at hl2 hn2
  rw [← e1, ← e2]
  have E1 := Lib.hid e1
  have E2 := Lib.hid e2
  have H1 := Lib.hid h1
  have H2 := Lib.hid h2
  have HW2 := Lib.hid hw1
  clear e1 e2 h1 h2 hw1 hw2 hw3
  go_enter Tryz.func22, Tryz.ntmps22
  go_wp2_with fail
  go_loopw [3, 11] (fun v3 v wr => ∃ k : Nat, v = .int .i64 k ∧ k ≤ n1 ∧ wr.ownsRow (w.heap.size + 1) 9 1 v3 k (sv ((ms.take k).map mText)) ∧ wr.cell? ⟨w.heap.size, 1, none⟩ = some (.slice p2 n2 c2) ∧ w.heap.size < wr.heap.size ∧ Below w.heap.size w wr) (fun _ v _ => n1 - (RowKit.intOf v).toNat)
  case atStart => exact ⟨0, rfl, Nat.zero_le _, World.ownsRow_nil _ _ _ _, by go_simp, by simp, (Below.refl _ _).alloc (Nat.le_refl _) _⟩
  case round =>
    obtain ⟨k, rfl, hk, hown, hbox, hsz, hbw⟩ := hrel
    by_cases hlt : k < n1
    · have hkl : k < ms.length := by rw [← E1.out]; exact hlt
      obtain ⟨b, off, rfl, hb, hc⟩ : ∃ b off, p1 = some ⟨b, off, none⟩ ∧ b < w.heap.size ∧ AtG encM 3 w b off ms := by
        rcases H1.out with h | h
        · rw [h] at hkl; simp at hkl
        · exact h
      obtain ⟨q0, q1, q2⟩ := hc.mat hkl
      have q0 := (hbw.cell (p := ⟨b, _, none⟩) hb).trans q0
      have q1 := (hbw.cell (p := ⟨b, _, none⟩) hb).trans q1
      have q2 := (hbw.cell (p := ⟨b, _, none⟩) hb).trans q2
      have HT := Lib.hid (show (ms.take (k + 1)).map mText = (ms.take k).map mText ++ [mText ms[k]] by rw [List.take_succ_eq_append_getElem hkl, List.map_append]; rfl)
      have hme := he1 _ (List.getElem_mem hkl)
      clear hc
      generalize ms[k] = m at *
      have HM := Lib.hid (fun (o : Obj) => matchText_any m henv.1.choose (wr.alloc o) hme (cell_keep henv.1.choose_spec (hbw.mono (Nat.le_refl _) |>.alloc hbw.size o)))
      unfold mVal at HM
      have hboxa := Lib.hid (fun o => show (wr.alloc o).cell? ⟨w.heap.size, 1, none⟩ = some (.slice p2 n2 c2) by rw [World.cell?_alloc_lt _ _ _ hsz]; exact hbox)
      have hszr : w.heap.size < wr.heap.size := hsz
      generalize mText m = T at *
      go_wp2_with (first
        | (go_at_call 41; refine (HM.out _).mono ?_; rintro e' w1 ⟨rfl, hb1⟩; have hown1 := own_keeps (hown.alloc _) hb1; have hown2 := hown1.alloc (.cells #[.string (bs T)] 9); have hs1 := hb1.size)
        | (at_builtin; refine wpList_append_own _ rfl _ _ 41 rfl (w.heap.size + 1) 9 i0 (.string ⟨#[]⟩) 1 16 Tryz.underlying41 hi hz0 hz1 hz2 rfl (by decide) _ _ _ rfl hown2 ⟨w1.heap.size, 0, none⟩ 1 1 [.string (bs T)] rfl rfl (cell_new w1 _ 9) (one_cell _) (by unfold maxLen; omega) (by omega) (by simp at hs1 ⊢; omega) ?_; intro v' w3 hown3 hgrow _))
      have hbX := below_grown (((hbw.alloc hbw.size _).trans (hb1.mono (by simp; omega))).alloc (by simp at hs1; omega) (.cells #[.string (bs T)] 9)) hgrow (fun k hk => by have := own_base hown2 k hk; omega) (by simp at hs1 ⊢; omega)
      refine ⟨⟨k + 1, rfl, hlt, by rw [HT.out, sv_snoc]; exact hown3, ?_, ?_, hbX⟩, by simp [RowKit.intOf]; omega⟩
      · have d1 : w1.cell? ⟨w.heap.size, 1, none⟩ = some (.slice p2 n2 c2) := (hb1.cell (p := ⟨w.heap.size, 1, none⟩) (by simp; omega)).trans (hboxa.out _)
        have d2 : (w1.alloc (.cells #[.string (bs T)] 9)).cell? ⟨w.heap.size, 1, none⟩ = some (.slice p2 n2 c2) := by rw [World.cell?_alloc_lt _ _ _ (show w.heap.size < w1.heap.size by simp at hs1; omega)]; exact d1
        exact hgrow.cell d2 (fun h => by have := own_base hown2 _ h.symm; simp at this; omega)
      · have := hgrow.size; simp at this hs1; omega
    · have HT := Lib.hid (show (ms.take k).map mText = ms.map mText by rw [List.take_of_length_le (by rw [← E1.out]; omega)])
      have hown2 := hown.alloc (.cells #[.string ⟨#[45, 62]⟩] 9)
      have hboxa : (wr.alloc (.cells #[.string ⟨#[45, 62]⟩] 9)).cell? ⟨w.heap.size, 1, none⟩ = some (.slice p2 n2 c2) := by rw [World.cell?_alloc_lt _ _ _ hsz]; exact hbox
      have HB := Lib.hid hboxa
      have HBW := Lib.hid hbw
      have hws := hbw.size
      clear hboxa
      go_wp2_with (at_builtin; refine wpList_append_own _ rfl _ _ 41 rfl (w.heap.size + 1) 9 i0 (.string ⟨#[]⟩) 1 16 Tryz.underlying41 hi hz0 hz1 hz2 rfl (by decide) _ _ _ rfl hown2 ⟨wr.heap.size, 0, none⟩ 1 1 [.string ⟨#[45, 62]⟩] rfl rfl (cell_new wr _ 9) (one_cell _) (by unfold maxLen; omega) (by omega) (by simp; omega) ?_; intro v' w3 hown3 hgrow _; have hbox3 := hgrow.cell HB.out (fun h => by have := own_base hown2 _ h.symm; simp at this; omega))
      have hbX := below_grown (HBW.out.alloc hws (.cells #[.string ⟨#[45, 62]⟩] 9)) hgrow (fun k hk => by have := own_base hown2 k hk; omega) (by simp; omega)
      have hownS : w3.ownsRow (w.heap.size + 1) 9 1 v' (k + 1) (sv (ms.map mText ++ [[45, 62]])) := by rw [sv_snoc, ← HT.out]; exact hown3
      have hszX : w.heap.size < w3.heap.size := by have := hgrow.size; simp at this; omega
      clear hown3 hgrow hown hown2 hbox
      have hkn : k = n1 := by omega
      subst hkn
      clear hbox3 hszX HB HBW hbw hsz hws HT hlt hk
      go_loopw [3, 27] (fun v3 v wr => ∃ i : Nat, v = .int .i64 i ∧ i ≤ n2 ∧ wr.ownsRow (w.heap.size + 1) 9 1 v3 (k + 1 + i) (sv (ms.map mText ++ [[45, 62]] ++ (ts.take i).map aText)) ∧ Below w.heap.size w wr) (fun _ v _ => n2 - (RowKit.intOf v).toNat)
      case atStart => exact ⟨0, rfl, Nat.zero_le _, by rw [List.take_zero, List.map_nil, List.append_nil]; exact hownS, hbX⟩
      clear hownS hbX
      obtain ⟨i, rfl, hi2, hown, hbw⟩ := hrel
      by_cases hlt : i < n2
      · have hil : i < ts.length := by rw [← E2.out]; exact hlt
        obtain ⟨b, off, rfl, hb, hc⟩ : ∃ b off, p2 = some ⟨b, off, none⟩ ∧ b < w.heap.size ∧ AtG encA 3 w b off ts := by
          rcases H2.out with h | h
          · rw [h] at hil; simp at hil
          · exact h
        obtain ⟨q0, q1, q2⟩ := hc.act hil
        have q0 := (hbw.cell (p := ⟨b, _, none⟩) hb).trans q0
        have q1 := (hbw.cell (p := ⟨b, _, none⟩) hb).trans q1
        have q2 := (hbw.cell (p := ⟨b, _, none⟩) hb).trans q2
        have HT := Lib.hid (show ms.map mText ++ [[45, 62]] ++ (ts.take (i + 1)).map aText = (ms.map mText ++ [[45, 62]] ++ (ts.take i).map aText) ++ [aText ts[i]] by
          rw [List.take_succ_eq_append_getElem hil, List.map_append, List.append_assoc]; simp)
        have hme := he2 _ (List.getElem_mem hil)
        clear hc
        generalize ts[i] = a at *
        have HM := Lib.hid (fun (o : Obj) => actText_any a (wr.alloc o) hme (henv.keep (hbw.alloc hbw.size o)))
        unfold aVal at HM
        have hws := hbw.size
        generalize aText a = T at *
        go_wp2_with (first
          | (go_at_call 42; refine (HM.out _).mono ?_; rintro e' w1 ⟨rfl, hb1⟩; have hown1 := own_keeps (hown.alloc _) hb1; have hown2 := hown1.alloc (.cells #[.string (bs T)] 9); have hs1 := hb1.size)
          | (at_builtin; refine wpList_append_own _ rfl _ _ 41 rfl (w.heap.size + 1) 9 i0 (.string ⟨#[]⟩) 1 16 Tryz.underlying41 hi hz0 hz1 hz2 rfl (by decide) _ _ _ rfl hown2 ⟨w1.heap.size, 0, none⟩ 1 1 [.string (bs T)] rfl rfl (cell_new w1 _ 9) (one_cell _) (by unfold maxLen; omega) (by omega) (by simp at hs1 ⊢; omega) ?_; intro v' w3 hown3 hgrow _))
        have hbX := below_grown (((hbw.alloc hbw.size _).trans (hb1.mono (by simp; omega))).alloc (by simp at hs1; omega) (.cells #[.string (bs T)] 9)) hgrow (fun k hk => by have := own_base hown2 k hk; omega) (by simp at hs1 ⊢; omega)
        exact ⟨⟨i + 1, rfl, hlt, by rw [HT.out, sv_snoc]; exact hown3, hbX⟩, by simp [RowKit.intOf]; omega⟩
      · have HR := Lib.hid (show ms.map mText ++ [[45, 62]] ++ (ts.take i).map aText = rWords ⟨ms, ts⟩ by rw [List.take_of_length_le (by rw [← E2.out]; omega)]; rfl)
        rw [HR.out] at hown
        have hlen : k + 1 + i = ((rWords ⟨ms, ts⟩).map bs).length := by rw [List.length_map, ← HR.out]; simp [← E1.out]; rw [← E2.out]; omega
        obtain ⟨g, cap, rfl, hcap, hg1, hg2, hg3⟩ := own_slice hown (by omega)
        have HJ := Lib.hid (Tryz.strings_Join g 0 cap ((rWords ⟨ms, ts⟩).map bs) ⟨#[32]⟩ wr (fun j x hj => by
          rw [Nat.zero_add]
          apply hg3
          rw [List.getElem?_map] at hj
          obtain ⟨y, hy, rfl⟩ := Option.map_eq_some_iff.1 hj
          unfold sv
          rw [List.getElem?_map, hy]; rfl) hg2 (by rw [← hlen]; omega) (by rw [← hlen]; exact hcap) (by
          have h1 := HJL.out
          have h2 := HW2.out
          rw [List.map_map, show (fun x : ByteArray => x.data.toList) ∘ bs = id from rfl, List.map_id]
          have h3 := Nat.mul_le_mul_right 211 h2
          simp only [List.length_singleton] at h1
          show (Lib.join _ [32]).length ≤ _
          omega))
        rw [List.map_map, show (fun x : ByteArray => x.data.toList) ∘ bs = id from rfl, List.map_id, ← hlen] at HJ
        rw [show (⟨(Lib.join (rWords ⟨ms, ts⟩) (⟨#[32]⟩ : ByteArray).data.toList).toArray⟩ : ByteArray) = bs (rText ⟨ms, ts⟩) from rfl] at HJ
        clear hlen hown hg3
        go_wp2_with (go_at_call 43; refine HJ.out.mono ?_; rintro e' w1 ⟨rfl, hb1⟩)
        go_ret
        exact ⟨rfl, below_keep hbw (Nat.le_refl _) hb1⟩
end Go.Proofs.YtooilpblbkgloaaGreatDoor

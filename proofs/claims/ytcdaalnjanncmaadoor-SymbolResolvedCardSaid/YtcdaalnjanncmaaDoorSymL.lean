/- DeleteFunc at the closure of checkCalls: the calls that end ahead of an offset are taken out of a row of the call's own. -/
import Derived.Test.YtcdaalnjanncmaaDoorCallPlain
namespace Go.Proofs.YtcdaalnjanncmaaDoor
open Go.RowKit Go.Deep

set_option maxHeartbeats 1000000 in
set_option maxRecDepth 100000 in
theorem index50_none (fv : Value) (w : World) :
    Calls Tryd.prog 117 #[.slice none 0 0, fv] w fun e w' => e = .returned (.int .i64 (-1)) ∧ Below w.heap.size w w' := by
  go_enter Tryd.func117, Tryd.ntmps117
  go_wp2_with fail
  go_loop [8] (fun v => v = .int .i64 0) (fun _ => 0)
  case atStart => rfl
  case round =>
    subst hrel
    go_wp2_with fail
    go_ret
    exact ⟨rfl, Below.refl _ _⟩

/-! ### The row as a row of the call's own -/
theorem rowIs_of {w : World} {g N : Nat} {cur : Array Value} (h : w.heap[g]? = some (.cells cur 84 (0, 0))) (hs : cur.size = N) : w.rowIs g 84 N (fun i => cur[i]?.getD default) :=
  ⟨cur, h, hs, fun i hi => by simp only; rw [Array.getElem?_eq_getElem (by omega)]; rfl⟩
theorem own_fives {cur : Array Value} {l : List Cl} (h : cur.toList.take (l.length * 5) = cellsG encC l) : fives (fun i => cur[i]?.getD default) l 0 l.length := by
  intro q x _ hq hx
  have key : ∀ j, j < 5 → ((cur[q * 5 + j]?).getD default) = ((encC x)[j]?).getD default := by
    intro j hj
    have h1 := cellsC_at hx hj
    rw [← h, List.getElem?_take_of_lt (by omega)] at h1
    rw [← h1]; simp
  exact ⟨key 0 (by omega), key 1 (by omega), key 2 (by omega), key 3 (by omega), key 4 (by omega)⟩
theorem five_at {F : Nat → Value} {m : Nat} {x : Cl} (h : five F m x) {j : Nat} (hj : j < 5) : some (F (m + j)) = (encC x)[j]? := by
  obtain ⟨h0, h1, h2, h3, h4⟩ := h
  match j, hj with
  | 0, _ => rw [Nat.add_zero, h0]; rfl
  | 1, _ => rw [h1]; rfl
  | 2, _ => rw [h2]; rfl
  | 3, _ => rw [h3]; rfl
  | 4, _ => rw [h4]; rfl
theorem fives_own {w : World} {base g cap : Nat} {F : Nat → Value} {L : List Cl} (h : w.rowIs g 84 (cap * 5) F) (hF : fives F L 0 L.length) (hb : base ≤ g) (hl : L.length ≤ cap) (hc : cap ≤ maxLen) :
    w.ownsRow base 84 5 (.slice (some ⟨g, 0, none⟩) L.length cap) L.length (cellsG encC L) := by
  obtain ⟨c, hg, hs, hi⟩ := h
  refine ⟨cellsC_len L, .inr ⟨g, cap, c, rfl, hb, hg, hl, hc, hs, ?_⟩⟩
  apply List.ext_getElem?
  intro m
  by_cases hm : m < L.length * 5
  · rw [List.getElem?_take_of_lt hm]
    have hq : m / 5 < L.length := by omega
    have e : m = m / 5 * 5 + m % 5 := by omega
    have hr : m % 5 < 5 := Nat.mod_lt _ (by omega)
    generalize m / 5 = q at *
    generalize m % 5 = r at *
    subst e
    rw [cellsC_at (List.getElem?_eq_getElem hq) hr, ← five_at (hF q _ (Nat.zero_le _) hq (List.getElem?_eq_getElem hq)) hr]
    have : L.length * 5 ≤ cap * 5 := Nat.mul_le_mul_right _ hl
    have := hi (q * 5 + r) (by omega)
    simpa using this
  · rw [List.getElem?_eq_none (by rw [List.length_take]; omega), List.getElem?_eq_none (by rw [cellsC_len]; omega)]

/-! ### The fives behind a step -/
theorem fives_take {F : Nat → Value} {l : List Cl} {n i : Nat} (h : fives F l 0 n) (hi : i ≤ n) : fives F (l.take i) 0 i := by
  intro q x h0 hq hx
  rw [List.getElem?_take_of_lt hq] at hx
  exact h q x h0 (by omega) hx
theorem fives_put {F : Nat → Value} {l L : List Cl} {j n : Nat} {x : Cl} (hkj : L.length < j) (hA : fives F L 0 L.length) (hB : fives F l j n) :
    fives (fun m => if L.length * 5 ≤ m ∧ m < L.length * 5 + (encC x).length then (encC x)[m - L.length * 5]?.getD default else F m) (L ++ [x]) 0 (L.length + 1) ∧
    fives (fun m => if L.length * 5 ≤ m ∧ m < L.length * 5 + (encC x).length then (encC x)[m - L.length * 5]?.getD default else F m) l (j + 1) n := by
  have hlen : (encC x).length = 5 := rfl
  constructor
  · intro q y _ hq hy
    by_cases hqk : q < L.length
    · rw [List.getElem?_append_left hqk] at hy
      exact five_set (hA q y (Nat.zero_le _) hqk hy) (.inl (by omega))
    · obtain rfl : q = L.length := by omega
      rw [List.getElem?_append_right (Nat.le_refl _), Nat.sub_self] at hy
      obtain rfl : x = y := by simpa using hy
      exact five_new F _ x
  · intro q y hq0 hq hy
    exact five_set (hB q y (by omega) hq hy) (.inr (by omega))
theorem fives_cut {F : Nat → Value} {L : List Cl} {vs : List Value} (hA : fives F L 0 L.length) :
    fives (fun m => if L.length * 5 ≤ m ∧ m < L.length * 5 + vs.length then vs[m - L.length * 5]?.getD default else F m) L 0 L.length := by
  intro q y _ hq hy
  exact five_set (hA q y (Nat.zero_le _) hq hy) (.inl (by omega))
theorem left_all {ca : Int} {l : List Cl} (h : ∀ y ∈ l, ¬ y.b ≤ ca) : left ca l = l := by
  unfold left
  rw [List.filter_eq_self]
  intro y hy
  have := h y hy
  simpa using this

theorem wpList_clear55 {ops : Array Oper} {rest : List Oper} {o : Oper} {a : Act} {w : World} {Q : Exit → Act → World → Prop} (hgd : o.guard = none) (s : Operand)
    (ho : o.op = .call { callee := .builtin .clear, args := #[s], argTypes := #[40] }) (b off n c : Nat) (hs : a.eval s = .slice (some ⟨b, off, none⟩) n c) (hn : 0 < n)
    (hc : ∀ j, j < n * 5 → (w.cell? ⟨b, off + j, none⟩).isSome = true) (hf : ∀ j, j < n * 5 → w.frozen? ⟨b, off + j, none⟩ = false)
    (h : ∀ vs : List Value, vs.length = n * 5 → wpList Tryd.prog ops Q rest (a.put o.dst (.tuple #[])) (w.setCells b off vs)) :
    wpList Tryd.prog ops Q (o :: rest) a w := by
  refine wpList_plain hgd fun K hK => ?_
  obtain ⟨vs, hv, hr⟩ := clear55 w b off n hn hc hf
  unfold Oper.wp execOp
  simp only [ho, resolve, invoke, builtin, Sem.run_bind, Sem.run_pure, Result.andThen_ok, List.map_toArray, List.map_cons, List.map_nil, hs, hr]
  exact hK _ _ (h vs hv)

set_option maxHeartbeats 2000000 in
set_option maxRecDepth 100000 in
theorem delete31_some (g cap n pc : Nat) (ca : Int) (F : Nat → Value) (l : List Cl) (w : World) (hl : l.length = n) (hn : n ≤ 1000) (hcap : n ≤ cap) (hrow : w.rowIs g 84 (cap * 5) F) (hF : fives F l 0 n) (hcell : w.cell? ⟨pc, 1, none⟩ = some (.int .i64 ca)) (hne : pc ≠ g) :
    Calls Tryd.prog 88 #[.slice (some ⟨g, 0, none⟩) n cap, .func (.func 89) #[] #[.pointer (some ⟨pc, 0, none⟩)]] w fun e w' =>
      e = .returned (.slice (some ⟨g, 0, none⟩) (left ca l).length cap) ∧ (∃ F', w'.rowIs g 84 (cap * 5) F' ∧ fives F' (left ca l) 0 (left ca l).length) ∧ w.grownBy w' (some g) := by
  have hpc := World.block_lt_of_cell? _ _ hcell
  simp only at hpc
  have HI := Lib.hid (fun (W : World) (hW : Below w.heap.size w W) => index50_some g cap n (cap * 5) pc ca F l W hl hn (by omega) (hrow.of_block (hW.block g hrow.lt)) hF ((hW.cell (p := ⟨pc, 1, none⟩) hpc).trans hcell))
  have hg := hrow.lt
  rcases idxR_cases 0 ca l with ⟨h1, h2⟩ | ⟨i, x0, h1, h2, h3, h4⟩
  · have HL := Lib.hid (left_all h2)
    rw [h1] at HI
    clear h1 h2
    go_enter Tryd.func88, Tryd.ntmps88
    go_wp2_with (go_at_call 117; refine (HI.out _ (Below.refl _ _)).mono ?_; rintro e w1 ⟨rfl, hb1⟩)
    go_ret
    rw [HL.out, hl]
    exact ⟨rfl, ⟨F, hrow.of_block (hb1.block g hg), hF⟩, grownBy_of_below hb1 _⟩
  · rw [h3] at HI
    obtain ⟨hil, hix⟩ := List.getElem?_eq_some_iff.1 h1
    have hLi := left_all h4
    have hLs := left_snoc (ca := ca) h1
    rw [if_neg (by omega), hLi, List.append_nil] at hLs
    have HLS := Lib.hid hLs
    have hin : i < n := by omega
    have hi1 : ((i : Int) == -1) = false := by rw [beq_eq_false_iff_ne]; omega
    clear h1 h2 h3 h4 hLi hLs hix
    simp only [Nat.zero_add] at HI
    go_enter Tryd.func88, Tryd.ntmps88
    go_wp2_with (go_at_call 117; refine (HI.out _ (Below.refl _ _)).mono ?_; rintro e w1 ⟨rfl, hb1⟩)
    clear hi1
    go_loopw [5, 6] (fun v5 v wr => ∃ (k j : Nat) (F' : Nat → Value), k < j ∧ j ≤ n ∧ v5 = .int .i64 k ∧ v = .int .i64 j ∧ k = (left ca (l.take j)).length ∧ wr.rowIs g 84 (cap * 5) F' ∧ fives F' (left ca (l.take j)) 0 k ∧ fives F' l j n ∧ w.grownBy wr (some g)) (fun _ v _ => n - (RowKit.intOf v).toNat)
    case atStart =>
      have hlen : (left ca (l.take (i + 1))).length = i := by rw [HLS.out, List.length_take]; omega
      refine ⟨i, i + 1, F, by omega, by omega, rfl, by go_num, hlen.symm, hrow.of_block (hb1.block g hg), ?_, ?_, grownBy_of_below hb1 _⟩
      · rw [HLS.out]; exact fives_take hF (by omega)
      · intro q x hq0 hq hx; exact hF q x (by omega) hq hx
    case round =>
      obtain ⟨k, j, F', hkj, hj, rfl, rfl, hk, hrw, hA, hB, hgw⟩ := hrel
      have HK := Lib.hid hk
      clear hk
      have hgr := hrw.lt
      have hwr := hgw.size
      have hpcr : pc < wr.heap.size := by omega
      have hcr := hgw.cell hcell (by intro h; exact hne (Option.some.inj h))
      by_cases hjn : j < n
      · have hjl : j < l.length := by omega
        have hx := List.getElem?_eq_getElem hjl
        have HSN := Lib.hid (left_snoc (ca := ca) hx)
        obtain ⟨f0, f1, f2, f3, f4⟩ := hB j _ (Nat.le_refl _) hjn hx
        have hjc : j * 5 + 4 < cap * 5 := by omega
        have c0 := hrw.cell (i := j * 5) (by omega)
        have c1 := hrw.cell (i := j * 5 + 1) (by omega)
        have c2 := hrw.cell (i := j * 5 + 2) (by omega)
        have c3 := hrw.cell (i := j * 5 + 3) (by omega)
        have c4 := hrw.cell (i := j * 5 + 4) (by omega)
        rw [f0] at c0
        rw [f1] at c1
        rw [f2] at c2
        rw [f3] at c3
        rw [f4] at c4
        have HX := Lib.hid hx
        clear f0 f1 f2 f3 f4 hx
        generalize l[j] = x at *
        have HC := Lib.hid (fun (W : World) (hW : Below wr.heap.size wr W) => closure32 x pc ca W ((hW.cell (p := ⟨pc, 1, none⟩) hpcr).trans hcr))
        have hA1 : Below wr.heap.size wr (wr.alloc (.cells #[.string x.n, .int .i64 x.a, .int .i64 x.b, .int .i64 x.f, .int .i64 x.l] 84)) := (Below.refl _ _).alloc (Nat.le_refl _) _
        by_cases hc : x.b ≤ ca
        · rw [decide_eq_true hc] at HC
          rw [if_neg (by omega), List.append_nil] at HSN
          clear hc
          obtain ⟨xn, xa, xb, xf, xl⟩ := x
          simp only at c0 c1 c2 c3 c4 HC hA1
          go_wp2_with (go_at_call 89; refine (HC.out _ hA1).mono ?_; rintro e' w2 ⟨rfl, hb2⟩)
          have hb2 := hA1.trans (hb2.mono hA1.size)
          exact ⟨⟨k, j + 1, F', by omega, by omega, rfl, by go_num, by rw [HSN.out]; exact HK.out, hrw.of_block (hb2.block g hgr), by rw [HSN.out]; exact hA, fun q y h0 h1 h2 => hB q y (by omega) h1 h2, hgw.trans (grownBy_of_below hb2 _)⟩, by simp [RowKit.intOf]; omega⟩
        · rw [decide_eq_false hc] at HC
          rw [if_pos (by omega)] at HSN
          clear hc
          have HP := Lib.hid (fives_put (F := F') (x := x) (n := n) (l := l) (L := left ca (l.take j)) (j := j) (by rw [← HK.out]; exact hkj) (by rw [← HK.out]; exact hA) hB)
          rw [← HK.out] at HP
          have hkc : k * 5 + 4 < cap * 5 := by omega
          obtain ⟨xn, xa, xb, xf, xl⟩ := x
          simp only at c0 c1 c2 c3 c4 HC hA1
          go_wp2_with (go_at_call 89; refine (HC.out _ hA1).mono ?_; rintro e' w2 ⟨rfl, hb2⟩; have d0 : w2.cell? ⟨wr.heap.size, 0, none⟩ = some (.string xn) := (hb2.cell (p := ⟨wr.heap.size, 0, none⟩) (by simp)).trans (by go_simp); have d1 : w2.cell? ⟨wr.heap.size, 1, none⟩ = some (.int .i64 xa) := (hb2.cell (p := ⟨wr.heap.size, 1, none⟩) (by simp)).trans (by go_simp); have d2 : w2.cell? ⟨wr.heap.size, 2, none⟩ = some (.int .i64 xb) := (hb2.cell (p := ⟨wr.heap.size, 2, none⟩) (by simp)).trans (by go_simp); have d3 : w2.cell? ⟨wr.heap.size, 3, none⟩ = some (.int .i64 xf) := (hb2.cell (p := ⟨wr.heap.size, 3, none⟩) (by simp)).trans (by go_simp); have d4 : w2.cell? ⟨wr.heap.size, 4, none⟩ = some (.int .i64 xl) := (hb2.cell (p := ⟨wr.heap.size, 4, none⟩) (by simp)).trans (by go_simp); have hB2 := hA1.trans (hb2.mono hA1.size); have hrw2 := hrw.of_block (hB2.block g hgr); have e0 := hrw2.cell (i := k * 5) (by omega); have e1 := hrw2.cell (i := k * 5 + 1) (by omega); have e2 := hrw2.cell (i := k * 5 + 2) (by omega); have e3 := hrw2.cell (i := k * 5 + 3) (by omega); have e4 := hrw2.cell (i := k * 5 + 4) (by omega); have z0 := hrw2.frozen (k * 5); have z1 := hrw2.frozen (k * 5 + 1); have z2 := hrw2.frozen (k * 5 + 2); have z3 := hrw2.frozen (k * 5 + 3); have z4 := hrw2.frozen (k * 5 + 4))
          have hs : w2.setCells g (k * 5) (encC ⟨xn, xa, xb, xf, xl⟩) = ((((w2.setCell ⟨g, k * 5, none⟩ (.string xn)).setCell ⟨g, k * 5 + 1, none⟩ (.int .i64 xa)).setCell ⟨g, k * 5 + 2, none⟩ (.int .i64 xb)).setCell ⟨g, k * 5 + 3, none⟩ (.int .i64 xf)).setCell ⟨g, k * 5 + 4, none⟩ (.int .i64 xl) := rfl
          rw [← hs]
          refine ⟨⟨k + 1, j + 1, _, by omega, by omega, by go_num, by go_num, ?_, rowIs_setCells _ _ _ _ hrw2, ?_, HP.out.2, (hgw.trans (grownBy_of_below hB2 _)).trans (grownBy_setCells _ _ _ _)⟩, by simp [RowKit.intOf]; omega⟩
          · rw [HSN.out, List.length_append, ← HK.out]; rfl
          · rw [HSN.out]; exact HP.out.1
      · obtain rfl : j = n := by omega
        have HT := Lib.hid (show l.take j = l from List.take_of_length_le (by omega))
        rw [HT.out] at HK hA
        obtain ⟨vs, hvs, hrun⟩ := clear55 wr g (k * 5) (j - k) (by omega) (fun q hq => by rw [hrw.cell (by omega)]; rfl) (fun q _ => hrw.frozen _)
        have hrun1 := hrun (cap - k) 0
        clear hrun
        go_wp2_with fail
        go_ret
        refine ⟨by rw [← HK.out]; rfl, ⟨_, rowIs_setCells vs _ _ _ hrw, ?_⟩, hgw.trans (grownBy_setCells _ _ _ _)⟩
        have hfc := fives_cut (F := F') (vs := vs) (L := left ca l) (by rw [← HK.out]; exact hA)
        rw [← HK.out] at hfc ⊢
        exact hfc

set_option maxHeartbeats 1000000 in
set_option maxRecDepth 100000 in
theorem delete31_none (fv : Value) (w : World) :
    Calls Tryd.prog 88 #[.slice none 0 0, fv] w fun e w' => e = .returned (.slice none 0 0) ∧ Below w.heap.size w w' := by
  go_enter Tryd.func88, Tryd.ntmps88
  go_wp2_with (go_at_call 117; refine (index50_none _ _).mono ?_; rintro e w1 ⟨rfl, hb1⟩)
  go_ret
  exact ⟨rfl, hb1⟩

/-- DeleteFunc at a row of the call's own. -/
theorem delete31_own (base pc : Nat) (ca : Int) (v : Value) (l : List Cl) (w : World) (hl : l.length ≤ 1000) (hown : w.ownsRow base 84 5 v l.length (cellsG encC l)) (hcell : w.cell? ⟨pc, 1, none⟩ = some (.int .i64 ca)) (hne : v.ownBlock ≠ some pc) :
    Calls Tryd.prog 88 #[v, .func (.func 89) #[] #[.pointer (some ⟨pc, 0, none⟩)]] w fun e w' => ∃ v', e = .returned v' ∧ w'.ownsRow base 84 5 v' (left ca l).length (cellsG encC (left ca l)) ∧ w.grownBy w' v.ownBlock ∧ v'.ownBlock = v.ownBlock := by
  obtain ⟨_, ⟨rfl, hn⟩ | ⟨g, cap, cur, rfl, hbg, hg, hlc, hcm, hcs, htk⟩⟩ := hown
  · have hl0 := List.length_eq_zero_iff.1 hn
    subst hl0
    refine (delete31_none _ w).mono ?_
    rintro e w1 ⟨rfl, hb1⟩
    exact ⟨_, rfl, ⟨rfl, .inl ⟨rfl, rfl⟩⟩, grownBy_of_below hb1 _, rfl⟩
  · refine (delete31_some g cap l.length pc ca _ l w rfl hl hlc (rowIs_of hg hcs) (own_fives htk) hcell (fun h => hne (by rw [h]; rfl))).mono ?_
    rintro e w1 ⟨rfl, ⟨F', hr, hF⟩, hgw⟩
    exact ⟨_, rfl, fives_own hr hF hbg (Nat.le_trans (List.length_filter_le _ _) hlc) hcm, hgw, rfl⟩
end Go.Proofs.YtcdaalnjanncmaaDoor

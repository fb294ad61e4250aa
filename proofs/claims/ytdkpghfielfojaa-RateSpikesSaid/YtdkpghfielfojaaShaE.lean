/- What Shares answers. -/
import Derived.Test.YtdkpghfielfojaaShaD
import Derived.Deep.RegionLaw
import Derived.Laws.AppendOwn
import Derived.OwnWalk
namespace Go.Proofs.Ytdkpghfielfojaa
open Go.RowKit Go.Lib

theorem info33 : (Try.prog.info? 33).map (fun i => (i.zero, i.size, i.bytes)) = some (some (.agg #[.string ⟨#[]⟩, .int .i64 0]), 2, 24) := by kernel_rfl
/-- The cells of the rates of shares under a line. -/
def cellsR (line : Int) : List Sh → List Value
  | [] => []
  | x :: l => .string x.key :: .int .i64 (keepV x.came line) :: cellsR line l
theorem cellsR_len (line : Int) : ∀ l : List Sh, (cellsR line l).length = l.length * 2
  | [] => rfl
  | x :: l => by simp only [cellsR, List.length_cons, cellsR_len line l]; omega
theorem cellsR_append (line : Int) : ∀ a b : List Sh, cellsR line (a ++ b) = cellsR line a ++ cellsR line b
  | [], _ => rfl
  | x :: a, b => by simp only [List.cons_append, cellsR, cellsR_append line a b]
theorem cellsR_take (line : Int) (l : List Sh) (k : Nat) (hk : k < l.length) : cellsR line (l.take (k + 1)) = cellsR line (l.take k) ++ [.string l[k].key, .int .i64 (keepV l[k].came line)] := by
  rw [List.take_succ_eq_append_getElem hk, cellsR_append]; rfl
theorem cells2_new (w : World) (a : ByteArray) (c : Int) (t : TypeId) : ∀ j u, [Value.string a, .int .i64 c][j]? = some u → (w.alloc (.cells #[.string a, .int .i64 c] t)).cell? ((⟨w.heap.size, 0, none⟩ : Addr).add j) = some u := by
  intro j u hj
  match j, hj with
  | 0, hj => simp at hj; subst hj; simp [Addr.add]
  | 1, hj => simp at hj; subst hj; simp [Addr.add]
theorem cells2_one (a : ByteArray) (c : Int) : ∀ u ∈ [Value.string a, .int .i64 c], u.oneCell' = true := by
  intro u hx
  simp only [List.mem_cons, List.not_mem_nil, or_false] at hx
  rcases hx with rfl | rfl <;> rfl
theorem step_append_own {P : Program} {ops : Array Oper} {o : Oper} {a : Act} {w : World} {K : Act → World → Prop} {Q : Exit → Act → World → Prop} {E : Prop} (hgd : o.guard = none) (s x : Operand) (t : TypeId)
    (ho : o.op = .call { callee := .builtin .append, args := #[s, x], argTypes := #[t, t] })
    (base : Nat) (e : TypeId) (i : TypeInfo) (z : Value) (size bytes : Nat) (ht : P.underlying t = some (.slice e)) (hi : P.info? e = some i) (hz : i.zero = some z)
    (hsize : i.size = size) (hby : i.bytes = bytes) (hzs : z.cells.size = size) (hsz : 0 < size)
    (v : Value) (n : Nat) (xs : List Value) (hs : a.eval s = v) (hown : w.ownsRow base e size v n xs)
    (ad : Addr) (m c : Nat) (news : List Value) (hx : a.eval x = .slice (some ad) m c) (hl : news.length = m * size) (hnews : ∀ j u, news[j]? = some u → w.cell? (ad.add j) = some u) (h1 : ∀ u ∈ news, u.oneCell' = true)
    (h63 : n + m ≤ maxLen) (hbytes : (n + m) * bytes ≤ 140737488355328) (hbase : base ≤ w.heap.size)
    (h : ∀ v' w', w'.ownsRow base e size v' (n + m) (xs ++ news) → w.grownBy w' v.ownBlock → K (a.put o.dst v') w') :
    if Region.wanted o (yielded ops a.tmps) = true then Oper.wp P o a w K Q else E := by
  rw [if_pos (by simp [Region.wanted, hgd])]
  exact wp_append_own w s x t ho base e i z size bytes ht hi hz hsize hby hzs hsz v n xs hs hown ad m c news hx hl hnews h1 h63 hbytes hbase fun v' w' h2 h3 _ => h v' w' h2 h3
theorem own_drew {w : World} {base : Nat} {e : TypeId} {size : Nat} {v : Value} {n : Nat} {xs : List Value} (h : w.ownsRow base e size v n xs) : w.drew.ownsRow base e size v n xs := h
theorem below_grown {B : Nat} {a w w' : World} {row : Option Nat} (h : Below B a w) (hg : w.grownBy w' row) (hrow : ∀ j, row = some j → B ≤ j) (hB : B ≤ w.heap.size) : Below B a w' := h.grown hg hB hrow
theorem info_parts {P : Program} {e : TypeId} {z : Value} {s b : Nat} (h : (P.info? e).map (fun i => (i.zero, i.size, i.bytes)) = some (some z, s, b)) : ∃ i, P.info? e = some i ∧ i.zero = some z ∧ i.size = s ∧ i.bytes = b := by
  cases hi : P.info? e with
  | none => rw [hi] at h; simp at h
  | some i =>
    rw [hi] at h
    simp only [Option.map_some, Option.some.injEq, Prod.mk.injEq] at h
    exact ⟨i, rfl, h.1, h.2.1, h.2.2⟩

/-- The error of Shares. -/
def shErr (l : List Sh) (most : Int) : Int := if amtsErr 1000000000 l = 0 then (if wi most 0 1000000000 = true then 0 else 2) else amtsErr 1000000000 l

set_option maxHeartbeats 2000000 in
set_option maxRecDepth 100000 in
theorem Shares_bad (v : Value) (l : List Sh) (most : Int) (w : World) (hv : ShV w v l) (he : shErr l most ≠ 0) : Calls Try.prog 7 #[v, .int .i64 most] w
    fun e w' => e = .returned (.tuple #[.slice none 0 0, .int .i64 (shErr l most)]) ∧ Below w.heap.size w w' := by
  have hv0 := hv
  obtain ⟨p, cap, rfl, -⟩ := hv
  have hB := bx1_new w (.slice p l.length cap) 22
  have hbA : Below w.heap.size w (w.alloc (.cells #[.slice p l.length cap] 22)) := (Below.refl _ _).alloc (Nat.le_refl _) _
  have HA := Lib.hid (amounts_any w.heap.size (.slice p l.length cap) l _ hB (hv0.below hbA))
  have HB := Lib.hid hbA
  have HW := Lib.hid (fun W => within_any most 0 1000000000 W)
  clear hB hbA hv0
  unfold shErr at he ⊢
  generalize wi most 0 1000000000 = m at *
  by_cases ha : amtsErr 1000000000 l = 0
  · rw [if_pos ha] at he ⊢
    rw [ha] at HA
    cases m
    · rw [if_neg (by decide)] at he ⊢
      generalize l.length = n at *
      go_enter Try.func7, Try.ntmps7
      go_wp2_with (first
        | (go_at_call 20; (with_reducible refine HA.out.mono ?_); rintro e w1 ⟨rfl, hb1⟩; have hbw1 := below_call HB.out HB.out.size hb1)
        | (go_at_call 22; (with_reducible refine (HW.out _).mono ?_); rintro e w2 ⟨rfl, rfl⟩))
      go_ret2
      exact ⟨rfl, hbw1⟩
    · exact absurd rfl he
  · rw [if_neg ha] at he ⊢
    have hq : (amtsErr 1000000000 l == 0) = false := by rw [beq_eq_false_iff_ne]; exact ha
    generalize amtsErr 1000000000 l = g at *
    generalize l.length = n at *
    clear he
    go_enter Try.func7, Try.ntmps7
    go_wp2_with (go_at_call 20; (with_reducible refine HA.out.mono ?_); rintro e w1 ⟨rfl, hb1⟩; have hbw1 := below_call HB.out HB.out.size hb1)
    go_ret2
    exact ⟨rfl, hbw1⟩

set_option maxHeartbeats 4000000 in
set_option maxRecDepth 100000 in
theorem Shares_good (v : Value) (l : List Sh) (most : Int) (w : World) (hv : ShV w v l) (he : shErr l most = 0) : Calls Try.prog 7 #[v, .int .i64 most] w
    fun e w' => (∃ (v' : Value) (r : Nat), e = .returned (.tuple #[v', .int .i64 0]) ∧ w'.ownsRow (w.heap.size + 1) 33 2 v' l.length (cellsR r l) ∧ (r : Int) ≤ gst l ∧ sty r l ≤ most ∧ ((r : Int) = gst l ∨ most < sty ((r : Int) + 1) l)) ∧ Below w.heap.size w w' := by
  obtain ⟨i0, hi0, hz0, hz1, hz2⟩ := info_parts info33
  have hz5 : (Value.agg #[.string ⟨#[]⟩, .int .i64 0]).cells.size = 2 := rfl
  have hv0 := hv
  obtain ⟨p, cap, rfl, h1, h2, h3, h4⟩ := hv
  have hB := bx1_new w (.slice p l.length cap) 22
  have hbA : Below w.heap.size w (w.alloc (.cells #[.slice p l.length cap] 22)) := (Below.refl _ _).alloc (Nat.le_refl _) _
  have HA := Lib.hid (amounts_any w.heap.size (.slice p l.length cap) l _ hB (hv0.below hbA))
  have HB := Lib.hid (And.intro hB hbA)
  have HW := Lib.hid (fun W => within_any most 0 1000000000 W)
  have ha : amtsErr 1000000000 l = 0 := by
    unfold shErr at he
    split at he
    · assumption
    · rename_i h; exact absurd he h
  have hm : wi most 0 1000000000 = true := by
    unfold shErr at he
    rw [if_pos ha] at he
    split at he
    · assumption
    · cases he
  have hmost : 0 ≤ most := by unfold wi at hm; exact (of_decide_eq_true hm).1
  have hg := amts_ok ha
  rw [ha] at HA
  rw [hm] at HW
  have HL := Lib.hid (fun (W : World) (hW : Below w.heap.size w W) => lineOf_any (.slice p l.length cap) l most W (hv0.below hW) hg hmost)
  have HG := Lib.hid hg
  have hgl := gst_le l hg.2
  obtain ⟨n, hn⟩ : ∃ n, n = l.length := ⟨_, rfl⟩
  have HN := Lib.hid hn
  have hn200 : n ≤ 200 := by have := hg.1; omega
  rw [← hn] at h1 HA HB HL ⊢
  clear hB hbA hv0 he ha hm hmost hg hn h3
  go_enter Try.func7, Try.ntmps7
  go_wp2_with (first
    | (go_at_call 20; (with_reducible refine HA.out.mono ?_); rintro e w1 ⟨rfl, hb1⟩; have hbw1 := below_call HB.out.2 HB.out.2.size hb1; have hc1 := HB.out.1.below hb1; unfold Bx1 at hc1)
    | (go_at_call 22; (with_reducible refine (HW.out _).mono ?_); rintro e w2 ⟨rfl, rfl⟩)
    | (go_at_call 23; (with_reducible refine (HL.out _ hbw1).mono ?_); rintro e w3 ⟨⟨r, rfl, hr1, hr2, hr3⟩, hb3⟩; have hbw3 := below_call hbw1 hbw1.size hb3; have hc3 := cell_keep hc1 hb3))
  clear hc1 hc3
  have hrn : r ≤ 1000000000 := by omega
  go_loopw [8, 26] (fun v8 v26 wr => ∃ (k : Nat) (va : Value), k ≤ n ∧ va = v8 ∧ v26 = .int .i64 k ∧ wr.ownsRow (w.heap.size + 1) 33 2 va k (cellsR r (l.take k)) ∧ Below w.heap.size w wr ∧ w.heap.size + 1 ≤ wr.heap.size) (fun _ v26 _ => n - (RowKit.intOf v26).toNat)
  case atStart => exact ⟨0, _, Nat.zero_le _, rfl, rfl, ⟨rfl, .inl ⟨rfl, rfl⟩⟩, hbw3, by have := hb3.size; have := hb1.size; simp at *; omega⟩
  case round =>
    obtain ⟨k, va, hk, rfl, rfl, hown, hbw, hsz⟩ := hrel
    by_cases hlt : k < n
    · have hkl : k < l.length := by have := HN.out; omega
      rcases h4 with h4 | ⟨b, off, rfl, hb, hat⟩
      · rw [h4] at hkl; simp at hkl
      obtain ⟨c0, c1⟩ := (hat.below hb hbw) k hkl
      have hx := HG.out.2 l[k] (List.getElem_mem hkl)
      have HT := Lib.hid (cellsR_take r l k hkl)
      generalize l[k] = x at *
      obtain ⟨x0, x1⟩ := x
      simp only at c0 c1 hx HT
      have HK := Lib.hid (fun W => keep_any x1 r W (by omega) (by omega) hx.2)
      clear hat hkl hx
      generalize keepV x1 r = kp at *
      have hbwA := hbw.alloc hbw.size (.cells #[.string x0, .int .i64 x1] 55)
      have hownY := (own_drew (hown.alloc (.cells #[.string x0, .int .i64 x1] 55))).alloc (.cells #[.string x0, .int .i64 kp] 33)
      have hsrc := cells2_new ((wr.alloc (.cells #[.string x0, .int .i64 x1] 55)).drew) x0 kp 33
      have hone := cells2_one x0 kp
      have hbwW := (Below.drew hbwA).alloc (Below.drew hbwA).size (.cells #[.string x0, .int .i64 kp] 33)
      have q1 : k + 1 ≤ maxLen := by unfold maxLen; omega
      have q2 : (k + 1) * 24 ≤ 140737488355328 := by omega
      have q3 : w.heap.size + 1 ≤ (((wr.alloc (.cells #[.string x0, .int .i64 x1] 55)).drew).alloc (.cells #[.string x0, .int .i64 kp] 33)).heap.size := by simp [World.drew]; omega
      have hBG : ∀ q, va.ownBlock = some q → w.heap.size ≤ q := fun q h => by have := (hown.lt q h).1; omega
      have HBW := Lib.hid hbwW
      clear hbwW hbwA
      go_wp2_with fail
      go_region_law (first
        | (refine step_append_own rfl (.tmp 30) (.tmp 38) 24 rfl (w.heap.size + 1) 33 i0 _ 2 24 Try.underlying24 hi0 hz0 hz1 hz2 hz5 (by decide) va k _ (by simp [Act.eval]) hownY ⟨(wr.alloc (.cells #[.string x0, .int .i64 x1] 55)).drew.heap.size, 0, none⟩ 1 1 [.string x0, .int .i64 kp] (by simp [Act.eval]) rfl hsrc hone q1 q2 q3 ?_; intro v4 w4 hown4 hgr4)
        | (go_simp; go_at_call 24; (with_reducible refine (HK.out _).mono ?_); rintro e w5 ⟨rfl, rfl⟩))
      all_goals (
        go_wp2_with fail
        exact ⟨⟨k + 1, v4, by omega, rfl, by go_num, by rw [HT.out]; exact hown4, below_grown HBW.out hgr4 hBG HBW.out.size, Nat.le_trans q3 hgr4.size⟩, by simp [RowKit.intOf]; omega⟩)
    · have hkn : k = n := by omega
      subst hkn
      have HE := Lib.hid (show l.take k = l from List.take_of_length_le (by have := HN.out; omega))
      go_wp2_with fail
      go_ret2
      rw [HE.out] at hown
      exact ⟨⟨_, r, rfl, hown, hr1, hr2, hr3⟩, hbw⟩
end Go.Proofs.Ytdkpghfielfojaa

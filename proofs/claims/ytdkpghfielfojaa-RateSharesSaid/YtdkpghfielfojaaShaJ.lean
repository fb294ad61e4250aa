/- What the reference's SharesOf answers. -/
import Derived.Test.YtdkpghfielfojaaShaI
import Derived.Test.YtdkpghfielfojaaShaP
namespace Go.Proofs.Ytdkpghfielfojaa
open Go.RowKit Go.Lib

/-- The line of shares is one. -/
theorem line_one {l : List Sh} {most : Int} {a b : Nat} (ha : (a : Int) ≤ gst l) (ha2 : sty a l ≤ most) (ha3 : (a : Int) = gst l ∨ most < sty ((a : Int) + 1) l) (hb : (b : Int) ≤ gst l) (hb2 : sty b l ≤ most) (hb3 : (b : Int) = gst l ∨ most < sty ((b : Int) + 1) l) : a = b := by
  have key : ∀ x y : Nat, (x : Int) < y → (y : Int) ≤ gst l → sty y l ≤ most → ((x : Int) = gst l ∨ most < sty ((x : Int) + 1) l) → False := by
    intro x y h h1 h2 h3
    rcases h3 with h3 | h3
    · omega
    · have := sty_mono (show (x : Int) + 1 ≤ (y : Int) by omega) l
      omega
  by_cases h1 : (a : Int) < b
  · exact absurd (key a b h1 hb hb2 ha3) id
  by_cases h2 : (b : Int) < a
  · exact absurd (key b a h2 ha ha2 hb3) id
  omega

set_option maxHeartbeats 8000000 in
set_option maxRecDepth 100000 in
theorem sharesOf_any (v : Value) (l : List Sh) (most : Int) (w : World) (hv : ShV w v l) (hg : GoodS l) (h0 : 0 ≤ most) : Calls Try.prog 11 #[v, .int .i64 most] w
    fun e w' => (∃ (v' : Value) (r : Nat), e = .returned v' ∧ w'.ownsRow w.heap.size 33 2 v' l.length (cellsR r l) ∧ (r : Int) ≤ gst l ∧ sty r l ≤ most ∧ ((r : Int) = gst l ∨ most < sty ((r : Int) + 1) l)) ∧ Below w.heap.size w w' := by
  obtain ⟨i0, hi0, hz0, hz1, hz2⟩ := info_parts info33
  have hz5 : (Value.agg #[.string ⟨#[]⟩, .int .i64 0]).cells.size = 2 := rfl
  obtain ⟨p, cap, rfl, h1, h2, h3, h4⟩ := hv
  have HG := Lib.hid hg
  have hgl := gst_le l hg.2
  have hgn := gst_nonneg l
  have hz : sty 0 l ≤ most := by
    have : ∀ l : List Sh, (∀ x ∈ l, 0 ≤ x.came ∧ x.came ≤ 1000000000) → sty 0 l = 0 := by
      intro l
      induction l with
      | nil => intro _; rfl
      | cons x l ih =>
        intro h
        have h1 := h x (List.mem_cons_self ..)
        have h2 := ih (fun y hy => h y (List.mem_cons_of_mem _ hy))
        simp only [sty]; omega
    rw [this l hg.2]; exact h0
  have HZ := Lib.hid hz
  obtain ⟨n, hn⟩ : ∃ n, n = l.length := ⟨_, rfl⟩
  have HN := Lib.hid hn
  have hn200 : n ≤ 200 := by have := hg.1; omega
  rw [← hn] at h1 ⊢
  clear hn h3 hg hz
  go_enter Try.func11, Try.ntmps11
  go_wp2_with fail
  go_loopw [6, 19] (fun v6 v19 wr => ∃ (k : Nat) (g : Nat), k ≤ n ∧ v19 = .int .i64 k ∧ v6 = .int .i64 g ∧ Hid ((g : Int) = gst (l.take k)) ∧ Below w.heap.size w wr) (fun _ v19 _ => n - (RowKit.intOf v19).toNat)
  case atStart => exact ⟨0, 0, Nat.zero_le _, rfl, rfl, Lib.hid rfl, Below.refl _ _⟩
  case round =>
    obtain ⟨k, g, hk, rfl, rfl, HS, hbw⟩ := hrel
    by_cases hlt : k < n
    · have hkl : k < l.length := by have := HN.out; omega
      rcases h4 with h4 | ⟨b, off, rfl, hb, hat⟩
      · rw [h4] at hkl; simp at hkl
      obtain ⟨c0, c1⟩ := (hat.below hb hbw) k hkl
      have hx := HG.out.2 l[k] (List.getElem_mem hkl)
      have HT := Lib.hid (gst_take l k hkl)
      generalize l[k] = x at *
      obtain ⟨x0, x1⟩ := x
      simp only at c0 c1 hx HT
      obtain ⟨hx0, hx1⟩ := hx
      clear hat hkl
      obtain ⟨m, rfl⟩ : ∃ m : Nat, x1 = m := ⟨x1.toNat, by omega⟩
      by_cases hm : (g : Int) < (m : Int)
      · have HNX := Lib.hid (show ((m : Nat) : Int) = gst (l.take (k + 1)) by rw [HT.out, ← HS.out]; omega)
        go_wp2_with fail
        all_goals first
          | (exfalso; omega)
          | exact ⟨⟨k + 1, m, by omega, by go_num, rfl, HNX, hbw.alloc hbw.size _⟩, by simp [RowKit.intOf]; omega⟩
      · have HNX := Lib.hid (show ((g : Nat) : Int) = gst (l.take (k + 1)) by rw [HT.out, ← HS.out]; omega)
        go_wp2_with fail
        all_goals first
          | (exfalso; omega)
          | exact ⟨⟨k + 1, g, by omega, by go_num, rfl, HNX, hbw.alloc hbw.size _⟩, by simp [RowKit.intOf]; omega⟩
    · have HE := Lib.hid (show (g : Int) = gst l by rw [HS.out, List.take_of_length_le (by have := HN.out; omega)])
      have hgm : g ≤ 1000000000 := by have := HE.out; omega
      go_wp2_with fail
      obtain ⟨w1, rfl⟩ : ∃ w1 : World, w1 = wr := ⟨_, rfl⟩
      go_loopw [5, 6] (fun v5 v6 wr => ∃ lo hi : Nat, lo ≤ hi ∧ hi ≤ 1000000000 ∧ v5 = .int .i64 lo ∧ v6 = .int .i64 hi ∧ Hid (sty lo l ≤ most ∧ (hi : Int) ≤ gst l ∧ ((hi : Int) = gst l ∨ most < sty ((hi : Int) + 1) l)) ∧ Below w.heap.size w wr) (fun v5 v6 _ => (RowKit.intOf v6).toNat - (RowKit.intOf v5).toNat)
      case atStart => exact ⟨0, g, Nat.zero_le _, hgm, rfl, rfl, Lib.hid ⟨HZ.out, by rw [HE.out]; exact Int.le_refl _, .inl HE.out⟩, hbw⟩
      case round =>
        obtain ⟨w2, rfl⟩ : ∃ w2 : World, w2 = wr := ⟨_, rfl⟩
        obtain ⟨lo, hi, hlh, hin, rfl, rfl, HI, hbw2⟩ := hrel
        by_cases hll : lo < hi
        · obtain ⟨mid, hmid⟩ : ∃ mid : Nat, mid = (lo + hi + 1) / 2 := ⟨_, rfl⟩
          have hwa : IntKind.i64.wrap ((lo : Int) + (hi : Int)) = (lo : Int) + (hi : Int) := IntWalk.i64_in _ ⟨by omega, by omega⟩
          have hwb : IntKind.i64.wrap ((lo : Int) + (hi : Int) + 1) = (lo : Int) + (hi : Int) + 1 := IntWalk.i64_in _ ⟨by omega, by omega⟩
          have hqa : ((lo : Int) + (hi : Int) + 1).tdiv 2 = (mid : Int) := by rw [Int.tdiv_eq_ediv_of_nonneg (by omega)]; omega
          have hwc : IntKind.i64.wrap (mid : Int) = (mid : Int) := IntWalk.i64_in _ ⟨by omega, by omega⟩
          have hm1 : lo < mid := by omega
          have hm2 : mid ≤ hi := by omega
          have HMID := Lib.hid hmid
          clear hmid
          go_wp2_with fail
          obtain ⟨w3, rfl⟩ : ∃ w3 : World, w3 = w2 := ⟨_, rfl⟩
          go_loopw [10, 38] (fun v10 v38 wr => ∃ (k : Nat) (s : Int), k ≤ n ∧ v38 = .int .i64 k ∧ v10 = .int .i64 s ∧ Hid (s = sty mid (l.take k)) ∧ Below w.heap.size w wr) (fun _ v38 _ => n - (RowKit.intOf v38).toNat)
          case atStart => exact ⟨0, 0, Nat.zero_le _, rfl, rfl, Lib.hid rfl, hbw2⟩
          case round =>
            obtain ⟨k, s, hk, rfl, rfl, HS, hbw⟩ := hrel
            by_cases hlt : k < n
            · have hkl : k < l.length := by have := HN.out; omega
              rcases h4 with h4 | ⟨b, off, rfl, hb, hat⟩
              · rw [h4] at hkl; simp at hkl
              obtain ⟨c0, c1⟩ := (hat.below hb hbw) k hkl
              have hx := HG.out.2 l[k] (List.getElem_mem hkl)
              have HT := Lib.hid (sty_take mid l k hkl)
              have hle := sty_le mid (by omega) (l.take k) (fun y hy => HG.out.2 y (List.mem_of_mem_take hy))
              have hlen : (l.take k).length ≤ 200 := by have := HG.out.1; rw [List.length_take]; omega
              rw [← HS.out] at hle
              have hs1 : s ≤ 200000000000 := by omega
              obtain ⟨hs0, _⟩ := hle
              generalize l[k] = x at *
              obtain ⟨x0, x1⟩ := x
              simp only at c0 c1 hx HT
              obtain ⟨hx0, hx1⟩ := hx
              clear hat hkl hlen
              by_cases hm : x1 ≤ (mid : Int)
              · have hmin : min x1 (mid : Int) = x1 := by omega
                have hw : IntKind.i64.wrap (s + x1) = s + x1 := IntWalk.i64_in _ ⟨by omega, by omega⟩
                have HNX := Lib.hid (show s + x1 = sty mid (l.take (k + 1)) by rw [HT.out, ← HS.out, hmin])
                clear hs1 hs0 hmin
                go_wp2_with fail
                all_goals first
                  | (exfalso; omega)
                  | exact ⟨⟨k + 1, s + x1, by omega, by go_num, rfl, HNX, hbw.alloc hbw.size _⟩, by simp [RowKit.intOf]; omega⟩
              · have hmin : min x1 (mid : Int) = (mid : Int) := by omega
                have hm2 : (mid : Int) < x1 := by omega
                have hw : IntKind.i64.wrap (s + (mid : Int)) = s + (mid : Int) := IntWalk.i64_in _ ⟨by omega, by omega⟩
                have HNX := Lib.hid (show s + (mid : Int) = sty mid (l.take (k + 1)) by rw [HT.out, ← HS.out, hmin])
                clear hs1 hs0 hmin
                go_wp2_with fail
                all_goals first
                  | (exfalso; omega)
                  | exact ⟨⟨k + 1, s + mid, by omega, by go_num, rfl, HNX, hbw.alloc hbw.size _⟩, by simp [RowKit.intOf]; omega⟩
            · have HE := Lib.hid (show s = sty mid l by rw [HS.out, List.take_of_length_le (by have := HN.out; omega)])
              have hwm : IntKind.i64.wrap ((mid : Int) - 1) = ((mid - 1 : Nat) : Int) := by rw [IntWalk.i64_in _ ⟨by omega, by omega⟩]; omega
              by_cases hle : s ≤ most
              · go_wp2_with fail
                exact ⟨⟨mid, hi, hm2, hin, rfl, rfl, Lib.hid ⟨by rw [← HE.out]; exact hle, HI.out.2⟩, hbw⟩, by simp [RowKit.intOf]; omega⟩
              · go_wp2_with fail
                exact ⟨⟨lo, mid - 1, by omega, by omega, rfl, rfl, Lib.hid ⟨HI.out.1, by have := HI.out.2.1; omega, .inr (by rw [show (((mid - 1 : Nat) : Int) + 1) = (mid : Int) by omega, ← HE.out]; omega)⟩, hbw⟩, by simp [RowKit.intOf]; omega⟩
        · have HLH : lo = hi := by omega
          subst HLH
          go_wp2_with fail
          obtain ⟨w3, rfl⟩ : ∃ w3 : World, w3 = w2 := ⟨_, rfl⟩
          go_loopw [13, 57] (fun v13 v57 wr => ∃ (k : Nat) (va : Value), k ≤ n ∧ va = v13 ∧ v57 = .int .i64 k ∧ wr.ownsRow w.heap.size 33 2 va k (cellsR lo (l.take k)) ∧ Below w.heap.size w wr) (fun _ v57 _ => n - (RowKit.intOf v57).toNat)
          case atStart => exact ⟨0, _, Nat.zero_le _, rfl, rfl, ⟨rfl, .inl ⟨rfl, rfl⟩⟩, hbw2⟩
          case round =>
            obtain ⟨k, va, hk, rfl, rfl, hown, hbw⟩ := hrel
            by_cases hlt : k < n
            · have hkl : k < l.length := by have := HN.out; omega
              rcases h4 with h4 | ⟨b, off, rfl, hb, hat⟩
              · rw [h4] at hkl; simp at hkl
              obtain ⟨c0, c1⟩ := (hat.below hb hbw) k hkl
              have hx := HG.out.2 l[k] (List.getElem_mem hkl)
              have HT := Lib.hid (cellsR_take lo l k hkl)
              generalize l[k] = x at *
              obtain ⟨x0, x1⟩ := x
              simp only at c0 c1 hx HT
              obtain ⟨hx0, hx1⟩ := hx
              clear hat hkl
              have q1 : k + 1 ≤ maxLen := by unfold maxLen; omega
              have q2 : (k + 1) * 24 ≤ 140737488355328 := by omega
              by_cases hm : (lo : Int) < x1
              · have hkv : keepV x1 lo = (lo : Int) * 1000000 / x1 := by unfold keepV; rw [if_neg (by omega)]
                have hw1 : IntKind.i64.wrap ((lo : Int) * 1000000) = (lo : Int) * 1000000 := IntWalk.i64_in _ ⟨by omega, by omega⟩
                have hq : ((lo : Int) * 1000000).tdiv x1 = (lo : Int) * 1000000 / x1 := Int.tdiv_eq_ediv_of_nonneg (by omega)
                have hq0 : 0 ≤ (lo : Int) * 1000000 / x1 := Int.ediv_nonneg (by omega) (by omega)
                have hq1 : (lo : Int) * 1000000 / x1 ≤ (lo : Int) * 1000000 := Int.ediv_le_self _ (by omega)
                have hw2 : IntKind.i64.wrap ((lo : Int) * 1000000 / x1) = (lo : Int) * 1000000 / x1 := IntWalk.i64_in _ ⟨by omega, by omega⟩
                have ha0 : (x1 == 0) = false := by rw [beq_eq_false_iff_ne]; omega
                have ha1 : x1 ≠ 0 := by omega
                clear hq0 hq1
                have hownY := ((hown.alloc (.cells #[.string x0, .int .i64 x1] 55)).alloc (.cells #[.string x0, .int .i64 ((lo : Int) * 1000000 / x1)] 33)).alloc (.cells #[.string x0, .int .i64 ((lo : Int) * 1000000 / x1)] 33)
                have hsrc := cells2_new ((wr.alloc (.cells #[.string x0, .int .i64 x1] 55)).alloc (.cells #[.string x0, .int .i64 ((lo : Int) * 1000000 / x1)] 33)) x0 ((lo : Int) * 1000000 / x1) 33
                have hone := cells2_one x0 ((lo : Int) * 1000000 / x1)
                have hbwW := ((hbw.alloc hbw.size (.cells #[.string x0, .int .i64 x1] 55)).alloc (hbw.alloc hbw.size _).size (.cells #[.string x0, .int .i64 ((lo : Int) * 1000000 / x1)] 33)).alloc ((hbw.alloc hbw.size _).alloc (hbw.alloc hbw.size _).size _).size (.cells #[.string x0, .int .i64 ((lo : Int) * 1000000 / x1)] 33)
                have q3 : w.heap.size ≤ (((wr.alloc (.cells #[.string x0, .int .i64 x1] 55)).alloc (.cells #[.string x0, .int .i64 ((lo : Int) * 1000000 / x1)] 33)).alloc (.cells #[.string x0, .int .i64 ((lo : Int) * 1000000 / x1)] 33)).heap.size := hbwW.size
                have hBG : ∀ q, va.ownBlock = some q → w.heap.size ≤ q := fun q h => by have := (hown.lt q h).1; omega
                have HBW := Lib.hid hbwW
                clear hbwW
                go_wp2_with (at_builtin; (refine wpList_append_own _ rfl _ _ 24 rfl w.heap.size 33 i0 _ 2 24 Try.underlying24 hi0 hz0 hz1 hz2 hz5 (by decide) va k _ rfl hownY ⟨wr.heap.size + 1 + 1, 0, none⟩ 1 1 [.string x0, .int .i64 ((lo : Int) * 1000000 / x1)] rfl rfl (by first | exact hsrc | simpa using hsrc) hone q1 q2 q3 ?_; intro v4 w4 hown4 hgr4 _))
                exact ⟨⟨k + 1, v4, by omega, rfl, by go_num, by rw [HT.out, hkv]; exact hown4, below_grown HBW.out hgr4 hBG HBW.out.size⟩, by simp [RowKit.intOf]; omega⟩
              · have hkv : keepV x1 lo = 1000000 := by unfold keepV; rw [if_pos (by omega)]
                have hownY := ((hown.alloc (.cells #[.string x0, .int .i64 x1] 55)).alloc (.cells #[.string x0, .int .i64 1000000] 33)).alloc (.cells #[.string x0, .int .i64 1000000] 33)
                have hsrc := cells2_new ((wr.alloc (.cells #[.string x0, .int .i64 x1] 55)).alloc (.cells #[.string x0, .int .i64 1000000] 33)) x0 1000000 33
                have hone := cells2_one x0 1000000
                have hbwW := ((hbw.alloc hbw.size (.cells #[.string x0, .int .i64 x1] 55)).alloc (hbw.alloc hbw.size _).size (.cells #[.string x0, .int .i64 1000000] 33)).alloc ((hbw.alloc hbw.size _).alloc (hbw.alloc hbw.size _).size _).size (.cells #[.string x0, .int .i64 1000000] 33)
                have q3 : w.heap.size ≤ (((wr.alloc (.cells #[.string x0, .int .i64 x1] 55)).alloc (.cells #[.string x0, .int .i64 1000000] 33)).alloc (.cells #[.string x0, .int .i64 1000000] 33)).heap.size := hbwW.size
                have hBG : ∀ q, va.ownBlock = some q → w.heap.size ≤ q := fun q h => by have := (hown.lt q h).1; omega
                have HBW := Lib.hid hbwW
                clear hbwW
                go_wp2_with (at_builtin; (refine wpList_append_own _ rfl _ _ 24 rfl w.heap.size 33 i0 _ 2 24 Try.underlying24 hi0 hz0 hz1 hz2 hz5 (by decide) va k _ rfl hownY ⟨wr.heap.size + 1 + 1, 0, none⟩ 1 1 [.string x0, .int .i64 1000000] rfl rfl (by first | exact hsrc | simpa using hsrc) hone q1 q2 q3 ?_; intro v4 w4 hown4 hgr4 _))
                exact ⟨⟨k + 1, v4, by omega, rfl, by go_num, by rw [HT.out, hkv]; exact hown4, below_grown HBW.out hgr4 hBG HBW.out.size⟩, by simp [RowKit.intOf]; omega⟩
            · have hkn : k = n := by omega
              subst hkn
              have HE := Lib.hid (show l.take k = l from List.take_of_length_le (by have := HN.out; omega))
              go_wp2_with fail
              go_ret
              rw [HE.out] at hown
              exact ⟨⟨_, lo, rfl, hown, HI.out.2.1, HI.out.1, HI.out.2.2⟩, hbw⟩
end Go.Proofs.Ytdkpghfielfojaa

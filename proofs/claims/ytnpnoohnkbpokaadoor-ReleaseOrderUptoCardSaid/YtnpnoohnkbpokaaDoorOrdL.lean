/- The law ReleaseOrder, walked. -/
import Derived.Test.YtnpnoohnkbpokaaDoorOrdD
namespace Go.Proofs.YtnpnoohnkbpokaaDoor
open Go.RowKit Go.Lib

theorem info43 : (Tryd.prog.info? 43).map (fun i => (i.zero, i.size, i.bytes)) = some (some (.agg #[.string ⟨#[]⟩, .int .i64 0, .int .i64 0, .int .i64 0, .slice none 0 0]), 5, 64) := by kernel_rfl
theorem info_parts {P : Program} {e : TypeId} {z : Value} {s b : Nat} (h : (P.info? e).map (fun i => (i.zero, i.size, i.bytes)) = some (some z, s, b)) : ∃ i, P.info? e = some i ∧ i.zero = some z ∧ i.size = s ∧ i.bytes = b := by
  cases hi : P.info? e with
  | none => rw [hi] at h; simp at h
  | some i =>
    rw [hi] at h
    simp only [Option.map_some, Option.some.injEq, Prod.mk.injEq] at h
    exact ⟨i, rfl, h.1, h.2.1, h.2.2⟩
theorem cells5_new (w : World) (a : ByteArray) (b c d : Int) (p : Value) (t : TypeId) : ∀ j u, [Value.string a, .int .i64 b, .int .i64 c, .int .i64 d, p][j]? = some u → (w.alloc (.cells #[.string a, .int .i64 b, .int .i64 c, .int .i64 d, p] t)).cell? ((⟨w.heap.size, 0, none⟩ : Addr).add j) = some u := by
  intro j u hj
  match j, hj with
  | 0, hj => simp at hj; subst hj; simp [Addr.add]
  | 1, hj => simp at hj; subst hj; simp [Addr.add]
  | 2, hj => simp at hj; subst hj; simp [Addr.add]
  | 3, hj => simp at hj; subst hj; simp [Addr.add]
  | 4, hj => simp at hj; subst hj; simp [Addr.add]
theorem cells5_one (a : ByteArray) (b c d : Int) (p : Option Addr) (n k : Nat) : ∀ u ∈ [Value.string a, .int .i64 b, .int .i64 c, .int .i64 d, .slice p n k], u.oneCell' = true := by
  intro u hx
  simp only [List.mem_cons, List.not_mem_nil, or_false] at hx
  rcases hx with rfl | rfl | rfl | rfl | rfl <;> rfl
theorem cellsV_snoc (g : List Ve) (e : Ve) : cellsG encV (g ++ [e]) = cellsG encV g ++ encV e := by unfold cellsG; simp

set_option maxRecDepth 100000 in
set_option maxHeartbeats 8000000 in
theorem order_law (v : Value) (l : List Ve) (w : World) (hv : SlG encV 5 (FitV w) w v l) (he : Env w) (hlen : l.length ≤ 1048576) :
    Calls Tryd.prog 4 #[v] w fun e w' => e = .returned (.bool true) ∧ Below w.heap.size w w' := by
  obtain ⟨i0, hi0, hz0, hz1, hz2⟩ := info_parts info43
  have hz5 : (Value.agg #[.string ⟨#[]⟩, .int .i64 0, .int .i64 0, .int .i64 0, .slice none 0 0]).cells.size = 5 := rfl
  have HAW := Lib.hid (awake_any w he)
  have HV := Lib.hid he
  obtain ⟨p, cap, rfl, h1, h2, h3, h4⟩ := hv
  unfold maxLen at h2
  obtain ⟨n, hn⟩ : ∃ n, n = l.length := ⟨_, rfl⟩
  have HN := Lib.hid hn
  rw [← hn] at h1 hlen ⊢
  clear hn he
  go_enter Tryd.func4, Tryd.ntmps4
  go_wp2_with (go_at_call 21; (with_reducible refine HAW.out.mono ?_); rintro e w1 ⟨rfl, hb1⟩)
  go_loopw [3, 24] (fun v3 v24 wr => ∃ (k : Nat) (va : Value) (g : List Ve), k ≤ n ∧ g.length ≤ k ∧ va = v3 ∧ v24 = .int .i64 k ∧ wr.ownsRow w.heap.size 43 5 va g.length (cellsG encV g) ∧ Hid (∀ e ∈ g, FitV w e ∧ txtErr e.x = 0) ∧ Below w.heap.size w wr) (fun _ v24 _ => n - (RowKit.intOf v24).toNat)
  case atStart => exact ⟨0, _, [], Nat.zero_le _, Nat.le_refl _, rfl, rfl, ⟨rfl, .inl ⟨rfl, rfl⟩⟩, Lib.hid (fun e he => by cases he), hb1⟩
  case round =>
    obtain ⟨k, va, g, hk, hgk, rfl, rfl, hown, HG, hbw⟩ := hrel
    by_cases hlt : k < n
    · have hkl : k < l.length := by have := HN.out; omega
      rcases h4 with h4 | ⟨b, off, rfl, hb, hat⟩
      · rw [h4] at hkl; simp at hkl
      obtain ⟨c0, c1, c2, c3, c4⟩ := (hat.below hb hbw).ver hkl
      have hfit := h3 l[k] (List.getElem_mem hkl)
      generalize l[k] = y at *
      obtain ⟨x, pv⟩ := y
      simp only at c0 c1 c2 c3 c4
      obtain ⟨pa, pc, hpv, hp1, hp2, -⟩ := id hfit.1
      simp only at hpv
      subst hpv
      have HFT := Lib.hid hfit
      have HTX := Lib.hid (fun (W : World) (hW : Below w.heap.size w W) => show Calls Tryd.prog 22 #[.agg #[.string x.pj, .int .i64 x.ma, .int .i64 x.mi, .int .i64 x.pa, .slice pa x.pre.length pc]] W (fun e w' => e = .returned (.tuple #[.string (txtOf x), .int .i64 (txtErr x)]) ∧ Below W.heap.size W w') from Text_any _ x W (hfit.ver hW) (HV.out.keep hW) hfit.2)
      have hS : SlG encS 1 fitP w (.slice pa x.pre.length pc) x.pre := hfit.1
      have HS := Lib.hid hS
      clear hat hkl hfit hS
      have hbwA := hbw.alloc hbw.size (.cells #[.string x.pj, .int .i64 x.ma, .int .i64 x.mi, .int .i64 x.pa, .slice pa x.pre.length pc] 43)
      by_cases hte : txtErr x = 0
      · have hbk := back hte
        have hto : txtOf x = txtF x := by unfold txtOf; rw [if_pos hte]
        have h40 := (txt_ok hte).2.2.2.2.2
        have HP := Lib.hid (fun (W : World) (hW : Below w.heap.size w W) => Parse_any (txtF x) W (by omega) (HV.out.keep hW))
        have hE0 : verErr (txtF x) = 0 := by unfold verErr; rw [hbk.1]; rfl
        have hO0 : verOf (txtF x) = x := by unfold verOf; rw [hbk.1]; exact hbk.2
        rw [hE0, hO0] at HP
        rw [hte, hto] at HTX
        have hcc := cmp_V.refl x (good_of hte)
        have HC := Lib.hid (fun (W : World) (v1 v2 : Value) (g1 : VrV W v1 x) (g2 : VrV W v2 x) (hW : Below w.heap.size w W) => Compare_any v1 v2 x x W g1 g2 (HV.out.keep hW))
        rw [hcc] at HC
        have HTE := Lib.hid hte
        generalize txtF x = T at *
        clear hbk hto h40 hE0 hO0 hcc hte
        have q1 : g.length + 1 ≤ maxLen := by unfold maxLen; omega
        have q2 : (g.length + 1) * 64 ≤ 140737488355328 := by omega
        have hone := cells5_one x.pj x.ma x.mi x.pa pa x.pre.length pc
        have hBG : ∀ q, va.ownBlock = some q → w.heap.size ≤ q := fun q h => by have := (hown.lt q h).1; omega
        have hownA := hown.alloc (.cells #[.string x.pj, .int .i64 x.ma, .int .i64 x.mi, .int .i64 x.pa, .slice pa x.pre.length pc] 43)
        go_wp2_with (first
          | (go_at_call 22; (with_reducible refine (HTX.out _ hbwA).mono ?_); rintro e w2 ⟨rfl, hb2⟩; have hbw2 := below_call hbwA hbwA.size hb2; have hB2 := (bx5_new wr (.string x.pj) (.int .i64 x.ma) (.int .i64 x.mi) (.int .i64 x.pa) (.slice pa x.pre.length pc) 43).below hb2; have hown2 := own_keeps hownA hb2)
          | (go_at_call 23; (with_reducible refine (HP.out _ hbw2).mono ?_); rintro e w3 ⟨v3, rfl, ⟨pp, pn, pd, rfl, hsl, -⟩, hb3⟩; have hbw3 := below_call hbw2 hbw2.size hb3; have hbw4 := hbw3.alloc hbw3.size (.cells #[.string x.pj, .int .i64 x.ma, .int .i64 x.mi, .int .i64 x.pa, .slice pp pn pd] 43); have hsl4 := hsl.below (Nat.le_refl _) ((Below.refl _ _).alloc (Nat.le_refl _) (.cells #[.string x.pj, .int .i64 x.ma, .int .i64 x.mi, .int .i64 x.pa, .slice pp pn pd] 43)); have hown4 := (own_keeps hown2 hb3).alloc (.cells #[.string x.pj, .int .i64 x.ma, .int .i64 x.mi, .int .i64 x.pa, .slice pp pn pd] 43); have hB4 := (hB2.below hb3).alloc (.cells #[.string x.pj, .int .i64 x.ma, .int .i64 x.mi, .int .i64 x.pa, .slice pp pn pd] 43); have hv1 : VrV _ (.agg #[.string x.pj, .int .i64 x.ma, .int .i64 x.mi, .int .i64 x.pa, .slice pa x.pre.length pc]) x := ⟨_, rfl, HS.out.below (Nat.le_refl _) hbw4⟩; have hv2 : VrV _ (.agg #[.string x.pj, .int .i64 x.ma, .int .i64 x.mi, .int .i64 x.pa, .slice pp pn pd]) x := ⟨_, rfl, hsl4⟩; have k0 := hB4.c0; have k1 := hB4.c1; have k2 := hB4.c2; have k3 := hB4.c3; have k4 := hB4.c4)
          | (go_at_call 24; (with_reducible refine (HC.out _ _ _ hv1 hv2 hbw4).mono ?_); rintro e w5 ⟨rfl, hb5⟩; have hbw5 := below_call hbw4 hbw4.size hb5; have hB5 := hB4.below hb5; have m0 := hB5.c0; have m1 := hB5.c1; have m2 := hB5.c2; have m3 := hB5.c3; have m4 := hB5.c4; have hown6 := (own_keeps hown4 hb5).alloc (.cells #[.string x.pj, .int .i64 x.ma, .int .i64 x.mi, .int .i64 x.pa, .slice pa x.pre.length pc] 43); have hsrc := cells5_new w5 x.pj x.ma x.mi x.pa (.slice pa x.pre.length pc) 43; have hbw6 := hbw5.alloc hbw5.size (.cells #[.string x.pj, .int .i64 x.ma, .int .i64 x.mi, .int .i64 x.pa, .slice pa x.pre.length pc] 43))
          | (at_builtin; (refine wpList_append_own _ rfl _ _ 40 rfl w.heap.size 43 i0 _ 5 64 Tryd.underlying40 hi0 hz0 hz1 hz2 hz5 (by decide) va g.length _ rfl hown6 ⟨w5.heap.size, 0, none⟩ 1 1 [.string x.pj, .int .i64 x.ma, .int .i64 x.mi, .int .i64 x.pa, .slice pa x.pre.length pc] rfl rfl hsrc hone q1 q2 hbw6.size ?_; intro v7 w7 hown7 hgr7 _)))
        exact ⟨⟨k + 1, v7, g ++ [⟨x, .slice pa x.pre.length pc⟩], by omega, by simp; omega, rfl, by go_num, by rw [cellsV_snoc, List.length_append]; exact hown7, Lib.hid (fun e he => by
          rcases List.mem_append.1 he with he | he
          · exact HG.out e he
          · rw [List.mem_singleton.1 he]; exact ⟨HFT.out, HTE.out⟩), below_grown hbw6 hgr7 hBG hbw6.size⟩, by simp [RowKit.intOf] <;> omega⟩
      · have hq : (txtErr x != 0) = true := by rw [bne_iff_ne]; exact hte
        have hq2 : (txtErr x == 0) = false := by rw [beq_eq_false_iff_ne]; exact hte
        have hownA := hown.alloc (.cells #[.string x.pj, .int .i64 x.ma, .int .i64 x.mi, .int .i64 x.pa, .slice pa x.pre.length pc] 43)
        generalize txtErr x = E at *
        generalize txtOf x = T at *
        clear hte
        go_wp2_with (go_at_call 22; (with_reducible refine (HTX.out _ hbwA).mono ?_); rintro e w2 ⟨rfl, hb2⟩; have hbw2 := below_call hbwA hbwA.size hb2; have hown2 := own_keeps hownA hb2)
        exact ⟨⟨k + 1, va, g, by omega, by omega, rfl, by go_num, hown2, HG, hbw2⟩, by simp [RowKit.intOf] <;> omega⟩
    · clear h3 h4
      obtain ⟨w2, rfl⟩ : ∃ w2 : World, w2 = wr := ⟨_, rfl⟩
      have hsl2 := slG_of_owns (fit := FitV w) encV_len (by omega) hown (fun e he => (HG.out e he).1)
      obtain ⟨p2, cap2, rfl, hg1, hg2, hg3, hg4⟩ := hsl2
      unfold maxLen at hg2
      clear hg3 hown
      obtain ⟨m, hm⟩ : ∃ m, m = g.length := ⟨_, rfl⟩
      have HM := Lib.hid hm
      rw [← hm] at hg1 hgk ⊢
      clear hm
      have HCM := Lib.hid (fun (W : World) (v1 v2 : Value) (x1 x2 : Vr) (g1 : VrV W v1 x1) (g2 : VrV W v2 x2) (hW : Below w.heap.size w W) => Compare_any v1 v2 x1 x2 W g1 g2 (HV.out.keep hW))
      have HTX := Lib.hid (fun (W : World) (v1 : Value) (x1 : Vr) (g1 : VrV W v1 x1) (hz : x1.pj.size ≤ 1048576) (hW : Below w.heap.size w W) => Text_any v1 x1 W g1 (HV.out.keep hW) hz)
      go_wp2_with fail
      go_loopw [55] (fun v55 wr => ∃ i : Nat, i ≤ m ∧ v55 = .int .i64 i ∧ Below w2.heap.size w2 wr) (fun v55 _ => m - (RowKit.intOf v55).toNat)
      case atStart => exact ⟨0, Nat.zero_le _, rfl, Below.refl _ _⟩
      case round =>
        obtain ⟨w3, rfl⟩ : ∃ w3 : World, w3 = wr := ⟨_, rfl⟩
        obtain ⟨i, hi, rfl, hb3⟩ := hrel
        by_cases hil : i < m
        · have il : i < g.length := by have := HM.out; omega
          rcases hg4 with hg4 | ⟨b2, off2, rfl, hb2, hat2⟩
          · rw [hg4] at il; simp at il
          obtain ⟨xa0, xa1, xa2, xa3, xa4⟩ := (hat2.below hb2 hb3).ver il
          have hfxa := HG.out g[i] (List.getElem_mem il)
          generalize g[i] = yxa at *
          obtain ⟨xa, pvxa⟩ := yxa
          simp only at xa0 xa1 xa2 xa3 xa4
          obtain ⟨qap, qac, hpvxa, hp1xa, hp2xa, -⟩ := id hfxa.1.1
          simp only at hpvxa
          subst hpvxa
          have HSxa := Lib.hid (show SlG encS 1 fitP w (.slice qap xa.pre.length qac) xa.pre from hfxa.1.1)
          have HTxa := Lib.hid (show txtErr xa = 0 from hfxa.2)
          have HZxa := Lib.hid (show xa.pj.size ≤ 1048576 from hfxa.1.2)
          have hp2xa' : qac ≤ 9223372036854775807 := by unfold maxLen at hp2xa; exact hp2xa
          clear hfxa hp2xa
          have hbA := hb3.alloc hb3.size (.cells #[.string xa.pj, .int .i64 xa.ma, .int .i64 xa.mi, .int .i64 xa.pa, .slice qap xa.pre.length qac] 43)
          have hwA := (below_call hbw hbw.size hb3).alloc (below_call hbw hbw.size hb3).size (.cells #[.string xa.pj, .int .i64 xa.ma, .int .i64 xa.mi, .int .i64 xa.pa, .slice qap xa.pre.length qac] 43)
          have hBA := bx5_new w3 (.string xa.pj) (.int .i64 xa.ma) (.int .i64 xa.mi) (.int .i64 xa.pa) (.slice qap xa.pre.length qac) 43
          have hszA : w3.heap.size < (w3.alloc (.cells #[.string xa.pj, .int .i64 xa.ma, .int .i64 xa.mi, .int .i64 xa.pa, .slice qap xa.pre.length qac] 43)).heap.size := by simp
          go_wp2_with fail
          obtain ⟨wA, hwAe⟩ : ∃ wA : World, wA = w3.alloc (.cells #[.string xa.pj, .int .i64 xa.ma, .int .i64 xa.mi, .int .i64 xa.pa, .slice qap xa.pre.length qac] 43) := ⟨_, rfl⟩
          rw [← hwAe] at hbA hwA hBA hszA ⊢
          have HWA := Lib.hid hwAe
          clear hwAe
          go_loopw [61] (fun v61 wr => ∃ j : Nat, j ≤ m ∧ v61 = .int .i64 j ∧ Below wA.heap.size wA wr) (fun v61 _ => m - (RowKit.intOf v61).toNat)
          case atStart => exact ⟨0, Nat.zero_le _, rfl, Below.refl _ _⟩
          case round =>
            obtain ⟨w4, rfl⟩ : ∃ w4 : World, w4 = wr := ⟨_, rfl⟩
            obtain ⟨j, hj, rfl, hb4⟩ := hrel
            by_cases hjl : j < m
            · have jl : j < g.length := by have := HM.out; omega
              have hb42 := below_call hbA hbA.size hb4
              obtain ⟨xb0, xb1, xb2, xb3, xb4⟩ := (hat2.below hb2 hb42).ver jl
              have hfxb := HG.out g[j] (List.getElem_mem jl)
              generalize g[j] = yxb at *
              obtain ⟨xb, pvxb⟩ := yxb
              simp only at xb0 xb1 xb2 xb3 xb4
              obtain ⟨qbp, qbc, hpvxb, hp1xb, hp2xb, -⟩ := id hfxb.1.1
              simp only at hpvxb
              subst hpvxb
              have HSxb := Lib.hid (show SlG encS 1 fitP w (.slice qbp xb.pre.length qbc) xb.pre from hfxb.1.1)
              have HTxb := Lib.hid (show txtErr xb = 0 from hfxb.2)
              have HZxb := Lib.hid (show xb.pj.size ≤ 1048576 from hfxb.1.2)
              have hp2xb' : qbc ≤ 9223372036854775807 := by unfold maxLen at hp2xb; exact hp2xb
              clear hfxb hp2xb
              have hwB := (below_call hwA hwA.size hb4).alloc (below_call hwA hwA.size hb4).size (.cells #[.string xb.pj, .int .i64 xb.ma, .int .i64 xb.mi, .int .i64 xb.pa, .slice qbp xb.pre.length qbc] 43)
              have hBAB := (hBA.below hb4).alloc (.cells #[.string xb.pj, .int .i64 xb.ma, .int .i64 xb.mi, .int .i64 xb.pa, .slice qbp xb.pre.length qbc] 43)
              have hBB := bx5_new w4 (.string xb.pj) (.int .i64 xb.ma) (.int .i64 xb.mi) (.int .i64 xb.pa) (.slice qbp xb.pre.length qbc) 43
              obtain ⟨wB, hwBe⟩ : ∃ wB : World, wB = w4.alloc (.cells #[.string xb.pj, .int .i64 xb.ma, .int .i64 xb.mi, .int .i64 xb.pa, .slice qbp xb.pre.length qbc] 43) := ⟨_, rfl⟩
              have hb4B : Below wA.heap.size wA wB := by rw [hwBe]; exact hb4.alloc hb4.size _
              rw [← hwBe] at hwB hBAB hBB
              have hva : VrV wB (.agg #[.string xa.pj, .int .i64 xa.ma, .int .i64 xa.mi, .int .i64 xa.pa, .slice qap xa.pre.length qac]) xa := ⟨_, rfl, HSxa.out.below (Nat.le_refl _) hwB⟩
              have hvb : VrV wB (.agg #[.string xb.pj, .int .i64 xb.ma, .int .i64 xb.mi, .int .i64 xb.pa, .slice qbp xb.pre.length qbc]) xb := ⟨_, rfl, HSxb.out.below (Nat.le_refl _) hwB⟩
              have HC1 := Lib.hid (HCM.out _ _ _ _ _ hva hvb hwB)
              have k0 := hBAB.c0; have k1 := hBAB.c1; have k2 := hBAB.c2; have k3 := hBAB.c3; have k4 := hBAB.c4
              have HC2 := Lib.hid (fun (W : World) (hW : Below w.heap.size w W) => HCM.out W (.agg #[.string xb.pj, .int .i64 xb.ma, .int .i64 xb.mi, .int .i64 xb.pa, .slice qbp xb.pre.length qbc]) (.agg #[.string xa.pj, .int .i64 xa.ma, .int .i64 xa.mi, .int .i64 xa.pa, .slice qap xa.pre.length qac]) xb xa ⟨_, rfl, HSxb.out.below (Nat.le_refl _) hW⟩ ⟨_, rfl, HSxa.out.below (Nat.le_refl _) hW⟩ hW)
              have hga := good_of HTxa.out
              have hgb := good_of HTxb.out
              rw [cmp_V.anti xa xb hga hgb] at HC2
              have HRN := Lib.hid (cmp_V.rng xa xb)
              have HEQ := Lib.hid (show cmpV xa xb = 0 ↔ txtF xa = txtF xb from ⟨fun h => by rw [cmp_V.eq xa xb hga hgb h], fun h => by rw [txt_inj HTxa.out HTxb.out h]; exact cmp_V.refl xb hgb⟩)
              have HLE := Lib.hid (fun xd (hd : txtErr xd = 0) (h1 : cmpV xa xb ≤ 0) (h2 : cmpV xb xd ≤ 0) => cmp_V.le hga hgb (good_of hd) h1 h2)
              clear hva hvb hga hgb
              generalize cmpV xa xb = c at *
              rw [hwBe] at HC1 hBB hBAB k0 k1 k2 k3 k4 hwB hb4B
              clear hwBe
              have hwc : IntKind.i64.wrap c = c := IntWalk.i64_in _ ⟨by have := HRN.out; omega, by have := HRN.out; omega⟩
              have hwc' : wrap64 c = c := by have := HRN.out; unfold wrap64; omega
              go_wp2_with (first
                | (go_at_call 24; (with_reducible refine HC1.out.mono ?_); rintro e w5 ⟨rfl, hb5⟩; have hw5 := below_call hwB hwB.size hb5; have hB5A := hBAB.below hb5; have hB5B := hBB.below hb5; have m0 := hB5A.c0; have m1 := hB5A.c1; have m2 := hB5A.c2; have m3 := hB5A.c3; have m4 := hB5A.c4; have l0 := hB5B.c0; have l1 := hB5B.c1; have l2 := hB5B.c2; have l3 := hB5B.c3; have l4 := hB5B.c4; have hb5B := below_call hb4B hb4B.size hb5)
                | (go_at_call 24; (with_reducible refine (HC2.out _ hw5).mono ?_); rintro e w6 ⟨rfl, hb6⟩; have hw6 := below_call hw5 hw5.size hb6; have hB6A := hB5A.below hb6; have hB6B := hB5B.below hb6; have hb6B := below_call hb5B hb5B.size hb6))
              clear k0 k1 k2 k3 k4 m0 m1 m2 m3 m4 l0 l1 l2 l3 l4 xb0 xb1 xb2 xb3 xb4
              go_loopw [76] (fun v76 wr => ∃ q : Nat, q ≤ m ∧ v76 = .int .i64 q ∧ Below w6.heap.size w6 wr) (fun v76 _ => m - (RowKit.intOf v76).toNat)
              case atStart => exact ⟨0, Nat.zero_le _, rfl, Below.refl _ _⟩
              case round =>
                obtain ⟨w7, rfl⟩ : ∃ w7 : World, w7 = wr := ⟨_, rfl⟩
                obtain ⟨q, hq, rfl, hb7⟩ := hrel
                have hw7 := below_call hw6 hw6.size hb7
                have hB7A := hB6A.below hb7
                have hB7B := hB6B.below hb7
                have hb7B := below_call hb6B hb6B.size hb7
                by_cases hql : q < m
                · have ql : q < g.length := by have := HM.out; omega
                  have hb72 := below_call hbA hbA.size hb7B
                  obtain ⟨xd0, xd1, xd2, xd3, xd4⟩ := (hat2.below hb2 hb72).ver ql
                  have hfxd := HG.out g[q] (List.getElem_mem ql)
                  generalize g[q] = yxd at *
                  obtain ⟨xd, pvxd⟩ := yxd
                  simp only at xd0 xd1 xd2 xd3 xd4
                  obtain ⟨qdp, qdc, hpvxd, hp1xd, hp2xd, -⟩ := id hfxd.1.1
                  simp only at hpvxd
                  subst hpvxd
                  have HSxd := Lib.hid (show SlG encS 1 fitP w (.slice qdp xd.pre.length qdc) xd.pre from hfxd.1.1)
                  have HTxd := Lib.hid (show txtErr xd = 0 from hfxd.2)
                  have HZxd := Lib.hid (show xd.pj.size ≤ 1048576 from hfxd.1.2)
                  have hp2xd' : qdc ≤ 9223372036854775807 := by unfold maxLen at hp2xd; exact hp2xd
                  clear hfxd hp2xd
                  have hwD := hw7.alloc hw7.size (.cells #[.string xd.pj, .int .i64 xd.ma, .int .i64 xd.mi, .int .i64 xd.pa, .slice qdp xd.pre.length qdc] 43)
                  have hBDA := hB7A.alloc (.cells #[.string xd.pj, .int .i64 xd.ma, .int .i64 xd.mi, .int .i64 xd.pa, .slice qdp xd.pre.length qdc] 43)
                  have hBDB := hB7B.alloc (.cells #[.string xd.pj, .int .i64 xd.ma, .int .i64 xd.mi, .int .i64 xd.pa, .slice qdp xd.pre.length qdc] 43)
                  have hBDD := bx5_new w7 (.string xd.pj) (.int .i64 xd.ma) (.int .i64 xd.mi) (.int .i64 xd.pa) (.slice qdp xd.pre.length qdc) 43
                  have hbD := hb7.alloc hb7.size (.cells #[.string xd.pj, .int .i64 xd.ma, .int .i64 xd.mi, .int .i64 xd.pa, .slice qdp xd.pre.length qdc] 43)
                  have HCB := Lib.hid (HCM.out _ (.agg #[.string xb.pj, .int .i64 xb.ma, .int .i64 xb.mi, .int .i64 xb.pa, .slice qbp xb.pre.length qbc]) (.agg #[.string xd.pj, .int .i64 xd.ma, .int .i64 xd.mi, .int .i64 xd.pa, .slice qdp xd.pre.length qdc]) xb xd ⟨_, rfl, HSxb.out.below (Nat.le_refl _) hwD⟩ ⟨_, rfl, HSxd.out.below (Nat.le_refl _) hwD⟩ hwD)
                  have HCA := Lib.hid (fun (W : World) (hW : Below w.heap.size w W) => HCM.out W (.agg #[.string xa.pj, .int .i64 xa.ma, .int .i64 xa.mi, .int .i64 xa.pa, .slice qap xa.pre.length qac]) (.agg #[.string xd.pj, .int .i64 xd.ma, .int .i64 xd.mi, .int .i64 xd.pa, .slice qdp xd.pre.length qdc]) xa xd ⟨_, rfl, HSxa.out.below (Nat.le_refl _) hW⟩ ⟨_, rfl, HSxd.out.below (Nat.le_refl _) hW⟩ hW)
                  have hle := HLE.out xd HTxd.out
                  have k0 := hBDB.c0; have k1 := hBDB.c1; have k2 := hBDB.c2; have k3 := hBDB.c3; have k4 := hBDB.c4
                  by_cases hc0 : c ≤ 0
                  · have hle2 := hle hc0
                    generalize cmpV xb xd = y at *
                    generalize cmpV xa xd = z at *
                    clear hle
                    by_cases hy0 : y ≤ 0
                    · have hz0' : ¬ 0 < z := by have := hle2 hy0; omega
                      clear hle2
                      go_wp2_with (first
                        | (go_at_call 24; (with_reducible refine HCB.out.mono ?_); rintro e w8 ⟨rfl, hb8⟩; have hw8 := below_call hwD hwD.size hb8; have hB8A := hBDA.below hb8; have hB8D := hBDD.below hb8; have m0 := hB8A.c0; have m1 := hB8A.c1; have m2 := hB8A.c2; have m3 := hB8A.c3; have m4 := hB8A.c4; have l0 := hB8D.c0; have l1 := hB8D.c1; have l2 := hB8D.c2; have l3 := hB8D.c3; have l4 := hB8D.c4; have hb8D := below_call hbD hbD.size hb8)
                        | (go_at_call 24; (with_reducible refine (HCA.out _ hw8).mono ?_); rintro e w9 ⟨rfl, hb9⟩; have hb9D := below_call hb8D hb8D.size hb9))
                      exact ⟨⟨q + 1, by omega, by go_num, hb9D⟩, by simp [RowKit.intOf] <;> omega⟩
                    · clear hle2
                      go_wp2_with (go_at_call 24; (with_reducible refine HCB.out.mono ?_); rintro e w8 ⟨rfl, hb8⟩; have hb8D := below_call hbD hbD.size hb8)
                      exact ⟨⟨q + 1, by omega, by go_num, hb8D⟩, by simp [RowKit.intOf] <;> omega⟩
                  · clear hle
                    go_wp2_with fail
                    exact ⟨⟨q + 1, by omega, by go_num, hbD⟩, by simp [RowKit.intOf] <;> omega⟩
                · have k0 := hB7A.c0; have k1 := hB7A.c1; have k2 := hB7A.c2; have k3 := hB7A.c3; have k4 := hB7A.c4
                  have hta : txtOf xa = txtF xa := by unfold txtOf; rw [if_pos HTxa.out]
                  have htb : txtOf xb = txtF xb := by unfold txtOf; rw [if_pos HTxb.out]
                  have HTA := Lib.hid (show Calls Tryd.prog 22 #[(.agg #[.string xa.pj, .int .i64 xa.ma, .int .i64 xa.mi, .int .i64 xa.pa, .slice qap xa.pre.length qac])] w7 (fun e w' => e = .returned (.tuple #[.string (txtOf xa), .int .i64 (txtErr xa)]) ∧ Below w7.heap.size w7 w') from HTX.out w7 _ xa ⟨_, rfl, HSxa.out.below (Nat.le_refl _) hw7⟩ HZxa.out hw7)
                  have HTB := Lib.hid (fun (W : World) (hW : Below w.heap.size w W) => show Calls Tryd.prog 22 #[(.agg #[.string xb.pj, .int .i64 xb.ma, .int .i64 xb.mi, .int .i64 xb.pa, .slice qbp xb.pre.length qbc])] W (fun e w' => e = .returned (.tuple #[.string (txtOf xb), .int .i64 (txtErr xb)]) ∧ Below W.heap.size W w') from HTX.out W _ xb ⟨_, rfl, HSxb.out.below (Nat.le_refl _) hW⟩ HZxb.out hW)
                  rw [hta, HTxa.out] at HTA
                  rw [htb, HTxb.out] at HTB
                  have heq := HEQ.out
                  generalize txtF xa = ta at *
                  generalize txtF xb = tb at *
                  clear hta htb
                  by_cases hc0 : c = 0
                  · have htt := heq.1 hc0
                    subst htt
                    subst hc0
                    clear heq HEQ
                    go_wp2_with (first
                      | (go_at_call 22; (with_reducible refine HTA.out.mono ?_); rintro e w8 ⟨rfl, hb8⟩; have hw8 := below_call hw7 hw7.size hb8; have hB8B := hB7B.below hb8; have l0 := hB8B.c0; have l1 := hB8B.c1; have l2 := hB8B.c2; have l3 := hB8B.c3; have l4 := hB8B.c4; have hb8B := below_call hb7B hb7B.size hb8)
                      | (go_at_call 22; (with_reducible refine (HTB.out _ hw8).mono ?_); rintro e w9 ⟨rfl, hb9⟩; have hb9B := below_call hb8B hb8B.size hb9))
                    exact ⟨⟨j + 1, by omega, by go_num, hb9B⟩, by simp [RowKit.intOf] <;> omega⟩
                  · have hs : (ta.toList == tb.toList) = false := by
                      rw [beq_eq_false_iff_ne]
                      intro h
                      exact hc0 (heq.2 (toList_inj h))
                    have hcz : (c == 0) = false := by rw [beq_eq_false_iff_ne]; exact hc0
                    clear heq HEQ
                    go_wp2_with (first
                      | (go_at_call 22; (with_reducible refine HTA.out.mono ?_); rintro e w8 ⟨rfl, hb8⟩; have hw8 := below_call hw7 hw7.size hb8; have hB8B := hB7B.below hb8; have l0 := hB8B.c0; have l1 := hB8B.c1; have l2 := hB8B.c2; have l3 := hB8B.c3; have l4 := hB8B.c4; have hb8B := below_call hb7B hb7B.size hb8)
                      | (go_at_call 22; (with_reducible refine (HTB.out _ hw8).mono ?_); rintro e w9 ⟨rfl, hb9⟩; have hb9B := below_call hb8B hb8B.size hb9))
                    exact ⟨⟨j + 1, by omega, by go_num, hb9B⟩, by simp [RowKit.intOf] <;> omega⟩
            · go_wp2_with fail
              exact ⟨⟨i + 1, by omega, by go_num, below_call hbA hbA.size hb4⟩, by simp [RowKit.intOf] <;> omega⟩
        · go_wp2_with fail
          go_ret
          exact ⟨rfl, below_call hbw hbw.size hb3⟩
end Go.Proofs.YtnpnoohnkbpokaaDoor

/- What the reference's SharesError answers, whole. -/
import Derived.Test.YtdkpghfielfojaaShaH
namespace Go.Proofs.Ytdkpghfielfojaa
open Go.RowKit Go.Lib

theorem ShV.take {w : World} {b off n cap : Nat} {l : List Sh} (hb : b < w.heap.size) (h1 : n ≤ cap) (h2 : cap ≤ 9223372036854775807) (h3 : ∀ x ∈ l, x.key.size ≤ 9223372036854775807) (hn : n = l.length) (hat : ShsAt w b off l) (k : Nat) (hk : k ≤ n) : ShV w (.slice (some ⟨b, off, none⟩) k cap) (l.take k) := by
  have hl : (l.take k).length = k := by rw [List.length_take]; omega
  refine ⟨some ⟨b, off, none⟩, cap, by rw [hl], by omega, h2, fun x hx => h3 x (List.mem_of_mem_take hx), .inr ⟨b, off, rfl, hb, fun i hi => ?_⟩⟩
  have hi' : i < l.length := by omega
  rw [List.getElem_take]
  exact hat i hi'

set_option maxHeartbeats 4000000 in
set_option maxRecDepth 100000 in
theorem sharesError_any (v : Value) (l : List Sh) (most : Int) (w : World) (hv : ShV w v l) : Calls Try.prog 9 #[v, .int .i64 most] w
    fun e w' => e = .returned (.int .i64 (shErr l most)) ∧ Below w.heap.size w w' := by
  obtain ⟨p, cap, rfl, h1, h2, h3, h4⟩ := hv
  have HF := Lib.hid h3
  obtain ⟨E, hE⟩ : ∃ E, E = shErr l most := ⟨_, rfl⟩
  rw [← hE]
  have HE := Lib.hid hE
  obtain ⟨n, hn⟩ : ∃ n, n = l.length := ⟨_, rfl⟩
  have HN := Lib.hid hn
  rw [← hn] at h1 ⊢
  have HWE := Lib.hid (fun (s : ByteArray) (W : World) => wordError_any s W)
  have HIN := Lib.hid (fun (x : Int) (W : World) => in_any x 0 1000000000 W)
  clear hE hn h3
  by_cases hs : 200 < n
  · have HR := Lib.hid (show E = 4 by
      have : amtsErr 1000000000 l = 4 := by unfold amtsErr; rw [if_pos (by have := HN.out; omega)]
      rw [HE.out]; unfold shErr; rw [this]; rfl)
    have hs' : (200 : Int) < (n : Int) := by omega
    clear hs
    go_enter Try.func9, Try.ntmps9
    go_wp2_with fail
    go_ret
    exact ⟨by rw [HR.out]; rfl, Below.refl _ _⟩
  have hs' : ¬ (200 : Int) < (n : Int) := by omega
  have HA := Lib.hid (show amtsErr 1000000000 l = amtErr 1000000000 l [] by unfold amtsErr; rw [if_neg (by have := HN.out; omega)])
  go_enter Try.func9, Try.ntmps9
  go_wp2_with fail
  go_loopw [13] (fun v13 wr => ∃ (k : Nat) (seen : List (List UInt8)), k ≤ n ∧ v13 = .int .i64 k ∧ Hid (amtsErr 1000000000 l = amtErr 1000000000 (l.drop k) seen ∧ ∀ s, decide (s ∈ seen) = hasKey (l.take k) s) ∧ Below w.heap.size w wr) (fun v13 _ => n - (RowKit.intOf v13).toNat)
  case atStart => exact ⟨0, [], Nat.zero_le _, rfl, Lib.hid ⟨HA.out, fun s => by simp [hasKey]⟩, Below.refl _ _⟩
  case round =>
    obtain ⟨wo, rfl⟩ : ∃ wo : World, wo = wr := ⟨_, rfl⟩
    obtain ⟨k, seen, hk, rfl, HH, hbw⟩ := hrel
    by_cases hlt : k < n
    · have hkl : k < l.length := by have := HN.out; omega
      rcases h4 with h4 | ⟨b, off, rfl, hb, hat⟩
      · rw [h4] at hkl; simp at hkl
      obtain ⟨c0, c1⟩ := (hat.below hb hbw) k hkl
      have HX := Lib.hid (show amtsErr 1000000000 l = amtErr 1000000000 (l[k] :: l.drop (k + 1)) seen by rw [HH.out.1, List.drop_eq_getElem_cons hkl])
      have HTK := Lib.hid (fun s => hasKey_take l s k hkl)
      have HVT := Lib.hid (fun (W : World) (hW : Below w.heap.size w W) => ShV.take (w := W) (cap := cap) (by have := hW.size; omega) h1 h2 HF.out HN.out (hat.below hb hW) k hk)
      have HPRE := Lib.hid (HH.out.2)
      generalize l[k] = x at *
      obtain ⟨x0, x1⟩ := x
      simp only at c0 c1 HX HTK
      clear hat hkl
      have hbA := hbw.alloc hbw.size (.cells #[.string x0, .int .i64 x1] 55)
      have hcA : (wo.alloc (.cells #[.string x0, .int .i64 x1] 55)).cell? ⟨wo.heap.size, 0, none⟩ = some (.string x0) := by go_simp
      have HCK := Lib.hid (containsKey_any (.slice (some ⟨b, off, none⟩) k cap) (l.take k) ⟨x0, x1⟩ wo.heap.size _ (HVT.out _ hbA) hcA)
      have G27 := Lib.hid (fun W => HWE.out x0 W)
      have G30 := Lib.hid (fun W => HIN.out x1 W)
      have hkz : (k : Int) ≤ (cap : Int) := by omega
      by_cases hke : keyErr x0 = 0
      · rw [hke] at G27
        cases hh : hasKey (l.take k) x0.data.toList
        · have hns : ¬ x0.data.toList ∈ seen := fun kk => by have := HPRE.out x0.data.toList; rw [decide_eq_true kk, hh] at this; cases this
          simp only at HCK
          rw [hh] at HCK
          cases hwi : wi x1 0 1000000000
          · rw [hwi] at G30
            have HR := Lib.hid (show E = 2 by
              have : amtsErr 1000000000 l = 2 := by rw [HX.out, amtErr, if_neg (by simpa using hke), if_neg hns, if_neg (by simp [hwi])]
              rw [HE.out]; unfold shErr; rw [this]; rfl)
            clear hke hh hns hwi
            go_wp2_with (first
              | (go_at_call 27; (with_reducible refine (G27.out _).mono ?_); rintro e w1 ⟨rfl, rfl⟩)
              | (go_at_call 28; (with_reducible refine HCK.out.mono ?_); rintro e w2 ⟨rfl, hb2⟩; have hbw2 := below_call hbA hbA.size hb2; have hc1 := cell_keep (show (wo.alloc (.cells #[.string x0, .int .i64 x1] 55)).cell? ⟨wo.heap.size, 1, none⟩ = some (.int .i64 x1) by go_simp) hb2)
              | (go_at_call 30; (with_reducible refine (G30.out _).mono ?_); rintro e w3 ⟨rfl, rfl⟩))
            go_ret
            exact ⟨by rw [HR.out]; rfl, hbw2⟩
          · rw [hwi] at G30
            have HR := Lib.hid (show amtsErr 1000000000 l = amtErr 1000000000 (l.drop (k + 1)) (x0.data.toList :: seen) ∧ ∀ s, decide (s ∈ x0.data.toList :: seen) = hasKey (l.take (k + 1)) s from
              ⟨by rw [HX.out, amtErr, if_neg (by simpa using hke), if_neg hns, if_pos hwi], fun s => by
                rw [HTK.out s, ← HPRE.out s, Bool.eq_iff_iff]
                simp [List.mem_cons]
                constructor
                · rintro (rfl | h)
                  · exact Or.inr rfl
                  · exact Or.inl h
                · rintro (h | rfl)
                  · exact Or.inr h
                  · exact Or.inl rfl⟩)
            clear hke hh hns hwi
            go_wp2_with (first
              | (go_at_call 27; (with_reducible refine (G27.out _).mono ?_); rintro e w1 ⟨rfl, rfl⟩)
              | (go_at_call 28; (with_reducible refine HCK.out.mono ?_); rintro e w2 ⟨rfl, hb2⟩; have hbw2 := below_call hbA hbA.size hb2; have hc1 := cell_keep (show (wo.alloc (.cells #[.string x0, .int .i64 x1] 55)).cell? ⟨wo.heap.size, 1, none⟩ = some (.int .i64 x1) by go_simp) hb2)
              | (go_at_call 30; (with_reducible refine (G30.out _).mono ?_); rintro e w3 ⟨rfl, rfl⟩))
            exact ⟨⟨k + 1, _, by omega, by go_num, HR, hbw2⟩, by simp [RowKit.intOf]; omega⟩
        · have hys : x0.data.toList ∈ seen := of_decide_eq_true (by rw [HPRE.out, hh])
          simp only at HCK
          rw [hh] at HCK
          have HR := Lib.hid (show E = 6 by
            have : amtsErr 1000000000 l = 6 := by rw [HX.out, amtErr, if_neg (by simpa using hke), if_pos hys]
            rw [HE.out]; unfold shErr; rw [this]; rfl)
          clear hke hh hys
          go_wp2_with (first
            | (go_at_call 27; (with_reducible refine (G27.out _).mono ?_); rintro e w1 ⟨rfl, rfl⟩)
            | (go_at_call 28; (with_reducible refine HCK.out.mono ?_); rintro e w2 ⟨rfl, hb2⟩; have hbw2 := below_call hbA hbA.size hb2))
          go_ret
          exact ⟨by rw [HR.out]; rfl, hbw2⟩
      · have HR := Lib.hid (show E = keyErr x0 by
          have : amtsErr 1000000000 l = keyErr x0 := by rw [HX.out, amtErr, if_pos hke]
          rw [HE.out]; unfold shErr; rw [this, if_neg hke])
        have hq : (keyErr x0 != 0) = true := by simpa using hke
        generalize keyErr x0 = g at *
        clear hke
        go_wp2_with (go_at_call 27; (with_reducible refine (G27.out _).mono ?_); rintro e w1 ⟨rfl, rfl⟩)
        go_ret
        exact ⟨by rw [HR.out]; rfl, hbA⟩
    · have HZ := Lib.hid (show amtsErr 1000000000 l = 0 by rw [HH.out.1, List.drop_eq_nil_of_le (by have := HN.out; omega)]; rfl)
      have GM := Lib.hid (fun W => HIN.out most W)
      cases hwi : wi most 0 1000000000
      · rw [hwi] at GM
        have HR := Lib.hid (show E = 2 by rw [HE.out]; unfold shErr; rw [if_pos HZ.out, if_neg (by simp [hwi])])
        clear hwi
        go_wp2_with (go_at_call 30; (with_reducible refine (GM.out _).mono ?_); rintro e w3 ⟨rfl, rfl⟩)
        go_ret
        exact ⟨by rw [HR.out]; rfl, hbw⟩
      · rw [hwi] at GM
        have HR := Lib.hid (show E = 0 by rw [HE.out]; unfold shErr; rw [if_pos HZ.out, if_pos hwi])
        clear hwi
        go_wp2_with (go_at_call 30; (with_reducible refine (GM.out _).mono ?_); rintro e w3 ⟨rfl, rfl⟩)
        go_ret
        exact ⟨by rw [HR.out]; rfl, hbw⟩
end Go.Proofs.Ytdkpghfielfojaa

/- A reader's quoted string. -/
import Derived.Test.YtooilpblbkgloaaGreatDoorReadC
import Derived.Test.YtooilpblbkgloaaGreatDoorRuleG
namespace Go.Proofs.YtooilpblbkgloaaGreatDoor
open Go.RowKit Go.Lib

theorem own_grown {w w' : World} {base b : Nat} {e : TypeId} {size : Nat} {v : Value} {n : Nat} {xs : List Value} (h : w.ownsRow base e size v n xs) (hg : w.grownBy w' (some b)) (hb : b < base) : w'.ownsRow base e size v n xs := by
  obtain ⟨h1, h2⟩ := h
  refine ⟨h1, ?_⟩
  rcases h2 with h2 | ⟨g, cap, cur, hv, hgb, hh, r⟩
  · exact Or.inl h2
  · exact Or.inr ⟨g, cap, cur, hv, hgb, by rw [hg.block g (Array.getElem?_eq_some_iff.1 hh).1 (fun e => by have := Option.some.inj e; omega)]; exact hh, r⟩
theorem isB_grown {T e : TypeId} {B bb b : Nat} {bs : List Value} {w w' : World} (h : Lib.IsBuilder T e B bb bs w) (hg : w.grownBy w' (some b)) (hb : b < B) : Lib.IsBuilder T e B bb bs w' := by
  have lt : ∀ {o}, w.heap[bb]? = some o → bb < w.heap.size := fun h => (Array.getElem?_eq_some_iff.1 h).1
  rcases h with ⟨hB, v, hbk, hown, hne⟩ | ⟨hB, v, hbk, hown, hne⟩
  · exact Or.inl ⟨hB, v, (hg.block _ (lt hbk) (fun e => by have := Option.some.inj e; omega)).trans hbk, own_grown hown hg hb, hne⟩
  · exact Or.inr ⟨hB, v, (hg.block _ (lt hbk) (fun e => by have := Option.some.inj e; omega)).trans hbk, own_grown hown hg hb, hne⟩
theorem grownBy_low {a b c : World} {r : Option Nat} {B : Nat} (h : a.grownBy b r) (k : Below B b c) (hB : a.heap.size ≤ B) : a.grownBy c r :=
  ⟨k.os.trans h.os, k.tape.trans h.tape, k.output.trans h.output, Nat.le_trans h.size k.size, fun i hi hr => (k.block i (Nat.lt_of_lt_of_le hi hB)).trans (h.block i hi hr)⟩

def esc (l : List UInt8) : List UInt8 := escOf (fun c => c == 34 || c == 92) l
theorem esc_at {l : List UInt8} {k : Nat} (h : k < l.length) : esc (l.drop k) = (if l[k] == 34 || l[k] == 92 then [92, l[k]] else [l[k]]) ++ esc (l.drop (k + 1)) := by
  rw [List.drop_eq_getElem_cons h]
  rfl
theorem esc_end {l : List UInt8} : esc (l.drop l.length) = [] := by rw [List.drop_length]; rfl
theorem qt_esc (s : ByteArray) (l : List UInt8) : qt s ++ l = [34] ++ (esc (s.data.toList.drop 0) ++ 34 :: l) := by
  unfold qt esc
  simp
theorem bs_ne {c : UInt8} {l : List UInt8} {T : ByteArray} (h : T = bs (c :: l)) : T.toList.isEmpty = false ∧ (!T.toList.isEmpty) = true ∧ 0 < T.size ∧ T.size = l.length + 1 := by
  have : T.toList = c :: l := by rw [Lib.toList_data, h, bs_data]
  have hz : T.size = l.length + 1 := by rw [h, bs_size]; simp
  exact ⟨by rw [this]; rfl, by rw [this]; rfl, by omega, hz⟩
theorem miss1 {c d : UInt8} {l : List UInt8} {T : ByteArray} (h : T = bs (c :: l)) (hc : c ≠ d) : Lib.hasPrefix T.data.toList (bs [d]).data.toList = false := by
  rw [h]
  show Lib.hasPrefix (c :: l) [d] = false
  unfold Lib.hasPrefix
  have : (d == c) = false := by simpa using fun e => hc e.symm
  simp [List.isPrefixOf, this]

set_option maxHeartbeats 4000000 in
set_option maxRecDepth 100000 in
theorem quoted_hit (b : Nat) (s : ByteArray) (l : List UInt8) (w : World) (hs : s.size ≤ 100) (hR : RdC w b (bs (qt s ++ l))) :
    Calls Tryz.prog 48 #[.pointer (some ⟨b, 0, none⟩)] w fun e w' => e = .returned (.string s) ∧ RdC w' b (bs l) ∧ w.grownBy w' (some b) := by
  rw [qt_esc] at hR
  have H0 := Lib.hid (expect_hit b [34] (esc (s.data.toList.drop 0) ++ 34 :: l) w hR)
  have hbw := hR.lt
  obtain ⟨sl, hsl⟩ : ∃ sl, sl = s.data.toList := ⟨_, rfl⟩
  have HZ := Lib.hid (show sl.length = s.size from by rw [hsl, Lib.size_eq])
  have HSL := Lib.hid (show bs sl = s from by rw [hsl]; exact Lib.mk_data s)
  rw [← hsl] at H0
  clear hR hsl
  go_enter Tryz.func48, Tryz.ntmps48
  go_wp2_with (go_at_call 27; refine H0.out.mono ?_; rintro e w1 ⟨rfl, hR1, hg1⟩)
  have hb1 : b < w1.heap.size := by have := hg1.size; omega
  have HR1 := Lib.hid (hR1.below ((Below.refl w1.heap.size w1).alloc (Nat.le_refl _) (.cells #[.pointer none, .slice none 0 0] 55)) hb1)
  clear hR1
  go_loopw [] (fun wr => ∃ k : Nat, k ≤ s.size ∧ RdC wr b (bs (esc (sl.drop k) ++ 34 :: l)) ∧ Lib.IsBuilder 55 5 w1.heap.size w1.heap.size (Lib.byteCells (sl.take k)) wr ∧ w1.grownBy wr (some b)) (fun wr => Lib.strSize ((wr.cell? ⟨b, 0, none⟩).getD (.string ⟨#[]⟩)))
  case atStart => exact ⟨0, Nat.zero_le _, HR1.out, Lib.fresh_isBuilder 55 5 w1, World.grownBy_alloc _ _ _⟩
  case round =>
    obtain ⟨k, hk, hR, hB, hgr⟩ := hrel
    have hgs := hgr.size
    by_cases hlt : k < s.size
    · have hkl : k < sl.length := by rw [HZ.out]; exact hlt
      have HX := Lib.hid (esc_at hkl)
      have HT := Lib.hid (show sl.take (k + 1) = sl.take k ++ [sl[k]] from List.take_succ_eq_append_getElem hkl)
      have hpl : (sl.take k).length ≤ 100 := by rw [List.length_take]; omega
      rw [HX.out] at hR
      obtain ⟨X, hX⟩ : ∃ X, X = esc (sl.drop (k + 1)) ++ 34 :: l := ⟨_, rfl⟩
      generalize sl[k] = c at *
      by_cases hc : (c == 34 || c == 92) = true
      · rw [if_pos hc, show [92, c] ++ esc (sl.drop (k + 1)) ++ 34 :: l = 92 :: c :: X by rw [hX]; simp] at hR
        obtain ⟨T0, hT0⟩ : ∃ T, T = bs (92 :: c :: X) := ⟨_, rfl⟩
        obtain ⟨T, hT⟩ : ∃ T, T = bs (c :: X) := ⟨_, rfl⟩
        obtain ⟨p1, p2, p3, p4⟩ := bs_ne hT0
        obtain ⟨q1, q2, q3, q4⟩ := bs_ne hT
        have HS2 := Lib.hid (show Calls Tryz.prog 25 #[.pointer (some ⟨b, 0, none⟩), .string ⟨#[92]⟩] wr fun e w' => e = .returned (.bool true) ∧ RdC w' b T ∧ wr.grownBy w' (some b) from by rw [hT]; exact skip_hit b [92] (c :: X) wr hR)
        rw [← hT0] at hR
        have HS1 := Lib.hid (show Calls Tryz.prog 25 #[.pointer (some ⟨b, 0, none⟩), .string ⟨#[34]⟩] wr fun e w' => e = .returned (.bool false) ∧ w' = wr from skip_miss b (bs [34]) T0 wr hR (miss1 hT0 (by decide)))
        obtain ⟨v, hv, hv2⟩ : ∃ v : Int, (c.toNat : Int) = v ∧ (v = 34 ∨ v = 92) := by
          simp only [Bool.or_eq_true, beq_iff_eq] at hc
          rcases hc with rfl | rfl
          · exact ⟨34, rfl, Or.inl rfl⟩
          · exact ⟨92, rfl, Or.inr rfl⟩
        have hTc : (T[0].toNat : Int) = v := by subst hT; exact hv
        have HV := Lib.hid (show Lib.byteCells [c] = [.int .u8 v] from by rw [← hv]; rfl)
        have HW := Lib.hid (fun (W : World) (hBW : Lib.IsBuilder 55 5 w1.heap.size w1.heap.size (Lib.byteCells (sl.take k)) W) (hsW : w1.heap.size ≤ W.heap.size) => writeByte_any w1.heap.size w1.heap.size (Lib.byteCells (sl.take k)) v W hBW (by rw [byteCells_len]; omega) hsW)
        have HD := Lib.hid (show T.extract 1 T.size = bs X from by rw [hT]; exact bs_drop [c] X)
        have HN := Lib.hid q4
        have HN0 := Lib.hid p4
        have x0 := hR.c0
        clear hc hv hT hT0 hR q4 p4
        rcases hv2 with rfl | rfl
        all_goals
          go_wp2_with (first
            | (go_at_call 25; first
                | ((with_reducible refine HS1.out.mono ?_); rintro e' w2 ⟨rfl, rfl⟩)
                | ((with_reducible refine HS2.out.mono ?_); rintro e' w2 ⟨rfl, hR2, hg2⟩; have x2 := hR2.c0; have y2 := hR2.f0; have hB2 := isB_grown hB hg2 hb1; have hs2 := hg2.size))
            | (go_at_call 73; (with_reducible refine (HW.out _ hB2 (by omega)).mono ?_); rintro e' w3 ⟨rfl, hB3, hb3, _⟩; have hR3 := hR2.below hb3 hb1; have x3 := hR3.c0; have y3 := hR3.f0))
          refine ⟨⟨k + 1, hlt, ?_, ?_, ?_⟩, ?_⟩
          · have hh := hR3.set (T.extract 1 T.size)
            rw [HD.out] at hh ⊢
            rw [← hX]; exact hh
          · rw [HT.out, byteCells_app, HV.out]; exact isB_grown (Or.inr hB3) (grownBy_set _ _ _) hb1
          · exact grownBy_trans (grownBy_low (grownBy_trans hgr hg2) hb3 (Nat.le_refl _)) (grownBy_set _ _ _)
          · rw [(hR3.set (T.extract 1 T.size)).c0, x0]
            simp only [Option.getD_some, Lib.strSize_string]
            rw [HD.out, bs_size, HN0.out, List.length_cons]; omega
      · rw [if_neg hc, show [c] ++ esc (sl.drop (k + 1)) ++ 34 :: l = c :: X by rw [hX]; simp] at hR
        obtain ⟨T, hT⟩ : ∃ T, T = bs (c :: X) := ⟨_, rfl⟩
        rw [← hT] at hR
        have hc34 : c ≠ 34 := by rintro rfl; exact hc rfl
        have hc92 : c ≠ 92 := by rintro rfl; exact hc rfl
        obtain ⟨q1, q2, q3, q4⟩ := bs_ne hT
        have HS1 := Lib.hid (show Calls Tryz.prog 25 #[.pointer (some ⟨b, 0, none⟩), .string ⟨#[34]⟩] wr fun e w' => e = .returned (.bool false) ∧ w' = wr from skip_miss b (bs [34]) T wr hR (miss1 hT hc34))
        have HS2 := Lib.hid (show Calls Tryz.prog 25 #[.pointer (some ⟨b, 0, none⟩), .string ⟨#[92]⟩] wr fun e w' => e = .returned (.bool false) ∧ w' = wr from skip_miss b (bs [92]) T wr hR (miss1 hT hc92))
        have hTc : (T[0].toNat : Int) = (c.toNat : Int) := by subst hT; rfl
        have HW := Lib.hid (writeByte_any w1.heap.size w1.heap.size (Lib.byteCells (sl.take k)) (T[0].toNat : Int) wr hB (by rw [byteCells_len]; omega) hgs)
        rw [hTc] at HW
        have HTC := Lib.hid hTc
        have HD := Lib.hid (show T.extract 1 T.size = bs X from by rw [hT]; exact bs_drop [c] X)
        have HN := Lib.hid q4
        have x0 := hR.c0
        have HR := Lib.hid hR
        clear hc hc34 hc92 hTc hT hR q4
        go_wp2_with (first
          | (go_at_call 25; first
              | ((with_reducible refine HS1.out.mono ?_); rintro e' w2 ⟨rfl, rfl⟩)
              | ((with_reducible refine HS2.out.mono ?_); rintro e' w2 ⟨rfl, rfl⟩))
          | (go_at_call 73; (try rw [HTC.out]); (with_reducible refine HW.out.mono ?_); rintro e' w3 ⟨rfl, hB3, hb3, _⟩; have hR3 := HR.out.below hb3 hb1; have x3 := hR3.c0; have y3 := hR3.f0))
        refine ⟨⟨k + 1, hlt, ?_, ?_, ?_⟩, ?_⟩
        · have hh := hR3.set (T.extract 1 T.size)
          rw [HD.out] at hh ⊢
          rw [← hX]; exact hh
        · rw [HT.out, byteCells_app]; exact isB_grown (Or.inr hB3) (grownBy_set _ _ _) hb1
        · exact grownBy_trans (grownBy_low hgr hb3 (Nat.le_refl _)) (grownBy_set _ _ _)
        · rw [(hR3.set (T.extract 1 T.size)).c0, x0]
          simp only [Option.getD_some, Lib.strSize_string]
          rw [HD.out, bs_size, HN.out]; omega
    · have hkn : k = sl.length := by have := HZ.out; omega
      rw [hkn, esc_end, List.nil_append] at hR
      rw [hkn, List.take_length] at hB
      clear hkn
      have HS1 := Lib.hid (show Calls Tryz.prog 25 #[.pointer (some ⟨b, 0, none⟩), .string ⟨#[34]⟩] wr fun e w' => e = .returned (.bool true) ∧ RdC w' b (bs l) ∧ wr.grownBy w' (some b) from skip_hit b [34] l wr hR)
      have HS := Lib.hid (fun (W : World) (hBW : Lib.IsBuilder 55 5 w1.heap.size w1.heap.size (Lib.byteCells sl) W) (hsW : w1.heap.size ≤ W.heap.size) => Tryz.Builder_String_any w1.heap.size w1.heap.size sl W hBW hsW)
      rw [show (⟨sl.toArray⟩ : ByteArray) = s from HSL.out] at HS
      obtain ⟨T, hT⟩ : ∃ T, T = bs (34 :: l) := ⟨_, rfl⟩
      rw [← hT] at hR
      obtain ⟨q1, q2, q3, q4⟩ := bs_ne hT
      have x0 := hR.c0
      clear hT hR q4
      go_wp2_with (first
        | (go_at_call 25; (with_reducible refine HS1.out.mono ?_); rintro e' w2 ⟨rfl, hR2, hg2⟩; have hB2 := isB_grown hB hg2 hb1; have hs2 := hg2.size)
        | (go_at_call 23; (with_reducible refine (HS.out _ hB2 (by omega)).mono ?_); rintro e' w3 ⟨rfl, hb3⟩))
      go_ret
      exact ⟨rfl, hR2.below hb3 hb1, grownBy_trans hg1 (grownBy_low (grownBy_trans hgr hg2) hb3 (Nat.le_refl _))⟩
end Go.Proofs.YtooilpblbkgloaaGreatDoor

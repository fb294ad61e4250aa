/- What the reference Plained answers. -/
import Derived.Test.YtooilpblbkgloaaDoorPlainR
namespace Go.Proofs.YtooilpblbkgloaaDoor
open Go.RowKit Go.Lib

theorem app_data' (a b : ByteArray) : (a ++ b).data.toList = a.data.toList ++ b.data.toList := by simp

theorem three_size {a b c : UInt8} : (⟨#[a, b, c]⟩ : ByteArray).size = 3 := rfl
theorem one_data {s : ByteArray} {i : Nat} {c : UInt8} {t : List UInt8} (h : s.data.toList.drop i = c :: t) : (s.extract i (i + 1)).data.toList = [c] := by
  rw [Lib.extract_data, h, show i + 1 - i = 1 by omega]; rfl
set_option maxHeartbeats 4000000 in
set_option maxRecDepth 100000 in
theorem plained_any (s : ByteArray) (w : World) (hs : s.size ≤ 70368744177664) :
    Calls Tryd.prog 9 #[.string s] w fun e w' => e = .returned (.string (bs (pl s.data.toList))) ∧ Below w.heap.size w w' := by
  have hl := Lib.hid (Lib.size_eq s)
  go_enter Tryd.func9, Tryd.ntmps9
  go_wp2_with fail
  go_loopw [3, 4] (fun v3 v4 wr => ∃ (o : ByteArray) (i : Nat), v3 = .string o ∧ v4 = .int .i64 i ∧ i ≤ s.size ∧ o.size ≤ 3 * i ∧ o.data.toList ++ pl (s.data.toList.drop i) = pl s.data.toList ∧ wr.cell? ⟨w.heap.size, 0, none⟩ = some (.string s) ∧ w.heap.size < wr.heap.size ∧ Below w.heap.size w wr) (fun _ v _ => s.size - (RowKit.intOf v).toNat)
  case atStart => exact ⟨⟨#[]⟩, 0, rfl, rfl, Nat.zero_le _, Nat.zero_le _, rfl, by go_simp, by simp, (Below.refl _ _).alloc (Nat.le_refl _) _⟩
  case round =>
    obtain ⟨o, i, rfl, rfl, hi, ho, heq, hbox, hsz, hbw⟩ := hrel
    have HEQ := Lib.hid heq
    clear heq
    by_cases hlt : i < s.size
    · have hil : i < s.data.toList.length := by rw [← hl.out]; exact hlt
      have hx0 : ∀ x, (wr.alloc (.cells #[x] 3)).cell? ⟨w.heap.size, 0, none⟩ = some (.string s) := fun x => by rw [World.cell?_alloc_lt _ _ _ hsz]; exact hbox
      have hx1 : ∀ x, (wr.alloc (.cells #[x] 3)).cell? ⟨wr.heap.size, 0, none⟩ = some x := fun x => by go_simp
      have HD := Lib.hid (digitsD s i wr.heap.size w.heap.size (wr.alloc (.cells #[.int .i64 i] 3)) (by omega) hi (hx1 _) (hx0 _))
      have hb1 := Lib.hid (fun x => hbw.alloc (o := .cells #[x] 3) (Nat.le_of_lt hsz))
      have hs1 : ∀ x, w.heap.size < (wr.alloc (.cells #[x] 3)).heap.size := fun x => by simp; omega
      have HS1 := Lib.hid hs1
      clear hs1
      have HX0 := Lib.hid hx0

      have hne : s.data.toList.drop i ≠ [] := by rw [List.drop_eq_getElem_cons hil]; exact List.cons_ne_nil _ _
      have HPL := Lib.hid (show o.data.toList ++ (tok (s.data.toList.drop i)).1 ++ pl (s.data.toList.drop (i + (tok (s.data.toList.drop i)).2)) = pl s.data.toList by
        rw [← HEQ.out, pl_cons hne, List.drop_drop, List.append_assoc])
      have htp := tok_pos (s.data.toList.drop i)
      have htl := tok_le hne
      rw [List.length_drop, ← hl.out] at htl
      have HP := Lib.hid (fun W => Tryd.strings_HasPrefix (s.extract i s.size) ⟨#[48, 120]⟩ W)
      rw [extract_drop, show (⟨#[48, 120]⟩ : ByteArray).data.toList = [48, 120] from rfl] at HP
      obtain ⟨c, t, ht⟩ : ∃ c t, s.data.toList.drop i = c :: t := ⟨_, _, List.drop_eq_getElem_cons hil⟩
      have HT := Lib.hid ht
      have htl2 : s.size = i + t.length + 1 := by have := congrArg List.length ht; rw [List.length_drop, List.length_cons, ← hl.out] at this; omega
      have HTL := Lib.hid htl2
      have htb : t.length < s.size := by omega
      have HC := Lib.hid (show s[i] = c by have h2 := List.drop_eq_getElem_cons hil; rw [ht] at h2; exact (List.cons.inj h2).1.symm)
      have HD1 := Lib.hid (show s.data.toList.drop (i + 1) = t by rw [← List.drop_drop, ht]; rfl)
      have HI := Lib.hid (fun W => Tryd.strings_IndexByte (s.extract (i + 1) s.size) 34 W)
      rw [extract_drop, HD1.out] at HI
      have HJ := Lib.hid (idx_index 34 t)
      have hz1 : (i : Int) + 1 ≤ (s.size : Int) := by omega
      have hz2 : (i : Int) ≤ (i : Int) + 1 := by omega
      clear hne htl2

      cases hp : Lib.hasPrefix (s.data.toList.drop i) [48, 120]
      · have hna : ¬ ((s.data.toList.drop i).take 2 = [48, 120] ∧ 0 < run hx ((s.data.toList.drop i).drop 2)) := fun h => by rw [pre2.2 h.1] at hp; cases hp
        rw [hp] at HP
        clear hp
        by_cases hd : 0 < run dg (s.data.toList.drop i)
        · have HV := Lib.hid (tok_n hna hd)
          have hrl : run dg (s.data.toList.drop i) ≤ s.size - i := by have := run_le dg (s.data.toList.drop i); rwa [List.length_drop, ← hl.out] at this
          rw [HV.out] at HPL htp htl
          simp only at HPL htp htl
          clear hna ht
          generalize run dg (s.data.toList.drop i) = n at *
          have hdec : decide ((i : Int) < (i : Int) + (n : Int)) = true := decide_eq_true (by omega)
          go_wp2_with (first
            | (go_at_call 21; refine (HP.out _).mono ?_; rintro e w1 ⟨rfl, rfl⟩)
            | (go_at_call 19; (with_reducible refine HD.out.mono ?_); rintro e w3 ⟨rfl, rfl⟩)
            | (go_at_call 20; refine (HI.out _).mono ?_; rintro e w4 ⟨rfl, rfl⟩))
          all_goals first | (exfalso; omega; done) | exact ⟨⟨o ++ ⟨#[60, 110, 62]⟩, i + n, rfl, by go_num, by omega, by rw [ByteArray.size_append, three_size]; omega, by rw [app_data']; exact HPL.out, HX0.out _, HS1.out _, hb1.out _⟩, by simp [RowKit.intOf]; omega⟩
        · have hd0 : run dg (s.data.toList.drop i) = 0 := by omega
          rw [hd0] at HD
          rw [ht] at hna hd HPL htp htl
          clear hd0 ht
          by_cases hc : c = 34
          · have hq : ((s[i].toNat : Int) == 34) = true := by rw [HC.out, hc]; rfl
            subst hc
            cases hj : idx 34 t with
            | some n =>
              have HV := Lib.hid (tok_s hna hd hj)
              rw [HV.out] at HPL htp htl
              simp only at HPL htp htl
              have hn : n < t.length := idx_lt hj
              rw [show Lib.indexByte t (34 : Int).toNat.toUInt8 = (n : Int) from (HJ.out).trans (by rw [hj])] at HI
              clear hj hd hna
              go_wp2_with (first
                | (go_at_call 21; refine (HP.out _).mono ?_; rintro e w1 ⟨rfl, rfl⟩)
                | (go_at_call 19; (with_reducible refine HD.out.mono ?_); rintro e w3 ⟨rfl, rfl⟩)
                | (go_at_call 20; refine (HI.out _).mono ?_; rintro e w4 ⟨rfl, rfl⟩))
              all_goals first | (exfalso; omega; done) | exact ⟨⟨o ++ ⟨#[60, 115, 62]⟩, i + (n + 2), rfl, by go_num, by omega, by rw [ByteArray.size_append, three_size]; omega, by rw [app_data']; exact HPL.out, HX0.out _, HS1.out _, hb1.out _⟩, by simp [RowKit.intOf]; omega⟩
            | none =>
              have HV := Lib.hid (tok_q hna hd hj)
              rw [HV.out] at HPL htp htl
              simp only at HPL htp htl
              rw [show Lib.indexByte t (34 : Int).toNat.toUInt8 = -1 from (HJ.out).trans (by rw [hj])] at HI
              have HE := Lib.hid (one_data HT.out)
              clear hj hd hna
              go_wp2_with (first
                | (go_at_call 21; refine (HP.out _).mono ?_; rintro e w1 ⟨rfl, rfl⟩)
                | (go_at_call 19; (with_reducible refine HD.out.mono ?_); rintro e w3 ⟨rfl, rfl⟩)
                | (go_at_call 20; refine (HI.out _).mono ?_; rintro e w4 ⟨rfl, rfl⟩))
              all_goals first | (exfalso; omega; done) | exact ⟨⟨o ++ s.extract i (i + 1), i + 1, rfl, by go_num, by omega, by rw [ByteArray.size_append]; first | (rw [three_size]; omega) | (rw [ByteArray.size_extract]; omega), by rw [app_data', HE.out]; exact HPL.out, HX0.out _, HS1.out _, hb1.out _⟩, by simp [RowKit.intOf]; omega⟩
          · have hq : ((s[i].toNat : Int) == 34) = false := by rw [HC.out]; exact u8_ne hc
            have HV := Lib.hid (tok_1 hna hd hc)
            rw [HV.out] at HPL htp htl
            simp only at HPL htp htl
            have HE := Lib.hid (one_data HT.out)
            clear hd hna hc
            go_wp2_with (first
              | (go_at_call 21; refine (HP.out _).mono ?_; rintro e w1 ⟨rfl, rfl⟩)
              | (go_at_call 19; (with_reducible refine HD.out.mono ?_); rintro e w3 ⟨rfl, rfl⟩)
              | (go_at_call 20; refine (HI.out _).mono ?_; rintro e w4 ⟨rfl, rfl⟩))
            all_goals first | (exfalso; omega; done) | exact ⟨⟨o ++ s.extract i (i + 1), i + 1, rfl, by go_num, by omega, by rw [ByteArray.size_append]; first | (rw [three_size]; omega) | (rw [ByteArray.size_extract]; omega), by rw [app_data', HE.out]; exact HPL.out, HX0.out _, HS1.out _, hb1.out _⟩, by simp [RowKit.intOf]; omega⟩
      · rw [hp] at HP
        have h2 : (s.data.toList.drop i).take 2 = [48, 120] := pre2.1 hp
        have hi2 : i + 2 ≤ s.size := by have := congrArg List.length h2; rw [List.length_take, List.length_drop, ← hl.out] at this; simp at this; omega
        have HH := Lib.hid (digitsH s (i + 2) wr.heap.size w.heap.size (wr.alloc (.cells #[.int .i64 (i + 2 : Nat)] 3)) (by omega) hi2 (hx1 _) (hx0 _))
        rw [show (((i + 2 : Nat) : Int)) = (i : Int) + 2 from rfl] at HH
        have HDD := Lib.hid (show (s.data.toList.drop i).drop 2 = s.data.toList.drop (i + 2) from List.drop_drop)
        clear hp
        by_cases hr : 0 < run hx (s.data.toList.drop (i + 2))
        · have HV := Lib.hid (tok_a h2 (by rw [HDD.out]; exact hr))
          have hrl : run hx (s.data.toList.drop (i + 2)) ≤ s.size - (i + 2) := by have := run_le hx (s.data.toList.drop (i + 2)); rwa [List.length_drop, ← hl.out] at this
          rw [HV.out, HDD.out] at HPL
          rw [HV.out, HDD.out] at htp htl
          simp only at HPL htp htl
          clear h2 ht
          generalize run hx (s.data.toList.drop (i + 2)) = n at *
          have hdec : decide ((i : Int) + 2 < (i : Int) + 2 + (n : Int)) = true := decide_eq_true (by omega)
          go_wp2_with (first
            | (go_at_call 21; refine (HP.out _).mono ?_; rintro e w1 ⟨rfl, rfl⟩)
            | (go_at_call 19; (with_reducible refine HH.out.mono ?_); rintro e w2 ⟨rfl, rfl⟩))
          all_goals first | (exfalso; omega; done) | exact ⟨⟨o ++ ⟨#[60, 97, 62]⟩, i + (2 + n), rfl, by go_num, by omega, by rw [ByteArray.size_append, three_size]; omega, by rw [app_data']; exact HPL.out, HX0.out _, HS1.out _, hb1.out _⟩, by simp [RowKit.intOf]; omega⟩
        · have hna : ¬ ((s.data.toList.drop i).take 2 = [48, 120] ∧ 0 < run hx ((s.data.toList.drop i).drop 2)) := fun h => hr (by rw [← HDD.out]; exact h.2)
          have hr0 : run hx (s.data.toList.drop (i + 2)) = 0 := by omega
          rw [hr0] at HH
          clear h2 hr hr0
          by_cases hd : 0 < run dg (s.data.toList.drop i)
          · have HV := Lib.hid (tok_n hna hd)
            have hrl : run dg (s.data.toList.drop i) ≤ s.size - i := by have := run_le dg (s.data.toList.drop i); rwa [List.length_drop, ← hl.out] at this
            rw [HV.out] at HPL htp htl
            simp only at HPL htp htl
            clear hna ht
            generalize run dg (s.data.toList.drop i) = n at *
            have hdec : decide ((i : Int) < (i : Int) + (n : Int)) = true := decide_eq_true (by omega)
            go_wp2_with (first
              | (go_at_call 21; refine (HP.out _).mono ?_; rintro e w1 ⟨rfl, rfl⟩)
              | (go_at_call 19; (with_reducible refine HH.out.mono ?_); rintro e w2 ⟨rfl, rfl⟩)
              | (go_at_call 19; (with_reducible refine HD.out.mono ?_); rintro e w3 ⟨rfl, rfl⟩)
              | (go_at_call 20; refine (HI.out _).mono ?_; rintro e w4 ⟨rfl, rfl⟩))
            all_goals first | (exfalso; omega; done) | exact ⟨⟨o ++ ⟨#[60, 110, 62]⟩, i + n, rfl, by go_num, by omega, by rw [ByteArray.size_append, three_size]; omega, by rw [app_data']; exact HPL.out, HX0.out _, HS1.out _, hb1.out _⟩, by simp [RowKit.intOf]; omega⟩
          · have hd0 : run dg (s.data.toList.drop i) = 0 := by omega
            rw [hd0] at HD
            rw [ht] at hna hd HPL htp htl
            clear hd0 ht
            by_cases hc : c = 34
            · have hq : ((s[i].toNat : Int) == 34) = true := by rw [HC.out, hc]; rfl
              subst hc
              cases hj : idx 34 t with
              | some n =>
                have HV := Lib.hid (tok_s hna hd hj)
                rw [HV.out] at HPL htp htl
                simp only at HPL htp htl
                have hn : n < t.length := idx_lt hj
                rw [show Lib.indexByte t (34 : Int).toNat.toUInt8 = (n : Int) from (HJ.out).trans (by rw [hj])] at HI
                clear hj hd hna
                go_wp2_with (first
                  | (go_at_call 21; refine (HP.out _).mono ?_; rintro e w1 ⟨rfl, rfl⟩)
                  | (go_at_call 19; (with_reducible refine HH.out.mono ?_); rintro e w2 ⟨rfl, rfl⟩)
                  | (go_at_call 19; (with_reducible refine HD.out.mono ?_); rintro e w3 ⟨rfl, rfl⟩)
                  | (go_at_call 20; refine (HI.out _).mono ?_; rintro e w4 ⟨rfl, rfl⟩))
                all_goals first | (exfalso; omega; done) | exact ⟨⟨o ++ ⟨#[60, 115, 62]⟩, i + (n + 2), rfl, by go_num, by omega, by rw [ByteArray.size_append, three_size]; omega, by rw [app_data']; exact HPL.out, HX0.out _, HS1.out _, hb1.out _⟩, by simp [RowKit.intOf]; omega⟩
              | none =>
                have HV := Lib.hid (tok_q hna hd hj)
                rw [HV.out] at HPL htp htl
                simp only at HPL htp htl
                rw [show Lib.indexByte t (34 : Int).toNat.toUInt8 = -1 from (HJ.out).trans (by rw [hj])] at HI
                have HE := Lib.hid (one_data HT.out)
                clear hj hd hna
                go_wp2_with (first
                  | (go_at_call 21; refine (HP.out _).mono ?_; rintro e w1 ⟨rfl, rfl⟩)
                  | (go_at_call 19; (with_reducible refine HH.out.mono ?_); rintro e w2 ⟨rfl, rfl⟩)
                  | (go_at_call 19; (with_reducible refine HD.out.mono ?_); rintro e w3 ⟨rfl, rfl⟩)
                  | (go_at_call 20; refine (HI.out _).mono ?_; rintro e w4 ⟨rfl, rfl⟩))
                all_goals first | (exfalso; omega; done) | exact ⟨⟨o ++ s.extract i (i + 1), i + 1, rfl, by go_num, by omega, by rw [ByteArray.size_append]; first | (rw [three_size]; omega) | (rw [ByteArray.size_extract]; omega), by rw [app_data', HE.out]; exact HPL.out, HX0.out _, HS1.out _, hb1.out _⟩, by simp [RowKit.intOf]; omega⟩
            · have hq : ((s[i].toNat : Int) == 34) = false := by rw [HC.out]; exact u8_ne hc
              have HV := Lib.hid (tok_1 hna hd hc)
              rw [HV.out] at HPL htp htl
              simp only at HPL htp htl
              have HE := Lib.hid (one_data HT.out)
              clear hd hna hc
              go_wp2_with (first
                | (go_at_call 21; refine (HP.out _).mono ?_; rintro e w1 ⟨rfl, rfl⟩)
                | (go_at_call 19; (with_reducible refine HH.out.mono ?_); rintro e w2 ⟨rfl, rfl⟩)
                | (go_at_call 19; (with_reducible refine HD.out.mono ?_); rintro e w3 ⟨rfl, rfl⟩)
                | (go_at_call 20; refine (HI.out _).mono ?_; rintro e w4 ⟨rfl, rfl⟩))
              all_goals first | (exfalso; omega; done) | exact ⟨⟨o ++ s.extract i (i + 1), i + 1, rfl, by go_num, by omega, by rw [ByteArray.size_append]; first | (rw [three_size]; omega) | (rw [ByteArray.size_extract]; omega), by rw [app_data', HE.out]; exact HPL.out, HX0.out _, HS1.out _, hb1.out _⟩, by simp [RowKit.intOf]; omega⟩
    · have HE2 := Lib.hid (show o = bs (pl s.data.toList) by
        have h1 := HEQ.out
        rw [List.drop_eq_nil_of_le (by rw [← hl.out]; omega), pl_nil, List.append_nil] at h1
        rw [← h1]
        exact (Lib.mk_data o).symm)
      go_wp2_with fail
      go_ret
      exact ⟨by rw [← HE2.out]; rfl, hbw⟩
end Go.Proofs.YtooilpblbkgloaaDoor

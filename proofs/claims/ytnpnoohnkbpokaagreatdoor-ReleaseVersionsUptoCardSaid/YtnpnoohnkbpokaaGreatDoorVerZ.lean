/- What parse takes is what VersionOf takes, and both make the same version of it: as lists of bytes. -/
import Derived.Test.YtnpnoohnkbpokaaGreatDoorVerI
import Derived.Test.YtnpnoohnkbpokaaGreatDoorVerY
import Derived.Lib.SplitLaws
import Derived.Lib.Split
import Derived.Lib.LastIndexByte
import Derived.Lib.IndexBytes
namespace Go.Proofs.YtnpnoohnkbpokaaGreatDoor
open Go.Lib


theorem bs_of (s : ByteArray) : bs s.data.toList = s := by
  obtain ⟨d⟩ := s
  simp [bs]
theorem ext_bs (l : List UInt8) (a b : Nat) : (bs l).extract a b = bs ((l.take b).drop a) := by
  rw [← bs_of ((bs l).extract a b), Lib.extract_data, bs_data]
  simp [List.drop_take]

theorem ib_app : ∀ (a : List UInt8) (c : UInt8) (b : List UInt8), c ∉ a → Lib.indexByte (a ++ c :: b) c = a.length
  | [], c, b, _ => by simp [Lib.indexByte]
  | x :: a, c, b, h => by
    have hx : (x == c) = false := by rw [beq_eq_false_iff_ne]; intro e; exact h (by simp [e])
    have ih := ib_app a c b (fun k => h (List.mem_cons_of_mem _ k))
    show (if (x == c) = true then (0 : Int) else if (Lib.indexByte (a ++ c :: b) c == -1) = true then -1 else Lib.indexByte (a ++ c :: b) c + 1) = _
    rw [hx, ih]
    have h2 : (((a.length : Nat) : Int) == -1) = false := by rw [beq_eq_false_iff_ne]; omega
    rw [h2]; simp
theorem ib_no : ∀ (a : List UInt8) (c : UInt8), c ∉ a → Lib.indexByte a c = -1
  | [], _, _ => rfl
  | x :: a, c, h => by
    have hx : (x == c) = false := by rw [beq_eq_false_iff_ne]; intro e; exact h (by simp [e])
    have ih := ib_no a c (fun k => h (List.mem_cons_of_mem _ k))
    show (if (x == c) = true then (0 : Int) else if (Lib.indexByte a c == -1) = true then -1 else Lib.indexByte a c + 1) = _
    rw [hx, ih]; rfl
theorem fall (l : List UInt8) (c : UInt8) : (∃ a b, l = a ++ c :: b ∧ c ∉ a) ∨ c ∉ l := by
  by_cases h : c ∈ l
  · obtain ⟨a, b, h1, h2⟩ := List.append_of_mem h |> fun _ => List.eq_append_cons_of_mem h
    exact Or.inl ⟨a, b, h1, h2⟩
  · exact Or.inr h
theorem fall_last (l : List UInt8) (c : UInt8) : (∃ a b, l = a ++ c :: b ∧ c ∉ b) ∨ c ∉ l := by
  rcases fall l.reverse c with ⟨a, b, h1, h2⟩ | h
  · refine Or.inl ⟨b.reverse, a.reverse, ?_, by simpa using h2⟩
    have := congrArg List.reverse h1
    simpa using this
  · exact Or.inr (by simpa using h)
theorem cut_app (a : List UInt8) (c : UInt8) (b : List UInt8) (h : c ∉ a) : Lib.cut (a ++ c :: b) [c] = (a, b, true) := by
  unfold Lib.cut
  rw [Lib.index_one, ib_app a c b h, if_pos (by omega)]
  simp
theorem cut_no (a : List UInt8) (c : UInt8) (h : c ∉ a) : Lib.cut a [c] = (a, [], false) := by
  unfold Lib.cut
  rw [Lib.index_one, ib_no a c h]
  rfl
theorem at_bs (l : List UInt8) (j : Nat) (hj : j < l.length) : (bs l).data[j]! = l[j] := by
  have h : j < l.toArray.size := by simpa using hj
  show l.toArray[j]! = l[j]
  rw [getElem!_pos l.toArray j h]
  simp
theorem lb_app (a : List UInt8) (b : List UInt8) (h : (45 : UInt8) ∉ b) : Lib.lastIndexByte (bs (a ++ 45 :: b)) 45 = a.length := by
  have hs := bs_size (a ++ 45 :: b)
  have hl : (a ++ 45 :: b).length = a.length + (b.length + 1) := by simp
  rcases Lib.lastIndexByte_spec (bs (a ++ 45 :: b)) 45 with ⟨_, h2⟩ | ⟨i, hi, h1, h2, h3⟩
  · have := h2 a.length (by omega)
    rw [at_bs _ _ (by omega)] at this
    simp at this
  · rw [h1]
    rw [at_bs _ _ (by omega)] at h2
    by_cases hc : i < a.length
    · have := h3 a.length hc (by omega)
      rw [at_bs _ _ (by omega)] at this
      simp at this
    · by_cases he : i = a.length
      · rw [he]
      · exfalso
        obtain ⟨k, rfl⟩ : ∃ k, i = a.length + (k + 1) := ⟨i - a.length - 1, by omega⟩
        have hk : k < b.length := by omega
        have e : (a ++ 45 :: b)[a.length + (k + 1)]'(by omega) = b[k] := by
          rw [List.getElem_append_right (by omega)]
          simp
        rw [e] at h2
        have e2 : b[k] = 45 := by apply UInt8.toNat_inj.1; have : (b[k].toNat : Int) = 45 := h2; show b[k].toNat = 45; omega
        exact h (e2 ▸ List.getElem_mem hk)
theorem lb_no (b : List UInt8) (h : (45 : UInt8) ∉ b) : Lib.lastIndexByte (bs b) 45 = -1 := by
  have hs := bs_size b
  rcases Lib.lastIndexByte_spec (bs b) 45 with ⟨h1, _⟩ | ⟨i, hi, h1, h2, h3⟩
  · exact h1
  · exfalso
    rw [at_bs _ _ (by omega)] at h2
    have hk : i < b.length := by omega
    have e2 : b[i] = 45 := by apply UInt8.toNat_inj.1; have : (b[i].toNat : Int) = 45 := h2; show b[i].toNat = 45; omega
    exact h (e2 ▸ List.getElem_mem hk)

theorem splitL_no (l : List UInt8) (c : UInt8) (h : c ∉ l) : splitL (bs l) c = [bs l] := by
  unfold splitL
  refine Lib.splitB_miss _ _ _ _ ?_
  show Lib.index (bs l).data.toList [c] = -1
  rw [bs_data, Lib.index_one, ib_no l c h]
theorem splitL_app (a : List UInt8) (c : UInt8) (b : List UInt8) (h : c ∉ a) : splitL (bs (a ++ c :: b)) c = bs a :: splitL (bs b) c := by
  unfold splitL
  have hc : Lib.countB (bs (a ++ c :: b)) ⟨#[c]⟩ = Lib.countB (bs b) ⟨#[c]⟩ + 1 := by
    show Lib.count (bs (a ++ c :: b)).data.toList [c] = Lib.count (bs b).data.toList [c] + 1
    rw [bs_data, bs_data, Lib.count_one, Lib.count_one, List.count_append, List.count_cons_self, List.count_eq_zero_of_not_mem h]
    omega
  have hi : Lib.indexB (bs (a ++ c :: b)) ⟨#[c]⟩ = ((a.length : Nat) : Int) := by
    show Lib.index (bs (a ++ c :: b)).data.toList [c] = _
    rw [bs_data, Lib.index_one, ib_app a c b h]
  rw [hc, Lib.splitB_hit _ _ _ _ _ hi]
  have h1 : (bs (a ++ c :: b)).extract 0 (a.length + 0) = bs a := by rw [ext_bs]; simp
  have h2 : (bs (a ++ c :: b)).extract (a.length + (⟨#[c]⟩ : ByteArray).size) (bs (a ++ c :: b)).size = bs b := by
    rw [ext_bs, bs_size, List.take_length]
    show bs (List.drop (a.length + 1) _) = _
    simp
  rw [h1, h2]
theorem splitL_ne (s : ByteArray) (c : UInt8) : splitL s c ≠ [] := by
  rw [← bs_of s]
  rcases fall s.data.toList c with ⟨a, b, h1, h2⟩ | h
  · rw [h1, splitL_app _ _ _ h2]; simp
  · rw [splitL_no _ _ h]; simp
/-- What splits into three. -/
theorem splitL_three (l : List UInt8) (c : UInt8) (h : (splitL (bs l) c).length = 3) : ∃ a b d, l = a ++ c :: (b ++ c :: d) ∧ c ∉ a ∧ c ∉ b ∧ c ∉ d := by
  rcases fall l c with ⟨a, l1, rfl, ha⟩ | h0
  · rw [splitL_app _ _ _ ha] at h
    rcases fall l1 c with ⟨b, d, rfl, hb⟩ | h0
    · rw [splitL_app _ _ _ hb] at h
      rcases fall d c with ⟨e, f, rfl, he⟩ | h0
      · rw [splitL_app _ _ _ he] at h
        have := splitL_ne (bs f) c
        cases hz : splitL (bs f) c with
        | nil => exact absurd hz this
        | cons x xs => rw [hz] at h; simp at h
      · exact ⟨a, b, d, rfl, ha, hb, h0⟩
    · rw [splitL_no _ _ h0] at h; simp at h
  · rw [splitL_no _ _ h0] at h; simp at h
/-- What holds for the separator and all bytes of the parts holds for all bytes. -/
theorem splitL_all (p : UInt8 → Bool) (c : UInt8) (hc : p c = true) : ∀ (n : Nat) (l : List UInt8), l.length ≤ n → (∀ x ∈ splitL (bs l) c, x.data.toList.all p = true) → l.all p = true
  | 0, l, hn, _ => by
    obtain rfl : l = [] := List.length_eq_zero_iff.1 (by omega)
    rfl
  | n + 1, l, hn, h => by
    rcases fall l c with ⟨a, b, rfl, ha⟩ | h0
    · rw [splitL_app _ _ _ ha] at h
      have h1 := h _ (List.mem_cons_self ..)
      rw [bs_data] at h1
      have h2 := splitL_all p c hc n b (by simp at hn; omega) (fun x hx => h x (List.mem_cons_of_mem _ hx))
      rw [List.all_append, List.all_cons, h1, hc, h2]; rfl
    · rw [splitL_no _ _ h0] at h
      have h1 := h _ (List.mem_cons_self ..)
      rwa [bs_data] at h1
theorem dg_not {l : List UInt8} (c : UInt8) (h : l.all dg = true) (hc : dg c = false) : c ∉ l := fun k => by
  have := List.all_eq_true.1 h c k
  rw [hc] at this; cases this
def tl : Option (List UInt8) → List UInt8
  | none => []
  | some p => 45 :: p
/-- A text that has the parts of a version. -/
structure Frm (s : ByteArray) (j m mi pa : List UInt8) (t : Option (List UInt8)) : Prop where
  e : s = bs (j ++ 45 :: (m ++ 46 :: (mi ++ 46 :: (pa ++ tl t))))
  j46 : (46 : UInt8) ∉ j
  m46 : (46 : UInt8) ∉ m
  m45 : (45 : UInt8) ∉ m
  mi46 : (46 : UInt8) ∉ mi
  mi45 : (45 : UInt8) ∉ mi
  pa46 : (46 : UInt8) ∉ pa
  pa45 : (45 : UInt8) ∉ pa
theorem not_app {a b : List UInt8} {c : UInt8} (h1 : c ∉ a) (h2 : c ∉ b) : c ∉ a ++ b := by
  rw [List.mem_append]; rintro (h | h)
  · exact h1 h
  · exact h2 h
theorem not_cons {b : List UInt8} {c d : UInt8} (h1 : c ≠ d) (h2 : c ∉ b) : c ∉ d :: b := by
  rw [List.mem_cons]; rintro (h | h)
  · exact h1 h
  · exact h2 h
theorem cut_tl (a : List UInt8) (t : Option (List UInt8)) (h : (45 : UInt8) ∉ a) : Lib.cut (a ++ tl t) [45] = (a, t.getD [], t.isSome) := by
  cases t with
  | none => show Lib.cut (a ++ []) [45] = _; rw [List.append_nil, cut_no _ _ h]; rfl
  | some p => show Lib.cut (a ++ 45 :: p) [45] = _; rw [cut_app _ _ _ h]; rfl

structure Parts (s : ByteArray) (j m mi pa : List UInt8) (t : Option (List UInt8)) : Prop where
  pj : pJ s = bs j
  pm : pM s = bs m
  pmi : pMI s = bs mi
  ppa : pPA s = bs pa
  pe : pE s = t.isSome
  ppr : pPR s = bs (t.getD [])
  pd : pD s = j.length
  qd : qDash s = j.length
  rj : rJ s = bs j
  rw' : rW s = [bs m, bs mi, bs pa]
  rh : rHas s = t.isSome
  rpr : rPR s = bs (t.getD [])
theorem Frm.parts {s : ByteArray} {j m mi pa : List UInt8} {t : Option (List UInt8)} (h : Frm s j m mi pa t) : Parts s j m mi pa t := by
  have h46 : (46 : UInt8) ∉ j ++ 45 :: m := not_app h.j46 (not_cons (by decide) h.m46)
  have eS : s.data.toList = (j ++ 45 :: m) ++ 46 :: (mi ++ 46 :: (pa ++ tl t)) := by rw [h.e, bs_data]; simp
  have c1 : Lib.cut s.data.toList [46] = (j ++ 45 :: m, mi ++ 46 :: (pa ++ tl t), true) := by rw [eS]; exact cut_app _ _ _ h46
  have eH : pH s = bs (j ++ 45 :: m) := by unfold pH; rw [c1]
  have eR1 : pR1 s = bs (mi ++ 46 :: (pa ++ tl t)) := by unfold pR1; rw [c1]
  have c2 : Lib.cut (pR1 s).data.toList [46] = (mi, pa ++ tl t, true) := by rw [eR1, bs_data]; exact cut_app _ _ _ h.mi46
  have eMI : pMI s = bs mi := by unfold pMI; rw [c2]
  have eR2 : pR2 s = bs (pa ++ tl t) := by unfold pR2; rw [c2]
  have c3 : Lib.cut (pR2 s).data.toList [45] = (pa, t.getD [], t.isSome) := by rw [eR2, bs_data]; exact cut_tl _ _ h.pa45
  have eD : pD s = j.length := by unfold pD; rw [eH]; exact lb_app _ _ h.m45
  have eDot : qDot s = ((j ++ 45 :: m).length : Nat) := by unfold qDot; rw [eS]; exact ib_app _ _ _ h46
  have eT : qT s = bs (j ++ 45 :: m) := by
    unfold qT
    rw [eDot, Int.toNat_natCast, show s = bs ((j ++ 45 :: m) ++ 46 :: (mi ++ 46 :: (pa ++ tl t))) by rw [h.e]; simp, ext_bs, List.drop_zero, List.take_left]
  have eQ : qDash s = j.length := by unfold qDash; rw [eT]; exact lb_app _ _ h.m45
  have eX : rX s = bs (m ++ 46 :: (mi ++ 46 :: (pa ++ tl t))) := by
    unfold rX
    rw [eQ, h.e, ext_bs, bs_size, List.take_length]
    show bs (List.drop (j.length + 1) _) = _
    simp
  have e45 : (45 : UInt8) ∉ m ++ 46 :: (mi ++ 46 :: pa) := not_app h.m45 (not_cons (by decide) (not_app h.mi45 (not_cons (by decide) h.pa45)))
  have c4 : Lib.cut (rX s).data.toList [45] = (m ++ 46 :: (mi ++ 46 :: pa), t.getD [], t.isSome) := by
    rw [eX, bs_data, show m ++ 46 :: (mi ++ 46 :: (pa ++ tl t)) = (m ++ 46 :: (mi ++ 46 :: pa)) ++ tl t by simp]
    exact cut_tl _ _ e45
  constructor
  · unfold pJ; rw [eH, eD, ext_bs]; simp
  · unfold pM; rw [eH, eD, ext_bs, bs_size, List.take_length]
    show bs (List.drop (j.length + 1) _) = _
    simp
  · exact eMI
  · unfold pPA; rw [c3]
  · unfold pE; rw [c3]
  · unfold pPR; rw [c3]
  · exact eD
  · exact eQ
  · unfold rJ; rw [eQ, h.e, ext_bs]; simp
  · unfold rW rA; rw [c4, splitL_app _ _ _ h.m46, splitL_app _ _ _ h.mi46, splitL_no _ _ h.pa46]
  · unfold rHas; rw [c4]
  · unfold rPR; rw [c4]

theorem numOk_nil (n : Nat) : numOk n [] = false := rfl
theorem bs_inj {a b : List UInt8} (h : bs a = bs b) : a = b := by
  have := congrArg (fun x => x.data.toList) h
  simpa [bs_data] using this

/-- What parse takes has such parts. -/
theorem frm_of_parse (s : ByteArray) (h : parseOk s = true) : ∃ j m mi pa t, Frm s j m mi pa t := by
  unfold parseOk at h
  split at h
  · cases h
  rename_i hc
  unfold vrOk at h
  simp only [Bool.and_eq_true] at h
  obtain ⟨⟨⟨hM, hMI⟩, hPA⟩, hP, _⟩ := h
  rcases fall s.data.toList 46 with ⟨a, r1, e1, ha⟩ | h0
  rotate_left
  · have c1 := cut_no _ _ h0
    unfold pMI pR1 at hMI
    rw [c1, bs_data, bs_data, cut_no [] 46 (by simp)] at hMI
    cases hMI
  have c1 : Lib.cut s.data.toList [46] = (a, r1, true) := by rw [e1]; exact cut_app _ _ _ ha
  have eH : pH s = bs a := by unfold pH; rw [c1]
  have eR1 : pR1 s = bs r1 := by unfold pR1; rw [c1]
  rcases fall r1 46 with ⟨mi, r2, e2, hmi⟩ | h0
  rotate_left
  · unfold pPA pR2 at hPA
    rw [eR1, bs_data (Lib.cut _ _).1, bs_data r1, cut_no _ _ h0, bs_data, cut_no [] 45 (by simp)] at hPA
    cases hPA
  have c2 : Lib.cut (pR1 s).data.toList [46] = (mi, r2, true) := by rw [eR1, bs_data, e2]; exact cut_app _ _ _ hmi
  have eMI : pMI s = bs mi := by unfold pMI; rw [c2]
  have eR2 : pR2 s = bs r2 := by unfold pR2; rw [c2]
  obtain ⟨pa, t, e3, h3⟩ : ∃ pa t, r2 = pa ++ tl t ∧ (45 : UInt8) ∉ pa := by
    rcases fall r2 45 with ⟨pa, pr, e3, h3⟩ | h0
    · exact ⟨pa, some pr, e3, h3⟩
    · exact ⟨r2, none, by simp [tl], h0⟩
  have c3 : Lib.cut (pR2 s).data.toList [45] = (pa, t.getD [], t.isSome) := by rw [eR2, bs_data, e3]; exact cut_tl _ _ h3
  have ePA : pPA s = bs pa := by unfold pPA; rw [c3]
  rcases fall_last a 45 with ⟨j, m, e4, h4⟩ | h0
  rotate_left
  · exact absurd (Or.inr (show pD s < 0 by unfold pD; rw [eH, lb_no _ h0]; decide)) hc
  have eD : pD s = j.length := by unfold pD; rw [eH, e4]; exact lb_app _ _ h4
  have eM : pM s = bs m := by
    unfold pM; rw [eH, eD, e4, ext_bs, bs_size, List.take_length]
    show bs (List.drop (j.length + 1) _) = _
    simp
  rw [eM, bs_data] at hM
  rw [eMI, bs_data] at hMI
  rw [ePA, bs_data] at hPA
  have dM := numOk_dg hM
  have dMI := numOk_dg hMI
  have dPA := numOk_dg hPA
  refine ⟨j, m, mi, pa, t, ?_, ?_, dg_not _ dM (by decide), dg_not _ dM (by decide), dg_not _ dMI (by decide), dg_not _ dMI (by decide), dg_not _ dPA (by decide), dg_not _ dPA (by decide)⟩
  · rw [← bs_of s, e1, e4, e2, e3]; simp
  · intro k; exact ha (by rw [e4]; exact List.mem_append_left _ k)

/-- What VersionOf takes has such parts. -/
theorem frm_of_V (s : ByteArray) (h : VOk s) : ∃ j m mi pa t, Frm s j m mi pa t := by
  obtain ⟨hn, hd, hE, h3, _, _⟩ := h
  rcases fall s.data.toList 46 with ⟨a, r1, e1, ha⟩ | h0
  rotate_left
  · refine absurd ?_ hd
    have : qT s = bs [] := by
      unfold qT qDot
      rw [ib_no _ _ h0, ← bs_of s, ext_bs]
      simp
    unfold qDash; rw [this, lb_no _ (by simp)]; decide
  have eDot : qDot s = a.length := by unfold qDot; rw [e1]; exact ib_app _ _ _ ha
  have eT : qT s = bs a := by
    unfold qT; rw [eDot, ← bs_of s, e1, ext_bs]; simp
  rcases fall_last a 45 with ⟨j, m, e4, h4⟩ | h0
  rotate_left
  · exact absurd (show qDash s < 0 by unfold qDash; rw [eT, lb_no _ h0]; decide) hd
  have eQ : qDash s = j.length := by unfold qDash; rw [eT, e4]; exact lb_app _ _ h4
  have eX : rX s = bs (m ++ 46 :: r1) := by
    unfold rX; rw [eQ, ← bs_of s, e1, e4, ext_bs, bs_size, List.take_length]
    show bs (List.drop (j.length + 1) _) = _
    simp
  have ham : (46 : UInt8) ∉ m := fun k => ha (by rw [e4]; exact List.mem_append_right _ (List.mem_cons_of_mem _ k))
  obtain ⟨q, t, e5, h5⟩ : ∃ q t, r1 = q ++ tl t ∧ (45 : UInt8) ∉ q := by
    rcases fall r1 45 with ⟨pa, pr, e3, h3⟩ | h0
    · exact ⟨pa, some pr, e3, h3⟩
    · exact ⟨r1, none, by simp [tl], h0⟩
  have c4 : Lib.cut (rX s).data.toList [45] = (m ++ 46 :: q, t.getD [], t.isSome) := by
    rw [eX, bs_data, e5, show m ++ 46 :: (q ++ tl t) = (m ++ 46 :: q) ++ tl t by simp]
    exact cut_tl _ _ (not_app h4 (not_cons (by decide) h5))
  have eW : rW s = bs m :: splitL (bs q) 46 := by unfold rW rA; rw [c4]; exact splitL_app _ _ _ ham
  rw [eW] at h3 hE
  rcases fall q 46 with ⟨mi, r, e6, h6⟩ | h0
  rotate_left
  · rw [splitL_no _ _ h0] at h3; simp at h3
  rw [e6, splitL_app _ _ _ h6] at h3 hE
  rcases fall r 46 with ⟨x, y, e7, h7⟩ | h0
  · rw [e7, splitL_app _ _ _ h7] at h3
    have := splitL_ne (bs y) 46
    cases hz : splitL (bs y) 46 with
    | nil => exact absurd hz this
    | cons x xs => rw [hz] at h3; simp at h3
  rw [splitL_no _ _ h0] at hE
  have hE2 : numOk 6 m = true ∧ numOk 6 mi = true ∧ numOk 6 r = true := by
    unfold oks at hE
    simpa [bs_data] using hE
  have dM := numOk_dg hE2.1
  have dMI := numOk_dg hE2.2.1
  have dPA := numOk_dg hE2.2.2
  refine ⟨j, m, mi, r, t, ?_, ?_, dg_not _ dM (by decide), dg_not _ dM (by decide), dg_not _ dMI (by decide), dg_not _ dMI (by decide), dg_not _ dPA (by decide), dg_not _ dPA (by decide)⟩
  · rw [← bs_of s, e1, e4, e5, e6]; simp
  · intro k; exact ha (by rw [e4]; exact List.mem_append_left _ k)

theorem all_dg_nm {l : List UInt8} (h : l.all dg = true) : l.all nm = true := by
  rw [List.all_eq_true] at h ⊢
  intro c hc
  have := h c hc
  unfold nm; rw [this]; simp
theorem all_al_nm {l : List UInt8} (h : l.all al = true) : l.all nm = true := by
  rw [List.all_eq_true] at h ⊢
  intro c hc
  have := h c hc
  unfold al at this
  unfold nm; rw [this]; simp
theorem part_nm {l : List UInt8} (h : partB l = true) : l.all nm = true := by
  unfold partB at h
  split at h
  · exact all_dg_nm (numOk_dg h)
  · exact all_al_nm h

/-- parse takes what VersionOf takes, and makes the same of it. -/
theorem parse_V (s : ByteArray) : (parseOk s = true ↔ VOk s) ∧ (parseOk s = true → parsed s = vofV s) := by
  have both : ∀ j m mi pa t, Frm s j m mi pa t → (parseOk s = true ↔ VOk s) ∧ parsed s = vofV s := by
    intro j m mi pa t hF
    have hp := hF.parts
    have eP : pP s = rP s := by unfold pP rP; rw [hp.pe, hp.ppr, hp.rh, hp.rpr]
    have hv : parsed s = vofV s := by
      unfold parsed vofV
      rw [eP, hp.pj, hp.pm, hp.pmi, hp.ppa, hp.rj, hp.rw']
      rfl
    refine ⟨?_, hv⟩
    have hE : oks (rW s) = (numOk 6 m && numOk 6 mi && numOk 6 pa) := by
      rw [hp.rw']; unfold oks; simp [bs_data, Bool.and_assoc]
    have hL : (rW s).length = 3 := by rw [hp.rw']; rfl
    have hlen : s.size = s.data.toList.length := Lib.size_eq s
    have eS : s.data.toList = j ++ 45 :: (m ++ 46 :: (mi ++ 46 :: (pa ++ tl t))) := by rw [hF.e, bs_data]
    constructor
    · intro h
      unfold parseOk at h
      split at h
      · cases h
      rename_i hc
      unfold vrOk at h
      rw [hp.pj, hp.pm, hp.pmi, hp.ppa, eP, bs_data, bs_data, bs_data, bs_data] at h
      simp only [Bool.and_eq_true] at h
      obtain ⟨⟨⟨hM, hMI⟩, hPA⟩, hJ, h5, hB⟩ := h
      have hJ2 : nameB j = true := by unfold projB at hJ; simp only [Bool.and_eq_true] at hJ; exact hJ.1
      have hJ3 := hJ2
      unfold nameB at hJ3
      simp only [Bool.and_eq_true, decide_eq_true_eq] at hJ3
      obtain ⟨⟨⟨j0, j1⟩, j2⟩, j3⟩ := hJ3
      have ht : (tl t).all nm = true := by
        cases t with
        | none => rfl
        | some p =>
          show (45 :: p).all nm = true
          rw [List.all_cons]
          have e1 : rP s = splitL (bs p) 46 := by unfold rP; rw [hp.rh, hp.rpr]; rfl
          have hall : p.all nm = true := splitL_all nm 46 (by decide) _ p (Nat.le_refl _) fun x hx => by
            have hB' : anyBad (splitL (bs p) 46) = false := by rw [← e1]; simpa using hB
            unfold anyBad at hB'
            have := List.any_eq_false.1 hB' x hx
            exact part_nm (by simpa using this)
          rw [hall]; decide
      have hname : nameB s.data.toList = true := by
        unfold nameB
        simp only [Bool.and_eq_true, decide_eq_true_eq]
        refine ⟨⟨⟨?_, by omega⟩, ?_⟩, ?_⟩
        · rw [eS]; simp
        · rw [eS]
          cases j with
          | nil => exact absurd rfl j0
          | cons x xs => exact j2
        · rw [eS, List.all_append, List.all_cons, List.all_append, List.all_cons, List.all_append, List.all_cons, List.all_append, j3, all_dg_nm (numOk_dg hM), all_dg_nm (numOk_dg hMI), all_dg_nm (numOk_dg hPA), ht]
          decide
      refine ⟨hname, by rw [hp.qd]; omega, by rw [hE, hM, hMI, hPA]; rfl, hL, by rw [hp.rj, bs_data]; exact hJ, ?_⟩
      rintro (k | k)
      · have := of_decide_eq_true h5; omega
      · rw [k] at hB; cases hB
    · rintro ⟨hn, hd, h3, h4, hJ, h5⟩
      unfold parseOk
      have hsz : s.size ≤ 40 := by
        unfold nameB at hn
        simp only [Bool.and_eq_true, decide_eq_true_eq] at hn
        omega
      rw [if_neg (fun k => k.elim (fun k => by omega) (fun k => by rw [hp.pd] at k; omega))]
      rw [hE] at h3
      rw [hp.rj, bs_data] at hJ
      unfold vrOk
      rw [hp.pj, hp.pm, hp.pmi, hp.ppa, eP, bs_data, bs_data, bs_data, bs_data, h3, hJ]
      have h6 : (rP s).length ≤ 5 := Nat.le_of_not_lt fun k => h5 (Or.inl k)
      have h7 : anyBad (rP s) = false := Bool.eq_false_iff.2 fun k => h5 (Or.inr k)
      rw [decide_eq_true h6, h7]; rfl
  refine ⟨⟨fun h => ?_, fun h => ?_⟩, fun h => ?_⟩
  · obtain ⟨j, m, mi, pa, t, hF⟩ := frm_of_parse s h
    exact (both j m mi pa t hF).1.1 h
  · obtain ⟨j, m, mi, pa, t, hF⟩ := frm_of_V s h
    exact (both j m mi pa t hF).1.2 h
  · obtain ⟨j, m, mi, pa, t, hF⟩ := frm_of_parse s h
    exact (both j m mi pa t hF).2
end Go.Proofs.YtnpnoohnkbpokaaGreatDoor

/- A right version, written, is read back. -/
import Derived.Test.YtnpnoohnkbpokaaDoorOrdC
import Derived.Test.YtnpnoohnkbpokaaDoorVerI
import Derived.Test.YtnpnoohnkbpokaaDoorVerM
import Derived.Test.YtnpnoohnkbpokaaDoorVerN
import Derived.Lib.SplitLaws
import Derived.Lib.Split
import Derived.Lib.LastIndexByte
import Derived.Lib.IndexBytes
namespace Go.Proofs.YtnpnoohnkbpokaaDoor
open Go.Lib

theorem bs_of (s : ByteArray) : bs s.data.toList = s := by
  obtain ⟨d⟩ := s
  simp [bs]
theorem ext_bs (l : List UInt8) (a b : Nat) : (bs l).extract a b = bs ((l.take b).drop a) := by
  rw [← bs_of ((bs l).extract a b), Lib.extract_data, bs_data]
  simp [List.drop_take]

theorem ib_app : ∀ (a : List UInt8) (c : UInt8) (b : List UInt8), c ∉ a → Lib.indexByte (a ++ c :: b) c = a.length
  | [], c, b, _ => by simp [Lib.indexByte]
  | x :: a, c, b, h => by
    have hx : (x == c) = false := by rw [beq_eq_false_iff_ne]; intro e; exact h (by simp [e])
    have ih := ib_app a c b (fun k => h (List.mem_cons_of_mem _ k))
    show (if (x == c) = true then (0 : Int) else if (Lib.indexByte (a ++ c :: b) c == -1) = true then -1 else Lib.indexByte (a ++ c :: b) c + 1) = _
    rw [hx, ih]
    have h2 : (((a.length : Nat) : Int) == -1) = false := by rw [beq_eq_false_iff_ne]; omega
    rw [h2]; simp
theorem ib_no : ∀ (a : List UInt8) (c : UInt8), c ∉ a → Lib.indexByte a c = -1
  | [], _, _ => rfl
  | x :: a, c, h => by
    have hx : (x == c) = false := by rw [beq_eq_false_iff_ne]; intro e; exact h (by simp [e])
    have ih := ib_no a c (fun k => h (List.mem_cons_of_mem _ k))
    show (if (x == c) = true then (0 : Int) else if (Lib.indexByte a c == -1) = true then -1 else Lib.indexByte a c + 1) = _
    rw [hx, ih]; rfl
theorem fall (l : List UInt8) (c : UInt8) : (∃ a b, l = a ++ c :: b ∧ c ∉ a) ∨ c ∉ l := by
  by_cases h : c ∈ l
  · obtain ⟨a, b, h1, h2⟩ := List.append_of_mem h |> fun _ => List.eq_append_cons_of_mem h
    exact Or.inl ⟨a, b, h1, h2⟩
  · exact Or.inr h
theorem cut_app (a : List UInt8) (c : UInt8) (b : List UInt8) (h : c ∉ a) : Lib.cut (a ++ c :: b) [c] = (a, b, true) := by
  unfold Lib.cut
  rw [Lib.index_one, ib_app a c b h, if_pos (by omega)]
  simp
theorem cut_no (a : List UInt8) (c : UInt8) (h : c ∉ a) : Lib.cut a [c] = (a, [], false) := by
  unfold Lib.cut
  rw [Lib.index_one, ib_no a c h]
  rfl
theorem at_bs (l : List UInt8) (j : Nat) (hj : j < l.length) : (bs l).data[j]! = l[j] := by
  have h : j < l.toArray.size := by simpa using hj
  show l.toArray[j]! = l[j]
  rw [getElem!_pos l.toArray j h]
  simp
theorem lb_app (a : List UInt8) (b : List UInt8) (h : (45 : UInt8) ∉ b) : Lib.lastIndexByte (bs (a ++ 45 :: b)) 45 = a.length := by
  have hs := bs_size (a ++ 45 :: b)
  have hl : (a ++ 45 :: b).length = a.length + (b.length + 1) := by simp
  rcases Lib.lastIndexByte_spec (bs (a ++ 45 :: b)) 45 with ⟨_, h2⟩ | ⟨i, hi, h1, h2, h3⟩
  · have := h2 a.length (by omega)
    rw [at_bs _ _ (by omega)] at this
    simp at this
  · rw [h1]
    rw [at_bs _ _ (by omega)] at h2
    by_cases hc : i < a.length
    · have := h3 a.length hc (by omega)
      rw [at_bs _ _ (by omega)] at this
      simp at this
    · by_cases he : i = a.length
      · rw [he]
      · exfalso
        obtain ⟨k, rfl⟩ : ∃ k, i = a.length + (k + 1) := ⟨i - a.length - 1, by omega⟩
        have hk : k < b.length := by omega
        have e : (a ++ 45 :: b)[a.length + (k + 1)]'(by omega) = b[k] := by
          rw [List.getElem_append_right (by omega)]
          simp
        rw [e] at h2
        have e2 : b[k] = 45 := by apply UInt8.toNat_inj.1; have : (b[k].toNat : Int) = 45 := h2; show b[k].toNat = 45; omega
        exact h (e2 ▸ List.getElem_mem hk)
theorem splitL_no (l : List UInt8) (c : UInt8) (h : c ∉ l) : splitL (bs l) c = [bs l] := by
  unfold splitL
  refine Lib.splitB_miss _ _ _ _ ?_
  show Lib.index (bs l).data.toList [c] = -1
  rw [bs_data, Lib.index_one, ib_no l c h]
theorem splitL_app (a : List UInt8) (c : UInt8) (b : List UInt8) (h : c ∉ a) : splitL (bs (a ++ c :: b)) c = bs a :: splitL (bs b) c := by
  unfold splitL
  have hc : Lib.countB (bs (a ++ c :: b)) ⟨#[c]⟩ = Lib.countB (bs b) ⟨#[c]⟩ + 1 := by
    show Lib.count (bs (a ++ c :: b)).data.toList [c] = Lib.count (bs b).data.toList [c] + 1
    rw [bs_data, bs_data, Lib.count_one, Lib.count_one, List.count_append, List.count_cons_self, List.count_eq_zero_of_not_mem h]
    omega
  have hi : Lib.indexB (bs (a ++ c :: b)) ⟨#[c]⟩ = ((a.length : Nat) : Int) := by
    show Lib.index (bs (a ++ c :: b)).data.toList [c] = _
    rw [bs_data, Lib.index_one, ib_app a c b h]
  rw [hc, Lib.splitB_hit _ _ _ _ _ hi]
  have h1 : (bs (a ++ c :: b)).extract 0 (a.length + 0) = bs a := by rw [ext_bs]; simp
  have h2 : (bs (a ++ c :: b)).extract (a.length + (⟨#[c]⟩ : ByteArray).size) (bs (a ++ c :: b)).size = bs b := by
    rw [ext_bs, bs_size, List.take_length]
    show bs (List.drop (a.length + 1) _) = _
    simp
  rw [h1, h2]
theorem dg_not {l : List UInt8} (c : UInt8) (h : l.all dg = true) (hc : dg c = false) : c ∉ l := fun k => by
  have := List.all_eq_true.1 h c k
  rw [hc] at this; cases this
theorem not_app {a b : List UInt8} {c : UInt8} (h1 : c ∉ a) (h2 : c ∉ b) : c ∉ a ++ b := by
  rw [List.mem_append]; rintro (h | h)
  · exact h1 h
  · exact h2 h
theorem not_cons {b : List UInt8} {c d : UInt8} (h1 : c ≠ d) (h2 : c ∉ b) : c ∉ d :: b := by
  rw [List.mem_cons]; rintro (h | h)
  · exact h1 h
  · exact h2 h
theorem bs_inj {a b : List UInt8} (h : bs a = bs b) : a = b := by
  have := congrArg (fun x => x.data.toList) h
  simpa [bs_data] using this

def tl : Option (List UInt8) → List UInt8
  | none => []
  | some p => 45 :: p
theorem cut_tl (a : List UInt8) (t : Option (List UInt8)) (h : (45 : UInt8) ∉ a) : Lib.cut (a ++ tl t) [45] = (a, t.getD [], t.isSome) := by
  cases t with
  | none => show Lib.cut (a ++ []) [45] = _; rw [List.append_nil, cut_no _ _ h]; rfl
  | some p => show Lib.cut (a ++ 45 :: p) [45] = _; rw [cut_app _ _ _ h]; rfl

/-- A text that has the parts of a version. -/
structure Frm (s : ByteArray) (j m mi pa : List UInt8) (t : Option (List UInt8)) : Prop where
  e : s = bs (j ++ 45 :: (m ++ 46 :: (mi ++ 46 :: (pa ++ tl t))))
  j46 : (46 : UInt8) ∉ j
  m46 : (46 : UInt8) ∉ m
  m45 : (45 : UInt8) ∉ m
  mi46 : (46 : UInt8) ∉ mi
  mi45 : (45 : UInt8) ∉ mi
  pa46 : (46 : UInt8) ∉ pa
  pa45 : (45 : UInt8) ∉ pa
structure Parts (s : ByteArray) (j m mi pa : List UInt8) (t : Option (List UInt8)) : Prop where
  pj : pJ s = bs j
  pm : pM s = bs m
  pmi : pMI s = bs mi
  ppa : pPA s = bs pa
  pe : pE s = t.isSome
  ppr : pPR s = bs (t.getD [])
  pd : pD s = j.length
theorem Frm.parts {s : ByteArray} {j m mi pa : List UInt8} {t : Option (List UInt8)} (h : Frm s j m mi pa t) : Parts s j m mi pa t := by
  have h46 : (46 : UInt8) ∉ j ++ 45 :: m := not_app h.j46 (not_cons (by decide) h.m46)
  have eS : s.data.toList = (j ++ 45 :: m) ++ 46 :: (mi ++ 46 :: (pa ++ tl t)) := by rw [h.e, bs_data]; simp
  have c1 : Lib.cut s.data.toList [46] = (j ++ 45 :: m, mi ++ 46 :: (pa ++ tl t), true) := by rw [eS]; exact cut_app _ _ _ h46
  have eH : pH s = bs (j ++ 45 :: m) := by unfold pH; rw [c1]
  have eR1 : pR1 s = bs (mi ++ 46 :: (pa ++ tl t)) := by unfold pR1; rw [c1]
  have c2 : Lib.cut (pR1 s).data.toList [46] = (mi, pa ++ tl t, true) := by rw [eR1, bs_data]; exact cut_app _ _ _ h.mi46
  have eMI : pMI s = bs mi := by unfold pMI; rw [c2]
  have eR2 : pR2 s = bs (pa ++ tl t) := by unfold pR2; rw [c2]
  have c3 : Lib.cut (pR2 s).data.toList [45] = (pa, t.getD [], t.isSome) := by rw [eR2, bs_data]; exact cut_tl _ _ h.pa45
  have eD : pD s = j.length := by unfold pD; rw [eH]; exact lb_app _ _ h.m45
  constructor
  · unfold pJ; rw [eH, eD, ext_bs]; simp
  · unfold pM; rw [eH, eD, ext_bs, bs_size, List.take_length]
    show bs (List.drop (j.length + 1) _) = _
    simp
  · exact eMI
  · unfold pPA; rw [c3]
  · unfold pE; rw [c3]
  · unfold pPR; rw [c3]
  · exact eD

theorem part_46 {s : ByteArray} (h : PB s) : (46 : UInt8) ∉ s.data.toList := by
  unfold PB partB at h
  by_cases hd : s.data.toList.all dg = true
  · exact dg_not _ hd (by decide)
  · rw [if_neg hd] at h
    intro k
    have := List.all_eq_true.1 h 46 k
    exact absurd this (by decide)
theorem proj_46 {l : List UInt8} (h : projB l = true) : (46 : UInt8) ∉ l := by
  unfold projB at h
  simp only [Bool.and_eq_true, Bool.not_eq_true', decide_eq_false_iff_not] at h
  intro k
  rcases fall l 46 with ⟨a, b, rfl, ha⟩ | h0
  · exact h.2 (by rw [ib_app _ _ _ ha]; omega)
  · exact h0 k
theorem bs_app (a b : List UInt8) : bs (a ++ b) = bs a ++ bs b := by
  apply data_inj
  rw [bs_data, ByteArray.data_append, Array.toList_append, bs_data, bs_data]
theorem split_join : ∀ l : List ByteArray, l ≠ [] → (∀ x ∈ l, PB x) → splitL (joinB l) 46 = l
  | [], h, _ => absurd rfl h
  | [x], _, hp => by
    unfold joinB
    rw [List.map_cons, List.map_nil, Lib.join_one, splitL_no _ _ (part_46 (hp x (by simp))), bs_of]
  | x :: y :: l, _, hp => by
    have ih := split_join (y :: l) (by simp) (fun z hz => hp z (by simp [hz]))
    unfold joinB at ih ⊢
    have e : Lib.join ((x :: y :: l).map (·.data.toList)) [46] = x.data.toList ++ 46 :: Lib.join ((y :: l).map (·.data.toList)) [46] := by
      rw [List.map_cons, Lib.join_cons, List.map_cons, Lib.join_cons]
      simp [Lib.joinTail]
    rw [e, splitL_app _ _ _ (part_46 (hp x (by simp))), ih, bs_of]
theorem anyBad_PB {l : List ByteArray} (h : anyBad l = false) : ∀ x ∈ l, PB x := by
  intro x hx
  unfold anyBad at h
  have := List.any_eq_false.1 h x hx
  simpa [PB] using this
/-- A version that can be written: what holds of it. -/
theorem txt_ok {x : Vr} (h : txtErr x = 0) : projB x.pj.data.toList = true ∧ ¬ minV x < 0 ∧ ¬ 999999 < maxV x ∧ ¬ 5 < x.pre.length ∧ anyBad x.pre = false ∧ ¬ 40 < (txtF x).size := by
  unfold txtErr at h
  split at h
  · cases h
  split at h
  · cases h
  split at h
  · cases h
  split at h
  · cases h
  split at h
  · cases h
  rename_i h1 h2 h3 h4 h5
  exact ⟨by simpa using h1, fun k => h2 (.inl k), fun k => h2 (.inr k), h3, by simpa using h4, h5⟩
theorem tx_eq {x : Vr} : txtF x = bs (x.pj.data.toList ++ 45 :: (Lib.itoa x.ma ++ 46 :: (Lib.itoa x.mi ++ 46 :: (Lib.itoa x.pa ++ tl (if x.pre = [] then none else some (Lib.join (x.pre.map (·.data.toList)) [46])))))) := by
  have e : txtB x = bs (x.pj.data.toList ++ 45 :: (Lib.itoa x.ma ++ 46 :: (Lib.itoa x.mi ++ 46 :: Lib.itoa x.pa))) := by
    unfold txtB
    apply data_inj
    simp only [bs_data, ByteArray.data_append, Array.toList_append]
    simp
  unfold txtF
  by_cases hp : x.pre = []
  · rw [if_pos hp, if_pos hp, e]; simp [tl]
  · rw [if_neg hp, if_neg hp, e]
    unfold joinB
    apply data_inj
    simp only [bs_data, ByteArray.data_append, Array.toList_append]
    simp [tl]
theorem txt_frm {x : Vr} (h : txtErr x = 0) : Frm (txtF x) x.pj.data.toList (Lib.itoa x.ma) (Lib.itoa x.mi) (Lib.itoa x.pa) (if x.pre = [] then none else some (Lib.join (x.pre.map (·.data.toList)) [46])) := by
  obtain ⟨h1, h2, h3, -⟩ := txt_ok h
  obtain ⟨⟨a0, a1⟩, ⟨b0, b1⟩, ⟨c0, c1⟩⟩ := three_bounds h2 h3
  have da := (numOk_parts (itoa_ok a0 a1).1).2.2.2
  have db := (numOk_parts (itoa_ok b0 b1).1).2.2.2
  have dc := (numOk_parts (itoa_ok c0 c1).1).2.2.2
  exact ⟨tx_eq, proj_46 h1, dg_not _ da (by decide), dg_not _ da (by decide), dg_not _ db (by decide), dg_not _ db (by decide), dg_not _ dc (by decide), dg_not _ dc (by decide)⟩
/-- What was written is read back. -/
theorem back {x : Vr} (h : txtErr x = 0) : parseOk (txtF x) = true ∧ parsed (txtF x) = x := by
  have hf := (txt_frm h).parts
  obtain ⟨h1, h2, h3, h4, h5, h6⟩ := txt_ok h
  obtain ⟨⟨a0, a1⟩, ⟨b0, b1⟩, ⟨c0, c1⟩⟩ := three_bounds h2 h3
  obtain ⟨na, va⟩ := itoa_ok a0 a1
  obtain ⟨nb, vb⟩ := itoa_ok b0 b1
  obtain ⟨nc, vc⟩ := itoa_ok c0 c1
  have hP : pP (txtF x) = x.pre := by
    unfold pP
    rw [hf.pe, hf.ppr]
    by_cases hp : x.pre = []
    · rw [if_pos hp, hp]; rfl
    · rw [if_neg hp]
      exact split_join x.pre hp (anyBad_PB h5)
  constructor
  · unfold parseOk
    rw [if_neg (by rw [hf.pd]; omega)]
    unfold vrOk
    rw [hf.pj, hf.pm, hf.pmi, hf.ppa, hP, bs_of, bs_data, bs_data, bs_data, na, nb, nc, h1, h5, decide_eq_true (by omega : x.pre.length ≤ 5)]
    rfl
  · unfold parsed rdNum
    rw [hf.pj, hf.pm, hf.pmi, hf.ppa, hP, bs_of, bs_data, bs_data, bs_data, na, nb, nc, va, vb, vc]
    rfl
theorem good_of {x : Vr} (h : txtErr x = 0) : GoodV x := anyBad_PB (txt_ok h).2.2.2.2.1
theorem txt_inj {x y : Vr} (hx : txtErr x = 0) (hy : txtErr y = 0) (h : txtF x = txtF y) : x = y := by
  rw [← (back hx).2, ← (back hy).2, h]
end Go.Proofs.YtnpnoohnkbpokaaDoor

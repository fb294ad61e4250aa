/- What ReadRules answers at a text of right rules. -/
import Derived.Test.YtooilpblbkgloaaGreatDoorReadR
namespace Go.Proofs.YtooilpblbkgloaaGreatDoor
open Go.RowKit Go.Lib Go.Deep

theorem infoRu : (Tryz.prog.info? 37).map (fun i => (i.zero, i.size, i.bytes)) = some (some (.agg #[.slice none 0 0, .slice none 0 0]), 2, 48) := by kernel_rfl
theorem cut_env (c : UInt8) (s : ByteArray) (T : List UInt8 × List UInt8 × Bool) (w : World) (hs : s.size ≤ 1000000) (hE : Env w) (hT : Lib.cut s.data.toList [c] = T) :
    Calls Tryz.prog 10 #[.string s, .string (bs [c])] w fun e w' => e = .returned (.tuple #[.string (bs T.1), .string (bs T.2.1), .bool T.2.2]) ∧ Below w.heap.size w w' := by
  obtain ⟨m, hm⟩ := hE.1
  refine (Tryz.strings_Cut s (bs [c]) m w (by omega) hm).mono ?_
  rintro e w' ⟨rfl, n, rfl⟩
  exact ⟨by rw [show Lib.cut s.data.toList (bs [c]).data.toList = T from hT]; rfl, below_drewN (Below.refl _ _) n⟩
/-- The cells of a row of rules. -/
def cellsR (ps : List (Value × Value)) : List Value := ps.flatMap fun p => [p.1, p.2]
theorem cellsR_snoc (ps : List (Value × Value)) (p : Value × Value) : cellsR (ps ++ [p]) = cellsR ps ++ [p.1, p.2] := by simp [cellsR]
/-- The values are the rows of rules. -/
def OwsR (w : World) (ps : List (Value × Value)) (l : List Ru) : Prop := ps.length = l.length ∧ ∀ i (h : i < ps.length) (h' : i < l.length), OwR w ps[i].1 ps[i].2 l[i]
theorem OwsR.keeps {w w' : World} {ps : List (Value × Value)} {l : List Ru} (h : OwsR w ps l) (hb : Below w.heap.size w w') : OwsR w' ps l := ⟨h.1, fun i a b => (h.2 i a b).keeps hb⟩
theorem OwsR.grown {w w' : World} {ps : List (Value × Value)} {l : List Ru} (h : OwsR w ps l) {B2 n2 : Nat} {v : Value} {x2 : List Value} (h2 : w.ownsRow B2 37 2 v n2 x2) (hg : w.grownBy w' v.ownBlock) : OwsR w' ps l := ⟨h.1, fun i a b => (h.2 i a b).grown h2 hg⟩
theorem OwsR.snoc {w : World} {ps : List (Value × Value)} {l : List Ru} (h : OwsR w ps l) {v1 v2 : Value} {r : Ru} (hr : OwR w v1 v2 r) : OwsR w (ps ++ [(v1, v2)]) (l ++ [r]) := by
  refine ⟨by simp [h.1], fun i a b => ?_⟩
  by_cases hi : i < ps.length
  · rw [List.getElem_append_left hi, List.getElem_append_left (by rw [← h.1]; exact hi)]; exact h.2 i hi _
  · have : i = ps.length := by simp at a; omega
    subst this
    have h1 := h.1
    simp only [h1, List.getElem_concat_length]
    exact hr
theorem pair_new (w : World) (a b : Value) (t : TypeId) : ∀ j u, [a, b][j]? = some u → (w.alloc (.cells #[a, b] t)).cell? ((⟨w.heap.size, 0, none⟩ : Addr).add j) = some u := by
  intro j u hj
  match j, hj with
  | 0, hj => simp at hj; subst hj; simp [Addr.add]
  | 1, hj => simp at hj; subst hj; simp [Addr.add]
theorem OwR.shapes {w : World} {v1 v2 : Value} {r : Ru} (h : OwR w v1 v2 r) : ∃ a1 n1 c1 a2 n2 c2, v1 = .slice a1 n1 c1 ∧ v2 = .slice a2 n2 c2 := by
  obtain ⟨B, o1, o2⟩ := h
  obtain ⟨a1, n1, c1, e1⟩ := own_slv o1
  obtain ⟨a2, n2, c2, e2⟩ := own_slv o2
  exact ⟨a1, n1, c1, a2, n2, c2, e1, e2⟩
theorem pair_one (a1 a2 : Option Addr) (n1 n2 c1 c2 : Nat) : ∀ u ∈ [Value.slice a1 n1 c1, .slice a2 n2 c2], u.oneCell' = true := by
  intro u hx
  simp only [List.mem_cons, List.not_mem_nil, or_false] at hx
  rcases hx with rfl | rfl <;> rfl
theorem rs_drop {l : List Ru} {k : Nat} (h : k < l.length) : rsText (l.drop k) = rText l[k] ++ 10 :: rsText (l.drop (k + 1)) := by
  rw [List.drop_eq_getElem_cons h]; unfold rsText; rw [List.flatMap_cons, List.append_assoc]; rfl
/-- The loop of ReadRules. -/
def L3 (w : World) (l : List Ru) (v0 v5 : Value) (wr : World) : Prop := ∃ (k : Nat) (ps : List (Value × Value)) (va : Value), va = v5 ∧ k ≤ l.length ∧ v0 = .string (bs (rsText (l.drop k))) ∧ wr.ownsRow w.heap.size 37 2 va k (cellsR ps) ∧ OwsR wr ps (l.take k) ∧ Below w.heap.size w wr

theorem cellsR_at : ∀ {ps : List (Value × Value)} {i : Nat} (h : i < ps.length), (cellsR ps)[i * 2]? = some ps[i].1 ∧ (cellsR ps)[i * 2 + 1]? = some ps[i].2
  | p :: ps, 0, _ => by simp [cellsR]
  | p :: ps, i + 1, h => by
    have ih := cellsR_at (ps := ps) (i := i) (by simpa using h)
    have e : cellsR (p :: ps) = p.1 :: p.2 :: cellsR ps := by simp [cellsR]
    rw [e, show (i + 1) * 2 = i * 2 + 1 + 1 by omega]
    simpa using ih
theorem rs_of_own {w : World} {B : Nat} {v : Value} {ps : List (Value × Value)} {l : List Ru} (h : w.ownsRow B 37 2 v l.length (cellsR ps)) (hp : OwsR w ps l) (hr : ∀ r ∈ l, ruErr r = 0) : RsV w v l := by
  by_cases h0 : 0 < l.length
  · have hcap : ∀ cap a n, v = .slice a n cap → cap ≤ maxLen := by
      intro cap a n e
      rcases h.2 with ⟨e2, hn⟩ | ⟨g, cap2, cur, e2, _, _, _, hc, _⟩
      · omega
      · rw [e2] at e; cases e; exact hc
    obtain ⟨g, cap, rfl, hc, _, hg, hcl⟩ := own_slice h h0
    refine ⟨some ⟨g, 0, none⟩, cap, rfl, hc, hcap _ _ _ rfl, Or.inr ⟨g, 0, rfl, hg, fun i hi => ?_⟩⟩
    have hi' : i < ps.length := by rw [hp.1]; exact hi
    obtain ⟨a1, a2⟩ := cellsR_at hi'
    exact ⟨ps[i].1, ps[i].2, by rw [Nat.zero_add]; exact hcl _ _ a1, by rw [Nat.zero_add]; exact hcl _ _ a2, (hp.2 i hi' hi).ru (hr _ (List.getElem_mem hi))⟩
  · have hl : l = [] := List.eq_nil_of_length_eq_zero (by omega)
    subst hl
    rcases h.2 with ⟨rfl, _⟩ | ⟨g, cap, cur, rfl, _, _, hc, hm, _⟩
    · exact ⟨none, 0, rfl, Nat.le_refl _, Nat.zero_le _, Or.inl rfl⟩
    · exact ⟨_, cap, rfl, hc, hm, Or.inl rfl⟩

set_option maxHeartbeats 4000000 in
set_option maxRecDepth 100000 in
theorem readRules_good (l : List Ru) (w : World) (hf : rulesErr l = 0) (henv : Env w) :
    Calls Tryz.prog 5 #[.string (bs (rsText l))] w fun e w' => ∃ v, e = .returned (.tuple #[v, .int .i64 0, .int .i64 0]) ∧ RsV w' v l ∧ Below w.heap.size w w' := by
  have hl100 : l.length ≤ 100 := by
    unfold rulesErr at hf
    split at hf
    · omega
    · omega
  have hall : ∀ r ∈ l, ruErr r = 0 := by
    unfold rulesErr at hf
    rw [if_neg (by omega)] at hf
    exact rusErr_ok hf
  have HF := Lib.hid hf
  clear hf
  obtain ⟨S, hS⟩ : ∃ S, S = bs (rsText l) := ⟨_, rfl⟩
  have hSz : (S.size : Int) ≤ 360100 := by
    have := rsText_len hall
    have h2 := Nat.mul_le_mul_right 3601 hl100
    rw [hS, bs_size]; omega
  rw [← hS]
  have HS := Lib.hid hS
  have HENV := Lib.hid henv
  obtain ⟨ir, hir, hz0, hz1, hz2⟩ := info_parts infoRu
  clear hS henv
  go_enter Tryz.func5, Tryz.ntmps5
  go_wp2_with fail
  go_loopw [0, 5] (fun v0 v5 wr => L3 w l v0 v5 wr) (fun v0 _ _ => Lib.strSize v0)
  case atStart => exact ⟨0, [], _, rfl, Nat.zero_le _, by rw [HS.out]; rfl, ⟨rfl, .inl ⟨rfl, rfl⟩⟩, ⟨rfl, fun i h => by simp at h⟩, Below.refl _ _⟩
  case round =>
    obtain ⟨k, ps, v5, rfl, hk, rfl, hown, hps, hbw⟩ := hrel
    by_cases hlt : k < l.length
    · have HK := Lib.hid (show rsText (l.drop k) = rText l[k] ++ 10 :: rsText (l.drop (k + 1)) from rs_drop hlt)
      have hr := hall _ (List.getElem_mem hlt)
      have HTK := Lib.hid (show l.take (k + 1) = l.take k ++ [l[k]] from List.take_succ_eq_append_getElem hlt)
      have hdz : (rsText (l.drop k)).length ≤ 360100 := by
        have h1 := rsText_len (l := l.drop k) (fun r hr => hall r (List.mem_of_mem_drop hr))
        have h2 := Nat.mul_le_mul_right 3601 (show (l.drop k).length ≤ 100 by rw [List.length_drop]; omega)
        omega
      generalize l[k] = r at *
      obtain ⟨X, hX⟩ : ∃ X, X = rsText (l.drop (k + 1)) := ⟨_, rfl⟩
      obtain ⟨T, hTE⟩ : ∃ T, T = bs (rsText (l.drop k)) := ⟨_, rfl⟩
      have hTd : T.data.toList = rText r ++ 10 :: X := by rw [hTE, bs_data, HK.out, hX]
      have p1 : T.toList.isEmpty = false := by rw [Lib.toList_data, hTd]; simp
      have p2 : (!T.toList.isEmpty) = true := by rw [p1]; rfl
      have HC := Lib.hid (show Calls Tryz.prog 10 #[.string T, .string ⟨#[10]⟩] wr fun e w' => e = .returned (.tuple #[.string (bs (rText r)), .string (bs X), .bool true]) ∧ Below wr.heap.size wr w' from cut_env 10 T (rText r, X, true) wr (by rw [hTE, bs_size]; omega) (HENV.out.keep hbw) (by rw [hTd]; exact cut_at 10 _ _ (rText_no10 hr)))
      have HR := Lib.hid (fun (W : World) (hE : Env W) => readRule_good (bs (rText r)) r W rfl hr hE)
      have HM := Lib.hid (show (bs X).size < T.size by rw [bs_size, Lib.size_eq T, hTd, List.length_append, List.length_cons]; omega)
      have HXE := Lib.hid hX
      rw [← hTE]
      have q1 : k + 1 ≤ maxLen := by unfold maxLen; omega
      have q2 : (k + 1) * 48 ≤ 140737488355328 := by omega
      have hbs := hbw.size
      clear hTE hTd hX hdz
      generalize rText r = L at *
      go_wp2_with (first
        | (go_at_call 10; (with_reducible refine HC.out.mono ?_); rintro e w1 ⟨rfl, hb1⟩)
        | (go_at_call 11; (with_reducible refine (HR.out _ ((HENV.out.keep hbw).keep hb1)).mono ?_); rintro e w2 ⟨v1, v2, rfl, hO, hb2⟩; obtain ⟨a1, n1, c1, a2, n2, c2, rfl, rfl⟩ := hO.shapes; have hb12 := below_keep hb1 (Nat.le_refl _) hb2; have hbA := (hb12.alloc hb12.size (.cells #[.slice a1 n1 c1, .slice a2 n2 c2] 37)).alloc (hb12.alloc hb12.size (.cells #[.slice a1 n1 c1, .slice a2 n2 c2] 37)).size (.cells #[.slice a1 n1 c1, .slice a2 n2 c2] 37); have hownY := own_keeps hown hbA; have hsrc := pair_new (w2.alloc (.cells #[.slice a1 n1 c1, .slice a2 n2 c2] 37)) (.slice a1 n1 c1) (.slice a2 n2 c2) 37; rw [show (w2.alloc (.cells #[.slice a1 n1 c1, .slice a2 n2 c2] 37)).heap.size = w2.heap.size + 1 from (by simp)] at hsrc; have hs2 := hb12.size)
        | (at_builtin; refine wpList_append_own _ rfl _ _ 22 rfl w.heap.size 37 ir _ 2 48 Tryz.underlying22 hir hz0 hz1 hz2 rfl (by decide) _ _ _ rfl hownY ⟨w2.heap.size + 1, 0, none⟩ 1 1 [.slice a1 n1 c1, .slice a2 n2 c2] rfl rfl hsrc (pair_one _ _ _ _ _ _) q1 q2 (by simp; omega) ?_; intro v' w3 hown3 hgrow _))
      refine ⟨show L3 w l _ _ w3 from ⟨k + 1, ps ++ [(.slice a1 n1 c1, .slice a2 n2 c2)], _, rfl, hlt, by rw [HXE.out], by rw [cellsR_snoc]; exact hown3, ?_, ?_⟩, by rw [Lib.strSize_string, Lib.strSize_string]; exact HM.out⟩
      · rw [HTK.out]
        exact (OwsR.snoc (hps.keeps hbA) (((hO.keeps ((Below.refl _ _).alloc (Nat.le_refl _) _)).keeps ((Below.refl _ _).alloc (Nat.le_refl _) _)))).grown hownY hgrow
      · exact below_grown (below_keep hbw (Nat.le_refl _) hbA) hgrow (fun q e => own_base hownY q e) (by have := hbA.size; omega)
    · have hkn : k = l.length := by omega
      rw [hkn, List.take_length] at hps
      rw [hkn] at hown
      have hT : (bs (rsText (l.drop k))) = ⟨#[]⟩ := by rw [hkn, List.drop_length]; rfl
      rw [hT]
      have HRS := Lib.hid (rs_of_own hown hps hall)
      have HCK := Lib.hid (checkRules_any v5 l wr HRS.out)
      rw [HF.out] at HCK
      clear hkn hT hps hown hlt hk
      go_wp2_with (go_at_call 12; (with_reducible refine HCK.out.mono ?_); rintro e w1 ⟨rfl, hb1⟩)
      go_ret3
      exact ⟨v5, rfl, HRS.out.below (Nat.le_refl _) hb1, below_keep hbw (Nat.le_refl _) hb1⟩
end Go.Proofs.YtooilpblbkgloaaGreatDoor

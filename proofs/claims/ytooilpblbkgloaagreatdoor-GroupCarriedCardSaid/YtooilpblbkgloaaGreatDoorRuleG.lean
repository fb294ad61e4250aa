/- What RulesText answers. -/
import Derived.Test.YtooilpblbkgloaaGreatDoorRuleF
import Derived.Test.YtooilpblbkgloaaGreatDoorBuilder
import Derived.Test.YtooilpblbkgloaaGreatDoorPlainC
namespace Go.Proofs.YtooilpblbkgloaaGreatDoor
open Go.RowKit Go.Lib Go.Deep

theorem isB_keeps {T e : TypeId} {B b : Nat} {bs : List Value} {w w' : World} (h : Lib.IsBuilder T e B b bs w) (hb : Below w.heap.size w w') : Lib.IsBuilder T e B b bs w' := by
  have lt : ∀ {o}, w.heap[b]? = some o → b < w.heap.size := fun h => (Array.getElem?_eq_some_iff.1 h).1
  rcases h with ⟨hB, v, hbk, hown, hne⟩ | ⟨hB, v, hbk, hown, hne⟩
  · exact Or.inl ⟨hB, v, (hb.block _ (lt hbk)).trans hbk, own_keeps hown hb, hne⟩
  · exact Or.inr ⟨hB, v, (hb.block _ (lt hbk)).trans hbk, own_keeps hown hb, hne⟩
theorem rsText_snoc (l : List Ru) (r : Ru) : rsText (l ++ [r]) = rsText l ++ (rText r ++ [10]) := by unfold rsText; simp
theorem rsText_len : ∀ {l : List Ru}, (∀ r ∈ l, ruErr r = 0) → (rsText l).length ≤ l.length * 3601
  | [], _ => by simp [rsText]
  | r :: l, h => by
    have ih := rsText_len (l := l) (fun x hx => h x (List.mem_cons_of_mem _ hx))
    have hr := rText_len (h r (by simp))
    have : rsText (r :: l) = rText r ++ [10] ++ rsText l := by simp [rsText]
    rw [this]
    simp only [List.length_append, List.length_cons, List.length_nil]
    omega
theorem ru_vals {w : World} {v1 v2 : Value} {r : Ru} (h : RuV w v1 v2 r) : ∃ a1 n1 k1 a2 n2 k2, v1 = .slice a1 n1 k1 ∧ v2 = .slice a2 n2 k2 := by
  obtain ⟨⟨a1, k1, rfl, _⟩, ⟨a2, k2, rfl, _⟩⟩ := h
  exact ⟨_, _, _, _, _, _, rfl, rfl⟩

set_option maxHeartbeats 2000000 in
set_option maxRecDepth 100000 in
theorem rulesText_bad (v : Value) (l : List Ru) (w : World) (h : RsV w v l) (hf : rulesErr l ≠ 0) :
    Calls Tryz.prog 9 #[v] w fun e w' => e = .returned (.tuple #[.string ⟨#[]⟩, .int .i64 (rulesErr l)]) ∧ Below w.heap.size w w' := by
  have HC := Lib.hid (checkRules_any v l w h)
  have hq : (rulesErr l != 0) = true := by simpa using hf
  clear hf
  generalize rulesErr l = E at *
  go_enter Tryz.func9, Tryz.ntmps9
  go_wp2_with (go_at_call 12; refine HC.out.mono ?_; rintro e w1 ⟨rfl, hb1⟩)
  go_ret2
  exact ⟨rfl, hb1⟩

set_option maxHeartbeats 4000000 in
set_option maxRecDepth 100000 in
theorem rulesText_good (v : Value) (l : List Ru) (w : World) (h : RsV w v l) (hf : rulesErr l = 0) (henv : Env w) :
    Calls Tryz.prog 9 #[v] w fun e w' => e = .returned (.tuple #[.string (bs (rsText l)), .int .i64 0]) ∧ Below w.heap.size w w' := by
  have HC := Lib.hid (checkRules_any v l w h)
  rw [hf] at HC
  have hl100 : l.length ≤ 100 := by
    unfold rulesErr at hf
    split at hf
    · omega
    · omega
  have hall : ∀ r ∈ l, ruErr r = 0 := by
    unfold rulesErr at hf
    rw [if_neg (by omega)] at hf
    exact rusErr_ok hf
  clear hf
  obtain ⟨p, c, rfl, hn, hm, h1⟩ := h
  unfold maxLen at hm
  obtain ⟨n, e1⟩ : ∃ n, n = l.length := ⟨_, rfl⟩
  rw [← e1] at hn hl100 HC
  rw [← e1]
  have E1 := Lib.hid e1
  have H1 := Lib.hid h1
  clear e1 h1
  go_enter Tryz.func9, Tryz.ntmps9
  go_wp2_with (go_at_call 12; refine HC.out.mono ?_; rintro e w1 ⟨rfl, hb1⟩)
  have hbA := hb1.alloc hb1.size (.cells #[.pointer none, .slice none 0 0] 55)
  go_loopw [15] (fun v wr => ∃ k : Nat, v = .int .i64 k ∧ k ≤ n ∧ Lib.IsBuilder 55 5 w1.heap.size w1.heap.size (Lib.byteCells (rsText (l.take k))) wr ∧ Below w1.heap.size w1 wr) (fun v _ => n - (RowKit.intOf v).toNat)
  case atStart => exact ⟨0, rfl, Nat.zero_le _, Lib.fresh_isBuilder 55 5 w1, (Below.refl _ _).alloc (Nat.le_refl _) _⟩
  case round =>
    obtain ⟨k, rfl, hk, hB, hbw⟩ := hrel
    have hbT : Below w.heap.size w wr := below_keep hb1 (Nat.le_refl _) hbw
    have hbs := hbw.size
    by_cases hlt : k < n
    · have hkl : k < l.length := by rw [← E1.out]; exact hlt
      obtain ⟨b, off, rfl, hb, hc⟩ : ∃ b off, p = some ⟨b, off, none⟩ ∧ b < w.heap.size ∧ ∀ i (h : i < l.length), ∃ v1 v2, w.cell? ⟨b, off + i * 2, none⟩ = some v1 ∧ w.cell? ⟨b, off + i * 2 + 1, none⟩ = some v2 ∧ RuV w v1 v2 l[i] := by
        rcases H1.out with h | h
        · rw [h] at hkl; simp at hkl
        · exact h
      obtain ⟨v1, v2, q0, q1, hr⟩ := hc k hkl
      have q0 := (hbT.cell (p := ⟨b, _, none⟩) hb).trans q0
      have q1 := (hbT.cell (p := ⟨b, _, none⟩) hb).trans q1
      have HT := Lib.hid (show rsText (l.take (k + 1)) = rsText (l.take k) ++ (rText l[k] ++ [10]) by rw [List.take_succ_eq_append_getElem hkl, rsText_snoc])
      have hre := hall _ (List.getElem_mem hkl)
      have hlen : (rsText (l.take k)).length ≤ 360100 := by
        have := rsText_len (l := l.take k) (fun r hr => hall r (List.mem_of_mem_take hr))
        have h2 := Nat.mul_le_mul_right 3601 (show (l.take k).length ≤ 100 by rw [List.length_take]; omega)
        omega
      clear hc
      generalize l[k] = r at *
      have HM := Lib.hid (fun (o : Obj) => ruleText_any r v1 v2 (wr.alloc o) (hr.below (Nat.le_refl _) (hbT.alloc hbT.size o)) hre (henv.keep (hbT.alloc hbT.size o)))
      have hrl := rText_len hre
      obtain ⟨a1, n1, k1, a2, n2, k2, rfl, rfl⟩ := ru_vals hr
      clear hr
      generalize rText r = T at *
      generalize rsText (l.take k) = pre at *
      have hz : (bs T).size ≤ 3600 := by rw [bs_size]; exact hrl
      have hz1 : (⟨#[10]⟩ : ByteArray).size = 1 := rfl
      have hz2 : (bs T ++ ⟨#[10]⟩).size ≤ 3601 := by rw [ByteArray.size_append]; omega
      have HW := Lib.hid (fun (W : World) (hBW : Lib.IsBuilder 55 5 w1.heap.size w1.heap.size (Lib.byteCells pre) W) (hbs : w1.heap.size ≤ W.heap.size) => writeString_any w1.heap.size w1.heap.size (Lib.byteCells pre) (bs T ++ ⟨#[10]⟩) W hBW (by rw [byteCells_len]; omega) hbs)
      have HSC := Lib.hid (show Lib.byteCells pre ++ Lib.strCells (bs T ++ ⟨#[10]⟩) = Lib.byteCells (pre ++ (T ++ [10])) by
        rw [show (bs T ++ ⟨#[10]⟩ : ByteArray) = bs (T ++ [10]) from app_bs T [10], strCells_bs]
        exact (byteCells_app pre (T ++ [10])).symm)
      go_wp2_with (first
        | (go_at_call 22; refine (HM.out _).mono ?_; rintro e' w2 ⟨rfl, hb2⟩; have hB2 := isB_keeps (isB_keeps hB ((Below.refl _ wr).alloc (Nat.le_refl _) _)) hb2; have hs2 := hb2.size)
        | (go_at_call 21; refine (HW.out _ hB2 (by simp at hs2; omega)).mono ?_; rintro e' w3 ⟨rfl, hB3, hb3, _⟩))
      all_goals first
        | (exfalso; omega; done)
        | (refine ⟨⟨k + 1, rfl, hlt, ?_, ?_⟩, by simp [RowKit.intOf]; omega⟩
           · rw [HT.out, ← HSC.out]; exact Or.inr hB3
           · exact ((hbw.alloc hbs _).trans (hb2.mono (by simp; omega))).trans hb3)
    · have HE := Lib.hid (show l.take k = l by rw [List.take_of_length_le (by rw [← E1.out]; omega)])
      rw [HE.out] at hB
      have HS := Lib.hid (Tryz.Builder_String_any w1.heap.size w1.heap.size (rsText l) wr hB hbs)
      rw [show (⟨(rsText l).toArray⟩ : ByteArray) = bs (rsText l) from rfl] at HS
      go_wp2_with (go_at_call 23; refine HS.out.mono ?_; rintro e' w2 ⟨rfl, hb2⟩)
      go_ret2
      exact ⟨rfl, hbT.trans (hb2.mono hb1.size)⟩
end Go.Proofs.YtooilpblbkgloaaGreatDoor

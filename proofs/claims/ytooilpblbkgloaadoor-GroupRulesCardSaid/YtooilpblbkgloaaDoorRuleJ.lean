/- What the reference RulesString answers; the law GroupRules, walked. -/
import Derived.Test.YtooilpblbkgloaaDoorRuleI
namespace Go.Proofs.YtooilpblbkgloaaDoor
open Go.RowKit Go.Lib Go.Deep

set_option maxHeartbeats 4000000 in
set_option maxRecDepth 100000 in
theorem rulesString_any (v : Value) (l : List Ru) (w : World) (h : RsV w v l) (hf : rulesErr l = 0) :
    Calls Tryd.prog 13 #[v] w fun e w' => e = .returned (.string (bs (rsText l))) ∧ Below w.heap.size w w' := by
  have hl100 : l.length ≤ 100 := by
    unfold rulesErr at hf
    split at hf
    · omega
    · omega
  have hall : ∀ r ∈ l, ruErr r = 0 := by
    unfold rulesErr at hf
    rw [if_neg (by omega)] at hf
    exact rusErr_ok hf
  clear hf
  obtain ⟨p, c, rfl, hn, hm, h1⟩ := h
  unfold maxLen at hm
  obtain ⟨n, e1⟩ : ∃ n, n = l.length := ⟨_, rfl⟩
  rw [← e1] at hn hl100
  rw [← e1]
  have E1 := Lib.hid e1
  have H1 := Lib.hid h1
  clear e1 h1
  go_enter Tryd.func13, Tryd.ntmps13
  go_wp2_with fail
  go_loopw [3, 8] (fun v3 v wr => ∃ k : Nat, v = .int .i64 k ∧ k ≤ n ∧ v3 = .string (bs (rsText (l.take k))) ∧ Below w.heap.size w wr) (fun _ v _ => n - (RowKit.intOf v).toNat)
  case atStart => exact ⟨0, rfl, Nat.zero_le _, rfl, Below.refl _ _⟩
  case round =>
    obtain ⟨k, rfl, hk, rfl, hbT⟩ := hrel
    by_cases hlt : k < n
    · have hkl : k < l.length := by rw [← E1.out]; exact hlt
      obtain ⟨b, off, rfl, hb, hc⟩ : ∃ b off, p = some ⟨b, off, none⟩ ∧ b < w.heap.size ∧ ∀ i (h : i < l.length), ∃ v1 v2, w.cell? ⟨b, off + i * 2, none⟩ = some v1 ∧ w.cell? ⟨b, off + i * 2 + 1, none⟩ = some v2 ∧ RuV w v1 v2 l[i] := by
        rcases H1.out with h | h
        · rw [h] at hkl; simp at hkl
        · exact h
      obtain ⟨v1, v2, q0, q1, hr⟩ := hc k hkl
      have q0 := (hbT.cell (p := ⟨b, _, none⟩) hb).trans q0
      have q1 := (hbT.cell (p := ⟨b, _, none⟩) hb).trans q1
      have HT := Lib.hid (show rsText (l.take (k + 1)) = rsText (l.take k) ++ (rText l[k] ++ [10]) by rw [List.take_succ_eq_append_getElem hkl, rsText_snoc])
      have hre := hall _ (List.getElem_mem hkl)
      have hlen : (rsText (l.take k)).length ≤ 360100 := by
        have := rsText_len (l := l.take k) (fun r hr => hall r (List.mem_of_mem_take hr))
        have h2 := Nat.mul_le_mul_right 3601 (show (l.take k).length ≤ 100 by rw [List.length_take]; omega)
        omega
      clear hc
      generalize l[k] = r at *
      have HM := Lib.hid (fun (o : Obj) => ruleString_any r v1 v2 (wr.alloc o) (hr.below (Nat.le_refl _) (hbT.alloc hbT.size o)) hre)
      have hrl := rText_len hre
      obtain ⟨a1, n1, k1, a2, n2, k2, rfl, rfl⟩ := ru_vals hr
      clear hr
      generalize rText r = T at *
      generalize rsText (l.take k) = pre at *
      have hz : (bs T).size ≤ 3600 := by rw [bs_size]; exact hrl
      have hzp : (bs pre).size ≤ 360100 := by rw [bs_size]; exact hlen
      have hz1 : (⟨#[10]⟩ : ByteArray).size = 1 := rfl
      have HX := Lib.hid (show bs pre ++ (bs T ++ ⟨#[10]⟩) = bs (pre ++ (T ++ [10])) by rw [show (bs T ++ ⟨#[10]⟩ : ByteArray) = bs (T ++ [10]) from app_bs T [10], app_bs])
      have hbs := hbT.size
      go_wp2_with (first
        | (go_at_call 26; refine (HM.out _).mono ?_; rintro e' w2 ⟨rfl, hb2⟩))
      all_goals first
        | (exfalso; simp only [ByteArray.size_append] at *; omega; done)
        | (exact ⟨⟨k + 1, rfl, hlt, by rw [HT.out, HX.out], below_a1 hbT hbs hb2⟩, by simp [RowKit.intOf]; omega⟩)
    · have HE := Lib.hid (show l.take k = l by rw [List.take_of_length_le (by rw [← E1.out]; omega)])
      go_wp2_with fail
      go_ret
      exact ⟨congrArg (fun x => Ending.returned (Value.string (bs (rsText x)))) HE.out, hbT⟩

set_option maxHeartbeats 2000000 in
set_option maxRecDepth 100000 in
theorem rules_law (v : Value) (l : List Ru) (w : World) (h : RsV w v l) (henv : Env w) :
    Calls Tryd.prog 4 #[v] w fun e w' => e = .returned (.bool true) ∧ Below w.heap.size w w' := by
  have H11 := Lib.hid (fun (W : World) (hb : Below w.heap.size w W) => rulesError_any v l W (h.below (Nat.le_refl _) hb))
  have H12 := Lib.hid (fun (W : World) (hb : Below w.heap.size w W) => checkRules_any v l W (h.below (Nat.le_refl _) hb))
  by_cases hf : rulesErr l = 0
  · have H10 := Lib.hid (rulesText_good v l w h hf henv)
    have H13 := Lib.hid (fun (W : World) (hb : Below w.heap.size w W) => rulesString_any v l W (h.below (Nat.le_refl _) hb) hf)
    rw [hf] at H11 H12
    clear hf
    generalize rsText l = T at *
    obtain ⟨p, c, rfl, _⟩ := h
    go_enter Tryd.func4, Tryd.ntmps4
    go_wp2_with (first
      | (go_at_call 10; refine H10.out.mono ?_; rintro e w1 ⟨rfl, hb1⟩)
      | (go_at_call 11; refine (H11.out _ hb1).mono ?_; rintro e w2 ⟨rfl, hb2⟩; have hb12 := below_keep hb1 (Nat.le_refl _) hb2)
      | (go_at_call 12; refine (H12.out _ hb12).mono ?_; rintro e w3 ⟨rfl, hb3⟩; have hb13 := below_keep hb12 (Nat.le_refl _) hb3)
      | (go_at_call 13; refine (H13.out _ hb13).mono ?_; rintro e w4 ⟨rfl, hb4⟩; have hb14 := below_keep hb13 (Nat.le_refl _) hb4))
    go_ret
    exact ⟨by simp, hb14⟩
  · have H10 := Lib.hid (rulesText_bad v l w h hf)
    have hq : (rulesErr l != 0) = true := by simpa using hf
    clear hf
    generalize rulesErr l = E at *
    obtain ⟨p, c, rfl, _⟩ := h
    have hee : (E != E) = false := by simp
    go_enter Tryd.func4, Tryd.ntmps4
    go_wp2_with (first
      | (go_at_call 10; refine H10.out.mono ?_; rintro e w1 ⟨rfl, hb1⟩)
      | (go_at_call 11; refine (H11.out _ hb1).mono ?_; rintro e w2 ⟨rfl, hb2⟩; have hb12 := below_keep hb1 (Nat.le_refl _) hb2)
      | (go_at_call 12; refine (H12.out _ hb12).mono ?_; rintro e w3 ⟨rfl, hb3⟩; have hb13 := below_keep hb12 (Nat.le_refl _) hb3))
    go_ret
    exact ⟨by simp, hb13⟩
end Go.Proofs.YtooilpblbkgloaaDoor

/- The line of shares. -/
import Derived.Test.YtdkpghfielfojaaShaC
namespace Go.Proofs.Ytdkpghfielfojaa
open Go.RowKit Go.Lib

/-- The greatest of the shares. -/
def gst : List Sh → Int
  | [] => 0
  | x :: l => max x.came (gst l)
theorem gst_append : ∀ a b : List Sh, gst (a ++ b) = max (gst a) (max 0 (gst b))
  | [], b => by
    have : ∀ b : List Sh, 0 ≤ gst b := by
      intro b
      induction b with
      | nil => exact Int.le_refl _
      | cons x l ih => simp only [gst]; omega
    have := this b
    simp only [List.nil_append, gst]; omega
  | x :: a, b => by simp only [List.cons_append, gst, gst_append a b]; omega
theorem gst_nonneg : ∀ l : List Sh, 0 ≤ gst l
  | [] => Int.le_refl _
  | x :: l => by have := gst_nonneg l; simp only [gst]; omega
theorem gst_take (l : List Sh) (k : Nat) (hk : k < l.length) : gst (l.take (k + 1)) = max (gst (l.take k)) l[k].came := by
  have h0 := gst_nonneg (l.take k)
  rw [List.take_succ_eq_append_getElem hk, gst_append]
  simp only [gst]; omega
theorem gst_le : ∀ l : List Sh, (∀ x ∈ l, 0 ≤ x.came ∧ x.came ≤ 1000000000) → gst l ≤ 1000000000
  | [], _ => by simp [gst]
  | x :: l, h => by
    have h1 := h x (List.mem_cons_self ..)
    have h2 := gst_le l (fun y hy => h y (List.mem_cons_of_mem _ hy))
    simp only [gst]; omega
theorem bx1_new (w : World) (v : Value) (t : TypeId) : Bx1 (w.alloc (.cells #[v] t)) w.heap.size v := by
  unfold Bx1; go_simp

set_option maxHeartbeats 2000000 in
set_option maxRecDepth 100000 in
theorem lineOf_any (v : Value) (l : List Sh) (most : Int) (w : World) (hv : ShV w v l) (hg : GoodS l) (h0 : 0 ≤ most) : Calls Try.prog 23 #[v, .int .i64 most] w
    fun e w' => (∃ r : Nat, e = .returned (.int .i64 r) ∧ (r : Int) ≤ gst l ∧ sty r l ≤ most ∧ ((r : Int) = gst l ∨ most < sty ((r : Int) + 1) l)) ∧ Below w.heap.size w w' := by
  have hv0 := hv
  obtain ⟨p, cap, rfl, h1, h2, h3, h4⟩ := hv
  have hB1 := (bx1_new w (.slice p l.length cap) 22)
  have hB2 := bx1_new (w.alloc (.cells #[.slice p l.length cap] 22)) (.int .i64 most) 3
  have hbA : Below w.heap.size w ((w.alloc (.cells #[.slice p l.length cap] 22)).alloc (.cells #[.int .i64 most] 3)) := ((Below.refl _ _).alloc (Nat.le_refl _) _).alloc (by simp) _
  have hB1' : Bx1 ((w.alloc (.cells #[.slice p l.length cap] 22)).alloc (.cells #[.int .i64 most] 3)) w.heap.size (.slice p l.length cap) := hB1.below ((Below.refl _ _).alloc (Nat.le_refl _) _)
  rw [show (w.alloc (.cells #[.slice p l.length cap] 22)).heap.size = w.heap.size + 1 by simp] at hB2
  have HAA := Lib.hid (And.intro hB1' (And.intro hB2 hbA))
  clear hB1 hB2 hB1' hbA
  have HV := Lib.hid (fun (W : World) (hW : Below w.heap.size w W) => hv0.below hW)
  have HG := Lib.hid hg
  have hgl := gst_le l hg.2
  have hgn := gst_nonneg l
  obtain ⟨n, hn⟩ : ∃ n, n = l.length := ⟨_, rfl⟩
  have HN := Lib.hid hn
  rw [← hn] at h1
  have HSR := Lib.hid (fun (m : Nat) (hm : m ≤ 1000000000) (W : World) (a : Bx1 W w.heap.size (.slice p l.length cap)) (b : Bx1 W (w.heap.size + 1) (.int .i64 most)) (c : ShV W (.slice p l.length cap) l) => search_any w.heap.size (w.heap.size + 1) (.slice p l.length cap) l most m W a b c hg hm h0)
  rw [← hn] at HAA HSR HV ⊢
  clear hn hg h3 hv0
  go_enter Try.func23, Try.ntmps23
  go_wp2_with fail
  go_loopw [5, 10] (fun v5 v10 wr => ∃ (k : Nat) (g : Nat), k ≤ n ∧ v10 = .int .i64 k ∧ v5 = .int .i64 g ∧ Hid ((g : Int) = gst (l.take k)) ∧ Hid (Bx1 wr w.heap.size (.slice p n cap) ∧ Bx1 wr (w.heap.size + 1) (.int .i64 most) ∧ Below w.heap.size w wr)) (fun _ v10 _ => n - (RowKit.intOf v10).toNat)
  case atStart => exact ⟨0, 0, Nat.zero_le _, rfl, rfl, Lib.hid rfl, HAA⟩
  case round =>
    obtain ⟨k, g, hk, rfl, rfl, HS, HB⟩ := hrel
    by_cases hlt : k < n
    · have hkl : k < l.length := by have := HN.out; omega
      rcases h4 with h4 | ⟨b, off, rfl, hb, hat⟩
      · rw [h4] at hkl; simp at hkl
      obtain ⟨c0, c1⟩ := (hat.below hb HB.out.2.2) k hkl
      have hx := HG.out.2 l[k] (List.getElem_mem hkl)
      have HT := Lib.hid (gst_take l k hkl)
      generalize l[k] = x at *
      obtain ⟨x0, x1⟩ := x
      simp only at c0 c1 hx HT
      obtain ⟨hx0, hx1⟩ := hx
      have hA := fun (o : Obj) => Lib.hid (show Bx1 (wr.alloc o) w.heap.size (.slice (some ⟨b, off, none⟩) n cap) ∧ Bx1 (wr.alloc o) (w.heap.size + 1) (.int .i64 most) ∧ Below w.heap.size w (wr.alloc o) from ⟨HB.out.1.below ((Below.refl _ _).alloc (Nat.le_refl _) _), HB.out.2.1.below ((Below.refl _ _).alloc (Nat.le_refl _) _), HB.out.2.2.alloc HB.out.2.2.size _⟩)
      clear hat hkl
      obtain ⟨m, rfl⟩ : ∃ m : Nat, x1 = m := ⟨x1.toNat, by omega⟩
      by_cases hm : (g : Int) < (m : Int)
      · have HNX := Lib.hid (show ((m : Nat) : Int) = gst (l.take (k + 1)) by rw [HT.out, ← HS.out]; omega)
        go_wp2_with fail
        all_goals first
          | (exfalso; omega)
          | exact ⟨⟨k + 1, m, by omega, by go_num, rfl, HNX, hA _⟩, by simp [RowKit.intOf]; omega⟩
      · have HNX := Lib.hid (show ((g : Nat) : Int) = gst (l.take (k + 1)) by rw [HT.out, ← HS.out]; omega)
        go_wp2_with fail
        all_goals first
          | (exfalso; omega)
          | exact ⟨⟨k + 1, g, by omega, by go_num, rfl, HNX, hA _⟩, by simp [RowKit.intOf]; omega⟩
    · have HE := Lib.hid (show (g : Int) = gst l by rw [HS.out, List.take_of_length_le (by have := HN.out; omega)])
      have hgm : g ≤ 1000000000 := by have := HE.out; omega
      go_wp2_with (go_at_call 39; (with_reducible refine (HSR.out g hgm _ HB.out.1 HB.out.2.1 (HV.out _ HB.out.2.2)).mono ?_); rintro e w1 ⟨⟨r, rfl, hr1, hr2, hr3⟩, hb1⟩)
      go_ret
      exact ⟨⟨r, rfl, by rw [← HE.out]; omega, hr2, hr3.elim (fun h => .inl (by rw [← HE.out, h])) .inr⟩, below_call HB.out.2.2 HB.out.2.2.size hb1⟩
/-- What the check of amounts lets through. -/
theorem amt_ok {most : Int} : ∀ {l : List Sh} {seen : List (List UInt8)}, amtErr most l seen = 0 → ∀ x ∈ l, 0 ≤ x.came ∧ x.came ≤ most
  | [], _, _, _, h => by cases h
  | y :: l, seen, h, x, hx => by
    unfold amtErr at h
    split at h
    · rename_i h1; exact absurd h h1
    split at h
    · cases h
    split at h
    · rename_i h3
      rcases List.mem_cons.1 hx with rfl | hx
      · unfold wi at h3; exact of_decide_eq_true h3
      · exact amt_ok h x hx
    · cases h
theorem amts_ok {l : List Sh} (h : amtsErr 1000000000 l = 0) : GoodS l := by
  unfold amtsErr at h
  split at h
  · cases h
  · rename_i h1; exact ⟨by omega, amt_ok h⟩
end Go.Proofs.Ytdkpghfielfojaa

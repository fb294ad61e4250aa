/- What the comparisons of faults answer. -/
import Derived.Test.YtihnpbhcddapdaaFaults
import Derived.Test.YtihnpbhcddapdaaEqual
namespace Go.Proofs.Ytihnpbhcddapdaa
open Go.RowKit

/-- Two faults are equal. -/
def Fa.same (x y : Fa) : Bool := decide (x.kind = y.kind) && (decide (x.text = y.text) && decide (x.fr = y.fr))

def fasSame : List Fa → List Fa → Bool
  | [], [] => true
  | x :: l, y :: m => x.same y && fasSame l m
  | _, _ => false
theorem fasSame_len : ∀ {l m : List Fa}, l.length ≠ m.length → fasSame l m = false
  | [], [], h => absurd rfl h
  | _ :: _, [], _ => rfl
  | [], _ :: _, _ => rfl
  | x :: l, y :: m, h => by rw [fasSame, fasSame_len (by simpa using h), Bool.and_false]
theorem fasSame_all : ∀ {l m : List Fa}, l.length = m.length → (∀ i (h1 : i < l.length) (h2 : i < m.length), l[i].same m[i] = true) → fasSame l m = true
  | [], [], _, _ => rfl
  | x :: l, y :: m, hl, h => by
    rw [fasSame, Bool.and_eq_true]
    exact ⟨h 0 (by simp) (by simp), fasSame_all (by simpa using hl) fun i h1 h2 => h (i + 1) (by simpa using h1) (by simpa using h2)⟩
theorem fasSame_at : ∀ {l m : List Fa} {k : Nat} (h1 : k < l.length) (h2 : k < m.length), l[k].same m[k] = false → fasSame l m = false
  | x :: l, y :: m, 0, _, _, h => by rw [fasSame]; rw [show x.same y = false from h, Bool.false_and]
  | x :: l, y :: m, k + 1, h1, h2, h => by rw [fasSame, fasSame_at (k := k) (by simpa using h1) (by simpa using h2) h, Bool.and_false]
theorem Fa.same_refl (x : Fa) : x.same x = true := by unfold Fa.same; simp
theorem fasSame_refl : ∀ l : List Fa, fasSame l l = true
  | [] => rfl
  | x :: l => by rw [fasSame, x.same_refl, fasSame_refl l]; rfl

set_option maxHeartbeats 1000000 in
set_option maxRecDepth 100000 in
theorem sameFault_v (x y : Fa) (w : World) (hx : x.ok w) (hy : y.ok w) :
    Calls Try.prog 41 #[.agg #[.string x.kind, .string x.text, x.fv], .agg #[.string y.kind, .string y.text, y.fv]] w fun e w' => e = .returned (.bool (x.same y)) ∧ Below w.heap.size w w' := by
  have hs1 : SlF w x.fv x.fr := hx.2.2
  have hs2 : SlF w y.fv y.fr := hy.2.2
  unfold Fa.same
  obtain ⟨k, t, fv, fr⟩ := x
  obtain ⟨k', t', fv', fr'⟩ := y
  simp only at hs1 hs2 ⊢
  have HQ := Lib.hid (fun (w' : World) (hb : Below w.heap.size w w') => equal_any fv fv' fr fr' w' (hs1.below (Nat.le_refl _) hb) (hs2.below (Nat.le_refl _) hb))
  obtain ⟨p, c, rfl, _⟩ := hs1
  obtain ⟨p', c', rfl, _⟩ := hs2
  go_enter Try.func41, Try.ntmps41
  go_wp2_with (go_at_call 25; refine (HQ.out _ (((Below.refl _ _).alloc (Nat.le_refl _) _).alloc (by simp) _)).mono ?_; rintro e w' ⟨rfl, hb1⟩)
  all_goals (go_ret; refine ⟨ret_bool ?_, by first | exact below_a2 (Below.refl _ _) (Nat.le_refl _) (by assumption) | exact ((Below.refl _ _).alloc (Nat.le_refl _) _).alloc (by simp) _⟩)
  all_goals (simp only [ba_eq] at *; simp_all)

set_option maxHeartbeats 1000000 in
set_option maxRecDepth 100000 in
theorem sameFaults1_v (x y : Fa) (w : World) (hx : x.ok w) (hy : y.ok w) :
    Calls Try.prog 42 #[.agg #[.string x.kind, .string x.text, x.fv], .agg #[.string y.kind, .string y.text, y.fv]] w fun e w' => e = .returned (.bool (x.same y)) ∧ Below w.heap.size w w' := by
  have hs1 : SlF w x.fv x.fr := hx.2.2
  have hs2 : SlF w y.fv y.fr := hy.2.2
  unfold Fa.same
  obtain ⟨k, t, fv, fr⟩ := x
  obtain ⟨k', t', fv', fr'⟩ := y
  simp only at hs1 hs2 ⊢
  have HQ := Lib.hid (fun (w' : World) (hb : Below w.heap.size w w') => equal_any fv fv' fr fr' w' (hs1.below (Nat.le_refl _) hb) (hs2.below (Nat.le_refl _) hb))
  obtain ⟨p, c, rfl, _⟩ := hs1
  obtain ⟨p', c', rfl, _⟩ := hs2
  go_enter Try.func42, Try.ntmps42
  go_wp2_with (go_at_call 25; refine (HQ.out _ (((Below.refl _ _).alloc (Nat.le_refl _) _).alloc (by simp) _)).mono ?_; rintro e w' ⟨rfl, hb1⟩)
  all_goals (go_ret; refine ⟨ret_bool ?_, by first | exact below_a2 (Below.refl _ _) (Nat.le_refl _) (by assumption) | exact ((Below.refl _ _).alloc (Nat.le_refl _) _).alloc (by simp) _⟩)
  all_goals (simp only [ba_eq] at *; simp_all)


set_option maxHeartbeats 1000000 in
set_option maxRecDepth 100000 in
theorem eqF41_some (b1 o1 c1 b2 o2 c2 : Nat) (l m : List Fa) (w : World) (hm : l.length ≤ maxLen) (hlen : l.length = m.length) (hb1 : b1 < w.heap.size) (hb2 : b2 < w.heap.size) (h1 : FasAt w b1 o1 l) (h2 : FasAt w b2 o2 m) (hk1 : ∀ x ∈ l, x.ok w) (hk2 : ∀ x ∈ m, x.ok w) :
    Calls Try.prog 40 #[.slice (some ⟨b1, o1, none⟩) l.length c1, .slice (some ⟨b2, o2, none⟩) l.length c2, .func (.func 41) #[] #[]] w fun e w' => e = .returned (.bool (fasSame l m)) ∧ Below w.heap.size w w' := by
  unfold maxLen at hm
  have HL := Lib.hid hlen
  have hlen1 : l.length ≤ m.length := by omega
  clear hlen
  go_enter Try.func40, Try.ntmps40
  go_wp2_with fail
  go_loopw [17] (fun v wr => ∃ k : Nat, k ≤ l.length ∧ (∀ i (h1 : i < l.length) (h2 : i < m.length), i < k → l[i].same m[i] = true) ∧ v = .int .i64 k ∧ Below w.heap.size w wr) (fun v _ => l.length - (intOf v).toNat)
  case atStart => exact ⟨0, Nat.zero_le _, fun _ _ _ h => absurd h (by omega), rfl, Below.refl _ _⟩
  case round =>
    obtain ⟨k, hk, hz, rfl, hbw⟩ := hrel
    have HZ := Lib.hid hz
    clear hz
    by_cases hlt : k < l.length
    · have hlt2 : k < m.length := by omega
      obtain ⟨c0, c1', c2'⟩ := (h1 k hlt).below hb1 hbw
      obtain ⟨d0, d1, d2⟩ := (h2 k hlt2).below hb2 hbw
      have hx := (hk1 l[k] (List.getElem_mem hlt)).below (Nat.le_refl _) hbw
      have hy := (hk2 m[k] (List.getElem_mem hlt2)).below (Nat.le_refl _) hbw
      have HN := Lib.hid (fasSame_at hlt hlt2)
      have HS := Lib.hid (show l[k].same m[k] = true → ∀ i (h1 : i < l.length) (h2 : i < m.length), i < k + 1 → l[i].same m[i] = true by
        intro h i h1 h2 hi
        by_cases hik : i < k
        · exact HZ.out i h1 h2 hik
        · obtain rfl : i = k := by omega
          exact h)
      generalize l[k] = x at *
      generalize m[k] = y at *
      have HV := Lib.hid (fun w' (hb : Below wr.heap.size wr w') => sameFault_v x y w' (hx.below (Nat.le_refl _) hb) (hy.below (Nat.le_refl _) hb))
      obtain ⟨kd, tx, fv, fr⟩ := x
      obtain ⟨kd', tx', fv', fr'⟩ := y
      have hfv : SlF wr fv fr := hx.2.2
      have hfv' : SlF wr fv' fr' := hy.2.2
      simp only at c0 c1' c2' d0 d1 d2 HV
      obtain ⟨p1, q1, rfl, _⟩ := hfv
      obtain ⟨p2, q2, rfl, _⟩ := hfv'
      have hd : FaAt (wr.alloc (.cells #[.string kd, .string tx, .slice p1 fr.length q1] 26)) b2 (o2 + k * 3) ⟨kd', tx', .slice p2 fr'.length q2, fr'⟩ := FaAt.below (B := wr.heap.size) ⟨d0, d1, d2⟩ (by have := hbw.size; omega) ((Below.refl _ _).alloc (Nat.le_refl _) _)
      obtain ⟨e0, e1, e2⟩ := hd
      simp only at e0 e1 e2
      clear d0 d1 d2
      go_wp2_with (go_at_call 41; refine (HV.out _ (((Below.refl _ _).alloc (Nat.le_refl _) _).alloc (by simp) _)).mono ?_; rintro e w' ⟨rfl, hb1'⟩)
      case roundEnd =>
        exact ⟨⟨k + 1, by omega, HS.out (by rw [← Bool.not_eq_false']; assumption), by go_num, below_a2 hbw hbw.size hb1'⟩, by simp [intOf]; omega⟩
      go_ret
      exact ⟨ret_bool (HN.out (by rw [← Bool.not_eq_true']; assumption)).symm, below_a2 hbw hbw.size hb1'⟩
    · go_wp2_with fail
      go_ret
      exact ⟨ret_bool (fasSame_all HL.out fun i h1 h2 => HZ.out i h1 h2 (by omega)).symm, hbw⟩

theorem eqF41_none (p q : Option Addr) (c1 c2 : Nat) (w : World) :
    Calls Try.prog 40 #[.slice p 0 c1, .slice q 0 c2, .func (.func 41) #[] #[]] w fun e w' => e = .returned (.bool true) ∧ Below w.heap.size w w' := by
  go_enter Try.func40, Try.ntmps40
  go_wp2_with fail
  go_loop [17] (fun v => v = .int .i64 0) (fun _ => 0)
  case atStart => rfl
  case round =>
    subst hrel
    go_wp2_with fail
    go_ret
    exact ⟨rfl, Below.refl _ _⟩
theorem eqF41_unlike (p q : Option Addr) (n m c1 c2 : Nat) (w : World) (h : n ≠ m) :
    Calls Try.prog 40 #[.slice p n c1, .slice q m c2, .func (.func 41) #[] #[]] w fun e w' => e = .returned (.bool false) ∧ Below w.heap.size w w' := by
  have h' : ((n : Int) != m) = true := by rw [bne_iff_ne]; omega
  go_enter Try.func40, Try.ntmps40
  go_wp2_with fail
  go_ret
  exact ⟨rfl, Below.refl _ _⟩
theorem eqF41_any (v1 v2 : Value) (l m : List Fa) (w : World) (h1 : SlA w v1 l) (h2 : SlA w v2 m) :
    Calls Try.prog 40 #[v1, v2, .func (.func 41) #[] #[]] w fun e w' => e = .returned (.bool (fasSame l m)) ∧ Below w.heap.size w w' := by
  obtain ⟨p, c1, rfl, a1, a2, a3, a4⟩ := h1
  obtain ⟨q, c2, rfl, b1, b2, b3, b4⟩ := h2
  by_cases hl : l.length = m.length
  · rcases a4 with rfl | ⟨b, o, rfl, hb, hc⟩
    · obtain rfl : m = [] := List.length_eq_zero_iff.1 hl.symm
      exact eqF41_none p q c1 c2 w
    · rcases b4 with rfl | ⟨b', o', rfl, hb', hc'⟩
      · obtain rfl : l = [] := List.length_eq_zero_iff.1 hl
        exact eqF41_none _ q c1 c2 w
      · rw [← hl]
        exact eqF41_some b o c1 b' o' c2 l m w (by omega) hl hb hb' hc hc' a3 b3
  · rw [fasSame_len hl]
    exact eqF41_unlike p q _ _ c1 c2 w hl
theorem same_any (v1 v2 : Value) (l m : List Fa) (w : World) (h1 : SlA w v1 l) (h2 : SlA w v2 m) :
    Calls Try.prog 14 #[v1, v2] w fun e w' => e = .returned (.bool (fasSame l m)) ∧ Below w.heap.size w w' := by
  have HQ := Lib.hid (eqF41_any v1 v2 l m w h1 h2)
  go_enter Try.func14, Try.ntmps14
  go_wp2_with (go_at_call 40; refine HQ.out.mono ?_; rintro e w' ⟨rfl, hb⟩)
  go_ret
  exact ⟨rfl, hb⟩

set_option maxHeartbeats 1000000 in
set_option maxRecDepth 100000 in
theorem eqF42_some (b1 o1 c1 b2 o2 c2 : Nat) (l m : List Fa) (w : World) (hm : l.length ≤ maxLen) (hlen : l.length = m.length) (hb1 : b1 < w.heap.size) (hb2 : b2 < w.heap.size) (h1 : FasAt w b1 o1 l) (h2 : FasAt w b2 o2 m) (hk1 : ∀ x ∈ l, x.ok w) (hk2 : ∀ x ∈ m, x.ok w) :
    Calls Try.prog 40 #[.slice (some ⟨b1, o1, none⟩) l.length c1, .slice (some ⟨b2, o2, none⟩) l.length c2, .func (.func 42) #[] #[]] w fun e w' => e = .returned (.bool (fasSame l m)) ∧ Below w.heap.size w w' := by
  unfold maxLen at hm
  have HL := Lib.hid hlen
  have hlen1 : l.length ≤ m.length := by omega
  clear hlen
  go_enter Try.func40, Try.ntmps40
  go_wp2_with fail
  go_loopw [17] (fun v wr => ∃ k : Nat, k ≤ l.length ∧ (∀ i (h1 : i < l.length) (h2 : i < m.length), i < k → l[i].same m[i] = true) ∧ v = .int .i64 k ∧ Below w.heap.size w wr) (fun v _ => l.length - (intOf v).toNat)
  case atStart => exact ⟨0, Nat.zero_le _, fun _ _ _ h => absurd h (by omega), rfl, Below.refl _ _⟩
  case round =>
    obtain ⟨k, hk, hz, rfl, hbw⟩ := hrel
    have HZ := Lib.hid hz
    clear hz
    by_cases hlt : k < l.length
    · have hlt2 : k < m.length := by omega
      obtain ⟨c0, c1', c2'⟩ := (h1 k hlt).below hb1 hbw
      obtain ⟨d0, d1, d2⟩ := (h2 k hlt2).below hb2 hbw
      have hx := (hk1 l[k] (List.getElem_mem hlt)).below (Nat.le_refl _) hbw
      have hy := (hk2 m[k] (List.getElem_mem hlt2)).below (Nat.le_refl _) hbw
      have HN := Lib.hid (fasSame_at hlt hlt2)
      have HS := Lib.hid (show l[k].same m[k] = true → ∀ i (h1 : i < l.length) (h2 : i < m.length), i < k + 1 → l[i].same m[i] = true by
        intro h i h1 h2 hi
        by_cases hik : i < k
        · exact HZ.out i h1 h2 hik
        · obtain rfl : i = k := by omega
          exact h)
      generalize l[k] = x at *
      generalize m[k] = y at *
      have HV := Lib.hid (fun w' (hb : Below wr.heap.size wr w') => sameFaults1_v x y w' (hx.below (Nat.le_refl _) hb) (hy.below (Nat.le_refl _) hb))
      obtain ⟨kd, tx, fv, fr⟩ := x
      obtain ⟨kd', tx', fv', fr'⟩ := y
      have hfv : SlF wr fv fr := hx.2.2
      have hfv' : SlF wr fv' fr' := hy.2.2
      simp only at c0 c1' c2' d0 d1 d2 HV
      obtain ⟨p1, q1, rfl, _⟩ := hfv
      obtain ⟨p2, q2, rfl, _⟩ := hfv'
      have hd : FaAt (wr.alloc (.cells #[.string kd, .string tx, .slice p1 fr.length q1] 26)) b2 (o2 + k * 3) ⟨kd', tx', .slice p2 fr'.length q2, fr'⟩ := FaAt.below (B := wr.heap.size) ⟨d0, d1, d2⟩ (by have := hbw.size; omega) ((Below.refl _ _).alloc (Nat.le_refl _) _)
      obtain ⟨e0, e1, e2⟩ := hd
      simp only at e0 e1 e2
      clear d0 d1 d2
      go_wp2_with (go_at_call 42; refine (HV.out _ (((Below.refl _ _).alloc (Nat.le_refl _) _).alloc (by simp) _)).mono ?_; rintro e w' ⟨rfl, hb1'⟩)
      case roundEnd =>
        exact ⟨⟨k + 1, by omega, HS.out (by rw [← Bool.not_eq_false']; assumption), by go_num, below_a2 hbw hbw.size hb1'⟩, by simp [intOf]; omega⟩
      go_ret
      exact ⟨ret_bool (HN.out (by rw [← Bool.not_eq_true']; assumption)).symm, below_a2 hbw hbw.size hb1'⟩
    · go_wp2_with fail
      go_ret
      exact ⟨ret_bool (fasSame_all HL.out fun i h1 h2 => HZ.out i h1 h2 (by omega)).symm, hbw⟩

theorem eqF42_none (p q : Option Addr) (c1 c2 : Nat) (w : World) :
    Calls Try.prog 40 #[.slice p 0 c1, .slice q 0 c2, .func (.func 42) #[] #[]] w fun e w' => e = .returned (.bool true) ∧ Below w.heap.size w w' := by
  go_enter Try.func40, Try.ntmps40
  go_wp2_with fail
  go_loop [17] (fun v => v = .int .i64 0) (fun _ => 0)
  case atStart => rfl
  case round =>
    subst hrel
    go_wp2_with fail
    go_ret
    exact ⟨rfl, Below.refl _ _⟩
theorem eqF42_unlike (p q : Option Addr) (n m c1 c2 : Nat) (w : World) (h : n ≠ m) :
    Calls Try.prog 40 #[.slice p n c1, .slice q m c2, .func (.func 42) #[] #[]] w fun e w' => e = .returned (.bool false) ∧ Below w.heap.size w w' := by
  have h' : ((n : Int) != m) = true := by rw [bne_iff_ne]; omega
  go_enter Try.func40, Try.ntmps40
  go_wp2_with fail
  go_ret
  exact ⟨rfl, Below.refl _ _⟩
theorem eqF42_any (v1 v2 : Value) (l m : List Fa) (w : World) (h1 : SlA w v1 l) (h2 : SlA w v2 m) :
    Calls Try.prog 40 #[v1, v2, .func (.func 42) #[] #[]] w fun e w' => e = .returned (.bool (fasSame l m)) ∧ Below w.heap.size w w' := by
  obtain ⟨p, c1, rfl, a1, a2, a3, a4⟩ := h1
  obtain ⟨q, c2, rfl, b1, b2, b3, b4⟩ := h2
  by_cases hl : l.length = m.length
  · rcases a4 with rfl | ⟨b, o, rfl, hb, hc⟩
    · obtain rfl : m = [] := List.length_eq_zero_iff.1 hl.symm
      exact eqF42_none p q c1 c2 w
    · rcases b4 with rfl | ⟨b', o', rfl, hb', hc'⟩
      · obtain rfl : l = [] := List.length_eq_zero_iff.1 hl
        exact eqF42_none _ q c1 c2 w
      · rw [← hl]
        exact eqF42_some b o c1 b' o' c2 l m w (by omega) hl hb hb' hc hc' a3 b3
  · rw [fasSame_len hl]
    exact eqF42_unlike p q _ _ c1 c2 w hl
theorem sameFaults_any (v1 v2 : Value) (l m : List Fa) (w : World) (h1 : SlA w v1 l) (h2 : SlA w v2 m) :
    Calls Try.prog 15 #[v1, v2] w fun e w' => e = .returned (.bool (fasSame l m)) ∧ Below w.heap.size w w' := by
  have HQ := Lib.hid (eqF42_any v1 v2 l m w h1 h2)
  go_enter Try.func15, Try.ntmps15
  go_wp2_with (go_at_call 40; refine HQ.out.mono ?_; rintro e w' ⟨rfl, hb⟩)
  go_ret
  exact ⟨rfl, hb⟩

end Go.Proofs.Ytihnpbhcddapdaa

/- Which faults have a name with a sign that it may not have. -/
import Derived.Test.YtmoofdcoodaaiaaGreatDoorWrP
import Derived.Lib.IndexAny
namespace Go.Proofs.YtmoofdcoodaaiaaGreatDoor
open Go.RowKit Go.Lib

def bang (s : ByteArray) : Bool := decide (0 ≤ Lib.indexByte s.data.toList 33)
theorem bang_mem (s : ByteArray) : bang s = s.data.toList.contains 33 := (Lib.contains_iff_indexByte _ _).symm
theorem bang_app (a b : ByteArray) : bang (a ++ b) = (bang a || bang b) := by
  rw [bang_mem, bang_mem, bang_mem, app_data, Bool.eq_iff_iff]; simp
def ambF (x : Fr) : Bool := bang x.m || bang x.f
def ambA (f : Fa) : Bool := f.fr.any ambF
def ambs (l : List Fa) : Bool := l.any ambA
theorem contains_bang (s : ByteArray) (w : World) :
    Calls Tryz.prog 19 #[.string s, .string ⟨#[33]⟩] w fun e w' => e = .returned (.bool (bang s)) ∧ w' = w := Tryz.strings_Contains_one s 33 w

theorem any_none {α : Type} {p : α → Bool} {l : List α} {k : Nat} (hk : l.length ≤ k) (h : ∀ x ∈ l.take k, p x = false) : l.any p = false := by
  rw [List.take_of_length_le hk] at h
  rw [List.any_eq_false]; intro x hx; rw [h x hx]; simp
theorem any_at {α : Type} {p : α → Bool} {l : List α} {x : α} (hm : x ∈ l) (h : p x = true) : l.any p = true := List.any_eq_true.2 ⟨x, hm, h⟩

set_option maxHeartbeats 1000000 in
set_option maxRecDepth 100000 in
theorem amb1_any (x : Fr) (w : World) :
    Calls Tryz.prog 38 #[.agg #[.string x.m, .string x.f, .string x.i, .int .i64 x.line, .int .i64 x.addr, .bool x.own]] w fun e w' => e = .returned (.bool (ambF x)) ∧ Below w.heap.size w w' := by
  obtain ⟨m, f, i, ln, ad, ow⟩ := x
  unfold ambF
  simp only
  have HM := Lib.hid (fun W => contains_bang m W)
  have HF := Lib.hid (fun W => contains_bang f W)
  cases hm : bang m
  · rw [hm] at HM
    go_enter Tryz.func38, Tryz.ntmps38
    go_wp2_with (first
      | (go_at_call 19; (with_reducible refine (HM.out _).mono ?_); rintro e w1 ⟨rfl, rfl⟩)
      | (go_at_call 19; (with_reducible refine (HF.out _).mono ?_); rintro e w1 ⟨rfl, rfl⟩))
    go_ret
    exact ⟨ret_bool (by simp), (Below.refl _ _).alloc (Nat.le_refl _) _⟩
  · rw [hm] at HM
    go_enter Tryz.func38, Tryz.ntmps38
    go_wp2_with (first
      | (go_at_call 19; (with_reducible refine (HM.out _).mono ?_); rintro e w1 ⟨rfl, rfl⟩)
      | (go_at_call 19; (with_reducible refine (HF.out _).mono ?_); rintro e w1 ⟨rfl, rfl⟩))
    go_ret
    exact ⟨ret_bool (by simp), (Below.refl _ _).alloc (Nat.le_refl _) _⟩

set_option maxHeartbeats 1000000 in
set_option maxRecDepth 100000 in
theorem frIndex_any (v : Value) (l : List Fr) (w : World) (hv : SlF w v l) :
    Calls Tryz.prog 66 #[v, .func (.func 38) #[] #[]] w fun e w' => (∃ c : Int, e = .returned (.int .i64 c) ∧ decide (0 ≤ c) = l.any ambF) ∧ Below w.heap.size w w' := by
  obtain ⟨p, cap, rfl, h1, h2, h3, h4⟩ := hv
  unfold maxLen at h2
  obtain ⟨n, hn⟩ : ∃ n, n = l.length := ⟨_, rfl⟩
  have HN := Lib.hid hn
  rw [← hn] at h1 ⊢
  clear hn
  go_enter Tryz.func66, Tryz.ntmps66
  go_wp2_with fail
  go_loopw [8] (fun v8 wr => ∃ k : Nat, k ≤ n ∧ Hid (∀ x ∈ l.take k, ambF x = false) ∧ v8 = .int .i64 k ∧ Below w.heap.size w wr) (fun v8 _ => n - (RowKit.intOf v8).toNat)
  case atStart => exact ⟨0, Nat.zero_le _, Lib.hid (by simp), rfl, Below.refl _ _⟩
  case round =>
    obtain ⟨w2, rfl⟩ : ∃ w2 : World, w2 = wr := ⟨_, rfl⟩
    obtain ⟨k, hk, HZ, rfl, hbw⟩ := hrel
    by_cases hlt : k < n
    · have hkl : k < l.length := by have := HN.out; omega
      rcases h4 with h4 | ⟨bb, off, rfl, hbb, hat⟩
      · rw [h4] at hkl; simp at hkl
      obtain ⟨c0, c1, c2, c3, c4, c5⟩ := (hat k hkl).below hbb hbw
      have HA := Lib.hid (allz_succ (p := fun x => ambF x = false) hkl HZ.out)
      have HM := Lib.hid (List.getElem_mem hkl)
      generalize l[k] = x at *
      have HX := Lib.hid (amb1_any x w2)
      cases hx : ambF x
      · rw [hx] at HX
        have HXX := Lib.hid hx
        clear hx
        go_wp2_with (go_at_call 38; (with_reducible refine HX.out.mono ?_); rintro e w3 ⟨rfl, hb3⟩; have hbw3 := below_call hbw hbw.size hb3)
        exact ⟨⟨k + 1, by omega, Lib.hid (HA.out HXX.out), by go_num, hbw3⟩, by simp [RowKit.intOf] <;> omega⟩
      · rw [hx] at HX
        have HXX := Lib.hid hx
        clear hx
        go_wp2_with (go_at_call 38; (with_reducible refine HX.out.mono ?_); rintro e w3 ⟨rfl, hb3⟩; have hbw3 := below_call hbw hbw.size hb3)
        go_ret
        exact ⟨⟨_, rfl, by rw [any_at HM.out HXX.out]; simp⟩, hbw3⟩
    · have HE := Lib.hid (any_none (by have := HN.out; omega) HZ.out)
      go_wp2_with fail
      go_ret
      exact ⟨⟨_, rfl, by rw [HE.out]; simp⟩, hbw⟩

set_option maxHeartbeats 1000000 in
set_option maxRecDepth 100000 in
theorem frCont_any (v : Value) (l : List Fr) (w : World) (hv : SlF w v l) :
    Calls Tryz.prog 37 #[v, .func (.func 38) #[] #[]] w fun e w' => e = .returned (.bool (l.any ambF)) ∧ Below w.heap.size w w' := by
  have HX := Lib.hid (frIndex_any v l w hv)
  obtain ⟨p, cap, rfl, -⟩ := hv
  go_enter Tryz.func37, Tryz.ntmps37
  go_wp2_with (go_at_call 66; (with_reducible refine HX.out.mono ?_); rintro e w1 ⟨⟨c, rfl, hc⟩, hb1⟩; have HC := Lib.hid hc; clear hc)
  go_ret
  exact ⟨ret_bool (by rw [← HC.out]), hb1⟩

set_option maxHeartbeats 1000000 in
set_option maxRecDepth 100000 in
theorem amb_any (k t : ByteArray) (fv : Value) (l : List Fr) (w : World) (hv : SlF w fv l) :
    Calls Tryz.prog 15 #[.agg #[.string k, .string t, fv]] w fun e w' => e = .returned (.bool (l.any ambF)) ∧ Below w.heap.size w w' := by
  have HX := Lib.hid (frCont_any fv l (w.alloc (.cells #[.string k, .string t, fv] 44)) (hv.below (Nat.le_refl _) ((Below.refl _ _).alloc (Nat.le_refl _) _)))
  obtain ⟨p, cap, rfl, -⟩ := hv
  go_enter Tryz.func15, Tryz.ntmps15
  go_wp2_with (go_at_call 37; (with_reducible refine HX.out.mono ?_); rintro e w1 ⟨rfl, hb1⟩)
  go_ret
  exact ⟨rfl, below_a1 (Below.refl _ _) (Nat.le_refl _) hb1⟩

set_option maxHeartbeats 1000000 in
set_option maxRecDepth 100000 in
theorem faIndex_any (v : Value) (l : List Fa) (w : World) (hv : SlA w v l) :
    Calls Tryz.prog 36 #[v, .func (.func 15) #[] #[]] w fun e w' => (∃ c : Int, e = .returned (.int .i64 c) ∧ decide (0 ≤ c) = ambs l) ∧ Below w.heap.size w w' := by
  obtain ⟨p, cap, rfl, h1, h2, h3, h4⟩ := hv
  unfold maxLen at h2
  obtain ⟨n, hn⟩ : ∃ n, n = l.length := ⟨_, rfl⟩
  have HN := Lib.hid hn
  rw [← hn] at h1 ⊢
  clear hn
  go_enter Tryz.func36, Tryz.ntmps36
  go_wp2_with fail
  go_loopw [8] (fun v8 wr => ∃ k : Nat, k ≤ n ∧ Hid (∀ x ∈ l.take k, ambA x = false) ∧ v8 = .int .i64 k ∧ Below w.heap.size w wr) (fun v8 _ => n - (RowKit.intOf v8).toNat)
  case atStart => exact ⟨0, Nat.zero_le _, Lib.hid (by simp), rfl, Below.refl _ _⟩
  case round =>
    obtain ⟨w2, rfl⟩ : ∃ w2 : World, w2 = wr := ⟨_, rfl⟩
    obtain ⟨k, hk, HZ, rfl, hbw⟩ := hrel
    by_cases hlt : k < n
    · have hkl : k < l.length := by have := HN.out; omega
      rcases h4 with h4 | ⟨bb, off, rfl, hbb, hat⟩
      · rw [h4] at hkl; simp at hkl
      obtain ⟨c0, c1, c2⟩ := (hat k hkl).below hbb hbw
      have HA := Lib.hid (allz_succ (p := fun x => ambA x = false) hkl HZ.out)
      have HM := Lib.hid (List.getElem_mem hkl)
      have hfk := (h3 _ (List.getElem_mem hkl)).2.2
      generalize l[k] = f at *
      obtain ⟨kd, tv, fv, fr⟩ := f
      simp only at c0 c1 c2 hfk
      have HX := Lib.hid (amb_any kd tv fv fr w2 (hfk.below (Nat.le_refl _) hbw))
      obtain ⟨q, qc, rfl, -⟩ := hfk
      cases hx : fr.any ambF
      · rw [hx] at HX
        have HXX := Lib.hid hx
        clear hx
        go_wp2_with (go_at_call 15; (with_reducible refine HX.out.mono ?_); rintro e w3 ⟨rfl, hb3⟩; have hbw3 := below_call hbw hbw.size hb3)
        exact ⟨⟨k + 1, by omega, Lib.hid (HA.out HXX.out), by go_num, hbw3⟩, by simp [RowKit.intOf] <;> omega⟩
      · rw [hx] at HX
        have HXX := Lib.hid hx
        clear hx
        go_wp2_with (go_at_call 15; (with_reducible refine HX.out.mono ?_); rintro e w3 ⟨rfl, hb3⟩; have hbw3 := below_call hbw hbw.size hb3)
        go_ret
        exact ⟨⟨_, rfl, by rw [show ambs l = true from any_at HM.out HXX.out]; simp⟩, hbw3⟩
    · have HE := Lib.hid (show ambs l = false from any_none (by have := HN.out; omega) HZ.out)
      go_wp2_with fail
      go_ret
      exact ⟨⟨_, rfl, by rw [HE.out]; simp⟩, hbw⟩

set_option maxHeartbeats 1000000 in
set_option maxRecDepth 100000 in
theorem faCont_any (v : Value) (l : List Fa) (w : World) (hv : SlA w v l) :
    Calls Tryz.prog 14 #[v, .func (.func 15) #[] #[]] w fun e w' => e = .returned (.bool (ambs l)) ∧ Below w.heap.size w w' := by
  have HX := Lib.hid (faIndex_any v l w hv)
  obtain ⟨p, cap, rfl, -⟩ := hv
  go_enter Tryz.func14, Tryz.ntmps14
  go_wp2_with (go_at_call 36; (with_reducible refine HX.out.mono ?_); rintro e w1 ⟨⟨c, rfl, hc⟩, hb1⟩; have HC := Lib.hid hc; clear hc)
  go_ret
  exact ⟨ret_bool (by rw [← HC.out]), hb1⟩
end Go.Proofs.YtmoofdcoodaaiaaGreatDoor

/- Keys: what their checks answer. -/
import Derived.Test.YtdkpghfielfojaaPourG
import Derived.Lib.Strings
namespace Go.Proofs.Ytdkpghfielfojaa
open Go.RowKit Go.Lib

def pr (c : UInt8) : Bool := 32 ≤ c && c ≤ 126
theorem pr_eq (c : UInt8) : pr c = decide (32 ≤ (c.toNat : Int) ∧ (c.toNat : Int) ≤ 126) := by
  unfold pr; rw [Bool.eq_iff_iff]; simp [UInt8.le_iff_toNat_le]; omega
set_option maxHeartbeats 1000000 in
theorem inKey_any (c : UInt8) (w : World) : Calls Try.prog 50 #[.int .u8 c.toNat] w fun e w' => e = .returned (.bool (pr c)) ∧ w' = w := by
  have HE := Lib.hid (pr_eq c)
  go_enter Try.func50, Try.ntmps50
  go_wp2_with fail
  all_goals (go_ret; exact ⟨ret_bool (by rw [HE.out, Bool.eq_iff_iff]; simp only [decide_eq_true_eq, Bool.false_eq_true]; first | omega | (simp only [false_iff]; omega)), rfl⟩)
set_option maxHeartbeats 1000000 in
set_option maxRecDepth 100000 in
theorem eachKey (s : ByteArray) (w : World) (hs : s.size ≤ 4611686018427387904) :
    Calls Try.prog 49 #[.string s, .func (.func 50) #[] #[]] w fun e w' => e = .returned (.bool (s.data.toList.all pr)) ∧ w' = w := by
  have hl := Lib.hid (Lib.size_eq s)
  obtain ⟨A, hA⟩ : ∃ A, A = s.data.toList.all pr := ⟨_, rfl⟩
  rw [← hA]
  have HA := Lib.hid hA
  clear hA
  go_enter Try.func49, Try.ntmps49
  go_wp2_with fail
  go_loop [8] (fun v => ∃ k : Nat, v = .int .i64 k ∧ k ≤ s.size ∧ (s.data.toList.take k).all pr = true) (fun v => s.size - (RowKit.intOf v).toNat)
  case atStart => exact ⟨0, rfl, Nat.zero_le _, by simp⟩
  case round =>
    obtain ⟨k, rfl, hk, heq⟩ := hrel
    have HEQ := Lib.hid heq
    clear heq
    by_cases hlt : k < s.size
    · have hkl : k < s.data.toList.length := by rw [← hl.out]; exact hlt
      have HC := Lib.hid (fun W => inKey_any s[k] W)
      cases hp : pr s[k]
      · have HR := Lib.hid (show s.data.toList.all pr = false from by
          rw [← List.take_append_drop k s.data.toList, List.all_append, List.drop_eq_getElem_cons hkl, List.all_cons]
          rw [show pr s.data.toList[k] = false from hp]; simp)
        rw [hp] at HC
        clear hp
        go_wp2_with (go_at_call 50; refine (HC.out _).mono ?_; rintro e w' ⟨rfl, rfl⟩)
        go_ret
        exact ⟨ret_bool (by rw [HA.out]; exact HR.out.symm), rfl⟩
      · have HR := Lib.hid (show (s.data.toList.take (k + 1)).all pr = true from by
          rw [List.take_succ_eq_append_getElem hkl, List.all_append, HEQ.out]
          rw [List.all_cons, show pr s.data.toList[k] = true from hp]; rfl)
        rw [hp] at HC
        clear hp
        go_wp2_with (go_at_call 50; refine (HC.out _).mono ?_; rintro e w' ⟨rfl, rfl⟩)
        exact ⟨⟨k + 1, rfl, hlt, HR.out⟩, by simp [RowKit.intOf]; omega⟩
    · have hk2 : k = s.size := by omega
      have HR := Lib.hid (show s.data.toList.all pr = true from by
        have := HEQ.out
        rwa [List.take_of_length_le (by rw [← hl.out]; omega)] at this)
      clear hk2
      go_wp2_with fail
      go_ret
      exact ⟨ret_bool (by rw [HA.out]; exact HR.out.symm), rfl⟩
/-- The error of a key. -/
def keyErr (s : ByteArray) : Int := if 200 < s.size then 4 else if s.data.toList.all pr = true then 0 else 9
set_option maxHeartbeats 1000000 in
set_option maxRecDepth 100000 in
theorem checkKey_any (s : ByteArray) (w : World) : Calls Try.prog 38 #[.string s] w fun e w' => e = .returned (.int .i64 (keyErr s)) ∧ w' = w := by
  unfold keyErr
  by_cases hs : 200 < s.size
  · rw [if_pos hs]
    have hs' : (200 : Int) < (s.size : Int) := by omega
    clear hs
    go_enter Try.func38, Try.ntmps38
    go_wp2_with fail
    go_ret
    exact ⟨rfl, rfl⟩
  · rw [if_neg hs]
    have hs' : ¬ (200 : Int) < (s.size : Int) := by omega
    have HE := Lib.hid (fun W => eachKey s W (by omega))
    generalize s.data.toList.all pr = b at *
    clear hs
    cases b
    all_goals
      go_enter Try.func38, Try.ntmps38
      go_wp2_with (go_at_call 49; (with_reducible refine (HE.out _).mono ?_); rintro e w1 ⟨rfl, rfl⟩)
      go_ret
      exact ⟨rfl, rfl⟩

/-! ### Shares in memory -/
structure Sh where
  key : ByteArray
  came : Int
/-- A value is a row of shares: where they lie. -/
def ShsAt (w : World) (b off : Nat) (l : List Sh) : Prop := ∀ i (h : i < l.length), w.cell? ⟨b, off + i * 2, none⟩ = some (.string l[i].key) ∧ w.cell? ⟨b, off + i * 2 + 1, none⟩ = some (.int .i64 l[i].came)
def ShV (w : World) (v : Value) (l : List Sh) : Prop :=
  ∃ (p : Option Addr) (cap : Nat), v = .slice p l.length cap ∧ l.length ≤ cap ∧ cap ≤ 9223372036854775807 ∧ (∀ x ∈ l, x.key.size ≤ 9223372036854775807) ∧ (l = [] ∨ ∃ b off, p = some ⟨b, off, none⟩ ∧ b < w.heap.size ∧ ShsAt w b off l)
theorem ShsAt.below {B : Nat} {w w' : World} {b o : Nat} {l : List Sh} (h : ShsAt w b o l) (hb : b < B) (hw : Below B w w') : ShsAt w' b o l :=
  fun i hi => ⟨(hw.cell (p := ⟨b, _, none⟩) hb).trans (h i hi).1, (hw.cell (p := ⟨b, _, none⟩) hb).trans (h i hi).2⟩
theorem ShV.below {w w' : World} {v : Value} {l : List Sh} (h : ShV w v l) (hw : Below w.heap.size w w') : ShV w' v l := by
  obtain ⟨p, cap, hv, h1, h2, h3, h4⟩ := h
  refine ⟨p, cap, hv, h1, h2, h3, ?_⟩
  rcases h4 with h4 | ⟨b, off, hp, hb, hc⟩
  · exact .inl h4
  · exact .inr ⟨b, off, hp, by have := hw.size; omega, hc.below hb hw⟩
end Go.Proofs.Ytdkpghfielfojaa

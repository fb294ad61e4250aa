/- What VersionOf answers, for every string. -/
import Derived.Test.YtnpnoohnkbpokaaGreatDoorVerX
namespace Go.Proofs.YtnpnoohnkbpokaaGreatDoor
open Go.RowKit Go.Lib

def rJ (s : ByteArray) : ByteArray := s.extract 0 (qDash s).toNat
def rX (s : ByteArray) : ByteArray := s.extract ((qDash s).toNat + 1) s.size
def rA (s : ByteArray) : ByteArray := bs (Lib.cut (rX s).data.toList [45]).1
def rPR (s : ByteArray) : ByteArray := bs (Lib.cut (rX s).data.toList [45]).2.1
def rHas (s : ByteArray) : Bool := (Lib.cut (rX s).data.toList [45]).2.2
def rW (s : ByteArray) : List ByteArray := splitL (rA s) 46
def rP (s : ByteArray) : List ByteArray := if rHas s = true then splitL (rPR s) 46 else []
/-- Whether VersionOf takes a string, and the version that it makes of it. -/
def VOk (s : ByteArray) : Prop := nameB s.data.toList = true ∧ ¬ qDash s < 0 ∧ oks (rW s) = true ∧ (rW s).length = 3 ∧ projB (rJ s).data.toList = true ∧ ¬ (5 < (rP s).length ∨ anyBad (rP s) = true)
def vofV (s : ByteArray) : Vr := ⟨rJ s, rdNum 6 ((rW s).getD 0 ByteArray.empty).data.toList, rdNum 6 ((rW s).getD 1 ByteArray.empty).data.toList, rdNum 6 ((rW s).getD 2 ByteArray.empty).data.toList, rP s⟩
def VPost (s : ByteArray) (w : World) (e : Ending) (w' : World) : Prop :=
  ∃ v n x, e = .returned (.tuple #[v, .int .i64 n]) ∧ VrN w.heap.size w' v x ∧ (VOk s → n = 0 ∧ x = vofV s) ∧ (¬ VOk s → n = 8 ∧ x = vr0) ∧ Below w.heap.size w w'
theorem VPost.bad {s : ByteArray} {w w' : World} {e : Ending} (h : ¬ VOk s) (he : e = .returned (.tuple #[.agg #[.string ⟨#[]⟩, .int .i64 0, .int .i64 0, .int .i64 0, .slice none 0 0], .int .i64 8])) (hb : Below w.heap.size w w') : VPost s w e w' :=
  ⟨_, 8, vr0, he, VrN.zero _ _, fun k => absurd k h, fun _ => ⟨rfl, rfl⟩, hb⟩

theorem qDash_lt (s : ByteArray) (h : ¬ qDash s < 0) : (qDash s).toNat < (qT s).size := by
  rcases Lib.lastIndexByte_spec (qT s) 45 with ⟨h1, _⟩ | ⟨i, hi, h1, _⟩
  · exact absurd (show qDash s < 0 by show Lib.lastIndexByte _ _ < 0; omega) h
  · have : qDash s = i := h1
    omega
theorem qT_le (s : ByteArray) : (qT s).size ≤ s.size ∧ (qT s).size ≤ (qDot s).toNat := by
  unfold qT; rw [ByteArray.size_extract]; omega

theorem VOf_any (s : ByteArray) (w : World) (hs : s.size ≤ 1048576) (he : Env w) : Calls Tryz.prog 10 #[.string s] w (VPost s w) := by
  cases hn : nameB s.data.toList
  · refine (VOf_name s w hs hn).mono ?_
    rintro e w' ⟨h, hb⟩
    exact VPost.bad (fun k => absurd (hn.symm.trans k.1) (by decide)) h hb
  by_cases hd : qDash s < 0
  · refine (VOf_dash s w hs hn hd).mono ?_
    rintro e w' ⟨h, hb⟩
    exact VPost.bad (fun k => k.2.1 hd) h hb
  have h1 := qDash_lt s hd
  have h2 := qT_le s
  have hsz : s.size ≤ 40 := by
    have := hn
    unfold nameB at this
    simp only [Bool.and_eq_true, decide_eq_true_eq] at this
    rw [Lib.size_eq]; exact this.1.1.2
  have hx : (rX s).size ≤ 40 := by unfold rX; rw [ByteArray.size_extract]; omega
  have hc := cut_sizes (rX s).data.toList 45
  rw [← Lib.size_eq] at hc
  have ha : (rA s).size ≤ 40 := by unfold rA; rw [bs_size]; omega
  have hp : (rPR s).size ≤ 40 := by unfold rPR; rw [bs_size]; omega
  have hlen : (splitL (rA s) 46).length ≤ 100 := by
    have e1 : (splitL (rA s) 46).length = Lib.countB (rA s) ⟨#[46]⟩ + 1 := Lib.splitB_all ⟨#[46]⟩ (one_le 46) 0 _ (rA s) rfl
    have e2 := Lib.countB_le ⟨#[46]⟩ (one_le 46) (rA s).size (rA s) (Nat.le_refl _)
    omega
  have ht : qDot s = (((qDot s).toNat : Nat) : Int) := by omega
  have hdd : qDash s = (((qDash s).toNat : Nat) : Int) := by omega
  have hC : ∀ W, Env W → Calls Tryz.prog 33 #[.string (rX s), .string ⟨#[45]⟩] W fun e w' => e = .returned (.tuple #[.string (rA s), .string (rPR s), .bool (rHas s)]) ∧ Below W.heap.size W w' := fun W h => cut_any (rX s) 45 W (by omega) h
  cases hE : oks (rW s)
  · refine (VOf_nums s (rJ s) (rX s) (rA s) (rPR s) (rHas s) _ _ w he hs hn ht hdd (by omega) rfl rfl (by omega) hlen hC hE).mono ?_
    rintro e w' ⟨h, hb⟩
    exact VPost.bad (fun k => absurd (hE.symm.trans k.2.2.1) (by decide)) h hb
  by_cases h3 : (rW s).length = 3
  · cases hP : projB (rJ s).data.toList
    · refine (VOf_proj s (rJ s) (rX s) (rA s) (rPR s) (rHas s) _ _ w he hs hn ht hdd (by omega) rfl rfl (by omega) hlen hC hE h3 hP).mono ?_
      rintro e w' ⟨h, hb⟩
      exact VPost.bad (fun k => absurd (hP.symm.trans k.2.2.2.2.1) (by decide)) h hb
    · obtain ⟨xa, xb, xc, hL⟩ : ∃ xa xb xc, rW s = [xa, xb, xc] := by
        match hm : rW s, h3 with
        | [xa, xb, xc], _ => exact ⟨xa, xb, xc, rfl⟩
      refine (VOf_good s (rJ s) (rX s) (rA s) (rPR s) (rHas s) _ _ w he hs hn ht hdd (by omega) rfl rfl (by omega) hlen hC xa xb xc (by omega) hE hL hP).mono ?_
      rintro e w' ⟨v, h, hv, hb⟩
      refine ⟨v, _, _, h, hv, fun k => ?_, fun k => ?_, hb⟩
      · have hk : ¬ (5 < (rP s).length ∨ anyBad (rP s) = true) := k.2.2.2.2.2
        unfold rP at hk
        rw [if_neg hk, if_neg hk]
        refine ⟨rfl, ?_⟩
        unfold vofV
        rw [hL]
        rfl
      · have hk : 5 < (rP s).length ∨ anyBad (rP s) = true := by
          apply Classical.byContradiction
          intro hc
          exact k ⟨hn, hd, hE, h3, hP, hc⟩
        unfold rP at hk
        rw [if_pos hk, if_pos hk]
        exact ⟨rfl, rfl⟩
  · refine (VOf_three s (rJ s) (rX s) (rA s) (rPR s) (rHas s) _ _ w he hs hn ht hdd (by omega) rfl rfl (by omega) hlen hC hE h3).mono ?_
    rintro e w' ⟨h, hb⟩
    exact VPost.bad (fun k => h3 k.2.2.2.1) h hb
end Go.Proofs.YtnpnoohnkbpokaaGreatDoor

/- What VersionOf answers to a string that is no name, or has no dash ahead of its first point. -/
import Derived.Test.YtnpnoohnkbpokaaGreatDoorVerU
import Derived.Test.YtnpnoohnkbpokaaGreatDoorVerI
import Derived.Lib.LastIndexByte
import Derived.Lib.IndexLaws
namespace Go.Proofs.YtnpnoohnkbpokaaGreatDoor
open Go.RowKit Go.Lib

set_option maxHeartbeats 4000000 in
set_option maxRecDepth 100000 in
theorem VOf_name (s : ByteArray) (w : World) (hs : s.size ≤ 1048576) (hn : nameB s.data.toList = false) :
    Calls Tryz.prog 10 #[.string s] w fun e w' => e = .returned (.tuple #[.agg #[.string ⟨#[]⟩, .int .i64 0, .int .i64 0, .int .i64 0, .slice none 0 0], .int .i64 8]) ∧ Below w.heap.size w w' := by
  have HN := Lib.hid (fun W => nameOk_any s W hs)
  rw [hn] at HN
  clear hn hs
  go_enter Tryz.func10, Tryz.ntmps10
  go_wp2_with (go_at_call 30; refine (HN.out _).mono ?_; rintro e w1 ⟨rfl, hb1⟩; have HB1 := Lib.hid ((bx5_new w (.string ⟨#[]⟩) (.int .i64 0) (.int .i64 0) (.int .i64 0) (.slice none 0 0) 24).below hb1); have hw1 := below_a1 (Below.refl _ _) (Nat.le_refl _) hb1; have k0 := HB1.out.c0; have k1 := HB1.out.c1; have k2 := HB1.out.c2; have k3 := HB1.out.c3; have k4 := HB1.out.c4; have f0 := HB1.out.f0; have f1 := HB1.out.f1; have f2 := HB1.out.f2; have f3 := HB1.out.f3; have f4 := HB1.out.f4)
  refine bodyPost_ret (results_vr rfl _ _ _ rfl rfl (((((HB1.out.set0 _).set1 _).set2 _).set3 _).set4 _)) rfl ?_
  exact ⟨rfl, ((((hw1.setCell (Nat.le_refl _) _).setCell (Nat.le_refl _) _).setCell (Nat.le_refl _) _).setCell (Nat.le_refl _) _).setCell (Nat.le_refl _) _⟩

/-- What stands ahead of the first point, and where its last dash is. -/
def qDot (s : ByteArray) : Int := Lib.indexByte s.data.toList 46
def qT (s : ByteArray) : ByteArray := s.extract 0 (qDot s).toNat
def qDash (s : ByteArray) : Int := Lib.lastIndexByte (qT s) 45
theorem qDot_le (s : ByteArray) : qDot s ≤ s.size := by
  unfold qDot
  rw [Lib.size_eq]
  by_cases h : Lib.indexByte s.data.toList 46 < 0
  · omega
  · obtain ⟨o, ho⟩ : ∃ o : Nat, Lib.indexByte s.data.toList 46 = o := ⟨(Lib.indexByte s.data.toList 46).toNat, by omega⟩
    obtain ⟨hl, _⟩ := List.getElem?_eq_some_iff.1 (Lib.indexByte_some ho).1
    omega

set_option maxHeartbeats 4000000 in
set_option maxRecDepth 100000 in
theorem VOf_dash (s : ByteArray) (w : World) (hs : s.size ≤ 1048576) (hn : nameB s.data.toList = true) (hd : qDash s < 0) :
    Calls Tryz.prog 10 #[.string s] w fun e w' => e = .returned (.tuple #[.agg #[.string ⟨#[]⟩, .int .i64 0, .int .i64 0, .int .i64 0, .slice none 0 0], .int .i64 8]) ∧ Below w.heap.size w w' := by
  have HN := Lib.hid (fun W => nameOk_any s W hs)
  rw [hn] at HN
  have HI := Lib.hid (fun W => Tryz.strings_IndexByte s 46 W)
  rw [show Lib.indexByte s.data.toList (46 : Int).toNat.toUInt8 = qDot s from rfl] at HI
  have HL := Lib.hid (fun W => Tryz.strings_LastIndexByte (qT s) 45 (by unfold qT; rw [ByteArray.size_extract]; omega) W)
  rw [show Lib.lastIndexByte (qT s) 45 = qDash s from rfl] at HL
  have hx : decide (qDash s < 0) = true := decide_eq_true hd
  have hle := qDot_le s
  have HT := Lib.hid (show s.extract 0 (qDot s).toNat = qT s from rfl)
  by_cases h0 : qDot s < 0
  · have htn : qDot s = -1 := by have := Lib.indexByte_ge s.data.toList 46; unfold qDot at h0 ⊢; omega
    rw [htn] at HI HT
    have HT0 : s.extract 0 (max (-1 : Int) 0).toNat = qT s := HT.out
    generalize qDash s = d at *
    generalize qT s = T at *
    clear hd hn HT htn h0 hle
    go_enter Tryz.func10, Tryz.ntmps10
    go_wp2_with (first
      | (go_at_call 30; refine (HN.out _).mono ?_; rintro e w1 ⟨rfl, hb1⟩; have HB1 := Lib.hid ((bx5_new w (.string ⟨#[]⟩) (.int .i64 0) (.int .i64 0) (.int .i64 0) (.slice none 0 0) 24).below hb1); have hw1 := below_a1 (Below.refl _ _) (Nat.le_refl _) hb1; have k0 := HB1.out.c0; have k1 := HB1.out.c1; have k2 := HB1.out.c2; have k3 := HB1.out.c3; have k4 := HB1.out.c4; have f0 := HB1.out.f0; have f1 := HB1.out.f1; have f2 := HB1.out.f2; have f3 := HB1.out.f3; have f4 := HB1.out.f4)
      | (go_at_call 31; refine (HI.out _).mono ?_; rintro e w2 ⟨rfl, rfl⟩)
      | (go_at_call 32; refine (HL.out _).mono ?_; rintro e w3 ⟨rfl, rfl⟩))
    refine bodyPost_ret (results_vr rfl _ _ _ rfl rfl (((((HB1.out.set0 _).set1 _).set2 _).set3 _).set4 _)) rfl ?_
    exact ⟨rfl, ((((hw1.setCell (Nat.le_refl _) _).setCell (Nat.le_refl _) _).setCell (Nat.le_refl _) _).setCell (Nat.le_refl _) _).setCell (Nat.le_refl _) _⟩
  · have hm : decide (qDot s < 0) = false := decide_eq_false h0
    obtain ⟨tn, htn⟩ : ∃ n : Nat, qDot s = n := ⟨(qDot s).toNat, by omega⟩
    rw [htn] at HI hm hle HT
    have hm2 : (0 : Int) ≤ (tn : Int) := by omega
    have HT0 : s.extract 0 tn = qT s := HT.out
    generalize qDash s = d at *
    generalize qT s = T at *
    clear hd hn HT htn h0
    go_enter Tryz.func10, Tryz.ntmps10
    go_wp2_with (first
      | (go_at_call 30; refine (HN.out _).mono ?_; rintro e w1 ⟨rfl, hb1⟩; have HB1 := Lib.hid ((bx5_new w (.string ⟨#[]⟩) (.int .i64 0) (.int .i64 0) (.int .i64 0) (.slice none 0 0) 24).below hb1); have hw1 := below_a1 (Below.refl _ _) (Nat.le_refl _) hb1; have k0 := HB1.out.c0; have k1 := HB1.out.c1; have k2 := HB1.out.c2; have k3 := HB1.out.c3; have k4 := HB1.out.c4; have f0 := HB1.out.f0; have f1 := HB1.out.f1; have f2 := HB1.out.f2; have f3 := HB1.out.f3; have f4 := HB1.out.f4)
      | (go_at_call 31; refine (HI.out _).mono ?_; rintro e w2 ⟨rfl, rfl⟩)
      | (go_at_call 32; refine (HL.out _).mono ?_; rintro e w3 ⟨rfl, rfl⟩))
    refine bodyPost_ret (results_vr rfl _ _ _ rfl rfl (((((HB1.out.set0 _).set1 _).set2 _).set3 _).set4 _)) rfl ?_
    exact ⟨rfl, ((((hw1.setCell (Nat.le_refl _) _).setCell (Nat.le_refl _) _).setCell (Nat.le_refl _) _).setCell (Nat.le_refl _) _).setCell (Nat.le_refl _) _⟩
end Go.Proofs.YtnpnoohnkbpokaaGreatDoor

/- What parse and Parse answer, for every string. -/
import Derived.Test.YtnpnoohnkbpokaaDoorVerF
namespace Go.Proofs.YtnpnoohnkbpokaaDoor
open Go.RowKit Go.Lib

theorem bs_data (l : List UInt8) : (bs l).data.toList = l := by simp [bs]
theorem bs_size (l : List UInt8) : (bs l).size = l.length := by rw [Lib.size_eq, bs_data]
def pH (s : ByteArray) : ByteArray := bs (Lib.cut s.data.toList [46]).1
def pR1 (s : ByteArray) : ByteArray := bs (Lib.cut s.data.toList [46]).2.1
def pMI (s : ByteArray) : ByteArray := bs (Lib.cut (pR1 s).data.toList [46]).1
def pR2 (s : ByteArray) : ByteArray := bs (Lib.cut (pR1 s).data.toList [46]).2.1
def pPA (s : ByteArray) : ByteArray := bs (Lib.cut (pR2 s).data.toList [45]).1
def pPR (s : ByteArray) : ByteArray := bs (Lib.cut (pR2 s).data.toList [45]).2.1
def pE (s : ByteArray) : Bool := (Lib.cut (pR2 s).data.toList [45]).2.2
def pD (s : ByteArray) : Int := Lib.lastIndexByte (pH s) 45
def pJ (s : ByteArray) : ByteArray := (pH s).extract 0 (pD s).toNat
def pM (s : ByteArray) : ByteArray := (pH s).extract ((pD s).toNat + 1) (pH s).size
def pP (s : ByteArray) : List ByteArray := if pE s then splitL (pPR s) 46 else []
def parsed (s : ByteArray) : Vr := ⟨pJ s, rdNum 6 (pM s).data.toList, rdNum 6 (pMI s).data.toList, rdNum 6 (pPA s).data.toList, pP s⟩
def parseOk (s : ByteArray) : Bool := if 40 < s.size ∨ pD s < 0 then false else vrOk (pJ s) (pM s) (pMI s) (pPA s) (pP s)

theorem falls_of (s : ByteArray) (hs : s.size ≤ 1048576) : Falls s (pH s) (pR1 s) (pMI s) (pR2 s) (pPA s) (pPR s) (Lib.cut s.data.toList [46]).2.2 (Lib.cut (pR1 s).data.toList [46]).2.2 (pE s) := by
  have a := cut_sizes s.data.toList 46
  have b := cut_sizes (pR1 s).data.toList 46
  have c := cut_sizes (pR2 s).data.toList 45
  have e1 : (pH s).size ≤ s.size := by unfold pH; rw [bs_size, Lib.size_eq s]; exact a.1
  have e2 : (pR1 s).size ≤ s.size := by show (bs _).size ≤ _; rw [bs_size, Lib.size_eq s]; exact a.2
  have e3 : (pMI s).size ≤ (pR1 s).size := by show (bs _).size ≤ _; rw [bs_size, Lib.size_eq (pR1 s)]; exact b.1
  have e4 : (pR2 s).size ≤ (pR1 s).size := by show (bs _).size ≤ _; rw [bs_size, Lib.size_eq (pR1 s)]; exact b.2
  have e5 : (pPA s).size ≤ (pR2 s).size := by show (bs _).size ≤ _; rw [bs_size, Lib.size_eq (pR2 s)]; exact c.1
  have e6 : (pPR s).size ≤ (pR2 s).size := by show (bs _).size ≤ _; rw [bs_size, Lib.size_eq (pR2 s)]; exact c.2
  exact ⟨fun W h => cut_any s 46 W hs h, fun W h => cut_any (pR1 s) 46 W (by omega) h, fun W h => cut_any (pR2 s) 45 W (by omega) h, hs, e1, by omega, by omega, by omega⟩

set_option maxHeartbeats 4000000 in
set_option maxRecDepth 100000 in
theorem parse_short (s H R1 MI R2 PA PR : ByteArray) (c1 c2 early : Bool) (x : Int) (w : World) (he : Env w) (hF : Falls s H R1 MI R2 PA PR c1 c2 early)
    (hD : Lib.lastIndexByte H 45 = x) (hb : 40 < s.size ∨ x < 0) :
    Calls Tryd.prog 58 #[.string s] w fun e w' => e = .returned (.tuple #[.agg #[.string ⟨#[]⟩, .int .i64 0, .int .i64 0, .int .i64 0, .slice none 0 0], .bool false]) ∧ Below w.heap.size w w' := by
  obtain ⟨hC1, hC2, hC3, zs, zH, zMI, zPA, zPR⟩ := hF
  have HC1 := Lib.hid hC1
  have HC2 := Lib.hid hC2
  have HC3 := Lib.hid hC3
  have HL := Lib.hid (fun W => Tryd.strings_LastIndexByte H 45 (by omega) W)
  rw [hD] at HL
  have HV := Lib.hid he
  clear hC1 hC2 hC3 hD he
  by_cases hs : 40 < s.size
  · have hcs : decide ((40 : Int) < (s.size : Int)) = true := by simp; omega
    clear hb hs
    go_enter Tryd.func58, Tryd.ntmps58
    go_wp2_with (first
      | (go_at_call 48; (with_reducible refine (HC1.out _ (HV.out.keep ((Below.refl _ _).alloc (Nat.le_refl _) _))).mono ?_); rintro e w1 ⟨rfl, hb1⟩; have HB1 := Lib.hid ((bx5_new w (.string ⟨#[]⟩) (.int .i64 0) (.int .i64 0) (.int .i64 0) (.slice none 0 0) 43).below hb1); have hw1 := below_a1 (Below.refl _ _) (Nat.le_refl _) hb1; have hV1 := HV.out.keep hw1)
      | (go_at_call 48; (with_reducible refine (HC2.out _ hV1).mono ?_); rintro e w2 ⟨rfl, hb2⟩; have HB2 := Lib.hid (HB1.out.below hb2); have hw2 := below_keep hw1 (Nat.le_refl _) hb2; have hV2 := hV1.keep hb2)
      | (go_at_call 48; (with_reducible refine (HC3.out _ hV2).mono ?_); rintro e w3 ⟨rfl, hb3⟩; have HB3 := Lib.hid (HB2.out.below hb3); have hw3 := below_keep hw2 (Nat.le_refl _) hb3; have k0 := HB3.out.c0; have k1 := HB3.out.c1; have k2 := HB3.out.c2; have k3 := HB3.out.c3; have k4 := HB3.out.c4; have f0 := HB3.out.f0; have f1 := HB3.out.f1; have f2 := HB3.out.f2; have f3 := HB3.out.f3; have f4 := HB3.out.f4)
      | (go_at_call 84; refine (HL.out _).mono ?_; rintro e w4 ⟨rfl, rfl⟩))
    refine bodyPost_ret (results_vr rfl _ _ _ rfl rfl (((((HB3.out.set0 _).set1 _).set2 _).set3 _).set4 _)) rfl ?_
    exact ⟨rfl, ((((hw3.setCell (Nat.le_refl _) _).setCell (Nat.le_refl _) _).setCell (Nat.le_refl _) _).setCell (Nat.le_refl _) _).setCell (Nat.le_refl _) _⟩
  · have hcs : decide ((40 : Int) < (s.size : Int)) = false := by simp; omega
    have hx : decide (x < 0) = true := decide_eq_true (by omega)
    clear hb hs
    go_enter Tryd.func58, Tryd.ntmps58
    go_wp2_with (first
      | (go_at_call 48; (with_reducible refine (HC1.out _ (HV.out.keep ((Below.refl _ _).alloc (Nat.le_refl _) _))).mono ?_); rintro e w1 ⟨rfl, hb1⟩; have HB1 := Lib.hid ((bx5_new w (.string ⟨#[]⟩) (.int .i64 0) (.int .i64 0) (.int .i64 0) (.slice none 0 0) 43).below hb1); have hw1 := below_a1 (Below.refl _ _) (Nat.le_refl _) hb1; have hV1 := HV.out.keep hw1)
      | (go_at_call 48; (with_reducible refine (HC2.out _ hV1).mono ?_); rintro e w2 ⟨rfl, hb2⟩; have HB2 := Lib.hid (HB1.out.below hb2); have hw2 := below_keep hw1 (Nat.le_refl _) hb2; have hV2 := hV1.keep hb2)
      | (go_at_call 48; (with_reducible refine (HC3.out _ hV2).mono ?_); rintro e w3 ⟨rfl, hb3⟩; have HB3 := Lib.hid (HB2.out.below hb3); have hw3 := below_keep hw2 (Nat.le_refl _) hb3; have k0 := HB3.out.c0; have k1 := HB3.out.c1; have k2 := HB3.out.c2; have k3 := HB3.out.c3; have k4 := HB3.out.c4; have f0 := HB3.out.f0; have f1 := HB3.out.f1; have f2 := HB3.out.f2; have f3 := HB3.out.f3; have f4 := HB3.out.f4)
      | (go_at_call 84; refine (HL.out _).mono ?_; rintro e w4 ⟨rfl, rfl⟩))
    refine bodyPost_ret (results_vr rfl _ _ _ rfl rfl (((((HB3.out.set0 _).set1 _).set2 _).set3 _).set4 _)) rfl ?_
    exact ⟨rfl, ((((hw3.setCell (Nat.le_refl _) _).setCell (Nat.le_refl _) _).setCell (Nat.le_refl _) _).setCell (Nat.le_refl _) _).setCell (Nat.le_refl _) _⟩

theorem parse_any (s : ByteArray) (w : World) (hs : s.size ≤ 1048576) (he : Env w) :
    Calls Tryd.prog 58 #[.string s] w fun e w' => ∃ v x, e = .returned (.tuple #[v, .bool (parseOk s)]) ∧ VrN w.heap.size w' v x ∧ (parseOk s = true → x = parsed s) ∧ Below w.heap.size w w' := by
  have hF := falls_of s hs
  by_cases hb : 40 < s.size ∨ pD s < 0
  · refine (parse_short s _ _ _ _ _ _ _ _ _ (pD s) w he hF rfl hb).mono ?_
    rintro e w' ⟨rfl, h⟩
    have hk : parseOk s = false := by unfold parseOk; rw [if_pos hb]
    rw [hk]
    exact ⟨_, vr0, rfl, VrN.zero _ _, (fun h => by cases h), h⟩
  · have h0 : ¬ 40 < s.size := fun h => hb (Or.inl h)
    have h1 : ¬ pD s < 0 := fun h => hb (Or.inr h)
    have hd : Lib.lastIndexByte (pH s) 45 = (((pD s).toNat : Nat) : Int) := by show pD s = _; omega
    have hlt : (pD s).toNat < (pH s).size := by
      rcases Lib.lastIndexByte_spec (pH s) 45 with ⟨h, _⟩ | ⟨i, hi, h, _⟩
      · exact absurd (show pD s < 0 by show Lib.lastIndexByte _ _ < 0; omega) h1
      · have : pD s = i := h
        omega
    refine (parse_core s _ _ _ _ _ _ (pJ s) (pM s) _ _ _ (pD s).toNat w he hF (by omega) hd hlt rfl rfl).mono ?_
    rintro e w' ⟨v, rfl, hv, h⟩
    have hk : parseOk s = vrOk (pJ s) (pM s) (pMI s) (pPA s) (pP s) := by unfold parseOk; rw [if_neg hb]
    rw [hk]
    exact ⟨v, _, rfl, hv, fun _ => rfl, h⟩

/-- What Parse answers. -/
def verOf (s : ByteArray) : Vr := if parseOk s then parsed s else vr0
def verErr (s : ByteArray) : Int := if parseOk s then 0 else 8

set_option maxHeartbeats 1000000 in
set_option maxRecDepth 100000 in
theorem Parse_any (s : ByteArray) (w : World) (hs : s.size ≤ 1048576) (he : Env w) :
    Calls Tryd.prog 23 #[.string s] w fun e w' => ∃ v, e = .returned (.tuple #[v, .int .i64 (verErr s)]) ∧ VrN w.heap.size w' v (verOf s) ∧ Below w.heap.size w w' := by
  have HP := Lib.hid (fun (W : World) (h : Env W) => parse_any s W hs h)
  have HV := Lib.hid he
  have HE := Lib.hid (show verErr s = if parseOk s then 0 else 8 from rfl)
  have HO := Lib.hid (show verOf s = if parseOk s then parsed s else vr0 from rfl)
  rw [HE.out, HO.out]
  clear he hs HE HO
  cases hk : parseOk s
  all_goals
    rw [hk] at HP
    clear hk
    go_enter Tryd.func23, Tryd.ntmps23
    go_wp2_with (go_at_call 58; (with_reducible refine (HP.out _ (HV.out.keep ((Below.refl _ _).alloc (Nat.le_refl _) _))).mono ?_); rintro e w1 ⟨v, x, rfl, hv, hx, hb1⟩; obtain ⟨pp, pn, pc, rfl, hsl, hfr⟩ := hv; have HSL := Lib.hid hsl; have HX := Lib.hid hx; have HFR := Lib.hid hfr; clear hsl hx hfr; have HB1 := Lib.hid ((bx5_new w (.string ⟨#[]⟩) (.int .i64 0) (.int .i64 0) (.int .i64 0) (.slice none 0 0) 43).below hb1); have hw1 := below_a1 (Below.refl _ _) (Nat.le_refl _) hb1; have hl1 := HB1.out.lt; have k0 := HB1.out.c0; have k1 := HB1.out.c1; have k2 := HB1.out.c2; have k3 := HB1.out.c3; have k4 := HB1.out.c4; have f0 := HB1.out.f0; have f1 := HB1.out.f1; have f2 := HB1.out.f2; have f3 := HB1.out.f3; have f4 := HB1.out.f4)
    refine bodyPost_ret (results_vr rfl _ _ _ rfl rfl ((((((HB1.out.set0 _).set1 _).set2 _).set3 _).set4 _).alloc _)) rfl ?_
    have hw2 := fun (t0 t1 t2 t3 t4 : Value) => (((((hw1.setCell (p := ⟨w.heap.size, 0, none⟩) (Nat.le_refl _) t0).setCell (p := ⟨w.heap.size, 1, none⟩) (Nat.le_refl _) t1).setCell (p := ⟨w.heap.size, 2, none⟩) (Nat.le_refl _) t2).setCell (p := ⟨w.heap.size, 3, none⟩) (Nat.le_refl _) t3).setCell (p := ⟨w.heap.size, 4, none⟩) (Nat.le_refl _) t4)
  · exact ⟨_, rfl, VrN.zero _ _, (hw2 _ _ _ _ _).alloc (hw2 _ _ _ _ _).size _⟩
  · have hne : ∀ a, pp = some a → a.block ≠ w.heap.size := fun a e => by have := HFR.out a e; simp at this; omega
    have hsl2 := fun (t0 t1 t2 t3 t4 : Value) => slG_set (slG_set (slG_set (slG_set (slG_set HSL.out hne (o := 0) (v := t0)) hne (o := 1) (v := t1)) hne (o := 2) (v := t2)) hne (o := 3) (v := t3)) hne (o := 4) (v := t4)
    have hxe := HX.out (by simp)
    have HFX := HFR.out
    refine ⟨.agg #[.string x.pj, .int .i64 x.ma, .int .i64 x.mi, .int .i64 x.pa, .slice pp pn pc], rfl, ?_, (hw2 _ _ _ _ _).alloc (hw2 _ _ _ _ _).size _⟩
    show VrN _ _ _ (parsed s)
    rw [← hxe]
    exact ⟨_, _, _, rfl, (hsl2 _ _ _ _ _).below (Nat.le_refl _) ((Below.refl _ _).alloc (Nat.le_refl _) _), fun a e => by have := HFX a e; simp at this; omega⟩
end Go.Proofs.YtnpnoohnkbpokaaDoor

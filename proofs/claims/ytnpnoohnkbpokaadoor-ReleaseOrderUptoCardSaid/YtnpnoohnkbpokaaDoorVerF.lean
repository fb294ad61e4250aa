/- What parse answers. -/
import Derived.Test.YtnpnoohnkbpokaaDoorVerE
import Derived.Deep.RegionHeld3
namespace Go.Proofs.YtnpnoohnkbpokaaDoor
open Go.RowKit Go.Lib

/-- A value is a version whose row is not older than base. -/
def VrN (base : Nat) (w : World) (v : Value) (x : Vr) : Prop :=
  ∃ p n cap, v = .agg #[.string x.pj, .int .i64 x.ma, .int .i64 x.mi, .int .i64 x.pa, .slice p n cap] ∧ SlG encS 1 fitP w (.slice p n cap) x.pre ∧ ∀ a, p = some a → base ≤ a.block
theorem VrN.val {base : Nat} {w : World} {v : Value} {x : Vr} (h : VrN base w v x) : VrV w v x := by
  obtain ⟨p, n, cap, hv, hs, _⟩ := h
  exact ⟨_, hv, hs⟩
theorem VrN.zero (base : Nat) (w : World) : VrN base w (.agg #[.string ⟨#[]⟩, .int .i64 0, .int .i64 0, .int .i64 0, .slice none 0 0]) vr0 := ⟨_, _, _, rfl, SlG.nil w, fun a e => by cases e⟩
section
variable (s H R1 MI R2 PA PR : ByteArray) (c1 c2 early : Bool)
/-- How the string falls apart. -/
structure Falls : Prop where
  C1 : ∀ W, Env W → Calls Tryd.prog 48 #[.string s, .string ⟨#[46]⟩] W fun e w' => e = .returned (.tuple #[.string H, .string R1, .bool c1]) ∧ Below W.heap.size W w'
  C2 : ∀ W, Env W → Calls Tryd.prog 48 #[.string R1, .string ⟨#[46]⟩] W fun e w' => e = .returned (.tuple #[.string MI, .string R2, .bool c2]) ∧ Below W.heap.size W w'
  C3 : ∀ W, Env W → Calls Tryd.prog 48 #[.string R2, .string ⟨#[45]⟩] W fun e w' => e = .returned (.tuple #[.string PA, .string PR, .bool early]) ∧ Below W.heap.size W w'
  zs : s.size ≤ 1048576
  zH : H.size ≤ s.size
  zMI : MI.size ≤ s.size
  zPA : PA.size ≤ s.size
  zPR : PR.size ≤ s.size
end
abbrev Z5 : Obj := .cells #[.string ⟨#[]⟩, .int .i64 0, .int .i64 0, .int .i64 0, .slice none 0 0] 43

/-- Between the calls of the closure: its box, the result's box, and all that was there. -/
structure PInv (w : World) (b : Nat) (W : World) (c : Bool) : Prop where
  x : Bx1 W b (.bool c)
  z : Bx5 W w.heap.size (.string ⟨#[]⟩) (.int .i64 0) (.int .i64 0) (.int .i64 0) (.slice none 0 0)
  bw : Below w.heap.size w W
  lt : w.heap.size < b
theorem PInv.alloc {w W : World} {b : Nat} {c : Bool} (h : PInv w b W c) (o : Obj) : PInv w b (W.alloc o) c := ⟨h.x.alloc o, h.z.alloc o, h.bw.alloc h.bw.size o, h.lt⟩
theorem Bx5.drew {W : World} {B : Nat} {v0 v1 v2 v3 v4 : Value} (h : Bx5 W B v0 v1 v2 v3 v4) : Bx5 W.drew B v0 v1 v2 v3 v4 := ⟨h.1, h.2, h.3, h.4, h.5, h.6, h.7, h.8, h.9, h.10⟩
theorem PInv.drew {w W : World} {b : Nat} {c : Bool} (h : PInv w b W c) : PInv w b W.drew c := ⟨h.x, ⟨h.z.1, h.z.2, h.z.3, h.z.4, h.z.5, h.z.6, h.z.7, h.z.8, h.z.9, h.z.10⟩, h.bw.drew, h.lt⟩
theorem number_inv {w W : World} {b : Nat} {c : Bool} (h : PInv w b W c) (s : ByteArray) (hs : s.size ≤ 1048576) :
    Calls Tryd.prog 85 #[.string s, .pointer (some ⟨b, 0, none⟩)] W fun e W' => e = .returned (.int .i64 (rdNum 6 s.data.toList)) ∧ PInv w b W' (c && numOk 6 s.data.toList) ∧ W.grownBy W' (some b) := by
  refine (number_any b c s W hs h.x).mono ?_
  rintro e W' ⟨rfl, hx, hg⟩
  exact ⟨rfl, ⟨hx, h.z.grown hg (fun e => by have := Option.some.inj e; have := h.lt; omega), below_grown h.bw hg (fun k e => by have := Option.some.inj e; have := h.lt; omega) h.bw.size, h.lt⟩, hg⟩
theorem slG_set {α : Type} {enc : α → List Value} {k : Nat} {fit : α → Prop} {w : World} {p : Option Addr} {n cap : Nat} {l : List α} (h : SlG enc k fit w (.slice p n cap) l) {B o : Nat} {v : Value} (hp : ∀ a, p = some a → a.block ≠ B) :
    SlG enc k fit (w.setCell ⟨B, o, none⟩ v) (.slice p n cap) l := by
  obtain ⟨p', cap', hv, h1, h2, h3, h4⟩ := h
  cases hv
  refine ⟨_, _, rfl, h1, h2, h3, ?_⟩
  rcases h4 with h4 | ⟨b, off, hpb, hb, hat⟩
  · exact Or.inl h4
  · have hne : b ≠ B := hp _ hpb
    refine Or.inr ⟨b, off, hpb, by simpa [World.setCell] using hb, fun i hi j hj => ?_⟩
    exact ((World.cell?_of_block (a := ⟨b, _, none⟩) ((grownBy_set w ⟨B, o, none⟩ v).block b hb (fun e => hne (Option.some.inj e)))).trans (hat i hi j hj))
theorem Bx5.set0 {w : World} {B : Nat} {v0 v1 v2 v3 v4 : Value} (h : Bx5 w B v0 v1 v2 v3 v4) (v : Value) : Bx5 (w.setCell ⟨B, 0, none⟩ v) B v v1 v2 v3 v4 := by
  obtain ⟨c0, c1, c2, c3, c4, f0, f1, f2, f3, f4⟩ := h
  constructor <;> first | (rw [World.frozen?_setCell]; assumption) | go_simp
theorem Bx5.set1 {w : World} {B : Nat} {v0 v1 v2 v3 v4 : Value} (h : Bx5 w B v0 v1 v2 v3 v4) (v : Value) : Bx5 (w.setCell ⟨B, 1, none⟩ v) B v0 v v2 v3 v4 := by
  obtain ⟨c0, c1, c2, c3, c4, f0, f1, f2, f3, f4⟩ := h
  constructor <;> first | (rw [World.frozen?_setCell]; assumption) | go_simp
theorem Bx5.set2 {w : World} {B : Nat} {v0 v1 v2 v3 v4 : Value} (h : Bx5 w B v0 v1 v2 v3 v4) (v : Value) : Bx5 (w.setCell ⟨B, 2, none⟩ v) B v0 v1 v v3 v4 := by
  obtain ⟨c0, c1, c2, c3, c4, f0, f1, f2, f3, f4⟩ := h
  constructor <;> first | (rw [World.frozen?_setCell]; assumption) | go_simp
theorem Bx5.set3 {w : World} {B : Nat} {v0 v1 v2 v3 v4 : Value} (h : Bx5 w B v0 v1 v2 v3 v4) (v : Value) : Bx5 (w.setCell ⟨B, 3, none⟩ v) B v0 v1 v2 v v4 := by
  obtain ⟨c0, c1, c2, c3, c4, f0, f1, f2, f3, f4⟩ := h
  constructor <;> first | (rw [World.frozen?_setCell]; assumption) | go_simp
theorem Bx5.set4 {w : World} {B : Nat} {v0 v1 v2 v3 v4 : Value} (h : Bx5 w B v0 v1 v2 v3 v4) (v : Value) : Bx5 (w.setCell ⟨B, 4, none⟩ v) B v0 v1 v2 v3 v := by
  obtain ⟨c0, c1, c2, c3, c4, f0, f1, f2, f3, f4⟩ := h
  constructor <;> first | (rw [World.frozen?_setCell]; assumption) | go_simp
theorem PInv.set {w W : World} {b B o : Nat} {c : Bool} (h : PInv w b W c) (hB : b < B) (v : Value) : PInv w b (W.setCell ⟨B, o, none⟩ v) c :=
  have hg := grownBy_set W ⟨B, o, none⟩ v
  have hl := h.lt
  ⟨h.x.grown hg (fun e => by have := Option.some.inj e; simp at this; omega), h.z.grown hg (fun e => by have := Option.some.inj e; simp at this; omega), h.bw.setCell (show w.heap.size ≤ B by omega) _, h.lt⟩
theorem pile5 {w W : World} {b B : Nat} {c : Bool} {z0 z1 z2 z3 z4 : Value} (h : PInv w b W c) (hz : Bx5 W B z0 z1 z2 z3 z4) (hB : b < B) (u0 u1 u2 u3 u4 : Value) :
    PInv w b (((((W.setCell ⟨B, 0, none⟩ u0).setCell ⟨B, 1, none⟩ u1).setCell ⟨B, 2, none⟩ u2).setCell ⟨B, 3, none⟩ u3).setCell ⟨B, 4, none⟩ u4) c ∧
    Bx5 (((((W.setCell ⟨B, 0, none⟩ u0).setCell ⟨B, 1, none⟩ u1).setCell ⟨B, 2, none⟩ u2).setCell ⟨B, 3, none⟩ u3).setCell ⟨B, 4, none⟩ u4) B u0 u1 u2 u3 u4 :=
  ⟨((((h.set hB u0).set hB u1).set hB u2).set hB u3).set hB u4, ((((hz.set0 u0).set1 u1).set2 u2).set3 u3).set4 u4⟩
/-- While the result is put together: what is read, and what is written. -/
structure RS (w W : World) (b B : Nat) (ok : Bool) (J : ByteArray) (n1 n2 n3 : Int) (v4 : Value) (P : List ByteArray) : Prop where
  bx : Bx5 W B (.string J) (.int .i64 n1) (.int .i64 n2) (.int .i64 n3) v4
  x : W.cell? ⟨b, 0, none⟩ = some (.bool ok)
  z : ∃ u0 u1 u2 u3 u4, Bx5 W w.heap.size u0 u1 u2 u3 u4
  bw : Below w.heap.size w W
  sl : SlG encS 1 fitP W v4 P
theorem SlG.drew {α : Type} {enc : α → List Value} {k : Nat} {fit : α → Prop} {W : World} {v : Value} {l : List α} (h : SlG enc k fit W v l) : SlG enc k fit W.drew v l := h
theorem RS.drew {w W : World} {b B : Nat} {ok : Bool} {J : ByteArray} {n1 n2 n3 : Int} {v4 : Value} {P : List ByteArray} (h : RS w W b B ok J n1 n2 n3 v4 P) : RS w W.drew b B ok J n1 n2 n3 v4 P := by
  obtain ⟨u0, u1, u2, u3, u4, hz⟩ := h.z
  exact ⟨h.bx.drew, h.x, ⟨u0, u1, u2, u3, u4, hz.drew⟩, h.bw.drew, h.sl.drew⟩
theorem RS.below {w W W' : World} {b B : Nat} {ok : Bool} {J : ByteArray} {n1 n2 n3 : Int} {v4 : Value} {P : List ByteArray} (h : RS w W b B ok J n1 n2 n3 v4 P) (hb : Below W.heap.size W W') : RS w W' b B ok J n1 n2 n3 v4 P := by
  obtain ⟨u0, u1, u2, u3, u4, hz⟩ := h.z
  exact ⟨h.bx.below hb, cell_keep h.x hb, ⟨u0, u1, u2, u3, u4, hz.below hb⟩, below_call h.bw h.bw.size hb, h.sl.below (Nat.le_refl _) hb⟩
theorem RS.store {w W : World} {b B : Nat} {ok : Bool} {J : ByteArray} {n1 n2 n3 : Int} {p : Option Addr} {n cap : Nat} {P : List ByteArray} (h : RS w W b B ok J n1 n2 n3 (.slice p n cap) P)
    (hb : w.heap.size < b) (hB : w.heap.size < B) (hp : ∀ a, p = some a → w.heap.size < a.block) {u0 u1 u2 u3 u4 : Value} (hz : Bx5 W w.heap.size u0 u1 u2 u3 u4) {t0 t1 t2 t3 t4 : Value} :
    RS w (((((W.setCell ⟨w.heap.size, 0, none⟩ t0).setCell ⟨w.heap.size, 1, none⟩ t1).setCell ⟨w.heap.size, 2, none⟩ t2).setCell ⟨w.heap.size, 3, none⟩ t3).setCell ⟨w.heap.size, 4, none⟩ t4) b B ok J n1 n2 n3 (.slice p n cap) P ∧
    Bx5 (((((W.setCell ⟨w.heap.size, 0, none⟩ t0).setCell ⟨w.heap.size, 1, none⟩ t1).setCell ⟨w.heap.size, 2, none⟩ t2).setCell ⟨w.heap.size, 3, none⟩ t3).setCell ⟨w.heap.size, 4, none⟩ t4) w.heap.size t0 t1 t2 t3 t4 := by
  have hz5 := ((((hz.set0 t0).set1 t1).set2 t2).set3 t3).set4 t4
  have one : ∀ (X : World) (o : Nat) (t : Value), RS w X b B ok J n1 n2 n3 (.slice p n cap) P → (∃ u0 u1 u2 u3 u4, Bx5 (X.setCell ⟨w.heap.size, o, none⟩ t) w.heap.size u0 u1 u2 u3 u4) → RS w (X.setCell ⟨w.heap.size, o, none⟩ t) b B ok J n1 n2 n3 (.slice p n cap) P := fun X o t hX hzX => by
    have hg := grownBy_set X ⟨w.heap.size, o, none⟩ t
    exact ⟨hX.bx.grown hg (fun e => by have := Option.some.inj e; simp at this; omega), cell_grownBy hX.x hg (fun e => by have := Option.some.inj e; simp at this; omega), hzX, hX.bw.setCell (Nat.le_refl _) _, slG_set hX.sl (fun a e => by have := hp a e; omega)⟩
  have a0 := one W 0 t0 h ⟨_, _, _, _, _, hz.set0 t0⟩
  have a1 := one _ 1 t1 a0 ⟨_, _, _, _, _, (hz.set0 t0).set1 t1⟩
  have a2 := one _ 2 t2 a1 ⟨_, _, _, _, _, ((hz.set0 t0).set1 t1).set2 t2⟩
  have a3 := one _ 3 t3 a2 ⟨_, _, _, _, _, (((hz.set0 t0).set1 t1).set2 t2).set3 t3⟩
  exact ⟨one _ 4 t4 a3 ⟨_, _, _, _, _, hz5⟩, hz5⟩
abbrev ZV : Array Value := #[.string ⟨#[]⟩, .int .i64 0, .int .i64 0, .int .i64 0, .slice none 0 0]

set_option maxHeartbeats 4000000 in
set_option maxRecDepth 100000 in
theorem parse_core (s H R1 MI R2 PA PR J M : ByteArray) (c1 c2 early : Bool) (d : Nat) (w : World) (he : Env w) (hF : Falls s H R1 MI R2 PA PR c1 c2 early)
    (hs : s.size ≤ 40) (hD : Lib.lastIndexByte H 45 = d) (hd : d < H.size) (hJ : H.extract 0 d = J) (hM : H.extract (d + 1) H.size = M) :
    Calls Tryd.prog 58 #[.string s] w fun e w' => ∃ v, e = .returned (.tuple #[v, .bool (vrOk J M MI PA (if early then splitL PR 46 else []))]) ∧ VrN w.heap.size w' v ⟨J, rdNum 6 M.data.toList, rdNum 6 MI.data.toList, rdNum 6 PA.data.toList, if early then splitL PR 46 else []⟩ ∧ Below w.heap.size w w' := by
  obtain ⟨P, hP⟩ : ∃ P, P = (if early then splitL PR 46 else []) := ⟨_, rfl⟩
  rw [← hP]
  have HP := Lib.hid hP
  clear hP
  obtain ⟨hC1, hC2, hC3, zs, zH, zMI, zPA, zPR⟩ := hF
  have HC1 := Lib.hid hC1
  have HC2 := Lib.hid hC2
  have HC3 := Lib.hid hC3
  have HL := Lib.hid (fun W => Tryd.strings_LastIndexByte H 45 (by omega) W)
  rw [hD] at HL
  have hzJ : J.size ≤ 40 := by rw [← hJ, ByteArray.size_extract]; omega
  have hzM : M.size ≤ 40 := by rw [← hM, ByteArray.size_extract]; omega
  have HJ := Lib.hid hJ
  have HM := Lib.hid hM
  have HV := Lib.hid he
  clear hC1 hC2 hC3 hD hJ hM he
  have hcs : decide ((40 : Int) < (s.size : Int)) = false := by simp; omega
  have hdI : decide ((d : Int) < 0) = false := by simp
  have hdH : (d : Int) ≤ H.size := by omega
  obtain ⟨d1, hd1⟩ : ∃ d1, d1 = d + 1 := ⟨_, rfl⟩
  have hwr : IntKind.i64.wrap ((d : Int) + 1) = (d1 : Int) := by rw [IntWalk.i64_in _ ⟨by omega, by omega⟩, hd1]; omega
  have hd1H : (d1 : Int) ≤ H.size := by omega
  rw [← hd1] at HM
  clear hd1
  go_enter Tryd.func58, Tryd.ntmps58
  go_upto_region 9 with (first
    | (go_at_call 48; (with_reducible refine (HC1.out _ (HV.out.keep ((Below.refl _ _).alloc (Nat.le_refl _) _))).mono ?_); rintro e w1 ⟨rfl, hb1⟩; have HB1 := Lib.hid ((bx5_new w (.string ⟨#[]⟩) (.int .i64 0) (.int .i64 0) (.int .i64 0) (.slice none 0 0) 43).below hb1); have hw1 := below_a1 (Below.refl _ _) (Nat.le_refl _) hb1; have hV1 := HV.out.keep hw1)
    | (go_at_call 48; (with_reducible refine (HC2.out _ hV1).mono ?_); rintro e w2 ⟨rfl, hb2⟩; have HB2 := Lib.hid (HB1.out.below hb2); have hw2 := below_keep hw1 (Nat.le_refl _) hb2; have hV2 := hV1.keep hb2)
    | (go_at_call 48; (with_reducible refine (HC3.out _ hV2).mono ?_); rintro e w3 ⟨rfl, hb3⟩; have HB3 := Lib.hid (HB2.out.below hb3); have hw3 := below_keep hw2 (Nat.le_refl _) hb3; have hV3 := hV2.keep hb3)
    | (go_at_call 84; refine (HL.out _).mono ?_; rintro e w4 ⟨rfl, rfl⟩))
  have hlt4 : w.heap.size < w4.heap.size := by have := HB3.out.lt; exact this
  have hPn : PInv w w4.heap.size (w4.alloc (.cells #[.bool true] 4)) true := ⟨bx1_new _ _ _, HB3.out.alloc _, hw3.alloc hw3.size _, hlt4⟩
  have hP0 := hPn.drew
  have hPz := PInv.drew (hPn.alloc (.cells #[.string ⟨#[]⟩, .int .i64 0, .int .i64 0, .int .i64 0, .slice none 0 0] 43))
  have hz0 := bx5_new (w4.alloc (.cells #[.bool true] 4)) (.string ⟨#[]⟩) (.int .i64 0) (.int .i64 0) (.int .i64 0) (.slice none 0 0) 43
  rw [World.size_alloc] at hz0
  have HN1 := Lib.hid (fun (W : World) (c : Bool) (h : PInv w w4.heap.size W c) => number_inv h M (by omega))
  have HN2 := Lib.hid (fun (W : World) (c : Bool) (h : PInv w w4.heap.size W c) => number_inv h MI (by omega))
  have HN3 := Lib.hid (fun (W : World) (c : Bool) (h : PInv w w4.heap.size W c) => number_inv h PA (by omega))
  obtain ⟨o1, ho1⟩ : ∃ n, n = numOk 6 M.data.toList := ⟨_, rfl⟩
  obtain ⟨o2, ho2⟩ : ∃ n, n = numOk 6 MI.data.toList := ⟨_, rfl⟩
  obtain ⟨o3, ho3⟩ : ∃ n, n = numOk 6 PA.data.toList := ⟨_, rfl⟩
  rw [← ho1] at HN1
  rw [← ho2] at HN2
  rw [← ho3] at HN3
  obtain ⟨b, hb⟩ : ∃ b, b = w4.heap.size := ⟨_, rfl⟩
  have hjx := HJ.out
  have hmx := HM.out
  go_cut [15] from 45 to 60 (fun v15 wx => ∃ B, v15 = .pointer (some ⟨B, 0, none⟩) ∧ PInv w w4.heap.size wx (true && o1 && o2 && o3) ∧ Bx5 wx B (.string J) (.int .i64 (rdNum 6 M.data.toList)) (.int .i64 (rdNum 6 MI.data.toList)) (.int .i64 (rdNum 6 PA.data.toList)) (.slice none 0 0) ∧ w4.heap.size < B)
  case first =>
    go_region_law (first
      | (go_simp; go_at_call 85; (with_reducible refine (HN1.out _ _ hP0).mono ?_); rintro e w5 ⟨rfl, hP5, hg5⟩; have hl5 := hP5.x.lt)
      | (go_simp; go_at_call 85; (with_reducible refine (HN1.out _ _ hPz).mono ?_); rintro e w5 ⟨rfl, hP5, hg5⟩; have hl5 := hP5.x.lt; have hz5 := hz0.drew.grown hg5 (by simp))
      | (go_simp; go_at_call 85; (with_reducible refine (HN2.out _ _ hP5).mono ?_); rintro e w6 ⟨rfl, hP6, hg6⟩; have hl6 := hP6.x.lt; try (have hz6 := hz5.grown hg6 (by first | (simp; done) | (intro e; have := Option.some.inj e; omega))))
      | (go_simp; go_at_call 85; (with_reducible refine (HN2.out _ _ (hP5.alloc _)).mono ?_); rintro e w6 ⟨rfl, hP6, hg6⟩; have hl6 := hP6.x.lt; have hz6 := (bx5_new w5 (.string ⟨#[]⟩) (.int .i64 0) (.int .i64 0) (.int .i64 0) (.slice none 0 0) 43).grown hg6 (by intro e; have := Option.some.inj e; omega))
      | (go_simp; go_at_call 85; (with_reducible refine (HN3.out _ _ hP6).mono ?_); rintro e w7 ⟨rfl, hP7, hg7⟩; have hl7 := hP7.x.lt; try (have hz7 := hz6.grown hg7 (by first | (simp; done) | (intro e; have := Option.some.inj e; omega)); have g0 := hz7.c0; have g1 := hz7.c1; have g2 := hz7.c2; have g3 := hz7.c3; have g4 := hz7.c4; have k0 := hz7.f0; have k1 := hz7.f1; have k2 := hz7.f2; have k3 := hz7.f3; have k4 := hz7.f4))
      | (go_simp; go_at_call 85; (with_reducible refine (HN3.out _ _ (hP6.alloc _)).mono ?_); rintro e w7 ⟨rfl, hP7, hg7⟩; have hl7 := hP7.x.lt; have hz7 := (bx5_new w6 (.string ⟨#[]⟩) (.int .i64 0) (.int .i64 0) (.int .i64 0) (.slice none 0 0) 43).grown hg7 (by intro e; have := Option.some.inj e; omega); have g0 := hz7.c0; have g1 := hz7.c1; have g2 := hz7.c2; have g3 := hz7.c3; have g4 := hz7.c4; have k0 := hz7.f0; have k1 := hz7.f1; have k2 := hz7.f2; have k3 := hz7.f3; have k4 := hz7.f4))
    all_goals (go_wp2_with fail; go_meet)
    all_goals first
      | exact ⟨_, rfl, hP7.alloc _, bx5_new _ _ _ _ _ _ _, hl7⟩
      | exact ⟨_, rfl, (pile5 hP7 hz7 hl6 _ _ _ _ _).1, (pile5 hP7 hz7 hl6 _ _ _ _ _).2, hl6⟩
      | exact ⟨_, rfl, (pile5 hP7 hz7 hl5 _ _ _ _ _).1, (pile5 hP7 hz7 hl5 _ _ _ _ _).2, hl5⟩
      | exact ⟨_, rfl, (pile5 hP7 hz7 (Nat.lt_succ_self _) _ _ _ _ _).1, (pile5 hP7 hz7 (Nat.lt_succ_self _) _ _ _ _ _).2, Nat.lt_succ_self _⟩
  case rest =>
    obtain ⟨B, rfl, hPc, hBc, hlB⟩ := hcut
    obtain ⟨ok, hok⟩ : ∃ ok, ok = (true && o1 && o2 && o3) := ⟨_, rfl⟩
    rw [← hok] at hPc
    have HPc := Lib.hid hPc
    have HBc := Lib.hid hBc
    obtain ⟨k0, k1, k2, k3, k4, f0, f1, f2, f3, f4⟩ := hBc
    have hVc := HV.out.keep hPc.bw
    clear hPc
    have hsp := fun (W : World) (h : Env W) => split_any PR 46 W (by omega) h
    have HSp := Lib.hid hsp
    clear hsp
    go_upto_if 61 with fail
    go_cut [] from 62 to 64 (fun wx => ∃ p n cap, PInv w w4.heap.size wx ok ∧ Bx5 wx B (.string J) (.int .i64 (rdNum 6 M.data.toList)) (.int .i64 (rdNum 6 MI.data.toList)) (.int .i64 (rdNum 6 PA.data.toList)) (.slice p n cap) ∧ SlG encS 1 fitP wx (.slice p n cap) P ∧ ∀ a, p = some a → w.heap.size < a.block)
    case first =>
      cases early
      · go_wp2_with fail
        go_meet
        exact ⟨_, _, _, HPc.out, HBc.out, by rw [HP.out, if_neg (by decide)]; exact SlG.nil _, fun a e => by cases e⟩
      · go_wp2_with (go_at_call 49; (with_reducible refine (HSp.out _ hVc).mono ?_); rintro e w8 ⟨g, n, rfl, hn, hsl, hg, hb8⟩; subst hn; have hB8 := HBc.out.below hb8; have q0 := hB8.c4; have q1 := hB8.f4; have hgB := Nat.lt_of_lt_of_le HBc.out.lt hg)
        go_meet
        have hP8 : PInv w w4.heap.size w8 ok := ⟨HPc.out.x.below hb8, HPc.out.z.below hb8, below_call HPc.out.bw HPc.out.bw.size hb8, HPc.out.lt⟩
        exact ⟨_, _, _, hP8.set hlB _, hB8.set4 _, by rw [HP.out]; (first | rw [if_pos trivial] | rw [if_pos rfl]); exact slG_set hsl (fun a e => by cases e; show g ≠ B; omega), fun a e => by cases e; show w.heap.size < g; have := HPc.out.bw.size; have := HPc.out.x.lt; have := HPc.out.lt; omega⟩
    case rest =>
      obtain ⟨p, n, cap, hPd, hBd, hsl, hpb⟩ := hcut
      have hnP : n = P.length := by obtain ⟨_, _, hv, _⟩ := hsl; cases hv; rfl
      have HNP := Lib.hid hnP
      clear hnP
      have HO := Lib.hid (show vrOk J M MI PA P = (ok && (projB J.data.toList && (decide (P.length ≤ 5) && !anyBad P))) by
        unfold vrOk; rw [hok, ho1, ho2, ho3, Bool.true_and])
      have HI := Lib.hid (fun W => isProject_any J W (by omega))
      have HKF := Lib.hid (fun (W : World) (h : SlG encS 1 fitP W (.slice p n cap) P) => containsF16 (.slice p n cap) P W h)
      have HRS : Hid (RS w wc w4.heap.size B ok J (rdNum 6 M.data.toList) (rdNum 6 MI.data.toList) (rdNum 6 PA.data.toList) (.slice p n cap) P) := Lib.hid ⟨hBd, hPd.x.1, ⟨_, _, _, _, _, hPd.z⟩, hPd.bw, hsl⟩
      have HLW := Lib.hid hPd.lt
      have HLB := Lib.hid (Nat.lt_trans hPd.lt hlB)
      have HPB := Lib.hid hpb
      clear hPd hBd hsl hpb k0 k1 k2 k3 k4 f0 f1 f2 f3 f4 hok ho1 ho2 ho3 HPc HBc hVc HSp HN1 HN2 HN3 hP0 hPn hPz hz0 HC1 HC2 HC3 HL HB1 HB2 HB3
      go_upto_region 12 with fail
      cases ok
      · skip
        obtain ⟨u0, u1, u2, u3, u4, hz⟩ := HRS.out.z
        obtain ⟨z0, z1, z2, z3, z4, g0, g1, g2, g3, g4⟩ := id hz
        have hst := RS.store HRS.out HLW.out HLB.out HPB.out hz (t0 := .string J) (t1 := .int .i64 (rdNum 6 M.data.toList)) (t2 := .int .i64 (rdNum 6 MI.data.toList)) (t3 := .int .i64 (rdNum 6 PA.data.toList)) (t4 := .slice p n cap)
        have HST := Lib.hid (And.intro hst.1.drew hst.2.drew)
        clear hst hz
        refine wp_region_held_drew (S := (fun w' => RS w w' w4.heap.size B false J (rdNum 6 M.data.toList) (rdNum 6 MI.data.toList) (rdNum 6 PA.data.toList) (.slice p n cap) P)) (by kernel_rfl) ?_ (fun hHeld => ?_)
        · exact HRS.out.drew
        refine wpAnyH_take (i := 0) (v := ?_) rfl (by kernel_rfl) (by kernel_rfl) (by kernel_rfl) (fun _ _ _ h => h) (Or.inl ⟨by kernel_rfl, ?_⟩) (by assumption) ?_
        rotate_left
        · intro w hSw; obtain ⟨⟨c0, c1, c2, c3, c4, _⟩, x0, _⟩ := hSw; go_simp; (try with_reducible rfl)
        (try simp only [Act.put, List.setIfInBounds_toArray])
        refine wpAnyH_take (i := 1) (v := ?_) rfl (by kernel_rfl) (by kernel_rfl) (by kernel_rfl) (fun _ _ _ h => h) (Or.inl ⟨by kernel_rfl, ?_⟩) (by assumption) ?_
        rotate_left
        · intro w hSw; obtain ⟨⟨c0, c1, c2, c3, c4, _⟩, x0, _⟩ := hSw; go_simp; (try with_reducible rfl)
        (try simp only [Act.put])
        refine wpAnyH_take (i := 2) (v := ?_) rfl (by kernel_rfl) (by kernel_rfl) (by kernel_rfl) (fun _ _ _ h => h) (Or.inl ⟨by kernel_rfl, ?_⟩) (by assumption) ?_
        rotate_left
        · intro w hSw; obtain ⟨⟨c0, c1, c2, c3, c4, _⟩, x0, _⟩ := hSw; go_simp; (try with_reducible rfl)
        (try simp only [Act.put])
        refine wpAnyH_take (i := 3) (v := undef) rfl (by kernel_rfl) (by kernel_rfl) (by kernel_rfl) (fun _ _ _ h => h) (Or.inr ⟨by kernel_rfl, rfl⟩) (by assumption) ?_
        (try simp only [Act.put])
        refine wpAnyH_take (i := 4) (v := undef) rfl (by kernel_rfl) (by kernel_rfl) (by kernel_rfl) (fun _ _ _ h => h) (Or.inr ⟨by kernel_rfl, rfl⟩) (by assumption) ?_
        (try simp only [Act.put])
        refine wpAnyH_take (i := 5) (v := undef) rfl (by kernel_rfl) (by kernel_rfl) (by kernel_rfl) (fun _ _ _ h => h) (Or.inr ⟨by kernel_rfl, rfl⟩) (by assumption) ?_
        (try simp only [Act.put])
        refine wpAnyH_take (i := 6) (v := ?_) rfl (by kernel_rfl) (by kernel_rfl) (by kernel_rfl) (fun _ _ _ h => h) (Or.inl ⟨by kernel_rfl, ?_⟩) (by assumption) ?_
        rotate_left
        · intro w hSw; obtain ⟨⟨c0, c1, c2, c3, c4, _⟩, x0, _⟩ := hSw; go_simp; (try with_reducible rfl)
        (try simp only [Act.put])
        refine wpAnyH_take (i := 7) (v := ?_) rfl (by kernel_rfl) (by kernel_rfl) (by kernel_rfl) (fun _ _ _ h => h) (Or.inl ⟨by kernel_rfl, ?_⟩) (by assumption) ?_
        rotate_left
        · intro w hSw; obtain ⟨⟨c0, c1, c2, c3, c4, _⟩, x0, _⟩ := hSw; go_simp; (try with_reducible rfl)
        (try simp only [Act.put])
        refine wpAnyH_take (i := 8) (v := undef) rfl (by kernel_rfl) (by kernel_rfl) (by kernel_rfl) (fun _ _ _ h => h) (Or.inr ⟨by kernel_rfl, rfl⟩) (by assumption) ?_
        (try simp only [Act.put])
        refine wpAnyH_take (i := 9) (v := undef) rfl (by kernel_rfl) (by kernel_rfl) (by kernel_rfl) (fun _ _ _ h => h) (Or.inr ⟨by kernel_rfl, rfl⟩) (by assumption) ?_
        (try simp only [Act.put])
        refine wpAnyH_take (i := 10) (v := undef) rfl (by kernel_rfl) (by kernel_rfl) (by kernel_rfl) (fun _ _ _ h => h) (Or.inr ⟨by kernel_rfl, rfl⟩) (by assumption) ?_
        (try simp only [Act.put])
        refine wpAnyH_take (i := 11) (v := undef) rfl (by kernel_rfl) (by kernel_rfl) (by kernel_rfl) (fun _ _ _ h => h) (Or.inr ⟨by kernel_rfl, rfl⟩) (by assumption) ?_
        (try simp only [Act.put])
        refine wpAnyH_take (i := 12) (v := ?_) rfl (by kernel_rfl) (by kernel_rfl) (by kernel_rfl) (fun _ _ _ h => h) (Or.inl ⟨by kernel_rfl, ?_⟩) (by assumption) ?_
        rotate_left
        · intro w hSw; obtain ⟨⟨c0, c1, c2, c3, c4, _⟩, x0, _⟩ := hSw; go_simp; (try with_reducible rfl)
        (try simp only [Act.put])
        refine wpAnyH_take (i := 13) (v := ?_) rfl (by kernel_rfl) (by kernel_rfl) (by kernel_rfl) (fun _ _ _ h => h) (Or.inl ⟨by kernel_rfl, ?_⟩) (by assumption) ?_
        rotate_left
        · intro w hSw; obtain ⟨⟨c0, c1, c2, c3, c4, _⟩, x0, _⟩ := hSw; go_simp; (try with_reducible rfl)
        (try simp only [Act.put])
        refine wpAnyH_take (i := 14) (v := undef) rfl (by kernel_rfl) (by kernel_rfl) (by kernel_rfl) (fun _ _ _ h => h) (Or.inr ⟨by kernel_rfl, rfl⟩) (by assumption) ?_
        (try simp only [Act.put])
        refine wpAnyH_take (i := 15) (v := undef) rfl (by kernel_rfl) (by kernel_rfl) (by kernel_rfl) (fun _ _ _ h => h) (Or.inr ⟨by kernel_rfl, rfl⟩) (by assumption) ?_
        (try simp only [Act.put])
        refine wpAnyH_take (i := 16) (v := undef) rfl (by kernel_rfl) (by kernel_rfl) (by kernel_rfl) (fun _ _ _ h => h) (Or.inr ⟨by kernel_rfl, rfl⟩) (by assumption) ?_
        (try simp only [Act.put])
        refine wpAnyH_take (i := 17) (v := undef) rfl (by kernel_rfl) (by kernel_rfl) (by kernel_rfl) (fun _ _ _ h => h) (Or.inr ⟨by kernel_rfl, rfl⟩) (by assumption) ?_
        (try simp only [Act.put])
        refine wpAnyH_take (i := 18) (v := ?_) rfl (by kernel_rfl) (by kernel_rfl) (by kernel_rfl) (fun _ _ _ h => h) (Or.inl ⟨by kernel_rfl, ?_⟩) (by assumption) ?_
        rotate_left
        · intro w hSw; obtain ⟨⟨c0, c1, c2, c3, c4, _⟩, x0, _⟩ := hSw; go_simp; (try with_reducible rfl)
        (try simp only [Act.put])
        refine wpAnyH_ready (rs := [19]) (by kernel_rfl) (by simp) ?_
        refine AllReadyH.cons (o := { dst := none, op := Op.store 43 (.tmp 2) (.tmp 65), type := 0, pos := "version.go:42", after := _, guard := none }) rfl ?_ AllReadyH.nil
        intro K hK
        have HK3 := Lib.hid hK
        clear hK
        simp only [Region.wanted, if_true]
        go_simp
        refine HK3.out.out _ _ HST.out.1 ?_
        intro hHeld5
        clear HK3
        (try simp only [Act.put, List.setIfInBounds_toArray, List.set_cons_zero, List.set_cons_succ])
        refine wpAnyH_take (i := 20) (v := ?_) rfl (by kernel_rfl) (by kernel_rfl) (by kernel_rfl) (fun _ _ _ h => h) (Or.inl ⟨by kernel_rfl, ?_⟩) (by assumption) ?_
        rotate_left
        · intro w hSw; obtain ⟨⟨c0, c1, c2, c3, c4, _⟩, x0, _⟩ := hSw; go_simp; (try with_reducible rfl)
        (try simp only [Act.put, List.setIfInBounds_toArray])
        refine wpAnyH_done (by kernel_rfl) ?_ _
        (try simp only [List.getElem_toArray, List.getElem_cons_succ, List.getElem_cons_zero, List.set_cons_zero, List.set_cons_succ])
        go_wp2_with fail
        refine bodyPost_ret (results_vr rfl _ _ _ rfl rfl HST.out.2) rfl ?_
        exact ⟨_, by rw [HO.out]; rfl, ⟨_, _, _, rfl, HST.out.1.sl, fun a e => Nat.le_of_lt (HPB.out a e)⟩, HST.out.1.bw⟩
      · have hPJ : projB J.data.toList = false ∨ projB J.data.toList = true := by cases projB J.data.toList <;> simp
        rcases hPJ with hPJ | hPJ
        · rw [hPJ] at HI HO
          obtain ⟨u0, u1, u2, u3, u4, hz⟩ := HRS.out.z
          obtain ⟨z0, z1, z2, z3, z4, g0, g1, g2, g3, g4⟩ := id hz
          have hst := RS.store HRS.out HLW.out HLB.out HPB.out hz (t0 := .string J) (t1 := .int .i64 (rdNum 6 M.data.toList)) (t2 := .int .i64 (rdNum 6 MI.data.toList)) (t3 := .int .i64 (rdNum 6 PA.data.toList)) (t4 := .slice p n cap)
          have HST := Lib.hid (And.intro hst.1.drew hst.2.drew)
          clear hst hz
          refine wp_region_held_drew (S := (fun w' => RS w w' w4.heap.size B true J (rdNum 6 M.data.toList) (rdNum 6 MI.data.toList) (rdNum 6 PA.data.toList) (.slice p n cap) P)) (by kernel_rfl) ?_ (fun hHeld => ?_)
          · exact HRS.out.drew
          refine wpAnyH_take (i := 0) (v := ?_) rfl (by kernel_rfl) (by kernel_rfl) (by kernel_rfl) (fun _ _ _ h => h) (Or.inl ⟨by kernel_rfl, ?_⟩) (by assumption) ?_
          rotate_left
          · intro w hSw; obtain ⟨⟨c0, c1, c2, c3, c4, _⟩, x0, _⟩ := hSw; go_simp; (try with_reducible rfl)
          (try simp only [Act.put, List.setIfInBounds_toArray])
          refine wpAnyH_take (i := 1) (v := ?_) rfl (by kernel_rfl) (by kernel_rfl) (by kernel_rfl) (fun _ _ _ h => h) (Or.inl ⟨by kernel_rfl, ?_⟩) (by assumption) ?_
          rotate_left
          · intro w hSw; obtain ⟨⟨c0, c1, c2, c3, c4, _⟩, x0, _⟩ := hSw; go_simp; (try with_reducible rfl)
          (try simp only [Act.put])
          refine wpAnyH_take (i := 2) (v := ?_) rfl (by kernel_rfl) (by kernel_rfl) (by kernel_rfl) (fun _ _ _ h => h) (Or.inl ⟨by kernel_rfl, ?_⟩) (by assumption) ?_
          rotate_left
          · intro w hSw; obtain ⟨⟨c0, c1, c2, c3, c4, _⟩, x0, _⟩ := hSw; go_simp; (try with_reducible rfl)
          (try simp only [Act.put])
          refine wpAnyH_take (i := 3) (v := ?_) rfl (by kernel_rfl) (by kernel_rfl) (by kernel_rfl) (fun _ _ _ h => h) (Or.inl ⟨by kernel_rfl, ?_⟩) (by assumption) ?_
          rotate_left
          · intro w hSw; obtain ⟨⟨c0, c1, c2, c3, c4, _⟩, x0, _⟩ := hSw; go_simp; (try with_reducible rfl)
          (try simp only [Act.put])
          refine wpAnyH_take (i := 4) (v := ?_) rfl (by kernel_rfl) (by kernel_rfl) (by kernel_rfl) (fun _ _ _ h => h) (Or.inl ⟨by kernel_rfl, ?_⟩) (by assumption) ?_
          rotate_left
          · intro w hSw; obtain ⟨⟨c0, c1, c2, c3, c4, _⟩, x0, _⟩ := hSw; go_simp; (try with_reducible rfl)
          (try simp only [Act.put])
          refine wpAnyH_ready (rs := [5]) (by kernel_rfl) (by simp) ?_
          refine AllReadyH.cons (o := { dst := some 70, op := Op.call { callee := .value (.func 52), args := #[.tmp 69], argTypes := #[9] }, type := 4, pos := "version.go:42", after := _, guard := some (2, true) }) rfl ?_ AllReadyH.nil
          intro K hK
          have HK := Lib.hid hK
          clear hK
          rw [if_pos (by kernel_rfl)]
          go_simp
          go_at_call 52; refine (HI.out _).mono ?_; rintro e w8 ⟨rfl, rfl⟩
          (try dsimp only)
          refine HK.out.out _ _ ?_ ?_
          · exact HRS.out.drew
          intro hHeld2
          clear HK hHeld
          (try simp only [Act.put, List.setIfInBounds_toArray, List.set_cons_zero, List.set_cons_succ])
          refine wpAnyH_take (i := 6) (v := ?_) rfl (by kernel_rfl) (by kernel_rfl) (by kernel_rfl) (fun _ _ _ h => h) (Or.inl ⟨by kernel_rfl, ?_⟩) (by assumption) ?_
          rotate_left
          · intro w hSw; obtain ⟨⟨c0, c1, c2, c3, c4, _⟩, x0, _⟩ := hSw; go_simp; (try with_reducible rfl)
          (try simp only [Act.put, List.setIfInBounds_toArray])
          refine wpAnyH_take (i := 7) (v := ?_) rfl (by kernel_rfl) (by kernel_rfl) (by kernel_rfl) (fun _ _ _ h => h) (Or.inl ⟨by kernel_rfl, ?_⟩) (by assumption) ?_
          rotate_left
          · intro w hSw; obtain ⟨⟨c0, c1, c2, c3, c4, _⟩, x0, _⟩ := hSw; go_simp; (try with_reducible rfl)
          (try simp only [Act.put])
          refine wpAnyH_take (i := 8) (v := undef) rfl (by kernel_rfl) (by kernel_rfl) (by kernel_rfl) (fun _ _ _ h => h) (Or.inr ⟨by kernel_rfl, rfl⟩) (by assumption) ?_
          (try simp only [Act.put])
          refine wpAnyH_take (i := 9) (v := undef) rfl (by kernel_rfl) (by kernel_rfl) (by kernel_rfl) (fun _ _ _ h => h) (Or.inr ⟨by kernel_rfl, rfl⟩) (by assumption) ?_
          (try simp only [Act.put])
          refine wpAnyH_take (i := 10) (v := undef) rfl (by kernel_rfl) (by kernel_rfl) (by kernel_rfl) (fun _ _ _ h => h) (Or.inr ⟨by kernel_rfl, rfl⟩) (by assumption) ?_
          (try simp only [Act.put])
          refine wpAnyH_take (i := 11) (v := undef) rfl (by kernel_rfl) (by kernel_rfl) (by kernel_rfl) (fun _ _ _ h => h) (Or.inr ⟨by kernel_rfl, rfl⟩) (by assumption) ?_
          (try simp only [Act.put])
          refine wpAnyH_take (i := 12) (v := ?_) rfl (by kernel_rfl) (by kernel_rfl) (by kernel_rfl) (fun _ _ _ h => h) (Or.inl ⟨by kernel_rfl, ?_⟩) (by assumption) ?_
          rotate_left
          · intro w hSw; obtain ⟨⟨c0, c1, c2, c3, c4, _⟩, x0, _⟩ := hSw; go_simp; (try with_reducible rfl)
          (try simp only [Act.put])
          refine wpAnyH_take (i := 13) (v := ?_) rfl (by kernel_rfl) (by kernel_rfl) (by kernel_rfl) (fun _ _ _ h => h) (Or.inl ⟨by kernel_rfl, ?_⟩) (by assumption) ?_
          rotate_left
          · intro w hSw; obtain ⟨⟨c0, c1, c2, c3, c4, _⟩, x0, _⟩ := hSw; go_simp; (try with_reducible rfl)
          (try simp only [Act.put])
          refine wpAnyH_take (i := 14) (v := undef) rfl (by kernel_rfl) (by kernel_rfl) (by kernel_rfl) (fun _ _ _ h => h) (Or.inr ⟨by kernel_rfl, rfl⟩) (by assumption) ?_
          (try simp only [Act.put])
          refine wpAnyH_take (i := 15) (v := undef) rfl (by kernel_rfl) (by kernel_rfl) (by kernel_rfl) (fun _ _ _ h => h) (Or.inr ⟨by kernel_rfl, rfl⟩) (by assumption) ?_
          (try simp only [Act.put])
          refine wpAnyH_take (i := 16) (v := undef) rfl (by kernel_rfl) (by kernel_rfl) (by kernel_rfl) (fun _ _ _ h => h) (Or.inr ⟨by kernel_rfl, rfl⟩) (by assumption) ?_
          (try simp only [Act.put])
          refine wpAnyH_take (i := 17) (v := undef) rfl (by kernel_rfl) (by kernel_rfl) (by kernel_rfl) (fun _ _ _ h => h) (Or.inr ⟨by kernel_rfl, rfl⟩) (by assumption) ?_
          (try simp only [Act.put])
          refine wpAnyH_take (i := 18) (v := ?_) rfl (by kernel_rfl) (by kernel_rfl) (by kernel_rfl) (fun _ _ _ h => h) (Or.inl ⟨by kernel_rfl, ?_⟩) (by assumption) ?_
          rotate_left
          · intro w hSw; obtain ⟨⟨c0, c1, c2, c3, c4, _⟩, x0, _⟩ := hSw; go_simp; (try with_reducible rfl)
          (try simp only [Act.put])
          refine wpAnyH_ready (rs := [19]) (by kernel_rfl) (by simp) ?_
          refine AllReadyH.cons (o := { dst := none, op := Op.store 43 (.tmp 2) (.tmp 65), type := 0, pos := "version.go:42", after := _, guard := none }) rfl ?_ AllReadyH.nil
          intro K hK
          have HK3 := Lib.hid hK
          clear hK
          simp only [Region.wanted, if_true]
          go_simp
          refine HK3.out.out _ _ HST.out.1 ?_
          intro hHeld5
          clear HK3
          (try simp only [Act.put, List.setIfInBounds_toArray, List.set_cons_zero, List.set_cons_succ])
          refine wpAnyH_take (i := 20) (v := ?_) rfl (by kernel_rfl) (by kernel_rfl) (by kernel_rfl) (fun _ _ _ h => h) (Or.inl ⟨by kernel_rfl, ?_⟩) (by assumption) ?_
          rotate_left
          · intro w hSw; obtain ⟨⟨c0, c1, c2, c3, c4, _⟩, x0, _⟩ := hSw; go_simp; (try with_reducible rfl)
          (try simp only [Act.put, List.setIfInBounds_toArray])
          refine wpAnyH_done (by kernel_rfl) ?_ _
          (try simp only [List.getElem_toArray, List.getElem_cons_succ, List.getElem_cons_zero, List.set_cons_zero, List.set_cons_succ])
          go_wp2_with fail
          refine bodyPost_ret (results_vr rfl _ _ _ rfl rfl HST.out.2) rfl ?_
          exact ⟨_, by rw [HO.out]; rfl, ⟨_, _, _, rfl, HST.out.1.sl, fun a e => Nat.le_of_lt (HPB.out a e)⟩, HST.out.1.bw⟩
        · rw [hPJ] at HI HO
          by_cases h5 : P.length ≤ 5
          · rw [decide_eq_true h5] at HO
            have hd5 : decide ((n : Int) ≤ 5) = true := by have := HNP.out; simp; omega
            have hd5n : decide (n ≤ 5) = true := by have := HNP.out; simp; omega
            obtain ⟨ab, hab⟩ : ∃ ab, ab = anyBad P := ⟨_, rfl⟩
            rw [← hab] at HO HKF
            clear h5 hab hPJ
            obtain ⟨u0, u1, u2, u3, u4, hz⟩ := HRS.out.z
            have HZB := Lib.hid hz
            clear hz
            refine wp_region_held_drew (S := (fun w' => RS w w' w4.heap.size B true J (rdNum 6 M.data.toList) (rdNum 6 MI.data.toList) (rdNum 6 PA.data.toList) (.slice p n cap) P)) (by kernel_rfl) ?_ (fun hHeld => ?_)
            · exact HRS.out.drew
            refine wpAnyH_take (i := 0) (v := ?_) rfl (by kernel_rfl) (by kernel_rfl) (by kernel_rfl) (fun _ _ _ h => h) (Or.inl ⟨by kernel_rfl, ?_⟩) (by assumption) ?_
            rotate_left
            · intro w hSw; obtain ⟨⟨c0, c1, c2, c3, c4, _⟩, x0, _⟩ := hSw; go_simp; (try with_reducible rfl)
            (try simp only [Act.put, List.setIfInBounds_toArray])
            refine wpAnyH_take (i := 1) (v := ?_) rfl (by kernel_rfl) (by kernel_rfl) (by kernel_rfl) (fun _ _ _ h => h) (Or.inl ⟨by kernel_rfl, ?_⟩) (by assumption) ?_
            rotate_left
            · intro w hSw; obtain ⟨⟨c0, c1, c2, c3, c4, _⟩, x0, _⟩ := hSw; go_simp; (try with_reducible rfl)
            (try simp only [Act.put])
            refine wpAnyH_take (i := 2) (v := ?_) rfl (by kernel_rfl) (by kernel_rfl) (by kernel_rfl) (fun _ _ _ h => h) (Or.inl ⟨by kernel_rfl, ?_⟩) (by assumption) ?_
            rotate_left
            · intro w hSw; obtain ⟨⟨c0, c1, c2, c3, c4, _⟩, x0, _⟩ := hSw; go_simp; (try with_reducible rfl)
            (try simp only [Act.put])
            refine wpAnyH_take (i := 3) (v := ?_) rfl (by kernel_rfl) (by kernel_rfl) (by kernel_rfl) (fun _ _ _ h => h) (Or.inl ⟨by kernel_rfl, ?_⟩) (by assumption) ?_
            rotate_left
            · intro w hSw; obtain ⟨⟨c0, c1, c2, c3, c4, _⟩, x0, _⟩ := hSw; go_simp; (try with_reducible rfl)
            (try simp only [Act.put])
            refine wpAnyH_take (i := 4) (v := ?_) rfl (by kernel_rfl) (by kernel_rfl) (by kernel_rfl) (fun _ _ _ h => h) (Or.inl ⟨by kernel_rfl, ?_⟩) (by assumption) ?_
            rotate_left
            · intro w hSw; obtain ⟨⟨c0, c1, c2, c3, c4, _⟩, x0, _⟩ := hSw; go_simp; (try with_reducible rfl)
            (try simp only [Act.put])
            refine wpAnyH_ready (rs := [5]) (by kernel_rfl) (by simp) ?_
            refine AllReadyH.cons (o := { dst := some 70, op := Op.call { callee := .value (.func 52), args := #[.tmp 69], argTypes := #[9] }, type := 4, pos := "version.go:42", after := _, guard := some (2, true) }) rfl ?_ AllReadyH.nil
            intro K hK
            have HK := Lib.hid hK
            clear hK
            rw [if_pos (by kernel_rfl)]
            go_simp
            go_at_call 52; refine (HI.out _).mono ?_; rintro e w8 ⟨rfl, rfl⟩
            (try dsimp only)
            refine HK.out.out _ _ ?_ ?_
            · exact HRS.out.drew
            intro hHeld2
            clear HK hHeld
            (try simp only [Act.put, List.setIfInBounds_toArray, List.set_cons_zero, List.set_cons_succ])
            refine wpAnyH_take (i := 6) (v := ?_) rfl (by kernel_rfl) (by kernel_rfl) (by kernel_rfl) (fun _ _ _ h => h) (Or.inl ⟨by kernel_rfl, ?_⟩) (by assumption) ?_
            rotate_left
            · intro w hSw; obtain ⟨⟨c0, c1, c2, c3, c4, _⟩, x0, _⟩ := hSw; go_simp; (try with_reducible rfl)
            (try simp only [Act.put, List.setIfInBounds_toArray])
            refine wpAnyH_take (i := 7) (v := ?_) rfl (by kernel_rfl) (by kernel_rfl) (by kernel_rfl) (fun _ _ _ h => h) (Or.inl ⟨by kernel_rfl, ?_⟩) (by assumption) ?_
            rotate_left
            · intro w hSw; obtain ⟨⟨c0, c1, c2, c3, c4, _⟩, x0, _⟩ := hSw; go_simp; (try with_reducible rfl)
            (try simp only [Act.put])
            refine wpAnyH_take (i := 8) (v := ?_) rfl (by kernel_rfl) (by kernel_rfl) (by kernel_rfl) (fun _ _ _ h => h) (Or.inl ⟨by kernel_rfl, ?_⟩) (by assumption) ?_
            rotate_left
            · intro w hSw; obtain ⟨⟨c0, c1, c2, c3, c4, _⟩, x0, _⟩ := hSw; go_simp; (try with_reducible rfl)
            (try simp only [Act.put])
            refine wpAnyH_take (i := 9) (v := ?_) rfl (by kernel_rfl) (by kernel_rfl) (by kernel_rfl) (fun _ _ _ h => h) (Or.inl ⟨by kernel_rfl, ?_⟩) (by assumption) ?_
            rotate_left
            · intro w hSw; obtain ⟨⟨c0, c1, c2, c3, c4, _⟩, x0, _⟩ := hSw; go_simp; (try with_reducible rfl)
            (try simp only [Act.put])
            refine wpAnyH_take (i := 10) (v := ?_) rfl (by kernel_rfl) (by kernel_rfl) (by kernel_rfl) (fun _ _ _ h => h) (Or.inl ⟨by kernel_rfl, ?_⟩) (by assumption) ?_
            rotate_left
            · intro w hSw; obtain ⟨⟨c0, c1, c2, c3, c4, _⟩, x0, _⟩ := hSw; go_simp; (try with_reducible rfl)
            (try simp only [Act.put])
            refine wpAnyH_take (i := 11) (v := ?_) rfl (by kernel_rfl) (by kernel_rfl) (by kernel_rfl) (fun _ _ _ h => h) (Or.inl ⟨by kernel_rfl, ?_⟩) (by assumption) ?_
            rotate_left
            · intro w hSw; obtain ⟨⟨c0, c1, c2, c3, c4, _⟩, x0, _⟩ := hSw; go_simp; (try with_reducible rfl)
            (try simp only [Act.put])
            refine wpAnyH_take (i := 12) (v := ?_) rfl (by kernel_rfl) (by kernel_rfl) (by kernel_rfl) (fun _ _ _ h => h) (Or.inl ⟨by kernel_rfl, ?_⟩) (by assumption) ?_
            rotate_left
            · intro w hSw; obtain ⟨⟨c0, c1, c2, c3, c4, _⟩, x0, _⟩ := hSw; go_simp; (try with_reducible rfl)
            (try simp only [Act.put])
            refine wpAnyH_take (i := 13) (v := ?_) rfl (by kernel_rfl) (by kernel_rfl) (by kernel_rfl) (fun _ _ _ h => h) (Or.inl ⟨by kernel_rfl, ?_⟩) (by assumption) ?_
            rotate_left
            · intro w hSw; obtain ⟨⟨c0, c1, c2, c3, c4, _⟩, x0, _⟩ := hSw; go_simp; (try with_reducible rfl)
            (try simp only [Act.put])
            refine wpAnyH_take (i := 14) (v := ?_) rfl (by kernel_rfl) (by kernel_rfl) (by kernel_rfl) (fun _ _ _ h => h) (Or.inl ⟨by kernel_rfl, ?_⟩) (by assumption) ?_
            rotate_left
            · intro w hSw; obtain ⟨⟨c0, c1, c2, c3, c4, _⟩, x0, _⟩ := hSw; go_simp; (try with_reducible rfl)
            (try simp only [Act.put])
            refine wpAnyH_take (i := 15) (v := ?_) rfl (by kernel_rfl) (by kernel_rfl) (by kernel_rfl) (fun _ _ _ h => h) (Or.inl ⟨by kernel_rfl, ?_⟩) (by assumption) ?_
            rotate_left
            · intro w hSw; obtain ⟨⟨c0, c1, c2, c3, c4, _⟩, x0, _⟩ := hSw; go_simp; (try with_reducible rfl)
            (try simp only [Act.put])
            refine wpAnyH_ready (rs := [16]) (by kernel_rfl) (by simp) ?_
            refine AllReadyH.cons (o := { dst := some 81, op := Op.call { callee := .value (.func 55), args := #[.tmp 80, .func 56], argTypes := #[25, 53] }, type := 4, pos := "version.go:42", after := _, guard := some (13, true) }) rfl ?_ AllReadyH.nil
            intro K hK
            have HK := Lib.hid hK
            clear hK
            rw [if_pos (by kernel_rfl)]
            go_simp
            go_at_call 55; refine (HKF.out _ HRS.out.drew.sl).mono ?_; rintro e w9 ⟨rfl, hb9⟩
            (try dsimp only)
            have HR9 := Lib.hid (HRS.out.drew.below hb9)
            have hz9 := HZB.out.drew.below hb9
            have z0 := hz9.c0
            have g0 := hz9.f0
            have z1 := hz9.c1
            have g1 := hz9.f1
            have z2 := hz9.c2
            have g2 := hz9.f2
            have z3 := hz9.c3
            have g3 := hz9.f3
            have z4 := hz9.c4
            have g4 := hz9.f4
            have HST := Lib.hid (RS.store HR9.out HLW.out HLB.out HPB.out hz9 (t0 := .string J) (t1 := .int .i64 (rdNum 6 M.data.toList)) (t2 := .int .i64 (rdNum 6 MI.data.toList)) (t3 := .int .i64 (rdNum 6 PA.data.toList)) (t4 := .slice p n cap))
            clear hz9
            refine HK.out.out _ _ ?_ ?_
            · exact HR9.out
            intro hHeld3
            clear HK hHeld2
            (try simp only [Act.put, List.setIfInBounds_toArray, List.set_cons_zero, List.set_cons_succ])
            refine wpAnyH_take (i := 17) (v := ?_) rfl (by kernel_rfl) (by kernel_rfl) (by kernel_rfl) (fun _ _ _ h => h) (Or.inl ⟨by kernel_rfl, ?_⟩) (by assumption) ?_
            rotate_left
            · intro w hSw; obtain ⟨⟨c0, c1, c2, c3, c4, _⟩, x0, _⟩ := hSw; go_simp; (try with_reducible rfl)
            (try simp only [Act.put, List.setIfInBounds_toArray])
            refine wpAnyH_take (i := 18) (v := ?_) rfl (by kernel_rfl) (by kernel_rfl) (by kernel_rfl) (fun _ _ _ h => h) (Or.inl ⟨by kernel_rfl, ?_⟩) (by assumption) ?_
            rotate_left
            · intro w hSw; obtain ⟨⟨c0, c1, c2, c3, c4, _⟩, x0, _⟩ := hSw; go_simp; (try with_reducible rfl)
            (try simp only [Act.put])
            refine wpAnyH_ready (rs := [19]) (by kernel_rfl) (by simp) ?_
            refine AllReadyH.cons (o := { dst := none, op := Op.store 43 (.tmp 2) (.tmp 65), type := 0, pos := "version.go:42", after := _, guard := none }) rfl ?_ AllReadyH.nil
            intro K hK
            have HK3 := Lib.hid hK
            clear hK
            simp only [Region.wanted, if_true]
            go_simp
            refine HK3.out.out _ _ HST.out.1 ?_
            intro hHeld5
            clear HK3
            (try simp only [Act.put, List.setIfInBounds_toArray, List.set_cons_zero, List.set_cons_succ])
            refine wpAnyH_take (i := 20) (v := ?_) rfl (by kernel_rfl) (by kernel_rfl) (by kernel_rfl) (fun _ _ _ h => h) (Or.inl ⟨by kernel_rfl, ?_⟩) (by assumption) ?_
            rotate_left
            · intro w hSw; obtain ⟨⟨c0, c1, c2, c3, c4, _⟩, x0, _⟩ := hSw; go_simp; (try with_reducible rfl)
            (try simp only [Act.put, List.setIfInBounds_toArray])
            refine wpAnyH_done (by kernel_rfl) ?_ _
            (try simp only [List.getElem_toArray, List.getElem_cons_succ, List.getElem_cons_zero, List.set_cons_zero, List.set_cons_succ])
            go_wp2_with fail
            refine bodyPost_ret (results_vr rfl _ _ _ rfl rfl HST.out.2) rfl ?_
            exact ⟨_, by rw [HO.out]; rfl, ⟨_, _, _, rfl, HST.out.1.sl, fun a e => Nat.le_of_lt (HPB.out a e)⟩, HST.out.1.bw⟩
          · rw [decide_eq_false h5] at HO
            have hd5 : decide ((n : Int) ≤ 5) = false := by have := HNP.out; simp; omega
            have hd5n : decide (n ≤ 5) = false := by have := HNP.out; simp; omega
            clear h5 hPJ
            obtain ⟨u0, u1, u2, u3, u4, hz⟩ := HRS.out.z
            obtain ⟨z0, z1, z2, z3, z4, g0, g1, g2, g3, g4⟩ := id hz
            have hst := RS.store HRS.out HLW.out HLB.out HPB.out hz (t0 := .string J) (t1 := .int .i64 (rdNum 6 M.data.toList)) (t2 := .int .i64 (rdNum 6 MI.data.toList)) (t3 := .int .i64 (rdNum 6 PA.data.toList)) (t4 := .slice p n cap)
            have HST := Lib.hid (And.intro hst.1.drew hst.2.drew)
            clear hst hz
            refine wp_region_held_drew (S := (fun w' => RS w w' w4.heap.size B true J (rdNum 6 M.data.toList) (rdNum 6 MI.data.toList) (rdNum 6 PA.data.toList) (.slice p n cap) P)) (by kernel_rfl) ?_ (fun hHeld => ?_)
            · exact HRS.out.drew
            refine wpAnyH_take (i := 0) (v := ?_) rfl (by kernel_rfl) (by kernel_rfl) (by kernel_rfl) (fun _ _ _ h => h) (Or.inl ⟨by kernel_rfl, ?_⟩) (by assumption) ?_
            rotate_left
            · intro w hSw; obtain ⟨⟨c0, c1, c2, c3, c4, _⟩, x0, _⟩ := hSw; go_simp; (try with_reducible rfl)
            (try simp only [Act.put, List.setIfInBounds_toArray])
            refine wpAnyH_take (i := 1) (v := ?_) rfl (by kernel_rfl) (by kernel_rfl) (by kernel_rfl) (fun _ _ _ h => h) (Or.inl ⟨by kernel_rfl, ?_⟩) (by assumption) ?_
            rotate_left
            · intro w hSw; obtain ⟨⟨c0, c1, c2, c3, c4, _⟩, x0, _⟩ := hSw; go_simp; (try with_reducible rfl)
            (try simp only [Act.put])
            refine wpAnyH_take (i := 2) (v := ?_) rfl (by kernel_rfl) (by kernel_rfl) (by kernel_rfl) (fun _ _ _ h => h) (Or.inl ⟨by kernel_rfl, ?_⟩) (by assumption) ?_
            rotate_left
            · intro w hSw; obtain ⟨⟨c0, c1, c2, c3, c4, _⟩, x0, _⟩ := hSw; go_simp; (try with_reducible rfl)
            (try simp only [Act.put])
            refine wpAnyH_take (i := 3) (v := ?_) rfl (by kernel_rfl) (by kernel_rfl) (by kernel_rfl) (fun _ _ _ h => h) (Or.inl ⟨by kernel_rfl, ?_⟩) (by assumption) ?_
            rotate_left
            · intro w hSw; obtain ⟨⟨c0, c1, c2, c3, c4, _⟩, x0, _⟩ := hSw; go_simp; (try with_reducible rfl)
            (try simp only [Act.put])
            refine wpAnyH_take (i := 4) (v := ?_) rfl (by kernel_rfl) (by kernel_rfl) (by kernel_rfl) (fun _ _ _ h => h) (Or.inl ⟨by kernel_rfl, ?_⟩) (by assumption) ?_
            rotate_left
            · intro w hSw; obtain ⟨⟨c0, c1, c2, c3, c4, _⟩, x0, _⟩ := hSw; go_simp; (try with_reducible rfl)
            (try simp only [Act.put])
            refine wpAnyH_ready (rs := [5]) (by kernel_rfl) (by simp) ?_
            refine AllReadyH.cons (o := { dst := some 70, op := Op.call { callee := .value (.func 52), args := #[.tmp 69], argTypes := #[9] }, type := 4, pos := "version.go:42", after := _, guard := some (2, true) }) rfl ?_ AllReadyH.nil
            intro K hK
            have HK := Lib.hid hK
            clear hK
            rw [if_pos (by kernel_rfl)]
            go_simp
            go_at_call 52; refine (HI.out _).mono ?_; rintro e w8 ⟨rfl, rfl⟩
            (try dsimp only)
            refine HK.out.out _ _ ?_ ?_
            · exact HRS.out.drew
            intro hHeld2
            clear HK hHeld
            (try simp only [Act.put, List.setIfInBounds_toArray, List.set_cons_zero, List.set_cons_succ])
            refine wpAnyH_take (i := 6) (v := ?_) rfl (by kernel_rfl) (by kernel_rfl) (by kernel_rfl) (fun _ _ _ h => h) (Or.inl ⟨by kernel_rfl, ?_⟩) (by assumption) ?_
            rotate_left
            · intro w hSw; obtain ⟨⟨c0, c1, c2, c3, c4, _⟩, x0, _⟩ := hSw; go_simp; (try with_reducible rfl)
            (try simp only [Act.put, List.setIfInBounds_toArray])
            refine wpAnyH_take (i := 7) (v := ?_) rfl (by kernel_rfl) (by kernel_rfl) (by kernel_rfl) (fun _ _ _ h => h) (Or.inl ⟨by kernel_rfl, ?_⟩) (by assumption) ?_
            rotate_left
            · intro w hSw; obtain ⟨⟨c0, c1, c2, c3, c4, _⟩, x0, _⟩ := hSw; go_simp; (try with_reducible rfl)
            (try simp only [Act.put])
            refine wpAnyH_take (i := 8) (v := ?_) rfl (by kernel_rfl) (by kernel_rfl) (by kernel_rfl) (fun _ _ _ h => h) (Or.inl ⟨by kernel_rfl, ?_⟩) (by assumption) ?_
            rotate_left
            · intro w hSw; obtain ⟨⟨c0, c1, c2, c3, c4, _⟩, x0, _⟩ := hSw; go_simp; (try with_reducible rfl)
            (try simp only [Act.put])
            refine wpAnyH_take (i := 9) (v := ?_) rfl (by kernel_rfl) (by kernel_rfl) (by kernel_rfl) (fun _ _ _ h => h) (Or.inl ⟨by kernel_rfl, ?_⟩) (by assumption) ?_
            rotate_left
            · intro w hSw; obtain ⟨⟨c0, c1, c2, c3, c4, _⟩, x0, _⟩ := hSw; go_simp; (try with_reducible rfl)
            (try simp only [Act.put])
            refine wpAnyH_take (i := 10) (v := ?_) rfl (by kernel_rfl) (by kernel_rfl) (by kernel_rfl) (fun _ _ _ h => h) (Or.inl ⟨by kernel_rfl, ?_⟩) (by assumption) ?_
            rotate_left
            · intro w hSw; obtain ⟨⟨c0, c1, c2, c3, c4, _⟩, x0, _⟩ := hSw; go_simp; (try with_reducible rfl)
            (try simp only [Act.put])
            refine wpAnyH_take (i := 11) (v := ?_) rfl (by kernel_rfl) (by kernel_rfl) (by kernel_rfl) (fun _ _ _ h => h) (Or.inl ⟨by kernel_rfl, ?_⟩) (by assumption) ?_
            rotate_left
            · intro w hSw; obtain ⟨⟨c0, c1, c2, c3, c4, _⟩, x0, _⟩ := hSw; go_simp; (try with_reducible rfl)
            (try simp only [Act.put])
            refine wpAnyH_take (i := 12) (v := ?_) rfl (by kernel_rfl) (by kernel_rfl) (by kernel_rfl) (fun _ _ _ h => h) (Or.inl ⟨by kernel_rfl, ?_⟩) (by assumption) ?_
            rotate_left
            · intro w hSw; obtain ⟨⟨c0, c1, c2, c3, c4, _⟩, x0, _⟩ := hSw; go_simp; (try with_reducible rfl)
            (try simp only [Act.put])
            refine wpAnyH_take (i := 13) (v := ?_) rfl (by kernel_rfl) (by kernel_rfl) (by kernel_rfl) (fun _ _ _ h => h) (Or.inl ⟨by kernel_rfl, ?_⟩) (by assumption) ?_
            rotate_left
            · intro w hSw; obtain ⟨⟨c0, c1, c2, c3, c4, _⟩, x0, _⟩ := hSw; go_simp; (try with_reducible rfl)
            (try simp only [Act.put])
            refine wpAnyH_take (i := 14) (v := undef) rfl (by kernel_rfl) (by kernel_rfl) (by kernel_rfl) (fun _ _ _ h => h) (Or.inr ⟨by kernel_rfl, rfl⟩) (by assumption) ?_
            (try simp only [Act.put])
            refine wpAnyH_take (i := 15) (v := undef) rfl (by kernel_rfl) (by kernel_rfl) (by kernel_rfl) (fun _ _ _ h => h) (Or.inr ⟨by kernel_rfl, rfl⟩) (by assumption) ?_
            (try simp only [Act.put])
            refine wpAnyH_take (i := 16) (v := undef) rfl (by kernel_rfl) (by kernel_rfl) (by kernel_rfl) (fun _ _ _ h => h) (Or.inr ⟨by kernel_rfl, rfl⟩) (by assumption) ?_
            (try simp only [Act.put])
            refine wpAnyH_take (i := 17) (v := undef) rfl (by kernel_rfl) (by kernel_rfl) (by kernel_rfl) (fun _ _ _ h => h) (Or.inr ⟨by kernel_rfl, rfl⟩) (by assumption) ?_
            (try simp only [Act.put])
            refine wpAnyH_take (i := 18) (v := ?_) rfl (by kernel_rfl) (by kernel_rfl) (by kernel_rfl) (fun _ _ _ h => h) (Or.inl ⟨by kernel_rfl, ?_⟩) (by assumption) ?_
            rotate_left
            · intro w hSw; obtain ⟨⟨c0, c1, c2, c3, c4, _⟩, x0, _⟩ := hSw; go_simp; (try with_reducible rfl)
            (try simp only [Act.put])
            refine wpAnyH_ready (rs := [19]) (by kernel_rfl) (by simp) ?_
            refine AllReadyH.cons (o := { dst := none, op := Op.store 43 (.tmp 2) (.tmp 65), type := 0, pos := "version.go:42", after := _, guard := none }) rfl ?_ AllReadyH.nil
            intro K hK
            have HK3 := Lib.hid hK
            clear hK
            simp only [Region.wanted, if_true]
            go_simp
            refine HK3.out.out _ _ HST.out.1 ?_
            intro hHeld5
            clear HK3
            (try simp only [Act.put, List.setIfInBounds_toArray, List.set_cons_zero, List.set_cons_succ])
            refine wpAnyH_take (i := 20) (v := ?_) rfl (by kernel_rfl) (by kernel_rfl) (by kernel_rfl) (fun _ _ _ h => h) (Or.inl ⟨by kernel_rfl, ?_⟩) (by assumption) ?_
            rotate_left
            · intro w hSw; obtain ⟨⟨c0, c1, c2, c3, c4, _⟩, x0, _⟩ := hSw; go_simp; (try with_reducible rfl)
            (try simp only [Act.put, List.setIfInBounds_toArray])
            refine wpAnyH_done (by kernel_rfl) ?_ _
            (try simp only [List.getElem_toArray, List.getElem_cons_succ, List.getElem_cons_zero, List.set_cons_zero, List.set_cons_succ])
            go_wp2_with fail
            refine bodyPost_ret (results_vr rfl _ _ _ rfl rfl HST.out.2) rfl ?_
            exact ⟨_, by rw [HO.out]; rfl, ⟨_, _, _, rfl, HST.out.1.sl, fun a e => Nat.le_of_lt (HPB.out a e)⟩, HST.out.1.bw⟩
end Go.Proofs.YtnpnoohnkbpokaaDoor

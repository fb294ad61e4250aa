/- A reader's match. -/
import Derived.Test.YtooilpblbkgloaaGreatDoorReadQ
import Derived.Test.YtooilpblbkgloaaGreatDoorReadB
namespace Go.Proofs.YtooilpblbkgloaaGreatDoor
open Go.RowKit Go.Lib

/-- A block of three cells that may be written. -/
structure Bx3 (w : World) (B : Nat) (v0 v1 v2 : Value) : Prop where
  c0 : w.cell? ⟨B, 0, none⟩ = some v0
  c1 : w.cell? ⟨B, 1, none⟩ = some v1
  c2 : w.cell? ⟨B, 2, none⟩ = some v2
  f0 : w.frozen? ⟨B, 0, none⟩ = false
  f1 : w.frozen? ⟨B, 1, none⟩ = false
  f2 : w.frozen? ⟨B, 2, none⟩ = false
theorem Bx3.lt {w : World} {B : Nat} {v0 v1 v2 : Value} (h : Bx3 w B v0 v1 v2) : B < w.heap.size := World.block_lt_of_cell? _ _ h.c0
theorem Bx3.of {w w' : World} {B : Nat} {v0 v1 v2 : Value} (h : Bx3 w B v0 v1 v2) (e : w'.heap[B]? = w.heap[B]?) : Bx3 w' B v0 v1 v2 :=
  ⟨(World.cell?_of_block (a := ⟨B, 0, none⟩) e).trans h.c0, (World.cell?_of_block (a := ⟨B, 1, none⟩) e).trans h.c1, (World.cell?_of_block (a := ⟨B, 2, none⟩) e).trans h.c2,
   (World.frozen?_of_block (a := ⟨B, 0, none⟩) e).trans h.f0, (World.frozen?_of_block (a := ⟨B, 1, none⟩) e).trans h.f1, (World.frozen?_of_block (a := ⟨B, 2, none⟩) e).trans h.f2⟩
theorem Bx3.grown {w w' : World} {B : Nat} {v0 v1 v2 : Value} {r : Option Nat} (h : Bx3 w B v0 v1 v2) (hg : w.grownBy w' r) (hr : r ≠ some B) : Bx3 w' B v0 v1 v2 := h.of (hg.block B h.lt (fun e => hr e.symm))
theorem Bx3.below {w w' : World} {B : Nat} {v0 v1 v2 : Value} (h : Bx3 w B v0 v1 v2) (hg : Below w.heap.size w w') : Bx3 w' B v0 v1 v2 := h.of (hg.block B h.lt)
theorem Bx3.new (w : World) (v0 v1 v2 : Value) (t : TypeId) : Bx3 (w.alloc (.cells #[v0, v1, v2] t)) w.heap.size v0 v1 v2 :=
  ⟨by go_simp, by go_simp, by go_simp, by go_simp, by go_simp, by go_simp⟩

theorem Bx3.set0 {w : World} {B : Nat} {v0 v1 v2 : Value} (h : Bx3 w B v0 v1 v2) (v : Value) : Bx3 (w.setCell ⟨B, 0, none⟩ v) B v v1 v2 := by
  obtain ⟨c0, c1, c2, f0, f1, f2⟩ := h
  exact ⟨by go_simp, by go_simp, by go_simp, by rw [World.frozen?_setCell]; exact f0, by rw [World.frozen?_setCell]; exact f1, by rw [World.frozen?_setCell]; exact f2⟩
theorem Bx3.set1 {w : World} {B : Nat} {v0 v1 v2 : Value} (h : Bx3 w B v0 v1 v2) (v : Value) : Bx3 (w.setCell ⟨B, 1, none⟩ v) B v0 v v2 := by
  obtain ⟨c0, c1, c2, f0, f1, f2⟩ := h
  exact ⟨by go_simp, by go_simp, by go_simp, by rw [World.frozen?_setCell]; exact f0, by rw [World.frozen?_setCell]; exact f1, by rw [World.frozen?_setCell]; exact f2⟩
theorem Bx3.other {w : World} {B : Nat} {v0 v1 v2 : Value} (h : Bx3 w B v0 v1 v2) {p : Addr} (hp : p.block ≠ B) (v : Value) : Bx3 (w.setCell p v) B v0 v1 v2 := h.grown (grownBy_set _ _ _) (fun e => hp (Option.some.inj e))
theorem Bx3.set2 {w : World} {B : Nat} {v0 v1 v2 : Value} (h : Bx3 w B v0 v1 v2) (v : Value) : Bx3 (w.setCell ⟨B, 2, none⟩ v) B v0 v1 v := by
  obtain ⟨c0, c1, c2, f0, f1, f2⟩ := h
  exact ⟨by go_simp, by go_simp, by go_simp, by rw [World.frozen?_setCell]; exact f0, by rw [World.frozen?_setCell]; exact f1, by rw [World.frozen?_setCell]; exact f2⟩
theorem Bx3.all {w : World} {B : Nat} {v0 v1 v2 : Value} (h : Bx3 w B v0 v1 v2) (u0 u1 u2 : Value) : Bx3 (((w.setCell ⟨B, 0, none⟩ u0).setCell ⟨B, 1, none⟩ u1).setCell ⟨B, 2, none⟩ u2) B u0 u1 u2 := ((h.set0 u0).set1 u1).set2 u2
theorem grownBy_own {a b : World} {r : Option Nat} (h : a.grownBy b r) {p : Addr} (hp : a.heap.size ≤ p.block) (v : Value) : a.grownBy (b.setCell p v) r :=
  grownBy_low h ((Below.refl _ _).setCell hp v) (Nat.le_refl _)
theorem grownBy_new {a b : World} {r : Option Nat} (h : a.grownBy b r) (o : Obj) : a.grownBy (b.alloc o) r := grownBy_trans h (World.grownBy_alloc _ _ _)
theorem results_bx3 {fn : Func} {p : Tmp} {v0 v1 v2 : Value} (h : fn.results = #[.cell p 46]) (tmps : Array Value) (w : World) (g : Nat) (hp : tmps.getD p undef = .pointer (some ⟨g, 0, none⟩)) (hb : Bx3 w g v0 v1 v2) :
    (results fn tmps).run Tryz.prog w = .ok (.agg #[v0, v1, v2]) w := by
  obtain ⟨c0, c1, c2, f0, f1, f2⟩ := hb
  have hp' : tmps[p]?.getD undef = .pointer (some ⟨g, 0, none⟩) := by simpa using hp
  simp [results, h, hp', asAddr, loadVar]
  go_simp
theorem RdC.at0 {w : World} {b : Nat} {s : ByteArray} (h : RdC w b s) {B o : Nat} (hB : B ≠ b) (v : Value) : RdC (w.setCell ⟨B, o, none⟩ v) b s := h.grown (grownBy_set _ _ _) (fun e => hB (Option.some.inj e))
theorem Bx3.at0 {w : World} {b : Nat} {v0 v1 v2 : Value} (h : Bx3 w b v0 v1 v2) {B o : Nat} (hB : B ≠ b) (v : Value) : Bx3 (w.setCell ⟨B, o, none⟩ v) b v0 v1 v2 := h.other hB v
theorem grownBy_at {a b : World} {r : Option Nat} (h : a.grownBy b r) {B o : Nat} (hp : a.heap.size ≤ B) (v : Value) : a.grownBy (b.setCell ⟨B, o, none⟩ v) r := grownBy_own h (p := ⟨B, o, none⟩) hp v
theorem bang_off (j : Nat) (hj : j < 6) (R : List UInt8) : Lib.hasPrefix (mWordC ((j : Int) + 1) ++ R) [33] = false := by
  obtain rfl | rfl | rfl | rfl | rfl | rfl : j = 0 ∨ j = 1 ∨ j = 2 ∨ j = 3 ∨ j = 4 ∨ j = 5 := by omega
  all_goals rfl
theorem words_off (i j : Nat) (hi : i < 6) (hj : j < i) (R : List UInt8) : Lib.hasPrefix (mWordC ((i : Int) + 1) ++ R) (mWordC ((j : Int) + 1)) = false := by
  obtain rfl | rfl | rfl | rfl | rfl | rfl : i = 0 ∨ i = 1 ∨ i = 2 ∨ i = 3 ∨ i = 4 ∨ i = 5 := by omega
  all_goals
    obtain rfl | rfl | rfl | rfl | rfl : j = 0 ∨ j = 1 ∨ j = 2 ∨ j = 3 ∨ j = 4 := by omega
    all_goals first | rfl | (exfalso; omega)

theorem bang_rd (j : Nat) (hj : j < 6) (nt : Bool) (b : Nat) (R : List UInt8) (w : World) (hR : RdC w b (bs ((if nt then [33] else []) ++ (mWordC ((j : Int) + 1) ++ R)))) :
    Calls Tryz.prog 25 #[.pointer (some ⟨b, 0, none⟩), .string ⟨#[33]⟩] w fun e w' => e = .returned (.bool nt) ∧ RdC w' b (bs (mWordC ((j : Int) + 1) ++ R)) ∧ w.grownBy w' (some b) := by
  cases nt
  · refine (skip_miss b (bs [33]) (bs (mWordC ((j : Int) + 1) ++ R)) w hR (bang_off j hj R)).mono ?_
    rintro e w' ⟨rfl, rfl⟩
    exact ⟨rfl, hR, grownBy_refl _ _⟩
  · exact skip_hit b [33] _ w hR
theorem find_rd (i : Nat) (hi : i < 6) (b B : Nat) (R : List UInt8) (w : World) (hR : RdC w b (bs (mWordC ((i : Int) + 1) ++ R)))
    (hw : ∀ j, j < 6 → w.cell? ⟨B, j, none⟩ = some (.string (bs (mWordC ((j : Int) + 1))))) :
    Calls Tryz.prog 45 #[.slice (some ⟨B, 0, none⟩) 6 6, .func (.func 25) #[.pointer (some ⟨b, 0, none⟩)] #[]] w fun e w' => e = .returned (.tuple #[.int .i64 i, .bool true]) ∧ RdC w' b (bs R) ∧ w.grownBy w' (some b) :=
  find_hit B b 6 i (fun j => mWordC ((j : Int) + 1)) R w (by decide) hi hw hR (fun j hj => words_off i j hi hj R)
theorem words_rd (b : Nat) (s : ByteArray) (w : World) (hR : RdC w b s) :
    Calls Tryz.prog 46 #[] w fun e w' => ∃ B, e = .returned (.slice (some ⟨B, 0, none⟩) 6 6) ∧ RdC w' b s ∧ (∀ j, j < 6 → w'.cell? ⟨B, j, none⟩ = some (.string (bs (mWordC ((j : Int) + 1))))) ∧ Below w.heap.size w w' := by
  refine (matchWords_any w).mono ?_
  rintro e w' ⟨rfl, ⟨x0, x1, x2, x3, x4, x5⟩, hb⟩
  refine ⟨w.heap.size, rfl, hR.below hb hR.lt, ?_, hb⟩
  intro j hj
  obtain rfl | rfl | rfl | rfl | rfl | rfl : j = 0 ∨ j = 1 ∨ j = 2 ∨ j = 3 ∨ j = 4 ∨ j = 5 := by omega
  · exact x0
  · exact x1
  · exact x2
  · exact x3
  · exact x4
  · exact x5

set_option maxHeartbeats 2000000 in
set_option maxRecDepth 100000 in
theorem match_at (j : Nat) (hj : j < 6) (nt : Bool) (gl : ByteArray) (b : Nat) (l : List UInt8) (w : World) (hgl : gl.size ≤ 100) (h6 : j = 5 → gl = ⟨#[]⟩) (hR : RdC w b (bs (mText ⟨(j : Int) + 1, nt, gl⟩ ++ l))) :
    Calls Tryz.prog 26 #[.pointer (some ⟨b, 0, none⟩)] w fun e w' => e = .returned (.agg #[.int .i64 ((j : Int) + 1), .bool nt, .string gl]) ∧ RdC w' b (bs l) ∧ w.grownBy w' (some b) := by
  rw [mText_of, List.append_assoc, List.append_assoc] at hR
  obtain ⟨R, hRR⟩ : ∃ R, R = (if (j : Int) + 1 = 6 then [] else qt gl) ++ l := ⟨_, rfl⟩
  rw [← hRR] at hR
  have HS := Lib.hid (fun (W : World) (hr : RdC W b _) => bang_rd j hj nt b R W hr)
  have HM := Lib.hid (fun (W : World) (hr : RdC W b (bs (mWordC ((j : Int) + 1) ++ R))) => words_rd b _ W hr)
  have HF := Lib.hid (fun (B : Nat) (W : World) (hr : RdC W b (bs (mWordC ((j : Int) + 1) ++ R))) hw => find_rd j hj b B R W hr hw)
  have hbw := hR.lt
  have HR := Lib.hid (hR.below ((Below.refl w.heap.size w).alloc (Nat.le_refl _) (.cells #[.int .i64 0, .bool false, .string ⟨#[]⟩] 46)) hbw)
  clear hR
  have HB := Lib.hid (Bx3.new w (.int .i64 0) (.bool false) (.string ⟨#[]⟩) 46)
  have HGA := Lib.hid (World.grownBy_alloc w (.cells #[.int .i64 0, .bool false, .string ⟨#[]⟩] 46) (some b))
  by_cases h5 : j = 5
  · have hgl0 := h6 h5
    have HJ := Lib.hid (show (6 : Int) = (j : Int) + 1 by omega)
    have e6 : 1 + (j : Int) = 6 := by omega
    rw [if_pos (by omega), List.nil_append] at hRR
    subst hgl0
    clear h6 h5 hj hgl
    go_enter Tryz.func26, Tryz.ntmps26
    go_wp2_with (first
      | (go_at_call 25; (with_reducible refine (HS.out _ HR.out).mono ?_); rintro e w1 ⟨rfl, hR1, hg1⟩; have z1 := HB.out.grown hg1 (fun e => by have := Option.some.inj e; omega); have hs1 := z1.lt; have g1 := grownBy_trans HGA.out hg1; have hb1 := hR1.lt)
      | (go_at_call 46; refine (HM.out _ (hR1.below ((Below.refl _ _).alloc (Nat.le_refl _) _) hR1.lt)).mono ?_; rintro e w2 ⟨B, rfl, hR2, hw2, hb2⟩; have z2 := (z1.below ((Below.refl _ w1).alloc (Nat.le_refl _) (.cells #[.int .i64 0, .bool nt, .string ⟨#[]⟩] 46))).below hb2; have y2 := (Bx3.new w1 (.int .i64 0) (.bool nt) (.string ⟨#[]⟩) 46).below hb2; have g2 := grownBy_below (grownBy_new g1 _) hb2)
      | (go_at_call 45; (with_reducible refine (HF.out _ _ hR2 hw2).mono ?_); rintro e w3 ⟨rfl, hR3, hg3⟩; have z3 := z2.grown hg3 (fun e => by have := Option.some.inj e; omega); have y3 := y2.grown hg3 (fun e => by have := Option.some.inj e; omega); have g3 := grownBy_trans g2 hg3; have Z3 := Lib.hid z3; obtain ⟨zc0, zc1, zc2, zf0, zf1, zf2⟩ := z3; obtain ⟨yc0, yc1, yc2, yf0, yf1, yf2⟩ := y3))
    (try simp only [Exit.inBlock, Exit.then])
    refine bodyPost_ret (results_bx3 rfl _ _ _ rfl ((Z3.out.at0 (by omega) _).all _ _ _)) rfl ?_
    rw [← hRR]
    exact ⟨by rw [← HJ.out], (((hR3.at0 (by omega) _).at0 (by omega) _).at0 (by omega) _).at0 (by omega) _, grownBy_at (grownBy_at (grownBy_at (grownBy_at g3 (by omega) _) (Nat.le_refl _) _) (Nat.le_refl _) _) (Nat.le_refl _) _⟩
  · have hj5 : (j : Int) < 5 := by omega
    have hj0 : (0 : Int) ≤ (j : Int) := by omega
    rw [if_neg (by omega)] at hRR
    have HQ := Lib.hid (fun (W : World) (hr : RdC W b (bs R)) => quoted_hit b gl l W hgl (by rw [← hRR]; exact hr))
    clear hRR h6 h5 hj hgl
    go_enter Tryz.func26, Tryz.ntmps26
    go_wp2_with (first
      | (go_at_call 25; (with_reducible refine (HS.out _ HR.out).mono ?_); rintro e w1 ⟨rfl, hR1, hg1⟩; have z1 := HB.out.grown hg1 (fun e => by have := Option.some.inj e; omega); have hs1 := z1.lt; have g1 := grownBy_trans HGA.out hg1; have hb1 := hR1.lt)
      | (go_at_call 46; refine (HM.out _ (hR1.below ((Below.refl _ _).alloc (Nat.le_refl _) _) hR1.lt)).mono ?_; rintro e w2 ⟨B, rfl, hR2, hw2, hb2⟩; have z2 := (z1.below ((Below.refl _ w1).alloc (Nat.le_refl _) (.cells #[.int .i64 0, .bool nt, .string ⟨#[]⟩] 46))).below hb2; have y2 := (Bx3.new w1 (.int .i64 0) (.bool nt) (.string ⟨#[]⟩) 46).below hb2; have g2 := grownBy_below (grownBy_new g1 _) hb2)
      | (go_at_call 45; (with_reducible refine (HF.out _ _ hR2 hw2).mono ?_); rintro e w3 ⟨rfl, hR3, hg3⟩; have z3 := z2.grown hg3 (fun e => by have := Option.some.inj e; omega); have y3 := y2.grown hg3 (fun e => by have := Option.some.inj e; omega); have g3 := grownBy_trans g2 hg3; have Y3 := Lib.hid y3; have Z3 := Lib.hid z3; obtain ⟨yc0, yc1, yc2, yf0, yf1, yf2⟩ := y3)
      | (go_at_call 48; refine (HQ.out _ (hR3.at0 (by omega) _)).mono ?_; rintro e w4 ⟨rfl, hR4, hg4⟩; have y4 := (Y3.out.set0 (.int .i64 (1 + (j : Int)))).grown hg4 (fun e => by have := Option.some.inj e; omega); have z4 := (Z3.out.at0 (o := 0) (show w1.heap.size ≠ w.heap.size by omega) (.int .i64 (1 + (j : Int)))).grown hg4 (fun e => by have := Option.some.inj e; omega); have g4 := grownBy_trans (grownBy_at g3 (by omega) _) hg4; have Z4 := Lib.hid z4; obtain ⟨zc0, zc1, zc2, zf0, zf1, zf2⟩ := z4; obtain ⟨vc0, vc1, vc2, vf0, vf1, vf2⟩ := y4))
    (try simp only [Exit.inBlock, Exit.then])
    refine bodyPost_ret (results_bx3 rfl _ _ _ rfl ((Z4.out.at0 (by omega) _).all _ _ _)) rfl ?_
    exact ⟨by rw [Int.add_comm], (((hR4.at0 (by omega) _).at0 (by omega) _).at0 (by omega) _).at0 (by omega) _, grownBy_at (grownBy_at (grownBy_at (grownBy_at g4 (by omega) _) (Nat.le_refl _) _) (Nat.le_refl _) _) (Nat.le_refl _) _⟩
end Go.Proofs.YtooilpblbkgloaaGreatDoor

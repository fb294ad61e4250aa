/- A reader's act. -/
import Derived.Test.YtooilpblbkgloaaGreatDoorReadD
namespace Go.Proofs.YtooilpblbkgloaaGreatDoor
open Go.RowKit Go.Lib

theorem results_bx3a {fn : Func} {p : Tmp} {v0 v1 v2 : Value} (h : fn.results = #[.cell p 49]) (tmps : Array Value) (w : World) (g : Nat) (hp : tmps.getD p undef = .pointer (some ⟨g, 0, none⟩)) (hb : Bx3 w g v0 v1 v2) :
    (results fn tmps).run Tryz.prog w = .ok (.agg #[v0, v1, v2]) w := by
  obtain ⟨c0, c1, c2, f0, f1, f2⟩ := hb
  have hp' : tmps[p]?.getD undef = .pointer (some ⟨g, 0, none⟩) := by simpa using hp
  simp [results, h, hp', asAddr, loadVar]
  go_simp
theorem Bx3.alloc {w : World} {B : Nat} {v0 v1 v2 : Value} (h : Bx3 w B v0 v1 v2) (o : Obj) : Bx3 (w.alloc o) B v0 v1 v2 := h.below ((Below.refl _ _).alloc (Nat.le_refl _) o)
theorem RdC.alloc {w : World} {b : Nat} {s : ByteArray} (h : RdC w b s) (o : Obj) : RdC (w.alloc o) b s := h.below ((Below.refl _ _).alloc (Nat.le_refl _) o) h.lt

/-- The rest of an act's text behind its word. -/
def aRest (a : Ac) : List UInt8 := if a.d = 5 then digs a.n else if a.d = 6 then qt a.t else []
theorem aText_rest (a : Ac) : aText a = aWord a.d ++ aRest a := rfl

set_option maxHeartbeats 4000000 in
set_option maxRecDepth 100000 in
theorem act_at (j : Nat) (hj : j < 6) (n : Int) (t : ByteArray) (b : Nat) (l : List UInt8) (w : World) (ht : t.size ≤ 100) (hn : if j = 4 then 0 ≤ n ∧ n ≤ 200 else n = 0) (h5 : j ≠ 5 → t = ⟨#[]⟩)
    (hl : l = [] ∨ ∃ t, l = 32 :: t) (hlz : l.length ≤ 900000) (hR : RdC w b (bs (aText ⟨(j : Int) + 1, n, t⟩ ++ l))) (hE : ∀ W, w.grownBy W (some b) → Env W) :
    Calls Tryz.prog 28 #[.pointer (some ⟨b, 0, none⟩)] w fun e w' => e = .returned (.agg #[.int .i64 ((j : Int) + 1), .int .i64 n, .string t]) ∧ RdC w' b (bs l) ∧ w.grownBy w' (some b) := by
  rw [aText_rest, List.append_assoc] at hR
  obtain ⟨R, hRR⟩ : ∃ R, R = aRest ⟨(j : Int) + 1, n, t⟩ ++ l := ⟨_, rfl⟩
  rw [← hRR] at hR
  unfold aRest at hRR
  simp only at hRR
  have hbw := hR.lt
  have HS0 := Lib.hid (show ((w.alloc (.cells #[.pointer (some ⟨b, 0, none⟩)] 62)).alloc (.cells #[.int .i64 0, .int .i64 0, .string ⟨#[]⟩] 49)).heap.size = w.heap.size + 2 by simp)
  have HB := Lib.hid (show Bx3 ((w.alloc (.cells #[.pointer (some ⟨b, 0, none⟩)] 62)).alloc (.cells #[.int .i64 0, .int .i64 0, .string ⟨#[]⟩] 49)) (w.heap.size + 1) (.int .i64 0) (.int .i64 0) (.string ⟨#[]⟩) by
    have := Bx3.new (w.alloc (.cells #[.pointer (some ⟨b, 0, none⟩)] 62)) (.int .i64 0) (.int .i64 0) (.string ⟨#[]⟩) 49
    simpa using this)
  have HN := Lib.hid (show ((w.alloc (.cells #[.pointer (some ⟨b, 0, none⟩)] 62)).alloc (.cells #[.int .i64 0, .int .i64 0, .string ⟨#[]⟩] 49)).cell? ⟨w.heap.size, 0, none⟩ = some (.pointer (some ⟨b, 0, none⟩)) by go_simp)
  have HR := Lib.hid ((hR.alloc (.cells #[.pointer (some ⟨b, 0, none⟩)] 62)).alloc (.cells #[.int .i64 0, .int .i64 0, .string ⟨#[]⟩] 49))
  have HG := Lib.hid (grownBy_new (World.grownBy_alloc w (.cells #[.pointer (some ⟨b, 0, none⟩)] 62) (some b)) (.cells #[.int .i64 0, .int .i64 0, .string ⟨#[]⟩] 49))
  have HE := Lib.hid hE
  have HF := Lib.hid (fun (B : Nat) (W : World) (hD : DeedRow W B) (hr : RdC W b _) (hn : W.cell? ⟨w.heap.size, 0, none⟩ = some (.pointer (some ⟨b, 0, none⟩))) => dfind_hit B b w.heap.size j R W hj hD hr hn)
  clear hR hE
  by_cases hj4 : j = 4
  · rw [if_pos hj4] at hn
    rw [if_pos (by omega)] at hRR
    obtain rfl := h5 (by omega)
    have HJ := Lib.hid (show (5 : Int) = (j : Int) + 1 by omega)
    have e5 : 1 + (j : Int) = 5 := by omega
    have HQ := Lib.hid (fun (W : World) (hr : RdC W b (bs R)) (he : Env W) => number_hit b n l W hn.1 hn.2 (by have := (digs_facts hn.1 hn.2).2.2.2; rw [List.length_append]; omega) hl (by rw [← hRR]; exact hr) he)
    clear hRR hl hlz hn h5 hj4 hj
    go_enter Tryz.func28, Tryz.ntmps28
    go_wp2_with (first
      | (go_at_call 50; refine (deedRow_any _).mono ?_; rintro e w1 ⟨B, rfl, hD, hb1⟩; have R1 := HR.out.below hb1 HR.out.lt; have z1 := HB.out.below hb1; have n1 := cell_keep HN.out hb1; have g1 := grownBy_below HG.out hb1; have hs1 := hb1.size; rw [HS0.out] at hs1)
      | (go_at_call 49; (with_reducible refine (HF.out _ _ hD R1 n1).mono ?_); rintro e w2 ⟨rfl, R2, hg2⟩; have z2 := z1.grown hg2 (fun e => by have := Option.some.inj e; omega); have n2 := cell_grownBy n1 hg2 (fun e => by have : b = w.heap.size := Option.some.inj e; omega); have g2 := grownBy_trans g1 hg2; have hs2 := hg2.size; have hlt1 : w.heap.size + 1 < w2.heap.size := (by omega); have hlt0 : w.heap.size < w2.heap.size := (by omega); have y2 := Bx3.new w2 (.int .i64 5) (.int .i64 0) (.string ⟨#[]⟩) 49)
      | (go_at_call 52; refine (HQ.out _ (R2.alloc _) (HE.out _ (grownBy_new g2 _))).mono ?_; rintro e w3 ⟨rfl, R3, hg3⟩; have z3 := (z2.alloc _).grown hg3 (fun e => by have := Option.some.inj e; omega); have y3 := y2.grown hg3 (fun e => by have := Option.some.inj e; omega); have g3 := grownBy_trans (grownBy_new g2 _) hg3; have Z3 := Lib.hid z3; obtain ⟨zc0, zc1, zc2, zf0, zf1, zf2⟩ := z3; obtain ⟨yc0, yc1, yc2, yf0, yf1, yf2⟩ := y3))
    (try simp only [Exit.inBlock, Exit.then])
    refine bodyPost_ret (results_bx3a rfl _ _ _ rfl ((Z3.out.at0 (by omega) _).all _ _ _)) rfl ?_
    exact ⟨by rw [← HJ.out], (((R3.at0 (by omega) _).at0 (by omega) _).at0 (by omega) _).at0 (by omega) _, grownBy_at (grownBy_at (grownBy_at (grownBy_at g3 (by omega) _) (by omega) _) (by omega) _) (by omega) _⟩
  · rw [if_neg hj4] at hn
    subst hn
    by_cases hj5 : j = 5
    · rw [if_neg (by omega), if_pos (by omega)] at hRR
      have HJ := Lib.hid (show (6 : Int) = (j : Int) + 1 by omega)
      have e6 : 1 + (j : Int) = 6 := by omega
      have HQ := Lib.hid (fun (W : World) (hr : RdC W b (bs R)) => quoted_hit b t l W ht (by rw [← hRR]; exact hr))
      clear hRR hl hlz h5 hj4 hj5 hj ht
      go_enter Tryz.func28, Tryz.ntmps28
      go_wp2_with (first
        | (go_at_call 50; refine (deedRow_any _).mono ?_; rintro e w1 ⟨B, rfl, hD, hb1⟩; have R1 := HR.out.below hb1 HR.out.lt; have z1 := HB.out.below hb1; have n1 := cell_keep HN.out hb1; have g1 := grownBy_below HG.out hb1; have hs1 := hb1.size; rw [HS0.out] at hs1)
        | (go_at_call 49; (with_reducible refine (HF.out _ _ hD R1 n1).mono ?_); rintro e w2 ⟨rfl, R2, hg2⟩; have z2 := z1.grown hg2 (fun e => by have := Option.some.inj e; omega); have n2 := cell_grownBy n1 hg2 (fun e => by have : b = w.heap.size := Option.some.inj e; omega); have g2 := grownBy_trans g1 hg2; have hs2 := hg2.size; have hlt1 : w.heap.size + 1 < w2.heap.size := (by omega); have hlt0 : w.heap.size < w2.heap.size := (by omega); have y2 := Bx3.new w2 (.int .i64 6) (.int .i64 0) (.string ⟨#[]⟩) 49)
        | (go_at_call 48; refine (HQ.out _ (R2.alloc _)).mono ?_; rintro e w3 ⟨rfl, R3, hg3⟩; have z3 := (z2.alloc _).grown hg3 (fun e => by have := Option.some.inj e; omega); have y3 := y2.grown hg3 (fun e => by have := Option.some.inj e; omega); have g3 := grownBy_trans (grownBy_new g2 _) hg3; have Z3 := Lib.hid z3; obtain ⟨zc0, zc1, zc2, zf0, zf1, zf2⟩ := z3; obtain ⟨yc0, yc1, yc2, yf0, yf1, yf2⟩ := y3))
      (try simp only [Exit.inBlock, Exit.then])
      refine bodyPost_ret (results_bx3a rfl _ _ _ rfl ((Z3.out.at0 (by omega) _).all _ _ _)) rfl ?_
      exact ⟨by rw [← HJ.out], (((R3.at0 (by omega) _).at0 (by omega) _).at0 (by omega) _).at0 (by omega) _, grownBy_at (grownBy_at (grownBy_at (grownBy_at g3 (by omega) _) (by omega) _) (by omega) _) (by omega) _⟩
    · rw [if_neg (by omega), if_neg (by omega), List.nil_append] at hRR
      obtain rfl := h5 hj5
      have hj3 : (j : Int) < 4 := by omega
      have hj0 : (0 : Int) ≤ (j : Int) := by omega
      subst hRR
      clear hl hlz h5 hj4 hj5 hj ht
      go_enter Tryz.func28, Tryz.ntmps28
      go_wp2_with (first
        | (go_at_call 50; refine (deedRow_any _).mono ?_; rintro e w1 ⟨B, rfl, hD, hb1⟩; have R1 := HR.out.below hb1 HR.out.lt; have z1 := HB.out.below hb1; have n1 := cell_keep HN.out hb1; have g1 := grownBy_below HG.out hb1; have hs1 := hb1.size; rw [HS0.out] at hs1)
        | (go_at_call 49; (with_reducible refine (HF.out _ _ hD R1 n1).mono ?_); rintro e w2 ⟨rfl, R2, hg2⟩; have z2 := z1.grown hg2 (fun e => by have := Option.some.inj e; omega); have g2 := grownBy_trans g1 hg2; have hs2 := hg2.size; have hlt1 : w.heap.size + 1 < w2.heap.size := (by omega); have hlt0 : w.heap.size < w2.heap.size := (by omega); have Z2 := Lib.hid z2; obtain ⟨zc0, zc1, zc2, zf0, zf1, zf2⟩ := z2))
      (try simp only [Exit.inBlock, Exit.then])
      refine bodyPost_ret (results_bx3a rfl _ _ _ rfl ((Z2.out.all _ _ _).alloc _)) rfl ?_
      exact ⟨by rw [Int.add_comm], (((R2.at0 (by omega) _).at0 (by omega) _).at0 (by omega) _).alloc _, grownBy_new (grownBy_at (grownBy_at (grownBy_at g2 (by omega) _) (by omega) _) (by omega) _) _⟩
end Go.Proofs.YtooilpblbkgloaaGreatDoor

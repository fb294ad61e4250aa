/- Are two frames alike, and where does the first alike one stand? -/
import Derived.Test.YtkenckolkpgebaaGreatDoorFrames
import Derived.Deep.RegionHeld3
import Derived.Test.YtkenckolkpgebaaGreatDoorAlignPlain
namespace Go.Proofs.YtkenckolkpgebaaGreatDoor
open Go.RowKit Go.Lib

theorem baq (a b : ByteArray) : (a.toList == b.toList) = decide (a = b) := by
  obtain ⟨⟨x⟩⟩ := a
  obtain ⟨⟨y⟩⟩ := b
  rw [Bool.eq_iff_iff]
  simp [ByteArray.toList_eq]

theorem below_drewN {B : Nat} {a w : World} (h : Below B a w) (n : Nat) : Below B a (w.drewN n) := ⟨h.os, h.tape, h.output, h.size, h.block⟩
theorem ba_iff (a b : ByteArray) : a.toList = b.toList ↔ a = b := by
  obtain ⟨⟨x⟩⟩ := a
  obtain ⟨⟨y⟩⟩ := b
  simp [ByteArray.toList_eq]

set_option maxHeartbeats 1000000 in
set_option maxRecDepth 100000 in
theorem alike_P (x y : Fr) (w : World) :
    Calls Tryz.prog 18 #[.agg #[.string x.m, .string x.f, .string x.i, .int .i64 x.line, .int .i64 x.addr, .bool x.own], .agg #[.string y.m, .string y.f, .string y.i, .int .i64 y.line, .int .i64 y.addr, .bool y.own]] w fun e w' => e = .returned (.bool (alk x y)) ∧ Below w.heap.size w w' := by
  go_enter Tryz.func18, Tryz.ntmps18
  go_wp2_with fail
  all_goals (go_ret; refine ⟨ret_bool ?_, ((Below.refl _ _).alloc (Nat.le_refl _) _).alloc (by simp) _⟩)
  all_goals (unfold alk; simp_all [baq, ba_iff])

theorem cell_keep {W W' : World} {p : Addr} {v : Value} (h : W.cell? p = some v) (hb : Below W.heap.size W W') : W'.cell? p = some v := (hb.cell (World.block_lt_of_cell? _ _ h)).trans h
theorem below_keep {B : Nat} {a W W' : World} (h : Below B a W) (hB : B ≤ a.heap.size) (hb : Below W.heap.size W W') : Below B a W' := h.trans (hb.mono (by have := h.size; omega))
def Fr.agg (x : Fr) : Value := .agg #[.string x.m, .string x.f, .string x.i, .int .i64 x.line, .int .i64 x.addr, .bool x.own]

set_option maxHeartbeats 2000000 in
set_option maxRecDepth 100000 in
theorem firstAlike_some (x : Fr) (b off cap : Nat) (l : List Fr) (j : Nat) (w : World) (hb : b < w.heap.size) (hl : l.length ≤ 200) (hc : FrsAt w b off l) (hj : j ≤ l.length) :
    Calls Tryz.prog 10 #[.agg #[.string x.m, .string x.f, .string x.i, .int .i64 x.line, .int .i64 x.addr, .bool x.own], .slice (some ⟨b, off, none⟩) l.length cap, .int .i64 j] w fun e w' => e = .returned (.int .i64 (fstA x l j)) ∧ Below w.heap.size w w' := by
  obtain ⟨xm, xf, xi, xl, xa, xo⟩ := x
  simp only
  go_enter Tryz.func10, Tryz.ntmps10
  go_wp2_with fail
  go_loopw [2] (fun v wr => ∃ k : Nat, k ≤ l.length ∧ fstA ⟨xm, xf, xi, xl, xa, xo⟩ l j = fstA ⟨xm, xf, xi, xl, xa, xo⟩ l k ∧ v = .int .i64 k ∧ wr.heap[w.heap.size]? = some (.cells #[.string xm, .string xf, .string xi, .int .i64 xl, .int .i64 xa, .bool xo] 32 (0, 0)) ∧ Below w.heap.size w wr) (fun v _ => l.length - (intOf v).toNat)
  case atStart =>
    refine ⟨j, hj, rfl, rfl, ?_, (Below.refl _ _).alloc (Nat.le_refl _) _⟩
    show (w.heap.push _)[w.heap.size]? = _
    exact Array.getElem?_push_size ..
  case round =>
    obtain ⟨k, hk, hz, rfl, hbox, hbw⟩ := hrel
    have HZ := Lib.hid hz
    clear hz
    have hbs : w.heap.size < wr.heap.size := (Array.getElem?_eq_some_iff.1 hbox).1
    have d0 : wr.cell? ⟨w.heap.size, 0, none⟩ = some (.string xm) := by simp [World.cell?, hbox]
    have d1 : wr.cell? ⟨w.heap.size, 1, none⟩ = some (.string xf) := by simp [World.cell?, hbox]
    have d2 : wr.cell? ⟨w.heap.size, 2, none⟩ = some (.string xi) := by simp [World.cell?, hbox]
    have d3 : wr.cell? ⟨w.heap.size, 3, none⟩ = some (.int .i64 xl) := by simp [World.cell?, hbox]
    have d4 : wr.cell? ⟨w.heap.size, 4, none⟩ = some (.int .i64 xa) := by simp [World.cell?, hbox]
    have d5 : wr.cell? ⟨w.heap.size, 5, none⟩ = some (.bool xo) := by simp [World.cell?, hbox]
    by_cases hlt : k < l.length
    · obtain ⟨c0, c1, c2, c3, c4, c5⟩ := (hc k hlt).below hb hbw
      have HH := Lib.hid (fun h => fstA_hit (x := ⟨xm, xf, xi, xl, xa, xo⟩) (b := l) hlt h)
      have HM := Lib.hid (fun h => fstA_miss (x := ⟨xm, xf, xi, xl, xa, xo⟩) (b := l) hlt h)
      generalize l[k] = y at *
      have hd : decide ((k : Int) < l.length) = true := by simp; omega
      have hr : Below wr.heap.size wr wr := Below.refl _ _
      rcases ha : alk ⟨xm, xf, xi, xl, xa, xo⟩ y with _ | _
      · have HA := Lib.hid (fun W => alike_P ⟨xm, xf, xi, xl, xa, xo⟩ y W)
        rw [ha] at HA
        have HF := Lib.hid ha
        clear ha
        go_wp2_with fail
        go_region_held3 (fun w' => w'.cell? ⟨w.heap.size, 0, none⟩ = some (.string xm) ∧ w'.cell? ⟨w.heap.size, 1, none⟩ = some (.string xf) ∧ w'.cell? ⟨w.heap.size, 2, none⟩ = some (.string xi) ∧ w'.cell? ⟨w.heap.size, 3, none⟩ = some (.int .i64 xl) ∧ w'.cell? ⟨w.heap.size, 4, none⟩ = some (.int .i64 xa) ∧ w'.cell? ⟨w.heap.size, 5, none⟩ = some (.bool xo) ∧
            w'.cell? ⟨b, off + k * 6, none⟩ = some (.string y.m) ∧ w'.cell? ⟨b, off + k * 6 + 1, none⟩ = some (.string y.f) ∧ w'.cell? ⟨b, off + k * 6 + 2, none⟩ = some (.string y.i) ∧ w'.cell? ⟨b, off + k * 6 + 3, none⟩ = some (.int .i64 y.line) ∧ w'.cell? ⟨b, off + k * 6 + 4, none⟩ = some (.int .i64 y.addr) ∧ w'.cell? ⟨b, off + k * 6 + 5, none⟩ = some (.bool y.own) ∧ Below wr.heap.size wr w')
          ((repeat' apply And.intro) <;> first | assumption | exact Below.drew (by assumption) | exact cell_keep (by assumption) hbX | exact below_keep (by first | assumption | exact Below.drew (by assumption)) (Nat.le_refl _) hbX)
          (first | (go_at_call 18; refine (HA.out _).mono ?_; rintro e w' ⟨rfl, hbX⟩))
        go_wp2_with fail
        have hB : Below wr.heap.size wr w' := (Below.refl _ wr).drew.trans hbX
        exact ⟨⟨k + 1, by omega, HZ.out.trans (HM.out HF.out), by go_num, (hB.block _ hbs).trans hbox, hbw.trans (hB.mono hbw.size)⟩, by simp [intOf]; omega⟩
      · have HA := Lib.hid (fun W => alike_P ⟨xm, xf, xi, xl, xa, xo⟩ y W)
        rw [ha] at HA
        have HF := Lib.hid ha
        clear ha
        go_wp2_with fail
        go_region_held3 (fun w' => w'.cell? ⟨w.heap.size, 0, none⟩ = some (.string xm) ∧ w'.cell? ⟨w.heap.size, 1, none⟩ = some (.string xf) ∧ w'.cell? ⟨w.heap.size, 2, none⟩ = some (.string xi) ∧ w'.cell? ⟨w.heap.size, 3, none⟩ = some (.int .i64 xl) ∧ w'.cell? ⟨w.heap.size, 4, none⟩ = some (.int .i64 xa) ∧ w'.cell? ⟨w.heap.size, 5, none⟩ = some (.bool xo) ∧
            w'.cell? ⟨b, off + k * 6, none⟩ = some (.string y.m) ∧ w'.cell? ⟨b, off + k * 6 + 1, none⟩ = some (.string y.f) ∧ w'.cell? ⟨b, off + k * 6 + 2, none⟩ = some (.string y.i) ∧ w'.cell? ⟨b, off + k * 6 + 3, none⟩ = some (.int .i64 y.line) ∧ w'.cell? ⟨b, off + k * 6 + 4, none⟩ = some (.int .i64 y.addr) ∧ w'.cell? ⟨b, off + k * 6 + 5, none⟩ = some (.bool y.own) ∧ Below wr.heap.size wr w')
          ((repeat' apply And.intro) <;> first | assumption | exact Below.drew (by assumption) | exact cell_keep (by assumption) hbX | exact below_keep (by first | assumption | exact Below.drew (by assumption)) (Nat.le_refl _) hbX)
          (first | (go_at_call 18; refine (HA.out _).mono ?_; rintro e w' ⟨rfl, hbX⟩))
        go_wp2_with fail
        have hB : Below wr.heap.size wr w' := (Below.refl _ wr).drew.trans hbX
        go_ret
        exact ⟨ret_int (by rw [HZ.out, HH.out HF.out]), hbw.trans (hB.mono hbw.size)⟩

    · have hd : decide ((k : Int) < l.length) = false := by simp; omega
      have hkl : k = l.length := by omega
      go_wp2_with fail
      go_quiet (fail)
      go_wp2_with fail
      go_ret
      exact ⟨ret_int (by rw [HZ.out, fstA_end (by omega)]; omega), below_drewN hbw _⟩

theorem firstAlike_any (x : Fr) (v : Value) (l : List Fr) (j : Nat) (w : World) (hv : SlF w v l) (hl : l.length ≤ 200) (hj : j ≤ l.length) (h0 : l ≠ []) :
    Calls Tryz.prog 10 #[.agg #[.string x.m, .string x.f, .string x.i, .int .i64 x.line, .int .i64 x.addr, .bool x.own], v, .int .i64 j] w fun e w' => e = .returned (.int .i64 (fstA x l j)) ∧ Below w.heap.size w w' := by
  obtain ⟨p, cap, rfl, h1, h2, h3, h4⟩ := hv
  rcases h4 with rfl | ⟨b, off, rfl, hb, hc⟩
  · exact absurd rfl h0
  · exact firstAlike_some x b off cap l j w hb hl hc hj
end Go.Proofs.YtkenckolkpgebaaGreatDoor

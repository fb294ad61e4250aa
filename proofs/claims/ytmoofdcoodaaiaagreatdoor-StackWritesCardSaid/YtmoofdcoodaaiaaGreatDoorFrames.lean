/- What the checks of rows of frames answer. -/
import Derived.Test.YtmoofdcoodaaiaaGreatDoorFrameA
namespace Go.Proofs.YtmoofdcoodaaiaaGreatDoor
open Go.RowKit

theorem checkFrame_v (x : Fr) (w : World) (h : x.fit) :
    Calls Tryz.prog 72 #[.agg #[.string x.m, .string x.f, .string x.i, .int .i64 x.line, .int .i64 x.addr, .bool x.own]] w fun e w' => e = .returned (.int .i64 (frErr x)) ∧ Below w.heap.size w w' :=
  checkFrame_any x w h.1 h.2.1 h.2.2
theorem frameError_v (x : Fr) (w : World) (h : x.fit) :
    Calls Tryz.prog 68 #[.agg #[.string x.m, .string x.f, .string x.i, .int .i64 x.line, .int .i64 x.addr, .bool x.own]] w fun e w' => e = .returned (.int .i64 (frErr x)) ∧ Below w.heap.size w w' :=
  frameError_any x w h.1 h.2.1 h.2.2

set_option maxHeartbeats 1000000 in
set_option maxRecDepth 100000 in
theorem checkFrames_some (b off cap : Nat) (l : List Fr) (w : World) (hb : b < w.heap.size) (h2 : l.length ≤ 200)
    (hcell : FrsAt w b off l) (hfit : ∀ x ∈ l, x.fit) :
    Calls Tryz.prog 48 #[.slice (some ⟨b, off, none⟩) l.length cap] w fun e w' => e = .returned (.int .i64 (frsErr1 l)) ∧ Below w.heap.size w w' := by
  have hd : decide (200 < (l.length : Int)) = false := by simp; omega
  go_enter Tryz.func48, Tryz.ntmps48
  go_wp2_with fail
  go_loopw [11] (fun v wr => ∃ k : Nat, k ≤ l.length ∧ (∀ x ∈ l.take k, frErr x = 0) ∧ v = .int .i64 k ∧ Below w.heap.size w wr) (fun v _ => l.length - (intOf v).toNat)
  case atStart => exact ⟨0, Nat.zero_le _, by simp, rfl, Below.refl _ _⟩
  case round =>
    obtain ⟨k, hk, hz, rfl, hbw⟩ := hrel
    have HZ := Lib.hid hz
    clear hz
    by_cases hlt : k < l.length
    · obtain ⟨c0, c1, c2, c3, c4, c5⟩ := (hcell k hlt).below hb hbw
      have hx := hfit l[k] (List.getElem_mem hlt)
      have HA := Lib.hid (allz_succ hlt HZ.out)
      have HN := Lib.hid (frsErr1_at hlt HZ.out)
      generalize l[k] = x at *
      go_wp2_with (go_at_call 72; refine (checkFrame_v x _ hx).mono ?_; rintro e w' ⟨rfl, hb1⟩)
      case roundEnd =>
        exact ⟨⟨k + 1, by omega, HA.out (by simpa using ‹(frErr x != 0) = false›), by go_num, below_a1 hbw hbw.size hb1⟩, by simp [intOf]; omega⟩
      go_ret
      exact ⟨ret_int (HN.out (by simpa using ‹(frErr x != 0) = true›)).symm, below_a1 hbw hbw.size hb1⟩
    · go_wp2_with fail
      go_ret
      exact ⟨ret_int (frsErr1_take (by omega) HZ.out).symm, hbw⟩

theorem checkFrames_none (p : Option Addr) (cap : Nat) (w : World) :
    Calls Tryz.prog 48 #[.slice p 0 cap] w fun e w' => e = .returned (.int .i64 0) ∧ Below w.heap.size w w' := by
  go_enter Tryz.func48, Tryz.ntmps48
  go_wp2_with fail
  go_loop [11] (fun v => v = .int .i64 0) (fun _ => 0)
  case atStart => rfl
  case round =>
    subst hrel
    go_wp2_with fail
    go_ret
    exact ⟨rfl, Below.refl _ _⟩

theorem checkFrames_large (p : Option Addr) (n cap : Nat) (w : World) (h : 200 < n) :
    Calls Tryz.prog 48 #[.slice p n cap] w fun e w' => e = .returned (.int .i64 4) ∧ Below w.heap.size w w' := by
  go_enter Tryz.func48, Tryz.ntmps48
  go_wp2_with fail
  go_ret
  exact ⟨rfl, Below.refl _ _⟩

theorem checkFrames_any (v : Value) (l : List Fr) (w : World) (hv : SlF w v l) :
    Calls Tryz.prog 48 #[v] w fun e w' => e = .returned (.int .i64 (frsErr l)) ∧ Below w.heap.size w w' := by
  obtain ⟨p, cap, rfl, h1, h2, h3, h4⟩ := hv
  by_cases hl : 200 < l.length
  · rw [frsErr_large hl]; exact checkFrames_large p _ cap w hl
  · rw [frsErr_small (by omega)]
    rcases h4 with rfl | ⟨b, off, rfl, hb, hc⟩
    · exact checkFrames_none p cap w
    · exact checkFrames_some b off cap l w hb (by omega) hc h3

set_option maxHeartbeats 1000000 in
set_option maxRecDepth 100000 in
theorem framesError_some (b off cap : Nat) (l : List Fr) (w : World) (hb : b < w.heap.size) (h2 : l.length ≤ 200)
    (hcell : FrsAt w b off l) (hfit : ∀ x ∈ l, x.fit) :
    Calls Tryz.prog 40 #[.slice (some ⟨b, off, none⟩) l.length cap] w fun e w' => e = .returned (.int .i64 (frsErr1 l)) ∧ Below w.heap.size w w' := by
  have hd : decide (200 < (l.length : Int)) = false := by simp; omega
  go_enter Tryz.func40, Tryz.ntmps40
  go_wp2_with fail
  go_loopw [11] (fun v wr => ∃ k : Nat, k ≤ l.length ∧ (∀ x ∈ l.take k, frErr x = 0) ∧ v = .int .i64 k ∧ Below w.heap.size w wr) (fun v _ => l.length - (intOf v).toNat)
  case atStart => exact ⟨0, Nat.zero_le _, by simp, rfl, Below.refl _ _⟩
  case round =>
    obtain ⟨k, hk, hz, rfl, hbw⟩ := hrel
    have HZ := Lib.hid hz
    clear hz
    by_cases hlt : k < l.length
    · obtain ⟨c0, c1, c2, c3, c4, c5⟩ := (hcell k hlt).below hb hbw
      have hx := hfit l[k] (List.getElem_mem hlt)
      have HA := Lib.hid (allz_succ hlt HZ.out)
      have HN := Lib.hid (frsErr1_at hlt HZ.out)
      generalize l[k] = x at *
      go_wp2_with (go_at_call 68; refine (frameError_v x _ hx).mono ?_; rintro e w' ⟨rfl, hb1⟩)
      case roundEnd =>
        exact ⟨⟨k + 1, by omega, HA.out (by simpa using ‹(frErr x != 0) = false›), by go_num, below_a1 hbw hbw.size hb1⟩, by simp [intOf]; omega⟩
      go_ret
      exact ⟨ret_int (HN.out (by simpa using ‹(frErr x != 0) = true›)).symm, below_a1 hbw hbw.size hb1⟩
    · go_wp2_with fail
      go_ret
      exact ⟨ret_int (frsErr1_take (by omega) HZ.out).symm, hbw⟩

theorem framesError_none (p : Option Addr) (cap : Nat) (w : World) :
    Calls Tryz.prog 40 #[.slice p 0 cap] w fun e w' => e = .returned (.int .i64 0) ∧ Below w.heap.size w w' := by
  go_enter Tryz.func40, Tryz.ntmps40
  go_wp2_with fail
  go_loop [11] (fun v => v = .int .i64 0) (fun _ => 0)
  case atStart => rfl
  case round =>
    subst hrel
    go_wp2_with fail
    go_ret
    exact ⟨rfl, Below.refl _ _⟩

theorem framesError_large (p : Option Addr) (n cap : Nat) (w : World) (h : 200 < n) :
    Calls Tryz.prog 40 #[.slice p n cap] w fun e w' => e = .returned (.int .i64 4) ∧ Below w.heap.size w w' := by
  go_enter Tryz.func40, Tryz.ntmps40
  go_wp2_with fail
  go_ret
  exact ⟨rfl, Below.refl _ _⟩

theorem framesError_any (v : Value) (l : List Fr) (w : World) (hv : SlF w v l) :
    Calls Tryz.prog 40 #[v] w fun e w' => e = .returned (.int .i64 (frsErr l)) ∧ Below w.heap.size w w' := by
  obtain ⟨p, cap, rfl, h1, h2, h3, h4⟩ := hv
  by_cases hl : 200 < l.length
  · rw [frsErr_large hl]; exact framesError_large p _ cap w hl
  · rw [frsErr_small (by omega)]
    rcases h4 with rfl | ⟨b, off, rfl, hb, hc⟩
    · exact framesError_none p cap w
    · exact framesError_some b off cap l w hb (by omega) hc h3

end Go.Proofs.YtmoofdcoodaaiaaGreatDoor

/- The checks of a table's lists: empty lists, lists that are too long, and all of them together. -/
import Derived.Test.YtcdaalnjanncmaaDoorSymM
import Derived.Test.YtcdaalnjanncmaaDoorSymO
import Derived.Test.YtcdaalnjanncmaaDoorModB
namespace Go.Proofs.YtcdaalnjanncmaaDoor
open Go.RowKit Go.Deep

set_option maxHeartbeats 1000000 in
set_option maxRecDepth 100000 in
theorem checkFiles_large (id : ByteArray) (size : Int) (p1 p2 p3 p4 : Option Addr) (n1 n2 n3 n4 c1 c2 c3 c4 : Nat) (w : World) (h : 200 < n1) :
    Calls Tryd.prog 62 #[.agg #[.string id, .int .i64 size, .slice p1 n1 c1, .slice p2 n2 c2, .slice p3 n3 c3, .slice p4 n4 c4]] w fun e w' => e = .returned (.int .i64 4) ∧ Below w.heap.size w w' := by
  have hd : decide (200 < (n1 : Int)) = true := decide_eq_true (by omega)
  clear h
  go_enter Tryd.func62, Tryd.ntmps62
  go_wp2_with fail
  go_ret
  exact ⟨rfl, (Below.refl _ _).alloc (Nat.le_refl _) _⟩

set_option maxHeartbeats 1000000 in
set_option maxRecDepth 100000 in
theorem checkFiles_zero (id : ByteArray) (size : Int) (p1 p2 p3 p4 : Option Addr) (_n1 n2 n3 n4 c1 c2 c3 c4 : Nat) (w : World) :
    Calls Tryd.prog 62 #[.agg #[.string id, .int .i64 size, .slice p1 0 c1, .slice p2 n2 c2, .slice p3 n3 c3, .slice p4 n4 c4]] w fun e w' => e = .returned (.int .i64 0) ∧ Below w.heap.size w w' := by
  go_enter Tryd.func62, Tryd.ntmps62
  go_wp2_with fail
  go_loop [13] (fun v => v = .int .i64 0) (fun _ => 0)
  case atStart => rfl
  case round =>
    subst hrel
    go_wp2_with fail
    go_ret
    exact ⟨rfl, (Below.refl _ _).alloc (Nat.le_refl _) _⟩

set_option maxHeartbeats 1000000 in
set_option maxRecDepth 100000 in
theorem checkFuncs_large (id : ByteArray) (size : Int) (p1 p2 p3 p4 : Option Addr) (n1 n2 n3 n4 c1 c2 c3 c4 : Nat) (w : World) (h : 1000 < n2) :
    Calls Tryd.prog 63 #[.agg #[.string id, .int .i64 size, .slice p1 n1 c1, .slice p2 n2 c2, .slice p3 n3 c3, .slice p4 n4 c4]] w fun e w' => e = .returned (.int .i64 4) ∧ Below w.heap.size w w' := by
  have hd : decide (1000 < (n2 : Int)) = true := decide_eq_true (by omega)
  clear h
  go_enter Tryd.func63, Tryd.ntmps63
  go_wp2_with fail
  go_ret
  exact ⟨rfl, (Below.refl _ _).alloc (Nat.le_refl _) _⟩

set_option maxHeartbeats 1000000 in
set_option maxRecDepth 100000 in
theorem checkFuncs_zero (id : ByteArray) (size : Int) (p1 p2 p3 p4 : Option Addr) (n1 _n2 n3 n4 c1 c2 c3 c4 : Nat) (w : World) :
    Calls Tryd.prog 63 #[.agg #[.string id, .int .i64 size, .slice p1 n1 c1, .slice p2 0 c2, .slice p3 n3 c3, .slice p4 n4 c4]] w fun e w' => e = .returned (.int .i64 0) ∧ Below w.heap.size w w' := by
  go_enter Tryd.func63, Tryd.ntmps63
  go_wp2_with fail
  go_loop [3, 14] (fun _ v => v = .int .i64 0) (fun _ _ => 0)
  case atStart => rfl
  case round =>
    subst hrel
    go_wp2_with fail
    go_ret
    exact ⟨rfl, (Below.refl _ _).alloc (Nat.le_refl _) _⟩

set_option maxHeartbeats 1000000 in
set_option maxRecDepth 100000 in
theorem checkRows_large (id : ByteArray) (size : Int) (p1 p2 p3 p4 : Option Addr) (n1 n2 n3 n4 c1 c2 c3 c4 : Nat) (w : World) (h : 5000 < n3) :
    Calls Tryd.prog 64 #[.agg #[.string id, .int .i64 size, .slice p1 n1 c1, .slice p2 n2 c2, .slice p3 n3 c3, .slice p4 n4 c4]] w fun e w' => e = .returned (.int .i64 4) ∧ Below w.heap.size w w' := by
  have hd : decide (5000 < (n3 : Int)) = true := decide_eq_true (by omega)
  clear h
  go_enter Tryd.func64, Tryd.ntmps64
  go_wp2_with fail
  go_ret
  exact ⟨rfl, (Below.refl _ _).alloc (Nat.le_refl _) _⟩

set_option maxHeartbeats 1000000 in
set_option maxRecDepth 100000 in
theorem checkRows_zero (id : ByteArray) (size : Int) (p1 p2 p3 p4 : Option Addr) (n1 n2 _n3 n4 c1 c2 c3 c4 : Nat) (w : World) :
    Calls Tryd.prog 64 #[.agg #[.string id, .int .i64 size, .slice p1 n1 c1, .slice p2 n2 c2, .slice p3 0 c3, .slice p4 n4 c4]] w fun e w' => e = .returned (.int .i64 0) ∧ Below w.heap.size w w' := by
  go_enter Tryd.func64, Tryd.ntmps64
  go_wp2_with fail
  go_loop [3, 13] (fun _ v => v = .int .i64 0) (fun _ _ => 0)
  case atStart => rfl
  case round =>
    subst hrel
    go_wp2_with fail
    go_ret
    exact ⟨rfl, (Below.refl _ _).alloc (Nat.le_refl _) _⟩

set_option maxHeartbeats 1000000 in
set_option maxRecDepth 100000 in
theorem checkCalls_large (id : ByteArray) (size : Int) (p1 p2 p3 p4 : Option Addr) (n1 n2 n3 n4 c1 c2 c3 c4 : Nat) (w : World) (h : 1000 < n4) :
    Calls Tryd.prog 65 #[.agg #[.string id, .int .i64 size, .slice p1 n1 c1, .slice p2 n2 c2, .slice p3 n3 c3, .slice p4 n4 c4]] w fun e w' => e = .returned (.int .i64 4) ∧ Below w.heap.size w w' := by
  have hd : decide (1000 < (n4 : Int)) = true := decide_eq_true (by omega)
  clear h
  go_enter Tryd.func65, Tryd.ntmps65
  go_wp2_with fail
  go_ret
  exact ⟨rfl, (Below.refl _ _).alloc (Nat.le_refl _) _⟩

set_option maxHeartbeats 1000000 in
set_option maxRecDepth 100000 in
theorem checkCalls_zero (id : ByteArray) (size : Int) (p1 p2 p3 p4 : Option Addr) (n1 n2 n3 _n4 c1 c2 c3 c4 : Nat) (w : World) :
    Calls Tryd.prog 65 #[.agg #[.string id, .int .i64 size, .slice p1 n1 c1, .slice p2 n2 c2, .slice p3 n3 c3, .slice p4 0 c4]] w fun e w' => e = .returned (.int .i64 0) ∧ Below w.heap.size w w' := by
  go_enter Tryd.func65, Tryd.ntmps65
  go_wp2_with fail
  go_loop [3, 14] (fun _ v => v = .int .i64 0) (fun _ _ => 0)
  case atStart => rfl
  case round =>
    subst hrel
    go_wp2_with fail
    go_ret
    exact ⟨rfl, (Below.refl _ _).alloc (Nat.le_refl _) _⟩

set_option maxHeartbeats 1000000 in
set_option maxRecDepth 100000 in
theorem funcsFault_large (id : ByteArray) (size : Int) (p1 p2 p3 p4 : Option Addr) (n1 n2 n3 n4 c1 c2 c3 c4 : Nat) (w : World) (h : 1000 < n2) :
    Calls Tryd.prog 51 #[.agg #[.string id, .int .i64 size, .slice p1 n1 c1, .slice p2 n2 c2, .slice p3 n3 c3, .slice p4 n4 c4]] w fun e w' => e = .returned (.int .i64 4) ∧ Below w.heap.size w w' := by
  have hd : decide (1000 < (n2 : Int)) = true := decide_eq_true (by omega)
  clear h
  go_enter Tryd.func51, Tryd.ntmps51
  go_wp2_with fail
  go_ret
  exact ⟨rfl, (Below.refl _ _).alloc (Nat.le_refl _) _⟩

set_option maxHeartbeats 1000000 in
set_option maxRecDepth 100000 in
theorem funcsFault_zero (id : ByteArray) (size : Int) (p1 p2 p3 p4 : Option Addr) (n1 _n2 n3 n4 c1 c2 c3 c4 : Nat) (w : World) :
    Calls Tryd.prog 51 #[.agg #[.string id, .int .i64 size, .slice p1 n1 c1, .slice p2 0 c2, .slice p3 n3 c3, .slice p4 n4 c4]] w fun e w' => e = .returned (.int .i64 0) ∧ Below w.heap.size w w' := by
  go_enter Tryd.func51, Tryd.ntmps51
  go_wp2_with fail
  go_loop [14] (fun v => v = .int .i64 0) (fun _ => 0)
  case atStart => rfl
  case round =>
    subst hrel
    go_wp2_with fail
    go_ret
    exact ⟨rfl, (Below.refl _ _).alloc (Nat.le_refl _) _⟩

set_option maxHeartbeats 1000000 in
set_option maxRecDepth 100000 in
theorem rowsFault_large (id : ByteArray) (size : Int) (p1 p2 p3 p4 : Option Addr) (n1 n2 n3 n4 c1 c2 c3 c4 : Nat) (w : World) (h : 5000 < n3) :
    Calls Tryd.prog 52 #[.agg #[.string id, .int .i64 size, .slice p1 n1 c1, .slice p2 n2 c2, .slice p3 n3 c3, .slice p4 n4 c4]] w fun e w' => e = .returned (.int .i64 4) ∧ Below w.heap.size w w' := by
  have hd : decide (5000 < (n3 : Int)) = true := decide_eq_true (by omega)
  clear h
  go_enter Tryd.func52, Tryd.ntmps52
  go_wp2_with fail
  go_ret
  exact ⟨rfl, (Below.refl _ _).alloc (Nat.le_refl _) _⟩

set_option maxHeartbeats 1000000 in
set_option maxRecDepth 100000 in
theorem rowsFault_zero (id : ByteArray) (size : Int) (p1 p2 p3 p4 : Option Addr) (n1 n2 _n3 n4 c1 c2 c3 c4 : Nat) (w : World) :
    Calls Tryd.prog 52 #[.agg #[.string id, .int .i64 size, .slice p1 n1 c1, .slice p2 n2 c2, .slice p3 0 c3, .slice p4 n4 c4]] w fun e w' => e = .returned (.int .i64 0) ∧ Below w.heap.size w w' := by
  go_enter Tryd.func52, Tryd.ntmps52
  go_wp2_with fail
  go_loop [12] (fun v => v = .int .i64 0) (fun _ => 0)
  case atStart => rfl
  case round =>
    subst hrel
    go_wp2_with fail
    go_ret
    exact ⟨rfl, (Below.refl _ _).alloc (Nat.le_refl _) _⟩

set_option maxHeartbeats 1000000 in
set_option maxRecDepth 100000 in
theorem callsFault_large (id : ByteArray) (size : Int) (p1 p2 p3 p4 : Option Addr) (n1 n2 n3 n4 c1 c2 c3 c4 : Nat) (w : World) (h : 1000 < n4) :
    Calls Tryd.prog 53 #[.agg #[.string id, .int .i64 size, .slice p1 n1 c1, .slice p2 n2 c2, .slice p3 n3 c3, .slice p4 n4 c4]] w fun e w' => e = .returned (.int .i64 4) ∧ Below w.heap.size w w' := by
  have hd : decide (1000 < (n4 : Int)) = true := decide_eq_true (by omega)
  clear h
  go_enter Tryd.func53, Tryd.ntmps53
  go_wp2_with fail
  go_ret
  exact ⟨rfl, (Below.refl _ _).alloc (Nat.le_refl _) _⟩

set_option maxHeartbeats 1000000 in
set_option maxRecDepth 100000 in
theorem callsFault_zero (id : ByteArray) (size : Int) (p1 p2 p3 p4 : Option Addr) (n1 n2 n3 _n4 c1 c2 c3 c4 : Nat) (w : World) :
    Calls Tryd.prog 53 #[.agg #[.string id, .int .i64 size, .slice p1 n1 c1, .slice p2 n2 c2, .slice p3 n3 c3, .slice p4 0 c4]] w fun e w' => e = .returned (.int .i64 0) ∧ Below w.heap.size w w' := by
  go_enter Tryd.func53, Tryd.ntmps53
  go_wp2_with fail
  go_loop [19] (fun v => v = .int .i64 0) (fun _ => 0)
  case atStart => rfl
  case round =>
    subst hrel
    go_wp2_with fail
    go_ret
    exact ⟨rfl, (Below.refl _ _).alloc (Nat.le_refl _) _⟩

set_option maxHeartbeats 1000000 in
set_option maxRecDepth 100000 in
theorem funcAt_zero (id : ByteArray) (size : Int) (p1 p2 p3 p4 : Option Addr) (n1 _n2 n3 n4 c1 c2 c3 c4 : Nat) (w : World) (p : Int) :
    Calls Tryd.prog 16 #[.agg #[.string id, .int .i64 size, .slice p1 n1 c1, .slice p2 0 c2, .slice p3 n3 c3, .slice p4 n4 c4], .int .i64 p] w fun e w' => e = .returned (.tuple #[.int .i64 0, .bool false]) ∧ Below w.heap.size w w' := by
  go_enter Tryd.func16, Tryd.ntmps16
  go_wp2_with fail
  go_loop [11] (fun v => v = .int .i64 0) (fun _ => 0)
  case atStart => rfl
  case round =>
    subst hrel
    go_wp2_with fail
    go_ret2
    exact ⟨rfl, (Below.refl _ _).alloc (Nat.le_refl _) _⟩

set_option maxHeartbeats 1000000 in
set_option maxRecDepth 100000 in
theorem funcOf_zero (id : ByteArray) (size : Int) (p1 p2 p3 p4 : Option Addr) (n1 _n2 n3 n4 c1 c2 c3 c4 : Nat) (w : World) (p : Int) :
    Calls Tryd.prog 58 #[.agg #[.string id, .int .i64 size, .slice p1 n1 c1, .slice p2 0 c2, .slice p3 n3 c3, .slice p4 n4 c4], .int .i64 p] w fun e w' => e = .returned (.tuple #[.int .i64 0, .bool false]) ∧ Below w.heap.size w w' := by
  go_enter Tryd.func58, Tryd.ntmps58
  go_wp2_with fail
  go_loop [11] (fun v => v = .int .i64 0) (fun _ => 0)
  case atStart => rfl
  case round =>
    subst hrel
    go_wp2_with fail
    go_ret2
    exact ⟨rfl, (Below.refl _ _).alloc (Nat.le_refl _) _⟩

set_option maxHeartbeats 1000000 in
set_option maxRecDepth 100000 in
theorem moduleAt_zero (q : Option Addr) (c : Nat) (p : Int) (w : World) :
    Calls Tryd.prog 29 #[.slice q 0 c, .int .i64 p] w fun e w' => e = .returned (.tuple #[.int .i64 0, .bool false]) ∧ Below w.heap.size w w' := by
  go_enter Tryd.func29, Tryd.ntmps29
  go_wp2_with fail
  go_loop [10] (fun v => v = .int .i64 0) (fun _ => 0)
  case atStart => rfl
  case round =>
    subst hrel
    go_wp2_with fail
    go_ret2
    exact ⟨rfl, Below.refl _ _⟩

set_option maxHeartbeats 1000000 in
set_option maxRecDepth 100000 in
theorem moduleOf_zero (q : Option Addr) (c : Nat) (p : Int) (w : World) :
    Calls Tryd.prog 31 #[.slice q 0 c, .int .i64 p] w fun e w' => e = .returned (.tuple #[.int .i64 0, .bool false]) ∧ Below w.heap.size w w' := by
  go_enter Tryd.func31, Tryd.ntmps31
  go_wp2_with fail
  go_loop [10] (fun v => v = .int .i64 0) (fun _ => 0)
  case atStart => rfl
  case round =>
    subst hrel
    go_wp2_with fail
    go_ret2
    exact ⟨rfl, Below.refl _ _⟩

set_option maxHeartbeats 1000000 in
set_option maxRecDepth 100000 in
theorem checkModules_large (q : Option Addr) (n c : Nat) (w : World) (h : 100 < n) :
    Calls Tryd.prog 56 #[.slice q n c] w fun e w' => e = .returned (.int .i64 4) ∧ Below w.heap.size w w' := by
  have hd : decide (100 < (n : Int)) = true := decide_eq_true (by omega)
  clear h
  go_enter Tryd.func56, Tryd.ntmps56
  go_wp2_with fail
  go_ret
  exact ⟨rfl, Below.refl _ _⟩

set_option maxHeartbeats 1000000 in
set_option maxRecDepth 100000 in
theorem checkModules_zero (q : Option Addr) (c : Nat) (w : World) :
    Calls Tryd.prog 56 #[.slice q 0 c] w fun e w' => e = .returned (.int .i64 0) ∧ Below w.heap.size w w' := by
  go_enter Tryd.func56, Tryd.ntmps56
  go_wp2_with fail
  go_loop [3, 12] (fun _ v => v = .int .i64 0) (fun _ _ => 0)
  case atStart => rfl
  case round =>
    subst hrel
    go_wp2_with fail
    go_ret
    exact ⟨rfl, Below.refl _ _⟩

set_option maxHeartbeats 1000000 in
set_option maxRecDepth 100000 in
theorem modulesFault_large (q : Option Addr) (n c : Nat) (w : World) (h : 100 < n) :
    Calls Tryd.prog 24 #[.slice q n c] w fun e w' => e = .returned (.int .i64 4) ∧ Below w.heap.size w w' := by
  have hd : decide (100 < (n : Int)) = true := decide_eq_true (by omega)
  clear h
  go_enter Tryd.func24, Tryd.ntmps24
  go_wp2_with fail
  go_ret
  exact ⟨rfl, Below.refl _ _⟩

set_option maxHeartbeats 1000000 in
set_option maxRecDepth 100000 in
theorem modulesFault_zero (q : Option Addr) (c : Nat) (w : World) :
    Calls Tryd.prog 24 #[.slice q 0 c] w fun e w' => e = .returned (.int .i64 0) ∧ Below w.heap.size w w' := by
  go_enter Tryd.func24, Tryd.ntmps24
  go_wp2_with fail
  go_loop [11] (fun v => v = .int .i64 0) (fun _ => 0)
  case atStart => rfl
  case round =>
    subst hrel
    go_wp2_with fail
    go_ret
    exact ⟨rfl, Below.refl _ _⟩

set_option maxHeartbeats 1000000 in
set_option maxRecDepth 100000 in
theorem inFunc_zero (id : ByteArray) (size : Int) (p1 p2 p3 p4 : Option Addr) (n1 _n2 n3 n4 c1 c2 c3 c4 : Nat) (w : World) (c : Cl) :
    Calls Tryd.prog 90 #[.agg #[.string id, .int .i64 size, .slice p1 n1 c1, .slice p2 0 c2, .slice p3 n3 c3, .slice p4 n4 c4], .agg #[.string c.n, .int .i64 c.a, .int .i64 c.b, .int .i64 c.f, .int .i64 c.l]] w fun e w' => e = .returned (.bool false) ∧ Below w.heap.size w w' := by
  obtain ⟨cn, ca, cb, cf, cl⟩ := c
  simp only
  have HAT := Lib.hid (fun W => funcAt_zero id size p1 p2 p3 p4 n1 0 n3 n4 c1 c2 c3 c4 W ca)
  have hA : Below w.heap.size w ((w.alloc (.cells #[.string id, .int .i64 size, .slice p1 n1 c1, .slice p2 0 c2, .slice p3 n3 c3, .slice p4 n4 c4] 42)).alloc (.cells #[.string cn, .int .i64 ca, .int .i64 cb, .int .i64 cf, .int .i64 cl] 84)) := ((Below.refl _ _).alloc (Nat.le_refl _) _).alloc (by simp) _
  go_enter Tryd.func90, Tryd.ntmps90
  go_wp2_with (go_at_call 16; refine (HAT.out _).mono ?_; rintro e w1 ⟨rfl, hb1⟩)
  go_quiet (fail)
  go_wp2_with fail
  go_ret
  exact ⟨rfl, (hA.trans (hb1.mono hA.size)).trans ⟨rfl, rfl, rfl, Nat.le_refl _, fun _ _ => rfl⟩⟩

theorem files_len {t : Tb} (h : eFiles t = 0) : t.files.length ≤ 200 := by
  unfold eFiles at h
  split at h
  · omega
  · omega
theorem funcs_pw {t : Tb} (h : eFuncs t = 0) : t.funcs.Pairwise (fun f g => f.b ≤ g.a) := by
  unfold eFuncs at h
  split at h
  · omega
  · exact (fncs_ok h).2

theorem checkFiles_any (v : Value) (t : Tb) (w : World) (hv : TbV w v t) :
    Calls Tryd.prog 62 #[v] w fun e w' => e = .returned (.int .i64 (eFiles t)) ∧ Below w.heap.size w w' := by
  obtain ⟨v1, v2, v3, v4, rfl, hid, hsz, ⟨p1, c1, rfl, l1, m1, f1, o1⟩, ⟨p2, c2, rfl, l2, m2, f2, o2⟩, ⟨p3, c3, rfl, l3, m3, f3, o3⟩, ⟨p4, c4, rfl, l4, m4, f4, o4⟩⟩ := hv
  unfold eFiles
  by_cases hL : 200 < t.files.length
  · rw [if_pos hL]
    exact checkFiles_large t.id t.size p1 p2 p3 p4 t.files.length t.funcs.length t.rows.length t.calls.length c1 c2 c3 c4 w hL
  · rw [if_neg hL]
    rcases o1 with h0 | ⟨b, off, rfl, hb, hc⟩
    · rw [h0]
      exact checkFiles_zero t.id t.size p1 p2 p3 p4 0 t.funcs.length t.rows.length t.calls.length c1 c2 c3 c4 w
    · exact checkFiles_some t.id t.size b off c1 t.files.length p2 p3 p4 _ _ _ c2 c3 c4 t.files w rfl (by omega) l1 hb hc f1

theorem checkFuncs_any (v : Value) (t : Tb) (w : World) (hv : TbV w v t) :
    Calls Tryd.prog 63 #[v] w fun e w' => e = .returned (.int .i64 (eFuncs t)) ∧ Below w.heap.size w w' := by
  obtain ⟨v1, v2, v3, v4, rfl, hid, hsz, ⟨p1, c1, rfl, l1, m1, f1, o1⟩, ⟨p2, c2, rfl, l2, m2, f2, o2⟩, ⟨p3, c3, rfl, l3, m3, f3, o3⟩, ⟨p4, c4, rfl, l4, m4, f4, o4⟩⟩ := hv
  unfold eFuncs
  by_cases hL : 1000 < t.funcs.length
  · rw [if_pos hL]
    exact checkFuncs_large t.id t.size p1 p2 p3 p4 t.files.length t.funcs.length t.rows.length t.calls.length c1 c2 c3 c4 w hL
  · rw [if_neg hL]
    rcases o2 with h0 | ⟨b, off, rfl, hb, hc⟩
    · rw [h0]
      exact checkFuncs_zero t.id t.size p1 p2 p3 p4 t.files.length 0 t.rows.length t.calls.length c1 c2 c3 c4 w
    · exact checkFuncs_some t.id t.size b off t.funcs.length p1 p3 p4 _ _ _ c1 c2 c3 c4 t.funcs w rfl (by omega) hb hc f2

theorem funcsFault_any (v : Value) (t : Tb) (w : World) (hv : TbV w v t) (h1 : 1 ≤ t.size) (h2 : t.size ≤ 4294967296) :
    Calls Tryd.prog 51 #[v] w fun e w' => e = .returned (.int .i64 (eFuncs t)) ∧ Below w.heap.size w w' := by
  obtain ⟨v1, v2, v3, v4, rfl, hid, hsz, ⟨p1, c1, rfl, l1, m1, f1, o1⟩, ⟨p2, c2, rfl, l2, m2, f2, o2⟩, ⟨p3, c3, rfl, l3, m3, f3, o3⟩, ⟨p4, c4, rfl, l4, m4, f4, o4⟩⟩ := hv
  unfold eFuncs
  by_cases hL : 1000 < t.funcs.length
  · rw [if_pos hL]
    exact funcsFault_large t.id t.size p1 p2 p3 p4 t.files.length t.funcs.length t.rows.length t.calls.length c1 c2 c3 c4 w hL
  · rw [if_neg hL]
    rcases o2 with h0 | ⟨b, off, rfl, hb, hc⟩
    · rw [h0]
      exact funcsFault_zero t.id t.size p1 p2 p3 p4 t.files.length 0 t.rows.length t.calls.length c1 c2 c3 c4 w
    · exact funcsFault_some t.id t.size b off t.funcs.length p1 p3 p4 _ _ _ c1 c2 c3 c4 t.funcs w rfl (by omega) h1 h2 hb hc f2

theorem checkRows_any (v : Value) (t : Tb) (w : World) (hv : TbV w v t) :
    Calls Tryd.prog 64 #[v] w fun e w' => e = .returned (.int .i64 (eRows t)) ∧ Below w.heap.size w w' := by
  obtain ⟨v1, v2, v3, v4, rfl, hid, hsz, ⟨p1, c1, rfl, l1, m1, f1, o1⟩, ⟨p2, c2, rfl, l2, m2, f2, o2⟩, ⟨p3, c3, rfl, l3, m3, f3, o3⟩, ⟨p4, c4, rfl, l4, m4, f4, o4⟩⟩ := hv
  unfold eRows
  by_cases hL : 5000 < t.rows.length
  · rw [if_pos hL]
    exact checkRows_large t.id t.size p1 p2 p3 p4 t.files.length t.funcs.length t.rows.length t.calls.length c1 c2 c3 c4 w hL
  · rw [if_neg hL]
    rcases o3 with h0 | ⟨b, off, rfl, hb, hc⟩
    · rw [h0]
      exact checkRows_zero t.id t.size p1 p2 p3 p4 t.files.length t.funcs.length 0 t.calls.length c1 c2 c3 c4 w
    · exact checkRows_some t.id t.size b off t.rows.length p1 p2 p4 _ _ _ c1 c2 c3 c4 t.rows w rfl (by omega) hb hc

theorem rowsFault_any (v : Value) (t : Tb) (w : World) (hv : TbV w v t) (h1 : 1 ≤ t.size) (h2 : t.size ≤ 4294967296) (h3 : eFiles t = 0) :
    Calls Tryd.prog 52 #[v] w fun e w' => e = .returned (.int .i64 (eRows t)) ∧ Below w.heap.size w w' := by
  obtain ⟨v1, v2, v3, v4, rfl, hid, hsz, ⟨p1, c1, rfl, l1, m1, f1, o1⟩, ⟨p2, c2, rfl, l2, m2, f2, o2⟩, ⟨p3, c3, rfl, l3, m3, f3, o3⟩, ⟨p4, c4, rfl, l4, m4, f4, o4⟩⟩ := hv
  unfold eRows
  by_cases hL : 5000 < t.rows.length
  · rw [if_pos hL]
    exact rowsFault_large t.id t.size p1 p2 p3 p4 t.files.length t.funcs.length t.rows.length t.calls.length c1 c2 c3 c4 w hL
  · rw [if_neg hL]
    rcases o3 with h0 | ⟨b, off, rfl, hb, hc⟩
    · rw [h0]
      exact rowsFault_zero t.id t.size p1 p2 p3 p4 t.files.length t.funcs.length 0 t.calls.length c1 c2 c3 c4 w
    · exact rowsFault_some t.id t.size b off t.rows.length p1 p2 p4 _ _ _ c1 c2 c3 c4 t.rows w rfl (by omega) h1 h2 (files_len h3) hb hc

theorem inFunc_any (id : ByteArray) (size : Int) (p1 p2 p3 p4 : Option Addr) (n1 n3 n4 c1 c2 c3 c4 : Nat) (l : List Fc) (c : Cl) (w : World) (hv : SlG encF 3 fitF w (.slice p2 l.length c2) l) :
    Calls Tryd.prog 90 #[.agg #[.string id, .int .i64 size, .slice p1 n1 c1, .slice p2 l.length c2, .slice p3 n3 c3, .slice p4 n4 c4], .agg #[.string c.n, .int .i64 c.a, .int .i64 c.b, .int .i64 c.f, .int .i64 c.l]] w fun e w' => e = .returned (.bool (inFB l c)) ∧ Below w.heap.size w w' := by
  obtain ⟨p, cap, he, hlc, hcm, _, rfl | ⟨b, off, rfl, hb, hc⟩⟩ := hv
  · exact inFunc_zero id size p1 p2 p3 p4 n1 0 n3 n4 c1 c2 c3 c4 w c
  · obtain ⟨rfl, -, rfl⟩ := Value.slice.inj he
    exact inFunc_some id size b off l.length p1 p3 p4 n1 n3 n4 c1 c2 c3 c4 l c w rfl (by unfold maxLen at hcm; omega) hb hc

theorem checkCalls_any (v : Value) (t : Tb) (w : World) (hv : TbV w v t) (h4 : eFuncs t = 0) :
    Calls Tryd.prog 65 #[v] w fun e w' => e = .returned (.int .i64 (eCalls t)) ∧ Below w.heap.size w w' := by
  obtain ⟨v1, v2, v3, v4, rfl, hid, hsz, ⟨p1, c1, rfl, l1, m1, f1, o1⟩, ⟨p2, c2, rfl, l2, m2, f2, o2⟩, ⟨p3, c3, rfl, l3, m3, f3, o3⟩, ⟨p4, c4, rfl, l4, m4, f4, o4⟩⟩ := hv
  unfold eCalls
  by_cases hL : 1000 < t.calls.length
  · rw [if_pos hL]
    exact checkCalls_large t.id t.size p1 p2 p3 p4 t.files.length t.funcs.length t.rows.length t.calls.length c1 c2 c3 c4 w hL
  · rw [if_neg hL]
    rcases o4 with h0 | ⟨b, off, rfl, hb, hc⟩
    · rw [h0]
      exact checkCalls_zero t.id t.size p1 p2 p3 p4 t.files.length t.funcs.length t.rows.length 0 c1 c2 c3 c4 w
    · exact checkCalls_some t.id t.size b off t.calls.length p1 p2 p3 _ _ _ c1 c2 c3 c4 t.funcs t.calls w rfl (by omega) (funcs_pw h4) hb hc f4 (fun W c hW => inFunc_any t.id t.size p1 p2 p3 _ _ _ _ c1 c2 c3 c4 t.funcs c W (SlG.below (w := w) ⟨p2, c2, rfl, l2, m2, f2, o2⟩ (Nat.le_refl _) hW))

theorem callsFault_any (v : Value) (t : Tb) (w : World) (hv : TbV w v t) (h1 : 1 ≤ t.size) (h2 : t.size ≤ 4294967296) (h3 : eFiles t = 0) :
    Calls Tryd.prog 53 #[v] w fun e w' => e = .returned (.int .i64 (eCalls t)) ∧ Below w.heap.size w w' := by
  obtain ⟨v1, v2, v3, v4, rfl, hid, hsz, ⟨p1, c1, rfl, l1, m1, f1, o1⟩, ⟨p2, c2, rfl, l2, m2, f2, o2⟩, ⟨p3, c3, rfl, l3, m3, f3, o3⟩, ⟨p4, c4, rfl, l4, m4, f4, o4⟩⟩ := hv
  unfold eCalls
  by_cases hL : 1000 < t.calls.length
  · rw [if_pos hL]
    exact callsFault_large t.id t.size p1 p2 p3 p4 t.files.length t.funcs.length t.rows.length t.calls.length c1 c2 c3 c4 w hL
  · rw [if_neg hL]
    rcases o4 with h0 | ⟨b, off, rfl, hb, hc⟩
    · rw [h0]
      exact callsFault_zero t.id t.size p1 p2 p3 p4 t.files.length t.funcs.length t.rows.length 0 c1 c2 c3 c4 w
    · exact callsFault_some t.id t.size b off t.calls.length p1 p2 p3 _ _ _ c1 c2 c3 c4 t.funcs t.calls w rfl (by omega) l4 h1 h2 (files_len h3) hb hc f4 ⟨p2, c2, rfl, l2, m2, f2, o2⟩

theorem atVal_none {i : Int} (h : i = -1) : atVal i = .tuple #[.int .i64 0, .bool false] := by unfold atVal; rw [if_pos h]

theorem funcAt_any (v : Value) (t : Tb) (p : Int) (w : World) (hv : TbV w v t) :
    Calls Tryd.prog 16 #[v, .int .i64 p] w fun e w' => e = .returned (atVal (fncAt p t.funcs)) ∧ Below w.heap.size w w' := by
  obtain ⟨v1, v2, v3, v4, rfl, hid, hsz, ⟨p1, c1, rfl, l1, m1, f1, o1⟩, ⟨p2, c2, rfl, l2, m2, f2, o2⟩, ⟨p3, c3, rfl, l3, m3, f3, o3⟩, ⟨p4, c4, rfl, l4, m4, f4, o4⟩⟩ := hv
  rcases o2 with h0 | ⟨b, off, rfl, hb, hc⟩
  · rw [h0]
    exact funcAt_zero t.id t.size p1 p2 p3 p4 _ 0 _ _ c1 c2 c3 c4 w p
  · exact funcAt_some t.id t.size p b off _ p1 p3 p4 _ _ _ c1 c2 c3 c4 t.funcs w rfl (by unfold maxLen at m2; omega) hb hc

theorem funcOf_any (v : Value) (t : Tb) (p : Int) (w : World) (hv : TbV w v t) :
    Calls Tryd.prog 58 #[v, .int .i64 p] w fun e w' => e = .returned (atVal (fncAt p t.funcs)) ∧ Below w.heap.size w w' := by
  obtain ⟨v1, v2, v3, v4, rfl, hid, hsz, ⟨p1, c1, rfl, l1, m1, f1, o1⟩, ⟨p2, c2, rfl, l2, m2, f2, o2⟩, ⟨p3, c3, rfl, l3, m3, f3, o3⟩, ⟨p4, c4, rfl, l4, m4, f4, o4⟩⟩ := hv
  rcases o2 with h0 | ⟨b, off, rfl, hb, hc⟩
  · rw [h0]
    exact funcOf_zero t.id t.size p1 p2 p3 p4 _ 0 _ _ c1 c2 c3 c4 w p
  · exact funcOf_some t.id t.size p b off _ p1 p3 p4 _ _ _ c1 c2 c3 c4 t.funcs w rfl (by unfold maxLen at m2; omega) hb hc

theorem moduleAt_any (v : Value) (l : List Md) (p : Int) (w : World) (hv : SlG encM 4 fitM w v l) :
    Calls Tryd.prog 29 #[v, .int .i64 p] w fun e w' => e = .returned (atVal (modAt p l)) ∧ Below w.heap.size w w' := by
  obtain ⟨q, cap, rfl, hlc, hcm, _, rfl | ⟨b, off, rfl, hb, hc⟩⟩ := hv
  · exact moduleAt_zero q cap p w
  · exact moduleAt_some p b off _ cap l w rfl (by unfold maxLen at hcm; omega) hb hc

theorem moduleOf_any (v : Value) (l : List Md) (p : Int) (w : World) (hv : SlG encM 4 fitM w v l) :
    Calls Tryd.prog 31 #[v, .int .i64 p] w fun e w' => e = .returned (atVal (modAt p l)) ∧ Below w.heap.size w w' := by
  obtain ⟨q, cap, rfl, hlc, hcm, _, rfl | ⟨b, off, rfl, hb, hc⟩⟩ := hv
  · exact moduleOf_zero q cap p w
  · exact moduleOf_some p b off _ cap l w rfl (by unfold maxLen at hcm; omega) hb hc

theorem checkModules_any (v : Value) (l : List Md) (w : World) (hv : SlG encM 4 fitM w v l) :
    Calls Tryd.prog 56 #[v] w fun e w' => e = .returned (.int .i64 (eMods l)) ∧ Below w.heap.size w w' := by
  obtain ⟨q, cap, rfl, hlc, hcm, hf, ho⟩ := hv
  unfold eMods
  by_cases hL : 100 < l.length
  · rw [if_pos hL]
    exact checkModules_large q l.length cap w hL
  · rw [if_neg hL]
    rcases ho with rfl | ⟨b, off, rfl, hb, hc⟩
    · exact checkModules_zero q cap w
    · exact checkModules_some b off l.length cap l w rfl (by omega) hb hc hf

theorem modulesFault_any (v : Value) (l : List Md) (w : World) (hv : SlG encM 4 fitM w v l) :
    Calls Tryd.prog 24 #[v] w fun e w' => e = .returned (.int .i64 (eMods l)) ∧ Below w.heap.size w w' := by
  obtain ⟨q, cap, rfl, hlc, hcm, hf, ho⟩ := hv
  unfold eMods
  by_cases hL : 100 < l.length
  · rw [if_pos hL]
    exact modulesFault_large q l.length cap w hL
  · rw [if_neg hL]
    rcases ho with rfl | ⟨b, off, rfl, hb, hc⟩
    · exact modulesFault_zero q cap w
    · exact modulesFault_some b off l.length cap l w rfl (by omega) hb hc hf

end Go.Proofs.YtcdaalnjanncmaaDoor

/- The checks of package stack at one fault without frames. -/
import Derived.Test.YtonjmfbalkdmfaaGreatDoorBase
import Derived.Outline
import Derived.Lib.Strings
import Derived.Lib.Bytealg
namespace Go.Proofs.YtonjmfbalkdmfaaGreatDoor.stk
open Go.RowKit

theorem ret_int {k : IntKind} {a b : Int} (h : a = b) : Ending.returned (.int k a) = .returned (.int k b) := by rw [h]
theorem ret2i {a : Value} {k : IntKind} {x y : Int} (h : x = y) : Ending.returned (.tuple #[a, .int k x]) = .returned (.tuple #[a, .int k y]) := by rw [h]
theorem ret_bool {a b : Bool} (h : a = b) : Ending.returned (.bool a) = .returned (.bool b) := by rw [h]

theorem emp (s : ByteArray) : s.toList.isEmpty = decide (s.size = 0) := by
  obtain ⟨d⟩ := s
  rw [ByteArray.toList_eq, Bool.eq_iff_iff, List.isEmpty_iff, decide_eq_true_eq]
  simp only [ByteArray.size]
  rw [← Array.length_toList, List.length_eq_zero_iff]

/-- A byte is from low to 126, and not in t. -/
def okC (low : Nat) (t : List UInt8) (c : UInt8) : Bool := decide (low ≤ c.toNat) && decide (c.toNat ≤ 126) && decide (Lib.indexByte t c < 0)
/-- All bytes are so. -/
def okB (low : Nat) (t s : List UInt8) : Bool := s.all (okC low t)

theorem okC_true {low : Nat} {t : List UInt8} {c : UInt8} (h1 : (low : Int) ≤ c.toNat) (h2 : (c.toNat : Int) ≤ 126) (h3 : Lib.indexByte t c < 0) : okC low t c = true := by
  unfold okC; simp; omega
theorem okC_false {low : Nat} {t : List UInt8} {c : UInt8} (h : (c.toNat : Int) < low ∨ 126 < (c.toNat : Int) ∨ 0 ≤ Lib.indexByte t c) : okC low t c = false := by
  rw [Bool.eq_false_iff]; unfold okC; simp; omega

theorem all_take_succ {α : Type} {p : α → Bool} {l : List α} {k : Nat} (hk : k < l.length) (h : (l.take k).all p = true) (hc : p l[k] = true) : (l.take (k + 1)).all p = true := by
  rw [List.take_succ_eq_append_getElem hk, List.all_append, h]; simp [hc]
theorem all_false_at {α : Type} {p : α → Bool} {l : List α} {k : Nat} (hk : k < l.length) (hc : p l[k] = false) : l.all p = false := by
  rw [List.all_eq_false]; exact ⟨l[k], List.getElem_mem hk, by simp [hc]⟩
theorem all_take_end {α : Type} {p : α → Bool} {l : List α} {k : Nat} (hk : l.length ≤ k) (h : (l.take k).all p = true) : l.all p = true := by
  rw [List.take_of_length_le hk] at h; exact h

theorem okB_step {low : Nat} {t : List UInt8} {s : ByteArray} {k : Nat} (hk : k < s.size) (h : (s.data.toList.take k).all (okC low t) = true) (h1 : (low : Int) ≤ s[k].toNat) (h2 : (s[k].toNat : Int) ≤ 126) (h3 : Lib.indexByte t s[k] < 0) :
    (s.data.toList.take (k + 1)).all (okC low t) = true :=
  all_take_succ (by simpa using hk) h (okC_true h1 h2 h3)
theorem okB_not {low : Nat} {t : List UInt8} {s : ByteArray} {k : Nat} (hk : k < s.size) (h : (s[k].toNat : Int) < low ∨ 126 < (s[k].toNat : Int) ∨ 0 ≤ Lib.indexByte t s[k]) : okB low t s.data.toList = false :=
  all_false_at (k := k) (by simpa using hk) (okC_false h)
theorem okB_end {low : Nat} {t : List UInt8} {s : ByteArray} {k : Nat} (hk : ¬ k < s.size) (h : (s.data.toList.take k).all (okC low t) = true) : okB low t s.data.toList = true :=
  all_take_end (by simpa using hk) h

/-! ### Frames and faults as data -/
/-- A frame. -/
structure Fr where
  m : ByteArray
  f : ByteArray
  i : ByteArray
  line : Int
  addr : Int
  own : Bool
deriving DecidableEq

def Fr.val (x : Fr) : Value := .agg #[.string x.m, .string x.f, .string x.i, .int .i64 x.line, .int .i64 x.addr, .bool x.own]
def Fr.cells (x : Fr) : List Value := [.string x.m, .string x.f, .string x.i, .int .i64 x.line, .int .i64 x.addr, .bool x.own]

/-- A word of a frame has right bytes. -/
def okF (s : ByteArray) : Bool := okB 33 [40, 41, 58, 44] s.data.toList
/-- A kind has right bytes. -/
def okK (s : ByteArray) : Bool := okB 33 [58] s.data.toList

/-- The error of a frame. -/
def frErr (x : Fr) : Int :=
  if 200 < (x.m.size : Int) ∨ 200 < (x.f.size : Int) ∨ 200 < (x.i.size : Int) then 4
  else if okF x.m = false ∨ okF x.f = false ∨ okF x.i = false then 9
  else if x.f.size = 0 then 1
  else if x.line < 0 ∨ 9999999 < x.line ∨ x.addr < -1 ∨ 281474976710655 < x.addr then 2
  else if x.line ≠ 0 ∧ x.i.size = 0 then 1
  else 0

theorem frErr_large {x : Fr} (h : 200 < (x.m.size : Int) ∨ 200 < (x.f.size : Int) ∨ 200 < (x.i.size : Int)) : frErr x = 4 := by unfold frErr; rw [if_pos h]
theorem frErr_byte {x : Fr} (h1 : (x.m.size : Int) ≤ 200) (h2 : (x.f.size : Int) ≤ 200) (h3 : (x.i.size : Int) ≤ 200) (h : okF x.m = false ∨ okF x.f = false ∨ okF x.i = false) : frErr x = 9 := by
  unfold frErr; rw [if_neg (by omega), if_pos h]
theorem frErr_tail {x : Fr} (h1 : (x.m.size : Int) ≤ 200) (h2 : (x.f.size : Int) ≤ 200) (h3 : (x.i.size : Int) ≤ 200) (k1 : okF x.m = true) (k2 : okF x.f = true) (k3 : okF x.i = true) :
    frErr x = if x.f.size = 0 then 1 else if x.line < 0 ∨ 9999999 < x.line ∨ x.addr < -1 ∨ 281474976710655 < x.addr then 2 else if x.line ≠ 0 ∧ x.i.size = 0 then 1 else 0 := by
  unfold frErr; rw [if_neg (by omega), if_neg (by simp [k1, k2, k3])]

/-! ### Worlds: what a call behind one or two new blocks leaves -/
theorem below_call {B : Nat} {a w w' : World} (h : Below B a w) (hB : B ≤ w.heap.size) (hk : Below w.heap.size w w') : Below B a w' := h.trans (hk.mono hB)
theorem below_a1 {B : Nat} {a w w' : World} {o : Obj} (h : Below B a w) (hB : B ≤ w.heap.size) (hk : Below (w.alloc o).heap.size (w.alloc o) w') : Below B a w' :=
  (h.alloc hB _).trans (hk.mono (by simp; omega))
theorem below_a2 {B : Nat} {a w w' : World} {o o' : Obj} (h : Below B a w) (hB : B ≤ w.heap.size) (hk : Below ((w.alloc o).alloc o').heap.size ((w.alloc o).alloc o') w') : Below B a w' :=
  ((h.alloc hB _).alloc (by simp; omega) _).trans (hk.mono (by simp; omega))


set_option maxHeartbeats 1000000 in
set_option maxRecDepth 100000 in
theorem ixLite (s : ByteArray) (c : Int) (w : World) :
    Calls Tryz.prog 25 #[.string s, .int .u8 c] w fun e w' => e = .returned (.int .i64 (Lib.indexByte s.data.toList c.toNat.toUInt8)) ∧ w = w' := by
  go_enter Tryz.func25, Tryz.ntmps25
  go_wp2
  rw [run_callFunc_extern Tryz.func37 (by kernel_rfl) (by kernel_rfl) (by kernel_rfl) (e := Extern.BytealgIndexByte.indexByte) (by kernel_rfl), Lib.run_indexByteString]
  simp only [Result.andThen]
  rw [Oper.upon_value]
  go_wp2
  go_ret
  exact ⟨rfl, rfl⟩

theorem ix (s : ByteArray) (c : Int) (w : World) :
    Calls Tryz.prog 17 #[.string s, .int .u8 c] w fun e w' => e = .returned (.int .i64 (Lib.indexByte s.data.toList c.toNat.toUInt8)) ∧ w = w' := by
  go_enter Tryz.func17, Tryz.ntmps17
  go_wp2_with (go_at_call 25; refine (ixLite _ _ _).mono ?_; rintro e w' ⟨rfl, rfl⟩)
  go_ret
  exact ⟨rfl, rfl⟩

theorem ixb (s : ByteArray) (c : UInt8) (w : World) :
    Calls Tryz.prog 17 #[.string s, .int .u8 (c.toNat : Int)] w fun e w' => e = .returned (.int .i64 (Lib.indexByte s.data.toList c)) ∧ w = w' :=
  (ix s c.toNat w).mono fun e w' ⟨h, h'⟩ => ⟨by rw [h]; simp, h'⟩

theorem visible_any (s t : ByteArray) (w : World) (hs : s.size ≤ maxLen) :
    Calls Tryz.prog 55 #[.string s, .string t] w fun e w' => e = .returned (.bool (okB 33 t.data.toList s.data.toList)) ∧ w = w' := by
  unfold maxLen at hs
  go_enter Tryz.func55, Tryz.ntmps55
  go_wp2_with fail
  go_loop [8] (fun i => ∃ k : Nat, k ≤ s.size ∧ (s.data.toList.take k).all (okC 33 t.data.toList) = true ∧ i = .int .i64 k) (fun i => s.size - (intOf i).toNat)
  case atStart => exact ⟨0, Nat.zero_le _, rfl, rfl⟩
  case round =>
    obtain ⟨k, hk, hall, rfl⟩ := hrel
    have HA := Lib.hid hall
    clear hall
    by_cases hlt : k < s.size
    · go_wp2_with (go_at_call 17; refine (ixb _ _ _).mono ?_; rintro e w' ⟨rfl, rfl⟩)
      case roundEnd => exact ⟨⟨k + 1, by omega, okB_step hlt HA.out (by omega) (by omega) (by omega), by go_num⟩, by simp [intOf]; omega⟩
      all_goals (go_ret; exact ⟨ret_bool (okB_not hlt (by omega)).symm, rfl⟩)
    · go_wp2_with fail
      go_ret
      exact ⟨ret_bool (okB_end hlt HA.out).symm, rfl⟩

theorem visF (s : ByteArray) (w : World) (hs : s.size ≤ maxLen) :
    Calls Tryz.prog 55 #[.string s, .string ⟨#[40, 41, 58, 44]⟩] w fun e w' => e = .returned (.bool (okF s)) ∧ w = w' := visible_any s _ w hs
theorem visK (s : ByteArray) (w : World) (hs : s.size ≤ maxLen) :
    Calls Tryz.prog 55 #[.string s, .string ⟨#[58]⟩] w fun e w' => e = .returned (.bool (okK s)) ∧ w = w' := visible_any s _ w hs
/-- A byte of a text: no control character. -/
def okTC (c : UInt8) : Bool := decide (32 ≤ c.toNat) && !decide (c.toNat = 127)
def okT (s : ByteArray) : Bool := s.data.toList.all okTC
theorem okT_step {s : ByteArray} {k : Nat} (hk : k < s.size) (h : (s.data.toList.take k).all okTC = true) (h1 : (32 : Int) ≤ s[k].toNat) (h2 : ¬ (s[k].toNat : Int) = 127) : (s.data.toList.take (k + 1)).all okTC = true :=
  all_take_succ (by simpa using hk) h (by
    have e : s.data.toList[k]'(by simpa using hk) = s[k] := rfl
    rw [e]; unfold okTC; simp; omega)
theorem okT_not {s : ByteArray} {k : Nat} (hk : k < s.size) (h : (s[k].toNat : Int) < 32 ∨ (s[k].toNat : Int) = 127) : okT s = false :=
  all_false_at (k := k) (by simpa using hk) (by
    have e : s.data.toList[k]'(by simpa using hk) = s[k] := rfl
    rw [e, Bool.eq_false_iff]; unfold okTC; simp; omega)
theorem okT_end {s : ByteArray} {k : Nat} (hk : ¬ k < s.size) (h : (s.data.toList.take k).all okTC = true) : okT s = true := all_take_end (by simpa using hk) h

set_option maxHeartbeats 1000000 in
set_option maxRecDepth 100000 in
theorem printable_any (s : ByteArray) (w : World) (hs : s.size ≤ maxLen) :
    Calls Tryz.prog 56 #[.string s] w fun e w' => e = .returned (.bool (okT s)) ∧ w = w' := by
  unfold maxLen at hs
  go_enter Tryz.func56, Tryz.ntmps56
  go_wp2_with fail
  go_loop [6] (fun i => ∃ k : Nat, k ≤ s.size ∧ (s.data.toList.take k).all okTC = true ∧ i = .int .i64 k) (fun i => s.size - (intOf i).toNat)
  case atStart => exact ⟨0, Nat.zero_le _, rfl, rfl⟩
  case round =>
    obtain ⟨k, hk, hall, rfl⟩ := hrel
    have HA := Lib.hid hall
    clear hall
    by_cases hlt : k < s.size
    · go_wp2_with fail
      case roundEnd =>
        have hq : 32 ≤ (s[k].toNat : Int) ∧ ((s[k].toNat : Int) == 127) = false := by assumption
        have hq2 : ¬ (s[k].toNat : Int) = 127 := by simpa using hq.2
        exact ⟨⟨k + 1, by omega, okT_step hlt HA.out hq.1 hq2, by go_num⟩, by simp [intOf]; omega⟩
      · have hq : (s[k].toNat : Int) < 32 ∨ ((s[k].toNat : Int) == 127) = true := by assumption
        go_ret; exact ⟨ret_bool (okT_not hlt (by simpa using hq)).symm, rfl⟩
      · go_ret; exact ⟨ret_bool (okT_not hlt (by omega)).symm, rfl⟩
    · go_wp2_with fail
      go_ret
      exact ⟨ret_bool (okT_end hlt HA.out).symm, rfl⟩


theorem noFrames (w : World) :
    Calls Tryz.prog 57 #[.slice none 0 0] w fun e w' => e = .returned (.int .i64 0) ∧ Below w.heap.size w w' := by
  go_enter Tryz.func57, Tryz.ntmps57
  go_wp2_with fail
  go_loop [11] (fun v => v = .int .i64 0) (fun _ => 0)
  case atStart => rfl
  case round =>
    subst hrel
    go_wp2_with fail
    go_ret
    exact ⟨rfl, Below.refl _ _⟩
/-- The error of a fault whose text is right and that has no frames. -/
def kErr (k : ByteArray) : Int := if 200 < (k.size : Int) then 4 else if okK k = false then 9 else if k.size = 0 then 1 else 0

set_option maxHeartbeats 1000000 in
set_option maxRecDepth 100000 in
theorem checkFault_one (k t : ByteArray) (w : World) (h1 : k.size ≤ maxLen) (h2 : t.size ≤ 2000) (h3 : okT t = true) :
    Calls Tryz.prog 39 #[.agg #[.string k, .string t, .slice none 0 0]] w fun e w' => e = .returned (.int .i64 (kErr k)) ∧ Below w.heap.size w w' := by
  have hm : t.size ≤ maxLen := by unfold maxLen; omega
  have HP := Lib.hid (fun W => printable_any t W hm)
  rw [h3] at HP
  have ht : ¬ (2000 : Int) < (t.size : Int) := by omega
  clear hm h3
  go_enter Tryz.func39, Tryz.ntmps39
  go_wp2_with (first
    | (go_at_call 55; refine (visK _ _ h1).mono ?_; rintro e w' ⟨rfl, rfl⟩)
    | (go_at_call 56; (with_reducible refine (HP.out _).mono ?_); rintro e w' ⟨rfl, rfl⟩)
    | (go_at_call 57; (with_reducible refine (noFrames _).mono ?_); rintro e w' ⟨rfl, hb1⟩))
  all_goals (go_ret; refine ⟨ret_int ?_, by first | exact below_a1 (Below.refl _ _) (Nat.le_refl _) (by assumption) | exact (Below.refl _ _).alloc (Nat.le_refl _) _⟩)
  all_goals (try simp only [emp, Bool.not_eq_true', Bool.not_eq_false', decide_eq_true_eq, decide_eq_false_iff_not] at *)
  all_goals (unfold kErr)
  all_goals (repeat' split)
  all_goals first | rfl | omega | simp_all

set_option maxHeartbeats 1000000 in
set_option maxRecDepth 100000 in
theorem check_one (b : Nat) (k t : ByteArray) (w : World) (h1 : k.size ≤ maxLen) (h2 : t.size ≤ 2000) (h3 : okT t = true) (c0 : w.cell? ⟨b, 0, none⟩ = some (.string k)) (c1 : w.cell? ⟨b, 1, none⟩ = some (.string t)) (c2 : w.cell? ⟨b, 2, none⟩ = some (.slice none 0 0)) :
    Calls Tryz.prog 29 #[.slice (some ⟨b, 0, none⟩) 1 1] w fun e w' => e = .returned (.int .i64 (kErr k)) ∧ Below w.heap.size w w' := by
  have HC := Lib.hid (fun W => checkFault_one k t W h1 h2 h3)
  have hb : b < w.heap.size := World.block_lt_of_cell? w ⟨b, 0, none⟩ c0
  go_enter Tryz.func29, Tryz.ntmps29
  go_wp2_with fail
  go_loopw [14] (fun v wr => ∃ i : Nat, i ≤ 1 ∧ v = .int .i64 i ∧ Hid (0 < i → kErr k = 0) ∧ Below w.heap.size w wr) (fun v _ => 1 - (intOf v).toNat)
  case atStart => exact ⟨0, Nat.zero_le _, rfl, Lib.hid (fun h => absurd h (Nat.lt_irrefl _)), Below.refl _ _⟩
  case round =>
    obtain ⟨i, hi, rfl, HZ, hbw⟩ := hrel
    obtain rfl | rfl : i = 0 ∨ i = 1 := by omega
    · have d0 : wr.cell? ⟨b, 0, none⟩ = some (.string k) := (hbw.cell (p := ⟨b, _, none⟩) hb).trans c0
      have d1 : wr.cell? ⟨b, 1, none⟩ = some (.string t) := (hbw.cell (p := ⟨b, _, none⟩) hb).trans c1
      have d2 : wr.cell? ⟨b, 2, none⟩ = some (.slice none 0 0) := (hbw.cell (p := ⟨b, _, none⟩) hb).trans c2
      by_cases hz : kErr k = 0
      · rw [hz] at HC
        have HK := Lib.hid hz
        clear hz
        go_wp2_with (go_at_call 39; (with_reducible refine (HC.out _).mono ?_); rintro e w' ⟨rfl, hb1⟩; have hbw1 := below_a1 hbw hbw.size hb1)
        exact ⟨⟨1, by omega, rfl, Lib.hid (fun _ => HK.out), hbw1⟩, by simp [intOf]⟩
      · have hne : (kErr k != 0) = true := by rw [bne_iff_ne]; exact hz
        clear hz HZ
        go_wp2_with (go_at_call 39; (with_reducible refine (HC.out _).mono ?_); rintro e w' ⟨rfl, hb1⟩; have hbw1 := below_a1 hbw hbw.size hb1)
        go_ret
        exact ⟨rfl, hbw1⟩
    · have HK := Lib.hid (HZ.out (by omega))
      go_wp2_with fail
      go_ret
      exact ⟨ret_int HK.out.symm, hbw⟩
end Go.Proofs.YtonjmfbalkdmfaaGreatDoor.stk

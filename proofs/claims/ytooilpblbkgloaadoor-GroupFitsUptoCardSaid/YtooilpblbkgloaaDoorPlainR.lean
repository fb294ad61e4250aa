/- What the reference Plained answers: its closure. -/
import Derived.Test.YtooilpblbkgloaaDoorPlainB
namespace Go.Proofs.YtooilpblbkgloaaDoor
open Go.RowKit Go.Lib

/-- Whether a byte is among some. -/
def pf (of : List UInt8) (c : UInt8) : Bool := decide (0 ≤ Lib.indexByte of c)
def decs : List UInt8 := [48, 49, 50, 51, 52, 53, 54, 55, 56, 57]
def hexs : List UInt8 := [48, 49, 50, 51, 52, 53, 54, 55, 56, 57, 97, 98, 99, 100, 101, 102, 65, 66, 67, 68, 69, 70]
theorem pf_dg (c : UInt8) : pf decs c = dg c := by
  have h : ∀ n, n < 256 → pf decs (UInt8.ofNat n) = dg (UInt8.ofNat n) := by decide +kernel
  have := h c.toNat (UInt8.toNat_lt c)
  rwa [UInt8.ofNat_toNat] at this
theorem pf_hx (c : UInt8) : pf hexs c = hx c := by
  have h : ∀ n, n < 256 → pf hexs (UInt8.ofNat n) = hx (UInt8.ofNat n) := by decide +kernel
  have := h c.toNat (UInt8.toNat_lt c)
  rwa [UInt8.ofNat_toNat] at this

set_option maxHeartbeats 1000000 in
set_option maxRecDepth 100000 in
theorem digits_any (of s : ByteArray) (n bn bz : Nat) (w : World) (hs : s.size ≤ 4611686018427387904) (hn : n ≤ s.size) (cn : w.cell? ⟨bn, 0, none⟩ = some (.int .i64 n)) (cs : w.cell? ⟨bz, 0, none⟩ = some (.string s)) :
    Calls Tryd.prog 19 #[.string of, .pointer (some ⟨bn, 0, none⟩), .pointer (some ⟨bz, 0, none⟩)] w fun e w' => e = .returned (.int .i64 (n + run (pf of.data.toList) (s.data.toList.drop n) : Nat)) ∧ w' = w := by
  have hl := Lib.hid (Lib.size_eq s)
  go_enter Tryd.func19, Tryd.ntmps19
  go_wp2_with fail
  go_loop [5] (fun v => ∃ k : Nat, v = .int .i64 k ∧ n ≤ k ∧ k ≤ s.size ∧ n + run (pf of.data.toList) (s.data.toList.drop n) = k + run (pf of.data.toList) (s.data.toList.drop k)) (fun v => s.size - (RowKit.intOf v).toNat)
  case atStart => exact ⟨n, rfl, Nat.le_refl _, hn, rfl⟩
  case round =>
    obtain ⟨k, rfl, hnk, hk, heq⟩ := hrel
    have HEQ := Lib.hid heq
    clear heq
    by_cases hlt : k < s.size
    · have hkl : k < s.data.toList.length := by rw [← hl.out]; exact hlt
      have HC := Lib.hid (fun W => Tryd.strings_IndexByte of s[k].toNat W)
      have he : ((s[k].toNat : Int)).toNat.toUInt8 = s[k] := by simp
      rw [he] at HC
      clear he
      cases hp : pf of.data.toList s[k]
      · have HR := Lib.hid (run_stop hkl hp)
        have hneg : Lib.indexByte of.data.toList s[k] < 0 := by unfold pf at hp; have := of_decide_eq_false hp; omega
        clear hp
        generalize Lib.indexByte of.data.toList s[k] = r at *
        go_wp2_with (go_at_call 20; refine (HC.out _).mono ?_; rintro e w' ⟨rfl, rfl⟩)
        go_ret
        exact ⟨ret_int (by have h1 := HEQ.out; have h2 := HR.out; omega), rfl⟩
      · have HR := Lib.hid (run_step hkl hp)
        have hpos : 0 ≤ Lib.indexByte of.data.toList s[k] := by unfold pf at hp; exact of_decide_eq_true hp
        clear hp
        generalize Lib.indexByte of.data.toList s[k] = r at *
        go_wp2_with (go_at_call 20; refine (HC.out _).mono ?_; rintro e w' ⟨rfl, rfl⟩)
        exact ⟨⟨k + 1, rfl, by omega, hlt, by rw [HEQ.out, HR.out]; omega⟩, by simp [RowKit.intOf]; omega⟩
    · have HR := Lib.hid (run_end (p := pf of.data.toList) (l := s.data.toList) (k := k) (by rw [← hl.out]; omega))
      go_wp2_with fail
      go_ret
      exact ⟨ret_int (by have h1 := HEQ.out; have h2 := HR.out; omega), rfl⟩
theorem run_congr {p q : UInt8 → Bool} (h : ∀ c, p c = q c) : ∀ l, run p l = run q l
  | [] => rfl
  | c :: l => by unfold run; rw [h c, run_congr h l]
theorem digitsD (s : ByteArray) (n bn bz : Nat) (w : World) (hs : s.size ≤ 4611686018427387904) (hn : n ≤ s.size) (cn : w.cell? ⟨bn, 0, none⟩ = some (.int .i64 n)) (cs : w.cell? ⟨bz, 0, none⟩ = some (.string s)) :
    Calls Tryd.prog 19 #[.string ⟨#[48, 49, 50, 51, 52, 53, 54, 55, 56, 57]⟩, .pointer (some ⟨bn, 0, none⟩), .pointer (some ⟨bz, 0, none⟩)] w fun e w' => e = .returned (.int .i64 (n + run dg (s.data.toList.drop n) : Nat)) ∧ w' = w := by
  have h := digits_any ⟨#[48, 49, 50, 51, 52, 53, 54, 55, 56, 57]⟩ s n bn bz w hs hn cn cs
  rw [run_congr (p := pf (⟨#[48, 49, 50, 51, 52, 53, 54, 55, 56, 57]⟩ : ByteArray).data.toList) pf_dg] at h
  exact h
theorem digitsH (s : ByteArray) (n bn bz : Nat) (w : World) (hs : s.size ≤ 4611686018427387904) (hn : n ≤ s.size) (cn : w.cell? ⟨bn, 0, none⟩ = some (.int .i64 n)) (cs : w.cell? ⟨bz, 0, none⟩ = some (.string s)) :
    Calls Tryd.prog 19 #[.string ⟨#[48, 49, 50, 51, 52, 53, 54, 55, 56, 57, 97, 98, 99, 100, 101, 102, 65, 66, 67, 68, 69, 70]⟩, .pointer (some ⟨bn, 0, none⟩), .pointer (some ⟨bz, 0, none⟩)] w fun e w' => e = .returned (.int .i64 (n + run hx (s.data.toList.drop n) : Nat)) ∧ w' = w := by
  have h := digits_any ⟨#[48, 49, 50, 51, 52, 53, 54, 55, 56, 57, 97, 98, 99, 100, 101, 102, 65, 66, 67, 68, 69, 70]⟩ s n bn bz w hs hn cn cs
  rw [run_congr (p := pf (⟨#[48, 49, 50, 51, 52, 53, 54, 55, 56, 57, 97, 98, 99, 100, 101, 102, 65, 66, 67, 68, 69, 70]⟩ : ByteArray).data.toList) pf_hx] at h
  exact h
end Go.Proofs.YtooilpblbkgloaaDoor

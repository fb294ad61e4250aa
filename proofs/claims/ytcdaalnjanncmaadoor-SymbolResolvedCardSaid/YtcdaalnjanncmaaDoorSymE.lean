/- The first function that has an offset: what FuncAt and the reference's FuncOf answer. -/
import Derived.Test.YtcdaalnjanncmaaDoorSymD
namespace Go.Proofs.YtcdaalnjanncmaaDoor
open Go.RowKit

/-- What FuncAt hands back. -/
def atVal (i : Int) : Value := if i = -1 then .tuple #[.int .i64 0, .bool false] else .tuple #[.int .i64 i, .bool true]
theorem atVal_some {i : Int} {k : Nat} (h : i = k) : atVal i = .tuple #[.int .i64 k, .bool true] := by unfold atVal; rw [h, if_neg (by omega)]

set_option maxHeartbeats 2000000 in
set_option maxRecDepth 100000 in
theorem funcAt_some (id : ByteArray) (size p : Int) (b off n2 : Nat) (p1 p3 p4 : Option Addr) (n1 n3 n4 c1 c2 c3 c4 : Nat) (l : List Fc) (w : World) (hl : l.length = n2) (hn : n2 ≤ 9223372036854775807) (hb : b < w.heap.size) (hc : AtG encF 3 w b off l) :
    Calls Tryd.prog 16 #[.agg #[.string id, .int .i64 size, .slice p1 n1 c1, .slice (some ⟨b, off, none⟩) n2 c2, .slice p3 n3 c3, .slice p4 n4 c4], .int .i64 p] w fun e w' => e = .returned (atVal (fncAt p l)) ∧ Below w.heap.size w w' := by
  go_enter Tryd.func16, Tryd.ntmps16
  go_wp2_with fail
  go_loopw [11] (fun v wr => ∃ k : Nat, k ≤ n2 ∧ v = .int .i64 k ∧ fncAt p l = firstFrom k p (prs (l.drop k)) ∧ Below w.heap.size w wr) (fun v _ => n2 - (RowKit.intOf v).toNat)
  case atStart => exact ⟨0, Nat.zero_le _, rfl, rfl, (Below.refl _ _).alloc (Nat.le_refl _) _⟩
  case round =>
    obtain ⟨k, hk, rfl, heq, hbw⟩ := hrel
    have HEQ := Lib.hid heq
    clear heq
    by_cases hlt : k < n2
    · have hkl : k < l.length := by omega
      have HD := Lib.hid (List.drop_eq_getElem_cons hkl)
      obtain ⟨c0, c1', c2'⟩ := hc.fnc hkl
      have c0 := (hbw.cell (p := ⟨b, _, none⟩) hb).trans c0
      have c1' := (hbw.cell (p := ⟨b, _, none⟩) hb).trans c1'
      have c2' := (hbw.cell (p := ⟨b, _, none⟩) hb).trans c2'
      generalize l[k] = f at *
      obtain ⟨s, fa, fb⟩ := f
      simp only at c0 c1' c2'
      have hbw1 := hbw.alloc hbw.size (.cells #[.string s, .int .i64 fa, .int .i64 fb] 50)
      by_cases h1 : fa ≤ p
      · by_cases h2 : p < fb
        · have HR := Lib.hid (show atVal (fncAt p l) = .tuple #[.int .i64 k, .bool true] by
            rw [HEQ.out, HD.out]; exact atVal_some (firstFrom_hit (x := (fa, fb)) h1 h2))
          go_wp2_with fail
          go_ret2
          exact ⟨by rw [HR.out]; rfl, hbw1⟩
        · have HR := Lib.hid (show fncAt p l = firstFrom (k + 1) p (prs (l.drop (k + 1))) by
            rw [HEQ.out, HD.out]; exact firstFrom_miss (x := (fa, fb)) (by simp only; omega))
          go_wp2_with fail
          exact ⟨⟨k + 1, by omega, by go_num, HR.out, hbw1⟩, by simp [RowKit.intOf]; omega⟩
      · have HR := Lib.hid (show fncAt p l = firstFrom (k + 1) p (prs (l.drop (k + 1))) by
          rw [HEQ.out, HD.out]; exact firstFrom_miss (x := (fa, fb)) (by simp only; omega))
        go_wp2_with fail
        exact ⟨⟨k + 1, by omega, by go_num, HR.out, hbw1⟩, by simp [RowKit.intOf]; omega⟩
    · have HR := Lib.hid (show atVal (fncAt p l) = .tuple #[.int .i64 0, .bool false] by rw [HEQ.out, List.drop_of_length_le (by omega)]; rfl)
      go_wp2_with fail
      go_ret2
      exact ⟨by rw [HR.out]; rfl, hbw⟩

set_option maxHeartbeats 2000000 in
set_option maxRecDepth 100000 in
theorem funcOf_some (id : ByteArray) (size p : Int) (b off n2 : Nat) (p1 p3 p4 : Option Addr) (n1 n3 n4 c1 c2 c3 c4 : Nat) (l : List Fc) (w : World) (hl : l.length = n2) (hn : n2 ≤ 9223372036854775807) (hb : b < w.heap.size) (hc : AtG encF 3 w b off l) :
    Calls Tryd.prog 58 #[.agg #[.string id, .int .i64 size, .slice p1 n1 c1, .slice (some ⟨b, off, none⟩) n2 c2, .slice p3 n3 c3, .slice p4 n4 c4], .int .i64 p] w fun e w' => e = .returned (atVal (fncAt p l)) ∧ Below w.heap.size w w' := by
  go_enter Tryd.func58, Tryd.ntmps58
  go_wp2_with fail
  go_loopw [11] (fun v wr => ∃ k : Nat, k ≤ n2 ∧ v = .int .i64 k ∧ fncAt p l = firstFrom k p (prs (l.drop k)) ∧ Below w.heap.size w wr) (fun v _ => n2 - (RowKit.intOf v).toNat)
  case atStart => exact ⟨0, Nat.zero_le _, rfl, rfl, (Below.refl _ _).alloc (Nat.le_refl _) _⟩
  case round =>
    obtain ⟨k, hk, rfl, heq, hbw⟩ := hrel
    have HEQ := Lib.hid heq
    clear heq
    by_cases hlt : k < n2
    · have hkl : k < l.length := by omega
      have HD := Lib.hid (List.drop_eq_getElem_cons hkl)
      obtain ⟨c0, c1', c2'⟩ := hc.fnc hkl
      have c0 := (hbw.cell (p := ⟨b, _, none⟩) hb).trans c0
      have c1' := (hbw.cell (p := ⟨b, _, none⟩) hb).trans c1'
      have c2' := (hbw.cell (p := ⟨b, _, none⟩) hb).trans c2'
      generalize l[k] = f at *
      obtain ⟨s, fa, fb⟩ := f
      simp only at c0 c1' c2'
      have hbw1 := hbw.alloc hbw.size (.cells #[.string s, .int .i64 fa, .int .i64 fb] 50)
      by_cases h1 : fa ≤ p
      · by_cases h2 : p < fb
        · have HR := Lib.hid (show atVal (fncAt p l) = .tuple #[.int .i64 k, .bool true] by
            rw [HEQ.out, HD.out]; exact atVal_some (firstFrom_hit (x := (fa, fb)) h1 h2))
          go_wp2_with fail
          go_ret2
          exact ⟨by rw [HR.out]; rfl, hbw1⟩
        · have HR := Lib.hid (show fncAt p l = firstFrom (k + 1) p (prs (l.drop (k + 1))) by
            rw [HEQ.out, HD.out]; exact firstFrom_miss (x := (fa, fb)) (by simp only; omega))
          go_wp2_with fail
          exact ⟨⟨k + 1, by omega, by go_num, HR.out, hbw1⟩, by simp [RowKit.intOf]; omega⟩
      · have HR := Lib.hid (show fncAt p l = firstFrom (k + 1) p (prs (l.drop (k + 1))) by
          rw [HEQ.out, HD.out]; exact firstFrom_miss (x := (fa, fb)) (by simp only; omega))
        go_wp2_with fail
        exact ⟨⟨k + 1, by omega, by go_num, HR.out, hbw1⟩, by simp [RowKit.intOf]; omega⟩
    · have HR := Lib.hid (show atVal (fncAt p l) = .tuple #[.int .i64 0, .bool false] by rw [HEQ.out, List.drop_of_length_le (by omega)]; rfl)
      go_wp2_with fail
      go_ret2
      exact ⟨by rw [HR.out]; rfl, hbw⟩
end Go.Proofs.YtcdaalnjanncmaaDoor

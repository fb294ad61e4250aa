/- Bytes, names and numbers of versions: what they are; what the program's small checks of them answer. -/
import Derived.Test.YtnpnoohnkbpokaaDoorShelf
import Derived.Lib.Hide
import Derived.Lib.IndexMore
import Derived.Lib.Atoi
import Derived.WalkKit
import Derived.BigQuiet
namespace Go.Proofs.YtnpnoohnkbpokaaDoor
open Go.RowKit Go.Lib

theorem ret_bool {a b : Bool} (h : a = b) : Ending.returned (.bool a) = .returned (.bool b) := by rw [h]
def bs (l : List UInt8) : ByteArray := ⟨l.toArray⟩
def dg (c : UInt8) : Bool := 48 ≤ c && c ≤ 57
def sm (c : UInt8) : Bool := 97 ≤ c && c ≤ 122
def al (c : UInt8) : Bool := sm c || dg c
def nm (c : UInt8) : Bool := sm c || dg c || (c == 45 || c == 46 || c == 95)
def nameB (l : List UInt8) : Bool := decide (l ≠ []) && decide (l.length ≤ 40) && sm (l.headD 0) && l.all nm
def projB (l : List UInt8) : Bool := nameB l && !decide (0 ≤ Lib.indexByte l 46)
def numOk (most : Nat) (l : List UInt8) : Bool := decide (l ≠ []) && decide (l.length ≤ most) && !(decide (1 < l.length) && l.headD 0 == 48) && l.all dg
def numV (l : List UInt8) : Int := (Lib.atoi l).getD 0
def partB (l : List UInt8) : Bool := if l.all dg then numOk 6 l else l.all al

theorem dg_eq (c : UInt8) : dg c = decide (48 ≤ (c.toNat : Int) ∧ (c.toNat : Int) ≤ 57) := by
  unfold dg; rw [Bool.eq_iff_iff]; simp [UInt8.le_iff_toNat_le]; omega
theorem sm_eq (c : UInt8) : sm c = decide (97 ≤ (c.toNat : Int) ∧ (c.toNat : Int) ≤ 122) := by
  unfold sm; rw [Bool.eq_iff_iff]; simp [UInt8.le_iff_toNat_le]; omega

set_option maxHeartbeats 1000000 in
theorem isDigit_any (c : UInt8) (w : World) :
    Calls Tryd.prog 79 #[.int .u8 c.toNat] w fun e w' => e = .returned (.bool (dg c)) ∧ w' = w := by
  have HE := Lib.hid (dg_eq c)
  go_enter Tryd.func79, Tryd.ntmps79
  go_wp2_with fail
  all_goals (go_ret; exact ⟨ret_bool (by rw [HE.out, Bool.eq_iff_iff]; simp only [decide_eq_true_eq, Bool.false_eq_true]; first | omega | (simp only [false_iff]; omega)), rfl⟩)
set_option maxHeartbeats 1000000 in
theorem isSmall_any (c : UInt8) (w : World) :
    Calls Tryd.prog 82 #[.int .u8 c.toNat] w fun e w' => e = .returned (.bool (sm c)) ∧ w' = w := by
  have HE := Lib.hid (sm_eq c)
  go_enter Tryd.func82, Tryd.ntmps82
  go_wp2_with fail
  all_goals (go_ret; exact ⟨ret_bool (by rw [HE.out, Bool.eq_iff_iff]; simp only [decide_eq_true_eq, Bool.false_eq_true]; first | omega | (simp only [false_iff]; omega)), rfl⟩)
set_option maxHeartbeats 1000000 in
theorem partByte_any (c : UInt8) (w : World) :
    Calls Tryd.prog 81 #[.int .u8 c.toNat] w fun e w' => e = .returned (.bool (al c)) ∧ w' = w := by
  have HS := Lib.hid (fun W => isSmall_any c W)
  have HD := Lib.hid (fun W => isDigit_any c W)
  unfold al
  generalize dg c = d at *
  generalize sm c = e at *
  cases e <;> cases d
  all_goals
    go_enter Tryd.func81, Tryd.ntmps81
    go_wp2_with (first
      | (go_at_call 82; refine (HS.out _).mono ?_; rintro e w' ⟨rfl, rfl⟩)
      | (go_at_call 79; refine (HD.out _).mono ?_; rintro e w' ⟨rfl, rfl⟩))
    go_ret
    exact ⟨rfl, rfl⟩
theorem nm_index (c : UInt8) : decide (0 ≤ Lib.indexByte [45, 46, 95] c) = (c == 45 || c == 46 || c == 95) := by
  have h : ∀ n : Fin 256, decide (0 ≤ Lib.indexByte [45, 46, 95] (UInt8.ofNat n.val)) = (UInt8.ofNat n.val == 45 || UInt8.ofNat n.val == 46 || UInt8.ofNat n.val == 95) := by decide +kernel
  have := h ⟨c.toNat, UInt8.toNat_lt c⟩
  simpa using this
set_option maxHeartbeats 1000000 in
theorem inName_any (c : UInt8) (w : World) :
    Calls Tryd.prog 98 #[.int .u8 c.toNat] w fun e w' => e = .returned (.bool (nm c)) ∧ w' = w := by
  have HS := Lib.hid (fun W => isSmall_any c W)
  have HD := Lib.hid (fun W => isDigit_any c W)
  have HI := Lib.hid (fun W => Tryd.strings_IndexByte ⟨#[45, 46, 95]⟩ c.toNat W)
  have HN := Lib.hid (nm_index c)
  unfold nm
  rw [← HN.out]
  generalize dg c = d at *
  generalize sm c = e at *
  cases e <;> cases d
  all_goals
    go_enter Tryd.func98, Tryd.ntmps98
    go_wp2_with (first
      | (go_at_call 82; refine (HS.out _).mono ?_; rintro e w' ⟨rfl, rfl⟩)
      | (go_at_call 79; refine (HD.out _).mono ?_; rintro e w' ⟨rfl, rfl⟩)
      | (go_at_call 110; refine (HI.out _).mono ?_; rintro e w' ⟨rfl, rfl⟩))
    all_goals (go_ret; exact ⟨by simp_all, rfl⟩)

set_option maxHeartbeats 1000000 in
set_option maxRecDepth 100000 in
theorem eachDig (s : ByteArray) (w : World) (hs : s.size ≤ 4611686018427387904) :
    Calls Tryd.prog 69 #[.string s, .func (.func 79) #[] #[]] w fun e w' => e = .returned (.bool (s.data.toList.all dg)) ∧ w' = w := by
  have hl := Lib.hid (Lib.size_eq s)
  obtain ⟨A, hA⟩ : ∃ A, A = s.data.toList.all dg := ⟨_, rfl⟩
  rw [← hA]
  have HA := Lib.hid hA
  clear hA
  go_enter Tryd.func69, Tryd.ntmps69
  go_wp2_with fail
  go_loop [8] (fun v => ∃ k : Nat, v = .int .i64 k ∧ k ≤ s.size ∧ (s.data.toList.take k).all dg = true) (fun v => s.size - (RowKit.intOf v).toNat)
  case atStart => exact ⟨0, rfl, Nat.zero_le _, by simp⟩
  case round =>
    obtain ⟨k, rfl, hk, heq⟩ := hrel
    have HEQ := Lib.hid heq
    clear heq
    by_cases hlt : k < s.size
    · have hkl : k < s.data.toList.length := by rw [← hl.out]; exact hlt
      have HC := Lib.hid (fun W => isDigit_any s[k] W)
      cases hp : dg s[k]
      · have HR := Lib.hid (show s.data.toList.all dg = false from by
          rw [← List.take_append_drop k s.data.toList, List.all_append, List.drop_eq_getElem_cons hkl, List.all_cons]
          rw [show dg s.data.toList[k] = false from hp]; simp)
        rw [hp] at HC
        clear hp
        go_wp2_with (go_at_call 79; refine (HC.out _).mono ?_; rintro e w' ⟨rfl, rfl⟩)
        go_ret
        exact ⟨ret_bool (by rw [HA.out]; exact HR.out.symm), rfl⟩
      · have HR := Lib.hid (show (s.data.toList.take (k + 1)).all dg = true from by
          rw [List.take_succ_eq_append_getElem hkl, List.all_append, HEQ.out]
          rw [List.all_cons, show dg s.data.toList[k] = true from hp]; rfl)
        rw [hp] at HC
        clear hp
        go_wp2_with (go_at_call 79; refine (HC.out _).mono ?_; rintro e w' ⟨rfl, rfl⟩)
        exact ⟨⟨k + 1, rfl, hlt, HR.out⟩, by simp [RowKit.intOf]; omega⟩
    · have hk2 : k = s.size := by omega
      have HR := Lib.hid (show s.data.toList.all dg = true from by
        have := HEQ.out
        rwa [List.take_of_length_le (by rw [← hl.out]; omega)] at this)
      clear hk2
      go_wp2_with fail
      go_ret
      exact ⟨ret_bool (by rw [HA.out]; exact HR.out.symm), rfl⟩
set_option maxHeartbeats 1000000 in
set_option maxRecDepth 100000 in
theorem eachName (s : ByteArray) (w : World) (hs : s.size ≤ 4611686018427387904) :
    Calls Tryd.prog 69 #[.string s, .func (.func 98) #[] #[]] w fun e w' => e = .returned (.bool (s.data.toList.all nm)) ∧ w' = w := by
  have hl := Lib.hid (Lib.size_eq s)
  obtain ⟨A, hA⟩ : ∃ A, A = s.data.toList.all nm := ⟨_, rfl⟩
  rw [← hA]
  have HA := Lib.hid hA
  clear hA
  go_enter Tryd.func69, Tryd.ntmps69
  go_wp2_with fail
  go_loop [8] (fun v => ∃ k : Nat, v = .int .i64 k ∧ k ≤ s.size ∧ (s.data.toList.take k).all nm = true) (fun v => s.size - (RowKit.intOf v).toNat)
  case atStart => exact ⟨0, rfl, Nat.zero_le _, by simp⟩
  case round =>
    obtain ⟨k, rfl, hk, heq⟩ := hrel
    have HEQ := Lib.hid heq
    clear heq
    by_cases hlt : k < s.size
    · have hkl : k < s.data.toList.length := by rw [← hl.out]; exact hlt
      have HC := Lib.hid (fun W => inName_any s[k] W)
      cases hp : nm s[k]
      · have HR := Lib.hid (show s.data.toList.all nm = false from by
          rw [← List.take_append_drop k s.data.toList, List.all_append, List.drop_eq_getElem_cons hkl, List.all_cons]
          rw [show nm s.data.toList[k] = false from hp]; simp)
        rw [hp] at HC
        clear hp
        go_wp2_with (go_at_call 98; refine (HC.out _).mono ?_; rintro e w' ⟨rfl, rfl⟩)
        go_ret
        exact ⟨ret_bool (by rw [HA.out]; exact HR.out.symm), rfl⟩
      · have HR := Lib.hid (show (s.data.toList.take (k + 1)).all nm = true from by
          rw [List.take_succ_eq_append_getElem hkl, List.all_append, HEQ.out]
          rw [List.all_cons, show nm s.data.toList[k] = true from hp]; rfl)
        rw [hp] at HC
        clear hp
        go_wp2_with (go_at_call 98; refine (HC.out _).mono ?_; rintro e w' ⟨rfl, rfl⟩)
        exact ⟨⟨k + 1, rfl, hlt, HR.out⟩, by simp [RowKit.intOf]; omega⟩
    · have hk2 : k = s.size := by omega
      have HR := Lib.hid (show s.data.toList.all nm = true from by
        have := HEQ.out
        rwa [List.take_of_length_le (by rw [← hl.out]; omega)] at this)
      clear hk2
      go_wp2_with fail
      go_ret
      exact ⟨ret_bool (by rw [HA.out]; exact HR.out.symm), rfl⟩
set_option maxHeartbeats 1000000 in
set_option maxRecDepth 100000 in
theorem eachPart (s : ByteArray) (w : World) (hs : s.size ≤ 4611686018427387904) :
    Calls Tryd.prog 69 #[.string s, .func (.func 81) #[] #[]] w fun e w' => e = .returned (.bool (s.data.toList.all al)) ∧ w' = w := by
  have hl := Lib.hid (Lib.size_eq s)
  obtain ⟨A, hA⟩ : ∃ A, A = s.data.toList.all al := ⟨_, rfl⟩
  rw [← hA]
  have HA := Lib.hid hA
  clear hA
  go_enter Tryd.func69, Tryd.ntmps69
  go_wp2_with fail
  go_loop [8] (fun v => ∃ k : Nat, v = .int .i64 k ∧ k ≤ s.size ∧ (s.data.toList.take k).all al = true) (fun v => s.size - (RowKit.intOf v).toNat)
  case atStart => exact ⟨0, rfl, Nat.zero_le _, by simp⟩
  case round =>
    obtain ⟨k, rfl, hk, heq⟩ := hrel
    have HEQ := Lib.hid heq
    clear heq
    by_cases hlt : k < s.size
    · have hkl : k < s.data.toList.length := by rw [← hl.out]; exact hlt
      have HC := Lib.hid (fun W => partByte_any s[k] W)
      cases hp : al s[k]
      · have HR := Lib.hid (show s.data.toList.all al = false from by
          rw [← List.take_append_drop k s.data.toList, List.all_append, List.drop_eq_getElem_cons hkl, List.all_cons]
          rw [show al s.data.toList[k] = false from hp]; simp)
        rw [hp] at HC
        clear hp
        go_wp2_with (go_at_call 81; refine (HC.out _).mono ?_; rintro e w' ⟨rfl, rfl⟩)
        go_ret
        exact ⟨ret_bool (by rw [HA.out]; exact HR.out.symm), rfl⟩
      · have HR := Lib.hid (show (s.data.toList.take (k + 1)).all al = true from by
          rw [List.take_succ_eq_append_getElem hkl, List.all_append, HEQ.out]
          rw [List.all_cons, show al s.data.toList[k] = true from hp]; rfl)
        rw [hp] at HC
        clear hp
        go_wp2_with (go_at_call 81; refine (HC.out _).mono ?_; rintro e w' ⟨rfl, rfl⟩)
        exact ⟨⟨k + 1, rfl, hlt, HR.out⟩, by simp [RowKit.intOf]; omega⟩
    · have hk2 : k = s.size := by omega
      have HR := Lib.hid (show s.data.toList.all al = true from by
        have := HEQ.out
        rwa [List.take_of_length_le (by rw [← hl.out]; omega)] at this)
      clear hk2
      go_wp2_with fail
      go_ret
      exact ⟨ret_bool (by rw [HA.out]; exact HR.out.symm), rfl⟩

theorem digs_atoi {l : List UInt8} (h0 : l ≠ []) (h : l.all dg = true) : ∃ n : Nat, Lib.atoi l = some (n : Int) := by
  have hd : ∀ b ∈ l, ∃ d, Lib.digitVal b = some d := fun b hb => by
    have := List.all_eq_true.1 h b hb
    rw [dg_eq] at this
    exact ⟨b.toNat - 48, by unfold Lib.digitVal; rw [if_pos (by have := of_decide_eq_true this; omega)]⟩
  have hf : ∀ (l : List UInt8), (∀ b ∈ l, ∃ d, Lib.digitVal b = some d) → ∀ acc, ∃ n, Lib.decFrom acc l = some n := by
    intro l
    induction l with
    | nil => intro _ acc; exact ⟨acc, rfl⟩
    | cons b r ih =>
      intro hh acc
      obtain ⟨d, hd⟩ := hh b (by simp)
      obtain ⟨n, hn⟩ := ih (fun x hx => hh x (by simp [hx])) (acc * 10 + d)
      exact ⟨n, by rw [Lib.decFrom, hd]; exact hn⟩
  cases l with
  | nil => exact absurd rfl h0
  | cons b r =>
    obtain ⟨n, hn⟩ := hf (b :: r) hd 0
    have hb := List.all_eq_true.1 h b (by simp)
    rw [dg_eq] at hb
    have hb2 : 48 ≤ b.toNat ∧ b.toNat ≤ 57 := by have := of_decide_eq_true hb; omega
    have h45 : (b == 45) = false := by rw [beq_eq_false_iff_ne]; rintro rfl; exact absurd hb2.1 (by decide)
    have h43 : (b == 43) = false := by rw [beq_eq_false_iff_ne]; rintro rfl; exact absurd hb2.1 (by decide)
    exact ⟨n, by rw [Lib.atoi, h45, h43]; simp [Lib.decNat, hn]⟩
end Go.Proofs.YtnpnoohnkbpokaaDoor

/- Rules as data, their errors and their texts: lists alone. -/
import Derived.Lib.Strings
import Derived.Lib.Bytealg
import Derived.Lib.IndexBytes
import Derived.Lib.CountLaws
import Derived.Lib.SplitLaws
import Derived.Lib.Replace
import Derived.Lib.Join
import Derived.Lib.ItoaNum
namespace Go.Proofs.YtooilpblbkgloaaGreatDoor

structure Mt where
  on : Int
  nt : Bool
  gl : ByteArray
structure Ac where
  d : Int
  n : Int
  t : ByteArray
structure Ru where
  ms : List Mt
  as : List Ac

/-- All bytes are from 32 to 126. -/
def prb (c : UInt8) : Bool := 32 ≤ c && c ≤ 126
def prs (s : ByteArray) : Bool := s.data.toList.all prb
def mErr (m : Mt) : Int :=
  if m.on < 1 ∨ 6 < m.on then 10 else if m.on = 6 ∧ m.gl.size ≠ 0 then 1 else if 100 < m.gl.size then 4 else if prs m.gl = false then 9 else 0
def aErr (a : Ac) : Int :=
  if a.d < 1 ∨ 6 < a.d then 10 else if (a.n ≠ 0 ∧ a.d ≠ 5) ∨ (a.t.size ≠ 0 ∧ a.d ≠ 6) then 1
  else if a.d = 5 ∧ (a.n < 1 ∨ 200 < a.n) then 2 else if a.d = 6 ∧ a.t.size = 0 then 1 else if 100 < a.t.size then 4 else if prs a.t = false then 9 else 0
def msErr : List Mt → Int
  | [] => 0
  | m :: l => if mErr m ≠ 0 then mErr m else msErr l
def asErr : List Ac → Int
  | [] => 0
  | a :: l => if aErr a ≠ 0 then aErr a else asErr l
def ruErr (r : Ru) : Int :=
  if 8 < r.ms.length ∨ 8 < r.as.length then 4 else if r.as = [] then 7 else if msErr r.ms ≠ 0 then msErr r.ms else asErr r.as
def rusErr : List Ru → Int
  | [] => 0
  | r :: l => if ruErr r ≠ 0 then ruErr r else rusErr l
def rulesErr (l : List Ru) : Int := if 100 < l.length then 4 else rusErr l

theorem msErr_bad {m : Mt} {l : List Mt} (h : mErr m ≠ 0) : msErr (m :: l) = mErr m := by rw [msErr, if_pos h]
theorem msErr_next {m : Mt} {l : List Mt} (h : mErr m = 0) : msErr (m :: l) = msErr l := by rw [msErr, if_neg (by omega)]
theorem asErr_bad {m : Ac} {l : List Ac} (h : aErr m ≠ 0) : asErr (m :: l) = aErr m := by rw [asErr, if_pos h]
theorem asErr_next {m : Ac} {l : List Ac} (h : aErr m = 0) : asErr (m :: l) = asErr l := by rw [asErr, if_neg (by omega)]
theorem rusErr_bad {m : Ru} {l : List Ru} (h : ruErr m ≠ 0) : rusErr (m :: l) = ruErr m := by rw [rusErr, if_pos h]
theorem rusErr_next {m : Ru} {l : List Ru} (h : ruErr m = 0) : rusErr (m :: l) = rusErr l := by rw [rusErr, if_neg (by omega)]
theorem msErr_ok {l : List Mt} (h : msErr l = 0) : ∀ m ∈ l, mErr m = 0 := by
  induction l with
  | nil => simp
  | cons m l ih =>
    by_cases hm : mErr m = 0
    · rw [msErr_next hm] at h
      intro x hx
      rcases List.mem_cons.1 hx with rfl | hx
      · exact hm
      · exact ih h x hx
    · rw [msErr_bad hm] at h; exact absurd h hm
theorem asErr_ok {l : List Ac} (h : asErr l = 0) : ∀ m ∈ l, aErr m = 0 := by
  induction l with
  | nil => simp
  | cons m l ih =>
    by_cases hm : aErr m = 0
    · rw [asErr_next hm] at h
      intro x hx
      rcases List.mem_cons.1 hx with rfl | hx
      · exact hm
      · exact ih h x hx
    · rw [asErr_bad hm] at h; exact absurd h hm
theorem rusErr_ok {l : List Ru} (h : rusErr l = 0) : ∀ m ∈ l, ruErr m = 0 := by
  induction l with
  | nil => simp
  | cons m l ih =>
    by_cases hm : ruErr m = 0
    · rw [rusErr_next hm] at h
      intro x hx
      rcases List.mem_cons.1 hx with rfl | hx
      · exact hm
      · exact ih h x hx
    · rw [rusErr_bad hm] at h; exact absurd h hm
/-- What a right matcher has. -/
theorem mErr_fit {m : Mt} (h : mErr m = 0) : 1 ≤ m.on ∧ m.on ≤ 6 ∧ m.gl.size ≤ 100 := by
  unfold mErr at h
  split at h
  · omega
  · split at h
    · omega
    · split at h
      · omega
      · exact ⟨by omega, by omega, by omega⟩
theorem aErr_fit {a : Ac} (h : aErr a = 0) : 1 ≤ a.d ∧ a.d ≤ 6 ∧ a.t.size ≤ 100 ∧ (a.d = 5 → 1 ≤ a.n ∧ a.n ≤ 200) := by
  unfold aErr at h
  split at h
  · omega
  · split at h
    · omega
    · split at h
      · omega
      · split at h
        · omega
        · split at h
          · omega
          · exact ⟨by omega, by omega, by omega, fun _ => by omega⟩
theorem ruErr_fit {r : Ru} (h : ruErr r = 0) : r.ms.length ≤ 8 ∧ r.as.length ≤ 8 ∧ (∀ m ∈ r.ms, mErr m = 0) ∧ (∀ a ∈ r.as, aErr a = 0) := by
  unfold ruErr at h
  split at h
  · omega
  · split at h
    · omega
    · split at h
      · omega
      · exact ⟨by omega, by omega, msErr_ok (by omega), asErr_ok h⟩

/-! ### Texts -/
/-- A backslash ahead of each byte of a kind. -/
def escOf (p : UInt8 → Bool) (l : List UInt8) : List UInt8 := l.flatMap fun c => if p c then [92, c] else [c]
def qt (s : ByteArray) : List UInt8 := 34 :: (escOf (fun c => c == 34 || c == 92) s.data.toList ++ [34])

theorem replace_one (c : UInt8) : ∀ l : List UInt8, Lib.replaceK [c] [92, c] (l.count c) l = escOf (fun x => x == c) l
  | [] => rfl
  | b :: l => by
    by_cases h : b = c
    · subst h
      rw [List.count_cons_self, Lib.replaceK_hit _ _ _ _ 0 (by rw [Lib.index_one]; unfold Lib.indexByte; simp)]
      simp only [List.take_zero, List.nil_append, Nat.zero_add, List.length_singleton, List.drop_succ_cons, List.drop_zero]
      rw [replace_one b l]
      simp [escOf]
    · rw [List.count_cons_of_ne (by simpa using h)]
      have ih := replace_one c l
      cases hk : l.count c with
      | zero =>
        rw [hk] at ih
        show b :: l = _
        rw [Lib.replaceK] at ih
        have : escOf (fun x => x == c) (b :: l) = b :: escOf (fun x => x == c) l := by simp [escOf, h]
        rw [this, ← ih]
      | succ k =>
        rw [hk] at ih
        obtain ⟨i, hi⟩ := Lib.index_of_count (s := l) (old := [c]) (by rw [Lib.count_one]; omega)
        rw [Lib.replaceK_hit _ _ _ _ i hi] at ih
        rw [Lib.replaceK_hit _ _ _ _ (i + 1) (by
          rw [Lib.index_one] at hi ⊢
          unfold Lib.indexByte
          rw [if_neg (by simpa using h), if_neg (by rw [hi]; simp), hi]; omega)]
        have : escOf (fun x => x == c) (b :: l) = b :: escOf (fun x => x == c) l := by simp [escOf, h]
        rw [this, ← ih]
        simp only [List.take_succ_cons, List.length_singleton, List.drop_succ_cons, List.cons_append]
theorem replaceAll_one (c : UInt8) (l : List UInt8) : Lib.replaceAll l [c] [92, c] = escOf (fun x => x == c) l := by
  unfold Lib.replaceAll Lib.replace Lib.replaceNum
  rw [if_neg (by simp), if_pos (Or.inl (by decide)), Lib.count_one, replace_one]
theorem esc_twice (l : List UInt8) : escOf (fun x => x == 34) (escOf (fun x => x == 92) l) = escOf (fun c => c == 34 || c == 92) l := by
  induction l with
  | nil => rfl
  | cons b l ih =>
    have e : ∀ (p : UInt8 → Bool) (a m : List UInt8), escOf p (a ++ m) = escOf p a ++ escOf p m := fun p a m => by simp [escOf]
    have e1 : ∀ (p : UInt8 → Bool), escOf p (b :: l) = escOf p [b] ++ escOf p l := fun p => e p [b] l
    rw [e1, e1, e, ih]
    congr 1
    by_cases h1 : b = 92
    · subst h1; decide
    · by_cases h2 : b = 34
      · subst h2; decide
      · simp [escOf, h1, h2]
theorem escOf_len (p : UInt8 → Bool) (l : List UInt8) : (escOf p l).length ≤ 2 * l.length := by
  induction l with
  | nil => simp [escOf]
  | cons b l ih =>
    have : (escOf p (b :: l)).length = (if p b then 2 else 1) + (escOf p l).length := by
      simp only [escOf, List.flatMap_cons, List.length_append]
      split <;> rfl
    rw [this, List.length_cons]
    split <;> omega
theorem qt_len (s : ByteArray) : (qt s).length ≤ 2 * s.size + 2 := by
  unfold qt
  have := escOf_len (fun c => c == 34 || c == 92) s.data.toList
  rw [← Lib.size_eq] at this
  simp only [List.length_cons, List.length_append, List.length_nil]
  omega

def mWord (on : Int) : List UInt8 :=
  if on = 1 then [102, 117, 110, 99] else if on = 2 then [109, 111, 100, 117, 108, 101] else if on = 3 then [102, 105, 108, 101] else if on = 4 then [107, 105, 110, 100] else if on = 5 then [115, 97, 121] else [111, 119, 110]
def aWord (d : Int) : List UInt8 :=
  if d = 1 then [111, 119, 110] else if d = 2 then [45, 111, 119, 110] else if d = 3 then [104, 105, 100, 101] else if d = 4 then [115, 104, 111, 119] else if d = 5 then [109, 111, 115, 116, 61] else [107, 101, 121, 61]
def mText (m : Mt) : List UInt8 := (if m.nt then [33] else []) ++ mWord m.on ++ (if m.on = 6 then [] else 58 :: qt m.gl)
/-- The digits of a number from 0 on. -/
def digs (n : Int) : List UInt8 := Lib.decDigits n.toNat
def aText (a : Ac) : List UInt8 := aWord a.d ++ (if a.d = 5 then digs a.n else if a.d = 6 then qt a.t else [])
def rWords (r : Ru) : List (List UInt8) := r.ms.map mText ++ [[45, 62]] ++ r.as.map aText
def rText (r : Ru) : List UInt8 := Lib.join (rWords r) [32]
def rsText (l : List Ru) : List UInt8 := l.flatMap fun r => rText r ++ [10]
end Go.Proofs.YtooilpblbkgloaaGreatDoor

/- What the small checks of names, spans and ids answer. -/
import Derived.Test.YtcdaalnjanncmaaDoorFrameA
import Derived.Test.YtcdaalnjanncmaaDoorTabErr
import Derived.Test.YtcdaalnjanncmaaDoorShelf
import Derived.Shelf.Strings.SlTrimAscii
namespace Go.Proofs.YtcdaalnjanncmaaDoor
open Go.RowKit Go.Lib Go.Shelf

theorem fitS_le {s : ByteArray} (h : fitS s) : s.size ≤ maxLen := by unfold fitS at h; unfold maxLen; omega

set_option maxHeartbeats 1000000 in
set_option maxRecDepth 100000 in
theorem isSpan_any (a b c : Int) (w : World) :
    Calls Tryd.prog 83 #[.int .i64 a, .int .i64 b, .int .i64 c] w fun e w' => e = .returned (.bool (decide (spanOk a b c))) ∧ w' = w := by
  go_enter Tryd.func83, Tryd.ntmps83
  go_wp2_with fail
  all_goals (go_ret; exact ⟨ret_bool (by rw [Bool.eq_iff_iff]; simp only [decide_eq_true_eq, Bool.false_eq_true]; unfold spanOk; first | omega | (simp only [false_iff]; omega)), rfl⟩)

set_option maxHeartbeats 1000000 in
set_option maxRecDepth 100000 in
theorem checkName_any (s : ByteArray) (x : Fr) (w : World) (hx : x.fit) :
    Calls Tryd.prog 115 #[.string s, .agg #[.string x.m, .string x.f, .string x.i, .int .i64 x.line, .int .i64 x.addr, .bool x.own]] w fun e w' =>
      e = .returned (.int .i64 (if frErr x ≠ 0 then frErr x else if bang s = true then 9 else 0)) ∧ Below w.heap.size w w' := by
  have HF := Lib.hid (fun W => checkFrame_any x W hx.1 hx.2.1 hx.2.2)
  have HC := Lib.hid (fun W => Tryd.strings_Contains_one s 33 W)
  unfold Fr.val at HF
  have HB := Lib.hid (show bang s = decide (0 ≤ Lib.indexByte s.data.toList 33) from rfl)
  by_cases he : frErr x = 0
  · rw [he] at HF
    rw [if_neg (by omega)]
    cases hb : decide (0 ≤ Lib.indexByte s.data.toList 33)
    · rw [hb] at HC HB
      rw [HB.out]
      clear he hb
      go_enter Tryd.func115, Tryd.ntmps115
      go_wp2_with (first
        | (go_at_call 85; refine (HF.out _).mono ?_; rintro e w1 ⟨rfl, hb1⟩)
        | (go_at_call 49; refine (HC.out _).mono ?_; rintro e w2 ⟨rfl, rfl⟩))
      go_ret
      exact ⟨rfl, by first | exact hb1 | exact below_a1 (Below.refl _ _) (Nat.le_refl _) hb1⟩
    · rw [hb] at HC HB
      rw [HB.out]
      clear he hb
      go_enter Tryd.func115, Tryd.ntmps115
      go_wp2_with (first
        | (go_at_call 85; refine (HF.out _).mono ?_; rintro e w1 ⟨rfl, hb1⟩)
        | (go_at_call 49; refine (HC.out _).mono ?_; rintro e w2 ⟨rfl, rfl⟩))
      go_ret
      exact ⟨rfl, by first | exact hb1 | exact below_a1 (Below.refl _ _) (Nat.le_refl _) hb1⟩
  · rw [if_pos he]
    have hq : (frErr x != 0) = true := by simpa using he
    clear he
    generalize frErr x = E at *
    go_enter Tryd.func115, Tryd.ntmps115
    go_wp2_with (go_at_call 85; refine (HF.out _).mono ?_; rintro e w1 ⟨rfl, hb1⟩)
    go_ret
    exact ⟨rfl, by first | exact hb1 | exact below_a1 (Below.refl _ _) (Nat.le_refl _) hb1⟩

set_option maxHeartbeats 1000000 in
set_option maxRecDepth 100000 in
theorem checkFuncName_any (s : ByteArray) (w : World) (hs : fitS s) :
    Calls Tryd.prog 86 #[.string s] w fun e w' => e = .returned (.int .i64 (namErr s)) ∧ Below w.heap.size w w' := by
  have HN := Lib.hid (checkName_any s ⟨noB, s, noB, 0, -1, false⟩ w ⟨by show noB.size ≤ maxLen; decide, fitS_le hs, by show noB.size ≤ maxLen; decide⟩)
  unfold noB at HN
  have HE := Lib.hid (show namErr s = if frErr ⟨⟨#[]⟩, s, ⟨#[]⟩, 0, -1, false⟩ ≠ 0 then frErr ⟨⟨#[]⟩, s, ⟨#[]⟩, 0, -1, false⟩ else if bang s = true then 9 else 0 from rfl)
  rw [← HE.out] at HN
  go_enter Tryd.func86, Tryd.ntmps86
  go_wp2_with (go_at_call 115; refine HN.out.mono ?_; rintro e w1 ⟨rfl, hb1⟩)
  go_ret
  exact ⟨rfl, hb1⟩

theorem dropWhile_nil {α : Type} {p : α → Bool} : ∀ {l : List α}, l.dropWhile p = [] ↔ ∀ x ∈ l, p x = true
  | [] => by simp
  | a :: l => by
    rw [List.dropWhile_cons]
    cases h : p a
    · simp [h]
    · simp [h, dropWhile_nil (l := l)]
theorem dropWhile_mem {α : Type} {p : α → Bool} : ∀ {l : List α} {x : α}, x ∈ l.dropWhile p → x ∈ l
  | a :: l, x, h => by
    rw [List.dropWhile_cons] at h
    cases hp : p a
    · simpa [hp] using h
    · rw [hp, if_pos rfl] at h; exact List.mem_cons_of_mem _ (dropWhile_mem h)
theorem mem_dropWhile {α : Type} {p : α → Bool} : ∀ {l : List α} {x : α}, x ∈ l → p x = false → x ∈ l.dropWhile p
  | a :: l, x, h, hx => by
    rw [List.dropWhile_cons]
    cases hp : p a
    · simpa [hp] using h
    · rw [if_pos rfl]
      rw [List.mem_cons] at h
      rcases h with rfl | h
      · rw [hp] at hx; cases hx
      · exact mem_dropWhile h hx
theorem trim_empty {s : List UInt8} : (Lib.trimS s idSet = []) ↔ s.all (fun c => decide (c ∈ idSet)) = true := by
  unfold Lib.trimS Lib.trimLeftS Lib.trimRightS
  have hc : (fun c : UInt8 => decide (c ∈ idSet)) = (fun c => idSet.contains c) := by funext c; rw [Bool.eq_iff_iff]; simp
  rw [hc, dropWhile_nil, List.all_eq_true]
  constructor
  · intro h c hcs
    cases hn : idSet.contains c
    · have h1 : c ∈ s.reverse.dropWhile (fun x => idSet.contains x) := mem_dropWhile (by simpa using hcs) hn
      rw [h c (by simpa using h1)] at hn
      exact hn.symm
    · rfl
  · intro h c hcs
    exact h c (by simpa using dropWhile_mem (show c ∈ s.reverse.dropWhile (fun x => idSet.contains x) by simpa using hcs))

theorem idTrim (s : ByteArray) (w : World) (hs : s.size = 16) :
    Calls Tryd.prog 74 #[.string s, .string ⟨#[48, 49, 50, 51, 52, 53, 54, 55, 56, 57, 97, 98, 99, 100, 101, 102]⟩] w fun e w' => e = .returned (.string ⟨(Lib.trimS s.data.toList idSet).toArray⟩) ∧ Below w.heap.size w w' :=
  Any.strings_Trim_laid Tryd.lays160 (by kernel_rfl) s ⟨#[48, 49, 50, 51, 52, 53, 54, 55, 56, 57, 97, 98, 99, 100, 101, 102]⟩ w (by omega) (by decide) (ascii_of_all (by decide))

set_option maxHeartbeats 1000000 in
set_option maxRecDepth 100000 in
theorem isId_any (s : ByteArray) (w : World) (_ : fitS s) :
    Calls Tryd.prog 61 #[.string s] w fun e w' => e = .returned (.bool (isIdB s)) ∧ Below w.heap.size w w' := by
  by_cases hl : s.size = 16
  · have HT := Lib.hid (fun W => idTrim s W hl)
    have hz : ((s.size : Int) == 16) = true := by rw [beq_iff_eq]; omega
    have HE := Lib.hid (show isIdB s = s.data.toList.all (fun c => decide (c ∈ idSet)) by unfold isIdB; rw [decide_eq_true hl]; rfl)
    have HM := Lib.hid (trim_empty (s := s.data.toList))
    clear hl
    generalize Lib.trimS s.data.toList idSet = r at *
    by_cases hr : r = []
    · have HQ := Lib.hid (HM.out.1 hr)
      subst hr
      go_enter Tryd.func61, Tryd.ntmps61
      go_wp2_with (go_at_call 74; refine (HT.out _).mono ?_; rintro e w1 ⟨rfl, hb1⟩)
      go_ret
      exact ⟨ret_bool (by rw [HE.out, HQ.out]), hb1⟩
    · have HQ := Lib.hid (show s.data.toList.all (fun c => decide (c ∈ idSet)) = false by
        rw [Bool.eq_false_iff]; intro h; exact hr (HM.out.2 h))
      obtain ⟨a, l, rfl⟩ : ∃ a l, r = a :: l := by
        cases r with
        | nil => exact absurd rfl hr
        | cons a l => exact ⟨a, l, rfl⟩
      clear hr
      go_enter Tryd.func61, Tryd.ntmps61
      go_wp2_with (go_at_call 74; refine (HT.out _).mono ?_; rintro e w1 ⟨rfl, hb1⟩)
      go_ret
      exact ⟨ret_bool (by rw [HE.out, HQ.out]), hb1⟩
  · have hz : ((s.size : Int) == 16) = false := by rw [beq_eq_false_iff_ne]; omega
    have HE := Lib.hid (show isIdB s = false by unfold isIdB; rw [decide_eq_false hl]; rfl)
    clear hl
    go_enter Tryd.func61, Tryd.ntmps61
    go_wp2_with fail
    go_ret
    exact ⟨ret_bool HE.out.symm, Below.refl _ _⟩
end Go.Proofs.YtcdaalnjanncmaaDoor

/- What quote, matchWords, deeds, matchText and actText answer. -/
import Derived.Test.YtooilpblbkgloaaGreatDoorRuleB
import Derived.Test.YtooilpblbkgloaaGreatDoorPlainB
import Derived.Laws.EntriesVeiled
import Derived.Deep.RegionHeld3
import Derived.RegionTactic
import Derived.Deep.RegionWith
import Derived.Lib.ItoaNum
import Derived.Lib.LaidTab
namespace Go.Proofs.YtooilpblbkgloaaGreatDoor
open Go.RowKit Go.Lib Go.Deep

/-- What the texts need of the world: the cell of a variable of the library, and a table. -/
def Env (w : World) : Prop := (∃ m, w.cell? ⟨0, 0, none⟩ = some (.int .i64 m)) ∧ Lib.TabIs Tryz.prog w "internal/strconv.uint64pow10" .u64 Lib.pow10Tab
theorem cell_keep {W W' : World} {p : Addr} {v : Value} (h : W.cell? p = some v) (hb : Below W.heap.size W W') : W'.cell? p = some v := (hb.cell (World.block_lt_of_cell? _ _ h)).trans h
theorem below_keep {B : Nat} {a W W' : World} (h : Below B a W) (hB : B ≤ a.heap.size) (hb : Below W.heap.size W W') : Below B a W' := h.trans (hb.mono (by have := h.size; omega))
theorem cell_drew {w : World} {p : Addr} {v : Value} (h : w.cell? p = some v) : w.drew.cell? p = some v := h

set_option maxHeartbeats 1000000 in
set_option maxRecDepth 100000 in
theorem quote_any (s : ByteArray) (m : Int) (w : World) (hs : s.size ≤ 1000) (hm : w.cell? ⟨0, 0, none⟩ = some (.int .i64 m)) :
    Calls Tryz.prog 66 #[.string s] w fun e w' => e = .returned (.string (bs (qt s))) ∧ Below w.heap.size w w' := by
  have h1 := Tryz.strings_ReplaceAll s ⟨#[92]⟩ ⟨#[92, 92]⟩ m w (by omega) hm (by decide) (by
    have := Lib.count_le s.data.toList (⟨#[92]⟩ : ByteArray).data.toList
    rw [← Lib.size_eq] at this
    rw [show (⟨#[92, 92]⟩ : ByteArray).size = 2 from rfl]
    unfold Lib.countB
    omega)
  rw [show Lib.replaceAll s.data.toList (⟨#[92]⟩ : ByteArray).data.toList (⟨#[92, 92]⟩ : ByteArray).data.toList = escOf (fun x => x == 92) s.data.toList from replaceAll_one 92 _] at h1
  have HQ1 := Lib.hid h1
  have hz := escOf_len (fun x => x == 92) s.data.toList
  rw [← Lib.size_eq] at hz
  obtain ⟨u, hu⟩ : ∃ u, u = bs (escOf (fun x => x == 92) s.data.toList) := ⟨_, rfl⟩
  have hus : u.size ≤ 2000 := by rw [hu, bs_size]; omega
  have HU := Lib.hid (show escOf (fun x => x == 34) u.data.toList = escOf (fun c => c == 34 || c == 92) s.data.toList by rw [hu, bs_data, esc_twice])
  have HQ2 := Lib.hid (fun (W : World) (hb : Below w.heap.size w W) => Tryz.strings_ReplaceAll u ⟨#[34]⟩ ⟨#[92, 34]⟩ m W (by omega) (cell_keep hm hb) (by decide) (by
    have := Lib.count_le u.data.toList (⟨#[34]⟩ : ByteArray).data.toList
    rw [← Lib.size_eq] at this
    rw [show (⟨#[92, 34]⟩ : ByteArray).size = 2 from rfl]
    unfold Lib.countB
    omega))
  rw [show Lib.replaceAll u.data.toList (⟨#[34]⟩ : ByteArray).data.toList (⟨#[92, 34]⟩ : ByteArray).data.toList = escOf (fun x => x == 34) u.data.toList from replaceAll_one 34 _, HU.out] at HQ2
  rw [show (⟨(escOf (fun x => x == 92) s.data.toList).toArray⟩ : ByteArray) = u from hu.symm] at HQ1
  have HV := Lib.hid (show (⟨#[34]⟩ : ByteArray) ++ bs (escOf (fun c => c == 34 || c == 92) s.data.toList) ++ ⟨#[34]⟩ = bs (qt s) by
    rw [← Lib.mk_data ((⟨#[34]⟩ : ByteArray) ++ bs (escOf (fun c => c == 34 || c == 92) s.data.toList) ++ ⟨#[34]⟩)]
    show bs _ = _
    simp [qt, bs])
  have hz3 := escOf_len (fun c => c == 34 || c == 92) s.data.toList
  rw [← Lib.size_eq] at hz3
  have hz4 : (bs (escOf (fun c => c == 34 || c == 92) s.data.toList)).size ≤ 2000 := by rw [bs_size]; omega
  clear hu hz hz3 h1
  rw [show (⟨(escOf (fun c => c == 34 || c == 92) s.data.toList).toArray⟩ : ByteArray) = bs (escOf (fun c => c == 34 || c == 92) s.data.toList) from rfl] at HQ2
  generalize bs (escOf (fun c => c == 34 || c == 92) s.data.toList) = z at *
  have s1 : (⟨#[34]⟩ : ByteArray).size = 1 := rfl
  go_enter Tryz.func66, Tryz.ntmps66
  go_wp2_with (first
    | (go_at_call 87; (with_reducible refine HQ1.out.mono ?_); rintro e w1 ⟨rfl, hb1⟩)
    | (go_at_call 87; (with_reducible refine (HQ2.out _ hb1).mono ?_); rintro e w2 ⟨rfl, hb2⟩))
  all_goals first
    | (go_ret; exact ⟨by rw [HV.out]; rfl, below_keep hb1 (Nat.le_refl _) hb2⟩)
    | (exfalso; (try simp only [ByteArray.size_append] at *); omega)

/-- The words of matchers with their colon. -/
def mWordC (on : Int) : List UInt8 := if on = 6 then mWord on else mWord on ++ [58]
set_option maxHeartbeats 1000000 in
set_option maxRecDepth 100000 in
theorem matchWords_any (w : World) :
    Calls Tryz.prog 46 #[] w fun e w' => e = .returned (.slice (some ⟨w.heap.size, 0, none⟩) 6 6) ∧
      (w'.cell? ⟨w.heap.size, 0, none⟩ = some (.string (bs (mWordC 1))) ∧ w'.cell? ⟨w.heap.size, 1, none⟩ = some (.string (bs (mWordC 2))) ∧ w'.cell? ⟨w.heap.size, 2, none⟩ = some (.string (bs (mWordC 3))) ∧
       w'.cell? ⟨w.heap.size, 3, none⟩ = some (.string (bs (mWordC 4))) ∧ w'.cell? ⟨w.heap.size, 4, none⟩ = some (.string (bs (mWordC 5))) ∧ w'.cell? ⟨w.heap.size, 5, none⟩ = some (.string (bs (mWordC 6)))) ∧ Below w.heap.size w w' := by
  go_enter Tryz.func46, Tryz.ntmps46
  go_wp2_with fail
  go_ret
  exact ⟨rfl, ⟨by go_simp; rfl, by go_simp; rfl, by go_simp; rfl, by go_simp; rfl, by go_simp; rfl, by go_simp; rfl⟩, (Below.refl _ _).alloc (Nat.le_refl _) _⟩

set_option maxHeartbeats 1000000 in
set_option maxRecDepth 100000 in
theorem each_any (f : Nat) (w : World) :
    Calls Tryz.prog 74 #[.func (.func f) #[] #[]] w fun e w' => e = .returned (.func (.func 92) #[] #[.pointer (some ⟨w.heap.size, 0, none⟩)]) ∧ Below w.heap.size w w' := by
  go_enter Tryz.func74, Tryz.ntmps74
  go_wp2_with fail
  go_ret
  exact ⟨rfl, (Below.refl _ _).alloc (Nat.le_refl _) _⟩

/-- What deeds hands back: the words lie in a row. -/
def DeedsPost (w : World) (e : Ending) (w' : World) : Prop := ∃ B, e = .returned (.slice (some ⟨B, 0, none⟩) 6 6) ∧
  (w'.cell? ⟨B, 0, none⟩ = some (.string (bs (aWord 1))) ∧ w'.cell? ⟨B, 2, none⟩ = some (.string (bs (aWord 2))) ∧ w'.cell? ⟨B, 4, none⟩ = some (.string (bs (aWord 3))) ∧
   w'.cell? ⟨B, 6, none⟩ = some (.string (bs (aWord 4))) ∧ w'.cell? ⟨B, 8, none⟩ = some (.string (bs (aWord 5))) ∧ w'.cell? ⟨B, 10, none⟩ = some (.string (bs (aWord 6)))) ∧ Below w.heap.size w w'
set_option maxHeartbeats 2000000 in
set_option maxRecDepth 100000 in
theorem deeds_any (w : World) : Calls Tryz.prog 50 #[] w (DeedsPost w) := by
  have H1 := Lib.hid (fun f W => each_any f W)
  go_enter Tryz.func50, Tryz.ntmps50
  go_wp2_with fail
  refine (H1.out _ _).mono ?_
  rintro e w1 ⟨rfl, hb1⟩
  have k1 := hb1
  go_wp2_with fail
  refine (H1.out _ _).mono ?_
  rintro e w2 ⟨rfl, hb2⟩
  have k2 := below_keep k1 (Nat.le_refl _) hb2
  go_wp2_with fail
  refine (H1.out _ _).mono ?_
  rintro e w3 ⟨rfl, hb3⟩
  have k3 := below_keep k2 (Nat.le_refl _) hb3
  go_wp2_with fail
  refine (H1.out _ _).mono ?_
  rintro e w4 ⟨rfl, hb4⟩
  have k4 := below_keep k3 (Nat.le_refl _) hb4
  go_wp2_with fail
  go_ret
  exact ⟨w4.heap.size, rfl, ⟨by go_simp; rfl, by go_simp; rfl, by go_simp; rfl, by go_simp; rfl, by go_simp; rfl, by go_simp; rfl⟩, k4.alloc k4.size _⟩

theorem app_bs (a b : List UInt8) : bs a ++ bs b = bs (a ++ b) := by
  rw [← Lib.mk_data (bs a ++ bs b)]
  show bs _ = _
  simp [bs]
theorem mWordC_len (on : Int) : (mWordC on).length ≤ 7 := by
  unfold mWordC mWord
  (repeat' split) <;> simp
theorem mText_of (on : Int) (nt : Bool) (gl : ByteArray) : mText ⟨on, nt, gl⟩ = (if nt then [33] else []) ++ mWordC on ++ (if on = 6 then [] else qt gl) := by
  unfold mText mWordC
  by_cases h : on = 6
  · rw [if_pos h, if_pos h, if_pos h]
  · rw [if_neg h, if_neg h, if_neg h]; simp

theorem words_at (j : Nat) (hj : j < 6) (w : World) :
    Calls Tryz.prog 46 #[] w fun e w' => e = .returned (.slice (some ⟨w.heap.size, 0, none⟩) 6 6) ∧ w'.cell? ⟨w.heap.size, j, none⟩ = some (.string (bs (mWordC ((j : Int) + 1)))) ∧ Below w.heap.size w w' := by
  refine (matchWords_any w).mono ?_
  rintro e w' ⟨he, ⟨x0, x1, x2, x3, x4, x5⟩, hb⟩
  refine ⟨he, ?_, hb⟩
  obtain rfl | rfl | rfl | rfl | rfl | rfl : j = 0 ∨ j = 1 ∨ j = 2 ∨ j = 3 ∨ j = 4 ∨ j = 5 := by omega
  · exact x0
  · exact x1
  · exact x2
  · exact x3
  · exact x4
  · exact x5

set_option maxHeartbeats 2000000 in
set_option maxRecDepth 100000 in
theorem matchText_at (j : Nat) (hj : j < 6) (nt : Bool) (gl : ByteArray) (m : Int) (w : World) (hg : gl.size ≤ 100) (hm : w.cell? ⟨0, 0, none⟩ = some (.int .i64 m)) :
    Calls Tryz.prog 41 #[.agg #[.int .i64 ((j : Int) + 1), .bool nt, .string gl]] w fun e w' => e = .returned (.string (bs (mText ⟨(j : Int) + 1, nt, gl⟩))) ∧ Below w.heap.size w w' := by
  obtain ⟨T, hT⟩ : ∃ T, T = bs (mText ⟨(j : Int) + 1, nt, gl⟩) := ⟨_, rfl⟩
  have HT := Lib.hid (show (nt = false → j = 5 → bs (mWordC ((j : Int) + 1)) = T) ∧ (nt = true → j = 5 → ⟨#[33]⟩ ++ bs (mWordC ((j : Int) + 1)) = T) ∧ (nt = false → j ≠ 5 → bs (mWordC ((j : Int) + 1)) ++ bs (qt gl) = T) ∧ (nt = true → j ≠ 5 → ⟨#[33]⟩ ++ bs (mWordC ((j : Int) + 1)) ++ bs (qt gl) = T) from by
    have a1 : ∀ x, (⟨#[33]⟩ : ByteArray) ++ bs x = bs ([33] ++ x) := fun x => app_bs [33] x
    rw [hT, mText_of]
    refine ⟨fun h1 h2 => ?_, fun h1 h2 => ?_, fun h1 h2 => ?_, fun h1 h2 => ?_⟩
    · rw [h1, if_neg (by decide), if_pos (by omega)]; simp
    · rw [h1, if_pos rfl, if_pos (by omega), a1]; simp
    · rw [h1, if_neg (by decide), if_neg (by omega), app_bs]; simp
    · rw [h1, if_pos rfl, if_neg (by omega), a1, app_bs])
  rw [← hT]
  clear hT
  have HQ := Lib.hid (fun (W : World) (hb : Below w.heap.size w W) => quote_any gl m W (by omega) (cell_keep hm hb))
  have HW := Lib.hid (fun (W : World) => words_at j hj W)
  have hzw : (bs (mWordC ((j : Int) + 1))).size ≤ 7 := by rw [bs_size]; exact mWordC_len _
  have hzq : (bs (qt gl)).size ≤ 202 := by rw [bs_size]; have := qt_len gl; omega
  have s1 : (⟨#[33]⟩ : ByteArray).size = 1 := rfl
  have hj1 : (j : Int) < 6 := by omega
  have hw1 : IntKind.i64.wrap ((j : Int) + 1 - 1) = (j : Int) := by rw [show (j : Int) + 1 - 1 = (j : Int) by omega]; exact IntWalk.i64_in _ (by omega)
  have hw2 : IntKind.i64.wrap (j : Int) = (j : Int) := IntWalk.i64_in _ (by omega)
  have hj0 : (0 : Int) ≤ (j : Int) := by omega
  have h6 : (((j : Int) + 1 == 6)) = decide (j = 5) := by rw [Bool.eq_iff_iff]; simp; omega
  have g6 : (((j : Int) + 1 != 6)) = !decide (j = 5) := bne_of h6
  have c0 : (w.alloc (.cells #[.int .i64 ((j : Int) + 1), .bool nt, .string gl] 46)).cell? ⟨w.heap.size, 0, none⟩ = some (.int .i64 ((j : Int) + 1)) := by go_simp
  have c1 : (w.alloc (.cells #[.int .i64 ((j : Int) + 1), .bool nt, .string gl] 46)).cell? ⟨w.heap.size, 1, none⟩ = some (.bool nt) := by go_simp
  have c2 : (w.alloc (.cells #[.int .i64 ((j : Int) + 1), .bool nt, .string gl] 46)).cell? ⟨w.heap.size, 2, none⟩ = some (.string gl) := by go_simp
  have hb0 : Below w.heap.size w (w.alloc (.cells #[.int .i64 ((j : Int) + 1), .bool nt, .string gl] 46)) := (Below.refl _ _).alloc (Nat.le_refl _) _
  cases h5 : decide (j = 5)
  all_goals
    rw [h5] at h6 g6
    have H5 := Lib.hid h5
    clear h5
    go_enter Tryz.func41, Tryz.ntmps41
    go_wp2_with fail
    go_region_with (first | (go_at_call 46; (with_reducible refine (HW.out _).mono ?_); rintro e wX ⟨rfl, x0, hbX⟩; have x1 : World.cell? _ ⟨w.heap.size + 1, j, none⟩ = some (.string (bs (mWordC ((j : Int) + 1)))) := (by simpa using x0); have y0 : World.cell? _ ⟨w.heap.size, 0, none⟩ = some (.int .i64 ((j : Int) + 1)) := cell_keep (by first | assumption | exact cell_drew (by assumption)) hbX; have y1 : World.cell? _ ⟨w.heap.size, 1, none⟩ = some (.bool nt) := cell_keep (by first | assumption | exact cell_drew (by assumption)) hbX; have y2 : World.cell? _ ⟨w.heap.size, 2, none⟩ = some (.string gl) := cell_keep (by first | assumption | exact cell_drew (by assumption)) hbX; have hbN : Below w.heap.size w _ := below_keep (by first | assumption | exact Below.drew (by assumption)) (Nat.le_refl _) hbX))
    all_goals
      clear x0 hbX c0 c1 c2
      cases nt
      all_goals
        go_wp2_with (go_at_call 66; refine (HQ.out _ hbN).mono ?_; rintro e wY ⟨rfl, hbY⟩)
        all_goals first
          | (go_ret
             have e5 := H5.out
             simp only [decide_eq_true_eq, decide_eq_false_iff_not] at e5
             first
               | exact ⟨congrArg (fun x => Ending.returned (Value.string x)) (HT.out.1 (by simp) e5), hbN⟩
               | exact ⟨congrArg (fun x => Ending.returned (Value.string x)) (HT.out.2.1 (by simp) e5), hbN⟩
               | exact ⟨congrArg (fun x => Ending.returned (Value.string x)) (HT.out.2.2.1 (by simp) e5), below_keep hbN (Nat.le_refl _) hbY⟩
               | exact ⟨congrArg (fun x => Ending.returned (Value.string x)) (HT.out.2.2.2 (by simp) e5), below_keep hbN (Nat.le_refl _) hbY⟩)
          | (exfalso; (try simp only [ByteArray.size_append] at *); omega)
theorem matchText_any (mt : Mt) (m : Int) (w : World) (hf : mErr mt = 0) (hm : w.cell? ⟨0, 0, none⟩ = some (.int .i64 m)) :
    Calls Tryz.prog 41 #[mVal mt] w fun e w' => e = .returned (.string (bs (mText mt))) ∧ Below w.heap.size w w' := by
  obtain ⟨h1, h2, h3⟩ := mErr_fit hf
  clear hf
  obtain ⟨on, nt, gl⟩ := mt
  simp only at h1 h2 h3
  have := matchText_at (on - 1).toNat (by omega) nt gl m w h3 hm
  rw [show ((on - 1).toNat : Int) + 1 = on by omega] at this
  exact this
end Go.Proofs.YtooilpblbkgloaaGreatDoor

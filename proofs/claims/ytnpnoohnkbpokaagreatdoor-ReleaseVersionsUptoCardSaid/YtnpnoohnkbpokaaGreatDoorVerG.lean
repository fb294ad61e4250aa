/- What the reference's small checks answer. -/
import Derived.Test.YtnpnoohnkbpokaaGreatDoorVerE
import Derived.Shelf.Strings.SlTrimAscii
namespace Go.Proofs.YtnpnoohnkbpokaaGreatDoor
open Go.RowKit Go.Lib Go.Shelf

theorem dropWhile_nil {α : Type} {p : α → Bool} {l : List α} : l.dropWhile p = [] ↔ ∀ c ∈ l, p c = true := by
  induction l with
  | nil => simp
  | cons a l ih =>
    rw [List.dropWhile_cons]
    cases hp : p a
    · simp [hp]
    · simp [hp, ih]
theorem dropWhile_mem {α : Type} {p : α → Bool} : ∀ {l : List α} {x : α}, x ∈ l.dropWhile p → x ∈ l
  | a :: l, x, h => by
    rw [List.dropWhile_cons] at h
    split at h
    · exact List.mem_cons_of_mem _ (dropWhile_mem h)
    · exact h
theorem mem_dropWhile {α : Type} {p : α → Bool} : ∀ {l : List α} {x : α}, x ∈ l → p x = false → x ∈ l.dropWhile p
  | a :: l, x, h, hx => by
    rw [List.dropWhile_cons]
    cases hp : p a
    · simpa [hp] using h
    · rw [if_pos rfl]
      rw [List.mem_cons] at h
      rcases h with rfl | h
      · rw [hp] at hx; cases hx
      · exact mem_dropWhile h hx
theorem trim_empty {s C : List UInt8} : (Lib.trimS s C = []) ↔ s.all (fun c => decide (c ∈ C)) = true := by
  unfold Lib.trimS Lib.trimLeftS Lib.trimRightS
  have hc : (fun c : UInt8 => decide (c ∈ C)) = (fun c => C.contains c) := by funext c; rw [Bool.eq_iff_iff]; simp
  rw [hc, dropWhile_nil, List.all_eq_true]
  constructor
  · intro h c hcs
    cases hn : C.contains c
    · have h1 : c ∈ s.reverse.dropWhile (fun x => C.contains x) := mem_dropWhile (by simpa using hcs) hn
      rw [h c (by simpa using h1)] at hn
      exact hn.symm
    · rfl
  · intro h c hcs
    exact h c (by simpa using dropWhile_mem (show c ∈ s.reverse.dropWhile (fun x => C.contains x) by simpa using hcs))

abbrev setD : ByteArray := ⟨#[48, 49, 50, 51, 52, 53, 54, 55, 56, 57]⟩
abbrev setA : ByteArray := ⟨#[97, 98, 99, 100, 101, 102, 103, 104, 105, 106, 107, 108, 109, 110, 111, 112, 113, 114, 115, 116, 117, 118, 119, 120, 121, 122, 48, 49, 50, 51, 52, 53, 54, 55, 56, 57]⟩
abbrev setN : ByteArray := ⟨#[97, 98, 99, 100, 101, 102, 103, 104, 105, 106, 107, 108, 109, 110, 111, 112, 113, 114, 115, 116, 117, 118, 119, 120, 121, 122, 48, 49, 50, 51, 52, 53, 54, 55, 56, 57, 45, 46, 95]⟩
theorem byte_all {p q : UInt8 → Bool} (h : ∀ n : Fin 256, p (UInt8.ofNat n.val) = q (UInt8.ofNat n.val)) (c : UInt8) : p c = q c := by
  have := h ⟨c.toNat, UInt8.toNat_lt c⟩
  simpa using this
theorem setD_eq : (fun c => decide (c ∈ setD.data.toList)) = dg := funext fun c => byte_all (p := fun c => decide (c ∈ setD.data.toList)) (q := dg) (by decide +kernel) c
theorem setA_eq : (fun c => decide (c ∈ setA.data.toList)) = al := funext fun c => byte_all (p := fun c => decide (c ∈ setA.data.toList)) (q := al) (by decide +kernel) c
theorem setN_eq : (fun c => decide (c ∈ setN.data.toList)) = nm := funext fun c => byte_all (p := fun c => decide (c ∈ setN.data.toList)) (q := nm) (by decide +kernel) c

theorem trim_hit (s C : ByteArray) (p : UInt8 → Bool) (w : World) (hs : s.size ≤ 1048576) (hc : C.size < 4294967281) (ha : C.data.toList.all (fun b => decide (b.toNat < 128)) = true) (hp : (fun c => decide (c ∈ C.data.toList)) = p) (h : s.data.toList.all p = true) :
    Calls Tryz.prog 50 #[.string s, .string C] w fun e w' => e = .returned (.string ⟨#[]⟩) ∧ Below w.heap.size w w' := by
  refine (Any.strings_Trim_laid Tryz.lays160 (by kernel_rfl) s C w (by omega) hc (ascii_of_all ha)).mono ?_
  rintro e w' ⟨rfl, hb⟩
  rw [trim_empty.2 (by rw [hp]; exact h)]
  exact ⟨rfl, hb⟩
theorem trim_miss (s C : ByteArray) (p : UInt8 → Bool) (w : World) (hs : s.size ≤ 1048576) (hc : C.size < 4294967281) (ha : C.data.toList.all (fun b => decide (b.toNat < 128)) = true) (hp : (fun c => decide (c ∈ C.data.toList)) = p) (h : s.data.toList.all p = false) :
    Calls Tryz.prog 50 #[.string s, .string C] w fun e w' => (∃ a l, e = .returned (.string ⟨(a :: l).toArray⟩)) ∧ Below w.heap.size w w' := by
  refine (Any.strings_Trim_laid Tryz.lays160 (by kernel_rfl) s C w (by omega) hc (ascii_of_all ha)).mono ?_
  rintro e w' ⟨rfl, hb⟩
  refine ⟨?_, hb⟩
  cases hr : Lib.trimS s.data.toList C.data.toList with
  | nil => rw [trim_empty, hp, h] at hr; cases hr
  | cons a l => exact ⟨a, l, rfl⟩

set_option maxHeartbeats 1000000 in
set_option maxRecDepth 100000 in
theorem nameOk_any (s : ByteArray) (w : World) (hs : s.size ≤ 1048576) :
    Calls Tryz.prog 30 #[.string s] w fun e w' => e = .returned (.bool (nameB s.data.toList)) ∧ Below w.heap.size w w' := by
  by_cases h0 : s.size = 0
  · have hz : (!s.toList.isEmpty) = false := by rw [isEmpty_eq]; simp [h0]
    rw [show nameB s.data.toList = false by unfold nameB; rw [is_nil s h0]; rfl]
    clear h0
    go_enter Tryz.func30, Tryz.ntmps30
    go_wp2_with fail
    go_ret
    exact ⟨rfl, Below.refl _ _⟩
  · have hz : (!s.toList.isEmpty) = true := by rw [isEmpty_eq]; simp [h0]
    have hpos : 0 < s.size := by omega
    rw [nameB_eq s hpos, sm_eq]
    clear h0
    by_cases h1 : s.size ≤ 40
    · have hd : decide ((s.size : Int) ≤ 40) = true := by simp; omega
      rw [decide_eq_true h1]
      by_cases h2 : (97 : Int) ≤ s[0].toNat
      · have e2 : decide ((97 : Int) ≤ (s[0].toNat : Int)) = true := decide_eq_true h2
        by_cases h3 : (s[0].toNat : Int) ≤ 122
        · have e3 : decide ((s[0].toNat : Int) ≤ 122) = true := decide_eq_true h3
          rw [decide_eq_true (p := (97 : Int) ≤ s[0].toNat ∧ (s[0].toNat : Int) ≤ 122) ⟨h2, h3⟩]
          clear h2 h3 h1
          cases ha : s.data.toList.all nm
          · have HT := Lib.hid (fun W => trim_miss s setN nm W hs (by decide) (by decide) setN_eq ha)
            clear ha
            go_enter Tryz.func30, Tryz.ntmps30
            go_wp2_with (go_at_call 50; refine (HT.out _).mono ?_; rintro e w1 ⟨⟨a, l, rfl⟩, hb⟩)
            go_ret
            exact ⟨rfl, hb⟩
          · have HT := Lib.hid (fun W => trim_hit s setN nm W hs (by decide) (by decide) setN_eq ha)
            clear ha
            go_enter Tryz.func30, Tryz.ntmps30
            go_wp2_with (go_at_call 50; refine (HT.out _).mono ?_; rintro e w1 ⟨rfl, hb⟩)
            go_ret
            exact ⟨rfl, hb⟩
        · have e3 : decide ((s[0].toNat : Int) ≤ 122) = false := decide_eq_false h3
          rw [decide_eq_false (p := (97 : Int) ≤ s[0].toNat ∧ (s[0].toNat : Int) ≤ 122) (fun h => h3 h.2)]
          clear h2 h3 h1
          go_enter Tryz.func30, Tryz.ntmps30
          go_wp2_with fail
          go_ret
          exact ⟨rfl, Below.refl _ _⟩
      · have e2 : decide ((97 : Int) ≤ (s[0].toNat : Int)) = false := decide_eq_false h2
        rw [decide_eq_false (p := (97 : Int) ≤ s[0].toNat ∧ (s[0].toNat : Int) ≤ 122) (fun h => h2 h.1)]
        clear h2 h1
        go_enter Tryz.func30, Tryz.ntmps30
        go_wp2_with fail
        go_ret
        exact ⟨rfl, Below.refl _ _⟩
    · have hd : decide ((s.size : Int) ≤ 40) = false := by simp; omega
      rw [decide_eq_false h1]
      clear h1
      go_enter Tryz.func30, Tryz.ntmps30
      go_wp2_with fail
      go_ret
      exact ⟨rfl, Below.refl _ _⟩

set_option maxHeartbeats 1000000 in
set_option maxRecDepth 100000 in
theorem projectOk_any (s : ByteArray) (w : World) (hs : s.size ≤ 1048576) :
    Calls Tryz.prog 19 #[.string s] w fun e w' => e = .returned (.bool (projB s.data.toList)) ∧ Below w.heap.size w w' := by
  have HN := Lib.hid (fun W => nameOk_any s W hs)
  have HC := Lib.hid (fun W => Tryz.strings_Contains_one s 46 W)
  unfold projB
  generalize decide (0 ≤ Lib.indexByte s.data.toList 46) = c at *
  generalize nameB s.data.toList = n at *
  cases n <;> cases c
  all_goals
    go_enter Tryz.func19, Tryz.ntmps19
    go_wp2_with (first
      | (go_at_call 30; refine (HN.out _).mono ?_; rintro e w1 ⟨rfl, hb⟩)
      | (go_at_call 39; refine (HC.out _).mono ?_; rintro e w2 ⟨rfl, rfl⟩))
    go_ret
    exact ⟨rfl, hb⟩

set_option maxHeartbeats 1000000 in
theorem out_any (n lo hi : Int) (w : World) :
    Calls Tryz.prog 20 #[.int .i64 n, .int .i64 lo, .int .i64 hi] w fun e w' => e = .returned (.bool (decide (n < lo ∨ hi < n))) ∧ w' = w := by
  go_enter Tryz.func20, Tryz.ntmps20
  go_wp2_with fail
  all_goals (go_ret; refine ⟨ret_bool ?_, rfl⟩; simp; try omega)

theorem zero_str (s : ByteArray) (h1 : s.size = 1) (h : ∀ hp : 0 < s.size, s[0] = 48) : s = ⟨#[48]⟩ := by
  have hs := Lib.size_eq s
  have e : s.data.toList = [48] := by
    rw [h1] at hs
    match hl : s.data.toList, hs with
    | [c], _ =>
      have := h (by omega)
      rw [← headD_eq s (by omega), hl] at this
      simp at this; rw [this]
  rw [← Lib.mk_data s, e]
theorem toList_one (s : ByteArray) (h1 : 1 < s.size) : (s.toList == ([48] : List UInt8)) = false := by
  rw [beq_eq_false_iff_ne, Lib.toList_data]
  intro h
  have := Lib.size_eq s
  rw [h] at this; simp at this; omega

set_option maxHeartbeats 1000000 in
set_option maxRecDepth 100000 in
theorem whole_any (s : ByteArray) (most : Nat) (w : World) (hm : most ≤ 18) (hs : s.size ≤ 1048576) :
    Calls Tryz.prog 51 #[.string s, .int .i64 most] w fun e w' => e = .returned (.tuple #[.int .i64 (rdNum most s.data.toList), .bool (numOk most s.data.toList)]) ∧ Below w.heap.size w w' := by
  unfold rdNum
  by_cases h0 : s.size = 0
  · have hz : (s.toList == ([] : List UInt8)) = true := by rw [eqEmpty_eq]; simp [h0]
    have hz2 : s.toList.isEmpty = true := by rw [isEmpty_eq]; simp [h0]
    rw [show numOk most s.data.toList = false by unfold numOk; rw [is_nil s h0]; rfl]
    clear h0
    go_enter Tryz.func51, Tryz.ntmps51
    go_wp2_with fail
    go_ret2
    exact ⟨rfl, Below.refl _ _⟩
  · have hz : (s.toList == ([] : List UInt8)) = false := by rw [eqEmpty_eq]; simp [h0]
    have hz2 : s.toList.isEmpty = false := by rw [isEmpty_eq]; simp [h0]
    have hpos : 0 < s.size := by omega
    clear h0
    by_cases h1 : s.size ≤ most
    · have hd : decide ((most : Int) < (s.size : Int)) = false := by simp; omega
      have hdn : decide (most < s.size) = false := by simp; omega
      cases ha : s.data.toList.all dg
      · rw [show numOk most s.data.toList = false by rw [numOk_eq s most hpos, ha]; simp]
        have HT := Lib.hid (fun W => trim_miss s setD dg W hs (by decide) (by decide) setD_eq ha)
        clear ha h1
        go_enter Tryz.func51, Tryz.ntmps51
        go_wp2_with (go_at_call 50; refine (HT.out _).mono ?_; rintro e w1 ⟨⟨a, l, rfl⟩, hb⟩)
        go_ret2
        exact ⟨rfl, hb⟩
      · have HT := Lib.hid (fun W => trim_hit s setD dg W hs (by decide) (by decide) setD_eq ha)
        obtain ⟨n, hn⟩ := digs_atoi (ne_nil s hpos) ha
        have HA := Lib.hid (fun W => atoi_any s n (by omega) hn W)
        have hnv : numV s.data.toList = n := by unfold numV; rw [hn]; rfl
        by_cases h48 : s[0] = 48
        · have e48 : ((s[0].toNat : Int) == 48) = true := by rw [h48]; rfl
          by_cases h2 : 1 < s.size
          · rw [show numOk most s.data.toList = false by rw [numOk_eq s most hpos, decide_eq_true h2, h48]; simp]
            have h3 := toList_one s h2
            have h4 : (s.toList != ([48] : List UInt8)) = true := by unfold bne; rw [h3]; rfl
            clear ha h1 hn h48 h2
            go_enter Tryz.func51, Tryz.ntmps51
            go_wp2_with (go_at_call 50; refine (HT.out _).mono ?_; rintro e w1 ⟨rfl, hb⟩)
            go_ret2
            exact ⟨rfl, hb⟩
          · obtain rfl := zero_str s (by omega) (fun _ => h48)
            have h1' : 1 ≤ most := h1
            have hd1 : decide ((most : Int) < 1) = false := by simp; omega
            have hn1 : ¬ ((most : Int) < 1) := by omega
            rw [show numOk most (⟨#[48]⟩ : ByteArray).data.toList = true by rw [numOk_eq _ most hpos, ha, decide_eq_true h1]; rfl, if_pos rfl, hnv]
            clear ha h1 hn h48 h2 e48
            go_enter Tryz.func51, Tryz.ntmps51
            go_wp2_with (first
              | (go_at_call 50; refine (HT.out _).mono ?_; rintro e w1 ⟨rfl, hb⟩)
              | (go_at_call 55; refine (HA.out _).mono ?_; rintro e w2 ⟨rfl, hb2⟩))
            go_quiet (fail)
            go_wp2_with fail
            go_ret2
            exact ⟨rfl, below_drewE (below_keep hb (Nat.le_refl _) hb2) _⟩
        · have e48 : ((s[0].toNat : Int) == 48) = false := by
            rw [beq_eq_false_iff_ne]; intro hc; exact h48 (by apply UInt8.toNat_inj.1; show s[0].toNat = 48; omega)
          rw [show numOk most s.data.toList = true by
            rw [numOk_eq s most hpos, decide_eq_true h1, ha, show (s[0] == 48) = false from beq_eq_false_iff_ne.2 h48]; simp, if_pos rfl, hnv]
          clear ha h1 hn h48
          go_enter Tryz.func51, Tryz.ntmps51
          go_wp2_with (first
            | (go_at_call 50; refine (HT.out _).mono ?_; rintro e w1 ⟨rfl, hb⟩)
            | (go_at_call 55; refine (HA.out _).mono ?_; rintro e w2 ⟨rfl, hb2⟩))
          go_quiet (fail)
          go_wp2_with fail
          go_ret2
          exact ⟨rfl, below_drewE (below_keep hb (Nat.le_refl _) hb2) _⟩
    · have hd : decide ((most : Int) < (s.size : Int)) = true := by simp; omega
      have hdn : decide (most < s.size) = true := by simp; omega
      rw [show numOk most s.data.toList = false by rw [numOk_eq s most hpos, decide_eq_false h1]; rfl]
      clear h1
      go_enter Tryz.func51, Tryz.ntmps51
      go_wp2_with fail
      go_ret2
      exact ⟨rfl, Below.refl _ _⟩
end Go.Proofs.YtnpnoohnkbpokaaGreatDoor

/- What Fits answers. -/
import Derived.Test.YtooilpblbkgloaaDoorChecked
import Derived.Test.YtooilpblbkgloaaDoorShelf
import Derived.Test.YtooilpblbkgloaaDoorGlob
import Derived.WalkKit
import Derived.BigQuiet
import Derived.Deep.QuietTactic
import Derived.Lib.Hide
import Derived.IntWalk
namespace Go.Proofs.YtooilpblbkgloaaDoor
open Go.RowKit Go.Lib

theorem ret_bool {a b : Bool} (h : a = b) : Ending.returned (.bool a) = .returned (.bool b) := by rw [h]
theorem below_drewN {B : Nat} {a w : World} (h : Below B a w) (n : Nat) : Below B a (w.drewN n) := ⟨h.os, h.tape, h.output, h.size, h.block⟩
theorem below_or {B : Nat} {a w w' : World} (h : Below B a w) (h' : w' = w ∨ w' = w.drew) : Below B a w' := by
  rcases h' with rfl | rfl
  · exact h
  · exact h.drew
theorem u8_eq {a b : UInt8} : (((a.toNat : Int) == (b.toNat : Int)) = true) ↔ a = b := by
  rw [beq_iff_eq]
  constructor
  · intro h; exact UInt8.toNat_inj.1 (by exact_mod_cast h)
  · rintro rfl; rfl
theorem u8_ne {a b : UInt8} (h : a ≠ b) : ((a.toNat : Int) == (b.toNat : Int)) = false := by
  rw [Bool.eq_false_iff]; intro h'; exact h (u8_eq.1 h')
theorem dropWhile_nil {α : Type} {p : α → Bool} : ∀ {l : List α}, l.dropWhile p = [] ↔ ∀ x ∈ l, p x = true
  | [] => by simp
  | a :: l => by
    rw [List.dropWhile_cons]
    cases h : p a
    · simp [h]
    · simp [h, dropWhile_nil (l := l)]
theorem dropWhile_mem {α : Type} {p : α → Bool} : ∀ {l : List α} {x : α}, x ∈ l.dropWhile p → x ∈ l
  | a :: l, x, h => by
    rw [List.dropWhile_cons] at h
    cases hp : p a
    · simpa [hp] using h
    · rw [hp, if_pos rfl] at h; exact List.mem_cons_of_mem _ (dropWhile_mem h)
theorem mem_dropWhile {α : Type} {p : α → Bool} : ∀ {l : List α} {x : α}, x ∈ l → p x = false → x ∈ l.dropWhile p
  | a :: l, x, h, hx => by
    rw [List.dropWhile_cons]
    cases hp : p a
    · simpa [hp] using h
    · rw [if_pos rfl]
      rw [List.mem_cons] at h
      rcases h with rfl | h
      · rw [hp] at hx; cases hx
      · exact mem_dropWhile h hx

/-- What the loop keeps, with the four variables' values. -/
def FitsRel (G S : List UInt8) (v5 v6 v7 v8 : Value) (g i n : Nat) (bh : Int) : Prop :=
  v5 = .int .i64 g ∧ v6 = .int .i64 i ∧ v7 = .int .i64 bh ∧ v8 = .int .i64 n ∧ g ≤ G.length ∧ i ≤ S.length ∧ n ≤ i ∧ Inv G S g i bh n ∧ (bh = -1 ∨ ∃ b : Nat, bh = b ∧ b ≤ g)

theorem trimB_nil {l : List UInt8} : Lib.trimB l 42 = [] ↔ ∀ c ∈ l, c = 42 := by
  unfold Lib.trimB Lib.trimLeftB Lib.trimRightB
  rw [dropWhile_nil]
  constructor
  · intro h c hc
    by_cases hne : c = 42
    · exact hne
    · have h1 : c ∈ l.reverse.dropWhile (· == 42) := mem_dropWhile (by simpa using hc) (by simpa using hne)
      simpa using h c (by simpa using h1)
  · intro h c hc
    simpa using h c (by simpa using dropWhile_mem (show c ∈ l.reverse.dropWhile (· == 42) by simpa using hc))
theorem extract_drop {G : ByteArray} {g : Nat} : (G.extract g G.size).data.toList = G.data.toList.drop g := by
  have h : G.size = G.data.toList.length := Lib.size_eq G
  rw [Lib.extract_data, List.take_of_length_le (by rw [List.length_drop]; omega)]

theorem mz_star {S G i n g : Nat} (h : n ≤ i) (hg : g < G) : (S + 1 - i) * (G + 1) + (G - (g + 1)) < (S + 1 - n) * (G + 1) + (G - g) := by
  have := Nat.mul_le_mul_right (G + 1) (show S + 1 - i ≤ S + 1 - n by omega)
  omega
theorem mz_back {S G n g b : Nat} (h : n < S) : (S + 1 - (n + 1)) * (G + 1) + (G - b) < (S + 1 - n) * (G + 1) + (G - g) := by
  rw [show S + 1 - n = S + 1 - (n + 1) + 1 by omega, Nat.add_mul]
  omega

set_option maxHeartbeats 2000000 in
set_option maxRecDepth 100000 in
theorem fits_any (G S : ByteArray) (w : World) (hS : S.size ≤ 4611686018427387904) (hG : G.size ≤ 9223372036854775807) :
    Calls Tryd.prog 6 #[.string G, .string S] w fun e w' => e = .returned (.bool (fitsB G.data.toList S.data.toList)) ∧ Below w.heap.size w w' := by
  by_cases hlen : 100 < G.size
  · have HE := Lib.hid (show fitsB G.data.toList S.data.toList = false from fitsB_long (by rw [← Lib.size_eq]; exact hlen))
    go_enter Tryd.func6, Tryd.ntmps6
    go_wp2_with fail
    go_ret
    exact ⟨ret_bool HE.out.symm, Below.refl _ _⟩
  · have hlG := Lib.hid (Lib.size_eq G)
    have hlS := Lib.hid (Lib.size_eq S)
    go_enter Tryd.func6, Tryd.ntmps6
    go_wp2_with fail
    go_loopw [5, 6, 7, 8] (fun v5 v6 v7 v8 wr => ∃ (g i n : Nat) (bh : Int), FitsRel G.data.toList S.data.toList v5 v6 v7 v8 g i n bh ∧ Below w.heap.size w wr) (fun v5 _ _ v8 _ => (S.size + 1 - (RowKit.intOf v8).toNat) * (G.size + 1) + (G.size - (RowKit.intOf v5).toNat))
    case atStart => exact ⟨0, 0, 0, -1, ⟨rfl, rfl, rfl, rfl, Nat.zero_le _, Nat.zero_le _, Nat.le_refl _, Inv.start _ _, Or.inl rfl⟩, Below.refl _ _⟩
    case round =>
      obtain ⟨g, i, n, bh, ⟨rfl, rfl, rfl, rfl, hg, hi, hn, hinv, hbh⟩, hbw⟩ := hrel
      have HI := Lib.hid hinv
      clear hinv
      have hgz : g ≤ G.size := by rw [hlG.out]; exact hg
      have hiz : i ≤ S.size := by rw [hlS.out]; exact hi
      clear hg hi
      by_cases hlt : i < S.size
      · have hil : i < S.data.toList.length := by rw [← hlS.out]; exact hlt
        by_cases hgl : g < G.size
        · have hgll : g < G.data.toList.length := by rw [← hlG.out]; exact hgl
          have hq : decide ((g : Int) < (G.size : Int)) = true := by simpa using hgl
          have hq2 : decide (g < G.size) = true := by simpa using hgl
          have hw1 : IntKind.i64.wrap ((g : Int) + 1) = (g : Int) + 1 := IntWalk.i64_in _ (by omega)
          by_cases hc : G[g] = 42
          · have HN := Lib.hid (HI.out.star hgll hc)
            have hb : ((G[g].toNat : Int) == 42) = true := by rw [hc]; rfl
            clear hc
            go_wp2_with fail
            exact ⟨⟨g + 1, i, i, ((g + 1 : Nat) : Int), ⟨rfl, rfl, rfl, rfl, hgll, by rw [← hlS.out]; exact hiz, Nat.le_refl _, HN.out, Or.inr ⟨g + 1, rfl, Nat.le_refl _⟩⟩, hbw⟩, mz_star hn hgl⟩
          · have hb : ((G[g].toNat : Int) == 42) = false := u8_ne hc
            by_cases he : G[g] = 63
            · have HN := Lib.hid (HI.out.one hgll hil hc (Or.inl he))
              have hb2 : ((G[g].toNat : Int) == 63) = true := by rw [he]; rfl
              clear hc he
              go_wp2_with fail
              go_quiet (fail)
              go_wp2_with fail
              exact ⟨⟨g + 1, i + 1, n, bh, ⟨rfl, rfl, rfl, rfl, hgll, hil, by omega, HN.out, hbh.imp id fun ⟨b, h1, h2⟩ => ⟨b, h1, by omega⟩⟩, below_drewN hbw _⟩, by simp [RowKit.intOf]; omega⟩
            · have hb2 : ((G[g].toNat : Int) == 63) = false := u8_ne he
              by_cases hs : G[g] = S[i]
              · have HN := Lib.hid (HI.out.one hgll hil hc (Or.inr hs))
                have hb3 : ((G[g].toNat : Int) == (S[i].toNat : Int)) = true := u8_eq.2 hs
                clear hc he hs
                go_wp2_with fail
                go_quiet (fail)
                go_wp2_with fail
                exact ⟨⟨g + 1, i + 1, n, bh, ⟨rfl, rfl, rfl, rfl, hgll, hil, by omega, HN.out, hbh.imp id fun ⟨b, h1, h2⟩ => ⟨b, h1, by omega⟩⟩, below_drewN hbw _⟩, by simp [RowKit.intOf]; omega⟩
              · have hb3 : ((G[g].toNat : Int) == (S[i].toNat : Int)) = false := u8_ne hs
                have hno : ∀ hx : g < G.data.toList.length, G.data.toList[g] ≠ 42 ∧ G.data.toList[g] ≠ 63 ∧ G.data.toList[g] ≠ S.data.toList[i] := fun _ => ⟨hc, he, hs⟩
                rcases hbh with rfl | ⟨b, rfl, hbg⟩
                · have HN := Lib.hid (fitsB_false (HI.out.no (by omega) hil hno))
                  clear hc he hs hno
                  go_wp2_with fail
                  go_quiet (fail)
                  go_wp2_with fail
                  go_ret
                  exact ⟨ret_bool HN.out.symm, below_drewN hbw _⟩
                · have HN := Lib.hid (HI.out.back hil hno)
                  clear hc he hs hno
                  go_wp2_with fail
                  go_quiet (fail)
                  go_wp2_with fail
                  exact ⟨⟨b, n + 1, n + 1, (b : Int), ⟨rfl, rfl, rfl, rfl, by omega, HN.out.1, Nat.le_refl _, HN.out.2, Or.inr ⟨b, rfl, Nat.le_refl _⟩⟩, below_drewN hbw _⟩, mz_back (by have := HN.out.1; rw [← hlS.out] at this; exact this)⟩
        · have hgeq : G.size ≤ g := by omega
          have hq : decide ((g : Int) < (G.size : Int)) = false := by simpa using hgeq
          have hq2 : decide (g < G.size) = false := by simpa using hgeq
          have hno : ∀ hx : g < G.data.toList.length, G.data.toList[g] ≠ 42 ∧ G.data.toList[g] ≠ 63 ∧ G.data.toList[g] ≠ S.data.toList[i] := fun hx => by rw [← hlG.out] at hx; omega
          rcases hbh with rfl | ⟨b, rfl, hbg⟩
          · have HN := Lib.hid (fitsB_false (HI.out.no (by omega) hil hno))
            clear hno
            go_wp2_with fail
            go_quiet (fail)
            go_wp2_with fail
            go_ret
            exact ⟨ret_bool HN.out.symm, below_drewN hbw _⟩
          · have HN := Lib.hid (HI.out.back hil hno)
            clear hno
            go_wp2_with fail
            go_quiet (fail)
            go_wp2_with fail
            exact ⟨⟨b, n + 1, n + 1, (b : Int), ⟨rfl, rfl, rfl, rfl, by rw [← hlG.out]; omega, HN.out.1, Nat.le_refl _, HN.out.2, Or.inr ⟨b, rfl, Nat.le_refl _⟩⟩, below_drewN hbw _⟩, mz_back (by have := HN.out.1; rw [← hlS.out] at this; exact this)⟩
      · have HN := Lib.hid (show M G.data.toList S.data.toList ↔ Lib.trimB (G.extract g G.size).data.toList 42 = [] by
          rw [trimB_nil, extract_drop]
          exact HI.out.finish (by rw [← hlS.out]; omega))
        have HB := Lib.hid (fitsB_iff (g := G.data.toList) (s := S.data.toList) (by rw [← hlG.out]; omega))
        have HT := Lib.hid (fun W => Tryd.strings_Trim_one (G.extract g G.size) 42 (by decide) W (by rw [Lib.size_eq, extract_drop, List.length_drop, ← Lib.size_eq]; omega))
        cases hr : Lib.trimB (G.extract g G.size).data.toList 42 with
        | nil =>
          have HV := Lib.hid (show fitsB G.data.toList S.data.toList = true from HB.out.2 (HN.out.2 hr))
          rw [hr] at HT
          clear hr
          go_wp2_with (go_at_call 15; refine (HT.out _).mono ?_; rintro e w1 ⟨rfl, hw1⟩)
          go_ret
          exact ⟨ret_bool HV.out.symm, below_or hbw hw1⟩
        | cons a l =>
          have HV := Lib.hid (show fitsB G.data.toList S.data.toList = false by
            rw [Bool.eq_false_iff]; intro h; have := HN.out.1 (HB.out.1 h); rw [hr] at this; cases this)
          rw [hr] at HT
          clear hr
          go_wp2_with (go_at_call 15; refine (HT.out _).mono ?_; rintro e w1 ⟨rfl, hw1⟩)
          go_ret
          exact ⟨ret_bool HV.out.symm, below_or hbw hw1⟩
end Go.Proofs.YtooilpblbkgloaaDoor

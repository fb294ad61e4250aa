/- The words of a line: what the program's helpers write. -/
import Derived.Test.YtmoofdcoodaaiaaGreatDoorHexC
import Derived.Test.YtmoofdcoodaaiaaGreatDoorBuilder
import Derived.Test.YtmoofdcoodaaiaaGreatDoorShared
import Derived.Test.YtmoofdcoodaaiaaGreatDoorFaults
import Derived.Lib.ItoaNum
import Derived.Lib.AppendIntMem
import Derived.Lib.AtoiErrMem
import Derived.Deep.RegionHeld3
import Derived.Deep.RegionLaw
namespace Go.Proofs.YtmoofdcoodaaiaaGreatDoor
open Go.RowKit Go.Lib

def bs (l : List UInt8) : ByteArray := ⟨l.toArray⟩
theorem bs_data (l : List UInt8) : (bs l).data.toList = l := by simp [bs]
theorem bs_size (l : List UInt8) : (bs l).size = l.length := by rw [Lib.size_eq, bs_data]
theorem bs_of (s : ByteArray) : bs s.data.toList = s := by
  obtain ⟨⟨l⟩⟩ := s; rfl
theorem data_inj {a b : ByteArray} (h : a.data.toList = b.data.toList) : a = b := by
  obtain ⟨⟨x⟩⟩ := a
  obtain ⟨⟨y⟩⟩ := b
  simpa using h
theorem app_data (a b : ByteArray) : (a ++ b).data.toList = a.data.toList ++ b.data.toList := by rw [ByteArray.data_append, Array.toList_append]

/-- What the helpers need of the library's variables. -/
def EnvW (w : World) : Prop := Lib.TabIs Tryz.prog w "internal/strconv.uint64pow10" .u64 Lib.pow10Tab ∧ EnvH w
theorem EnvW.keep {w w' : World} (h : EnvW w) (hb : Below w.heap.size w w') : EnvW w' := ⟨Lib.tabBelow_of_tabIs h.1 _ hb, h.2.keep hb⟩
theorem itoa_any (n : Int) (w : World) (h0 : -9223372036854775808 ≤ n) (h1 : n ≤ 9223372036854775807) (he : EnvW w) :
    Calls Tryz.prog 54 #[.int .i64 n] w fun e w' => e = .returned (.string (bs (Lib.itoa n))) ∧ Below w.heap.size w w' := by
  refine (Tryz.strconv_Itoa n h0 h1 w he.1).mono ?_
  rintro e w' ⟨rfl, k, os, rfl⟩
  exact ⟨rfl, Lib.below_grow _ w (Nat.le_refl _) k os⟩

/-- A right frame: what is so of its parts. -/
structure FrOk (x : Fr) : Prop where
  m : x.m.size ≤ 200
  f : x.f.size ≤ 200
  i : x.i.size ≤ 200
  l0 : 0 ≤ x.line
  l1 : x.line ≤ 9999999
  a0 : -1 ≤ x.addr
  a1 : x.addr ≤ 281474976710655
theorem frOk_of {x : Fr} (h : frErr x = 0) : FrOk x := by
  unfold frErr at h
  split at h
  · cases h
  split at h
  · cases h
  split at h
  · cases h
  split at h
  · cases h
  rename_i h1 h2 h3 h4
  exact ⟨by omega, by omega, by omega, by omega, by omega, by omega, by omega⟩

def headB (k t : ByteArray) : ByteArray := if t.size = 0 then k ++ ⟨#[58]⟩ else k ++ ⟨#[58, 32]⟩ ++ t
def callB (x : Fr) : ByteArray := if x.m.size = 0 then x.f else x.m ++ ⟨#[33]⟩ ++ x.f
def hexB (n : Int) : ByteArray := bs (hexL n.toNat)
def r1 (x : Fr) : ByteArray := if x.i.size = 0 then ⟨#[]⟩ else if x.line = 0 then ⟨#[]⟩ ++ (⟨#[32, 40]⟩ ++ x.i) ++ ⟨#[41]⟩ else ⟨#[]⟩ ++ (⟨#[32, 40]⟩ ++ x.i) ++ (⟨#[58]⟩ ++ bs (Lib.itoa x.line)) ++ ⟨#[41]⟩
def r2 (x : Fr) (s : ByteArray) : ByteArray := if x.addr = -1 then s else s ++ (⟨#[32, 64]⟩ ++ hexB x.addr)
def r3 (x : Fr) (s : ByteArray) : ByteArray := if x.own = true then s ++ ⟨#[32, 42]⟩ else s
def restB (x : Fr) : ByteArray := r3 x (r2 x (r1 x))

theorem nil_eq (s : ByteArray) (h : s.size = 0) : s = ⟨#[]⟩ := by
  obtain ⟨⟨l⟩⟩ := s
  have : l = [] := by simpa [ByteArray.size] using h
  rw [this]
theorem isE {s : ByteArray} (h : ¬ s.size = 0) : s.toList.isEmpty = false := by rw [emp]; simpa using h

set_option maxHeartbeats 1000000 in
set_option maxRecDepth 100000 in
theorem headOf_any (k t : ByteArray) (fv : Value) (w : World) (hk : k.size ≤ 200) (ht : t.size ≤ 2000) (hfv : ∃ p n c, fv = .slice p n c) :
    Calls Tryz.prog 51 #[.agg #[.string k, .string t, fv]] w fun e w' => e = .returned (.string (headB k t)) ∧ Below w.heap.size w w' := by
  obtain ⟨p, n, c, rfl⟩ := hfv
  have hz1 : (⟨#[58]⟩ : ByteArray).size = 1 := rfl
  have hz2 : (⟨#[58, 32]⟩ : ByteArray).size = 2 := rfl
  unfold headB
  by_cases h : t.size = 0
  · rw [if_pos h]
    have := nil_eq t h
    subst this
    clear h
    go_enter Tryz.func51, Tryz.ntmps51
    go_wp2_with fail
    go_ret
    exact ⟨rfl, (Below.refl _ _).alloc (Nat.le_refl _) _⟩
  · rw [if_neg h]
    have h1 := isE h
    go_enter Tryz.func51, Tryz.ntmps51
    go_wp2_with fail
    go_ret
    exact ⟨rfl, (Below.refl _ _).alloc (Nat.le_refl _) _⟩

set_option maxHeartbeats 1000000 in
set_option maxRecDepth 100000 in
theorem callOf_any (x : Fr) (w : World) (hx : FrOk x) :
    Calls Tryz.prog 52 #[.agg #[.string x.m, .string x.f, .string x.i, .int .i64 x.line, .int .i64 x.addr, .bool x.own]] w fun e w' => e = .returned (.string (callB x)) ∧ Below w.heap.size w w' := by
  obtain ⟨m, f, i, ln, ad, ow⟩ := x
  obtain ⟨h1, h2, h3, -⟩ := hx
  simp only at h1 h2 h3
  have hz1 : (⟨#[33]⟩ : ByteArray).size = 1 := rfl
  unfold callB
  simp only
  by_cases h : m.size = 0
  · rw [if_pos h]
    have := nil_eq m h
    subst this
    clear h h1
    go_enter Tryz.func52, Tryz.ntmps52
    go_wp2_with fail
    go_ret
    exact ⟨rfl, (Below.refl _ _).alloc (Nat.le_refl _) _⟩
  · rw [if_neg h]
    have h1 := isE h
    go_enter Tryz.func52, Tryz.ntmps52
    go_wp2_with fail
    go_ret
    exact ⟨rfl, (Below.refl _ _).alloc (Nat.le_refl _) _⟩

theorem dec_len : ∀ (k u : Nat), u < 10 ^ (k + 1) → (Lib.decDigits u).length ≤ k + 1
  | 0, u, h => by rw [Lib.decDigits, dif_pos (by simpa using h)]; simp
  | k + 1, u, h => by
    rw [Lib.decDigits]
    split
    · simp
    · have := dec_len k (u / 10) (by rw [Nat.pow_succ] at h; omega)
      rw [List.length_append, List.length_singleton]; omega
theorem itoa_len {n : Int} (h0 : 0 ≤ n) (h1 : n ≤ 9999999) : (bs (Lib.itoa n)).size ≤ 7 := by
  rw [bs_size]; unfold Lib.itoa; rw [if_neg (by omega)]; exact dec_len 6 _ (by omega)
theorem hex_len {n : Int} (h0 : 0 ≤ n) (h1 : n ≤ 281474976710655) : (hexB n).size ≤ 16 := by
  unfold hexB; rw [bs_size]; exact (hex_half (by omega)).1

set_option maxHeartbeats 4000000 in
set_option maxRecDepth 100000 in
theorem restOf_any (x : Fr) (w : World) (hx : FrOk x) (he : EnvW w) :
    Calls Tryz.prog 53 #[.agg #[.string x.m, .string x.f, .string x.i, .int .i64 x.line, .int .i64 x.addr, .bool x.own]] w fun e w' => e = .returned (.string (restB x)) ∧ Below w.heap.size w w' := by
  obtain ⟨m, f, i, ln, ad, ow⟩ := x
  obtain ⟨h1, h2, h3, h4, h5, h6, h7⟩ := hx
  simp only at h1 h2 h3 h4 h5 h6 h7
  have hz1 : (⟨#[41]⟩ : ByteArray).size = 1 := rfl
  have hz2 : (⟨#[58]⟩ : ByteArray).size = 1 := rfl
  have hz3 : (⟨#[32, 40]⟩ : ByteArray).size = 2 := rfl
  have hz4 : (⟨#[32, 64]⟩ : ByteArray).size = 2 := rfl
  have hz5 : (⟨#[32, 42]⟩ : ByteArray).size = 2 := rfl
  have hz0 : (⟨#[]⟩ : ByteArray).size = 0 := rfl
  have HV := Lib.hid he
  have HI := Lib.hid (fun (W : World) (hW : Below w.heap.size w W) => itoa_any ln W (by omega) (by omega) (he.keep hW))
  have hil := itoa_len h4 h5
  have hbA : Below w.heap.size w (w.alloc (.cells #[.string m, .string f, .string i, .int .i64 ln, .int .i64 ad, .bool ow] 54)) := (Below.refl _ _).alloc (Nat.le_refl _) _
  have hc4 : (w.alloc (.cells #[.string m, .string f, .string i, .int .i64 ln, .int .i64 ad, .bool ow] 54)).cell? ⟨w.heap.size, 4, none⟩ = some (.int .i64 ad) := by go_simp
  have hc5 : (w.alloc (.cells #[.string m, .string f, .string i, .int .i64 ln, .int .i64 ad, .bool ow] 54)).cell? ⟨w.heap.size, 5, none⟩ = some (.bool ow) := by go_simp
  have HF := Lib.hid (fun (h0 : 0 ≤ ad) (W : World) (hW : Below w.heap.size w W) => FormatInt_any ad.toNat (by omega) W (he.keep hW).2)
  have hhl := fun (h0 : 0 ≤ ad) => hex_len h0 h7
  have hxe : hexB ad = ⟨(hexL ad.toNat).toArray⟩ := rfl
  clear he
  unfold restB r3 r2 r1
  simp only
  generalize bs (Lib.itoa ln) = it at *
  have HC4 := Lib.hid hc4
  have HC5 := Lib.hid hc5
  have HBA := Lib.hid hbA
  clear hc4 hc5 hbA
  by_cases ha : ad = -1
  · rw [if_pos ha]
    clear HF hhl hxe
    by_cases hi : i.size = 0
    · rw [if_pos hi]
      have := nil_eq i hi
      subst this
      subst ha
      cases ow
      all_goals
        go_enter Tryz.func53, Tryz.ntmps53
        go_wp2_with fail
        go_ret
        exact ⟨rfl, HBA.out⟩
    · rw [if_neg hi]
      have hie := isE hi
      by_cases hl : ln = 0
      · rw [if_pos hl]
        subst hl
        subst ha
        cases ow
        all_goals
          go_enter Tryz.func53, Tryz.ntmps53
          go_wp2_with fail
          go_ret
          exact ⟨rfl, HBA.out⟩
      · rw [if_neg hl]
        have hl2 : (ln != 0) = true := by rw [bne_iff_ne]; exact hl
        have hl3 : (ln == 0) = false := by rw [beq_eq_false_iff_ne]; exact hl
        subst ha
        cases ow
        all_goals
          go_enter Tryz.func53, Tryz.ntmps53
          go_wp2_with (go_at_call 54; (with_reducible refine (HI.out _ HBA.out).mono ?_); rintro e w1 ⟨rfl, hb1⟩; have hbw1 := below_call HBA.out HBA.out.size hb1; have k4 := cell_keep HC4.out hb1; have k5 := cell_keep HC5.out hb1)
          go_ret
          exact ⟨rfl, hbw1⟩
  · rw [if_neg ha, hxe]
    have ha0 : 0 ≤ ad := by omega
    have hl16 := hhl ha0
    rw [hxe] at hl16
    have HFF := Lib.hid (HF.out ha0)
    have hnat : (ad.toNat : Int) = ad := by omega
    rw [hnat] at HFF
    have ha2 : (ad != -1) = true := by rw [bne_iff_ne]; exact ha
    have ha3 : (ad == -1) = false := by rw [beq_eq_false_iff_ne]; exact ha
    clear HF hhl hxe hnat
    generalize (⟨(hexL ad.toNat).toArray⟩ : ByteArray) = hx at *
    by_cases hi : i.size = 0
    · rw [if_pos hi]
      have := nil_eq i hi
      subst this
      cases ow
      all_goals
        go_enter Tryz.func53, Tryz.ntmps53
        go_wp2_with (go_at_call 74; (with_reducible refine (HFF.out _ HBA.out).mono ?_); rintro e w2 ⟨rfl, hb2⟩; have hbw2 := below_call HBA.out HBA.out.size hb2; have m5 := cell_keep HC5.out hb2)
        go_ret
        exact ⟨rfl, hbw2⟩
    · rw [if_neg hi]
      have hie := isE hi
      by_cases hl : ln = 0
      · rw [if_pos hl]
        subst hl
        cases ow
        all_goals
          go_enter Tryz.func53, Tryz.ntmps53
          go_wp2_with (go_at_call 74; (with_reducible refine (HFF.out _ HBA.out).mono ?_); rintro e w2 ⟨rfl, hb2⟩; have hbw2 := below_call HBA.out HBA.out.size hb2; have m5 := cell_keep HC5.out hb2)
          go_ret
          exact ⟨rfl, hbw2⟩
      · rw [if_neg hl]
        have hl2 : (ln != 0) = true := by rw [bne_iff_ne]; exact hl
        have hl3 : (ln == 0) = false := by rw [beq_eq_false_iff_ne]; exact hl
        cases ow
        all_goals
          go_enter Tryz.func53, Tryz.ntmps53
          go_wp2_with (first
            | (go_at_call 54; (with_reducible refine (HI.out _ HBA.out).mono ?_); rintro e w1 ⟨rfl, hb1⟩; have hbw1 := below_call HBA.out HBA.out.size hb1; have k4 := cell_keep HC4.out hb1; have k5 := cell_keep HC5.out hb1)
            | (go_at_call 74; (with_reducible refine (HFF.out _ hbw1).mono ?_); rintro e w2 ⟨rfl, hb2⟩; have hbw2 := below_call hbw1 hbw1.size hb2; have m5 := cell_keep k5 hb2))
          go_ret
          exact ⟨rfl, hbw2⟩
end Go.Proofs.YtmoofdcoodaaiaaGreatDoor

/- What Text answers. -/
import Derived.Test.YtnpnoohnkbpokaaDoorVerE
import Derived.Lib.ItoaNum
import Derived.Lib.Join
import Derived.Deep.RegionHeld3
namespace Go.Proofs.YtnpnoohnkbpokaaDoor
open Go.RowKit Go.Lib

theorem itoa_any (n : Int) (w : World) (h0 : -9223372036854775808 ≤ n) (h1 : n ≤ 9223372036854775807) (he : Env w) :
    Calls Tryd.prog 57 #[.int .i64 n] w fun e w' => e = .returned (.string (bs (Lib.itoa n))) ∧ Below w.heap.size w w' := by
  refine (Tryd.strconv_Itoa n h0 h1 w he.2.1).mono ?_
  rintro e w' ⟨rfl, k, os, rfl⟩
  exact ⟨rfl, Lib.below_grow _ w (Nat.le_refl _) k os⟩
theorem decDigits_len : ∀ (k u : Nat), u < 10 ^ (k + 1) → (Lib.decDigits u).length ≤ k + 1
  | 0, u, h => by rw [Lib.decDigits, dif_pos (by simpa using h)]; simp
  | k + 1, u, h => by
    rw [Lib.decDigits]
    split
    · simp
    · have := decDigits_len k (u / 10) (by rw [Nat.pow_succ] at h; omega)
      rw [List.length_append, List.length_singleton]; omega
theorem itoa_len {n : Int} (h0 : 0 ≤ n) (h1 : n ≤ 999999) : (Lib.itoa n).length ≤ 6 := by
  unfold Lib.itoa; rw [if_neg (by omega)]; exact decDigits_len 5 _ (by omega)
theorem joinTail_len (sep : List UInt8) (M : Nat) : ∀ l : List (List UInt8), (∀ x ∈ l, x.length ≤ M) → (Lib.joinTail sep l).length ≤ l.length * (M + sep.length)
  | [], _ => by simp [Lib.joinTail]
  | x :: l, h => by
    have ih := joinTail_len sep M l (fun y hy => h y (List.mem_cons_of_mem _ hy))
    have hx := h x (by simp)
    have : Lib.joinTail sep (x :: l) = sep ++ x ++ Lib.joinTail sep l := by simp [Lib.joinTail]
    rw [this, List.length_append, List.length_append, List.length_cons, Nat.add_mul]
    omega
theorem join_len {sep : List UInt8} {M : Nat} {l : List (List UInt8)} (h : ∀ x ∈ l, x.length ≤ M) : (Lib.join l sep).length ≤ l.length * (M + sep.length) := by
  cases l with
  | nil => simp [Lib.join_nil]
  | cons x l =>
    rw [Lib.join_cons, List.length_append, List.length_cons, Nat.add_mul]
    have := joinTail_len sep M l (fun y hy => h y (List.mem_cons_of_mem _ hy))
    have hx := h x (by simp)
    omega

def minV (x : Vr) : Int := Lib.minOf [x.ma, x.mi, x.pa]
def maxV (x : Vr) : Int := Lib.maxOf [x.ma, x.mi, x.pa]
def joinB (l : List ByteArray) : ByteArray := bs (Lib.join (l.map (·.data.toList)) [46])
def txtB (x : Vr) : ByteArray := x.pj ++ ⟨#[45]⟩ ++ bs (Lib.itoa x.ma) ++ ⟨#[46]⟩ ++ bs (Lib.itoa x.mi) ++ ⟨#[46]⟩ ++ bs (Lib.itoa x.pa)
def txtF (x : Vr) : ByteArray := if x.pre = [] then txtB x else txtB x ++ (⟨#[45]⟩ ++ joinB x.pre)
def txtErr (x : Vr) : Int :=
  if projB x.pj.data.toList = false then 3 else if minV x < 0 ∨ 999999 < maxV x then 2 else if 5 < x.pre.length then 4 else if anyBad x.pre = true then 8 else if 40 < (txtF x).size then 4 else 0
def txtOf (x : Vr) : ByteArray := if txtErr x = 0 then txtF x else ⟨#[]⟩

theorem three (W : World) (a b c : Int) (t : TypeId) : ∀ j, j < [a, b, c].length → (W.alloc (.cells #[.int .i64 a, .int .i64 b, .int .i64 c] t)).cell? ⟨W.heap.size, 0 + j, none⟩ = some (.int .i64 ([a, b, c].getD j 0)) := by
  intro j hj
  match j, hj with
  | 0, _ => go_simp
  | 1, _ => go_simp
  | 2, _ => go_simp
theorem cell_drew {w : World} {p : Addr} {v : Value} (h : w.cell? p = some v) : w.drew.cell? p = some v := h

theorem join_any (pre : List ByteArray) (b off cap : Nat) (w W : World) (hl : 0 < pre.length) (h5 : pre.length ≤ 5) (hc : pre.length ≤ cap) (hf : ∀ x ∈ pre, fitP x) (hb : b < w.heap.size) (hat : AtG encS 1 w b off pre) (hW : Below w.heap.size w W) :
    Calls Tryd.prog 32 #[.slice (some ⟨b, off, none⟩) pre.length cap, .string ⟨#[46]⟩] W fun e w' => e = .returned (.string (joinB pre)) ∧ Below W.heap.size W w' := by
  refine (Tryd.strings_Join b off cap pre ⟨#[46]⟩ W (fun j x hx => ?_) (by have := hW.size; omega) (by omega) hc ?_).mono ?_
  · obtain ⟨hj, rfl⟩ := List.getElem?_eq_some_iff.1 hx
    exact (hW.cell (p := ⟨b, _, none⟩) hb).trans (hat.str hj)
  · have h1 : ∀ x ∈ pre.map (·.data.toList), x.length ≤ 1048576 := by
      intro x hx
      obtain ⟨y, hy, rfl⟩ := List.mem_map.1 hx
      have := hf y hy
      unfold fitP at this
      rwa [Lib.size_eq] at this
    have := join_len (sep := (⟨#[46]⟩ : ByteArray).data.toList) h1
    rw [List.length_map] at this
    have h2 : (⟨#[46]⟩ : ByteArray).data.toList.length = 1 := rfl
    rw [h2] at this
    have h3 : pre.length * (1048576 + 1) ≤ 5 * (1048576 + 1) := Nat.mul_le_mul_right _ h5
    omega
  · rintro e w' ⟨rfl, hb'⟩
    exact ⟨rfl, hb'⟩
theorem joinB_size (pre : List ByteArray) (h5 : pre.length ≤ 5) (hf : ∀ x ∈ pre, fitP x) : (joinB pre).size ≤ 5242885 := by
  have h1 : ∀ x ∈ pre.map (·.data.toList), x.length ≤ 1048576 := by
    intro x hx
    obtain ⟨y, hy, rfl⟩ := List.mem_map.1 hx
    have := hf y hy
    unfold fitP at this
    rwa [Lib.size_eq] at this
  have := join_len (sep := [46]) h1
  rw [List.length_map, List.length_singleton] at this
  have h3 : pre.length * (1048576 + 1) ≤ 5 * (1048576 + 1) := Nat.mul_le_mul_right _ h5
  unfold joinB
  rw [Lib.size_eq]
  show (bs _).data.toList.length ≤ _
  simp only [bs, List.toList_toArray]
  omega
end Go.Proofs.YtnpnoohnkbpokaaDoor

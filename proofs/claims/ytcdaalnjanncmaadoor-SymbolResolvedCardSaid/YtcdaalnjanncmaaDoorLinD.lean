/- Places of the call's own, turned round: slices.Reverse. -/
import Derived.Test.YtcdaalnjanncmaaDoorCallPlain
import Derived.Test.YtcdaalnjanncmaaDoorLawPlain
import Derived.BigQuiet
namespace Go.Proofs.YtcdaalnjanncmaaDoor
open Go.RowKit Go.Deep

def three (F : Nat → Value) (m : Nat) (x : Pl) : Prop := F m = .string x.n ∧ F (m + 1) = .string x.f ∧ F (m + 2) = .int .i64 x.l
/-- Which element stands at a place when i pairs are turned. -/
def turned (l : List Pl) (i q : Nat) : Option Pl := if q < i ∨ l.length - i ≤ q then l[l.length - 1 - q]? else l[q]?
def holds3 (F : Nat → Value) (l : List Pl) (i : Nat) : Prop := ∀ q x, q < l.length → turned l i q = some x → three F (q * 3) x

theorem three_set {F : Nat → Value} {vs : List Value} {o m : Nat} {x : Pl} (h : three F m x) (hd : m + 3 ≤ o ∨ o + vs.length ≤ m) : three (fun j => if o ≤ j ∧ j < o + vs.length then vs[j - o]?.getD default else F j) m x := by
  obtain ⟨h0, h1, h2⟩ := h
  refine ⟨?_, ?_, ?_⟩ <;> (simp only; rw [if_neg (by omega)]; assumption)
theorem three_new (F : Nat → Value) (o : Nat) (x : Pl) : three (fun j => if o ≤ j ∧ j < o + (encP x).length then (encP x)[j - o]?.getD default else F j) o x := by
  have hl : (encP x).length = 3 := rfl
  refine ⟨?_, ?_, ?_⟩ <;> (simp only [hl]; rw [if_pos (by omega)])
  · rw [Nat.sub_self]; rfl
  · rw [Nat.add_sub_cancel_left]; rfl
  · rw [Nat.add_sub_cancel_left]; rfl
theorem set3_eq (w : World) (g o : Nat) (a b : ByteArray) (c : Int) : w.setCells g o (encP ⟨a, b, c⟩) = ((w.setCell ⟨g, o, none⟩ (.string a)).setCell ⟨g, o + 1, none⟩ (.string b)).setCell ⟨g, o + 2, none⟩ (.int .i64 c) := rfl
theorem grown_drew (w : World) (row : Option Nat) : w.grownBy w.drew row := ⟨rfl, rfl, rfl, Nat.le_refl _, fun _ _ _ => rfl⟩
theorem turned_out {l : List Pl} {i j q : Nat} (hsum : i + j + 1 = l.length) (hij : i < j) (hqi : q ≠ i) (hqj : q ≠ j) : turned l (i + 1) q = turned l i q := by
  unfold turned
  by_cases h : q < i ∨ l.length - i ≤ q
  · rw [if_pos h, if_pos (by omega)]
  · rw [if_neg h, if_neg (by omega)]
theorem holds3_swap {F : Nat → Value} {l : List Pl} {i j n : Nat} {x y : Pl} (hl : l.length = n) (hsum : i + j + 1 = n) (hij : i < j) (hx : l[i]? = some x) (hy : l[j]? = some y) (hH : holds3 F l i) :
    holds3 (fun m => if j * 3 ≤ m ∧ m < j * 3 + (encP x).length then (encP x)[m - j * 3]?.getD default else (fun m => if i * 3 ≤ m ∧ m < i * 3 + (encP y).length then (encP y)[m - i * 3]?.getD default else F m) m) l (i + 1) := by
  have hly : (encP y).length = 3 := rfl
  have hlx : (encP x).length = 3 := rfl
  intro q z hq hz
  by_cases hqj : q = j
  · subst hqj
    unfold turned at hz
    rw [if_pos (by omega), show l.length - 1 - q = i by omega, hx] at hz
    obtain rfl := Option.some.inj hz
    exact three_new _ _ _
  · by_cases hqi : q = i
    · subst hqi
      unfold turned at hz
      rw [if_pos (by omega), show l.length - 1 - q = j by omega, hy] at hz
      obtain rfl := Option.some.inj hz
      exact three_set (three_new _ _ _) (.inl (by omega))
    · rw [turned_out (by omega) hij hqi hqj] at hz
      exact three_set (three_set (hH q z hq hz) (by omega)) (by omega)
theorem holds3_end {F : Nat → Value} {l : List Pl} {i n : Nat} (hl : l.length = n) (hi : n ≤ i + i + 1) (hH : holds3 F l i) : ∀ q x, q < n → l.reverse[q]? = some x → three F (q * 3) x := by
  intro q x hq hx
  rw [List.getElem?_reverse (by omega)] at hx
  refine hH q x (by omega) ?_
  unfold turned
  split
  · exact hx
  · rename_i h
    rw [show q = l.length - 1 - q by omega]; exact hx

set_option maxHeartbeats 4000000 in
set_option maxRecDepth 100000 in
theorem reverse_some (g cap n : Nat) (F : Nat → Value) (l : List Pl) (w : World) (hl : l.length = n) (hn : n ≤ 2000) (hcap : n ≤ cap) (hrow : w.rowIs g 57 (cap * 3) F) (hF : holds3 F l 0) :
    Calls Tryd.prog 71 #[.slice (some ⟨g, 0, none⟩) n cap] w fun e w' => e = .returned (.tuple #[]) ∧ (∃ F', w'.rowIs g 57 (cap * 3) F' ∧ ∀ q x, q < n → l.reverse[q]? = some x → three F' (q * 3) x) ∧ w.grownBy w' (some g) := by
  go_enter Tryd.func71, Tryd.ntmps71
  go_wp2_with fail
  go_loopw [2, 3] (fun v2 v3 wr => ∃ (i : Nat) (F' : Nat → Value), v2 = .int .i64 i ∧ v3 = .int .i64 ((n : Int) - 1 - i) ∧ i ≤ n ∧ wr.rowIs g 57 (cap * 3) F' ∧ holds3 F' l i ∧ w.grownBy wr (some g)) (fun v2 _ _ => n - (RowKit.intOf v2).toNat)
  case atStart => exact ⟨0, F, rfl, by simp, by omega, hrow, hF, World.grownBy.refl w _⟩
  case round =>
    obtain ⟨i, F', rfl, rfl, hi, hrw, hH, hgw⟩ := hrel
    by_cases hlt : i + i + 1 < n
    · obtain ⟨j, hj⟩ : ∃ j : Nat, (n : Int) - 1 - i = j := ⟨n - 1 - i, by omega⟩
      have hji : i < j := by omega
      have hjn : j < n := by omega
      have hsum : i + j + 1 = n := by omega
      obtain ⟨f0, f1, f2⟩ := hH i l[i] (by omega) (by unfold turned; rw [if_neg (by omega)]; exact List.getElem?_eq_getElem (by omega))
      obtain ⟨e0, e1, e2⟩ := hH j l[j] (by omega) (by unfold turned; rw [if_neg (by omega)]; exact List.getElem?_eq_getElem (by omega))
      have hjc : j * 3 + 2 < cap * 3 := by omega
      have c0 := hrw.cell (i := i * 3) (by omega)
      have c1 := hrw.cell (i := i * 3 + 1) (by omega)
      have c2 := hrw.cell (i := i * 3 + 2) (by omega)
      have d0 := hrw.cell (i := j * 3) (by omega)
      have d1 := hrw.cell (i := j * 3 + 1) (by omega)
      have d2 := hrw.cell (i := j * 3 + 2) (by omega)
      rw [f0] at c0
      rw [f1] at c1
      rw [f2] at c2
      rw [e0] at d0
      rw [e1] at d1
      rw [e2] at d2
      have z0 := hrw.frozen (i * 3)
      have z1 := hrw.frozen (i * 3 + 1)
      have z2 := hrw.frozen (i * 3 + 2)
      have y0 := hrw.frozen (j * 3)
      have y1 := hrw.frozen (j * 3 + 1)
      have y2 := hrw.frozen (j * 3 + 2)
      have HI := Lib.hid (List.getElem?_eq_getElem (show i < l.length by omega))
      have HJ := Lib.hid (List.getElem?_eq_getElem (show j < l.length by omega))
      clear f0 f1 f2 e0 e1 e2
      generalize l[i] = x at *
      generalize l[j] = y at *
      obtain ⟨xn, xf, xl⟩ := x
      obtain ⟨yn, yf, yl⟩ := y
      simp only at c0 c1 c2 d0 d1 d2
      rw [hj]
      have hij : (i : Int) < (j : Int) := by omega
      have hin : (i : Int) < (n : Int) := by omega
      have hjz : (j : Int) < (n : Int) := by omega
      have hwi : IntKind.i64.wrap (i : Int) = (i : Int) := IntWalk.i64_in _ ⟨by omega, by omega⟩
      have hwj : IntKind.i64.wrap (j : Int) = (j : Int) := IntWalk.i64_in _ ⟨by omega, by omega⟩
      have HSW := Lib.hid (holds3_swap hl hsum hji HI.out HJ.out hH)
      have HE := Lib.hid (show (j : Int) - 1 = (n : Int) - 1 - ((i + 1 : Nat) : Int) by omega)
      have HM := Lib.hid (show n - (i + 1) < n - i ∧ i + 1 ≤ n by omega)
      clear hj hi hjc hsum
      go_wp2_with fail
      go_region
      go_wp2_with fail
      rw [← set3_eq wr g (i * 3) yn yf yl, ← set3_eq (wr.setCells g (i * 3) (encP ⟨yn, yf, yl⟩)) g (j * 3) xn xf xl]
      exact ⟨⟨i + 1, _, by go_num, by rw [HE.out], HM.out.2, (rowIs_setCells _ _ _ _ (rowIs_setCells _ _ _ _ hrw)).drew, HSW.out, ((hgw.trans (grownBy_setCells _ _ _ _)).trans (grownBy_setCells _ _ _ _)).trans (grown_drew _ _)⟩, by have := HM.out.1; simp [RowKit.intOf]; omega⟩
    · have hd : decide ((i : Int) < (n : Int) - 1 - (i : Int)) = false := decide_eq_false (by omega)
      have HR := Lib.hid (holds3_end hl (by omega) hH)
      go_wp2_with fail
      go_end0
      exact ⟨rfl, ⟨F', hrw, HR.out⟩, hgw⟩
end Go.Proofs.YtcdaalnjanncmaaDoor

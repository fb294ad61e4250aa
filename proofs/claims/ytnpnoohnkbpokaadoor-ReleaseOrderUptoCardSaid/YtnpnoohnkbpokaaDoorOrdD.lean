/- Rows of versions; what Text answers at any version; that Parse is awake. -/
import Derived.Test.YtnpnoohnkbpokaaDoorOrdT
import Derived.Laws.AppendOwn
namespace Go.Proofs.YtnpnoohnkbpokaaDoor
open Go.RowKit Go.Lib

/-- A version and where its row is. -/
structure Ve where
  x : Vr
  p : Value
def encV (e : Ve) : List Value := [.string e.x.pj, .int .i64 e.x.ma, .int .i64 e.x.mi, .int .i64 e.x.pa, e.p]
def FitV (w0 : World) (e : Ve) : Prop := SlG encS 1 fitP w0 e.p e.x.pre ∧ e.x.pj.size ≤ 1048576
theorem FitV.ver {w0 W : World} {e : Ve} (h : FitV w0 e) (hb : Below w0.heap.size w0 W) : VrV W (.agg #[.string e.x.pj, .int .i64 e.x.ma, .int .i64 e.x.mi, .int .i64 e.x.pa, e.p]) e.x :=
  ⟨_, rfl, h.1.below (Nat.le_refl _) hb⟩
theorem encV_len (e : Ve) : (encV e).length = 5 := rfl
theorem AtG.ver {w : World} {b off : Nat} {l : List Ve} (h : AtG encV 5 w b off l) {i : Nat} (hi : i < l.length) :
    w.cell? ⟨b, off + i * 5, none⟩ = some (.string l[i].x.pj) ∧ w.cell? ⟨b, off + i * 5 + 1, none⟩ = some (.int .i64 l[i].x.ma) ∧ w.cell? ⟨b, off + i * 5 + 2, none⟩ = some (.int .i64 l[i].x.mi) ∧ w.cell? ⟨b, off + i * 5 + 3, none⟩ = some (.int .i64 l[i].x.pa) ∧ w.cell? ⟨b, off + i * 5 + 4, none⟩ = some l[i].p :=
  ⟨h i hi 0 (by omega), h i hi 1 (by omega), h i hi 2 (by omega), h i hi 3 (by omega), h i hi 4 (by omega)⟩

def TxtPost (x : Vr) (w : World) (e : Ending) (w' : World) : Prop := e = .returned (.tuple #[.string (txtOf x), .int .i64 (txtErr x)]) ∧ Below w.heap.size w w'
theorem txt_cases (x : Vr) : (projB x.pj.data.toList = false ∨ minV x < 0 ∨ 999999 < maxV x ∨ 5 < x.pre.length ∨ anyBad x.pre = true) ∨
    (projB x.pj.data.toList = true ∧ ¬ minV x < 0 ∧ ¬ 999999 < maxV x ∧ ¬ 5 < x.pre.length ∧ anyBad x.pre = false) := by
  by_cases h : projB x.pj.data.toList = false ∨ minV x < 0 ∨ 999999 < maxV x ∨ 5 < x.pre.length ∨ anyBad x.pre = true
  · exact Or.inl h
  · refine Or.inr ⟨?_, fun a => h (Or.inr (Or.inl a)), fun a => h (Or.inr (Or.inr (Or.inl a))), fun a => h (Or.inr (Or.inr (Or.inr (Or.inl a)))), ?_⟩
    · cases hp : projB x.pj.data.toList
      · exact absurd (Or.inl hp) h
      · rfl
    · cases hp : anyBad x.pre
      · rfl
      · exact absurd (Or.inr (Or.inr (Or.inr (Or.inr hp)))) h
theorem txtErr_bad {x : Vr} (hb : projB x.pj.data.toList = false ∨ minV x < 0 ∨ 999999 < maxV x ∨ 5 < x.pre.length ∨ anyBad x.pre = true) : txtErr x ≠ 0 := by
  intro h
  obtain ⟨h1, h2, h3, h4, h5, -⟩ := txt_ok h
  rcases hb with h | h | h | h | h
  · rw [h1] at h; cases h
  · exact h2 h
  · exact h3 h
  · exact h4 h
  · rw [h5] at h; cases h
theorem txtErr_good {x : Vr} (hP : projB x.pj.data.toList = true) (h0 : ¬ minV x < 0) (h1 : ¬ 999999 < maxV x) (h5 : ¬ 5 < x.pre.length) (hA : anyBad x.pre = false) : txtErr x = if 40 < (txtF x).size then 4 else 0 := by
  unfold txtErr
  rw [if_neg (by rw [hP]; decide), if_neg (by omega), if_neg h5, if_neg (by rw [hA]; decide)]
theorem good_ret {x : Vr} (h : txtErr x = if 40 < (txtF x).size then 4 else 0) : (if 40 < (txtF x).size then (⟨#[]⟩ : ByteArray) else txtF x) = txtOf x := by
  unfold txtOf
  rw [h]
  by_cases h4 : 40 < (txtF x).size
  · rw [if_pos h4, if_pos h4, if_neg (by decide)]
  · rw [if_neg h4, if_neg h4, if_pos rfl]
theorem Text_any (v : Value) (x : Vr) (w : World) (h : VrV w v x) (he : Env w) (hz : x.pj.size ≤ 1048576) : Calls Tryd.prog 22 #[v] w (TxtPost x w) := by
  rcases txt_cases x with hb | ⟨hP, h0, h1, h5, hA⟩
  · refine (Text_bad v x w h hz hb).mono ?_
    rintro e w' ⟨rfl, hw⟩
    exact ⟨by unfold txtOf; rw [if_neg (txtErr_bad hb)], hw⟩
  · refine (Text_good v x w h he hz hP h0 h1 h5 hA).mono ?_
    rintro e w' ⟨rfl, hw⟩
    have hg := txtErr_good hP h0 h1 h5 hA
    exact ⟨by rw [good_ret hg, hg], hw⟩

def s0 : ByteArray := ⟨#[97, 45, 49, 46, 48, 46, 48]⟩
def x0 : Vr := ⟨⟨#[97]⟩, 1, 0, 0, []⟩
theorem s0_eq : txtF x0 = s0 := by
  rw [tx_eq]
  unfold x0 s0
  rw [show Lib.itoa 1 = [49] by unfold Lib.itoa; rw [if_neg (by omega)]; exact Lib.decDigits_one (by omega), show Lib.itoa 0 = [48] by unfold Lib.itoa; rw [if_neg (by omega)]; exact Lib.decDigits_one (by omega)]
  rfl
theorem x0_ok : txtErr x0 = 0 := by
  rw [txtErr_good (by decide) (by decide) (by decide) (by decide) (by decide), s0_eq]
  rfl

set_option maxRecDepth 100000 in
set_option maxHeartbeats 2000000 in
theorem awake_any (w : World) (he : Env w) : Calls Tryd.prog 21 #[] w fun e w' => e = .returned (.bool true) ∧ Below w.heap.size w w' := by
  have HP := Lib.hid (Parse_any s0 w (by decide) he)
  have hb := back x0_ok
  rw [s0_eq] at hb
  have HE : verErr s0 = 0 := by unfold verErr; rw [hb.1]; rfl
  have HO : verOf s0 = x0 := by unfold verOf; rw [hb.1]; exact hb.2
  rw [HE, HO] at HP
  unfold s0 at HP
  clear hb HE HO he
  go_enter Tryd.func21, Tryd.ntmps21
  go_wp2_with (go_at_call 23; (with_reducible refine HP.out.mono ?_); rintro e w1 ⟨v, rfl, ⟨pp, pn, pc, rfl, hsl, hfr⟩, hb1⟩; have hbw := (hb1.alloc hb1.size (.cells #[.string ⟨#[97]⟩, .int .i64 1, .int .i64 0, .int .i64 0, .slice pp pn pc] 43)); clear hsl hfr)
  go_ret
  exact ⟨rfl, hbw⟩
end Go.Proofs.YtnpnoohnkbpokaaDoor

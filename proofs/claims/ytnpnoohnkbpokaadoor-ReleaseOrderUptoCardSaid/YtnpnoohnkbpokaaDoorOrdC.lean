/- Comparing right versions is an order. -/
import Derived.Test.YtnpnoohnkbpokaaDoorOrdN
namespace Go.Proofs.YtnpnoohnkbpokaaDoor
open Go.Lib

/-- A way to compare things: of things that are right it is an order. -/
structure Cmp {α : Type} (P : α → Prop) (C : α → α → Int) : Prop where
  rng : ∀ a b, -1 ≤ C a b ∧ C a b ≤ 1
  anti : ∀ a b, P a → P b → C b a = -(C a b)
  eq : ∀ a b, P a → P b → C a b = 0 → a = b
  tr : ∀ a b d, P a → P b → P d → C a b < 0 → C b d < 0 → C a d < 0
theorem Cmp.refl {α : Type} {P : α → Prop} {C : α → α → Int} (h : Cmp P C) (a : α) (ha : P a) : C a a = 0 := by
  have := h.anti a a ha ha; omega
theorem Cmp.le {α : Type} {P : α → Prop} {C : α → α → Int} (h : Cmp P C) {a b d : α} (ha : P a) (hb : P b) (hd : P d) (h1 : C a b ≤ 0) (h2 : C b d ≤ 0) : C a d ≤ 0 := by
  by_cases e1 : C a b = 0
  · rw [h.eq a b ha hb e1]; exact h2
  by_cases e2 : C b d = 0
  · rw [← h.eq b d hb hd e2]; exact h1
  have := h.tr a b d ha hb hd (by omega) (by omega)
  omega
/-- One after the other. -/
theorem Cmp.andThen {α β γ : Type} {P : γ → Prop} {PA : α → Prop} {PB : β → Prop} {A : α → α → Int} {B : β → β → Int} (f : γ → α) (g : γ → β) (hf : ∀ x, P x → PA (f x)) (hg : ∀ x, P x → PB (g x)) (hj : ∀ x y, f x = f y → g x = g y → x = y) (ha : Cmp PA A) (hb : Cmp PB B) :
    Cmp P (fun x y => if A (f x) (f y) ≠ 0 then A (f x) (f y) else B (g x) (g y)) where
  rng x y := by
    have h1 := ha.rng (f x) (f y)
    have h2 := hb.rng (g x) (g y)
    split <;> assumption
  anti x y hx hy := by
    have h1 := ha.anti _ _ (hf x hx) (hf y hy)
    have h2 := hb.anti _ _ (hg x hx) (hg y hy)
    by_cases e : A (f x) (f y) = 0
    · rw [if_neg (by omega), if_neg (by omega)]; exact h2
    · rw [if_pos (by omega), if_pos (by omega)]; exact h1
  eq x y hx hy h := by
    by_cases e : A (f x) (f y) = 0
    · rw [if_neg (by omega)] at h
      exact hj _ _ (ha.eq _ _ (hf x hx) (hf y hy) e) (hb.eq _ _ (hg x hx) (hg y hy) h)
    · rw [if_pos e] at h; exact absurd h e
  tr x y z hx hy hz h1 h2 := by
    by_cases e1 : A (f x) (f y) = 0
    · rw [if_neg (by omega)] at h1
      rw [ha.eq _ _ (hf x hx) (hf y hy) e1]
      by_cases e2 : A (f y) (f z) = 0
      · rw [if_neg (by omega)] at h2 ⊢
        exact hb.tr _ _ _ (hg x hx) (hg y hy) (hg z hz) h1 h2
      · rw [if_pos e2] at h2 ⊢; exact h2
    · rw [if_pos e1] at h1
      by_cases e2 : A (f y) (f z) = 0
      · rw [← ha.eq _ _ (hf y hy) (hf z hz) e2, if_pos e1]; exact h1
      · rw [if_pos e2] at h2
        have := ha.tr _ _ _ (hf x hx) (hf y hy) (hf z hz) h1 h2
        rw [if_pos (by omega)]; exact this

theorem cmp_I : Cmp (fun _ => True) cmpI where
  rng a b := by unfold cmpI; split <;> (try split) <;> omega
  anti a b _ _ := by unfold cmpI; repeat' split
                     all_goals omega
  eq a b _ _ h := by
    unfold cmpI at h
    split at h
    · cases h
    · split at h
      · cases h
      · omega
  tr a b d _ _ _ h1 h2 := by
    have h1 : a < b := by
      unfold cmpI at h1
      split at h1
      · assumption
      · split at h1 <;> omega
    have h2 : b < d := by
      unfold cmpI at h2
      split at h2
      · assumption
      · split at h2 <;> omega
    unfold cmpI; rw [if_pos (by omega)]; omega
theorem bl_asymm {a b : List UInt8} (h : a < b) : ¬ b < a := fun h2 => List.lt_irrefl _ (List.lt_trans h h2)
theorem cmpS_lt {a b : ByteArray} (h : cmpS a b < 0) : a.toList < b.toList := by
  unfold cmpS at h
  split at h
  · rename_i h1; rw [Go.Proofs.bytesLess_eq] at h1; exact of_decide_eq_true h1
  · split at h <;> omega
theorem cmpS_of {a b : ByteArray} (h : a.toList < b.toList) : cmpS a b = -1 := by
  unfold cmpS; rw [Go.Proofs.bytesLess_eq, decide_eq_true h, if_pos rfl]
theorem toList_inj {a b : ByteArray} (h : a.toList = b.toList) : a = b := by
  rw [ByteArray.toList_eq, ByteArray.toList_eq] at h
  obtain ⟨⟨x⟩⟩ := a
  obtain ⟨⟨y⟩⟩ := b
  simpa using h
theorem cmp_S : Cmp (fun _ => True) cmpS where
  rng a b := by unfold cmpS; split <;> (try split) <;> omega
  anti a b _ _ := by
    by_cases h1 : a.toList < b.toList
    · rw [cmpS_of h1]
      unfold cmpS
      rw [Go.Proofs.bytesLess_eq, decide_eq_false (bl_asymm h1), if_neg (by decide), if_neg]
      · rfl
      · intro e; rw [beq_iff_eq] at e; rw [e] at h1; exact List.lt_irrefl _ h1
    · by_cases h2 : b.toList < a.toList
      · rw [cmpS_of h2]
        unfold cmpS
        rw [Go.Proofs.bytesLess_eq, decide_eq_false h1, if_neg (by decide), if_neg]
        intro e; rw [beq_iff_eq] at e; rw [e] at h2; exact List.lt_irrefl _ h2
      · have e : a.toList = b.toList := by
          have h3 : b.toList ≤ a.toList := h1
          have h4 : a.toList ≤ b.toList := h2
          exact List.le_antisymm h4 h3
        unfold cmpS
        rw [Go.Proofs.bytesLess_eq, Go.Proofs.bytesLess_eq, decide_eq_false h1, decide_eq_false h2, e]
        simp
  eq a b _ _ h := by
    unfold cmpS at h
    split at h
    · cases h
    · split at h
      · rename_i h2; rw [beq_iff_eq] at h2; exact toList_inj h2
      · cases h
  tr a b d _ _ _ h1 h2 := by
    rw [cmpS_of (List.lt_trans (cmpS_lt h1) (cmpS_lt h2))]; omega
/-- A part that may stand in Pre. -/
def PB (s : ByteArray) : Prop := partB s.data.toList = true
theorem pn_ok {s : ByteArray} (h : PB s) (hp : pnOk s.data.toList = true) : numOk 6 s.data.toList = true := by
  unfold PB partB at h
  unfold pnOk at hp
  simp only [Bool.and_eq_true] at hp
  rw [if_pos hp.2] at h
  exact h
theorem data_inj {a b : ByteArray} (h : a.data.toList = b.data.toList) : a = b := by
  obtain ⟨⟨x⟩⟩ := a
  obtain ⟨⟨y⟩⟩ := b
  simpa using h
theorem cmp_P : Cmp PB cmpP where
  rng a b := by
    have h1 := cmp_I.rng (pnV a.data.toList) (pnV b.data.toList)
    have h2 := cmp_S.rng a b
    unfold cmpP
    split
    · exact h1
    · split
      · omega
      · split
        · omega
        · exact h2
  anti a b ha hb := by
    have h1 := cmp_I.anti (pnV a.data.toList) (pnV b.data.toList) trivial trivial
    have h2 := cmp_S.anti a b trivial trivial
    unfold cmpP
    cases pnOk a.data.toList <;> cases pnOk b.data.toList <;> simp [h1, h2]
  eq a b ha hb h := by
    unfold cmpP at h
    cases e1 : pnOk a.data.toList <;> cases e2 : pnOk b.data.toList <;> simp [e1, e2] at h
    · exact cmp_S.eq a b trivial trivial h
    · have h3 := cmp_I.eq _ _ trivial trivial h
      unfold pnV at h3
      rw [if_pos e1, if_pos e2] at h3
      exact data_inj (num_one (pn_ok ha e1) (pn_ok hb e2) h3)
  tr a b d ha hb hd h1 h2 := by
    unfold cmpP at *
    cases e1 : pnOk a.data.toList <;> cases e2 : pnOk b.data.toList <;> cases e3 : pnOk d.data.toList <;> simp [e1, e2, e3] at h1 h2 ⊢
    · exact cmp_S.tr _ _ _ trivial trivial trivial h1 h2
    · exact cmp_I.tr _ _ _ trivial trivial trivial h1 h2
theorem cmp_L : Cmp (fun l => ∀ x ∈ l, PB x) cmpL where
  rng := by
    intro a
    induction a with
    | nil => intro b; cases b <;> (simp only [cmpL]; omega)
    | cons x a ih =>
      intro b
      cases b with
      | nil => simp only [cmpL]; omega
      | cons y b =>
        have h1 := cmp_P.rng x y
        have h2 := ih b
        simp only [cmpL]
        split <;> assumption
  anti := by
    intro a
    induction a with
    | nil => intro b _ _; cases b <;> (simp only [cmpL]; omega)
    | cons x a ih =>
      intro b ha hb
      cases b with
      | nil => simp only [cmpL]; try omega
      | cons y b =>
        have h1 := cmp_P.anti x y (ha x (by simp)) (hb y (by simp))
        have h2 := ih b (fun z hz => ha z (by simp [hz])) (fun z hz => hb z (by simp [hz]))
        simp only [cmpL]
        by_cases e : cmpP x y = 0
        · rw [if_neg (by omega), if_neg (by omega)]; exact h2
        · rw [if_pos (by omega), if_pos (by omega)]; exact h1
  eq := by
    intro a
    induction a with
    | nil => intro b _ _ h; cases b with
      | nil => rfl
      | cons y b => simp only [cmpL] at h; omega
    | cons x a ih =>
      intro b ha hb h
      cases b with
      | nil => simp only [cmpL] at h; omega
      | cons y b =>
        simp only [cmpL] at h
        by_cases e : cmpP x y = 0
        · rw [if_neg (by omega)] at h
          rw [cmp_P.eq x y (ha x (by simp)) (hb y (by simp)) e, ih b (fun z hz => ha z (by simp [hz])) (fun z hz => hb z (by simp [hz])) h]
        · rw [if_pos e] at h; exact absurd h e
  tr := by
    intro a
    induction a with
    | nil =>
      intro b d _ _ _ h1 h2
      cases b with
      | nil => simp only [cmpL] at h1; omega
      | cons y b => cases d with
        | nil => simp only [cmpL] at h2; omega
        | cons z d => simp only [cmpL]; omega
    | cons x a ih =>
      intro b d ha hb hd h1 h2
      cases b with
      | nil => simp only [cmpL] at h1; omega
      | cons y b => cases d with
        | nil => simp only [cmpL] at h2; omega
        | cons z d =>
          have hx := ha x (by simp)
          have hy := hb y (by simp)
          have hz := hd z (by simp)
          simp only [cmpL] at h1 h2 ⊢
          by_cases e1 : cmpP x y = 0
          · rw [if_neg (by omega)] at h1
            rw [cmp_P.eq x y hx hy e1]
            by_cases e2 : cmpP y z = 0
            · rw [if_neg (by omega)] at h2 ⊢
              exact ih b d (fun z hz => ha z (by simp [hz])) (fun z hz => hb z (by simp [hz])) (fun z hz => hd z (by simp [hz])) h1 h2
            · rw [if_pos e2] at h2 ⊢; exact h2
          · rw [if_pos e1] at h1
            by_cases e2 : cmpP y z = 0
            · rw [← cmp_P.eq y z hy hz e2, if_pos e1]; exact h1
            · rw [if_pos e2] at h2
              have := cmp_P.tr x y z hx hy hz h1 h2
              rw [if_pos (by omega)]; exact this
/-- How what stands behind the numbers compares. -/
def cmpR (l m : List ByteArray) : Int := if l = [] ∧ m ≠ [] then 1 else if l ≠ [] ∧ m = [] then -1 else cmpL l m
theorem cmp_R : Cmp (fun l => ∀ x ∈ l, PB x) cmpR where
  rng a b := by
    have := cmp_L.rng a b
    unfold cmpR; split
    · omega
    · split
      · omega
      · exact this
  anti a b ha hb := by
    have h := cmp_L.anti a b ha hb
    unfold cmpR
    rcases a with _ | ⟨a0, a⟩ <;> rcases b with _ | ⟨b0, b⟩
    · simpa using h
    · simp
    · simp
    · rw [if_neg (by simp), if_neg (by simp), if_neg (by simp), if_neg (by simp)]; exact h
  eq a b ha hb h := by
    have h2 := cmp_L.eq a b ha hb
    unfold cmpR at h
    rcases a with _ | ⟨a0, a⟩ <;> rcases b with _ | ⟨b0, b⟩
    · rfl
    · simp at h
    · simp at h
    · rw [if_neg (by simp), if_neg (by simp)] at h; exact h2 h
  tr a b d ha hb hd h1 h2 := by
    have h := cmp_L.tr a b d ha hb hd
    unfold cmpR at *
    rcases a with _ | ⟨a0, a⟩ <;> rcases b with _ | ⟨b0, b⟩ <;> rcases d with _ | ⟨d0, d⟩
    · simp [cmpL] at h1
    · simp [cmpL] at h1
    · simp at h1
    · simp at h1
    · simp [cmpL] at h2
    · simp at h2
    · simp
    · rw [if_neg (by simp), if_neg (by simp)] at h1 h2 ⊢; exact h h1 h2
/-- A right version. -/
def GoodV (x : Vr) : Prop := ∀ s ∈ x.pre, PB s
theorem cmpV_eq (x y : Vr) : cmpV x y = if cmpS x.pj y.pj ≠ 0 then cmpS x.pj y.pj else if cmpI x.ma y.ma ≠ 0 then cmpI x.ma y.ma else if cmpI x.mi y.mi ≠ 0 then cmpI x.mi y.mi else if cmpI x.pa y.pa ≠ 0 then cmpI x.pa y.pa else cmpR x.pre y.pre := by
  unfold cmpV preC cmpR
  simp only [fnz]
  by_cases h1 : cmpS x.pj y.pj = 0 <;> by_cases h2 : cmpI x.ma y.ma = 0 <;> by_cases h3 : cmpI x.mi y.mi = 0 <;> by_cases h4 : cmpI x.pa y.pa = 0 <;> simp [h1, h2, h3, h4]
theorem cmp_V : Cmp GoodV cmpV := by
  have h4 : Cmp (fun t : Int × List ByteArray => ∀ s ∈ t.2, PB s) _ := Cmp.andThen (PA := fun _ => True) (PB := fun l => ∀ x ∈ l, PB x) (fun t : Int × List ByteArray => t.1) (fun t => t.2) (fun _ _ => trivial) (fun _ h => h) (fun x y a b => Prod.ext a b) cmp_I cmp_R
  have h3 : Cmp (fun t : Int × Int × List ByteArray => ∀ s ∈ t.2.2, PB s) _ := Cmp.andThen (PA := fun _ => True) (fun t : Int × Int × List ByteArray => t.1) (fun t => t.2) (fun _ _ => trivial) (fun _ h => h) (fun x y a b => Prod.ext a b) cmp_I h4
  have h2 : Cmp (fun t : Int × Int × Int × List ByteArray => ∀ s ∈ t.2.2.2, PB s) _ := Cmp.andThen (PA := fun _ => True) (fun t : Int × Int × Int × List ByteArray => t.1) (fun t => t.2) (fun _ _ => trivial) (fun _ h => h) (fun x y a b => Prod.ext a b) cmp_I h3
  have h1 : Cmp GoodV _ := Cmp.andThen (PA := fun _ => True) (fun x : Vr => x.pj) (fun x => (x.ma, x.mi, x.pa, x.pre)) (fun _ _ => trivial) (fun _ h => h) (fun x y a b => by
    obtain ⟨_, _, _, _, _⟩ := x
    obtain ⟨_, _, _, _, _⟩ := y
    simp_all) cmp_S h2
  have e : cmpV = fun x y => if cmpS x.pj y.pj ≠ 0 then cmpS x.pj y.pj else if cmpI x.ma y.ma ≠ 0 then cmpI x.ma y.ma else if cmpI x.mi y.mi ≠ 0 then cmpI x.mi y.mi else if cmpI x.pa y.pa ≠ 0 then cmpI x.pa y.pa else cmpR x.pre y.pre := by
    funext x y; exact cmpV_eq x y
  rw [e]
  exact h1
end Go.Proofs.YtnpnoohnkbpokaaDoor

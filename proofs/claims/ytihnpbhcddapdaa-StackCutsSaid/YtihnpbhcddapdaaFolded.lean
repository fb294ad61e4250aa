/- What the reference's Folded answers. -/
import Derived.Test.YtihnpbhcddapdaaFold
namespace Go.Proofs.Ytihnpbhcddapdaa
open Go.RowKit

/-- Runs alone. -/
def MadeR1 (l : List Rn) (w : World) (e : Ending) (w' : World) : Prop := ∃ v, e = .returned v ∧ w'.ownsRow w.heap.size 46 3 v l.length (cellsR l) ∧ Below w.heap.size w w'

theorem new_cells1 (w : World) {cs : List Value} {j : Nat} {u : Value} (c : Array Value) (t : TypeId) (hc : c.toList = cs) (hu : cs[j]? = some u) : (w.alloc (.cells c t)).cell? ((⟨w.heap.size, 0, none⟩ : Addr).add j) = some u := by
  rw [add_none, Nat.zero_add]
  have hg : (w.alloc (.cells c t)).heap[w.heap.size]? = some (.cells c t (0, 0)) := by
    show (Array.push _ _)[w.heap.size]? = _
    exact Array.getElem?_push_size ..
  simp only [World.cell?, hg]
  rw [← hc] at hu
  simpa using hu
theorem keepB {wm W W' : World} {g : Nat} {a b c : Int} (hbox : Box wm g a b c) (h : Below wm.heap.size wm W) (hk : Below W.heap.size W W') : Below wm.heap.size wm W' ∧ W'.cell? ⟨g, 0, none⟩ = some (.int .i64 a) ∧ W'.cell? ⟨g, 1, none⟩ = some (.int .i64 b) ∧ W'.cell? ⟨g, 2, none⟩ = some (.int .i64 c) ∧ W'.frozen? ⟨g, 0, none⟩ = false ∧ W'.frozen? ⟨g, 1, none⟩ = false ∧ W'.frozen? ⟨g, 2, none⟩ = false :=
  have hb := below_on h hk (Nat.le_refl _)
  ⟨hb, (hbox.below hb hbox.lt).cells⟩
theorem heldB {wm W : World} {g : Nat} {a b c : Int} (h : Below wm.heap.size wm W ∧ W.cell? ⟨g, 0, none⟩ = some (.int .i64 a) ∧ W.cell? ⟨g, 1, none⟩ = some (.int .i64 b) ∧ W.cell? ⟨g, 2, none⟩ = some (.int .i64 c) ∧ W.frozen? ⟨g, 0, none⟩ = false ∧ W.frozen? ⟨g, 1, none⟩ = false ∧ W.frozen? ⟨g, 2, none⟩ = false) : Below wm.heap.size wm W := h.1
theorem bestK_step {r : List Fr} {k : Nat} (hk : 1 ≤ k) : bestK r k = if 1 < timesN r k ∧ (bestK r (k - 1)).1 * (bestK r (k - 1)).2 < k * timesN r k then (k, timesN r k) else bestK r (k - 1) := by
  obtain ⟨j, rfl⟩ : ∃ j, k = j + 1 := ⟨k - 1, by omega⟩
  rfl

set_option maxHeartbeats 4000000 in
set_option maxRecDepth 100000 in
theorem folded_some (b off cap : Nat) (l : List Fr) (w : World) (hb : b < w.heap.size) (hcap : l.length ≤ cap) (hcm : cap ≤ maxLen) (hf : ∀ x ∈ l, x.fit) (hc : FrsAt w b off l) (hl2 : l.length ≤ 200) :
    Calls Try.prog 23 #[.slice (some ⟨b, off, none⟩) l.length cap] w (MadeR1 (foldN l) w) := by
  obtain ⟨i0, hi, hz0, hz1, hz2⟩ := info_parts Try.info46
  have hz3 : (Value.agg #[.int .i64 0, .int .i64 0, .int .i64 0]).cells.size = 3 := rfl
  have HSL := Lib.hid (fun (lo hi : Nat) (g1 : lo ≤ hi) (g2 : hi ≤ l.length) => slF_sub (lo := lo) (hi := hi) hcap hcm hf hb hc g1 g2)
  have HST := Lib.hid (fun (n : Nat) (runs : List Rn) (i : Nat) (h : i < l.length) (hn : l.length - i ≤ n) => foldG_step (l := l) (n := n) (runs := runs) h hn)
  have HEND := Lib.hid (fun (n : Nat) (runs : List Rn) (i : Nat) (h : l.length ≤ i) => foldG_end (l := l) (n := n) (runs := runs) h)
  have HB := Lib.hid (fun (i : Nat) (h : i < l.length) => bestK_ok (l.drop i) (by rw [List.length_drop]; omega))
  have HDL := Lib.hid (fun (i : Nat) => (List.length_drop : (l.drop i).length = l.length - i))
  have HF0 := Lib.hid (show foldG l l.length [] 0 = foldN l from rfl)
  unfold maxLen at hcm
  clear hc hf
  generalize hn : l.length = n at *
  clear hn
  go_enter Try.func23, Try.ntmps23
  go_wp2_with fail
  go_loopw [3, 4] (fun v5 v6 wr => ∃ (runs : List Rn) (i fuel : Nat), i ≤ n ∧ n - i ≤ fuel ∧ foldG l fuel runs i = foldN l ∧ runs.length ≤ i ∧ (∀ r ∈ runs, 0 ≤ r.long ∧ r.long ≤ i) ∧ wr.ownsRow w.heap.size 46 3 v5 runs.length (cellsR runs) ∧ v6 = .int .i64 i ∧ Below w.heap.size w wr) (fun _ v _ => n - (intOf v).toNat)
  case atStart => exact ⟨[], 0, n, Nat.zero_le _, by omega, HF0.out, Nat.zero_le _, by simp, ⟨rfl, .inl ⟨rfl, rfl⟩⟩, rfl, Below.refl _ _⟩
  case round =>
    obtain ⟨wo, rfl⟩ : ∃ wo : World, wo = wr := ⟨_, rfl⟩
    obtain ⟨runs, i, fuel, g1, g2, g3, g4, g5, hown, rfl, hbw⟩ := hrel
    have G3 := Lib.hid g3
    have G5 := Lib.hid g5
    clear g3 g5
    by_cases hlt : i < n
    · have hbk := HB.out i hlt
      have HDI := Lib.hid (HDL.out i)
      rw [HDI.out] at hbk
      have HBK := Lib.hid hbk
      clear hbk
      go_wp2_with fail
      go_loopw [6, 7] (fun v6 v7 wr => ∃ (k : Nat) (f : Bool), 1 ≤ k ∧ k - 1 ≤ (n - i) / 2 ∧ Box wr wo.heap.size i (bestK (l.drop i) (k - 1)).1 (bestK (l.drop i) (k - 1)).2 ∧ (f = false → bestK (l.drop i) (k - 1) = (1, 1)) ∧ v6 = .bool f ∧ v7 = .int .i64 k ∧ Below wo.heap.size wo wr) (fun _ v _ => 400 - (intOf v).toNat)
      case atStart => exact ⟨1, false, by omega, by omega, Box.made wo i 1 1, fun _ => rfl, rfl, rfl, (Below.refl _ _).alloc (Nat.le_refl _) _⟩
      obtain ⟨wm, rfl⟩ : ∃ wm : World, wm = wr := ⟨_, rfl⟩
      obtain ⟨k, f, hk0, hk, hbox, hff, rfl, rfl, hbm⟩ := hrel
      have HFF := Lib.hid hff
      clear hff
      by_cases hk1 : k ≤ (n - i) / 2
      · have hkk : 2 * (k : Int) ≤ (n : Int) - (i : Int) := by omega
        have HMT := Lib.hid (fun j => show mtch (l.drop i) k j = (decide ((j + 1) * k ≤ (l.drop i).length) && decide ((l.drop i).take k = ((l.drop i).drop (j * k)).take k)) from rfl)
        have HEQ := Lib.hid (fun t => timesN_eq (l := l.drop i) (t := t) hk0)
        rw [HDI.out] at HMT
        have HSA := Lib.hid (HSL.out i (i + k) (by omega) (by omega))
        rw [show i + k - i = k by omega] at HSA
        have e5 : IntKind.i64.wrap ((i : Int) + (k : Int)) = ((i + k : Nat) : Int) := by rw [IntWalk.i64_in _ ⟨by omega, by omega⟩]; omega
        have s1 : i + k - i = k := by omega
        have s2 : i ≤ i + k := by omega
        have s3 : i + k ≤ n := by omega
        have s4 : i + k ≤ cap := by omega
        have s5 : ¬ cap = i := by omega
        generalize i + k = fl at *
        have HSTEP := Lib.hid (bestK_step (r := l.drop i) hk0)
        have HLE := Lib.hid (fun h => timesN_le (l := l.drop i) (long := k) h)
        rw [HDI.out] at HLE
        have hmm := HBK.out (k - 1) hk
        generalize bestK (l.drop i) (k - 1) = bb at *
        obtain ⟨x1, x2⟩ := bb
        obtain ⟨m1, m2, m3⟩ := hmm
        simp only at hbox m1 m2 m3 HSTEP
        go_wp2_with fail
        go_loopw [8] (fun v wr => ∃ t : Nat, 1 ≤ t ∧ t ≤ 201 ∧ (∀ j, 1 ≤ j → j < t → mtch (l.drop i) k j = true) ∧ v = .int .i64 t ∧ Below wm.heap.size wm wr) (fun v _ => 300 - (intOf v).toNat)
        case atStart => exact ⟨1, by omega, by omega, by omega, rfl, Below.refl _ _⟩
        obtain ⟨t, t1, t2, hz, rfl, hbw2⟩ := hrel
        have HZ := Lib.hid hz
        clear hz
        obtain ⟨d0, d1, d2, f0, f1, f2⟩ := (hbox.below hbw2 hbox.lt).cells
        have hP : t * k ≤ 201 * 200 := Nat.mul_le_mul t2 (by omega)
        have HP1 := Lib.hid (show (t + 1) * k = t * k + k from Nat.succ_mul t k)
        have e0 : IntKind.i64.wrap ((t : Int) + 1) = (t : Int) + 1 := IntWalk.i64_in _ ⟨by omega, by omega⟩
        have e3 : IntKind.i64.wrap ((t : Int) * (k : Int)) = ((t * k : Nat) : Int) := by
          rw [← Int.natCast_mul, IntWalk.i64_in _ ⟨by omega, by omega⟩]
        have e1 : IntKind.i64.wrap (((t : Int) + 1) * (k : Int)) = ((t * k + k : Nat) : Int) := by
          rw [← HP1.out, Int.natCast_mul, IntWalk.i64_in _ (by
            have e : ((t : Int) + 1) * (k : Int) = (((t + 1) * k : Nat) : Int) := by rw [Int.natCast_mul]; rfl
            rw [e, HP1.out]
            exact ⟨by omega, by omega⟩)]
          rfl
        have e4 : IntKind.i64.wrap ((i : Int) + ((t * k : Nat) : Int)) = ((i + t * k : Nat) : Int) := by rw [IntWalk.i64_in _ ⟨by omega, by omega⟩]; omega
        have e2 : IntKind.i64.wrap ((i : Int) + ((t * k + k : Nat) : Int)) = ((i + (t * k + k) : Nat) : Int) := by rw [IntWalk.i64_in _ ⟨by omega, by omega⟩]; omega
        by_cases hhi : i + (t * k + k) ≤ n
        · have hd1 : decide (((i + (t * k + k) : Nat) : Int) ≤ (n : Int)) = true := by simp only [decide_eq_true_eq]; omega
          have HSB := Lib.hid (HSL.out (i + t * k) (i + (t * k + k)) (by omega) hhi)
          rw [show i + (t * k + k) - (i + t * k) = k by omega] at HSB
          have s6 : i + (t * k + k) - (i + t * k) = k := by omega
          have s7 : i + t * k ≤ i + (t * k + k) := by omega
          have s8 : i + (t * k + k) ≤ cap := by omega
          have s9 : ¬ cap = i + t * k := by omega
          have HMt := Lib.hid (show mtch (l.drop i) k t = decide ((l.drop i).take k = (l.drop (i + t * k)).take k) by
            rw [HMT.out, HP1.out, List.drop_drop, show decide (t * k + k ≤ n - i) = true by simp only [decide_eq_true_eq]; omega, Bool.true_and])
          have ht200 : t + 1 ≤ 201 := by
            have : t * 1 ≤ t * k := Nat.mul_le_mul_left _ hk0
            omega
          clear hP
          generalize i + (t * k + k) = hi at *
          generalize i + t * k = lo at *
          generalize t * k + k = Q at *
          generalize t * k = P at *
          by_cases heq : (l.drop i).take k = (l.drop lo).take k
          · have HQ := Lib.hid (fun (W : World) (hW : Below wm.heap.size wm W) => equal_any _ _ _ _ W ((HSA.out.below (Nat.le_refl _) (hbw.trans (hbm.mono hbw.size))).below (Nat.le_refl _) hW) ((HSB.out.below (Nat.le_refl _) (hbw.trans (hbm.mono hbw.size))).below (Nat.le_refl _) hW))
            rw [show decide ((l.drop i).take k = (l.drop lo).take k) = true by simpa using heq] at HQ
            have hmt : mtch (l.drop i) k t = true := by rw [HMt.out]; simpa using heq
            have HMTT := Lib.hid hmt
            clear heq hmt
            go_wp2_with fail
            go_region_held3 (fun w' => Below wm.heap.size wm w' ∧ w'.cell? ⟨wo.heap.size, 0, none⟩ = some (.int .i64 i) ∧ w'.cell? ⟨wo.heap.size, 1, none⟩ = some (.int .i64 x1) ∧ w'.cell? ⟨wo.heap.size, 2, none⟩ = some (.int .i64 x2) ∧ w'.frozen? ⟨wo.heap.size, 0, none⟩ = false ∧ w'.frozen? ⟨wo.heap.size, 1, none⟩ = false ∧ w'.frozen? ⟨wo.heap.size, 2, none⟩ = false)
              (first | exact keepB hbox (by first | assumption | exact heldB (g := wo.heap.size) (a := i) (b := x1) (c := x2) (by assumption) | exact Below.drew (by assumption)) hbX | exact ⟨Below.drew hbw2, d0, d1, d2, f0, f1, f2⟩ | assumption)
              (first | (go_at_call 25; (refine (HQ.out _ (by first | assumption | exact heldB (g := wo.heap.size) (a := i) (b := x1) (c := x2) (by assumption) | exact Below.drew (by assumption))).mono ?_); rintro e' w' ⟨rfl, hbX⟩))
            go_wp2_with fail
            exact ⟨⟨t + 1, by omega, ht200, fun j hj hjt => by
              by_cases hx : j < t
              · exact HZ.out j hj hx
              · obtain rfl : j = t := by omega
                exact HMTT.out, by go_num, heldB (g := wo.heap.size) (a := i) (b := x1) (c := x2) (by assumption)⟩, by simp [intOf]; omega⟩
          · have HQ := Lib.hid (fun (W : World) (hW : Below wm.heap.size wm W) => equal_any _ _ _ _ W ((HSA.out.below (Nat.le_refl _) (hbw.trans (hbm.mono hbw.size))).below (Nat.le_refl _) hW) ((HSB.out.below (Nat.le_refl _) (hbw.trans (hbm.mono hbw.size))).below (Nat.le_refl _) hW))
            rw [show decide ((l.drop i).take k = (l.drop lo).take k) = false by simpa using heq] at HQ
            have hmf : mtch (l.drop i) k t = false := by rw [HMt.out]; simpa using heq
            have HTN := Lib.hid (HEQ.out t t1 HZ.out hmf)
            clear heq hmf
            go_wp2_with fail
            go_region_held3 (fun w' => Below wm.heap.size wm w' ∧ w'.cell? ⟨wo.heap.size, 0, none⟩ = some (.int .i64 i) ∧ w'.cell? ⟨wo.heap.size, 1, none⟩ = some (.int .i64 x1) ∧ w'.cell? ⟨wo.heap.size, 2, none⟩ = some (.int .i64 x2) ∧ w'.frozen? ⟨wo.heap.size, 0, none⟩ = false ∧ w'.frozen? ⟨wo.heap.size, 1, none⟩ = false ∧ w'.frozen? ⟨wo.heap.size, 2, none⟩ = false)
              (first | exact keepB hbox (by first | assumption | exact heldB (g := wo.heap.size) (a := i) (b := x1) (c := x2) (by assumption) | exact Below.drew (by assumption)) hbX | exact ⟨Below.drew hbw2, d0, d1, d2, f0, f1, f2⟩ | assumption)
              (first | (go_at_call 25; (refine (HQ.out _ (by first | assumption | exact heldB (g := wo.heap.size) (a := i) (b := x1) (c := x2) (by assumption) | exact Below.drew (by assumption))).mono ?_); rintro e' w' ⟨rfl, hbX⟩))
            rw [HTN.out] at HSTEP
            have hts : t * k ≤ n - i := by
              have := HLE.out (by omega)
              rwa [HTN.out] at this
            have HPT := Lib.hid (show ((k * t : Nat) : Int) = (k : Int) * t from Int.natCast_mul _ _)
            have HPX := Lib.hid (show ((x1 * x2 : Nat) : Int) = (x1 : Int) * x2 from Int.natCast_mul _ _)
            have p1 : (0 : Int) ≤ (k : Int) * t := by rw [← HPT.out]; omega
            have p2 : (k : Int) * t ≤ 200 := by rw [← HPT.out, Nat.mul_comm]; omega
            have p3 : (0 : Int) ≤ (x1 : Int) * x2 := by rw [← HPX.out]; omega
            have p4 : (x1 : Int) * x2 ≤ 200 := by rw [← HPX.out]; omega
            clear hts
            by_cases ht2 : 2 ≤ t
            · by_cases hP : x1 * x2 < k * t
              · have q1 : (x1 : Int) * x2 < (k : Int) * t := by rw [← HPT.out, ← HPX.out]; omega
                have HS2 := Lib.hid (show bestK (l.drop i) k = (k, t) by rw [HSTEP.out, if_pos ⟨by omega, hP⟩])
                clear hP
                cases f <;>
                  (go_wp2_with fail
                   exact ⟨⟨k + 1, true, by omega, by omega, by rw [Nat.add_sub_cancel, HS2.out]; exact (((hbox.below (by first | assumption | exact heldB (g := wo.heap.size) (a := i) (b := x1) (c := x2) (by assumption) | exact below_drewN (by assumption) _ | exact Below.drew (by assumption)) hbox.lt).set0 _).set1 _).set2 _, (fun h => by cases h), rfl, by go_num, (((below_on hbm (by first | assumption | exact heldB (g := wo.heap.size) (a := i) (b := x1) (c := x2) (by assumption) | exact below_drewN (by assumption) _ | exact Below.drew (by assumption)) (Nat.le_refl _)).setCell (by simp) _).setCell (by simp) _).setCell (by simp) _⟩, by simp [intOf]; omega⟩)
              · have q1 : (k : Int) * t ≤ (x1 : Int) * x2 := by rw [← HPT.out, ← HPX.out]; omega
                have HS2 := Lib.hid (show bestK (l.drop i) k = (x1, x2) by rw [HSTEP.out, if_neg (fun h => hP h.2)])
                cases f with
                | false =>
                  exfalso
                  have := HFF.out rfl
                  simp only [Prod.mk.injEq] at this
                  obtain ⟨rfl, rfl⟩ := this
                  have e : 1 * 2 ≤ k * t := Nat.mul_le_mul hk0 ht2
                  omega
                | true =>
                  clear hP
                  go_wp2_with fail
                  exact ⟨⟨k + 1, true, by omega, by omega, by rw [Nat.add_sub_cancel, HS2.out]; exact hbox.below (by first | assumption | exact heldB (g := wo.heap.size) (a := i) (b := x1) (c := x2) (by assumption) | exact below_drewN (by assumption) _ | exact Below.drew (by assumption)) hbox.lt, (fun h => by cases h), rfl, by go_num, below_on hbm (by first | assumption | exact heldB (g := wo.heap.size) (a := i) (b := x1) (c := x2) (by assumption) | exact below_drewN (by assumption) _ | exact Below.drew (by assumption)) (Nat.le_refl _)⟩, by simp [intOf]; omega⟩
            · have HS2 := Lib.hid (show bestK (l.drop i) k = (x1, x2) by rw [HSTEP.out, if_neg (fun h => ht2 (by omega))])
              go_wp2_with fail
              exact ⟨⟨k + 1, f, by omega, by omega, by rw [Nat.add_sub_cancel, HS2.out]; exact hbox.below (by first | assumption | exact heldB (g := wo.heap.size) (a := i) (b := x1) (c := x2) (by assumption) | exact below_drewN (by assumption) _ | exact Below.drew (by assumption)) hbox.lt, (fun h => by rw [Nat.add_sub_cancel, HS2.out]; exact HFF.out h), rfl, by go_num, below_on hbm (by first | assumption | exact heldB (g := wo.heap.size) (a := i) (b := x1) (c := x2) (by assumption) | exact below_drewN (by assumption) _ | exact Below.drew (by assumption)) (Nat.le_refl _)⟩, by simp [intOf]; omega⟩
        · have hd1 : decide (((i + (t * k + k) : Nat) : Int) ≤ (n : Int)) = false := by simp only [decide_eq_false_iff_not]; omega
          have HTN := Lib.hid (HEQ.out t t1 HZ.out (by rw [HMT.out, HP1.out, show decide (t * k + k ≤ n - i) = false by simp only [decide_eq_false_iff_not]; omega, Bool.false_and]))
          clear hP
          generalize i + (t * k + k) = hi at *
          generalize i + t * k = lo at *
          generalize t * k + k = Q at *
          generalize t * k = P at *
          go_wp2_with fail
          go_quiet (fail)
          rw [HTN.out] at HSTEP
          have hts : t * k ≤ n - i := by
            have := HLE.out (by omega)
            rwa [HTN.out] at this
          have HPT := Lib.hid (show ((k * t : Nat) : Int) = (k : Int) * t from Int.natCast_mul _ _)
          have HPX := Lib.hid (show ((x1 * x2 : Nat) : Int) = (x1 : Int) * x2 from Int.natCast_mul _ _)
          have p1 : (0 : Int) ≤ (k : Int) * t := by rw [← HPT.out]; omega
          have p2 : (k : Int) * t ≤ 200 := by rw [← HPT.out, Nat.mul_comm]; omega
          have p3 : (0 : Int) ≤ (x1 : Int) * x2 := by rw [← HPX.out]; omega
          have p4 : (x1 : Int) * x2 ≤ 200 := by rw [← HPX.out]; omega
          clear hts
          by_cases ht2 : 2 ≤ t
          · by_cases hP : x1 * x2 < k * t
            · have q1 : (x1 : Int) * x2 < (k : Int) * t := by rw [← HPT.out, ← HPX.out]; omega
              have HS2 := Lib.hid (show bestK (l.drop i) k = (k, t) by rw [HSTEP.out, if_pos ⟨by omega, hP⟩])
              clear hP
              cases f <;>
                (go_wp2_with fail
                 exact ⟨⟨k + 1, true, by omega, by omega, by rw [Nat.add_sub_cancel, HS2.out]; exact (((hbox.below (by first | assumption | exact heldB (g := wo.heap.size) (a := i) (b := x1) (c := x2) (by assumption) | exact below_drewN (by assumption) _ | exact Below.drew (by assumption)) hbox.lt).set0 _).set1 _).set2 _, (fun h => by cases h), rfl, by go_num, (((below_on hbm (by first | assumption | exact heldB (g := wo.heap.size) (a := i) (b := x1) (c := x2) (by assumption) | exact below_drewN (by assumption) _ | exact Below.drew (by assumption)) (Nat.le_refl _)).setCell (by simp) _).setCell (by simp) _).setCell (by simp) _⟩, by simp [intOf]; omega⟩)
            · have q1 : (k : Int) * t ≤ (x1 : Int) * x2 := by rw [← HPT.out, ← HPX.out]; omega
              have HS2 := Lib.hid (show bestK (l.drop i) k = (x1, x2) by rw [HSTEP.out, if_neg (fun h => hP h.2)])
              cases f with
              | false =>
                exfalso
                have := HFF.out rfl
                simp only [Prod.mk.injEq] at this
                obtain ⟨rfl, rfl⟩ := this
                have e : 1 * 2 ≤ k * t := Nat.mul_le_mul hk0 ht2
                omega
              | true =>
                clear hP
                go_wp2_with fail
                exact ⟨⟨k + 1, true, by omega, by omega, by rw [Nat.add_sub_cancel, HS2.out]; exact hbox.below (by first | assumption | exact heldB (g := wo.heap.size) (a := i) (b := x1) (c := x2) (by assumption) | exact below_drewN (by assumption) _ | exact Below.drew (by assumption)) hbox.lt, (fun h => by cases h), rfl, by go_num, below_on hbm (by first | assumption | exact heldB (g := wo.heap.size) (a := i) (b := x1) (c := x2) (by assumption) | exact below_drewN (by assumption) _ | exact Below.drew (by assumption)) (Nat.le_refl _)⟩, by simp [intOf]; omega⟩
          · have HS2 := Lib.hid (show bestK (l.drop i) k = (x1, x2) by rw [HSTEP.out, if_neg (fun h => ht2 (by omega))])
            go_wp2_with fail
            exact ⟨⟨k + 1, f, by omega, by omega, by rw [Nat.add_sub_cancel, HS2.out]; exact hbox.below (by first | assumption | exact heldB (g := wo.heap.size) (a := i) (b := x1) (c := x2) (by assumption) | exact below_drewN (by assumption) _ | exact Below.drew (by assumption)) hbox.lt, (fun h => by rw [Nat.add_sub_cancel, HS2.out]; exact HFF.out h), rfl, by go_num, below_on hbm (by first | assumption | exact heldB (g := wo.heap.size) (a := i) (b := x1) (c := x2) (by assumption) | exact below_drewN (by assumption) _ | exact Below.drew (by assumption)) (Nat.le_refl _)⟩, by simp [intOf]; omega⟩
      · have hk2 : k - 1 = (n - i) / 2 := by omega
        have hmm := HBK.out (k - 1) hk
        have hbe : bestK (l.drop i) (k - 1) = best (l.drop i) := by unfold best; rw [HDI.out, hk2]
        rw [hbe] at hbox hmm
        clear hbe hk2 HFF
        obtain ⟨fuel', hf1, hf2⟩ := HST.out fuel runs i hlt g2
        have HF1 := Lib.hid hf1
        clear hf1
        generalize best (l.drop i) = bb at *
        obtain ⟨p, q⟩ := bb
        simp only at hbox hmm hf2 HF1
        obtain ⟨m1, m2, m3⟩ := hmm
        have HPQ := Lib.hid (show ((p * q : Nat) : Int) = (p : Int) * q from Int.natCast_mul _ _)
        have p1 : (1 : Int) ≤ (p : Int) * q := by
          have e : 1 * 1 ≤ p * q := Nat.mul_le_mul m1 m2
          rw [← HPQ.out]; omega
        have p2 : (p : Int) * q ≤ 200 := by rw [← HPQ.out]; omega
        have H200 : ∀ r ∈ [(⟨i, p, q⟩ : Rn)], 0 ≤ r.long ∧ r.long ≤ ((i + p * q : Nat) : Int) := by
          intro r hr
          rw [List.mem_singleton] at hr
          subst hr
          have : p * 1 ≤ p * q := Nat.mul_le_mul_left _ m2
          simp only
          omega
        have HNEW := Lib.hid H200
        clear H200
        have hinc : i + 1 ≤ i + p * q := by
          have e : 1 * 1 ≤ p * q := Nat.mul_le_mul m1 m2
          omega
        have HCAST := Lib.hid (show ((i + p * q : Nat) : Int) = (i : Int) + (p : Int) * q by rw [Int.natCast_add, HPQ.out])
        have hm3 : i + p * q ≤ n := by omega
        have hone : ∀ u ∈ ([.int .i64 i, .int .i64 p, .int .i64 q] : List Value), u.oneCell' = true := by
          intro u hu
          simp only [List.mem_cons, List.not_mem_nil, or_false] at hu
          rcases hu with rfl | rfl | rfl <;> rfl
        have hwm : Below w.heap.size w wm := hbw.trans (hbm.mono hbw.size)
        obtain ⟨d0, d1, d2, f0, f1, f2⟩ := hbox.cells
        by_cases hq : q = 1
        · subst hq
          rw [show ((1 : Nat) : Int) = 1 from rfl] at HF1 HNEW hone d2
          rcases List.eq_nil_or_concat runs with rfl | ⟨ys, x, rfl⟩
          · have HA := Lib.hid (show addRun [] (⟨i, p, 1⟩ : Rn) = [] ++ [⟨i, p, 1⟩] from addRun_nil _)
            have hown0 : wo.ownsRow w.heap.size 46 3 u3 0 [] := hown
            have qb1 : 0 + 1 ≤ maxLen := by unfold maxLen; omega
            have qb2 : (0 + 1) * 24 ≤ 140737488355328 := by omega
            rcases hown.2 with ⟨rfl, h0⟩ | ⟨g, cp, cur, rfl, _⟩
            all_goals
              clear hown
              have ho4 := (own_below hown0 hbm).alloc (.cells #[.int .i64 i, .int .i64 p, .int .i64 1] 46)
              have hb4 : Below w.heap.size w (wm.alloc (.cells #[.int .i64 i, .int .i64 p, .int .i64 1] 46)) := hwm.alloc hwm.size _
              have q3 := hb4.size
              have hsrc : ∀ j u, ([.int .i64 i, .int .i64 p, .int .i64 1] : List Value)[j]? = some u → (wm.alloc (.cells #[.int .i64 i, .int .i64 p, .int .i64 1] 46)).cell? ((⟨wm.heap.size, 0, none⟩ : Addr).add j) = some u := fun j u hu => new_cells1 wm #[.int .i64 i, .int .i64 p, .int .i64 1] 46 rfl hu
              have hge := own_ge ho4
              go_wp2_with (at_builtin; (refine wpList_append_own _ rfl _ _ 40 rfl w.heap.size 46 i0 _ 3 24 Try.underlying40 hi hz0 hz1 hz2 hz3 (by decide) _ _ _ rfl ho4 ⟨wm.heap.size, 0, none⟩ 1 1 [.int .i64 i, .int .i64 p, .int .i64 1] rfl rfl hsrc hone qb1 qb2 q3 ?_; intro v' w3 hown3 hgrow _))
              exact ⟨⟨[] ++ [⟨i, p, 1⟩], i + p * 1, fuel', hm3, hf2, by rw [← HA.out, ← HF1.out]; exact G3.out, by simp at g4 ⊢; omega, by
                intro r hr
                rcases List.mem_append.1 hr with hr | hr
                · have := G5.out r hr; omega
                · exact HNEW.out r hr, by rw [cellsR_append, List.length_append]; exact hown3, by rw [Nat.mul_one]; go_num, hb4.grown hgrow q3 hge⟩, by simp [intOf]; omega⟩
          · rw [List.concat_eq_append] at *
            rw [List.length_append, List.length_singleton] at hown g4
            have qb1 : ys.length + 1 + 1 ≤ maxLen := by unfold maxLen; omega
            have qb2 : (ys.length + 1 + 1) * 24 ≤ 140737488355328 := by omega
            rcases hown.2 with ⟨_, h0⟩ | ⟨g, cp, cur, rfl, k1, k2, k3, k4, k5, k6⟩
            · omega
            have hx := G5.out x (by simp)
            clear k2 k3 k4 k5 k6
            obtain ⟨z1, z2, zf⟩ := own_last (own_below hown hbm)
            by_cases hx1 : x.times = 1
            · have HA := Lib.hid (addRun_in (ys := ys) (x := x) (r := ⟨i, p, 1⟩) rfl hx1)
              have HO3 := Lib.hid (own_below hown hbm)
              rw [hx1] at z2
              clear hx1
              go_wp2_with fail
              exact ⟨⟨ys ++ [⟨x.start, x.long + 1, x.times⟩], i + p * 1, fuel', hm3, hf2, by rw [← HA.out, ← HF1.out]; exact G3.out, by simp; omega, by
                intro r hr
                rcases List.mem_append.1 hr with hr | hr
                · have := G5.out r (by simp [hr]); omega
                · rw [List.mem_singleton] at hr
                  subst hr
                  simp only
                  omega, by rw [List.length_append, ← cellsR_set]; exact (HO3.out.stored _ _).1, by rw [Nat.mul_one]; go_num, hwm.setCell k1 _⟩, by simp [intOf]; omega⟩
            · have HA := Lib.hid (addRun_not (ys := ys) (x := x) (r := ⟨i, p, 1⟩) (fun h => hx1 h.2))
              have hxb : (x.times == 1) = false := by rw [beq_eq_false_iff_ne]; exact hx1
              clear hx1
              have ho4 := (own_below hown hbm).alloc (.cells #[.int .i64 i, .int .i64 p, .int .i64 1] 46)
              have hb4 : Below w.heap.size w (wm.alloc (.cells #[.int .i64 i, .int .i64 p, .int .i64 1] 46)) := hwm.alloc hwm.size _
              have q3 := hb4.size
              have hsrc : ∀ j u, ([.int .i64 i, .int .i64 p, .int .i64 1] : List Value)[j]? = some u → (wm.alloc (.cells #[.int .i64 i, .int .i64 p, .int .i64 1] 46)).cell? ((⟨wm.heap.size, 0, none⟩ : Addr).add j) = some u := fun j u hu => new_cells1 wm #[.int .i64 i, .int .i64 p, .int .i64 1] 46 rfl hu
              have hge := own_ge ho4
              go_wp2_with (at_builtin; (refine wpList_append_own _ rfl _ _ 40 rfl w.heap.size 46 i0 _ 3 24 Try.underlying40 hi hz0 hz1 hz2 hz3 (by decide) _ _ _ rfl ho4 ⟨wm.heap.size, 0, none⟩ 1 1 [.int .i64 i, .int .i64 p, .int .i64 1] rfl rfl hsrc hone qb1 qb2 q3 ?_; intro v' w3 hown3 hgrow _))
              exact ⟨⟨(ys ++ [x]) ++ [⟨i, p, 1⟩], i + p * 1, fuel', hm3, hf2, by rw [← HA.out, ← HF1.out]; exact G3.out, by simp at g4 ⊢; omega, by
                intro r hr
                rcases List.mem_append.1 hr with hr | hr
                · have := G5.out r hr; omega
                · exact HNEW.out r hr, by rw [cellsR_append, List.length_append, List.length_append]; exact hown3, by rw [Nat.mul_one]; go_num, hb4.grown hgrow q3 hge⟩, by simp [intOf]; omega⟩
        · have hqb : ((q : Int) == 1) = false := by rw [beq_eq_false_iff_ne]; omega
          rcases List.eq_nil_or_concat runs with rfl | ⟨ys, x, rfl⟩
          · have HA := Lib.hid (show addRun [] (⟨i, p, q⟩ : Rn) = [] ++ [⟨i, p, q⟩] from addRun_nil _)
            have hown0 : wo.ownsRow w.heap.size 46 3 u3 0 [] := hown
            have qb1 : 0 + 1 ≤ maxLen := by unfold maxLen; omega
            have qb2 : (0 + 1) * 24 ≤ 140737488355328 := by omega
            rcases hown.2 with ⟨rfl, h0⟩ | ⟨g, cp, cur, rfl, _⟩
            all_goals
              clear hown
              have ho4 := (own_below hown0 hbm).alloc (.cells #[.int .i64 i, .int .i64 p, .int .i64 q] 46)
              have hb4 : Below w.heap.size w (wm.alloc (.cells #[.int .i64 i, .int .i64 p, .int .i64 q] 46)) := hwm.alloc hwm.size _
              have q3 := hb4.size
              have hsrc : ∀ j u, ([.int .i64 i, .int .i64 p, .int .i64 q] : List Value)[j]? = some u → (wm.alloc (.cells #[.int .i64 i, .int .i64 p, .int .i64 q] 46)).cell? ((⟨wm.heap.size, 0, none⟩ : Addr).add j) = some u := fun j u hu => new_cells1 wm #[.int .i64 i, .int .i64 p, .int .i64 q] 46 rfl hu
              have hge := own_ge ho4
              go_wp2_with (at_builtin; (refine wpList_append_own _ rfl _ _ 40 rfl w.heap.size 46 i0 _ 3 24 Try.underlying40 hi hz0 hz1 hz2 hz3 (by decide) _ _ _ rfl ho4 ⟨wm.heap.size, 0, none⟩ 1 1 [.int .i64 i, .int .i64 p, .int .i64 q] rfl rfl hsrc hone qb1 qb2 q3 ?_; intro v' w3 hown3 hgrow _))
              exact ⟨⟨[] ++ [⟨i, p, q⟩], i + p * q, fuel', hm3, hf2, by rw [← HA.out, ← HF1.out]; exact G3.out, by simp at g4 ⊢; omega, by
                intro r hr
                rcases List.mem_append.1 hr with hr | hr
                · have := G5.out r hr; omega
                · exact HNEW.out r hr, by rw [cellsR_append, List.length_append]; exact hown3, by rw [HCAST.out], hb4.grown hgrow q3 hge⟩, by simp [intOf]; omega⟩
          · rw [List.concat_eq_append] at *
            rw [List.length_append, List.length_singleton] at hown g4
            have qb1 : ys.length + 1 + 1 ≤ maxLen := by unfold maxLen; omega
            have qb2 : (ys.length + 1 + 1) * 24 ≤ 140737488355328 := by omega
            rcases hown.2 with ⟨_, h0⟩ | ⟨g, cp, cur, rfl, k1, k2, k3, k4, k5, k6⟩
            · omega
            have hx := G5.out x (by simp)
            clear k2 k3 k4 k5 k6
            obtain ⟨z1, z2, zf⟩ := own_last (own_below hown hbm)
            have HA := Lib.hid (addRun_not (ys := ys) (x := x) (r := ⟨i, p, q⟩) (fun h => hq (by have := h.1; simp only at this; omega)))
            by_cases hx1 : x.times = 1
            · rw [hx1] at z2
              clear hx1
              have ho4 := (own_below hown hbm).alloc (.cells #[.int .i64 i, .int .i64 p, .int .i64 q] 46)
              have hb4 : Below w.heap.size w (wm.alloc (.cells #[.int .i64 i, .int .i64 p, .int .i64 q] 46)) := hwm.alloc hwm.size _
              have q3 := hb4.size
              have hsrc : ∀ j u, ([.int .i64 i, .int .i64 p, .int .i64 q] : List Value)[j]? = some u → (wm.alloc (.cells #[.int .i64 i, .int .i64 p, .int .i64 q] 46)).cell? ((⟨wm.heap.size, 0, none⟩ : Addr).add j) = some u := fun j u hu => new_cells1 wm #[.int .i64 i, .int .i64 p, .int .i64 q] 46 rfl hu
              have hge := own_ge ho4
              go_wp2_with (at_builtin; (refine wpList_append_own _ rfl _ _ 40 rfl w.heap.size 46 i0 _ 3 24 Try.underlying40 hi hz0 hz1 hz2 hz3 (by decide) _ _ _ rfl ho4 ⟨wm.heap.size, 0, none⟩ 1 1 [.int .i64 i, .int .i64 p, .int .i64 q] rfl rfl hsrc hone qb1 qb2 q3 ?_; intro v' w3 hown3 hgrow _))
              exact ⟨⟨(ys ++ [x]) ++ [⟨i, p, q⟩], i + p * q, fuel', hm3, hf2, by rw [← HA.out, ← HF1.out]; exact G3.out, by simp at g4 ⊢; omega, by
                intro r hr
                rcases List.mem_append.1 hr with hr | hr
                · have := G5.out r hr; omega
                · exact HNEW.out r hr, by rw [cellsR_append, List.length_append, List.length_append]; exact hown3, by rw [HCAST.out], hb4.grown hgrow q3 hge⟩, by simp [intOf]; omega⟩
            · have hxb : (x.times == 1) = false := by rw [beq_eq_false_iff_ne]; exact hx1
              clear hx1
              have ho4 := (own_below hown hbm).alloc (.cells #[.int .i64 i, .int .i64 p, .int .i64 q] 46)
              have hb4 : Below w.heap.size w (wm.alloc (.cells #[.int .i64 i, .int .i64 p, .int .i64 q] 46)) := hwm.alloc hwm.size _
              have q3 := hb4.size
              have hsrc : ∀ j u, ([.int .i64 i, .int .i64 p, .int .i64 q] : List Value)[j]? = some u → (wm.alloc (.cells #[.int .i64 i, .int .i64 p, .int .i64 q] 46)).cell? ((⟨wm.heap.size, 0, none⟩ : Addr).add j) = some u := fun j u hu => new_cells1 wm #[.int .i64 i, .int .i64 p, .int .i64 q] 46 rfl hu
              have hge := own_ge ho4
              go_wp2_with (at_builtin; (refine wpList_append_own _ rfl _ _ 40 rfl w.heap.size 46 i0 _ 3 24 Try.underlying40 hi hz0 hz1 hz2 hz3 (by decide) _ _ _ rfl ho4 ⟨wm.heap.size, 0, none⟩ 1 1 [.int .i64 i, .int .i64 p, .int .i64 q] rfl rfl hsrc hone qb1 qb2 q3 ?_; intro v' w3 hown3 hgrow _))
              exact ⟨⟨(ys ++ [x]) ++ [⟨i, p, q⟩], i + p * q, fuel', hm3, hf2, by rw [← HA.out, ← HF1.out]; exact G3.out, by simp at g4 ⊢; omega, by
                intro r hr
                rcases List.mem_append.1 hr with hr | hr
                · have := G5.out r hr; omega
                · exact HNEW.out r hr, by rw [cellsR_append, List.length_append, List.length_append]; exact hown3, by rw [HCAST.out], hb4.grown hgrow q3 hge⟩, by simp [intOf]; omega⟩
    · have HF := Lib.hid (HEND.out fuel runs i (by omega))
      have hfin : runs = foldN l := by rw [← HF.out]; exact G3.out
      have HM : Hid (MadeR1 (foldN l) w (.returned u3) wo) := Lib.hid ⟨u3, rfl, by rw [← hfin]; exact hown, hbw⟩
      clear hfin hown
      go_wp2_with fail
      go_ret
      exact HM.out
end Go.Proofs.Ytihnpbhcddapdaa

/- The walk of the law StackFolds. -/
import Derived.Test.YtihnpbhcddapdabGreatDoorAwake
import Derived.Test.YtihnpbhcddapdabGreatDoorFold
import Derived.Test.YtihnpbhcddapdabGreatDoorUnfold
import Derived.Test.YtihnpbhcddapdabGreatDoorFoldsPlain2
namespace Go.Proofs.YtihnpbhcddapdabGreatDoor
open Go.RowKit

set_option maxHeartbeats 1000000 in
set_option maxRecDepth 100000 in
theorem folds_bad (v : Value) (l : List Fr) (w : World) (h : SlF w v l) (he : frsErr l ≠ 0) :
    Calls Tryz.prog 4 #[v] w fun e w' => e = .returned (.bool true) ∧ Below w.heap.size w w' := by
  have HN := Lib.hid he
  have hq : (frsErr l != 0) = true := by simpa using he
  clear he
  go_enter Tryz.func4, Tryz.ntmps4
  go_wp2_with (first
    | (go_at_call 7; refine (awake_any _).mono ?_; rintro e w0 ⟨rfl, hb0⟩)
    | (go_at_call 12; refine (fold_bad v l _ (h.below (Nat.le_refl _) hb0) HN.out).mono ?_; rintro e w1 ⟨rfl, hb1⟩))
  go_ret
  exact ⟨rfl, below_call hb0 hb0.size hb1⟩

theorem rnsAt_of_owns {w : World} {base g : Nat} {e : TypeId} {n cap : Nat} {l : List Rn} (h : w.ownsRow base e 3 (.slice (some ⟨g, 0, none⟩) n cap) n (cellsR l)) (_ : n = l.length) : RnsAt w g 0 l := by
  intro k hk
  have c0 := h.cells (g := g) rfl (k * 3 + 0) (.int .i64 l[k].start) (by rw [cellsR_at hk (by omega)]; rfl)
  have c1 := h.cells (g := g) rfl (k * 3 + 1) (.int .i64 l[k].long) (by rw [cellsR_at hk (by omega)]; rfl)
  have c2 := h.cells (g := g) rfl (k * 3 + 2) (.int .i64 l[k].times) (by rw [cellsR_at hk (by omega)]; rfl)
  rw [add_none] at c0 c1 c2
  refine ⟨?_, ?_, ?_⟩
  · rw [← c0]; congr 2
  · rw [← c1]; congr 2
  · rw [← c2]; congr 2

set_option maxHeartbeats 4000000 in
set_option maxRecDepth 100000 in
theorem folds_some (b off cap : Nat) (l : List Fr) (w : World) (hb : b < w.heap.size) (hcap : l.length ≤ cap) (hcm : cap ≤ maxLen) (hf : ∀ x ∈ l, x.fit) (hc : FrsAt w b off l) (he : frsErr l = 0) (hl0 : 0 < l.length) :
    Calls Tryz.prog 4 #[.slice (some ⟨b, off, none⟩) l.length cap] w fun e w' => e = .returned (.bool true) ∧ Below w.heap.size w w' := by
  obtain ⟨i0, hi, hz0, hz1, hz2⟩ := info_parts Tryz.info23
  have h : SlF w (.slice (some ⟨b, off, none⟩) l.length cap) l := ⟨_, cap, rfl, hcap, hcm, hf, .inr ⟨b, off, rfl, hb, hc⟩⟩
  have hl2 : l.length ≤ 200 := frsErr_zero he
  have HE := Lib.hid he
  have HOK := Lib.hid (foldN_ok l)
  have HRE := Lib.hid (runsErr_fold hl2)
  have HFU := Lib.hid (fold_unf l)
  clear he
  go_enter Tryz.func4, Tryz.ntmps4
  go_wp2_with (go_at_call 7; refine (awake_any _).mono ?_; rintro e w0 ⟨rfl, hb0⟩)
  refine (fold_good _ l _ (h.below (Nat.le_refl _) hb0) HE.out).mono ?_
  rintro e w1 ⟨r, rfl, ho1, hb1⟩
  have hn0 : 0 < (foldN l).length := by
    rcases Nat.eq_zero_or_pos (foldN l).length with h0 | h0
    · have := HOK.out
      rw [List.length_eq_zero_iff.1 h0, okRuns] at this
      omega
    · exact h0
  obtain ⟨g, capr, rfl⟩ : ∃ g capr, r = .slice (some ⟨g, 0, none⟩) (foldN l).length capr := by
    rcases ho1.2 with ⟨_, h0⟩ | ⟨g, cap, cur, hv, _⟩
    · omega
    · exact ⟨g, cap, hv⟩
  have hgw : g < w1.heap.size := (ho1.lt g rfl).2
  have hrc : (foldN l).length ≤ capr := by
    rcases ho1.2 with ⟨_, h0⟩ | ⟨g', cap', cur, hv, _, _, a1, _⟩
    · omega
    · cases hv; exact a1
  have hrl : (foldN l).length ≤ 200 := by
    have := once_le HOK.out hl2
    have h1 := okRuns_sum HOK.out
    have h2 := sumL_le (okRuns_ok hl2 HOK.out)
    omega
  have hrs : RnsAt w1 g 0 (foldN l) := rnsAt_of_owns ho1 rfl
  have hbw1 : Below w.heap.size w w1 := below_call hb0 hb0.size hb1
  have hw1 := hbw1.size
  clear ho1 hb1 hb0
  generalize hR : foldN l = rs at *
  go_wp2_with fail
  go_loopw [5, 6, 24] (fun v5 v6 v wr => ∃ k p : Nat, k ≤ rs.length ∧ okRuns l (rs.take k) 0 p ∧ wr.ownsRow w1.heap.size 42 6 v5 (onceOf l (rs.take k)).length (cellsOf (onceOf l (rs.take k))) ∧ v6 = .int .i64 p ∧ v = .int .i64 k ∧ Below w1.heap.size w1 wr) (fun _ _ v _ => rs.length - (intOf v).toNat)
  case atStart => exact ⟨0, 0, Nat.zero_le _, rfl, ⟨rfl, .inl ⟨rfl, rfl⟩⟩, rfl, rfl, Below.refl _ _⟩
  case round =>
    obtain ⟨k, p, hk, hp, hown, rfl, rfl, hbw⟩ := hrel
    by_cases hlt : k < rs.length
    · obtain ⟨p', lo, t, e, h1, h2, h3, h4, h5⟩ := okRuns_at HOK.out hlt
      have hpp : p = p' := by
        have a1 := okRuns_tot hp
        have a2 := okRuns_tot h4
        omega
      subst hpp
      obtain ⟨c0, c1, c2⟩ := (hrs k hlt).below hgw hbw
      have HK := Lib.hid (show onceOf l (rs.take (k + 1)) = onceOf l (rs.take k) ++ (l.drop p).take lo by
        rw [take_rn_succ hlt, onceOf_append, e]; simp [onceOf])
      have HP := Lib.hid h5
      rw [e] at c0 c1 c2
      simp only [Nat.zero_add] at c0 c1 c2
      have hlo := lo_le (lo := lo) h2
      have hfr := ((hc.drop p).take lo)
      have hlen := once_le hp hl2
      have hpiece : ((l.drop p).take lo).length = lo := by rw [List.length_take, List.length_drop]; omega
      have hcl : (cellsOf ((l.drop p).take lo)).length = lo * 6 := by rw [cellsOf_length, hpiece]
      have hone := cellsOf_one (l := (l.drop p).take lo)
      have HA := Lib.hid (cellsOf_append (onceOf l (rs.take k)) ((l.drop p).take lo))
      have HL := Lib.hid (show (onceOf l (rs.take k) ++ (l.drop p).take lo).length = (onceOf l (rs.take k)).length + lo by rw [List.length_append, hpiece])
      have hm : IntKind.i64.wrap ((lo : Int) * (t : Int)) = ((lo * t : Nat) : Int) := by rw [← Int.natCast_mul, IntWalk.i64_in _ ⟨by omega, by omega⟩]
      clear e h4 h5 hp hpiece
      generalize lo * t = X at *
      generalize l.length = nl at *
      generalize hnO : (onceOf l (rs.take k)).length = nO at *
      generalize cellsOf (onceOf l (rs.take k)) = xs at *
      have hs1 : IntKind.i64.wrap ((p : Int) + (X : Int)) = ((p + X : Nat) : Int) := by rw [IntWalk.i64_in _ ⟨by omega, by omega⟩]; omega
      obtain ⟨e, hee⟩ : ∃ e : Nat, e = p + lo := ⟨_, rfl⟩
      have hs2 : IntKind.i64.wrap ((p : Int) + (lo : Int)) = (e : Int) := by rw [IntWalk.i64_in _ ⟨by omega, by omega⟩]; omega
      have g1 : ¬ ((lo : Int) < 1) := by omega
      have g2 : ¬ ((t : Int) < 1) := by omega
      have g3 : p + X ≤ nl := h3
      have g4 : p ≤ e := by omega
      have g5 : e ≤ cap := by omega
      have g6 : ¬ cap = p := by omega
      have g7 : p ≤ cap := by omega
      have g8 : e - p = lo := by omega
      have HEE := Lib.hid hee
      unfold maxLen at hcm
      have hbW : Below w.heap.size w wr := hbw1.trans (hbw.mono hw1)
      have hz6 : (Value.agg #[.string ⟨#[]⟩, .string ⟨#[]⟩, .string ⟨#[]⟩, .int .i64 0, .int .i64 0, .bool false]).cells.size = 6 := rfl
      have hsrc : ∀ (o : Obj) i u, (cellsOf ((l.drop p).take lo))[i]? = some u → (wr.alloc o).cell? ((⟨b, off + p * 6, none⟩ : Addr).add i) = some u := fun o i u hu => by rw [add_none]; exact (hfr.below hb (hbW.alloc hbW.size o)).cells i u hu
      have q1 : nO + lo ≤ maxLen := by unfold maxLen; omega
      have q2 : (nO + lo) * 72 ≤ 140737488355328 := by omega
      have q3 : ∀ o : Obj, w1.heap.size ≤ (wr.alloc o).heap.size := fun o => by have := hbw.size; simp; omega
      have hge := own_ge hown
      have hbox : ∀ c : Array Value, (wr.alloc (.cells c 37)).heap[wr.heap.size]? = some (.cells c 37 (0, 0)) := fun c => by
        show (wr.heap.push _)[wr.heap.size]? = _
        exact Array.getElem?_push_size ..
      have HNE := Lib.hid (own_ne (hown.alloc (.cells #[] 37)) (hbox #[]) (by decide))
      have HBX := Lib.hid hbox
      clear hbox
      generalize cellsOf ((l.drop p).take lo) = news at *
      have Hcl := Lib.hid hcl
      clear hcl hfr hee
      go_wp2_with (at_builtin; (refine wpList_append_own _ rfl _ _ 32 rfl w1.heap.size 42 i0 _ 6 72 Tryz.underlying32 hi hz0 hz1 hz2 hz6 (by decide) _ nO xs rfl (hown.alloc _) ⟨b, off + p * 6, none⟩ lo (cap - p) news rfl Hcl.out (hsrc _) hone q1 q2 (q3 _) ?_; intro v' w2 hown3 hgrow _; have hbx := box_kept hgrow (HBX.out _) HNE.out; have d0 : w2.cell? ⟨wr.heap.size, 0, none⟩ = some (.int .i64 p) := (by simp [World.cell?, hbx]); have d1 : w2.cell? ⟨wr.heap.size, 1, none⟩ = some (.int .i64 lo) := (by simp [World.cell?, hbx]); have d2 : w2.cell? ⟨wr.heap.size, 2, none⟩ = some (.int .i64 t) := (by simp [World.cell?, hbx])))
      exact ⟨⟨k + 1, p + X, by omega, HP.out, by rw [HK.out, HL.out, HA.out]; exact hown3, by go_num, by go_num, (hbw.alloc hbw.size _).grown hgrow (q3 _) hge⟩, by simp [intOf]; omega⟩
    · have hk' : rs.take k = rs := List.take_of_length_le (by omega)
      rw [hk'] at hown hp
      have hpl : p = l.length := by
        have a1 := okRuns_tot hp
        have a2 := okRuns_tot HOK.out
        omega
      subst hpl
      have hfo : ∀ x ∈ onceOf l rs, x.fit := fun x hx => hf x (once_mem hx)
      have hsO := slF_of_owns hown hfo
      have hsR : SlR wr (.slice (some ⟨g, 0, none⟩) rs.length capr) rs := ⟨_, capr, rfl, hrc, by omega, .inr ⟨g, 0, rfl, by have := hbw.size; omega, hrs.below hgw hbw⟩⟩
      have hue : unfErr (onceOf l rs) rs = 0 := by
        unfold unfErr
        rw [frsErr_once HE.out HOK.out (Nat.le_refl _)]
        simpa using HRE.out
      have HU := Lib.hid (unfold_good _ _ _ _ _ hsO hsR hue)
      rw [HFU.out] at HU
      have hbW : Below w.heap.size w wr := hbw1.trans (hbw.mono hw1)
      have hWs := hbW.size
      have HEQ := Lib.hid (fun (W : World) (v : Value) (h1 : SlF W v l) (hW : Below w.heap.size w W) => equal_any _ _ l l W h1 (h.below (Nat.le_refl _) hW))
      rw [show decide (l = l) = true by simp] at HEQ
      have HF := Lib.hid hf
      clear hown hsO hsR hue hfo hk' hp hrs
      go_wp2_with (go_at_call 13; refine HU.out.mono ?_; rintro e w2 ⟨u, rfl, ho2, hb2⟩)
      have hs2 : SlF w2 u l := slF_of_owns ho2 HF.out
      have hbZ : Below w.heap.size w w2 := below_call hbW hWs hb2
      have HEQ2 := Lib.hid (fun (W : World) (hW : Below w2.heap.size w2 W) => HEQ.out W u (hs2.below (Nat.le_refl _) hW) (hbZ.trans (hW.mono hbZ.size)))
      have hr : Below w2.heap.size w2 w2 := Below.refl _ _
      refine (HEQ2.out _ hr).mono ?_
      rintro e w3 ⟨rfl, hb3⟩
      go_wp2_with fail
      go_ret
      exact ⟨rfl, hbZ.trans (hb3.mono hbZ.size)⟩

set_option maxHeartbeats 2000000 in
set_option maxRecDepth 100000 in
theorem folds_none (p : Option Addr) (cap : Nat) (w : World) (hcm : cap ≤ maxLen) :
    Calls Tryz.prog 4 #[.slice p 0 cap] w fun e w' => e = .returned (.bool true) ∧ Below w.heap.size w w' := by
  have h : SlF w (.slice p 0 cap) [] := ⟨p, cap, rfl, Nat.zero_le _, hcm, (by intro x hx; cases hx), .inl rfl⟩
  go_enter Tryz.func4, Tryz.ntmps4
  go_wp2_with (go_at_call 7; refine (awake_any _).mono ?_; rintro e w0 ⟨rfl, hb0⟩)
  refine (fold_good _ [] _ (h.below (Nat.le_refl _) hb0) rfl).mono ?_
  rintro e w1 ⟨r, rfl, ho1, hb1⟩
  obtain ⟨q, capr, rfl⟩ : ∃ q capr, r = .slice q 0 capr := by
    rcases ho1.2 with ⟨rfl, h0⟩ | ⟨g, cap, cur, hv, _⟩
    · exact ⟨none, 0, rfl⟩
    · exact ⟨some ⟨g, 0, none⟩, cap, by rw [hv]; rfl⟩
  have hbw : Below w.heap.size w w1 := below_call hb0 hb0.size hb1
  have HEQ := Lib.hid (fun (W : World) (v : Value) (h1 : SlF W v []) (hW : Below w.heap.size w W) => equal_any _ _ [] [] W h1 (h.below (Nat.le_refl _) hW))
  rw [show decide (([] : List Fr) = []) = true by simp] at HEQ
  have HU := Lib.hid (unfold_none (.slice none 0 0) q capr [] w1 ⟨none, 0, rfl, Nat.le_refl _, by decide, (by intro x hx; cases hx), .inl rfl⟩ (by decide))
  clear ho1 hb1
  go_wp2_with fail
  go_loop [5, 6, 24] (fun v5 v6 v => v5 = .slice none 0 0 ∧ v6 = .int .i64 0 ∧ v = .int .i64 0) (fun _ _ _ => 0)
  case atStart => exact ⟨rfl, rfl, rfl⟩
  case round =>
    obtain ⟨rfl, rfl, rfl⟩ := hrel
    go_wp2_with fail
    refine HU.out.mono ?_
    rintro e w2 ⟨u, rfl, ho2, hb2⟩
    have hs2 : SlF w2 u [] := slF_of_owns ho2 (by intro x hx; cases hx)
    have hbZ : Below w.heap.size w w2 := below_call hbw hbw.size hb2
    go_wp2_with fail
    refine (HEQ.out _ u hs2 hbZ).mono ?_
    rintro e w3 ⟨rfl, hb3⟩
    go_wp2_with fail
    go_ret
    exact ⟨rfl, hbZ.trans (hb3.mono hbZ.size)⟩

theorem lawFolds (v : Value) (l : List Fr) (w : World) (h : SlF w v l) :
    Calls Tryz.prog 4 #[v] w fun e w' => e = .returned (.bool true) ∧ Below w.heap.size w w' := by
  by_cases he : frsErr l = 0
  · obtain ⟨p, cap, rfl, h1, h2, h3, h4⟩ := h
    rcases h4 with rfl | ⟨b, off, rfl, hb, hc⟩
    · exact folds_none p cap w h2
    · by_cases h0 : l = []
      · subst h0
        exact folds_none _ cap w h2
      · exact folds_some b off cap l w hb h1 h2 h3 hc he (List.length_pos_iff.2 h0)
  · exact folds_bad v l w h he
end Go.Proofs.YtihnpbhcddapdabGreatDoor

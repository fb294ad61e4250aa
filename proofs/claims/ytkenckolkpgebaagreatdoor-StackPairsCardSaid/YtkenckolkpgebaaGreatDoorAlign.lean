/- What Align of the program answers. -/
import Derived.Test.YtkenckolkpgebaaGreatDoorPairs
import Derived.Deep.RegionHeld3
namespace Go.Proofs.YtkenckolkpgebaaGreatDoor
open Go.RowKit Go.Deep Go.Lib

set_option maxHeartbeats 2000000 in
set_option maxRecDepth 100000 in
theorem firstAlike_gen (x : Fr) (p : Option Addr) (b off cap : Nat) (l : List Fr) (j : Nat) (w : World) (hp : 0 < l.length → p = some ⟨b, off, none⟩ ∧ b < w.heap.size) (hl : l.length ≤ 200) (hc : FrsAt w b off l) (hj : j ≤ l.length) :
    Calls Tryz.prog 10 #[.agg #[.string x.m, .string x.f, .string x.i, .int .i64 x.line, .int .i64 x.addr, .bool x.own], .slice p l.length cap, .int .i64 j] w fun e w' => e = .returned (.int .i64 (fstA x l j)) ∧ Below w.heap.size w w' := by
  obtain ⟨xm, xf, xi, xl, xa, xo⟩ := x
  simp only
  go_enter Tryz.func10, Tryz.ntmps10
  go_wp2_with fail
  go_loopw [2] (fun v wr => ∃ k : Nat, k ≤ l.length ∧ fstA ⟨xm, xf, xi, xl, xa, xo⟩ l j = fstA ⟨xm, xf, xi, xl, xa, xo⟩ l k ∧ v = .int .i64 k ∧ wr.heap[w.heap.size]? = some (.cells #[.string xm, .string xf, .string xi, .int .i64 xl, .int .i64 xa, .bool xo] 32 (0, 0)) ∧ Below w.heap.size w wr) (fun v _ => l.length - (intOf v).toNat)
  case atStart =>
    refine ⟨j, hj, rfl, rfl, ?_, (Below.refl _ _).alloc (Nat.le_refl _) _⟩
    show (w.heap.push _)[w.heap.size]? = _
    exact Array.getElem?_push_size ..
  case round =>
    obtain ⟨k, hk, hz, rfl, hbox, hbw⟩ := hrel
    have HZ := Lib.hid hz
    clear hz
    have hbs : w.heap.size < wr.heap.size := (Array.getElem?_eq_some_iff.1 hbox).1
    have d0 : wr.cell? ⟨w.heap.size, 0, none⟩ = some (.string xm) := by simp [World.cell?, hbox]
    have d1 : wr.cell? ⟨w.heap.size, 1, none⟩ = some (.string xf) := by simp [World.cell?, hbox]
    have d2 : wr.cell? ⟨w.heap.size, 2, none⟩ = some (.string xi) := by simp [World.cell?, hbox]
    have d3 : wr.cell? ⟨w.heap.size, 3, none⟩ = some (.int .i64 xl) := by simp [World.cell?, hbox]
    have d4 : wr.cell? ⟨w.heap.size, 4, none⟩ = some (.int .i64 xa) := by simp [World.cell?, hbox]
    have d5 : wr.cell? ⟨w.heap.size, 5, none⟩ = some (.bool xo) := by simp [World.cell?, hbox]
    by_cases hlt : k < l.length
    · obtain ⟨rfl, hb⟩ := hp (by omega)
      obtain ⟨c0, c1, c2, c3, c4, c5⟩ := (hc k hlt).below hb hbw
      have HH := Lib.hid (fun h => fstA_hit (x := ⟨xm, xf, xi, xl, xa, xo⟩) (b := l) hlt h)
      have HM := Lib.hid (fun h => fstA_miss (x := ⟨xm, xf, xi, xl, xa, xo⟩) (b := l) hlt h)
      generalize l[k] = y at *
      have hd : decide ((k : Int) < l.length) = true := by simp; omega
      have hr : Below wr.heap.size wr wr := Below.refl _ _
      rcases ha : alk ⟨xm, xf, xi, xl, xa, xo⟩ y with _ | _
      · have HA := Lib.hid (fun W => alike_P ⟨xm, xf, xi, xl, xa, xo⟩ y W)
        rw [ha] at HA
        have HF := Lib.hid ha
        clear ha
        go_wp2_with fail
        go_region_held3 (fun w' => w'.cell? ⟨w.heap.size, 0, none⟩ = some (.string xm) ∧ w'.cell? ⟨w.heap.size, 1, none⟩ = some (.string xf) ∧ w'.cell? ⟨w.heap.size, 2, none⟩ = some (.string xi) ∧ w'.cell? ⟨w.heap.size, 3, none⟩ = some (.int .i64 xl) ∧ w'.cell? ⟨w.heap.size, 4, none⟩ = some (.int .i64 xa) ∧ w'.cell? ⟨w.heap.size, 5, none⟩ = some (.bool xo) ∧
            w'.cell? ⟨b, off + k * 6, none⟩ = some (.string y.m) ∧ w'.cell? ⟨b, off + k * 6 + 1, none⟩ = some (.string y.f) ∧ w'.cell? ⟨b, off + k * 6 + 2, none⟩ = some (.string y.i) ∧ w'.cell? ⟨b, off + k * 6 + 3, none⟩ = some (.int .i64 y.line) ∧ w'.cell? ⟨b, off + k * 6 + 4, none⟩ = some (.int .i64 y.addr) ∧ w'.cell? ⟨b, off + k * 6 + 5, none⟩ = some (.bool y.own) ∧ Below wr.heap.size wr w')
          ((repeat' apply And.intro) <;> first | assumption | exact Below.drew (by assumption) | exact cell_keep (by assumption) hbX | exact below_keep (by first | assumption | exact Below.drew (by assumption)) (Nat.le_refl _) hbX)
          (first | (go_at_call 18; refine (HA.out _).mono ?_; rintro e w' ⟨rfl, hbX⟩))
        go_wp2_with fail
        have hB : Below wr.heap.size wr w' := (Below.refl _ wr).drew.trans hbX
        exact ⟨⟨k + 1, by omega, HZ.out.trans (HM.out HF.out), by go_num, (hB.block _ hbs).trans hbox, hbw.trans (hB.mono hbw.size)⟩, by simp [intOf]; omega⟩
      · have HA := Lib.hid (fun W => alike_P ⟨xm, xf, xi, xl, xa, xo⟩ y W)
        rw [ha] at HA
        have HF := Lib.hid ha
        clear ha
        go_wp2_with fail
        go_region_held3 (fun w' => w'.cell? ⟨w.heap.size, 0, none⟩ = some (.string xm) ∧ w'.cell? ⟨w.heap.size, 1, none⟩ = some (.string xf) ∧ w'.cell? ⟨w.heap.size, 2, none⟩ = some (.string xi) ∧ w'.cell? ⟨w.heap.size, 3, none⟩ = some (.int .i64 xl) ∧ w'.cell? ⟨w.heap.size, 4, none⟩ = some (.int .i64 xa) ∧ w'.cell? ⟨w.heap.size, 5, none⟩ = some (.bool xo) ∧
            w'.cell? ⟨b, off + k * 6, none⟩ = some (.string y.m) ∧ w'.cell? ⟨b, off + k * 6 + 1, none⟩ = some (.string y.f) ∧ w'.cell? ⟨b, off + k * 6 + 2, none⟩ = some (.string y.i) ∧ w'.cell? ⟨b, off + k * 6 + 3, none⟩ = some (.int .i64 y.line) ∧ w'.cell? ⟨b, off + k * 6 + 4, none⟩ = some (.int .i64 y.addr) ∧ w'.cell? ⟨b, off + k * 6 + 5, none⟩ = some (.bool y.own) ∧ Below wr.heap.size wr w')
          ((repeat' apply And.intro) <;> first | assumption | exact Below.drew (by assumption) | exact cell_keep (by assumption) hbX | exact below_keep (by first | assumption | exact Below.drew (by assumption)) (Nat.le_refl _) hbX)
          (first | (go_at_call 18; refine (HA.out _).mono ?_; rintro e w' ⟨rfl, hbX⟩))
        go_wp2_with fail
        have hB : Below wr.heap.size wr w' := (Below.refl _ wr).drew.trans hbX
        go_ret
        exact ⟨ret_int (by rw [HZ.out, HH.out HF.out]), hbw.trans (hB.mono hbw.size)⟩

    · have hd : decide ((k : Int) < l.length) = false := by simp; omega
      have hkl : k = l.length := by omega
      go_wp2_with fail
      go_quiet (fail)
      go_wp2_with fail
      go_ret
      exact ⟨ret_int (by rw [HZ.out, fstA_end (by omega)]; omega), below_drewN hbw _⟩


/-- The error of two rows. -/
def twoErr (a b : List Fr) : Int := if frsErr a ≠ 0 then frsErr a else frsErr b

set_option maxHeartbeats 1000000 in
set_option maxRecDepth 100000 in
theorem checkBoth_any (v1 v2 : Value) (a b : List Fr) (w : World) (h1 : SlF w v1 a) (h2 : SlF w v2 b) :
    Calls Tryz.prog 8 #[v1, v2] w fun e w' => e = .returned (.int .i64 (twoErr a b)) ∧ Below w.heap.size w w' := by
  have HE := Lib.hid (show twoErr a b = if frsErr a ≠ 0 then frsErr a else frsErr b from rfl)
  have H2 := Lib.hid (fun (W : World) (hb : Below w.heap.size w W) => checkFrames_any v2 b W (h2.below (Nat.le_refl _) hb))
  have H1 := Lib.hid (checkFrames_any v1 a w h1)
  clear h1 h2
  go_enter Tryz.func8, Tryz.ntmps8
  go_wp2_with (first
    | (go_at_call 17; (with_reducible refine H1.out.mono ?_); rintro e w1 ⟨rfl, hb1⟩)
    | (go_at_call 17; (with_reducible refine (H2.out _ (by assumption)).mono ?_); rintro e w2 ⟨rfl, hb2⟩))
  · go_ret
    have hq : (frsErr a != 0) = true := by assumption
    exact ⟨ret_int (by rw [HE.out, if_pos (by simpa using hq)]), hb1⟩
  · go_ret
    have hq : (frsErr a != 0) = false := by assumption
    exact ⟨ret_int (by rw [HE.out, if_neg (by simpa using hq)]), below_call hb1 hb1.size hb2⟩

set_option maxHeartbeats 1000000 in
set_option maxRecDepth 100000 in
theorem align_bad (v1 v2 : Value) (a b : List Fr) (w : World) (h1 : SlF w v1 a) (h2 : SlF w v2 b) (he : twoErr a b ≠ 0) :
    Calls Tryz.prog 5 #[v1, v2] w fun e w' => e = .returned (.tuple #[.slice none 0 0, .int .i64 (twoErr a b)]) ∧ Below w.heap.size w w' := by
  have HC := Lib.hid (checkBoth_any v1 v2 a b w h1 h2)
  have hq : (twoErr a b != 0) = true := by simpa using he
  clear he h1 h2
  go_enter Tryz.func5, Tryz.ntmps5
  go_wp2_with (go_at_call 8; refine HC.out.mono ?_; rintro e w1 ⟨rfl, hb1⟩)
  go_ret2
  exact ⟨rfl, hb1⟩

theorem own_base' {w : World} {B B' : Nat} {e : TypeId} {size : Nat} {v : Value} {n : Nat} {xs : List Value} (h : w.ownsRow B e size v n xs) (hB : B' ≤ B) : w.ownsRow B' e size v n xs := by
  obtain ⟨h1, h2⟩ := h
  refine ⟨h1, ?_⟩
  rcases h2 with h2 | ⟨g, cap, cur, hv, hg, r⟩
  · exact Or.inl h2
  · exact Or.inr ⟨g, cap, cur, hv, by omega, r⟩

set_option maxHeartbeats 4000000 in
set_option maxRecDepth 100000 in
theorem align_some (pa pb : Option Addr) (ba oa ca bb ob cb n m n1 m1 : Nat) (a b : List Fr) (w : World) (hn : a.length = n) (hm : b.length = m) (hn1 : n1 = n + 1) (hm1 : m1 = m + 1) (hpa : 0 < n → pa = some ⟨ba, oa, none⟩ ∧ ba < w.heap.size) (hpb : 0 < m → pb = some ⟨bb, ob, none⟩ ∧ bb < w.heap.size) (hla : n ≤ 200) (hlb : m ≤ 200) (hca : FrsAt w ba oa a) (hcb : FrsAt w bb ob b)
    (h1 : SlF w (.slice pa n ca) a) (h2 : SlF w (.slice pb m cb) b) (he : twoErr a b = 0) :
    Calls Tryz.prog 5 #[.slice pa n ca, .slice pb m cb] w fun e w' => ∃ v, e = .returned (.tuple #[v, .int .i64 0]) ∧ w'.ownsRow w.heap.size 30 2 v (prg a b n 0 0).length (cellsP (prg a b n 0 0)) ∧ Below w.heap.size w w' := by
  obtain ⟨i62, hi62, hz0, hz1, hz2⟩ := info_parts Tryz.info62
  have HC := Lib.hid (checkBoth_any _ _ a b w h1 h2)
  rw [he] at HC
  have HMP := Lib.hid (fun (W : World) (hb : Below w.heap.size w W) => mostPairs_some pa pb ba oa ca bb ob cb n m n1 m1 a b W hn hm hn1 hm1 (fun h => ⟨(hpa h).1, Nat.lt_of_lt_of_le (hpa h).2 hb.size⟩) (fun h => ⟨(hpb h).1, Nat.lt_of_lt_of_le (hpb h).2 hb.size⟩) hla hlb
    (fun k hk => (hca k hk).below (hpa (by omega)).2 hb) (fun k hk => (hcb k hk).below (hpb (by omega)).2 hb))
  have HN1 := Lib.hid hn1
  have HM1 := Lib.hid hm1
  have hn1a : n1 ≤ n + 1 := by omega
  have hn1b : n + 1 ≤ n1 := by omega
  have hm1a : m1 ≤ m + 1 := by omega
  have hm1b : m + 1 ≤ m1 := by omega
  clear he h1 h2 hn1 hm1
  go_enter Tryz.func5, Tryz.ntmps5
  go_wp2_with (first
    | (go_at_call 8; refine HC.out.mono ?_; rintro e w1 ⟨rfl, hb1⟩)
    | (go_at_call 9; refine (HMP.out _ hb1).mono ?_; rintro e w2 ⟨G, rfl, hM⟩))
  have hT := hM.tab HN1.out HM1.out
  have HT := Lib.hid hT
  obtain ⟨g, hg⟩ : ∃ g, g = w1.heap.size := ⟨_, rfl⟩
  rw [← hg] at HT ⊢
  have HW := Lib.hid (below_call hb1 hb1.size hM.since)
  clear hT hM hg
  go_loopw [8, 9, 23] (fun v8 v9 v23 wr => ∃ (i j : Nat) (acc : List (Nat × Nat)), i ≤ n ∧ j ≤ m ∧ acc.length ≤ i ∧ v9 = .int .i64 j ∧ v23 = .int .i64 i ∧ acc ++ prg a b (n - i) i j = prg a b n 0 0 ∧ wr.ownsRow w2.heap.size 30 2 v8 acc.length (cellsP acc) ∧ Below w2.heap.size w2 wr) (fun _ _ v23 _ => n - (intOf v23).toNat)
  case atStart => exact ⟨0, 0, [], Nat.zero_le _, Nat.zero_le _, Nat.zero_le _, rfl, rfl, rfl, ⟨rfl, .inl ⟨rfl, rfl⟩⟩, Below.refl _ _⟩
  case round =>
    obtain ⟨wo, rfl⟩ : ∃ wo : World, wo = wr := ⟨_, rfl⟩
    obtain ⟨i, j, acc, hi, hj, hacc, rfl, rfl, heq, hown, hbw⟩ := hrel
    have HEQ := Lib.hid heq
    clear heq
    by_cases hlt : i < n
    · obtain ⟨rfl, hba⟩ := hpa (by omega)
      have hsw : w.heap.size ≤ w2.heap.size := HW.out.size
      have hbo : Below w.heap.size w wo := HW.out.trans (hbw.mono hsw)
      have hia : i < a.length := by omega
      obtain ⟨a0, a1, a2, a3, a4, a5⟩ := (hca i hia).below hba hbo
      have HTK := Lib.hid (fun h1 h2 => prg_take (b := b) (n := n - i - 1) (j := j) hia h1 h2)
      have HSK := Lib.hid (fun h => prg_skip (b := b) (n := n - i - 1) (j := j) hia h)
      have HFA := Lib.hid (fun (W : World) (hW : Below wo.heap.size wo W) => firstAlike_gen a[i] pb bb ob cb b j W (fun h => ⟨(hpb (by omega)).1, Nat.lt_of_lt_of_le (hpb (by omega)).2 (Nat.le_trans hbo.size hW.size)⟩) (by omega)
        (fun q hq => ((hcb q hq).below (hpb (by omega)).2 (hbo.trans (hW.mono hbo.size)))) (by omega))
      rw [hm] at HFA
      obtain ⟨k, hk⟩ : ∃ k, k = fstA a[i] b j := ⟨_, rfl⟩
      rw [← hk] at HTK HSK HFA
      have hkm : k ≤ m := by rw [hk, ← hm]; exact (fstA_prop a[i] b b.length j (by omega)).1
      clear hk
      generalize a[i] = x at *
      by_cases hkm2 : k < m
      · by_cases hq : 1 + Zf a b (i + 1) (k + 1) = Zf a b i j
        · have HE := Lib.hid (HTK.out (by omega) (by unfold Zf at hq; omega))
          have hqe : ((1 + Zf a b (i + 1) (k + 1)) == Zf a b i j) = true := by rw [beq_iff_eq]; exact hq
          clear hq
          have hd : decide ((k : Int) < (m : Int)) = true := by simp; omega
          go_wp2_with (go_at_call 10; refine (HFA.out _ (Below.refl _ _)).mono ?_; rintro e w3 ⟨rfl, hb3⟩)
          have hb23 : Below w2.heap.size w2 w3 := hbw.trans (hb3.mono hbw.size)
          have hown3 := own_keeps hown hb3
          have hTr := HT.out.below (Nat.le_refl _) hb23
          have r1 := hTr.row (i + 1) (by omega)
          have r2 := hTr.row i (by omega)
          have z1 := hTr.cell (i + 1) (k + 1) (by omega) (by omega)
          have z2 := hTr.cell i j (by omega) (by omega)
          clear hTr
          have hiz : (i : Int) < (n1 : Int) := by omega
          have hjz : (j : Int) < (m1 : Int) := by omega
          have hi1 : (i : Int) + 1 < (n1 : Int) := by omega
          have hk1 : (k : Int) + 1 < (m1 : Int) := by omega
          have hw1 : IntKind.i64.wrap ((i : Int) + 1) = (i : Int) + 1 := IntWalk.i64_in _ ⟨by omega, by omega⟩
          have hw2 : IntKind.i64.wrap ((k : Int) + 1) = (k : Int) + 1 := IntWalk.i64_in _ ⟨by omega, by omega⟩
          have hw3 : IntKind.i64.wrap (1 + Zf a b (i + 1) (k + 1)) = 1 + Zf a b (i + 1) (k + 1) := IntWalk.i64_in _ ⟨by unfold Zf; omega, by have := T_le a b a.length (i + 1) (k + 1) (by omega); unfold Zf; omega⟩
          have hp1 : (0 : Int) ≤ (i : Int) + 1 := by omega
          have hp2 : (0 : Int) ≤ (k : Int) + 1 := by omega
          go_quiet (fail)
          have hb24 := below_drewN hb23 nq
          have hown4 := (own_keeps hown3 (below_drewN (Below.refl _ _) nq)).alloc (.cells #[.int .i64 i, .int .i64 k] 30)
          generalize hwd : w3.drewN nq = wd at hb24 hown4 ⊢
          clear hwd
          have hk1' : ∀ (q : Nat) (u : Value), [Value.int .i64 i, Value.int .i64 k][q]? = some u → (wd.alloc (.cells #[.int .i64 i, .int .i64 k] 30)).cell? (Addr.add ⟨wd.heap.size, 0, none⟩ q) = some u := by
            intro q u hq
            match q, hq with
            | 0, hq => simp at hq; subst hq; simp [Addr.add]
            | 1, hq => simp at hq; subst hq; simp [Addr.add]
          have hge := own_ge hown4
          have hone : ∀ u ∈ [Value.int .i64 i, Value.int .i64 k], u.oneCell' = true := by intro u hu; simp at hu; rcases hu with rfl | rfl <;> rfl
          have q1 : acc.length + 1 ≤ maxLen := by unfold maxLen; omega
          have q2 : (acc.length + 1) * 16 ≤ 140737488355328 := by omega
          have q3 : w2.heap.size ≤ (wd.alloc (.cells #[.int .i64 i, .int .i64 k] 30)).heap.size := by have := hb24.size; simp; omega
          go_wp2_with (at_builtin; (refine wpList_append_own _ rfl _ _ 24 rfl w2.heap.size 30 i62 (.agg #[.int .i64 0, .int .i64 0]) 2 16 Tryz.underlying24 hi62 hz0 hz1 hz2 rfl (by decide) _ acc.length (cellsP acc) rfl hown4 ⟨wd.heap.size, 0, none⟩ 1 1 [.int .i64 i, .int .i64 k] rfl rfl hk1' hone q1 q2 q3 ?_; intro v' w4 hown5 hgrow _))
          exact ⟨⟨i + 1, k + 1, acc ++ [(i, k)], by omega, by omega, by rw [List.length_append]; simp only [List.length_singleton]; omega, by go_num, by go_num, by rw [← HEQ.out, show n - i = n - i - 1 + 1 by omega, HE.out, List.append_assoc]; congr 1, by rw [List.length_append, cellsP_snoc]; exact hown5, (hb24.alloc (by have := hb24.size; omega) _).grown hgrow (by have := hb24.size; simp; omega) hge⟩, by simp [intOf]; omega⟩
        · have HE := Lib.hid (HSK.out (fun h => hq (by unfold Zf; omega)))
          have hqe : ((1 + Zf a b (i + 1) (k + 1)) == Zf a b i j) = false := by rw [beq_eq_false_iff_ne]; exact hq
          clear hq
          have hd : decide ((k : Int) < (m : Int)) = true := by simp; omega
          go_wp2_with (go_at_call 10; refine (HFA.out _ (Below.refl _ _)).mono ?_; rintro e w3 ⟨rfl, hb3⟩)
          have hb23 : Below w2.heap.size w2 w3 := hbw.trans (hb3.mono hbw.size)
          have hown3 := own_keeps hown hb3
          have hTr := HT.out.below (Nat.le_refl _) hb23
          have r1 := hTr.row (i + 1) (by omega)
          have r2 := hTr.row i (by omega)
          have z1 := hTr.cell (i + 1) (k + 1) (by omega) (by omega)
          have z2 := hTr.cell i j (by omega) (by omega)
          clear hTr
          have hiz : (i : Int) < (n1 : Int) := by omega
          have hjz : (j : Int) < (m1 : Int) := by omega
          have hi1 : (i : Int) + 1 < (n1 : Int) := by omega
          have hk1 : (k : Int) + 1 < (m1 : Int) := by omega
          have hw1 : IntKind.i64.wrap ((i : Int) + 1) = (i : Int) + 1 := IntWalk.i64_in _ ⟨by omega, by omega⟩
          have hw2 : IntKind.i64.wrap ((k : Int) + 1) = (k : Int) + 1 := IntWalk.i64_in _ ⟨by omega, by omega⟩
          have hw3 : IntKind.i64.wrap (1 + Zf a b (i + 1) (k + 1)) = 1 + Zf a b (i + 1) (k + 1) := IntWalk.i64_in _ ⟨by unfold Zf; omega, by have := T_le a b a.length (i + 1) (k + 1) (by omega); unfold Zf; omega⟩
          have hp1 : (0 : Int) ≤ (i : Int) + 1 := by omega
          have hp2 : (0 : Int) ≤ (k : Int) + 1 := by omega
          go_quiet (fail)
          go_wp2_with fail
          exact ⟨⟨i + 1, j, acc, by omega, hj, by omega, rfl, by go_num, by rw [← HEQ.out, show n - i = n - i - 1 + 1 by omega, HE.out]; congr 1, own_keeps hown3 (below_drewN (Below.refl _ _) _), below_drewN hb23 _⟩, by simp [intOf]; omega⟩
      · have HE := Lib.hid (HSK.out (fun h => by omega))
        have hd : decide ((k : Int) < (m : Int)) = false := by simp; omega
        go_wp2_with (go_at_call 10; refine (HFA.out _ (Below.refl _ _)).mono ?_; rintro e w3 ⟨rfl, hb3⟩)
        have hb23 : Below w2.heap.size w2 w3 := hbw.trans (hb3.mono hbw.size)
        have hown3 := own_keeps hown hb3
        go_quiet (fail)
        go_wp2_with fail
        exact ⟨⟨i + 1, j, acc, by omega, hj, by omega, rfl, by go_num, by rw [← HEQ.out, show n - i = n - i - 1 + 1 by omega, HE.out]; congr 1, own_keeps hown3 (below_drewN (Below.refl _ _) _), below_drewN hb23 _⟩, by simp [intOf]; omega⟩
    · obtain rfl : i = n := by omega
      have HX := Lib.hid HEQ.out
      rw [Nat.sub_self] at HX
      have HX2 := Lib.hid (show acc = prg a b i 0 0 by have := HX.out; rw [show prg a b 0 i j = [] from rfl, List.append_nil] at this; exact this)
      clear HX
      go_wp2_with fail
      go_ret2
      rw [← HX2.out]
      exact ⟨_, rfl, own_base' hown HW.out.size, HW.out.trans (hbw.mono HW.out.size)⟩
end Go.Proofs.YtkenckolkpgebaaGreatDoor

/- What Missing answers; ContainsFunc over tables. -/
import Derived.Test.YtcdaalnjanncmaaDoorResG
namespace Go.Proofs.YtcdaalnjanncmaaDoor
open Go.RowKit Go.Deep Go.Lib

theorem Tryd.info9 : (Tryd.prog.info? 9).map (fun i => (i.zero, i.size, i.bytes)) = some (some (.string ⟨#[]⟩), 1, 16) := by kernel_rfl
theorem cellsS_one (l : List ByteArray) : ∀ u ∈ cellsG encS l, u.oneCell' = true := by
  intro u hu
  obtain ⟨x, _, hx⟩ := List.mem_flatMap.1 hu
  simp only [encS, List.mem_cons, List.not_mem_nil, or_false] at hx
  subst hx; rfl
theorem cellS_one (s : ByteArray) : ∀ u ∈ [Value.string s], u.oneCell' = true := by
  intro u hx
  simp only [List.mem_cons, List.not_mem_nil, or_false] at hx
  subst hx; rfl
theorem cells1_new (w : World) (s : ByteArray) (t : TypeId) : ∀ j u, [Value.string s][j]? = some u → (w.alloc (.cells #[.string s] t)).cell? ((⟨w.heap.size, 0, none⟩ : Addr).add j) = some u := by
  intro j u hj
  match j, hj with
  | 0, hj => simp at hj; subst hj; simp [Addr.add]
theorem cellsS_snoc (l : List ByteArray) (s : ByteArray) : cellsG encS (l ++ [s]) = cellsG encS l ++ [.string s] := by rw [cellsG_append]; rfl

/-- slices.Contains at a row of the call's own. -/
theorem contains22_own {base : Nat} {v : Value} {l : List ByteArray} {w : World} (x : ByteArray) (hown : w.ownsRow base 9 1 v l.length (cellsG encS l)) :
    Calls Tryd.prog 22 #[v, .string x] w fun e w' => e = .returned (.bool (containsS l x)) ∧ w' = w := by
  by_cases hl : l = []
  · subst hl
    obtain ⟨p, cap, rfl⟩ := own_len hown
    exact Tryd.slices_Contains_string_empty p cap x w
  · obtain ⟨g, cap, rfl, _, _, hc⟩ := own_slice hown (List.length_pos_iff.2 hl)
    have hmx := own_max hown
    have h := Tryd.slices_Contains_string g 0 l.length cap l x w (Nat.le_refl _) hmx (fun j hj => by
      have := hc j (.string l[j]) (by
        have := cellsG_at (enc := encS) (k := 1) (fun _ => rfl) hj (j := 0) (by omega)
        rw [Nat.mul_one, Nat.add_zero] at this
        rw [this]; rfl)
      rw [Nat.zero_add, this]; simp [List.getD, List.getElem?_eq_getElem hj])
    rw [List.take_length] at h
    exact h

set_option maxHeartbeats 2000000 in
set_option maxRecDepth 100000 in
theorem missing_bad (vf vm vt : Value) (fs : List Fr) (ms : List Md) (ts : List Te) (w : World) (hf : SlF w vf fs) (hm : SlG encM 4 fitM w vm ms) (ht : TbsV w vt ts) (h : allErr fs ms ts ≠ 0) :
    Calls Tryd.prog 9 #[vf, vm, vt] w fun e w' => e = .returned (.tuple #[.slice none 0 0, .int .i64 (allErr fs ms ts)]) ∧ Below w.heap.size w w' := by
  have HC := Lib.hid (checkAll_any vf vm vt fs ms ts w hf hm ht)
  have hq : (allErr fs ms ts != 0) = true := by simpa using h
  clear h
  generalize allErr fs ms ts = E at *
  go_enter Tryd.func9, Tryd.ntmps9
  go_wp2_with (go_at_call 27; with_reducible refine HC.out.mono ?_; rintro e w1 ⟨rfl, hb1⟩)
  go_ret2
  exact ⟨rfl, hb1⟩

def MissPost (w : World) (L : List ByteArray) (e : Ending) (w' : World) : Prop :=
  ∃ u, e = .returned (.tuple #[u, .int .i64 0]) ∧ Below w.heap.size w w' ∧ w'.ownsRow w.heap.size 9 1 u L.length (cellsG encS L)

set_option maxHeartbeats 2000000 in
set_option maxRecDepth 100000 in
theorem missing_zero (p : Option Addr) (cap : Nat) (vm vt : Value) (ms : List Md) (ts : List Te) (w : World) (hf : SlF w (.slice p 0 cap) []) (hm : SlG encM 4 fitM w vm ms) (ht : TbsV w vt ts) (h : allErr [] ms ts = 0) :
    Calls Tryd.prog 9 #[.slice p 0 cap, vm, vt] w (MissPost w []) := by
  have HC := Lib.hid (checkAll_any (.slice p 0 cap) vm vt [] ms ts w hf hm ht)
  rw [h] at HC
  have HP := Lib.hid (fun w' (hb : Below w.heap.size w w') => (show MissPost w [] (.returned (.tuple #[.slice none 0 0, .int .i64 0])) w' from ⟨_, rfl, hb, rfl, .inl ⟨rfl, rfl⟩⟩))
  clear h hf hm ht
  go_enter Tryd.func9, Tryd.ntmps9
  go_wp2_with (go_at_call 27; with_reducible refine HC.out.mono ?_; rintro e w1 ⟨rfl, hb1⟩)
  go_loop [9, 24] (fun v9 v => v9 = .slice none 0 0 ∧ v = .int .i64 0) (fun _ _ => 0)
  case atStart => exact ⟨rfl, rfl⟩
  case round =>
    obtain ⟨rfl, rfl⟩ := hrel
    go_wp2_with fail
    go_ret2
    exact HP.out _ hb1

set_option maxHeartbeats 8000000 in
set_option maxRecDepth 100000 in
theorem missing_some (b off n cap : Nat) (vm vt : Value) (fs : List Fr) (ms : List Md) (ts : List Te) (w : World) (hf : SlF w (.slice (some ⟨b, off, none⟩) n cap) fs) (hm : SlG encM 4 fitM w vm ms) (ht : TbsV w vt ts) (h : allErr fs ms ts = 0) (hn : fs.length = n) (hb : b < w.heap.size) (hc : FrsAt w b off fs) :
    Calls Tryd.prog 9 #[.slice (some ⟨b, off, none⟩) n cap, vm, vt] w (MissPost w (missTo fs ms ts n)) := by
  obtain ⟨i0, hi0, hz0, hz1, hz2⟩ := info_parts Tryd.info9
  have hz5 : (Value.string ⟨#[]⟩).cells.size = 1 := rfl
  have HC := Lib.hid (checkAll_any (.slice (some ⟨b, off, none⟩) n cap) vm vt fs ms ts w hf hm ht)
  rw [h] at HC
  have hg := goodR_of h
  have HMA := Lib.hid (fun p (W : World) (hW : Below w.heap.size w W) => moduleAt_any vm ms p W (hm.below (Nat.le_refl _) hW))
  have HTO := Lib.hid (fun id (W : World) (hW : Below w.heap.size w W) => tableOf_any vt id ts W (ht.below (Nat.le_refl _) hW))
  have hn2 : n ≤ 200 := by have := hg.nfs; omega
  have hms := hg.nms
  have HLEN := Lib.hid (fun k => missTo_len (fs := fs) (ms := ms) (ts := ts) (k := k))
  obtain ⟨pm, cm, rfl, -, -, -, om⟩ := hm
  have HOM := Lib.hid om
  clear h hf ht hg om
  go_enter Tryd.func9, Tryd.ntmps9
  go_wp2_with (go_at_call 27; with_reducible refine HC.out.mono ?_; rintro e w1 ⟨rfl, hb1⟩)
  go_loopw [9, 24] (fun v9 v wr => ∃ (k : Nat) (va : Value), va = v9 ∧ k ≤ n ∧ v = .int .i64 k ∧ wr.ownsRow w.heap.size 9 1 va (missTo fs ms ts k).length (cellsG encS (missTo fs ms ts k)) ∧ Below w.heap.size w wr) (fun _ v _ => n - (RowKit.intOf v).toNat)
  case atStart => exact ⟨0, _, rfl, Nat.zero_le _, rfl, ⟨rfl, .inl ⟨rfl, rfl⟩⟩, hb1⟩
  case round =>
    obtain ⟨k, va, rfl, hk, rfl, hown, hbw⟩ := hrel
    by_cases hlt : k < n
    · have hkl : k < fs.length := by omega
      have HTS := Lib.hid (missTo_succ (ms := ms) (ts := ts) (List.getElem?_eq_getElem hkl))
      obtain ⟨c0, c1, c2, c3, c4, c5⟩ := (hc k hkl).below hb hbw
      have hll := HLEN.out k
      generalize fs[k] = x at *
      obtain ⟨xm, xf, xi, xl, xa, xo⟩ := x
      simp only at c0 c1 c2 c3 c4 c5
      have hA := hbw.alloc hbw.size (.cells #[.string xm, .string xf, .string xi, .int .i64 xl, .int .i64 xa, .bool xo] 35)
      have hownA := hown.alloc (.cells #[.string xm, .string xf, .string xi, .int .i64 xl, .int .i64 xa, .bool xo] 35)
      have hge := fun h k => own_lt (k := h) hown k
      generalize missTo fs ms ts k = acc at *
      have HM := Lib.hid (HMA.out xa)
      rcases modAt_cases xa ms with h1 | ⟨i, m, h1, h2, -, -⟩
      · have HT2 := Lib.hid (show missTo fs ms ts (k + 1) = acc by rw [HTS.out]; exact missStep_out h1)
        rw [atVal_none h1] at HM
        clear h1 HTS
        go_wp2_with (go_at_call 29; with_reducible refine (HM.out _ hA).mono ?_; rintro e w3 ⟨rfl, hb3⟩; have hbw3 := below_call hA hA.size hb3; have hown3 := own_keeps hownA hb3)
        exact ⟨⟨k + 1, va, rfl, by omega, by go_num, by rw [HT2.out]; exact hown3, hbw3⟩, by simp [RowKit.intOf]; omega⟩
      · rw [atVal_some h1] at HM
        have HSE := Lib.hid (missStep_eq (acc := acc) (fr := ⟨xm, xf, xi, xl, xa, xo⟩) (ts := ts) h1 h2)
        obtain ⟨hil, hmx⟩ := List.getElem?_eq_some_iff.1 h2
        rcases HOM.out with h0 | ⟨bm, om, hpm, hbm, hcm⟩
        · rw [h0] at hil; simp at hil
        subst hpm
        obtain ⟨-, q1, -, -⟩ := hcm.mod hil
        rw [hmx] at q1
        have HT := Lib.hid (HTO.out m.id)
        obtain ⟨mn, mid, ma, mb⟩ := m
        simp only at q1 HT HSE
        have hiz : (i : Int) < (ms.length : Int) := by omega
        have hwi : IntKind.i64.wrap (i : Int) = (i : Int) := IntWalk.i64_in _ ⟨by omega, by omega⟩
        clear h1 h2 hil hmx hcm
        by_cases hx : tabIdx ts mid < 0
        · have hd : decide (tabIdx ts mid < 0) = true := decide_eq_true hx
          cases hct : containsS acc mid with
          | true =>
            have HT2 := Lib.hid (show missTo fs ms ts (k + 1) = acc by rw [HTS.out, HSE.out, if_neg (by simp [hct])])
            have HCO := Lib.hid (fun W (ho : World.ownsRow W w.heap.size 9 1 va acc.length (cellsG encS acc)) => contains22_own mid ho)
            rw [hct] at HCO
            clear hx hct HTS HSE
            generalize tabIdx ts mid = ti at *
            go_wp2_with (first
              | (go_at_call 29; with_reducible refine (HM.out _ hA).mono ?_; rintro e w3 ⟨rfl, hb3⟩; have hbw3 := below_call hA hA.size hb3; have hown3 := own_keeps hownA hb3; have q1 := (hbw3.cell (p := ⟨bm, _, none⟩) hbm).trans q1)
              | (go_at_call 30; with_reducible refine (HT.out _ hbw3).mono ?_; rintro e w4 ⟨rfl, hb4⟩; have hbw4 := below_call hbw3 hbw3.size hb4; have hown4 := own_keeps hown3 hb4)
              | (go_at_call 22; with_reducible refine (HCO.out _ hown4).mono ?_; rintro e w5 ⟨rfl, rfl⟩))
            exact ⟨⟨k + 1, va, rfl, by omega, by go_num, by rw [HT2.out]; exact hown4, hbw4⟩, by simp [RowKit.intOf]; omega⟩
          | false =>
            have HT2 := Lib.hid (show missTo fs ms ts (k + 1) = acc ++ [mid] by rw [HTS.out, HSE.out, if_pos ⟨hx, by simp [hct]⟩])
            have HCO := Lib.hid (fun W (ho : World.ownsRow W w.heap.size 9 1 va acc.length (cellsG encS acc)) => contains22_own mid ho)
            rw [hct] at HCO
            clear hx hct HTS HSE
            generalize tabIdx ts mid = ti at *
            have r1 : acc.length + 1 ≤ maxLen := by unfold maxLen; omega
            have r2 : (acc.length + 1) * 16 ≤ 140737488355328 := by omega
            have hone := cellS_one mid
            go_wp2_with (first
              | (go_at_call 29; with_reducible refine (HM.out _ hA).mono ?_; rintro e w3 ⟨rfl, hb3⟩; have hbw3 := below_call hA hA.size hb3; have hown3 := own_keeps hownA hb3; have q1 := (hbw3.cell (p := ⟨bm, _, none⟩) hbm).trans q1)
              | (go_at_call 30; with_reducible refine (HT.out _ hbw3).mono ?_; rintro e w4 ⟨rfl, hb4⟩; have hbw4 := below_call hbw3 hbw3.size hb4; have hown4 := own_keeps hown3 hb4; have hsrc := cells1_new w4 mid 9; have hown4A := hown4.alloc (.cells #[.string mid] 9); have hbw4A := hbw4.alloc hbw4.size (.cells #[.string mid] 9); have r3 := hbw4A.size)
              | (go_at_call 22; with_reducible refine (HCO.out _ hown4).mono ?_; rintro e w5 ⟨rfl, rfl⟩)
              | (at_builtin; (refine wpList_append_own _ rfl _ _ 29 rfl w.heap.size 9 i0 _ 1 16 Tryd.underlying29 hi0 hz0 hz1 hz2 hz5 (by decide) va acc.length _ rfl hown4A ⟨_, 0, none⟩ 1 1 [.string mid] rfl rfl hsrc hone r1 r2 r3 ?_; intro v6 w6 hown6 hgr6 _)))
            exact ⟨⟨k + 1, v6, rfl, by omega, by go_num, by rw [HT2.out, List.length_append, cellsS_snoc]; exact hown6, below_grown hbw4A hgr6 (fun h k => (hge h k).1) hbw4A.size⟩, by simp [RowKit.intOf]; omega⟩
        · have hd : decide (tabIdx ts mid < 0) = false := decide_eq_false hx
          have HT2 := Lib.hid (show missTo fs ms ts (k + 1) = acc by rw [HTS.out, HSE.out, if_neg (by rintro ⟨h, _⟩; exact hx h)])
          clear hx HTS HSE
          generalize tabIdx ts mid = ti at *
          go_wp2_with (first
            | (go_at_call 29; with_reducible refine (HM.out _ hA).mono ?_; rintro e w3 ⟨rfl, hb3⟩; have hbw3 := below_call hA hA.size hb3; have hown3 := own_keeps hownA hb3; have q1 := (hbw3.cell (p := ⟨bm, _, none⟩) hbm).trans q1)
            | (go_at_call 30; with_reducible refine (HT.out _ hbw3).mono ?_; rintro e w4 ⟨rfl, hb4⟩; have hbw4 := below_call hbw3 hbw3.size hb4; have hown4 := own_keeps hown3 hb4))
          exact ⟨⟨k + 1, va, rfl, by omega, by go_num, by rw [HT2.out]; exact hown4, hbw4⟩, by simp [RowKit.intOf]; omega⟩
    · obtain rfl : k = n := by omega
      have HP := Lib.hid (show MissPost w (missTo fs ms ts k) (.returned (.tuple #[va, .int .i64 0])) wr from ⟨_, rfl, hbw, hown⟩)
      go_wp2_with fail
      go_ret2
      exact HP.out

theorem missing_fine (vf vm vt : Value) (fs : List Fr) (ms : List Md) (ts : List Te) (w : World) (hf : SlF w vf fs) (hm : SlG encM 4 fitM w vm ms) (ht : TbsV w vt ts) (h : allErr fs ms ts = 0) :
    Calls Tryd.prog 9 #[vf, vm, vt] w (MissPost w (missTo fs ms ts fs.length)) := by
  obtain ⟨p, cap, rfl, h1, h2, h3, h4⟩ := id hf
  rcases h4 with rfl | ⟨b, off, rfl, hb, hc⟩
  · exact missing_zero p cap vm vt ms ts w hf hm ht h
  · exact missing_some b off _ cap vm vt fs ms ts w hf hm ht h rfl hb hc

set_option maxHeartbeats 1000000 in
set_option maxRecDepth 100000 in
theorem closure21 (x : Te) (po base : Nat) (v : Value) (l : List ByteArray) (w : World) (ho : w.cell? ⟨po, 0, none⟩ = some v) (hown : w.ownsRow base 9 1 v l.length (cellsG encS l)) :
    Calls Tryd.prog 21 #[x.val, .pointer (some ⟨po, 0, none⟩)] w fun e w' => e = .returned (.bool (containsS l x.t.id)) ∧ Below w.heap.size w w' := by
  unfold Te.val
  have hlt := World.block_lt_of_cell? _ _ ho
  simp only at hlt
  obtain ⟨p, cap, rfl⟩ := own_len hown
  have hA : Below w.heap.size w (w.alloc (.cells #[.string x.t.id, .int .i64 x.t.size, .slice x.p1 x.t.files.length x.c1, .slice x.p2 x.t.funcs.length x.c2, .slice x.p3 x.t.rows.length x.c3, .slice x.p4 x.t.calls.length x.c4] 42)) := (Below.refl _ _).alloc (Nat.le_refl _) _
  have HC := Lib.hid (contains22_own x.t.id (hown.alloc (.cells #[.string x.t.id, .int .i64 x.t.size, .slice x.p1 x.t.files.length x.c1, .slice x.p2 x.t.funcs.length x.c2, .slice x.p3 x.t.rows.length x.c3, .slice x.p4 x.t.calls.length x.c4] 42)))
  clear hown
  go_enter Tryd.func21, Tryd.ntmps21
  go_wp2_with (go_at_call 22; with_reducible refine HC.out.mono ?_; rintro e w1 ⟨rfl, rfl⟩)
  go_ret
  exact ⟨rfl, hA⟩

set_option maxHeartbeats 2000000 in
set_option maxRecDepth 100000 in
theorem none46_some (b off n cap po base : Nat) (v : Value) (l : List ByteArray) (ts : List Te) (w : World) (hl : ts.length = n) (hn : n ≤ 9223372036854775807) (hb : b < w.heap.size) (hc : AtG encT 6 w b off ts) (ho : w.cell? ⟨po, 0, none⟩ = some v) (hown : w.ownsRow base 9 1 v l.length (cellsG encS l)) (hno : ∀ x ∈ ts, containsS l x.t.id = false) :
    Calls Tryd.prog 46 #[.slice (some ⟨b, off, none⟩) n cap, .func (.func 21) #[] #[.pointer (some ⟨po, 0, none⟩)]] w fun e w' => e = .returned (.int .i64 (-1)) ∧ Below w.heap.size w w' := by
  have hlt := World.block_lt_of_cell? _ _ ho
  simp only at hlt
  have HNO := Lib.hid hno
  have HO := Lib.hid (fun (W : World) (hW : Below w.heap.size w W) => (⟨(hW.cell (p := ⟨po, 0, none⟩) hlt).trans ho, own_keeps hown hW⟩ : W.cell? ⟨po, 0, none⟩ = some v ∧ W.ownsRow base 9 1 v l.length (cellsG encS l)))
  clear hno hown ho
  go_enter Tryd.func46, Tryd.ntmps46
  go_wp2_with fail
  go_loopw [8] (fun v wr => ∃ k : Nat, k ≤ n ∧ v = .int .i64 k ∧ Below w.heap.size w wr) (fun v _ => n - (RowKit.intOf v).toNat)
  case atStart => exact ⟨0, Nat.zero_le _, rfl, Below.refl _ _⟩
  case round =>
    obtain ⟨k, hk, rfl, hbw⟩ := hrel
    by_cases hkn : k < n
    · have hkl : k < ts.length := by omega
      obtain ⟨c0, c1, c2, c3, c4, c5⟩ := hc.tab hkl
      have c0 := (hbw.cell (p := ⟨b, _, none⟩) hb).trans c0
      have c1 := (hbw.cell (p := ⟨b, _, none⟩) hb).trans c1
      have c2 := (hbw.cell (p := ⟨b, _, none⟩) hb).trans c2
      have c3 := (hbw.cell (p := ⟨b, _, none⟩) hb).trans c3
      have c4 := (hbw.cell (p := ⟨b, _, none⟩) hb).trans c4
      have c5 := (hbw.cell (p := ⟨b, _, none⟩) hb).trans c5
      have hx := HNO.out _ (List.getElem_mem hkl)
      generalize ts[k] = x at *
      have HC := Lib.hid (closure21 x po base v l wr (HO.out _ hbw).1 (HO.out _ hbw).2)
      unfold Te.val at HC
      rw [hx] at HC
      clear hx
      go_wp2_with (go_at_call 21; with_reducible refine HC.out.mono ?_; rintro e w1 ⟨rfl, hb1⟩)
      exact ⟨⟨k + 1, by omega, by go_num, below_call hbw hbw.size hb1⟩, by simp [RowKit.intOf]; omega⟩
    · go_wp2_with fail
      go_ret
      exact ⟨rfl, hbw⟩

set_option maxHeartbeats 1000000 in
set_option maxRecDepth 100000 in
theorem contains20_no (vt : Value) (po base : Nat) (v : Value) (l : List ByteArray) (ts : List Te) (w : World) (ht : TbsV w vt ts) (ho : w.cell? ⟨po, 0, none⟩ = some v) (hown : w.ownsRow base 9 1 v l.length (cellsG encS l)) (hno : ∀ x ∈ ts, containsS l x.t.id = false) :
    Calls Tryd.prog 20 #[vt, .func (.func 21) #[] #[.pointer (some ⟨po, 0, none⟩)]] w fun e w' => e = .returned (.bool false) ∧ Below w.heap.size w w' := by
  have HI : Calls Tryd.prog 46 #[vt, .func (.func 21) #[] #[.pointer (some ⟨po, 0, none⟩)]] w fun e w' => e = .returned (.int .i64 (-1)) ∧ Below w.heap.size w w' := by
    obtain ⟨⟨p, cap, rfl, hlc, hcm, _, rfl | ⟨b, off, rfl, hb, hc⟩⟩, _⟩ := ht
    · exact index46_none p cap _ w
    · exact none46_some b off _ cap po base v l ts w rfl (by unfold maxLen at hcm; omega) hb hc ho hown hno
  have HI := Lib.hid HI
  clear hown ho hno ht
  go_enter Tryd.func20, Tryd.ntmps20
  go_wp2_with (go_at_call 46; with_reducible refine HI.out.mono ?_; rintro e w1 ⟨rfl, hb1⟩)
  go_ret
  exact ⟨rfl, hb1⟩
end Go.Proofs.YtcdaalnjanncmaaDoor

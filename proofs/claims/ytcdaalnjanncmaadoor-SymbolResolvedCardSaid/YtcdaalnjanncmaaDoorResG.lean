/- What Resolve answers. -/
import Derived.Test.YtcdaalnjanncmaaDoorResF
namespace Go.Proofs.YtcdaalnjanncmaaDoor
open Go.RowKit Go.Deep Go.Lib

theorem cellsFr_len (l : List Fr) : (cellsG encFr l).length = l.length * 6 := cellsG_length (enc := encFr) (k := 6) (fun _ => rfl) l
theorem cellsFr_one (l : List Fr) : ∀ u ∈ cellsG encFr l, u.oneCell' = true := cellsOf_one (l := l)
theorem cellsFr_oneF (x : Fr) : cellsG encFr [x] = [.string x.m, .string x.f, .string x.i, .int .i64 x.line, .int .i64 x.addr, .bool x.own] := rfl
def ResPost (w : World) (L : List Fr) (e : Ending) (w' : World) : Prop :=
  (200 < L.length ∧ e = .returned (.tuple #[.slice none 0 0, .int .i64 4]) ∧ Below w.heap.size w w') ∨
  (L.length ≤ 200 ∧ ∃ u, e = .returned (.tuple #[u, .int .i64 0]) ∧ Below w.heap.size w w' ∧ w'.ownsRow w.heap.size 35 6 u L.length (cellsG encFr L))

set_option maxHeartbeats 2000000 in
set_option maxRecDepth 100000 in
theorem resolve_bad (vf vm vt : Value) (fs : List Fr) (ms : List Md) (ts : List Te) (w : World) (hf : SlF w vf fs) (hm : SlG encM 4 fitM w vm ms) (ht : TbsV w vt ts) (h : allErr fs ms ts ≠ 0) :
    Calls Tryd.prog 8 #[vf, vm, vt] w fun e w' => e = .returned (.tuple #[.slice none 0 0, .int .i64 (allErr fs ms ts)]) ∧ Below w.heap.size w w' := by
  have HC := Lib.hid (checkAll_any vf vm vt fs ms ts w hf hm ht)
  have hq : (allErr fs ms ts != 0) = true := by simpa using h
  clear h
  generalize allErr fs ms ts = E at *
  go_enter Tryd.func8, Tryd.ntmps8
  go_wp2_with (go_at_call 27; with_reducible refine HC.out.mono ?_; rintro e w1 ⟨rfl, hb1⟩)
  go_ret2
  exact ⟨rfl, hb1⟩

set_option maxHeartbeats 2000000 in
set_option maxRecDepth 100000 in
theorem resolve_zero (p : Option Addr) (cap : Nat) (vm vt : Value) (ms : List Md) (ts : List Te) (w : World) (hf : SlF w (.slice p 0 cap) []) (hm : SlG encM 4 fitM w vm ms) (ht : TbsV w vt ts) (h : allErr [] ms ts = 0) :
    Calls Tryd.prog 8 #[.slice p 0 cap, vm, vt] w (ResPost w []) := by
  have HC := Lib.hid (checkAll_any (.slice p 0 cap) vm vt [] ms ts w hf hm ht)
  rw [h] at HC
  have HP := Lib.hid (fun w' (hb : Below w.heap.size w w') => (show ResPost w [] (.returned (.tuple #[.slice none 0 0, .int .i64 0])) w' from .inr ⟨by simp, _, rfl, hb, rfl, .inl ⟨rfl, rfl⟩⟩))
  clear h hf hm ht
  go_enter Tryd.func8, Tryd.ntmps8
  go_wp2_with (go_at_call 27; with_reducible refine HC.out.mono ?_; rintro e w1 ⟨rfl, hb1⟩)
  go_loop [9, 23] (fun v9 v => v9 = .slice none 0 0 ∧ v = .int .i64 0) (fun _ _ => 0)
  case atStart => exact ⟨rfl, rfl⟩
  case round =>
    obtain ⟨rfl, rfl⟩ := hrel
    go_wp2_with fail
    go_ret2
    exact HP.out _ hb1

set_option maxHeartbeats 8000000 in
set_option maxRecDepth 100000 in
theorem resolve_some (b off n cap : Nat) (vm vt : Value) (fs : List Fr) (ms : List Md) (ts : List Te) (w : World) (hf : SlF w (.slice (some ⟨b, off, none⟩) n cap) fs) (hm : SlG encM 4 fitM w vm ms) (ht : TbsV w vt ts) (h : allErr fs ms ts = 0) (hn : fs.length = n) (hb : b < w.heap.size) (hc : FrsAt w b off fs) :
    Calls Tryd.prog 8 #[.slice (some ⟨b, off, none⟩) n cap, vm, vt] w (ResPost w (resTo fs ms ts n)) := by
  obtain ⟨i0, hi0, hz0, hz1, hz2⟩ := info_parts Tryd.info35
  have hz5 : (Value.agg #[.string ⟨#[]⟩, .string ⟨#[]⟩, .string ⟨#[]⟩, .int .i64 0, .int .i64 0, .bool false]).cells.size = 6 := rfl
  have HC := Lib.hid (checkAll_any (.slice (some ⟨b, off, none⟩) n cap) vm vt fs ms ts w hf hm ht)
  rw [h] at HC
  have HG := Lib.hid (goodR_of h)
  have HNO := Lib.hid (fun fr r hin hno (W : World) (hW : Below w.heap.size w W) => resolveFrame_no fr r vm vt fs ms ts W (hm.below (Nat.le_refl _) hW) (ht.below (Nat.le_refl _) hW) HG.out hin hno)
  have HYES := Lib.hid (fun fr r l hin hyes (W : World) (hW : Below w.heap.size w W) => resolveFrame_yes fr r vm vt fs ms ts l W (hm.below (Nat.le_refl _) hW) (ht.below (Nat.le_refl _) hW) HG.out hin hyes)
  have hn2 : n ≤ 200 := by have := HG.out.nfs; omega
  have HLEN := Lib.hid (fun k (hk : k ≤ n) => (resTo_len (fs := fs) (ms := ms) (ts := ts) HG.out (k := k) (by omega)).2)
  have HRL := Lib.hid (fun fr r l => resO_len (fr := fr) (ret := r) (l := l) HG.out)
  clear h hf hm ht
  go_enter Tryd.func8, Tryd.ntmps8
  go_wp2_with (go_at_call 27; with_reducible refine HC.out.mono ?_; rintro e w1 ⟨rfl, hb1⟩)
  go_loopw [9, 23] (fun v9 v wr => ∃ (k : Nat) (va : Value), va = v9 ∧ k ≤ n ∧ v = .int .i64 k ∧ wr.ownsRow w.heap.size 35 6 va (resTo fs ms ts k).length (cellsG encFr (resTo fs ms ts k)) ∧ Below w.heap.size w wr) (fun _ v _ => n - (RowKit.intOf v).toNat)
  case atStart => exact ⟨0, _, rfl, Nat.zero_le _, rfl, ⟨rfl, .inl ⟨rfl, rfl⟩⟩, hb1⟩
  case round =>
    obtain ⟨k, va, rfl, hk, rfl, hown, hbw⟩ := hrel
    by_cases hlt : k < n
    · have hkl : k < fs.length := by omega
      have hin := List.getElem_mem hkl
      have HTS := Lib.hid (resTo_succ (ms := ms) (ts := ts) (List.getElem?_eq_getElem hkl))
      obtain ⟨c0, c1, c2, c3, c4, c5⟩ := (hc k hkl).below hb hbw
      have hll := HLEN.out k hk
      generalize fs[k] = x at *
      obtain ⟨xm, xf, xi, xl, xa, xo⟩ := x
      simp only at c0 c1 c2 c3 c4 c5
      obtain ⟨r, hr⟩ : ∃ r, decide (0 < k) = r := ⟨_, rfl⟩
      have hr2 : decide ((0 : Int) < (k : Int)) = r := by rw [← hr]; simp
      rw [hr] at HTS
      have hA := hbw.alloc hbw.size (.cells #[.string xm, .string xf, .string xi, .int .i64 xl, .int .i64 xa, .bool xo] 35)
      have hownA := hown.alloc (.cells #[.string xm, .string xf, .string xi, .int .i64 xl, .int .i64 xa, .bool xo] 35)
      have hge := fun h k => own_lt (k := h) hown k
      generalize resTo fs ms ts k = acc at *
      cases hO : resO ⟨xm, xf, xi, xl, xa, xo⟩ r ms ts with
      | none =>
        have HX := Lib.hid (HNO.out _ r hin hO)
        unfold Fr.val at HX
        have HTS2 := Lib.hid (show resTo fs ms ts (k + 1) = acc ++ [⟨xm, xf, xi, xl, xa, xo⟩] by rw [HTS.out]; unfold resL; rw [hO]; rfl)
        clear hO HTS hin
        have r1 : acc.length + 1 ≤ maxLen := by unfold maxLen; omega
        have r2 : (acc.length + 1) * 72 ≤ 140737488355328 := by omega
        have hone := cells6_one ⟨xm, xf, xi, xl, xa, xo⟩
        simp only at hone
        go_wp2_with (first
          | (go_at_call 28; with_reducible refine (HX.out _ hA).mono ?_; rintro e w3 ⟨rfl, hb3⟩; have hbw3 := below_call hA hA.size hb3; have hown3 := own_keeps hownA hb3; have g0 : w3.cell? ⟨wr.heap.size, 0, none⟩ = some (.string xm) := (hb3.cell (p := ⟨wr.heap.size, 0, none⟩) (by simp)).trans (by go_simp); have g1 : w3.cell? ⟨wr.heap.size, 1, none⟩ = some (.string xf) := (hb3.cell (p := ⟨wr.heap.size, 1, none⟩) (by simp)).trans (by go_simp); have g2 : w3.cell? ⟨wr.heap.size, 2, none⟩ = some (.string xi) := (hb3.cell (p := ⟨wr.heap.size, 2, none⟩) (by simp)).trans (by go_simp); have g3 : w3.cell? ⟨wr.heap.size, 3, none⟩ = some (.int .i64 xl) := (hb3.cell (p := ⟨wr.heap.size, 3, none⟩) (by simp)).trans (by go_simp); have g4 : w3.cell? ⟨wr.heap.size, 4, none⟩ = some (.int .i64 xa) := (hb3.cell (p := ⟨wr.heap.size, 4, none⟩) (by simp)).trans (by go_simp); have g5 : w3.cell? ⟨wr.heap.size, 5, none⟩ = some (.bool xo) := (hb3.cell (p := ⟨wr.heap.size, 5, none⟩) (by simp)).trans (by go_simp); have hsrc := cells6_new w3 ⟨xm, xf, xi, xl, xa, xo⟩ 35; simp only at hsrc; have hown3A := hown3.alloc (.cells #[.string xm, .string xf, .string xi, .int .i64 xl, .int .i64 xa, .bool xo] 35); have hbw3A := hbw3.alloc hbw3.size (.cells #[.string xm, .string xf, .string xi, .int .i64 xl, .int .i64 xa, .bool xo] 35); have r3 := hbw3A.size)
          | (at_builtin; (refine wpList_append_own _ rfl _ _ 22 rfl w.heap.size 35 i0 _ 6 72 Tryd.underlying22 hi0 hz0 hz1 hz2 hz5 (by decide) va acc.length _ rfl hown3A ⟨w3.heap.size, 0, none⟩ 1 1 [.string xm, .string xf, .string xi, .int .i64 xl, .int .i64 xa, .bool xo] rfl rfl hsrc hone r1 r2 r3 ?_; intro v6 w6 hown6 hgr6 _)))
        exact ⟨⟨k + 1, v6, rfl, by omega, by go_num, by rw [HTS2.out, List.length_append, cellsG_append, cellsFr_oneF]; exact hown6, below_grown hbw3A hgr6 (fun h k => (hge h k).1) hbw3A.size⟩, by simp [RowKit.intOf]; omega⟩
      | some l =>
        have HX := Lib.hid (HYES.out _ r l hin hO)
        unfold Fr.val at HX
        obtain ⟨l1, l2⟩ := HRL.out _ r l hO
        have HTS2 := Lib.hid (show resTo fs ms ts (k + 1) = acc ++ l by rw [HTS.out]; unfold resL; rw [hO]; rfl)
        clear hO HTS hin
        have r1 : acc.length + l.length ≤ maxLen := by unfold maxLen; omega
        have r2 : (acc.length + l.length) * 72 ≤ 140737488355328 := by omega
        have HCL := Lib.hid (cellsFr_len l)
        have hone := cellsFr_one l
        go_wp2_with (first
          | (go_at_call 28; with_reducible refine (HX.out _ hA).mono ?_; rintro e w3 ⟨u, rfl, hb3, hownu⟩; obtain ⟨gg, cu, rfl, _, _, hcu⟩ := own_slice hownu (by omega); have hbw3 := below_call hA hA.size hb3; have hown3 := own_keeps hownA hb3; have hsrc : ∀ j u, (cellsG encFr l)[j]? = some u → w3.cell? ((⟨gg, 0, none⟩ : Addr).add j) = some u := (fun j u hj => by rw [add_none, Nat.zero_add]; exact hcu j u hj); have r3 := hbw3.size; clear hcu hownu)
          | (at_builtin; (refine wpList_append_own _ rfl _ _ 22 rfl w.heap.size 35 i0 _ 6 72 Tryd.underlying22 hi0 hz0 hz1 hz2 hz5 (by decide) va acc.length _ rfl hown3 ⟨gg, 0, none⟩ l.length cu (cellsG encFr l) rfl HCL.out hsrc hone r1 r2 r3 ?_; intro v6 w6 hown6 hgr6 _)))
        exact ⟨⟨k + 1, v6, rfl, by omega, by go_num, by rw [HTS2.out, List.length_append, cellsG_append]; exact hown6, below_grown hbw3 hgr6 (fun h k => (hge h k).1) hbw3.size⟩, by simp [RowKit.intOf]; omega⟩
    · obtain rfl : k = n := by omega
      obtain ⟨pa, ca, rfl⟩ := own_len hown
      have hmx := own_max hown
      generalize resTo fs ms ts k = acc at *
      by_cases hL : 200 < acc.length
      · have HP := Lib.hid (fun w' (hb : Below w.heap.size w w') => (show ResPost w acc (.returned (.tuple #[.slice none 0 0, .int .i64 4])) w' from .inl ⟨hL, rfl, hb⟩))
        go_wp2_with fail
        go_ret2
        exact HP.out _ hbw
      · have HP := Lib.hid (show ResPost w acc (.returned (.tuple #[.slice pa acc.length ca, .int .i64 0])) wr from .inr ⟨by omega, _, rfl, hbw, hown⟩)
        go_wp2_with fail
        go_ret2
        exact HP.out

theorem resolve_any (vf vm vt : Value) (fs : List Fr) (ms : List Md) (ts : List Te) (w : World) (hf : SlF w vf fs) (hm : SlG encM 4 fitM w vm ms) (ht : TbsV w vt ts) (h : allErr fs ms ts = 0) :
    Calls Tryd.prog 8 #[vf, vm, vt] w (ResPost w (resTo fs ms ts fs.length)) := by
  obtain ⟨p, cap, rfl, h1, h2, h3, h4⟩ := id hf
  rcases h4 with rfl | ⟨b, off, rfl, hb, hc⟩
  · exact resolve_zero p cap vm vt ms ts w hf hm ht h
  · exact resolve_some b off _ cap vm vt fs ms ts w hf hm ht h rfl hb hc
theorem resErr_bad {fs : List Fr} {ms : List Md} {ts : List Te} (h : allErr fs ms ts ≠ 0) : resErr fs ms ts = allErr fs ms ts := by unfold resErr; rw [if_pos h]
theorem resErr_large {fs : List Fr} {ms : List Md} {ts : List Te} (h : allErr fs ms ts = 0) (h2 : 200 < (resTo fs ms ts fs.length).length) : resErr fs ms ts = 4 := by unfold resErr; rw [if_neg (by omega), if_pos h2]
theorem resErr_ok {fs : List Fr} {ms : List Md} {ts : List Te} (h : allErr fs ms ts = 0) (h2 : (resTo fs ms ts fs.length).length ≤ 200) : resErr fs ms ts = 0 := by unfold resErr; rw [if_neg (by omega), if_neg (by omega)]
theorem resolve_err (vf vm vt : Value) (fs : List Fr) (ms : List Md) (ts : List Te) (w : World) (hf : SlF w vf fs) (hm : SlG encM 4 fitM w vm ms) (ht : TbsV w vt ts) (h : resErr fs ms ts ≠ 0) :
    Calls Tryd.prog 8 #[vf, vm, vt] w fun e w' => e = .returned (.tuple #[.slice none 0 0, .int .i64 (resErr fs ms ts)]) ∧ Below w.heap.size w w' := by
  by_cases h1 : allErr fs ms ts = 0
  · by_cases h2 : 200 < (resTo fs ms ts fs.length).length
    · rw [resErr_large h1 h2]
      refine (resolve_any vf vm vt fs ms ts w hf hm ht h1).mono ?_
      rintro e w1 (⟨_, rfl, hb⟩ | ⟨h3, _⟩)
      · exact ⟨rfl, hb⟩
      · omega
    · exact absurd (resErr_ok h1 (by omega)) h
  · rw [resErr_bad h1]; exact resolve_bad vf vm vt fs ms ts w hf hm ht h1
theorem resErr_zero {fs : List Fr} {ms : List Md} {ts : List Te} (h : resErr fs ms ts = 0) : allErr fs ms ts = 0 ∧ (resTo fs ms ts fs.length).length ≤ 200 := by
  unfold resErr at h
  split at h
  · rename_i hn; exact absurd h hn
  split at h
  · omega
  rename_i h1 h2
  exact ⟨Classical.not_not.1 h1, by omega⟩
theorem resolve_fine (vf vm vt : Value) (fs : List Fr) (ms : List Md) (ts : List Te) (w : World) (hf : SlF w vf fs) (hm : SlG encM 4 fitM w vm ms) (ht : TbsV w vt ts) (h : resErr fs ms ts = 0) :
    Calls Tryd.prog 8 #[vf, vm, vt] w fun e w' => ∃ u, e = .returned (.tuple #[u, .int .i64 0]) ∧ Below w.heap.size w w' ∧ w'.ownsRow w.heap.size 35 6 u (resTo fs ms ts fs.length).length (cellsG encFr (resTo fs ms ts fs.length)) := by
  obtain ⟨h1, h2⟩ := resErr_zero h
  refine (resolve_any vf vm vt fs ms ts w hf hm ht h1).mono ?_
  rintro e w1 (⟨h3, _⟩ | ⟨_, u, rfl, hb, ho⟩)
  · omega
  · exact ⟨u, rfl, hb, ho⟩
end Go.Proofs.YtcdaalnjanncmaaDoor

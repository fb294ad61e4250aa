/- What checkAll answers: the first error of frames, modules and tables. -/
import Derived.Test.YtcdaalnjanncmaaDoorResE
import Derived.Test.YtcdaalnjanncmaaDoorCut
import Derived.Deep.RegionHeld3
namespace Go.Proofs.YtcdaalnjanncmaaDoor
open Go.RowKit Go.Deep Go.Lib

theorem tbs_take {w : World} {b off cap n : Nat} {l : List Te} (k : Nat) (h : TbsV w (.slice (some ⟨b, off, none⟩) n cap) l) (hk : k ≤ n) : TbsV w (.slice (some ⟨b, off, none⟩) k cap) (l.take k) := by
  obtain ⟨⟨p, c, he, h1, h2, h3, h4⟩, h5⟩ := h
  obtain ⟨rfl, hln, rfl⟩ := Value.slice.inj he
  have hlk : (l.take k).length = k := by rw [List.length_take]; omega
  refine ⟨⟨_, cap, by rw [hlk], by omega, h2, fun x hx => h3 x (List.mem_of_mem_take hx), ?_⟩, fun x hx => h5 x (List.mem_of_mem_take hx)⟩
  rcases h4 with h4 | ⟨b', off', hp, hb, hc⟩
  · left; rw [h4]; simp
  · exact .inr ⟨b', off', hp, hb, hc.take k⟩

set_option maxHeartbeats 2000000 in
set_option maxRecDepth 100000 in
theorem checkAll_frames (vf vm vt : Value) (fs : List Fr) (ms : List Md) (ts : List Te) (w : World) (hf : SlF w vf fs) (h : frsErr fs ≠ 0) :
    Calls Tryd.prog 27 #[vf, vm, vt] w fun e w' => e = .returned (.int .i64 (allErr fs ms ts)) ∧ Below w.heap.size w w' := by
  have HE := Lib.hid (allErr_frames (ms := ms) (ts := ts) h)
  have HC := Lib.hid (cut_bad vf fs 200 w hf h)
  have hq : (frsErr fs != 0) = true := by simpa using h
  clear h
  generalize frsErr fs = E at *
  go_enter Tryd.func27, Tryd.ntmps27
  go_wp2_with (go_at_call 55; with_reducible refine HC.out.mono ?_; rintro e w1 ⟨rfl, hb1⟩)
  go_ret
  exact ⟨ret_int HE.out.symm, hb1⟩

theorem cut_fine (vf : Value) (fs : List Fr) (w : World) (hf : SlF w vf fs) (h : frsErr fs = 0) :
    Calls Tryd.prog 55 #[vf, .int .i64 200] w fun e w' => ∃ p cap, e = .returned (.tuple #[.slice p fs.length cap, .int .i64 0, .int .i64 0]) ∧ Below w.heap.size w w' := by
  refine (cut_whole vf fs 200 w hf h (by omega) (Nat.le_refl _) (frsErr_zero h)).mono ?_
  rintro e w1 ⟨v, rfl, ho, hb⟩
  rw [show cutL fs 200 = fs from by unfold cutL; rw [if_pos (frsErr_zero h)]] at ho
  obtain ⟨p, cap, rfl⟩ := own_len ho
  exact ⟨p, cap, rfl, hb⟩

set_option maxHeartbeats 2000000 in
set_option maxRecDepth 100000 in
theorem checkAll_mods (vf vm vt : Value) (fs : List Fr) (ms : List Md) (ts : List Te) (w : World) (hf : SlF w vf fs) (hm : SlG encM 4 fitM w vm ms) (h : frsErr fs = 0) (h2 : eMods ms ≠ 0) :
    Calls Tryd.prog 27 #[vf, vm, vt] w fun e w' => e = .returned (.int .i64 (allErr fs ms ts)) ∧ Below w.heap.size w w' := by
  have HE := Lib.hid (allErr_mods (ts := ts) h h2)
  have HC := Lib.hid (cut_fine vf fs w hf h)
  have HM := Lib.hid (fun (W : World) (hW : Below w.heap.size w W) => checkModules_any vm ms W (hm.below (Nat.le_refl _) hW))
  have hq : (eMods ms != 0) = true := by simpa using h2
  clear h h2
  generalize eMods ms = E at *
  go_enter Tryd.func27, Tryd.ntmps27
  go_wp2_with (first
    | (go_at_call 55; with_reducible refine HC.out.mono ?_; rintro e w1 ⟨p1, c1, rfl, hb1⟩)
    | (go_at_call 56; with_reducible refine (HM.out _ hb1).mono ?_; rintro e w2 ⟨rfl, hb2⟩; have hbw2 := below_call hb1 hb1.size hb2))
  go_ret
  exact ⟨ret_int HE.out.symm, hbw2⟩

set_option maxHeartbeats 2000000 in
set_option maxRecDepth 100000 in
theorem checkAll_large (vf vm : Value) (pt : Option Addr) (n cap : Nat) (fs : List Fr) (ms : List Md) (w : World) (hf : SlF w vf fs) (hm : SlG encM 4 fitM w vm ms) (h : frsErr fs = 0) (h2 : eMods ms = 0) (h3 : 100 < n) :
    Calls Tryd.prog 27 #[vf, vm, .slice pt n cap] w fun e w' => e = .returned (.int .i64 4) ∧ Below w.heap.size w w' := by
  have HC := Lib.hid (cut_fine vf fs w hf h)
  have HM := Lib.hid (fun (W : World) (hW : Below w.heap.size w W) => checkModules_any vm ms W (hm.below (Nat.le_refl _) hW))
  rw [h2] at HM
  clear h h2
  go_enter Tryd.func27, Tryd.ntmps27
  go_wp2_with (first
    | (go_at_call 55; with_reducible refine HC.out.mono ?_; rintro e w1 ⟨p1, c1, rfl, hb1⟩)
    | (go_at_call 56; with_reducible refine (HM.out _ hb1).mono ?_; rintro e w2 ⟨rfl, hb2⟩; have hbw2 := below_call hb1 hb1.size hb2))
  go_ret
  exact ⟨rfl, hbw2⟩

set_option maxHeartbeats 2000000 in
set_option maxRecDepth 100000 in
theorem checkAll_zero (vf vm : Value) (pt : Option Addr) (cap : Nat) (fs : List Fr) (ms : List Md) (w : World) (hf : SlF w vf fs) (hm : SlG encM 4 fitM w vm ms) (h : frsErr fs = 0) (h2 : eMods ms = 0) :
    Calls Tryd.prog 27 #[vf, vm, .slice pt 0 cap] w fun e w' => e = .returned (.int .i64 0) ∧ Below w.heap.size w w' := by
  have HC := Lib.hid (cut_fine vf fs w hf h)
  have HM := Lib.hid (fun (W : World) (hW : Below w.heap.size w W) => checkModules_any vm ms W (hm.below (Nat.le_refl _) hW))
  rw [h2] at HM
  clear h h2
  go_enter Tryd.func27, Tryd.ntmps27
  go_wp2_with (first
    | (go_at_call 55; with_reducible refine HC.out.mono ?_; rintro e w1 ⟨p1, c1, rfl, hb1⟩)
    | (go_at_call 56; with_reducible refine (HM.out _ hb1).mono ?_; rintro e w2 ⟨rfl, hb2⟩; have hbw2 := below_call hb1 hb1.size hb2))
  go_loop [33] (fun v => v = .int .i64 0) (fun _ => 0)
  case atStart => rfl
  case round =>
    subst hrel
    go_wp2_with fail
    go_ret
    exact ⟨rfl, hbw2⟩

set_option maxHeartbeats 4000000 in
set_option maxRecDepth 100000 in
theorem checkAll_some (vf vm : Value) (b off n cap : Nat) (fs : List Fr) (ms : List Md) (ts : List Te) (w : World) (hf : SlF w vf fs) (hm : SlG encM 4 fitM w vm ms) (ht : TbsV w (.slice (some ⟨b, off, none⟩) n cap) ts) (hn : ts.length = n) (hb : b < w.heap.size) (hc : AtG encT 6 w b off ts) (h : frsErr fs = 0) (h2 : eMods ms = 0) (h3 : n ≤ 100) (hcap : n ≤ cap) :
    Calls Tryd.prog 27 #[vf, vm, .slice (some ⟨b, off, none⟩) n cap] w fun e w' => e = .returned (.int .i64 (tbsErr [] ts)) ∧ Below w.heap.size w w' := by
  have HC := Lib.hid (cut_fine vf fs w hf h)
  have HM := Lib.hid (fun (W : World) (hW : Below w.heap.size w W) => checkModules_any vm ms W (hm.below (Nat.le_refl _) hW))
  rw [h2] at HM
  have HTV := Lib.hid ht
  clear h h2 ht hf hm
  go_enter Tryd.func27, Tryd.ntmps27
  go_wp2_with (first
    | (go_at_call 55; with_reducible refine HC.out.mono ?_; rintro e w1 ⟨p1, c1, rfl, hb1⟩)
    | (go_at_call 56; with_reducible refine (HM.out _ hb1).mono ?_; rintro e w2 ⟨rfl, hb2⟩; have hbw2 := below_call hb1 hb1.size hb2))
  go_loopw [33] (fun v wr => ∃ k : Nat, k ≤ n ∧ v = .int .i64 k ∧ tbsErr [] ts = tbsErr (ts.take k) (ts.drop k) ∧ Below w.heap.size w wr) (fun v _ => n - (RowKit.intOf v).toNat)
  case atStart => exact ⟨0, Nat.zero_le _, rfl, rfl, hbw2⟩
  case round =>
    obtain ⟨k, hk, rfl, heq, hbw⟩ := hrel
    have HEQ := Lib.hid heq
    clear heq
    by_cases hlt : k < n
    · have hkl : k < ts.length := by omega
      have hk0 : (0 : Int) ≤ (k : Int) := by omega
      have hkc : (k : Int) ≤ (cap : Int) := by omega
      have HD := Lib.hid (List.drop_eq_getElem_cons hkl)
      have HTK := Lib.hid (List.take_succ_eq_append_getElem hkl)
      obtain ⟨c0, c1', c2, c3, c4, c5⟩ := hc.tab hkl
      have c0 := (hbw.cell (p := ⟨b, _, none⟩) hb).trans c0
      have c1' := (hbw.cell (p := ⟨b, _, none⟩) hb).trans c1'
      have c2 := (hbw.cell (p := ⟨b, _, none⟩) hb).trans c2
      have c3 := (hbw.cell (p := ⟨b, _, none⟩) hb).trans c3
      have c4 := (hbw.cell (p := ⟨b, _, none⟩) hb).trans c4
      have c5 := (hbw.cell (p := ⟨b, _, none⟩) hb).trans c5
      have hxv := HTV.out.2 _ (List.getElem_mem hkl)
      generalize ts[k] = x at *
      have HCT := Lib.hid (fun (W : World) (hW : Below w.heap.size w W) => checkTable_any x.val x.t W (hxv.below (Nat.le_refl _) hW))
      have HH := Lib.hid (fun v (h : tbsErr (ts.take k) (x :: ts.drop (k + 1)) = v) => (show tbsErr [] ts = v by rw [HEQ.out, HD.out]; exact h))
      have HTO := Lib.hid (fun (W : World) (hW : Below w.heap.size w W) => tableOf_any (.slice (some ⟨b, off, none⟩) k cap) x.t.id (ts.take k) W (tbs_take k (HTV.out.below (Nat.le_refl _) hW) hk))
      unfold Te.val at HCT
      clear HEQ HD hxv
      have hA := hbw.alloc hbw.size (.cells #[.string x.t.id, .int .i64 x.t.size, .slice x.p1 x.t.files.length x.c1, .slice x.p2 x.t.funcs.length x.c2, .slice x.p3 x.t.rows.length x.c3, .slice x.p4 x.t.calls.length x.c4] 42)
      by_cases hz : tabErr x.t = 0
      · rw [hz] at HCT
        by_cases hx : 0 ≤ tabIdx (ts.take k) x.t.id
        · have HR := Lib.hid (HH.out _ (tbsErr_twice hz hx))
          have hd : decide (0 ≤ tabIdx (ts.take k) x.t.id) = true := decide_eq_true hx
          clear hz hx HH
          generalize tabIdx (ts.take k) x.t.id = ti at *
          go_wp2_with (go_at_call 35; with_reducible refine (HCT.out _ hA).mono ?_; rintro e w3 ⟨rfl, hb3⟩; have hbw3 := below_call hA hA.size hb3; have g0 : w3.cell? ⟨wr.heap.size, 0, none⟩ = some (.string x.t.id) := (hb3.cell (p := ⟨wr.heap.size, 0, none⟩) (by simp)).trans (by go_simp))
          go_region_held3 (fun w' => w'.cell? ⟨wr.heap.size, 0, none⟩ = some (.string x.t.id) ∧ Below w.heap.size w w')
            ((repeat' apply And.intro) <;> first | assumption | exact Below.drew (by assumption) | exact cell_keep (by first | assumption | exact cell_drewL (by assumption)) hbX | exact below_keep (by first | assumption | exact Below.drew (by assumption)) (Nat.le_refl _) hbX)
            (first | (go_at_call 30; with_reducible refine (HTO.out _ (by first | assumption | exact Below.drew (by assumption))).mono ?_; rintro e wX ⟨rfl, hbX⟩; have n0x : World.cell? _ ⟨wr.heap.size, 0, none⟩ = some (.string x.t.id) := cell_keep (by first | assumption | exact cell_drewL (by assumption)) hbX; have hbwX : Below w.heap.size w _ := below_keep (by first | assumption | exact Below.drew (by assumption)) (Nat.le_refl _) hbX))
          all_goals (go_wp2_with fail; go_ret; exact ⟨ret_int HR.out.symm, by assumption⟩)
        · have HR := Lib.hid (HH.out _ (tbsErr_next hz hx))
          have hd : decide (0 ≤ tabIdx (ts.take k) x.t.id) = false := decide_eq_false hx
          rw [← HTK.out] at HR
          clear hz hx HH
          generalize tabIdx (ts.take k) x.t.id = ti at *
          go_wp2_with (go_at_call 35; with_reducible refine (HCT.out _ hA).mono ?_; rintro e w3 ⟨rfl, hb3⟩; have hbw3 := below_call hA hA.size hb3; have g0 : w3.cell? ⟨wr.heap.size, 0, none⟩ = some (.string x.t.id) := (hb3.cell (p := ⟨wr.heap.size, 0, none⟩) (by simp)).trans (by go_simp))
          go_region_held3 (fun w' => w'.cell? ⟨wr.heap.size, 0, none⟩ = some (.string x.t.id) ∧ Below w.heap.size w w')
            ((repeat' apply And.intro) <;> first | assumption | exact Below.drew (by assumption) | exact cell_keep (by first | assumption | exact cell_drewL (by assumption)) hbX | exact below_keep (by first | assumption | exact Below.drew (by assumption)) (Nat.le_refl _) hbX)
            (first | (go_at_call 30; with_reducible refine (HTO.out _ (by first | assumption | exact Below.drew (by assumption))).mono ?_; rintro e wX ⟨rfl, hbX⟩; have n0x : World.cell? _ ⟨wr.heap.size, 0, none⟩ = some (.string x.t.id) := cell_keep (by first | assumption | exact cell_drewL (by assumption)) hbX; have hbwX : Below w.heap.size w _ := below_keep (by first | assumption | exact Below.drew (by assumption)) (Nat.le_refl _) hbX))
          go_wp2_with fail
          exact ⟨⟨k + 1, by omega, by go_num, HR.out, by assumption⟩, by simp [RowKit.intOf]; omega⟩
      · have hq : (tabErr x.t != 0) = true := by simpa using hz
        have HR := Lib.hid (HH.out _ (tbsErr_tab hz))
        clear hz HH HTO
        generalize tabErr x.t = E at *
        go_wp2_with (go_at_call 35; with_reducible refine (HCT.out _ hA).mono ?_; rintro e w3 ⟨rfl, hb3⟩; have hbw3 := below_call hA hA.size hb3)
        go_ret
        exact ⟨ret_int HR.out.symm, hbw3⟩
    · have HR := Lib.hid (show tbsErr [] ts = 0 by rw [HEQ.out, List.drop_of_length_le (by omega)]; rfl)
      go_wp2_with fail
      go_ret
      exact ⟨ret_int HR.out.symm, hbw⟩

theorem checkAll_any (vf vm vt : Value) (fs : List Fr) (ms : List Md) (ts : List Te) (w : World) (hf : SlF w vf fs) (hm : SlG encM 4 fitM w vm ms) (ht : TbsV w vt ts) :
    Calls Tryd.prog 27 #[vf, vm, vt] w fun e w' => e = .returned (.int .i64 (allErr fs ms ts)) ∧ Below w.heap.size w w' := by
  by_cases h1 : frsErr fs = 0
  · by_cases h2 : eMods ms = 0
    · obtain ⟨⟨p, cap, rfl, g1, g2, g3, g4⟩, g5⟩ := id ht
      by_cases h3 : 100 < ts.length
      · rw [allErr_large h1 h2 h3]; exact checkAll_large vf vm p _ cap fs ms w hf hm h1 h2 h3
      · rw [allErr_tabs h1 h2 h3]
        rcases g4 with rfl | ⟨b, off, rfl, hb, hc⟩
        · exact checkAll_zero vf vm p cap fs ms w hf hm h1 h2
        · exact checkAll_some vf vm b off _ cap fs ms ts w hf hm ht rfl hb hc h1 h2 (by omega) g1
    · exact checkAll_mods vf vm vt fs ms ts w hf hm h1 h2
  · exact checkAll_frames vf vm vt fs ms ts w hf h1
end Go.Proofs.YtcdaalnjanncmaaDoor

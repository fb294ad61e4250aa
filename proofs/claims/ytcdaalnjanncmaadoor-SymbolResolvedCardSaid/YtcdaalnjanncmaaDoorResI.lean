/- The law SymbolResolved: without tables, or without addresses, frames stay; of what is resolved nothing is missing. -/
import Derived.Test.YtcdaalnjanncmaaDoorResH
import Derived.Test.YtcdaalnjanncmaaDoorEqual
import Derived.Test.YtcdaalnjanncmaaDoorLinG
namespace Go.Proofs.YtcdaalnjanncmaaDoor
open Go.RowKit Go.Deep Go.Lib

/-- A frame without its address. -/
def bareF (x : Fr) : Fr := ⟨x.m, x.f, x.i, x.line, -1, x.own⟩
theorem frErr_bare {x : Fr} (h : frErr x = 0) : frErr (bareF x) = 0 := by
  obtain ⟨m, f, i, l, a, o⟩ := x
  change frErr ⟨m, f, i, l, -1, o⟩ = 0
  unfold frErr at h ⊢
  dsimp only at h ⊢
  split at h
  · omega
  rename_i h1
  rw [if_neg h1]
  split at h
  · omega
  rename_i h2
  rw [if_neg h2]
  split at h
  · omega
  rename_i h3
  rw [if_neg h3]
  split at h
  · omega
  rename_i h4
  rw [if_neg (by omega)]
  exact h
theorem frs_bare : ∀ {l : List Fr}, frsErr1 l = 0 → frsErr1 (l.map bareF) = 0
  | [], _ => rfl
  | x :: l, h => by
    rw [frsErr1] at h
    split at h
    · rename_i hn; exact absurd h hn
    rename_i hz
    rw [List.map_cons, frsErr1, if_neg (by rw [frErr_bare (Classical.not_not.1 hz)]; simp)]
    exact frs_bare h
theorem frsErr_bare {l : List Fr} (h : frsErr l = 0) : frsErr (l.map bareF) = 0 := by
  unfold frsErr at h ⊢
  rw [List.length_map]
  split at h
  · omega
  rename_i hl
  rw [if_neg hl]
  exact frs_bare h
theorem allErr_of {fs : List Fr} {ms : List Md} {ts : List Te} (gs : List Fr) (us : List Te) (h : allErr fs ms ts = 0) (h1 : frsErr gs = 0) (h2 : us = [] ∨ us = ts) : allErr gs ms us = 0 := by
  unfold allErr at h ⊢
  rw [if_neg (by omega)]
  split at h
  · rename_i hn; exact absurd h hn
  split at h
  · rename_i hn; exact absurd h hn
  rename_i z2
  rw [if_neg z2]
  rcases h2 with rfl | rfl
  · rw [if_neg (by simp)]; rfl
  · exact h
theorem resNil {fs : List Fr} {ms : List Md} {ts : List Te} (h : allErr fs ms ts = 0) : resErr fs ms [] = 0 ∧ resTo fs ms [] fs.length = fs := by
  have hg := goodR_of h
  have ha := allErr_of fs [] h (goodR_frs h) (.inl rfl)
  have hr : resTo fs ms [] fs.length = fs := by rw [resTo_stay (fun f _ r => resO_notab) (Nat.le_refl _), List.take_length]
  exact ⟨resErr_ok ha (by rw [hr]; exact hg.nfs), hr⟩
theorem resBare {fs : List Fr} {ms : List Md} {ts : List Te} (h : allErr fs ms ts = 0) : resErr (fs.map bareF) ms ts = 0 ∧ resTo (fs.map bareF) ms ts (fs.map bareF).length = fs.map bareF := by
  have ha := allErr_of (fs.map bareF) ts h (frsErr_bare (goodR_frs h)) (.inr rfl)
  have hg := goodR_of ha
  have hr : resTo (fs.map bareF) ms ts (fs.map bareF).length = fs.map bareF := by
    rw [resTo_stay (fun f hf r => resO_noaddr hg (by obtain ⟨x, _, rfl⟩ := List.mem_map.1 hf; rfl)) (Nat.le_refl _), List.take_length]
  exact ⟨resErr_ok ha (by rw [hr]; exact hg.nfs), hr⟩
theorem missNone {fs : List Fr} {ms : List Md} {ts : List Te} : ∀ x ∈ ts, containsS (missTo fs ms ts fs.length) x.t.id = false := by
  intro x hx
  rw [Bool.eq_false_iff, Ne, containsS_iff]
  intro hin
  exact tab_lone (missTo_lone _ hin) x hx rfl
theorem slF_own {w : World} {base : Nat} {v : Value} {l : List Fr} (h : w.ownsRow base 35 6 v l.length (cellsG encFr l)) (hf : ∀ x ∈ l, x.fit) : SlF w v l := slF_of_owns (e := 35) (l := l) h hf
theorem tbs_nil (w : World) : TbsV w (.slice none 0 0) [] := ⟨SlG.nil w, by simp⟩
theorem cellsFr_bare (l : List Fr) (x : Fr) : cellsG encFr (l.map bareF ++ [x].map bareF) = cellsG encFr (l.map bareF) ++ [.string x.m, .string x.f, .string x.i, .int .i64 x.line, .int .i64 (-1), .bool x.own] := by rw [cellsG_append]; rfl

set_option maxHeartbeats 2000000 in
set_option maxRecDepth 100000 in
theorem resolvedLaw_bad (vf vm vt : Value) (fs : List Fr) (ms : List Md) (ts : List Te) (w : World) (hf : SlF w vf fs) (hm : SlG encM 4 fitM w vm ms) (ht : TbsV w vt ts) (h : resErr fs ms ts ≠ 0) :
    Calls Tryd.prog 6 #[vf, vm, vt] w fun e w' => e = .returned (.bool true) ∧ Below w.heap.size w w' := by
  have HAW := Lib.hid (fun W => awake_any W)
  have H8 := Lib.hid (fun (W : World) (hW : Below w.heap.size w W) => resolve_err vf vm vt fs ms ts W (hf.below (Nat.le_refl _) hW) (hm.below (Nat.le_refl _) hW) (ht.below (Nat.le_refl _) hW) h)
  have hq : (resErr fs ms ts != 0) = true := by simpa using h
  clear h hf hm ht
  generalize resErr fs ms ts = E at *
  go_enter Tryd.func6, Tryd.ntmps6
  go_wp2_with (first
    | (go_at_call 14; with_reducible refine (HAW.out _).mono ?_; rintro e w1 ⟨rfl, hb1⟩)
    | (go_at_call 8; with_reducible refine (H8.out _ hb1).mono ?_; rintro e w2 ⟨rfl, hb2⟩; have hbw2 := below_call hb1 hb1.size hb2))
  go_ret
  exact ⟨rfl, hbw2⟩

set_option maxHeartbeats 8000000 in
set_option maxRecDepth 100000 in
theorem resolvedLaw_fine (vf vm vt : Value) (fs : List Fr) (ms : List Md) (ts : List Te) (w : World) (hf : SlF w vf fs) (hm : SlG encM 4 fitM w vm ms) (ht : TbsV w vt ts) (h : resErr fs ms ts = 0) :
    Calls Tryd.prog 6 #[vf, vm, vt] w fun e w' => e = .returned (.bool true) ∧ Below w.heap.size w w' := by
  obtain ⟨i0, hi0, hz0, hz1, hz2⟩ := info_parts Tryd.info35
  have hz5 : (Value.agg #[.string ⟨#[]⟩, .string ⟨#[]⟩, .string ⟨#[]⟩, .int .i64 0, .int .i64 0, .bool false]).cells.size = 6 := rfl
  have ha := (resErr_zero h).1
  have hlen := (resTo_len (goodR_of ha) (Nat.le_refl fs.length)).1
  have hn2 := (goodR_of ha).nfs
  have HAW := Lib.hid (fun W => awake_any W)
  have H8 := Lib.hid (fun (W : World) (hW : Below w.heap.size w W) => resolve_fine vf vm vt fs ms ts W (hf.below (Nat.le_refl _) hW) (hm.below (Nat.le_refl _) hW) (ht.below (Nat.le_refl _) hW) h)
  have H8n := Lib.hid (fun (W : World) (hW : Below w.heap.size w W) => resolve_fine vf vm (.slice none 0 0) fs ms [] W (hf.below (Nat.le_refl _) hW) (hm.below (Nat.le_refl _) hW) (tbs_nil W) (resNil ha).1)
  rw [(resNil ha).2] at H8n
  have H8b := Lib.hid (fun (vb : Value) (W : World) (hW : Below w.heap.size w W) (hb : SlF W vb (fs.map bareF)) => resolve_fine vb vm vt (fs.map bareF) ms ts W hb (hm.below (Nat.le_refl _) hW) (ht.below (Nat.le_refl _) hW) (resBare ha).1)
  rw [(resBare ha).2] at H8b
  have H9 := Lib.hid (fun (W : World) (hW : Below w.heap.size w W) => missing_fine vf vm vt fs ms ts W (hf.below (Nat.le_refl _) hW) (hm.below (Nat.le_refl _) hW) (ht.below (Nat.le_refl _) hW) ha)
  have H20 := Lib.hid (fun (po base : Nat) (v : Value) (W : World) (hW : Below w.heap.size w W) ho hown => contains20_no vt po base v (missTo fs ms ts fs.length) ts W (ht.below (Nat.le_refl _) hW) ho hown missNone)
  have HFS := Lib.hid (fun (W : World) (hW : Below w.heap.size w W) => hf.below (Nat.le_refl _) hW)
  have HE1 := Lib.hid (fun (v1 : Value) (W : World) (h1 : SlF W v1 fs) (h2 : SlF W vf fs) => equal_any v1 vf fs fs W h1 h2)
  rw [show decide (fs = fs) = true from decide_eq_true rfl] at HE1
  have HE2 := Lib.hid (fun (v1 v2 : Value) (W : World) (h1 : SlF W v1 (fs.map bareF)) (h2 : SlF W v2 (fs.map bareF)) => equal_any v1 v2 _ _ W h1 h2)
  rw [show decide (fs.map bareF = fs.map bareF) = true from decide_eq_true rfl] at HE2
  clear ha h
  generalize resTo fs ms ts fs.length = L at *
  generalize missTo fs ms ts fs.length = mi at *
  obtain ⟨p, cap, rfl, -, hcm, hfit, hoff⟩ := hf
  have HFIT := Lib.hid hfit
  have HFITB := Lib.hid (show ∀ x ∈ fs.map bareF, x.fit from fun x hx => by obtain ⟨y, hy, rfl⟩ := List.mem_map.1 hx; exact hfit y hy)
  have HOFF := Lib.hid hoff
  have hd : decide (L.length < fs.length) = false := decide_eq_false (by omega)
  have hd2 : decide ((L.length : Int) < (fs.length : Int)) = false := decide_eq_false (by omega)
  clear hoff hfit hm ht
  obtain ⟨n, hn⟩ : ∃ n, n = fs.length := ⟨_, rfl⟩
  have HN := Lib.hid hn
  rw [← hn] at hlen hn2 hd hd2 H8 H8n H9 HE1 HFS ⊢
  clear hn
  go_enter Tryd.func6, Tryd.ntmps6
  go_wp2_with (first
    | (go_at_call 14; with_reducible refine (HAW.out _).mono ?_; rintro e w1 ⟨rfl, hb1⟩)
    | (go_at_call 8; with_reducible refine (H8.out _ hb1).mono ?_; rintro e w2 ⟨u2, rfl, hb2, hown2⟩; obtain ⟨p2, c2, rfl⟩ := own_len hown2; have hbw2 := below_call hb1 hb1.size hb2)
    | (go_at_call 8; with_reducible refine (H8n.out _ hbw2).mono ?_; rintro e w3 ⟨u3, rfl, hb3, hown3⟩; have hbw3 := below_call hbw2 hbw2.size hb3; rw [HN.out] at hown3; have hs3 := slF_own hown3 HFIT.out)
    | (go_at_call 19; with_reducible refine (HE1.out _ _ hs3 (HFS.out _ hbw3)).mono ?_; rintro e w4 ⟨rfl, hb4⟩; have hbw4 := below_call hbw3 hbw3.size hb4))
  go_loopw [10, 49] (fun v10 v wr => ∃ (k : Nat) (va : Value), va = v10 ∧ k ≤ n ∧ v = .int .i64 k ∧ wr.ownsRow w.heap.size 35 6 va k (cellsG encFr ((fs.take k).map bareF)) ∧ Below w.heap.size w wr) (fun _ v _ => n - (RowKit.intOf v).toNat)
  case atStart => exact ⟨0, _, rfl, Nat.zero_le _, rfl, ⟨rfl, .inl ⟨rfl, rfl⟩⟩, hbw4⟩
  case round =>
    obtain ⟨k, va, rfl, hk, rfl, hown, hbw⟩ := hrel
    by_cases hlt : k < n
    · have hkl : k < fs.length := by have := HN.out; omega
      rcases HOFF.out with h0 | ⟨b, off, hp, hb, hc⟩
      · rw [h0] at hkl; simp at hkl
      subst hp
      have HTK := Lib.hid (List.take_succ_eq_append_getElem hkl)
      obtain ⟨q0, q1, q2, q3, q4, q5⟩ := (hc k hkl).below hb hbw
      generalize fs[k] = x at *
      obtain ⟨xm, xf, xi, xl, xa, xo⟩ := x
      simp only at q0 q1 q2 q3 q4 q5
      clear hc
      have hA := hbw.alloc hbw.size (.cells #[.string xm, .string xf, .string xi, .int .i64 xl, .int .i64 (-1), .bool xo] 35)
      have hAA := hA.alloc hA.size (.cells #[.string xm, .string xf, .string xi, .int .i64 xl, .int .i64 (-1), .bool xo] 35)
      have hownA := (hown.alloc (.cells #[.string xm, .string xf, .string xi, .int .i64 xl, .int .i64 (-1), .bool xo] 35)).alloc (.cells #[.string xm, .string xf, .string xi, .int .i64 xl, .int .i64 (-1), .bool xo] 35)
      have hsrc := cells6_new (wr.alloc (.cells #[.string xm, .string xf, .string xi, .int .i64 xl, .int .i64 (-1), .bool xo] 35)) ⟨xm, xf, xi, xl, -1, xo⟩ 35
      have hone := cells6_one ⟨xm, xf, xi, xl, -1, xo⟩
      simp only at hsrc hone
      rw [show (wr.alloc (.cells #[.string xm, .string xf, .string xi, .int .i64 xl, .int .i64 (-1), .bool xo] 35)).heap.size = wr.heap.size + 1 by simp] at hsrc
      have hge := fun h k => own_lt (k := h) hown k
      have r1 : k + 1 ≤ maxLen := by unfold maxLen; omega
      have r2 : (k + 1) * 72 ≤ 140737488355328 := by omega
      have r3 := hAA.size
      go_wp2_with (at_builtin; (refine wpList_append_own _ rfl _ _ 22 rfl w.heap.size 35 i0 _ 6 72 Tryd.underlying22 hi0 hz0 hz1 hz2 hz5 (by decide) va k _ rfl hownA ⟨wr.heap.size + 1, 0, none⟩ 1 1 [.string xm, .string xf, .string xi, .int .i64 xl, .int .i64 (-1), .bool xo] rfl rfl hsrc hone r1 r2 r3 ?_; intro v6 w6 hown6 hgr6 _))
      exact ⟨⟨k + 1, v6, rfl, by omega, by go_num, by rw [HTK.out, List.map_append, cellsFr_bare]; exact hown6, below_grown hAA hgr6 (fun h k => (hge h k).1) hAA.size⟩, by simp [RowKit.intOf]; omega⟩
    · obtain rfl : k = n := by omega
      have hlb : (fs.map bareF).length = k := by rw [List.length_map]; exact HN.out.symm
      rw [List.take_of_length_le (Nat.le_of_eq HN.out.symm)] at hown
      obtain ⟨pv, cv, rfl⟩ := own_len hown
      have hsb : SlF wr (.slice pv k cv) (fs.map bareF) := slF_own (by rw [hlb]; exact hown) HFITB.out
      clear hlb
      go_wp2_with (first
        | (go_at_call 8; with_reducible refine (H8b.out _ _ hbw hsb).mono ?_; rintro e w5 ⟨u5, rfl, hb5, hown5⟩; have hbw5 := below_call hbw hbw.size hb5; have hs5 := slF_own hown5 HFITB.out; have hsb5 := hsb.below (Nat.le_refl _) hb5)
        | (go_at_call 19; with_reducible refine (HE2.out _ _ _ hs5 hsb5).mono ?_; rintro e w6 ⟨rfl, hb6⟩; have hbw6 := below_call hbw5 hbw5.size hb6)
        | (go_at_call 9; (with_reducible refine (H9.out _ hbw6).mono ?_); rintro e w7 ⟨u7, rfl, hb7, hown7⟩; obtain ⟨p7, c7, rfl⟩ := own_len hown7; have hbw7 := below_call hbw6 hbw6.size hb7; have hA7 := hbw7.alloc hbw7.size (.cells #[.slice p7 mi.length c7] 29); have ho7 : (w7.alloc (.cells #[.slice p7 mi.length c7] 29)).cell? ⟨w7.heap.size, 0, none⟩ = some (.slice p7 mi.length c7) := (by go_simp); have hown7A := hown7.alloc (.cells #[.slice p7 mi.length c7] 29))
        | (go_at_call 20; (with_reducible refine (H20.out _ _ _ _ hA7 ho7 hown7A).mono ?_); rintro e w8 ⟨rfl, hb8⟩; have hbw8 := below_call hA7 hA7.size hb8))
      go_ret
      exact ⟨rfl, hbw8⟩

theorem resolvedLaw_any (vf vm vt : Value) (fs : List Fr) (ms : List Md) (ts : List Te) (w : World) (hf : SlF w vf fs) (hm : SlG encM 4 fitM w vm ms) (ht : TbsV w vt ts) :
    Calls Tryd.prog 6 #[vf, vm, vt] w fun e w' => e = .returned (.bool true) ∧ Below w.heap.size w w' := by
  by_cases h : resErr fs ms ts = 0
  · exact resolvedLaw_fine vf vm vt fs ms ts w hf hm ht h
  · exact resolvedLaw_bad vf vm vt fs ms ts w hf hm ht h
end Go.Proofs.YtcdaalnjanncmaaDoor

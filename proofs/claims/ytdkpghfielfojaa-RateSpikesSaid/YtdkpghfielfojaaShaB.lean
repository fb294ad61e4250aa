/- What the check of shares answers. -/
import Derived.Test.YtdkpghfielfojaaShaA
import Derived.Maps.Own
import Derived.Maps.Views
import Derived.Deep.CutRange
import Derived.BigQuiet
namespace Go.Proofs.Ytdkpghfielfojaa
open Go.RowKit Go.Lib Go.WideMaps Go.Maps

/-- A block of one cell. -/
def Bx1 (w : World) (B : Nat) (v : Value) : Prop := w.cell? ⟨B, 0, none⟩ = some v
theorem Bx1.below {w w' : World} {B : Nat} {v : Value} (h : Bx1 w B v) (hb : Below w.heap.size w w') : Bx1 w' B v := cell_keep h hb
theorem Bx1.lt {w : World} {B : Nat} {v : Value} (h : Bx1 w B v) : B < w.heap.size := World.block_lt_of_cell? _ _ h

set_option maxHeartbeats 1000000 in
set_option maxRecDepth 100000 in
theorem at_any (B : Nat) (v : Value) (l : List Sh) (k : Nat) (w : World) (hB : Bx1 w B v) (hv : ShV w v l) (hk : k < l.length) :
    Calls Try.prog 21 #[.int .i64 k, .pointer (some ⟨B, 0, none⟩)] w fun e w' => e = .returned (.tuple #[.string l[k].key, .int .i64 l[k].came]) ∧ Below w.heap.size w w' := by
  obtain ⟨p, cap, rfl, h1, h2, h3, h4⟩ := hv
  rcases h4 with rfl | ⟨b, off, rfl, hb, hat⟩
  · simp at hk
  obtain ⟨c0, c1⟩ := hat k hk
  generalize l[k] = x at *
  obtain ⟨x0, x1⟩ := x
  simp only at c0 c1 ⊢
  unfold Bx1 at hB
  have hlt : (k : Int) < (l.length : Int) := by omega
  clear hat h3
  go_enter Try.func21, Try.ntmps21
  go_wp2_with fail
  go_quiet (fail)
  go_wp2_with fail
  go_ret2
  exact ⟨rfl, below_drewE (Below.refl _ _) _⟩

/-- The error of a list of amounts. -/
def amtErr (most : Int) : List Sh → List (List UInt8) → Int
  | [], _ => 0
  | x :: l, seen => if keyErr x.key ≠ 0 then keyErr x.key else if x.key.data.toList ∈ seen then 6 else if wi x.came 0 most = true then amtErr most l (x.key.data.toList :: seen) else 2
def amtsErr (most : Int) (l : List Sh) : Int := if 200 < l.length then 4 else amtErr most l []

/-- The datum of a map of names tells who was seen. -/
def Knows (D : DataW Unit) (seen : List (List UInt8)) : Prop := IsMap D ∧ ∀ s : List UInt8, D.atKey (.string s) (.lit (.bool false)) = .lit (.bool (decide (s ∈ seen)))
theorem knows_nil : Knows (.map []) [] := ⟨isMap_empty, fun s => by simp [DataW.atKey]⟩
theorem Knows.put {D : DataW Unit} {seen : List (List UInt8)} (h : Knows D seen) (x : List UInt8) : Knows (D.put (.string x) (.lit (.bool true))) (x :: seen) := by
  refine ⟨h.1.put _ _, fun s => ?_⟩
  by_cases e : s = x
  · subst e
    rw [atKey_put_same h.1 (by trivial)]; simp
  · rw [atKey_put_other (by intro k; injection k with k; exact e k), h.2]
    simp [e]
theorem grownBy_of_below {w w' : World} (h : Below w.heap.size w w') (row : Option Nat) : w.grownBy w' row := ⟨h.os, h.tape, h.output, h.size, fun k hk _ => h.block k hk⟩
theorem lookup_bool {P : Program} {k t e : TypeId} {w : World} {b n : Nat} {D : DataW Unit} (h : w.ownsMap P k (plainElem P e) b n D) (K : Keyed P k) (ht : P.underlying t = some (.map k e)) (he : P.underlying e = some .bool) (hz : (zeroValue e).run P w = .ok (.bool false) w)
    {key : Value} {kl : Lit} (hkey : keyOf P k key = some kl) : ∃ c, (Instr.lookup t (.map (some b)) key false).run P w = .ok (.bool c) w ∧ D.atKey kl (.lit (.bool false)) = .lit (.bool c) := by
  obtain ⟨v, ps, hrun, hv⟩ := h.lookup K ht hz (plainElem_bool he false) hkey
  unfold plainElem at hv
  rw [he] at hv
  split at hv
  · simp only [Option.some.injEq, Prod.mk.injEq] at hv
    exact ⟨_, hrun, hv.1.symm⟩
  · rename_i hh; cases hh
  · rename_i hh; cases hh
  · cases hv

set_option maxHeartbeats 4000000 in
set_option maxRecDepth 100000 in
theorem amounts_any (B : Nat) (v : Value) (l : List Sh) (w : World) (hB : Bx1 w B v) (hv : ShV w v l) :
    Calls Try.prog 20 #[.int .i64 l.length, .int .i64 1000000000, .func (.func 21) #[] #[.pointer (some ⟨B, 0, none⟩)]] w fun e w' => e = .returned (.int .i64 (amtsErr 1000000000 l)) ∧ Below w.heap.size w w' := by
  have hmm := @run_makeMap Try.prog
  unfold amtsErr
  by_cases hs : 200 < l.length
  · rw [if_pos hs]
    have hs' : (200 : Int) < (l.length : Int) := by omega
    clear hs
    go_enter Try.func20, Try.ntmps20
    go_wp2_with fail
    go_ret
    exact ⟨rfl, Below.refl _ _⟩
  rw [if_neg hs]
  have hs' : ¬ (200 : Int) < (l.length : Int) := by omega
  have HAT := Lib.hid (fun (k : Nat) (W : World) (hW : Below w.heap.size w W) (hk : k < l.length) => at_any B v l k W (hB.below hW) (hv.below hW) hk)
  have HCK := Lib.hid (fun (s : ByteArray) (W : World) => checkKey_any s W)
  have HW := Lib.hid (fun (n : Int) (W : World) => within_any n 0 1000000000 W)
  have hfit : ∀ x ∈ l, x.key.size ≤ 9223372036854775807 := by obtain ⟨_, _, _, _, _, h3, _⟩ := hv; exact h3
  have HFIT := Lib.hid hfit
  obtain ⟨E, hE⟩ : ∃ E, E = amtErr 1000000000 l [] := ⟨_, rfl⟩
  rw [← hE]
  have HE := Lib.hid hE
  obtain ⟨n, hn⟩ : ∃ n, n = l.length := ⟨_, rfl⟩
  have HN := Lib.hid hn
  rw [← hn] at hs' hs ⊢
  clear hE hn hfit hB hv
  go_enter Try.func20, Try.ntmps20
  go_wp2_with fail
  go_loopw [16] (fun v16 wr => ∃ (k : Nat) (D : DataW Unit) (seen : List (List UInt8)), k ≤ n ∧ v16 = .int .i64 k ∧ wr.ownsMap Try.prog 9 (plainElem Try.prog 4) w.heap.size k D ∧ Hid (Knows D seen ∧ E = amtErr 1000000000 (l.drop k) seen) ∧ Below w.heap.size w wr) (fun v16 _ => n - (RowKit.intOf v16).toNat)
  case atStart => exact ⟨0, _, [], Nat.zero_le _, rfl, World.ownsMap_made _ _ _ _, Lib.hid ⟨knows_nil, HE.out⟩, (Below.refl _ _).alloc (Nat.le_refl _) _⟩
  case round =>
    obtain ⟨k, D, seen, hk, rfl, hown, HH, hbw⟩ := hrel
    by_cases hlt : k < n
    · have hkl : k < l.length := by have := HN.out; omega
      have HX := Lib.hid (show E = amtErr 1000000000 (l[k] :: l.drop (k + 1)) seen by rw [HH.out.2, List.drop_eq_getElem_cons hkl])
      have hsz : l[k].key.size ≤ maxLen := by unfold maxLen; exact HFIT.out _ (List.getElem_mem hkl)
      have hkey : keyOf Try.prog 9 (.string l[k].key) = some (.string l[k].key.data.toList) := keyOf_string_mk Try.underlying9 hsz
      have G21 := Lib.hid (fun W hW => HAT.out k W hW hkl)
      obtain ⟨x0, hx0⟩ : ∃ x0, x0 = l[k].key := ⟨_, rfl⟩
      obtain ⟨x1, hx1⟩ : ∃ x1, x1 = l[k].came := ⟨_, rfl⟩
      have hxe : l[k] = ⟨x0, x1⟩ := by rw [hx0, hx1]
      rw [hxe] at HX
      rw [← hx0] at hkey
      rw [← hx0, ← hx1] at G21
      clear hx0 hx1 hxe hsz hkl
      have HL := Lib.hid (fun (W : World) (h : W.ownsMap Try.prog 9 (plainElem Try.prog 4) w.heap.size k D) => lookup_bool h (string_keyed Try.underlying9) Try.underlying73 Try.underlying4 (by kernel_rfl) hkey)
      by_cases hke : keyErr x0 = 0
      · have G38 := Lib.hid (fun W => HCK.out x0 W)
        rw [hke] at G38
        obtain ⟨s, hs1⟩ : ∃ s : Bool, s = decide (x0.data.toList ∈ seen) := ⟨_, rfl⟩
        have HC := Lib.hid (fun (W : World) (h : W.ownsMap Try.prog 9 (plainElem Try.prog 4) w.heap.size k D) => (show (Instr.lookup 73 (.map (some w.heap.size)) (.string x0) false).run Try.prog W = .ok (.bool s) W by
          obtain ⟨c, h1, h2⟩ := HL.out W h
          rw [HH.out.1.2] at h2
          have : decide (x0.data.toList ∈ seen) = c := by injection h2 with h2; injection h2
          rw [h1, hs1, this]))
        cases s
        · have hns : ¬ x0.data.toList ∈ seen := fun k => by rw [decide_eq_true k] at hs1; cases hs1
          cases hwi : wi x1 0 1000000000
          · have HR := Lib.hid (show E = 2 by rw [HX.out, amtErr, if_neg (by simpa using hke), if_neg hns, if_neg (by simp [hwi])])
            have G22 := Lib.hid (fun W => HW.out x1 W)
            rw [hwi] at G22
            clear hke hns hs1 hwi
            go_wp2_with (first
              | (go_at_call 21; (with_reducible refine (G21.out _ hbw).mono ?_); rintro e w2 ⟨rfl, hb2⟩; have hbw2 := below_call hbw hbw.size hb2; have hown2 := hown.kept (grownBy_of_below hb2 none) (by simp))
              | (go_at_call 38; (with_reducible refine (G38.out _).mono ?_); rintro e w3 ⟨rfl, rfl⟩; have hrun := HC.out _ hown2)
              | (go_at_call 22; (with_reducible refine (G22.out _).mono ?_); rintro e w4 ⟨rfl, rfl⟩))
            go_ret
            exact ⟨by rw [HR.out]; rfl, hbw2⟩
          · have HR := Lib.hid (show E = amtErr 1000000000 (l.drop (k + 1)) (x0.data.toList :: seen) by rw [HX.out, amtErr, if_neg (by simpa using hke), if_neg hns, if_pos hwi])
            have G22 := Lib.hid (fun W => HW.out x1 W)
            rw [hwi] at G22
            clear hke hns hs1 hwi
            go_wp2_with (first
              | (go_at_call 21; (with_reducible refine (G21.out _ hbw).mono ?_); rintro e w2 ⟨rfl, hb2⟩; have hbw2 := below_call hbw hbw.size hb2; have hown2 := hown.kept (grownBy_of_below hb2 none) (by simp))
              | (go_at_call 38; (with_reducible refine (G38.out _).mono ?_); rintro e w3 ⟨rfl, rfl⟩; have hrun := HC.out _ hown2)
              | (go_at_call 22; (with_reducible refine (G22.out _).mono ?_); rintro e w4 ⟨rfl, rfl⟩)
              | (at_mapUpdate; refine wpList_mapUpdate_own _ rfl _ _ _ 73 rfl 9 4 (string_keyed Try.underlying9) Try.underlying73 _ w.heap.size k _ rfl hown2 (by unfold maxLen; omega) _ _ _ rfl rfl hkey _ [] (plainElem_bool Try.underlying4 true) ?_; intro w5 hown5 hgr5; have hbw5 := hbw2.grown hgr5 hbw2.size (fun j hj => by cases hj; exact Nat.le_refl _)))
            exact ⟨⟨k + 1, _, _, by omega, by go_num, hown5, Lib.hid ⟨HH.out.1.put x0.data.toList, HR.out⟩, hbw5⟩, by simp [RowKit.intOf]; omega⟩
        · have hys : x0.data.toList ∈ seen := of_decide_eq_true hs1.symm
          have HR := Lib.hid (show E = 6 by rw [HX.out, amtErr, if_neg (by simpa using hke), if_pos hys])
          clear hke hs1 hys
          go_wp2_with (first
            | (go_at_call 21; (with_reducible refine (G21.out _ hbw).mono ?_); rintro e w2 ⟨rfl, hb2⟩; have hbw2 := below_call hbw hbw.size hb2; have hown2 := hown.kept (grownBy_of_below hb2 none) (by simp))
            | (go_at_call 38; (with_reducible refine (G38.out _).mono ?_); rintro e w3 ⟨rfl, rfl⟩; have hrun := HC.out _ hown2))
          go_ret
          exact ⟨by rw [HR.out]; rfl, hbw2⟩
      · have G38 := Lib.hid (fun W => HCK.out x0 W)
        have HR := Lib.hid (show E = keyErr x0 by rw [HX.out, amtErr, if_pos hke])
        have hq : (keyErr x0 != 0) = true := by simpa using hke
        generalize keyErr x0 = g at *
        clear hke
        go_wp2_with (first
          | (go_at_call 21; (with_reducible refine (G21.out _ hbw).mono ?_); rintro e w2 ⟨rfl, hb2⟩; have hbw2 := below_call hbw hbw.size hb2; have hown2 := hown.kept (grownBy_of_below hb2 none) (by simp))
          | (go_at_call 38; (with_reducible refine (G38.out _).mono ?_); rintro e w3 ⟨rfl, rfl⟩))
        go_ret
        exact ⟨by rw [HR.out]; rfl, hbw2⟩
    · have HR := Lib.hid (show E = 0 by rw [HH.out.2, List.drop_eq_nil_of_le (by have := HN.out; omega)]; rfl)
      go_wp2_with fail
      go_ret
      exact ⟨by rw [HR.out]; rfl, hbw⟩
end Go.Proofs.Ytdkpghfielfojaa

/- Comparing: of strings, of numbers, of parts. -/
import Derived.Test.YtnpnoohnkbpokaaDoorVerE
namespace Go.Proofs.YtnpnoohnkbpokaaDoor
open Go.RowKit Go.Lib

def cmpI (a b : Int) : Int := if a < b then -1 else if b < a then 1 else 0
def cmpS (a b : ByteArray) : Int := if Op.bytesLess a.toList b.toList = true then -1 else if (a.toList == b.toList) = true then 0 else 1

set_option maxHeartbeats 1000000 in
theorem nanS (s : ByteArray) (w : World) : Calls Tryd.prog 86 #[.string s] w fun e w' => e = .returned (.bool false) ∧ w' = w := by
  go_enter Tryd.func86, Tryd.ntmps86
  go_wp2_with fail
  go_ret
  exact ⟨by simp, rfl⟩
set_option maxHeartbeats 1000000 in
theorem nanI (s : Int) (w : World) : Calls Tryd.prog 87 #[.int .i64 s] w fun e w' => e = .returned (.bool false) ∧ w' = w := by
  go_enter Tryd.func87, Tryd.ntmps87
  go_wp2_with fail
  go_ret
  exact ⟨by simp, rfl⟩
set_option maxHeartbeats 1000000 in
theorem cmpI_any (a b : Int) (w : World) : Calls Tryd.prog 61 #[.int .i64 a, .int .i64 b] w fun e w' => e = .returned (.int .i64 (cmpI a b)) ∧ w' = w := by
  have HA := Lib.hid (fun W => nanI a W)
  have HB := Lib.hid (fun W => nanI b W)
  have HE := Lib.hid (show cmpI a b = if a < b then -1 else if b < a then 1 else 0 from rfl)
  rw [HE.out]
  go_enter Tryd.func61, Tryd.ntmps61
  go_wp2_with (first
    | (go_at_call 87; (with_reducible refine (HA.out _).mono ?_); rintro e w' ⟨rfl, rfl⟩)
    | (go_at_call 87; (with_reducible refine (HB.out _).mono ?_); rintro e w' ⟨rfl, rfl⟩))
  all_goals (go_ret; exact ⟨rfl, rfl⟩)
set_option maxHeartbeats 1000000 in
theorem cmpS_any (a b : ByteArray) (w : World) : Calls Tryd.prog 60 #[.string a, .string b] w fun e w' => e = .returned (.int .i64 (cmpS a b)) ∧ w' = w := by
  have HA := Lib.hid (fun W => nanS a W)
  have HB := Lib.hid (fun W => nanS b W)
  have HE := Lib.hid (show cmpS a b = if Op.bytesLess a.toList b.toList = true then -1 else if (a.toList == b.toList) = true then 0 else 1 from rfl)
  rw [HE.out]
  clear HE
  cases h1 : Op.bytesLess a.toList b.toList
  · cases h2 : (a.toList == b.toList)
    · have hg : ∀ W, Sem.run Tryd.prog (binOp BinOp.gtr 9 (Value.string a) (Value.string b)) W = .ok (.bool true) W := by
        intro W; simp [binOp, Op.stringOp, h1, h2]
      go_enter Tryd.func60, Tryd.ntmps60
      go_wp2_with (first
        | (go_at_call 86; (with_reducible refine (HA.out _).mono ?_); rintro e w' ⟨rfl, rfl⟩)
        | (go_at_call 86; (with_reducible refine (HB.out _).mono ?_); rintro e w' ⟨rfl, rfl⟩))
      go_ret
      exact ⟨rfl, rfl⟩
    · have hg : ∀ W, Sem.run Tryd.prog (binOp BinOp.gtr 9 (Value.string a) (Value.string b)) W = .ok (.bool false) W := by
        intro W; simp [binOp, Op.stringOp, h1, h2]
      go_enter Tryd.func60, Tryd.ntmps60
      go_wp2_with (first
        | (go_at_call 86; (with_reducible refine (HA.out _).mono ?_); rintro e w' ⟨rfl, rfl⟩)
        | (go_at_call 86; (with_reducible refine (HB.out _).mono ?_); rintro e w' ⟨rfl, rfl⟩))
      go_ret
      exact ⟨rfl, rfl⟩
  · rw [if_pos rfl]
    go_enter Tryd.func60, Tryd.ntmps60
    go_wp2_with (first
      | (go_at_call 86; (with_reducible refine (HA.out _).mono ?_); rintro e w' ⟨rfl, rfl⟩)
      | (go_at_call 86; (with_reducible refine (HB.out _).mono ?_); rintro e w' ⟨rfl, rfl⟩))
    go_ret
    exact ⟨rfl, rfl⟩

/-- How parts compare. -/
def cmpP (a b : ByteArray) : Int :=
  if pnOk a.data.toList = true ∧ pnOk b.data.toList = true then cmpI (pnV a.data.toList) (pnV b.data.toList)
  else if pnOk a.data.toList = true then -1 else if pnOk b.data.toList = true then 1 else cmpS a b

set_option maxHeartbeats 1000000 in
set_option maxRecDepth 100000 in
theorem compareParts_any (a b : ByteArray) (w : World) (ha : a.size ≤ 1048576) (hb : b.size ≤ 1048576) (he : Env w) :
    Calls Tryd.prog 63 #[.string a, .string b] w fun e w' => e = .returned (.int .i64 (cmpP a b)) ∧ Below w.heap.size w w' := by
  have HV := Lib.hid he
  have HA := Lib.hid (fun (W : World) (h : Env W) => partNumber_any a W ha h)
  have HB := Lib.hid (fun (W : World) (h : Env W) => partNumber_any b W hb h)
  have HI := Lib.hid (fun W => cmpI_any (pnV a.data.toList) (pnV b.data.toList) W)
  have HS := Lib.hid (fun W => cmpS_any a b W)
  have HE := Lib.hid (show cmpP a b = if pnOk a.data.toList = true ∧ pnOk b.data.toList = true then cmpI (pnV a.data.toList) (pnV b.data.toList) else if pnOk a.data.toList = true then -1 else if pnOk b.data.toList = true then 1 else cmpS a b from rfl)
  rw [HE.out]
  clear HE he ha hb
  generalize pnV a.data.toList = m at *
  generalize pnV b.data.toList = n at *
  generalize pnOk a.data.toList = o at *
  generalize pnOk b.data.toList = q at *
  generalize cmpS a b = c at *
  generalize cmpI m n = d at *
  cases o <;> cases q
  all_goals
    go_enter Tryd.func63, Tryd.ntmps63
    go_wp2_with (first
      | (go_at_call 88; (with_reducible refine (HA.out _ HV.out).mono ?_); rintro e w1 ⟨rfl, hb1⟩; have hV1 := HV.out.keep hb1)
      | (go_at_call 88; (with_reducible refine (HB.out _ hV1).mono ?_); rintro e w2 ⟨rfl, hb2⟩; have hbB := below_keep hb1 (Nat.le_refl _) hb2)
      | (go_at_call 61; (with_reducible refine (HI.out _).mono ?_); rintro e w3 ⟨rfl, rfl⟩)
      | (go_at_call 60; (with_reducible refine (HS.out _).mono ?_); rintro e w3 ⟨rfl, rfl⟩))
    go_ret
    exact ⟨by simp, hbB⟩

/-- How rows of parts compare. -/
def cmpL : List ByteArray → List ByteArray → Int
  | [], [] => 0
  | [], _ :: _ => -1
  | _ :: _, [] => 1
  | a :: r, b :: t => if cmpP a b ≠ 0 then cmpP a b else cmpL r t
theorem cmpL_drop {l m : List ByteArray} {k : Nat} (hl : k < l.length) (hm : k < m.length) : cmpL (l.drop k) (m.drop k) = if cmpP l[k] m[k] ≠ 0 then cmpP l[k] m[k] else cmpL (l.drop (k + 1)) (m.drop (k + 1)) := by
  rw [List.drop_eq_getElem_cons hl, List.drop_eq_getElem_cons hm]; rfl
theorem cmpL_right {l m : List ByteArray} {k : Nat} (hl : k < l.length) (hm : ¬ k < m.length) : cmpL (l.drop k) (m.drop k) = 1 := by
  rw [List.drop_eq_getElem_cons hl, show m.drop k = [] from List.drop_eq_nil_of_le (by omega)]; rfl
theorem cmpL_left {l m : List ByteArray} {k : Nat} (hl : ¬ k < l.length) (hm : k < m.length) : cmpL (l.drop k) (m.drop k) = -1 := by
  rw [List.drop_eq_getElem_cons hm, show l.drop k = [] from List.drop_eq_nil_of_le (by omega)]; rfl
theorem cmpL_both {l m : List ByteArray} {k : Nat} (hl : ¬ k < l.length) (hm : ¬ k < m.length) : cmpL (l.drop k) (m.drop k) = 0 := by
  rw [show l.drop k = [] from List.drop_eq_nil_of_le (by omega), show m.drop k = [] from List.drop_eq_nil_of_le (by omega)]; rfl

set_option maxHeartbeats 2000000 in
set_option maxRecDepth 100000 in
theorem compareF_any (v u : Value) (l m : List ByteArray) (w : World) (h1 : SlG encS 1 fitP w v l) (h2 : SlG encS 1 fitP w u m) (he : Env w) :
    Calls Tryd.prog 62 #[v, u, .func (.func 63) #[] #[]] w fun e w' => e = .returned (.int .i64 (cmpL l m)) ∧ Below w.heap.size w w' := by
  obtain ⟨p, cap, rfl, hl1, hl2, hf, h4⟩ := h1
  obtain ⟨q, cup, rfl, hm1, hm2, hg, h5⟩ := h2
  have HV := Lib.hid he
  unfold maxLen at hl2 hm2
  obtain ⟨R, hR⟩ : ∃ R, R = cmpL l m := ⟨_, rfl⟩
  rw [← hR]
  have HR := Lib.hid hR
  clear hR he
  go_enter Tryd.func62, Tryd.ntmps62
  go_wp2_with fail
  go_loopw [13] (fun v wr => ∃ k : Nat, v = .int .i64 k ∧ k ≤ l.length ∧ k ≤ m.length ∧ cmpL (l.drop k) (m.drop k) = R ∧ Below w.heap.size w wr) (fun v _ => l.length - (RowKit.intOf v).toNat)
  case atStart => exact ⟨0, rfl, Nat.zero_le _, Nat.zero_le _, HR.out.symm, Below.refl _ _⟩
  case round =>
    obtain ⟨k, rfl, hk, hkm, hno, hbw⟩ := hrel
    have HNO := Lib.hid hno
    clear hno
    by_cases hlt : k < l.length
    · by_cases hmt : k < m.length
      · rcases h4 with rfl | ⟨b, off, rfl, hb, hat⟩
        · simp at hlt
        rcases h5 with rfl | ⟨b', off', rfl, hb', hat'⟩
        · simp at hmt
        have c0 := (hbw.cell (p := ⟨b, _, none⟩) hb).trans (hat.str hlt)
        have d0 := (hbw.cell (p := ⟨b', _, none⟩) hb').trans (hat'.str hmt)
        have hx : l[k].size ≤ 1048576 := hf _ (List.getElem_mem hlt)
        have hy : m[k].size ≤ 1048576 := hg _ (List.getElem_mem hmt)
        have HC := Lib.hid (fun (W : World) (h : Env W) => compareParts_any l[k] m[k] W hx hy h)
        have HS := Lib.hid (cmpL_drop hlt hmt)
        generalize l[k] = x at *
        generalize m[k] = y at *
        have hVr := HV.out.keep hbw
        clear hf hg hat hat'
        by_cases hc : cmpP x y = 0
        · rw [hc] at HC HS
          have HS2 := Lib.hid (show cmpL (l.drop (k + 1)) (m.drop (k + 1)) = R by rw [← HNO.out, HS.out, if_neg (by decide)])
          clear hc
          go_wp2_with (go_at_call 63; (with_reducible refine (HC.out _ hVr).mono ?_); rintro e w1 ⟨rfl, hb1⟩)
          exact ⟨⟨k + 1, rfl, hlt, hmt, HS2.out, below_keep hbw (Nat.le_refl _) hb1⟩, by simp [RowKit.intOf]; omega⟩
        · have hq : (cmpP x y != 0) = true := by simpa using hc
          have HS2 := Lib.hid (show cmpP x y = R by rw [← HNO.out, HS.out, if_pos hc])
          clear hc
          generalize cmpP x y = z at *
          go_wp2_with (go_at_call 63; (with_reducible refine (HC.out _ hVr).mono ?_); rintro e w1 ⟨rfl, hb1⟩)
          go_ret
          exact ⟨ret_int HS2.out, below_keep hbw (Nat.le_refl _) hb1⟩
      · have HS2 := Lib.hid (show R = 1 by rw [← HNO.out, cmpL_right hlt hmt])
        rcases h4 with rfl | ⟨b, off, rfl, hb, hat⟩
        · simp at hlt
        have c0 := (hbw.cell (p := ⟨b, _, none⟩) hb).trans (hat.str hlt)
        generalize l[k] = x at *
        clear hf hg hat
        have hge : ((m.length : Int) ≤ (k : Int)) := by omega
        have hgd : decide ((m.length : Int) ≤ (k : Int)) = true := decide_eq_true hge
        have hgn : decide (m.length ≤ k) = true := decide_eq_true (by omega)
        go_wp2_with fail
        go_ret
        exact ⟨ret_int HS2.out.symm, hbw⟩
    · by_cases hmt : k < m.length
      · have HS2 := Lib.hid (show R = -1 by rw [← HNO.out, cmpL_left hlt hmt])
        have hd : decide ((l.length : Int) < (m.length : Int)) = true := decide_eq_true (by omega)
        have hdn : decide (l.length < m.length) = true := decide_eq_true (by omega)
        go_wp2_with fail
        go_ret
        exact ⟨ret_int HS2.out.symm, hbw⟩
      · have HS2 := Lib.hid (show R = 0 by rw [← HNO.out, cmpL_both hlt hmt])
        have hd : decide ((l.length : Int) < (m.length : Int)) = false := decide_eq_false (by omega)
        have hdn : decide (l.length < m.length) = false := decide_eq_false (by omega)
        go_wp2_with fail
        go_ret
        exact ⟨ret_int HS2.out.symm, hbw⟩
end Go.Proofs.YtnpnoohnkbpokaaDoor

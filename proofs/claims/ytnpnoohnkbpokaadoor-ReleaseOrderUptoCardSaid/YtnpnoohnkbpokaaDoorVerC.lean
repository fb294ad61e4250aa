/- Parts of Pre: what the program's checks of one, and of a row of them, answer. -/
import Derived.Test.YtnpnoohnkbpokaaDoorVerB
import Derived.Lib.AppendIntMem
namespace Go.Proofs.YtnpnoohnkbpokaaDoor
open Go.RowKit Go.Lib

theorem below_call {B : Nat} {a w w' : World} (h : Below B a w) (hB : B ≤ w.heap.size) (hk : Below w.heap.size w w') : Below B a w' := h.trans (hk.mono hB)
/-- What the texts need of the library's variables. -/
def Env (w : World) : Prop := (∃ m, w.cell? ⟨0, 0, none⟩ = some (.int .i64 m)) ∧ Lib.TabIs Tryd.prog w "internal/strconv.uint64pow10" .u64 Lib.pow10Tab ∧ ∃ tp p, w.cell? ⟨4, 0, none⟩ = some (.iface tp p)
theorem Env.keep {w w' : World} (h : Env w) (hb : Below w.heap.size w w') : Env w' := by
  obtain ⟨⟨m, hm⟩, ht, tp, p, hp⟩ := h
  exact ⟨⟨m, cell_keep hm hb⟩, Lib.tabBelow_of_tabIs ht _ hb, tp, p, cell_keep hp hb⟩

theorem atoi_empty (w : World) (he : Env w) :
    Calls Tryd.prog 102 #[.string ⟨#[]⟩] w fun e w' => (∃ N, e = .returned (.tuple #[.int .i64 0, .iface 148 (.pointer (some ⟨N, 0, none⟩))])) ∧ Below w.heap.size w w' := by
  obtain ⟨_, _, tp, p, hp⟩ := he
  refine (Tryd.strconv_Atoi_err ⟨#[]⟩ (by decide) rfl (.iface tp p) w hp (Or.inr ⟨tp, p, rfl⟩)).mono ?_
  rintro e w' ⟨N, rfl, _, _, hb⟩
  exact ⟨⟨N, rfl⟩, hb⟩

/-- The number that a part is, for comparing. -/
def pnOk (l : List UInt8) : Bool := decide (l ≠ []) && decide (l.length ≤ 6) && l.all dg
def pnV (l : List UInt8) : Int := if pnOk l then numV l else 0
theorem pnOk_eq (s : ByteArray) (h : 0 < s.size) : pnOk s.data.toList = (decide (s.size ≤ 6) && s.data.toList.all dg) := by
  unfold pnOk
  rw [decide_eq_true (ne_nil s h), Lib.size_eq, Bool.true_and]

set_option maxHeartbeats 1000000 in
set_option maxRecDepth 100000 in
theorem partNumber_any (s : ByteArray) (w : World) (hs : s.size ≤ 1048576) (he : Env w) :
    Calls Tryd.prog 88 #[.string s] w fun e w' => e = .returned (.tuple #[.int .i64 (pnV s.data.toList), .bool (pnOk s.data.toList)]) ∧ Below w.heap.size w w' := by
  unfold pnV
  by_cases h0 : s.size = 0
  · obtain rfl := nil_eq s h0
    have HE := Lib.hid (fun W => eachDig ⟨#[]⟩ W (by decide))
    rw [show ((⟨#[]⟩ : ByteArray).data.toList.all dg) = true from rfl] at HE
    have HA := Lib.hid (fun (W : World) (hE : Env W) => atoi_empty W hE)
    have HV := Lib.hid he
    rw [show pnOk (⟨#[]⟩ : ByteArray).data.toList = false from rfl]
    clear hs h0 he
    go_enter Tryd.func88, Tryd.ntmps88
    go_wp2_with (first
      | (go_at_call 69; refine (HE.out _).mono ?_; rintro e w' ⟨rfl, rfl⟩)
      | (go_at_call 102; refine (HA.out _ HV.out).mono ?_; rintro e w1 ⟨⟨N, rfl⟩, hb⟩))
    go_quiet (fail)
    go_wp2_with fail
    go_ret2
    exact ⟨rfl, below_drewE hb _⟩
  · have hpos : 0 < s.size := by omega
    clear h0
    rw [pnOk_eq s hpos]
    by_cases h1 : s.size ≤ 6
    · have hd : decide ((6 : Int) < (s.size : Int)) = false := by simp; omega
      have HE := Lib.hid (fun W => eachDig s W (by omega))
      rw [decide_eq_true h1, Bool.true_and]
      cases ha : s.data.toList.all dg
      · rw [ha] at HE
        clear ha h1 he hs
        go_enter Tryd.func88, Tryd.ntmps88
        go_wp2_with (go_at_call 69; refine (HE.out _).mono ?_; rintro e w' ⟨rfl, rfl⟩)
        go_ret2
        exact ⟨rfl, Below.refl _ _⟩
      · obtain ⟨n, hn⟩ := digs_atoi (ne_nil s hpos) ha
        have HA := Lib.hid (fun W => atoi_any s n (by omega) hn W)
        rw [if_pos rfl, show numV s.data.toList = n by unfold numV; rw [hn]; rfl]
        rw [ha] at HE
        clear ha h1 hn he hs
        go_enter Tryd.func88, Tryd.ntmps88
        go_wp2_with (first
          | (go_at_call 69; refine (HE.out _).mono ?_; rintro e w' ⟨rfl, rfl⟩)
          | (go_at_call 102; refine (HA.out _).mono ?_; rintro e w1 ⟨rfl, hb⟩))
        go_quiet (fail)
        go_wp2_with fail
        go_ret2
        exact ⟨rfl, below_drewE hb _⟩
    · have hd : decide ((6 : Int) < (s.size : Int)) = true := by simp; omega
      rw [decide_eq_false h1, Bool.false_and]
      clear h1 he
      go_enter Tryd.func88, Tryd.ntmps88
      go_wp2_with fail
      go_ret2
      exact ⟨rfl, Below.refl _ _⟩

set_option maxHeartbeats 1000000 in
set_option maxRecDepth 100000 in
theorem isNoPart_any (s : ByteArray) (w : World) (hs : s.size ≤ 1048576) :
    Calls Tryd.prog 56 #[.string s] w fun e w' => e = .returned (.bool (!partB s.data.toList)) ∧ Below w.heap.size w w' := by
  have HD := Lib.hid (fun W => eachDig s W (by omega))
  have HP := Lib.hid (fun W => eachPart s W (by omega))
  have HR := Lib.hid (fun W => readNumber_any s 6 W (by omega) (by omega))
  unfold partB
  generalize rdNum 6 s.data.toList = n at *
  generalize numOk 6 s.data.toList = b at *
  generalize s.data.toList.all al = c at *
  cases hd : s.data.toList.all dg
  · rw [hd] at HD
    clear hd HR
    cases c
    all_goals
      go_enter Tryd.func56, Tryd.ntmps56
      go_wp2_with (first
        | (go_at_call 69; (with_reducible refine (HD.out _).mono ?_); rintro e w' ⟨rfl, rfl⟩)
        | (go_at_call 69; (with_reducible refine (HP.out _).mono ?_); rintro e w' ⟨rfl, rfl⟩))
      go_ret
      exact ⟨rfl, Below.refl _ _⟩
  · rw [hd] at HD
    clear hd HP
    cases b
    all_goals
      go_enter Tryd.func56, Tryd.ntmps56
      go_wp2_with (first
        | (go_at_call 69; (with_reducible refine (HD.out _).mono ?_); rintro e w' ⟨rfl, rfl⟩)
        | (go_at_call 80; refine (HR.out _).mono ?_; rintro e w1 ⟨rfl, hb⟩))
      go_ret
      exact ⟨rfl, hb⟩

/-- A string that may be a part. -/
def fitP (s : ByteArray) : Prop := s.size ≤ 1048576
/-- Whether one of them is no part. -/
def anyBad (l : List ByteArray) : Bool := l.any fun s => !partB s.data.toList

/-- How IndexFunc ends: a place, or none. -/
def idxOf (l : List ByteArray) (e : Ending) : Prop := ∃ n : Int, e = .returned (.int .i64 n) ∧ decide (0 ≤ n) = anyBad l

set_option maxHeartbeats 2000000 in
set_option maxRecDepth 100000 in
theorem indexF16 (v : Value) (l : List ByteArray) (w : World) (h : SlG encS 1 fitP w v l) :
    Calls Tryd.prog 78 #[v, .func (.func 56) #[] #[]] w fun e w' => idxOf l e ∧ Below w.heap.size w w' := by
  obtain ⟨p, cap, rfl, h1, h2, hf, h4⟩ := h
  unfold maxLen at h2
  go_enter Tryd.func78, Tryd.ntmps78
  go_wp2_with fail
  go_loopw [8] (fun v wr => ∃ k : Nat, v = .int .i64 k ∧ k ≤ l.length ∧ anyBad (l.take k) = false ∧ Below w.heap.size w wr) (fun v _ => l.length - (RowKit.intOf v).toNat)
  case atStart => exact ⟨0, rfl, Nat.zero_le _, rfl, Below.refl _ _⟩
  case round =>
    obtain ⟨k, rfl, hk, hno, hbw⟩ := hrel
    have HNO := Lib.hid hno
    clear hno
    by_cases hlt : k < l.length
    · rcases h4 with rfl | ⟨b, off, rfl, hb, hat⟩
      · simp at hlt
      have c0 := (hbw.cell (p := ⟨b, _, none⟩) hb).trans (hat.str hlt)
      have hx : l[k].size ≤ 1048576 := hf _ (List.getElem_mem hlt)
      have HC := Lib.hid (fun W => isNoPart_any l[k] W hx)
      have HT := Lib.hid (show anyBad (l.take (k + 1)) = !partB l[k].data.toList by
        rw [List.take_succ_eq_append_getElem hlt]
        unfold anyBad
        rw [List.any_append]
        have := HNO.out
        unfold anyBad at this
        rw [this]; simp)
      have HS := Lib.hid (show partB l[k].data.toList = false → anyBad l = true by
        intro hp
        unfold anyBad
        rw [List.any_eq_true]
        exact ⟨l[k], List.getElem_mem hlt, by rw [hp]; rfl⟩)
      generalize l[k] = x at *
      cases hp : partB x.data.toList
      · have HS2 := Lib.hid (HS.out hp)
        rw [hp] at HC
        clear hp HS HT hf hat
        go_wp2_with (go_at_call 56; refine (HC.out _).mono ?_; rintro e w1 ⟨rfl, hb1⟩)
        go_ret
        exact ⟨⟨k, rfl, by rw [HS2.out]; simp⟩, below_call hbw hbw.size hb1⟩
      · rw [hp] at HC HT
        clear hp HS hf hat
        go_wp2_with (go_at_call 56; refine (HC.out _).mono ?_; rintro e w1 ⟨rfl, hb1⟩)
        exact ⟨⟨k + 1, rfl, hlt, HT.out, below_call hbw hbw.size hb1⟩, by simp [RowKit.intOf]; omega⟩
    · have HL := Lib.hid (show anyBad l = false by
        have := HNO.out
        rwa [List.take_of_length_le (by omega)] at this)
      go_wp2_with fail
      go_ret
      exact ⟨⟨-1, rfl, by rw [HL.out]; rfl⟩, hbw⟩

set_option maxHeartbeats 1000000 in
theorem containsF16 (v : Value) (l : List ByteArray) (w : World) (h : SlG encS 1 fitP w v l) :
    Calls Tryd.prog 55 #[v, .func (.func 56) #[] #[]] w fun e w' => e = .returned (.bool (anyBad l)) ∧ Below w.heap.size w w' := by
  have HI := Lib.hid (indexF16 v l w h)
  obtain ⟨p, cap, rfl, _⟩ := h
  go_enter Tryd.func55, Tryd.ntmps55
  go_wp2_with (go_at_call 78; refine HI.out.mono ?_; rintro e w1 ⟨⟨n, rfl, hn⟩, hb⟩; have HN := Lib.hid hn; clear hn)
  go_ret
  exact ⟨ret_bool HN.out, hb⟩
end Go.Proofs.YtnpnoohnkbpokaaDoor

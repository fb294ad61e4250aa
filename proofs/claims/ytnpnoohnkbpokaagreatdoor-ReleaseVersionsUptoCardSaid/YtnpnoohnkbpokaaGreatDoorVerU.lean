/- What wholes answers. -/
import Derived.Test.YtnpnoohnkbpokaaGreatDoorVerT
namespace Go.Proofs.YtnpnoohnkbpokaaGreatDoor
open Go.RowKit Go.Lib

def iv (s : ByteArray) : Value := .int .i64 (rdNum 6 s.data.toList)
def oks (l : List ByteArray) : Bool := l.all fun s => numOk 6 s.data.toList
theorem infoI : (Tryz.prog.info? 3).map (fun i => (i.zero, i.size, i.bytes)) = some (some (.int .i64 0), 1, 8) := by kernel_rfl
theorem cell_one (w : World) (u : Value) (t : TypeId) : ∀ (q : Nat) (x : Value), [u][q]? = some x → (w.alloc (.cells #[u] t)).cell? (Addr.add ⟨w.heap.size, 0, none⟩ q) = some x := by
  intro q x hq
  match q, hq with
  | 0, hq => simp at hq; subst hq; simp [Addr.add]
theorem one_int (n : Int) : ∀ u ∈ [Value.int .i64 n], u.oneCell' = true := by intro u hu; simp at hu; subst hu; rfl
theorem own_base {w : World} {base : Nat} {e : TypeId} {size : Nat} {v : Value} {n : Nat} {xs : List Value} (h : w.ownsRow base e size v n xs) : ∀ k, v.ownBlock = some k → base ≤ k := fun k hk => (h.lt k hk).1
def WPost (l : List ByteArray) (w : World) (e : Ending) (w' : World) : Prop :=
  ∃ v, e = .returned (.tuple #[v, .bool (oks l)]) ∧ (oks l = true → w'.ownsRow w.heap.size 3 1 v l.length (l.map iv)) ∧ (oks l = false → v = .slice none 0 0) ∧ Below w.heap.size w w'

set_option maxHeartbeats 4000000 in
set_option maxRecDepth 100000 in
theorem wholes_any (v : Value) (l : List ByteArray) (w : World) (hl : l.length ≤ 100) (h : SlG encS 1 fitP w v l) :
    Calls Tryz.prog 35 #[v, .int .i64 6] w (WPost l w) := by
  obtain ⟨p, cap, rfl, h1, h2, hf, h4⟩ := h
  obtain ⟨i0, hi, hz0, hz1, hz2⟩ := info_parts infoI
  have HPT := Lib.hid (fun (v : Value) (w' : World) (h0 : oks l = true) (ho : w'.ownsRow w.heap.size 3 1 v l.length (l.map iv)) (hb : Below w.heap.size w w') => (show WPost l w (.returned (.tuple #[v, .bool true])) w' from ⟨v, by rw [h0], fun _ => ho, (fun h => by rw [h0] at h; cases h), hb⟩))
  have HPF := Lib.hid (fun (w' : World) (h0 : oks l = false) (hb : Below w.heap.size w w') => (show WPost l w (.returned (.tuple #[.slice none 0 0, .bool false])) w' from ⟨_, by rw [h0], (fun h => by rw [h0] at h; cases h), fun _ => rfl, hb⟩))
  have hnil : w.ownsRow w.heap.size 3 1 (.slice none 0 0) 0 [] := ⟨rfl, .inl ⟨rfl, rfl⟩⟩
  unfold maxLen at h2
  go_enter Tryz.func35, Tryz.ntmps35
  go_wp2_with fail
  go_loopw [6, 13] (fun v6 v13 wr => ∃ k : Nat, v13 = .int .i64 k ∧ k ≤ l.length ∧ oks (l.take k) = true ∧ wr.ownsRow w.heap.size 3 1 v6 k ((l.take k).map iv) ∧ Below w.heap.size w wr) (fun _ v _ => l.length - (RowKit.intOf v).toNat)
  case atStart => exact ⟨0, rfl, Nat.zero_le _, rfl, hnil, Below.refl _ _⟩
  case round =>
    obtain ⟨k, rfl, hk, hall, hown, hbw⟩ := hrel
    have HALL := Lib.hid hall
    clear hall
    by_cases hlt : k < l.length
    · rcases h4 with rfl | ⟨b, off, rfl, hb, hat⟩
      · simp at hlt
      have c0 := (hbw.cell (p := ⟨b, _, none⟩) hb).trans (hat.str hlt)
      have hx : l[k].size ≤ 1048576 := hf _ (List.getElem_mem hlt)
      have HC := Lib.hid (fun W => whole_any l[k] 6 W (by omega) hx)
      have HT := Lib.hid (show (l.take (k + 1)).map iv = (l.take k).map iv ++ [.int .i64 (rdNum 6 l[k].data.toList)] by rw [List.take_succ_eq_append_getElem hlt, List.map_append]; rfl)
      have HA := Lib.hid (show oks (l.take (k + 1)) = numOk 6 l[k].data.toList by
        rw [List.take_succ_eq_append_getElem hlt]
        unfold oks
        rw [List.all_append]
        have := HALL.out
        unfold oks at this
        rw [this]; simp)
      have HN := Lib.hid (show numOk 6 l[k].data.toList = false → oks l = false by
        intro hn
        rw [Bool.eq_false_iff]
        intro hc
        unfold oks at hc
        rw [List.all_eq_true] at hc
        have := hc _ (List.getElem_mem hlt)
        rw [hn] at this; cases this)
      clear hf hat
      generalize l[k] = x at *
      generalize rdNum 6 x.data.toList = n at *
      cases hp : numOk 6 x.data.toList
      · have HN2 := Lib.hid (HN.out hp)
        rw [hp] at HC
        clear hp HN HA HT
        go_wp2_with (go_at_call 51; refine (HC.out _).mono ?_; rintro e w1 ⟨rfl, hb1⟩)
        go_ret2
        exact HPF.out _ HN2.out (below_call hbw hbw.size hb1)
      · rw [hp] at HC HA
        clear hp HN
        have hws := hbw.size
        go_wp2_with (first
          | (go_at_call 51; refine (HC.out _).mono ?_; rintro e w1 ⟨rfl, hb1⟩; have hown1 := own_keeps hown hb1; have hown2 := hown1.alloc (.cells #[.int .i64 n] 3); have hs1 := hb1.size; have hbA := below_call hbw hbw.size hb1)
          | (at_builtin; refine wpList_append_own _ rfl _ _ 34 rfl w.heap.size 3 i0 (.int .i64 0) 1 8 Tryz.underlying34 hi hz0 hz1 hz2 rfl (by decide) _ _ _ rfl hown2 ⟨w1.heap.size, 0, none⟩ 1 1 [.int .i64 n] rfl rfl (cell_one w1 _ 3) (one_int _) (by unfold maxLen; omega) (by omega) (by simp; omega) ?_; intro v' w3 hown3 hgrow _))
        have hbX := below_grown (hbA.alloc hbA.size (.cells #[.int .i64 n] 3)) hgrow (fun k hk => own_base hown2 k hk) (by simp; omega)
        exact ⟨⟨k + 1, rfl, hlt, HA.out, by rw [HT.out]; exact hown3, hbX⟩, by simp [RowKit.intOf]; omega⟩
    · have hkl : k = l.length := by omega
      have HO := Lib.hid (show oks l = true by have := HALL.out; rwa [List.take_of_length_le (by omega)] at this)
      have HW := Lib.hid (show _ from hown)
      subst hkl
      rw [List.take_length] at HW
      obtain ⟨q, c, rfl⟩ := own_len hown
      clear hown
      go_wp2_with fail
      go_ret2
      exact HPT.out _ _ HO.out HW.out hbw
end Go.Proofs.YtnpnoohnkbpokaaGreatDoor

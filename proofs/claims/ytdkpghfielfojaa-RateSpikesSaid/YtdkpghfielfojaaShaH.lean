/- What the reference's SharesError answers. -/
import Derived.Test.YtdkpghfielfojaaShaE
import Derived.Lib.Bytealg
namespace Go.Proofs.Ytdkpghfielfojaa
open Go.RowKit Go.Lib

set_option maxHeartbeats 1000000 in
set_option maxRecDepth 100000 in
theorem ixLite (s : ByteArray) (c : Int) (w : World) :
    Calls Try.prog 59 #[.string s, .int .u8 c] w fun e w' => e = .returned (.int .i64 (Lib.indexByte s.data.toList c.toNat.toUInt8)) ∧ w' = w := by
  go_enter Try.func59, Try.ntmps59
  go_wp2
  rw [run_callFunc_extern Try.func71 (by kernel_rfl) (by kernel_rfl) (by kernel_rfl) (e := Extern.BytealgIndexByte.indexByte) (by kernel_rfl), Lib.run_indexByteString]
  simp only [Result.andThen]
  rw [Oper.upon_value]
  go_wp2
  go_ret
  exact ⟨rfl, rfl⟩
theorem ixNone (c : Int) (w : World) : Calls Try.prog 55 #[.string ⟨#[]⟩, .int .u8 c] w fun e w' => e = .returned (.int .i64 (-1)) ∧ w' = w := by
  have HX := Lib.hid (fun W => ixLite ⟨#[]⟩ c W)
  rw [show Lib.indexByte (⟨#[]⟩ : ByteArray).data.toList c.toNat.toUInt8 = -1 from rfl] at HX
  go_enter Try.func55, Try.ntmps55
  go_wp2_with (go_at_call 59; (with_reducible refine (HX.out _).mono ?_); rintro e w' ⟨rfl, rfl⟩)
  go_ret
  exact ⟨rfl, rfl⟩
set_option maxHeartbeats 2000000 in
set_option maxRecDepth 100000 in
theorem bytesIn_any (s : ByteArray) (w : World) (hs : s.size ≤ 4611686018427387904) :
    Calls Try.prog 51 #[.string s, .int .u8 32, .string ⟨#[]⟩] w fun e w' => e = .returned (.bool (s.data.toList.all pr)) ∧ w' = w := by
  have hl := Lib.hid (Lib.size_eq s)
  obtain ⟨A, hA⟩ : ∃ A, A = s.data.toList.all pr := ⟨_, rfl⟩
  rw [← hA]
  have HA := Lib.hid hA
  clear hA
  have HIX := Lib.hid (fun (c : Int) (W : World) => ixNone c W)
  go_enter Try.func51, Try.ntmps51
  go_wp2_with fail
  go_loop [10] (fun v => ∃ k : Nat, v = .int .i64 k ∧ k ≤ s.size ∧ (s.data.toList.take k).all pr = true) (fun v => s.size - (RowKit.intOf v).toNat)
  case atStart => exact ⟨0, rfl, Nat.zero_le _, by simp⟩
  case round =>
    obtain ⟨k, rfl, hk, heq⟩ := hrel
    have HEQ := Lib.hid heq
    clear heq
    by_cases hlt : k < s.size
    · have hkl : k < s.data.toList.length := by rw [← hl.out]; exact hlt
      have hpe := pr_eq s[k]
      by_cases hp : pr s[k] = true
      · have HR := Lib.hid (show (s.data.toList.take (k + 1)).all pr = true from by
          rw [List.take_succ_eq_append_getElem hkl, List.all_append, HEQ.out]
          rw [List.all_cons, show pr s.data.toList[k] = true from hp]; rfl)
        rw [hp] at hpe
        have h2 := of_decide_eq_true hpe.symm
        have hc1 : ¬ ((s[k].toNat : Nat) : Int) < 32 := by omega
        have hc2 : ¬ (126 : Int) < ((s[k].toNat : Nat) : Int) := by omega
        have hc3 : ¬ s[k].toNat < 32 := by omega
        have hc4 : ¬ 126 < s[k].toNat := by omega
        clear hp hpe h2
        go_wp2_with (go_at_call 55; refine (HIX.out _ _).mono ?_; rintro e w' ⟨rfl, rfl⟩)
        exact ⟨⟨k + 1, rfl, hlt, HR.out⟩, by simp [RowKit.intOf]; omega⟩
      · have hp' : pr s[k] = false := by simpa using hp
        have HR := Lib.hid (show s.data.toList.all pr = false from by
          rw [← List.take_append_drop k s.data.toList, List.all_append, List.drop_eq_getElem_cons hkl, List.all_cons]
          rw [show pr s.data.toList[k] = false from hp']; simp)
        rw [hp'] at hpe
        have h2 := of_decide_eq_false hpe.symm
        clear hp hp' hpe
        by_cases hc1 : ((s[k].toNat : Nat) : Int) < 32
        · have hc3 : s[k].toNat < 32 := by omega
          clear h2
          go_wp2_with fail
          go_ret
          exact ⟨ret_bool (by rw [HA.out]; exact HR.out.symm), rfl⟩
        · have hc2 : (126 : Int) < ((s[k].toNat : Nat) : Int) := by omega
          have hc3 : ¬ s[k].toNat < 32 := by omega
          have hc4 : 126 < s[k].toNat := by omega
          clear h2
          go_wp2_with fail
          go_ret
          exact ⟨ret_bool (by rw [HA.out]; exact HR.out.symm), rfl⟩
    · have hk2 : k = s.size := by omega
      have HR := Lib.hid (show s.data.toList.all pr = true from by
        have := HEQ.out
        rwa [List.take_of_length_le (by rw [← hl.out]; omega)] at this)
      clear hk2
      go_wp2_with fail
      go_ret
      exact ⟨ret_bool (by rw [HA.out]; exact HR.out.symm), rfl⟩
set_option maxHeartbeats 1000000 in
theorem plainBytes_any (s : ByteArray) (w : World) (hs : s.size ≤ 4611686018427387904) : Calls Try.prog 42 #[.string s] w fun e w' => e = .returned (.bool (s.data.toList.all pr)) ∧ w' = w := by
  have HB := Lib.hid (fun W => bytesIn_any s W hs)
  generalize s.data.toList.all pr = b at *
  go_enter Try.func42, Try.ntmps42
  go_wp2_with (go_at_call 51; (with_reducible refine (HB.out _).mono ?_); rintro e w' ⟨rfl, rfl⟩)
  go_ret
  exact ⟨rfl, rfl⟩
set_option maxHeartbeats 1000000 in
set_option maxRecDepth 100000 in
theorem wordError_any (s : ByteArray) (w : World) : Calls Try.prog 27 #[.string s] w fun e w' => e = .returned (.int .i64 (keyErr s)) ∧ w' = w := by
  unfold keyErr
  by_cases hs : 200 < s.size
  · rw [if_pos hs]
    have hs' : (200 : Int) < (s.size : Int) := by omega
    clear hs
    go_enter Try.func27, Try.ntmps27
    go_wp2_with fail
    go_ret
    exact ⟨rfl, rfl⟩
  · rw [if_neg hs]
    have hs' : ¬ (200 : Int) < (s.size : Int) := by omega
    have HE := Lib.hid (fun W => plainBytes_any s W (by omega))
    generalize s.data.toList.all pr = b at *
    clear hs
    cases b
    all_goals
      go_enter Try.func27, Try.ntmps27
      go_wp2_with (go_at_call 42; (with_reducible refine (HE.out _).mono ?_); rintro e w1 ⟨rfl, rfl⟩)
      go_ret
      exact ⟨rfl, rfl⟩
set_option maxHeartbeats 1000000 in
theorem in_any (n a b : Int) (w : World) : Calls Try.prog 30 #[.int .i64 n, .int .i64 a, .int .i64 b] w fun e w' => e = .returned (.bool (wi n a b)) ∧ w' = w := by
  go_enter Try.func30, Try.ntmps30
  go_wp2_with fail
  all_goals (go_ret; refine ⟨ret_bool ?_, rfl⟩; unfold wi; simp; try omega)

theorem str_dec (a b : ByteArray) : (a.toList == b.toList) = decide (a.data.toList = b.data.toList) := by
  rw [ByteArray.toList_eq, ByteArray.toList_eq, Bool.eq_iff_iff]; simp
set_option maxHeartbeats 1000000 in
set_option maxRecDepth 100000 in
theorem sameKey_any (y x : Sh) (B : Nat) (w : World) (hB : w.cell? ⟨B, 0, none⟩ = some (.string x.key)) : Calls Try.prog 29 #[.agg #[.string y.key, .int .i64 y.came], .pointer (some ⟨B, 0, none⟩)] w
    fun e w' => e = .returned (.bool (decide (y.key.data.toList = x.key.data.toList))) ∧ Below w.heap.size w w' := by
  have hlt := World.block_lt_of_cell? _ _ hB
  simp only at hlt
  have HD := Lib.hid (str_dec y.key x.key)
  obtain ⟨y0, y1⟩ := y
  obtain ⟨x0, x1⟩ := x
  simp only at hB HD ⊢
  go_enter Try.func29, Try.ntmps29
  go_wp2_with fail
  go_ret
  exact ⟨by rw [← HD.out]; rfl, (Below.refl _ _).alloc (Nat.le_refl _) _⟩
/-- Where a key is among shares. -/
def hasKey (l : List Sh) (x : List UInt8) : Bool := l.any fun y => decide (y.key.data.toList = x)
theorem hasKey_take (l : List Sh) (x : List UInt8) (k : Nat) (hk : k < l.length) : hasKey (l.take (k + 1)) x = (hasKey (l.take k) x || decide (l[k].key.data.toList = x)) := by
  unfold hasKey
  rw [List.take_succ_eq_append_getElem hk, List.any_append]; simp
set_option maxHeartbeats 2000000 in
set_option maxRecDepth 100000 in
theorem indexKey_any (v : Value) (l : List Sh) (x : Sh) (B : Nat) (w : World) (hv : ShV w v l) (hB : w.cell? ⟨B, 0, none⟩ = some (.string x.key)) :
    Calls Try.prog 43 #[v, .func (.func 29) #[] #[.pointer (some ⟨B, 0, none⟩)]] w fun e w' => (∃ n : Int, e = .returned (.int .i64 n) ∧ decide (0 ≤ n) = hasKey l x.key.data.toList) ∧ Below w.heap.size w w' := by
  obtain ⟨p, cap, rfl, h1, h2, h3, h4⟩ := hv
  have HSK := Lib.hid (fun (y : Sh) (W : World) (hW : Below w.heap.size w W) => sameKey_any y x B W (cell_keep hB hW))
  obtain ⟨n, hn⟩ : ∃ n, n = l.length := ⟨_, rfl⟩
  have HN := Lib.hid hn
  rw [← hn] at h1 ⊢
  clear hn h3
  go_enter Try.func43, Try.ntmps43
  go_wp2_with fail
  go_loopw [8] (fun v8 wr => ∃ k : Nat, k ≤ n ∧ v8 = .int .i64 k ∧ Hid (hasKey (l.take k) x.key.data.toList = false) ∧ Below w.heap.size w wr) (fun v8 _ => n - (RowKit.intOf v8).toNat)
  case atStart => exact ⟨0, Nat.zero_le _, rfl, Lib.hid rfl, Below.refl _ _⟩
  case round =>
    obtain ⟨k, hk, rfl, HK, hbw⟩ := hrel
    by_cases hlt : k < n
    · have hkl : k < l.length := by have := HN.out; omega
      rcases h4 with h4 | ⟨b, off, rfl, hb, hat⟩
      · rw [h4] at hkl; simp at hkl
      obtain ⟨c0, c1⟩ := (hat.below hb hbw) k hkl
      have HT := Lib.hid (hasKey_take l x.key.data.toList k hkl)
      have HY := Lib.hid (show decide (l[k].key.data.toList = x.key.data.toList) = true → hasKey l x.key.data.toList = true from fun h => by
        unfold hasKey
        exact List.any_eq_true.2 ⟨_, List.getElem_mem hkl, h⟩)
      generalize l[k] = y at *
      have HS := Lib.hid (fun W hW => HSK.out y W hW)
      obtain ⟨y0, y1⟩ := y
      simp only at c0 c1 HT HS HY
      clear hat hkl
      cases hd : decide (y0.data.toList = x.key.data.toList)
      · rw [hd] at HS
        have HNX := Lib.hid (show hasKey (l.take (k + 1)) x.key.data.toList = false by rw [HT.out, HK.out, hd]; rfl)
        clear hd
        go_wp2_with (go_at_call 29; (with_reducible refine (HS.out _ hbw).mono ?_); rintro e w1 ⟨rfl, hb1⟩)
        exact ⟨⟨k + 1, by omega, by go_num, HNX, below_call hbw hbw.size hb1⟩, by simp [RowKit.intOf]; omega⟩
      · rw [hd] at HS
        have HE := Lib.hid (HY.out hd)
        clear hd
        go_wp2_with (go_at_call 29; (with_reducible refine (HS.out _ hbw).mono ?_); rintro e w1 ⟨rfl, hb1⟩)
        go_ret
        exact ⟨⟨_, rfl, by rw [HE.out]; exact decide_eq_true (by omega)⟩, below_call hbw hbw.size hb1⟩
    · have HE := Lib.hid (show hasKey l x.key.data.toList = false by
        have h := HK.out
        rwa [List.take_of_length_le (by have := HN.out; omega)] at h)
      go_wp2_with fail
      go_ret
      exact ⟨⟨_, rfl, by rw [HE.out]; rfl⟩, hbw⟩
set_option maxHeartbeats 1000000 in
set_option maxRecDepth 100000 in
theorem containsKey_any (v : Value) (l : List Sh) (x : Sh) (B : Nat) (w : World) (hv : ShV w v l) (hB : w.cell? ⟨B, 0, none⟩ = some (.string x.key)) :
    Calls Try.prog 28 #[v, .func (.func 29) #[] #[.pointer (some ⟨B, 0, none⟩)]] w fun e w' => e = .returned (.bool (hasKey l x.key.data.toList)) ∧ Below w.heap.size w w' := by
  have HI := Lib.hid (indexKey_any v l x B w hv hB)
  obtain ⟨p, cap, rfl, -⟩ := hv
  go_enter Try.func28, Try.ntmps28
  go_wp2_with (go_at_call 43; (with_reducible refine HI.out.mono ?_); rintro e w1 ⟨⟨n, rfl, hn⟩, hb⟩; have HN := Lib.hid hn; clear hn)
  go_ret
  exact ⟨by rw [← HN.out]; rfl, hb⟩
end Go.Proofs.Ytdkpghfielfojaa

/- digits, and the law GroupSteady. -/
import Derived.Test.YtonjmfbalkdmfaaGreatDoorStE
namespace Go.Proofs.YtonjmfbalkdmfaaGreatDoor
open Go.RowKit Go.Lib

theorem dec_len : ∀ (k u : Nat), u < 10 ^ (k + 1) → (Lib.decDigits u).length ≤ k + 1
  | 0, u, h => by rw [Lib.decDigits, dif_pos (by simpa using h)]; simp
  | k + 1, u, h => by
    rw [Lib.decDigits]
    split
    · simp
    · have := dec_len k (u / 10) (by rw [Nat.pow_succ] at h; omega)
      rw [List.length_append, List.length_singleton]; omega
theorem app_data (a b : ByteArray) : (a ++ b).data.toList = a.data.toList ++ b.data.toList := by simp
theorem data_inj {a b : ByteArray} (h : a.data.toList = b.data.toList) : a = b := by
  obtain ⟨⟨x⟩⟩ := a
  obtain ⟨⟨y⟩⟩ := b
  simpa using h

set_option maxHeartbeats 2000000 in
set_option maxRecDepth 100000 in
theorem digits_low (u : Nat) (h : u < 10) (w : World) : Calls Tryz.prog 7 #[.int .i64 u] w fun e w' => e = .returned (.string (bs (Lib.decDigits u))) ∧ Below w.heap.size w w' := by
  have hd : Lib.decDigits u = [UInt8.ofNat (48 + u)] := by rw [Lib.decDigits, dif_pos h]
  rw [hd]
  clear hd
  obtain ⟨c, hc⟩ : ∃ c : UInt8, c = UInt8.ofNat (48 + u) := ⟨_, rfl⟩
  rw [← hc]
  have hcs : (48 : Int) + (u : Int) = (c.toNat : Int) := by
    rw [hc, UInt8.toNat_ofNat']
    omega
  have hcl := u8_lt (c := c)
  have hw1 : IntKind.i64.wrap (c.toNat : Int) = (c.toNat : Int) := IntWalk.i64_in _ (by omega)
  have hw2 : IntKind.u8.wrap (c.toNat : Int) = (c.toNat : Int) := by rw [IntKind.wrap_u8]; omega
  have hlt : (u : Int) < 10 := by omega
  have hcv : (convert 35 9 (.slice (some ⟨w.heap.size, 0, none⟩) 1 1)).run Tryz.prog (w.alloc (.cells #[.int .u8 (c.toNat : Int)] 5)) = .ok (.string (bs [c])) (w.alloc (.cells #[.int .u8 (c.toNat : Int)] 5)) :=
    run_convert_bytes_back (P := Tryz.prog) (w.alloc (.cells #[.int .u8 (c.toNat : Int)] 5)) 35 9 5 ⟨w.heap.size, 0, none⟩ 1 [c] Tryz.underlying35 Tryz.underlying5 Tryz.underlying9 (fun j hj => by
      have hj0 : j = 0 := by
        have : [c].length = 1 := rfl
        omega
      subst hj0
      rw [Lib.add_plain, Nat.zero_add, World.cell?_alloc_new]; rfl)
  clear hc h
  go_enter Tryz.func7, Tryz.ntmps7
  go_wp2_with fail
  go_ret
  exact ⟨rfl, (Below.refl _ _).alloc (Nat.le_refl _) _⟩

set_option maxHeartbeats 2000000 in
set_option maxRecDepth 100000 in
theorem digits_any (u : Nat) : ∀ (w : World), u < 4294967296 → Calls Tryz.prog 7 #[.int .i64 u] w fun e w' => e = .returned (.string (bs (Lib.decDigits u))) ∧ Below w.heap.size w w' := by
  induction u using Nat.strongRecOn with
  | ind u ih =>
    intro w hu
    by_cases h : u < 10
    · exact digits_low u h w
    · have hd : Lib.decDigits u = Lib.decDigits (u / 10) ++ Lib.decDigits (u % 10) := by
        rw [Lib.decDigits, dif_neg h, show Lib.decDigits (u % 10) = [UInt8.ofNat (48 + u % 10)] by rw [Lib.decDigits, dif_pos (Nat.mod_lt _ (by omega))]]
      have hq : Int.tdiv (u : Int) 10 = ((u / 10 : Nat) : Int) := by rw [Int.tdiv_eq_ediv_of_nonneg (by omega)]; omega
      have ht : Int.tmod (u : Int) 10 = ((u % 10 : Nat) : Int) := by rw [Int.tmod_eq_emod_of_nonneg (by omega)]; omega
      have H1 := Lib.hid (fun W => ih (u / 10) (Nat.div_lt_self (by omega) (by omega)) W (by omega))
      have H2 := Lib.hid (fun W => digits_low (u % 10) (Nat.mod_lt _ (by omega)) W)
      have hl1 : (bs (Lib.decDigits (u / 10))).size ≤ 10 := by rw [bs_size]; exact dec_len 9 _ (by omega)
      have hl2 : (bs (Lib.decDigits (u % 10))).size ≤ 10 := by rw [bs_size]; exact dec_len 9 _ (by omega)
      have HS := Lib.hid (show bs (Lib.decDigits (u / 10)) ++ bs (Lib.decDigits (u % 10)) = bs (Lib.decDigits u) by
        apply data_inj; rw [app_data, bs_data, bs_data, bs_data, hd])
      have hn1 : ¬ (u : Int) < 10 := by omega
      have hwq : IntKind.i64.wrap ((u / 10 : Nat) : Int) = ((u / 10 : Nat) : Int) := IntWalk.i64_in _ (by omega)
      have hwd : IntKind.i64.wrap ((u % 10 : Nat) : Int) = ((u % 10 : Nat) : Int) := IntWalk.i64_in _ (by omega)
      clear hd ih
      generalize bs (Lib.decDigits (u / 10)) = A at *
      generalize bs (Lib.decDigits (u % 10)) = B at *
      generalize u / 10 = q at *
      generalize u % 10 = r at *
      obtain ⟨C, hC⟩ : ∃ C, A ++ B = C := ⟨_, rfl⟩
      rw [hC] at HS
      go_enter Tryz.func7, Tryz.ntmps7
      go_wp2_with (first
        | (go_at_call 7; (with_reducible refine (H1.out _).mono ?_); rintro e w1 ⟨rfl, hb1⟩)
        | (go_at_call 7; (with_reducible refine (H2.out _).mono ?_); rintro e w2 ⟨rfl, hb2⟩))
      go_ret
      exact ⟨congrArg (fun x => Ending.returned (Value.string x)) HS.out, below_keep hb1 (Nat.le_refl _) hb2⟩

set_option maxHeartbeats 1000000 in
set_option maxRecDepth 100000 in
theorem awake_any (w : World) : Calls Tryz.prog 4 #[] w fun e w' => e = .returned (.bool true) ∧ Below w.heap.size w w' := by
  have HP := Lib.hid (plain_any ⟨#[49]⟩ w (by decide))
  rw [show bs (pl (⟨#[49]⟩ : ByteArray).data.toList) = ⟨#[60, 110, 62]⟩ by decide] at HP
  go_enter Tryz.func4, Tryz.ntmps4
  go_wp2_with (go_at_call 5; refine HP.out.mono ?_; rintro e w1 ⟨rfl, hb1⟩)
  go_ret
  exact ⟨rfl, hb1⟩

def noB (u : Nat) : ByteArray := bs (noL u)
theorem noB_size {u : Nat} (h : u < 4294967296) : (noB u).size ≤ 13 := by
  have := dec_len 9 u (by omega)
  unfold noB; rw [bs_size]; unfold noL; rw [List.length_append]; simp; omega
theorem dg_okTC (c : UInt8) (h : dg c = true) : stk.okTC c = true := by
  rw [dg_eq] at h
  have h := of_decide_eq_true h
  unfold stk.okTC
  simp; omega
theorem noB_ok (u : Nat) : stk.okT (noB u) = true := by
  unfold stk.okT noB
  rw [bs_data]
  unfold noL
  rw [List.all_append]
  have : (Lib.decDigits u).all stk.okTC = true := List.all_eq_true.2 fun c hc => dg_okTC c (dec_dg u c hc)
  rw [this]; decide
theorem prTx_no (k : ByteArray) (a b : Nat) : prTx k (noB a) = prTx k (noB b) := by
  unfold prTx noB
  rw [bs_data, bs_data, pl_no, pl_no]

set_option maxHeartbeats 2000000 in
set_option maxRecDepth 100000 in
theorem steady_law (s k : ByteArray) (a b : Nat) (w : World) (ha : a < 4294967296) (hb : b < 4294967296) (hs : s.size ≤ 1048576) (hk : k.size ≤ maxLen) (he : EnvH w) :
    Calls Tryz.prog 3 #[.string s, .string k, .int .u32 a, .int .u32 b] w fun e w' => e = .returned (.bool true) ∧ Below w.heap.size w w' := by
  have HE := Lib.hid he
  have hpl : (bs (pl s.data.toList)).size ≤ 3145728 := by
    rw [bs_size]
    have := pl_len s.data.toList
    rw [← Lib.size_eq] at this
    omega
  have H1 := Lib.hid (fun W => plain_any s W (by omega))
  have H2 := Lib.hid (fun W => plain_any (bs (pl s.data.toList)) W (by omega))
  rw [bs_data, pl_pl] at H2
  have HDa := Lib.hid (fun W => digits_any a W ha)
  have HDb := Lib.hid (fun W => digits_any b W hb)
  have HSa := Lib.hid (show (⟨#[110, 111, 32]⟩ : ByteArray) ++ bs (Lib.decDigits a) = noB a by apply data_inj; rw [app_data, bs_data]; unfold noB; rw [bs_data]; rfl)
  have HSb := Lib.hid (show (⟨#[110, 111, 32]⟩ : ByteArray) ++ bs (Lib.decDigits b) = noB b by apply data_inj; rw [app_data, bs_data]; unfold noB; rw [bs_data]; rfl)
  have HPa := Lib.hid (fun (g : Nat) (W : World) (hW : Below w.heap.size w W) c0 c1 c2 => print_one g k (noB a) W hk (by have := noB_size ha; omega) (noB_ok a) c0 c1 c2 (he.keep hW))
  have HPb := Lib.hid (fun (g : Nat) (W : World) (hW : Below w.heap.size w W) c0 c1 c2 => print_one g k (noB b) W hk (by have := noB_size hb; omega) (noB_ok b) c0 c1 c2 (he.keep hW))
  rw [prTx_no k b a] at HPb
  have hla : (bs (Lib.decDigits a)).size ≤ 10 := by rw [bs_size]; exact dec_len 9 _ (by omega)
  have hlb : (bs (Lib.decDigits b)).size ≤ 10 := by rw [bs_size]; exact dec_len 9 _ (by omega)
  have hz3 : (⟨#[110, 111, 32]⟩ : ByteArray).size = 3 := rfl
  have hwa : IntKind.i64.wrap (a : Int) = (a : Int) := IntWalk.i64_in _ (by omega)
  have hwb : IntKind.i64.wrap (b : Int) = (b : Int) := IntWalk.i64_in _ (by omega)
  clear he
  generalize bs (pl s.data.toList) = P at *
  generalize prTx k (noB a) = X at *
  generalize noB a = Na at *
  generalize noB b = Nb at *
  generalize bs (Lib.decDigits a) = Da at *
  generalize bs (Lib.decDigits b) = Db at *
  have hsa := HSa.out
  have hsb := HSb.out
  go_enter Tryz.func3, Tryz.ntmps3
  go_wp2_with (first
    | (go_at_call 4; (with_reducible refine (awake_any _).mono ?_); rintro e w1 ⟨rfl, hb1⟩)
    | (go_at_call 5; (with_reducible refine (H1.out _).mono ?_); rintro e w2 ⟨rfl, hb2⟩; have hB2 := below_keep hb1 (Nat.le_refl _) hb2)
    | (go_at_call 5; (with_reducible refine (H2.out _).mono ?_); rintro e w3 ⟨rfl, hb3⟩; have hB3 := below_keep hB2 (Nat.le_refl _) hb3)
    | (go_at_call 7; (with_reducible refine (HDa.out _).mono ?_); rintro e w4 ⟨rfl, hb4⟩; have hB4 := below_keep hB3 (Nat.le_refl _) hb4)
    | (go_at_call 6; (with_reducible refine (HPa.out _ _ (hB4.alloc hB4.size _) (by go_simp) (by go_simp) (by go_simp)).mono ?_); rintro e w5 ⟨rfl, hb5⟩; have hB5 := below_keep (hB4.alloc hB4.size _) (Nat.le_refl _) hb5)
    | (go_at_call 7; (with_reducible refine (HDb.out _).mono ?_); rintro e w6 ⟨rfl, hb6⟩; have hB6 := below_keep hB5 (Nat.le_refl _) hb6)
    | (go_at_call 6; (with_reducible refine (HPb.out _ _ (hB6.alloc hB6.size _) (by go_simp) (by go_simp) (by go_simp)).mono ?_); rintro e w7 ⟨rfl, hb7⟩; have hB7 := below_keep (hB6.alloc hB6.size _) (Nat.le_refl _) hb7))
  go_ret
  exact ⟨rfl, hB7⟩
end Go.Proofs.YtonjmfbalkdmfaaGreatDoor

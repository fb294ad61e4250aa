/- What Parts, Digest and Print answer: no rules, one fault without frames. -/
import Derived.Test.YtonjmfbalkdmfaaGreatDoorStC
namespace Go.Proofs.YtonjmfbalkdmfaaGreatDoor
open Go.RowKit Go.Lib

theorem infoS : (Tryz.prog.info? 9).map (fun i => (i.zero, i.size, i.bytes)) = some (some (.string ⟨#[]⟩), 1, 16) := by kernel_rfl
theorem two_cell (x y : ByteArray) : ∀ u ∈ [Value.string x, Value.string y], u.oneCell' = true := by intro u hu; simp at hu; rcases hu with rfl | rfl <;> rfl
theorem cells2_new (w : World) (u v : Value) (t : TypeId) : ∀ (q : Nat) (x : Value), [u, v][q]? = some x → (w.alloc (.cells #[u, v] t)).cell? (Addr.add ⟨w.heap.size, 0, none⟩ q) = some x := by
  intro q x hq
  match q, hq with
  | 0, hq => simp at hq; subst hq; simp [Addr.add]
  | 1, hq => simp at hq; subst hq; simp [Addr.add]
theorem step_append_own {P : Program} {ops : Array Oper} {o : Oper} {a : Act} {w : World} {K : Act → World → Prop} {Q : Exit → Act → World → Prop} {E : Prop} (hgd : o.guard = none) (s x : Operand) (t : TypeId)
    (ho : o.op = .call { callee := .builtin .append, args := #[s, x], argTypes := #[t, t] })
    (base : Nat) (e : TypeId) (i : TypeInfo) (z : Value) (size bytes : Nat) (ht : P.underlying t = some (.slice e)) (hi : P.info? e = some i) (hz : i.zero = some z)
    (hsize : i.size = size) (hby : i.bytes = bytes) (hzs : z.cells.size = size) (hsz : 0 < size)
    (v : Value) (n : Nat) (xs : List Value) (hs : a.eval s = v) (hown : w.ownsRow base e size v n xs)
    (ad : Addr) (m c : Nat) (news : List Value) (hx : a.eval x = .slice (some ad) m c) (hl : news.length = m * size) (hnews : ∀ j u, news[j]? = some u → w.cell? (ad.add j) = some u) (h1 : ∀ u ∈ news, u.oneCell' = true)
    (h63 : n + m ≤ maxLen) (hbytes : (n + m) * bytes ≤ 140737488355328) (hbase : base ≤ w.heap.size)
    (h : ∀ v' w', w'.ownsRow base e size v' (n + m) (xs ++ news) → w.grownBy w' v.ownBlock → K (a.put o.dst v') w') :
    if Region.wanted o (yielded ops a.tmps) = true then Oper.wp P o a w K Q else E := by
  rw [if_pos (by simp [Region.wanted, hgd])]
  exact wp_append_own w s x t ho base e i z size bytes ht hi hz hsize hby hzs hsz v n xs hs hown ad m c news hx hl hnews h1 h63 hbytes hbase fun v' w' h2 h3 _ => h v' w' h2 h3

set_option maxHeartbeats 2000000 in
set_option maxRecDepth 100000 in
theorem parts_bad (b : Nat) (k t : ByteArray) (w : World) (h1 : k.size ≤ maxLen) (h2 : t.size ≤ 2000) (h3 : stk.okT t = true) (c0 : w.cell? ⟨b, 0, none⟩ = some (.string k)) (c1 : w.cell? ⟨b, 1, none⟩ = some (.string t)) (c2 : w.cell? ⟨b, 2, none⟩ = some (.slice none 0 0)) (hE : stk.kErr k ≠ 0) :
    Calls Tryz.prog 11 #[.slice none 0 0, .slice (some ⟨b, 0, none⟩) 1 1] w fun e w' => e = .returned (.tuple #[.slice none 0 0, .int .i64 (stk.kErr k)]) ∧ Below w.heap.size w w' := by
  have HM := Lib.hid (mark_bad b k t w h1 h2 h3 c0 c1 c2 hE)
  have hne : (stk.kErr k != 0) = true := by rw [bne_iff_ne]; exact hE
  clear c0 c1 c2 hE
  go_enter Tryz.func11, Tryz.ntmps11
  go_wp2_with (go_at_call 19; (with_reducible refine HM.out.mono ?_); rintro e w1 ⟨rfl, hb1⟩)
  go_ret2
  exact ⟨rfl, hb1⟩

set_option maxHeartbeats 4000000 in
set_option maxRecDepth 100000 in
theorem parts_good (b : Nat) (k t : ByteArray) (w : World) (h1 : k.size ≤ maxLen) (h2 : t.size ≤ 2000) (h3 : stk.okT t = true) (c0 : w.cell? ⟨b, 0, none⟩ = some (.string k)) (c1 : w.cell? ⟨b, 1, none⟩ = some (.string t)) (c2 : w.cell? ⟨b, 2, none⟩ = some (.slice none 0 0)) (hE : stk.kErr k = 0) :
    Calls Tryz.prog 11 #[.slice none 0 0, .slice (some ⟨b, 0, none⟩) 1 1] w fun e w' => (∃ v, e = .returned (.tuple #[v, .int .i64 0]) ∧ w'.ownsRow w.heap.size 9 1 v 2 [.string k, .string (bs (pl t.data.toList))]) ∧ Below w.heap.size w w' := by
  obtain ⟨i0, hi', hz0, hz1, hz2⟩ := info_parts infoS
  have hb : b < w.heap.size := World.block_lt_of_cell? w ⟨b, 0, none⟩ c0
  have HM := Lib.hid (mark_good b k t w h1 h2 h3 c0 c1 c2 hE)
  have HPL := Lib.hid (fun W => plain_any t W (by omega))
  obtain ⟨P, hP⟩ : ∃ P, bs (pl t.data.toList) = P := ⟨_, rfl⟩
  have HP := Lib.hid hP
  rw [hP] at HPL
  clear hP hE h3
  have happ : ∀ W, (Builtin.append_ #[46, 46] 46 #[.slice none 0 0, .slice none 0 0]).run Tryz.prog W = .ok (.slice none 0 0) W := fun W => run_append_owned_none (P := Tryz.prog) (w := W) 0 46 46 9 i0 1 Tryz.underlying46 hi' (.slice none 0 0) 0 [] (World.ownsRow_nil W 0 9 1)
  go_enter Tryz.func11, Tryz.ntmps11
  go_wp2_with (go_at_call 19; (with_reducible refine HM.out.mono ?_); rintro e w1 ⟨⟨M, rfl, hM⟩, hb1⟩)
  go_loopw [9, 30] (fun v9 v30 wr => ∃ i : Nat, i ≤ 1 ∧ v9 = .slice none 0 0 ∧ v30 = .int .i64 i ∧ wr.cell? ⟨M, 0, none⟩ = some (.slice none 0 0) ∧ Below w.heap.size w wr) (fun _ v30 _ => 1 - (RowKit.intOf v30).toNat)
  case atStart => exact ⟨0, Nat.zero_le _, rfl, rfl, hM, hb1⟩
  case round =>
    clear hM hb1
    obtain ⟨i, hi, rfl, rfl, hM, hbw⟩ := hrel
    have d0 : wr.cell? ⟨b, 0, none⟩ = some (.string k) := (hbw.cell (p := ⟨b, _, none⟩) hb).trans c0
    have d1 : wr.cell? ⟨b, 1, none⟩ = some (.string t) := (hbw.cell (p := ⟨b, _, none⟩) hb).trans c1
    have d2 : wr.cell? ⟨b, 2, none⟩ = some (.slice none 0 0) := (hbw.cell (p := ⟨b, _, none⟩) hb).trans c2
    obtain rfl | rfl : i = 0 ∨ i = 1 := by omega
    · go_upto_region 10 with fail
      have hBu := hbw.alloc hbw.size (.cells #[.string k, .string t, .slice none 0 0] 31)
      have y0 : (wr.alloc (.cells #[.string k, .string t, .slice none 0 0] 31)).cell? ⟨wr.heap.size, 0, none⟩ = some (.string k) := by go_simp
      have y1 : (wr.alloc (.cells #[.string k, .string t, .slice none 0 0] 31)).cell? ⟨M, 0, none⟩ = some (.slice none 0 0) := cell_alloc hM
      generalize wr.alloc (.cells #[.string k, .string t, .slice none 0 0] 31) = u at *
      clear d0 d1 d2 hM hbw
      go_region_held3 (fun w' => w'.cell? ⟨wr.heap.size, 0, none⟩ = some (.string k) ∧ w'.cell? ⟨M, 0, none⟩ = some (.slice none 0 0))
        ((repeat' apply And.intro) <;> first | assumption | exact cell_drew (by assumption))
        (first
          | (go_at_call 20; with_reducible refine (frameParts_none k _).mono ?_; rintro e wX ⟨rfl, hbX⟩; have z0 : World.cell? wX ⟨wr.heap.size, 0, none⟩ = some (.string k) := cell_keep (by first | assumption | exact cell_drew (by assumption)) hbX; have z1 : World.cell? wX ⟨M, 0, none⟩ = some (.slice none 0 0) := cell_keep (by first | assumption | exact cell_drew (by assumption)) hbX; have hBX : Below w.heap.size w wX := below_keep (by first | assumption | exact Below.drew (by assumption)) (Nat.le_refl _) hbX))
      all_goals
        go_wp2_with fail
        exact ⟨⟨1, by omega, rfl, rfl, z1, hBX⟩, by simp [RowKit.intOf]⟩
    · go_wp2_with fail
      go_loopw [9, 50] (fun v9 v50 wr => (v9 = .slice none 0 0 ∧ v50 = .int .i64 0 ∧ Below w.heap.size w wr) ∨ (v50 = .int .i64 1 ∧ wr.ownsRow w.heap.size 9 1 v9 2 [.string k, .string P] ∧ Below w.heap.size w wr)) (fun _ v50 _ => 1 - (RowKit.intOf v50).toNat)
      case atStart => exact .inl ⟨rfl, rfl, hbw⟩
      clear hbw hM d0 d1 d2
      rcases hrel with ⟨rfl, rfl, hbw⟩ | ⟨rfl, hown, hbw⟩
      · obtain ⟨u0, rfl⟩ : ∃ u0 : World, u0 = wr := ⟨_, rfl⟩
        have d0 : u0.cell? ⟨b, 0, none⟩ = some (.string k) := (hbw.cell (p := ⟨b, _, none⟩) hb).trans c0
        have d1 : u0.cell? ⟨b, 1, none⟩ = some (.string t) := (hbw.cell (p := ⟨b, _, none⟩) hb).trans c1
        have d2 : u0.cell? ⟨b, 2, none⟩ = some (.slice none 0 0) := (hbw.cell (p := ⟨b, _, none⟩) hb).trans c2
        go_upto_region 16 with fail
        have hBu := hbw.alloc hbw.size (.cells #[.string k, .string t, .slice none 0 0] 31)
        have y0 : (u0.alloc (.cells #[.string k, .string t, .slice none 0 0] 31)).cell? ⟨u0.heap.size, 0, none⟩ = some (.string k) := by go_simp
        have y1 : (u0.alloc (.cells #[.string k, .string t, .slice none 0 0] 31)).cell? ⟨u0.heap.size, 1, none⟩ = some (.string t) := by go_simp
        generalize u0.alloc (.cells #[.string k, .string t, .slice none 0 0] 31) = u at *
        clear d0 d1 d2 hbw
        go_region_held3 (fun w' => w'.cell? ⟨u0.heap.size, 0, none⟩ = some (.string k) ∧ w'.cell? ⟨u0.heap.size, 1, none⟩ = some (.string t))
          ((repeat' apply And.intro) <;> first | assumption | exact cell_drew (by assumption) | exact cell_alloc (by assumption) | exact cell_alloc (cell_drew (by assumption)))
          (first
            | (go_at_call 5; with_reducible refine (HPL.out _).mono ?_; rintro e wX ⟨rfl, hbX⟩; have z0 : World.cell? wX ⟨u0.heap.size, 0, none⟩ = some (.string k) := cell_keep (by first | assumption | exact cell_drew (by assumption)) hbX; have z1 : World.cell? wX ⟨u0.heap.size, 1, none⟩ = some (.string t) := cell_keep (by first | assumption | exact cell_drew (by assumption)) hbX; have hBX : Below w.heap.size w wX := below_keep (by first | assumption | exact Below.drew (by assumption)) (Nat.le_refl _) hbX)
            | (refine step_append_own rfl (.tmp 54) (.tmp 60) 46 rfl w.heap.size 9 i0 (.string ⟨#[]⟩) 1 16 Tryz.underlying46 hi' hz0 hz1 hz2 rfl (by decide) (.slice none 0 0) 0 [] (by simp [Act.eval]) (World.ownsRow_nil _ _ _ _) ⟨wX.heap.size, 0, none⟩ 2 2 [.string k, .string P] (by simp [Act.eval]) rfl (cells2_new wX _ _ 9) (two_cell _ _) (by unfold maxLen; omega) (by omega) (by have := hBX.size; simp; omega) ?_; intro v7 u7 hou7 hgu7; have hBu7 : Below w.heap.size w u7 := below_grown (hBX.alloc hBX.size (.cells #[.string k, .string P] 9)) hgu7 (by intro k hk; simp [Value.ownBlock] at hk) (by have := hBX.size; simp; omega); have x0 : u7.cell? ⟨u0.heap.size, 0, none⟩ = some (.string k) := hgu7.cell (cell_alloc (by first | assumption | exact cell_drew (by assumption))) (by simp [Value.ownBlock]); have x1 : u7.cell? ⟨u0.heap.size, 1, none⟩ = some (.string t) := hgu7.cell (cell_alloc (by first | assumption | exact cell_drew (by assumption))) (by simp [Value.ownBlock])))
        all_goals
          go_wp2_with fail
          exact ⟨⟨_, _, _, _, _, _, _, _, _, _, _, _, _, _, _, .inr ⟨rfl, hou7, hBu7⟩, rfl⟩, by simp [RowKit.intOf]⟩
      · go_wp2_with fail
        go_ret2
        exact ⟨⟨_, rfl, by rw [HP.out]; exact hown⟩, hbw⟩
end Go.Proofs.YtonjmfbalkdmfaaGreatDoor

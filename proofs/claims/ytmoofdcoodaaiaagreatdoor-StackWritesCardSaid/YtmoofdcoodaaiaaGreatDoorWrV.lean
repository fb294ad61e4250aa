/- What the reference's Written answers. -/
import Derived.Test.YtmoofdcoodaaiaaGreatDoorWrE
import Derived.Test.YtmoofdcoodaaiaaGreatDoorWrM
import Derived.Test.YtmoofdcoodaaiaaGreatDoorWrR
namespace Go.Proofs.YtmoofdcoodaaiaaGreatDoor
open Go.RowKit Go.Lib

def svL (L : List (List UInt8)) : List Value := L.map fun x => .string (bs x)
theorem svL_snoc (L : List (List UInt8)) (x : List UInt8) : svL (L ++ [x]) = svL L ++ [.string (bs x)] := by simp [svL]
theorem svL_two (L : List (List UInt8)) (x y : List UInt8) : svL (L ++ [x, y]) = svL L ++ [.string (bs x), .string (bs y)] := by simp [svL]
theorem svL_sv (L : List (List UInt8)) : svL L = sv (L.map bs) := by simp [svL, sv]
theorem own_cnt {w : World} {B c : Nat} {v : Value} {L : List (List UInt8)} (h : w.ownsRow B 9 1 v c (svL L)) : c = L.length := by
  have := h.1
  simpa [svL] using this.symm
/-- The lines joined. -/
theorem join_lines {w : World} {B c : Nat} {v : Value} {L : List (List UInt8)} (ho : w.ownsRow B 9 1 v c (svL (L ++ [[]]))) (hl : L.length ≤ 4900) (hf : ∀ x ∈ L, x.length ≤ 3000) :
    Calls Tryz.prog 26 #[v, .string ⟨#[10]⟩] w fun e w' => e = .returned (.string (bs (tx L))) ∧ Below w.heap.size w w' := by
  have hc := own_cnt ho
  rw [svL_sv] at ho
  refine (join_own (c := 10) ho (by rw [List.length_map]; exact hc) (by rw [List.length_map, List.length_append]; simp; omega) ?_).mono ?_
  · intro x hx
    obtain ⟨y, hy, rfl⟩ := List.mem_map.1 hx
    rw [bs_size]
    rcases List.mem_append.1 hy with hy | hy
    · exact hf y hy
    · simp at hy; subst hy; simp
  · rintro e w' ⟨rfl, hb⟩
    refine ⟨?_, hb⟩
    rw [List.map_map, show (fun x : ByteArray => x.data.toList) ∘ bs = id from funext bs_data, List.map_id, tx_join]
theorem cell_alloc {w : World} {p : Addr} {u : Value} {o : Obj} (h : w.cell? p = some u) : (w.alloc o).cell? p = some u :=
  (World.cell?_alloc_lt _ _ _ (World.block_lt_of_cell? _ _ h)).trans h
theorem own_drew {w : World} {base : Nat} {e : TypeId} {size : Nat} {v : Value} {n : Nat} {xs : List Value} (h : w.ownsRow base e size v n xs) : w.drew.ownsRow base e size v n xs := h
theorem ambs_false {l : List Fa} (h : ambs l = false) : ∀ f ∈ l, ∀ x ∈ f.fr, bang (x.m ++ x.f) = false := by
  intro f hf x hx
  have h1 : ambA f = false := by
    have := List.any_eq_false.1 h f hf
    simpa using this
  have h2 := List.any_eq_false.1 h1 x hx
  rw [bang_app]
  simpa [ambF] using h2
theorem grow_cell {u u2 : World} {o : Obj} {v : Value} {b j : Nat} {x : Value} (hg : (u.alloc o).grownBy u2 v.ownBlock) (hne : ∀ g, v.ownBlock = some g → g ≠ b) (hc : u.cell? ⟨b, j, none⟩ = some x) : u2.cell? ⟨b, j, none⟩ = some x :=
  hg.cell (cell_alloc hc) (fun h => hne b h.symm rfl)
theorem own_lt {w : World} {base : Nat} {e : TypeId} {size : Nat} {v : Value} {n : Nat} {xs : List Value} (h : w.ownsRow base e size v n xs) : ∀ k, v.ownBlock = some k → k < w.heap.size := fun k hk => (h.lt k hk).2
theorem step_append_own {P : Program} {ops : Array Oper} {o : Oper} {a : Act} {w : World} {K : Act → World → Prop} {Q : Exit → Act → World → Prop} {E : Prop} (hgd : o.guard = none) (s x : Operand) (t : TypeId)
    (ho : o.op = .call { callee := .builtin .append, args := #[s, x], argTypes := #[t, t] })
    (base : Nat) (e : TypeId) (i : TypeInfo) (z : Value) (size bytes : Nat) (ht : P.underlying t = some (.slice e)) (hi : P.info? e = some i) (hz : i.zero = some z)
    (hsize : i.size = size) (hby : i.bytes = bytes) (hzs : z.cells.size = size) (hsz : 0 < size)
    (v : Value) (n : Nat) (xs : List Value) (hs : a.eval s = v) (hown : w.ownsRow base e size v n xs)
    (ad : Addr) (m c : Nat) (news : List Value) (hx : a.eval x = .slice (some ad) m c) (hl : news.length = m * size) (hnews : ∀ j u, news[j]? = some u → w.cell? (ad.add j) = some u) (h1 : ∀ u ∈ news, u.oneCell' = true)
    (h63 : n + m ≤ maxLen) (hbytes : (n + m) * bytes ≤ 140737488355328) (hbase : base ≤ w.heap.size)
    (h : ∀ v' w', w'.ownsRow base e size v' (n + m) (xs ++ news) → w.grownBy w' v.ownBlock → K (a.put o.dst v') w') :
    if Region.wanted o (yielded ops a.tmps) = true then Oper.wp P o a w K Q else E := by
  rw [if_pos (by simp [Region.wanted, hgd])]
  exact wp_append_own w s x t ho base e i z size bytes ht hi hz hsize hby hzs hsz v n xs hs hown ad m c news hx hl hnews h1 h63 hbytes hbase fun v' w' h2 h3 _ => h v' w' h2 h3
theorem cells2_new (w : World) (u v : Value) (t : TypeId) : ∀ (q : Nat) (x : Value), [u, v][q]? = some x → (w.alloc (.cells #[u, v] t)).cell? (Addr.add ⟨w.heap.size, 0, none⟩ q) = some x := by
  intro q x hq
  match q, hq with
  | 0, hq => simp at hq; subst hq; simp [Addr.add]
  | 1, hq => simp at hq; subst hq; simp [Addr.add]
theorem two_cell (x y : ByteArray) : ∀ u ∈ [Value.string x, Value.string y], u.oneCell' = true := by intro u hu; simp at hu; rcases hu with rfl | rfl <;> rfl

set_option maxHeartbeats 2000000 in
set_option maxRecDepth 100000 in
theorem written_amb (v : Value) (l : List Fa) (form : Int) (w : World) (hv : SlA w v l) (hok : fasErr l = 0) (ha : ambs l = true) :
    Calls Tryz.prog 7 #[v, .int .i64 form] w fun e w' => e = .returned (.tuple #[.string ⟨#[]⟩, .bool false]) ∧ Below w.heap.size w w' := by
  obtain ⟨hl10, hall⟩ := fas_ok hok
  obtain ⟨p, cap, rfl, h1, h2, h3, h4⟩ := hv
  unfold maxLen at h2
  obtain ⟨n, hn⟩ : ∃ n, n = l.length := ⟨_, rfl⟩
  have HN := Lib.hid hn
  have HA := Lib.hid ha
  rw [← hn] at h1 hl10 ⊢
  clear hn hok ha
  go_enter Tryz.func7, Tryz.ntmps7
  go_wp2_with fail
  go_loopw [25] (fun v25 wr => ∃ k : Nat, k ≤ n ∧ v25 = .int .i64 k ∧ Hid (∀ f ∈ l.take k, ambA f = false) ∧ Below w.heap.size w wr) (fun v25 _ => n - (RowKit.intOf v25).toNat)
  case atStart => exact ⟨0, Nat.zero_le _, rfl, Lib.hid (by simp), Below.refl _ _⟩
  case round =>
    obtain ⟨w2, rfl⟩ : ∃ w2 : World, w2 = wr := ⟨_, rfl⟩
    obtain ⟨k, hk, rfl, HZ, hbw⟩ := hrel
    by_cases hlt : k < n
    · have hkl : k < l.length := by have := HN.out; omega
      rcases h4 with h4 | ⟨bb, off, rfl, hbb, hat⟩
      · rw [h4] at hkl; simp at hkl
      obtain ⟨c0, c1, c2⟩ := (hat k hkl).below hbb hbw
      have HS := Lib.hid (allz_succ (p := fun x => ambA x = false) hkl HZ.out)
      have hfk := (h3 _ (List.getElem_mem hkl)).2.2
      have hfo := hall _ (List.getElem_mem hkl)
      generalize l[k] = f at *
      obtain ⟨kd, tv, fv, fr⟩ := f
      obtain ⟨-, -, hf3, hf4⟩ := hfo
      simp only at c0 c1 c2 hfk hf3 hf4
      obtain ⟨q, qc, rfl, hq1, hq2, -, hq4⟩ := hfk
      unfold maxLen at hq2
      obtain ⟨nf, hnf⟩ : ∃ nf, nf = fr.length := ⟨_, rfl⟩
      have HNF := Lib.hid hnf
      rw [← hnf] at c2 hf3 hq1
      clear hnf hat hkl
      have hbwA := hbw.alloc hbw.size (.cells #[.string kd, .string tv, .slice q nf qc] 44)
      go_wp2_with fail
      clear c0 c1 c2
      go_loopw [32] (fun v32 wr => ∃ j : Nat, j ≤ nf ∧ v32 = .int .i64 j ∧ Hid (∀ x ∈ fr.take j, ambF x = false) ∧ Below w.heap.size w wr) (fun v32 _ => nf - (RowKit.intOf v32).toNat)
      case atStart => exact ⟨0, Nat.zero_le _, rfl, Lib.hid (by simp), hbwA⟩
      case round =>
        obtain ⟨w5, rfl⟩ : ∃ w5 : World, w5 = wr := ⟨_, rfl⟩
        obtain ⟨j, hj, rfl, HY, hbw5⟩ := hrel
        by_cases hjl : j < nf
        · have jl : j < fr.length := by have := HNF.out; omega
          rcases hq4 with hq4 | ⟨qb, qo, rfl, hqb, hqat⟩
          · rw [hq4] at jl; simp at jl
          obtain ⟨x0, x1, x2, x3, x4, x5⟩ := (hqat j jl).below hqb hbw5
          have hxo := hf4 _ (List.getElem_mem jl)
          have HT := Lib.hid (allz_succ (p := fun x => ambF x = false) jl HY.out)
          generalize fr[j] = x at *
          clear hqat jl
          have g1 := hxo.m
          have g2 := hxo.f
          have HB := Lib.hid (show bang (x.m ++ x.f) = ambF x from bang_app _ _)
          obtain ⟨A, hA⟩ : ∃ A, x.m ++ x.f = A := ⟨_, rfl⟩
          rw [hA] at HB
          have HC := Lib.hid (fun W => contains_bang A W)
          rw [HB.out] at HC
          have hbwB := hbw5.alloc hbw5.size (.cells #[.string x.m, .string x.f, .string x.i, .int .i64 x.line, .int .i64 x.addr, .bool x.own] 54)
          cases hx : ambF x
          · rw [hx] at HC
            have HXX := Lib.hid hx
            clear hx
            go_wp2_with (go_at_call 19; (with_reducible refine (HC.out _).mono ?_); rintro e w6 ⟨rfl, rfl⟩)
            exact ⟨⟨j + 1, by omega, by go_num, Lib.hid (HT.out HXX.out), hbwB⟩, by simp [RowKit.intOf] <;> omega⟩
          · rw [hx] at HC
            clear hx
            go_wp2_with (go_at_call 19; (with_reducible refine (HC.out _).mono ?_); rintro e w6 ⟨rfl, rfl⟩)
            go_ret2
            exact ⟨rfl, hbwB⟩
        · have HE := Lib.hid (HS.out (show ambA ⟨kd, tv, .slice q fr.length qc, fr⟩ = false from any_none (l := fr) (by have := HNF.out; omega) HY.out))
          go_wp2_with fail
          exact ⟨⟨k + 1, by omega, by go_num, HE, hbw5⟩, by simp [RowKit.intOf] <;> omega⟩
    · exfalso
      have h5 : ambs l = false := any_none (by have := HN.out; omega) HZ.out
      rw [HA.out] at h5
      cases h5

end Go.Proofs.YtmoofdcoodaaiaaGreatDoor

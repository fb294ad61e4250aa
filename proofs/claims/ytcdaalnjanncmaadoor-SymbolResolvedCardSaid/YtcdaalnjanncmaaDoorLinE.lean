/- The places of an offset: placesAt. -/
import Derived.Test.YtcdaalnjanncmaaDoorLinC
import Derived.Test.YtcdaalnjanncmaaDoorLinD
import Derived.Test.YtcdaalnjanncmaaDoorSymP
import Derived.Deep.RegionLaw
namespace Go.Proofs.YtcdaalnjanncmaaDoor
open Go.RowKit Go.Deep

theorem Tryd.info57 : (Tryd.prog.info? 57).map (fun i => (i.zero, i.size, i.bytes)) = some (some (.agg #[.string ⟨#[]⟩, .string ⟨#[]⟩, .int .i64 0]), 3, 40) := by kernel_rfl
theorem cellsP_len (l : List Pl) : (cellsG encP l).length = l.length * 3 := cellsG_length (enc := encP) (k := 3) (fun _ => rfl) l
theorem cellsP_at {l : List Pl} {i : Nat} {x : Pl} (h : l[i]? = some x) {j : Nat} (hj : j < 3) : (cellsG encP l)[i * 3 + j]? = (encP x)[j]? := by
  obtain ⟨hi, rfl⟩ := List.getElem?_eq_some_iff.1 h
  exact cellsG_at (k := 3) (fun _ => rfl) hi hj
theorem cellsP_snoc (l : List Pl) (c : Pl) : cellsG encP (l ++ [c]) = cellsG encP l ++ [.string c.n, .string c.f, .int .i64 c.l] := by rw [cellsG_append]; simp [cellsG, encP]
theorem cells3_new (w : World) (a b : ByteArray) (c : Int) (t : TypeId) : ∀ j u, [Value.string a, .string b, .int .i64 c][j]? = some u → (w.alloc (.cells #[.string a, .string b, .int .i64 c] t)).cell? ((⟨w.heap.size, 0, none⟩ : Addr).add j) = some u := by
  intro j u hj
  match j, hj with
  | 0, hj => simp at hj; subst hj; simp [Addr.add]
  | 1, hj => simp at hj; subst hj; simp [Addr.add]
  | 2, hj => simp at hj; subst hj; simp [Addr.add]
theorem cells3_one (a b : ByteArray) (c : Int) : ∀ u ∈ [Value.string a, .string b, .int .i64 c], u.oneCell' = true := by
  intro u hx
  simp only [List.mem_cons, List.not_mem_nil, or_false] at hx
  rcases hx with rfl | rfl | rfl <;> rfl
theorem step_append_own {P : Program} {ops : Array Oper} {o : Oper} {a : Act} {w : World} {K : Act → World → Prop} {Q : Exit → Act → World → Prop} {E : Prop} (hgd : o.guard = none) (s x : Operand) (t : TypeId)
    (ho : o.op = .call { callee := .builtin .append, args := #[s, x], argTypes := #[t, t] })
    (base : Nat) (e : TypeId) (i : TypeInfo) (z : Value) (size bytes : Nat) (ht : P.underlying t = some (.slice e)) (hi : P.info? e = some i) (hz : i.zero = some z)
    (hsize : i.size = size) (hby : i.bytes = bytes) (hzs : z.cells.size = size) (hsz : 0 < size)
    (v : Value) (n : Nat) (xs : List Value) (hs : a.eval s = v) (hown : w.ownsRow base e size v n xs)
    (ad : Addr) (m c : Nat) (news : List Value) (hx : a.eval x = .slice (some ad) m c) (hl : news.length = m * size) (hnews : ∀ j u, news[j]? = some u → w.cell? (ad.add j) = some u) (h1 : ∀ u ∈ news, u.oneCell' = true)
    (h63 : n + m ≤ maxLen) (hbytes : (n + m) * bytes ≤ 140737488355328) (hbase : base ≤ w.heap.size)
    (h : ∀ v' w', w'.ownsRow base e size v' (n + m) (xs ++ news) → w.grownBy w' v.ownBlock → K (a.put o.dst v') w') :
    if Region.wanted o (yielded ops a.tmps) = true then Oper.wp P o a w K Q else E := by
  rw [if_pos (by simp [Region.wanted, hgd])]
  exact wp_append_own w s x t ho base e i z size bytes ht hi hz hsize hby hzs hsz v n xs hs hown ad m c news hx hl hnews h1 h63 hbytes hbase fun v' w' h2 h3 _ => h v' w' h2 h3
theorem own_drew {w : World} {base : Nat} {e : TypeId} {size : Nat} {v : Value} {n : Nat} {xs : List Value} (h : w.ownsRow base e size v n xs) : w.drew.ownsRow base e size v n xs := h
theorem cell_drewL {w : World} {p : Addr} {v : Value} (h : w.cell? p = some v) : w.drew.cell? p = some v := h
theorem ne_blockB {v : Value} {B : Nat} (h : ∀ q, v.ownBlock = some q → B + 1 ≤ q) : v.ownBlock ≠ some B := fun he => by have := h B he; omega

theorem three_at {F : Nat → Value} {m : Nat} {x : Pl} (h : three F m x) {j : Nat} (hj : j < 3) : some (F (m + j)) = (encP x)[j]? := by
  obtain ⟨h0, h1, h2⟩ := h
  match j, hj with
  | 0, _ => rw [Nat.add_zero, h0]; rfl
  | 1, _ => rw [h1]; rfl
  | 2, _ => rw [h2]; rfl
theorem threes_own {w : World} {base g cap n : Nat} {F : Nat → Value} {L : List Pl} (h : w.rowIs g 57 (cap * 3) F) (hn : L.length = n) (hF : ∀ q x, q < n → L[q]? = some x → three F (q * 3) x) (hb : base ≤ g) (hl : n ≤ cap) (hc : cap ≤ maxLen) :
    w.ownsRow base 57 3 (.slice (some ⟨g, 0, none⟩) n cap) n (cellsG encP L) := by
  obtain ⟨c, hg, hs, hi⟩ := h
  subst hn
  refine ⟨cellsP_len L, .inr ⟨g, cap, c, rfl, hb, hg, hl, hc, hs, ?_⟩⟩
  apply List.ext_getElem?
  intro m
  by_cases hm : m < L.length * 3
  · rw [List.getElem?_take_of_lt hm]
    have hq : m / 3 < L.length := by omega
    have e : m = m / 3 * 3 + m % 3 := by omega
    have hr : m % 3 < 3 := Nat.mod_lt _ (by omega)
    generalize m / 3 = q at *
    generalize m % 3 = r at *
    subst e
    rw [cellsP_at (List.getElem?_eq_getElem hq) hr, ← three_at (hF q _ hq (List.getElem?_eq_getElem hq)) hr]
    have : L.length * 3 ≤ cap * 3 := Nat.mul_le_mul_right _ hl
    have := hi (q * 3 + r) (by omega)
    simpa using this
  · rw [List.getElem?_eq_none (by rw [List.length_take]; omega), List.getElem?_eq_none (by rw [cellsP_len]; omega)]
/-- Reverse at a row of the call's own. -/
theorem reverse_own (base : Nat) (v : Value) (l : List Pl) (w : World) (hp : 0 < l.length) (hl : l.length ≤ 2000) (hown : w.ownsRow base 57 3 v l.length (cellsG encP l)) :
    Calls Tryd.prog 71 #[v] w fun e w' => e = .returned (.tuple #[]) ∧ w'.ownsRow base 57 3 v l.length (cellsG encP l.reverse) ∧ w.grownBy w' v.ownBlock := by
  obtain ⟨_, ⟨_, hn⟩ | ⟨g, cap, cur, rfl, hbg, hg, hlc, hcm, hcs, htk⟩⟩ := hown
  · omega
  · refine (reverse_some g cap l.length (fun i => cur[i]?.getD default) l w rfl hl hlc ⟨cur, hg, hcs, fun i hi => by simp only; rw [Array.getElem?_eq_getElem (by omega)]; rfl⟩ ?_).mono ?_
    · intro q x hq hx
      unfold turned at hx
      rw [if_neg (by omega)] at hx
      have key : ∀ j, j < 3 → ((cur[q * 3 + j]?).getD default) = ((encP x)[j]?).getD default := by
        intro j hj
        have h1 := cellsP_at hx hj
        rw [← htk, List.getElem?_take_of_lt (by omega)] at h1
        rw [← h1]; simp
      exact ⟨key 0 (by omega), key 1 (by omega), key 2 (by omega)⟩
    · rintro e w1 ⟨rfl, ⟨F', hr, hF⟩, hgw⟩
      exact ⟨rfl, threes_own hr (by simp) hF hbg hlc hcm, hgw⟩

theorem outs_in {fs : List ByteArray} {p : Int} {a : ByteArray × Int} {name : ByteArray} {c : Cl} {l : List Cl} (h1 : c.a ≤ p) (h2 : p < c.b) : outs fs p a name (c :: l) = ⟨name, fileAt fs c.f, c.l⟩ :: outs fs p a c.n l := by rw [outs, if_pos ⟨h1, h2⟩]
theorem outs_out {fs : List ByteArray} {p : Int} {a : ByteArray × Int} {name : ByteArray} {c : Cl} {l : List Cl} (h : ¬ (c.a ≤ p ∧ p < c.b)) : outs fs p a name (c :: l) = outs fs p a name l := by rw [outs, if_neg h]

set_option maxHeartbeats 8000000 in
set_option maxRecDepth 100000 in
theorem placesAt_ok (v : Value) (t : Tb) (p : Int) (i : Nat) (fn : Fc) (w : World) (hv : TbV w v t) (hn : t.rows.length ≤ 5000) (hp : t.rows.Pairwise (fun r s => r.p < s.p)) (hf : ∀ r ∈ t.rows, r.f = -1 ∨ (0 ≤ r.f ∧ r.f < t.files.length))
    (hcn : t.calls.length ≤ 1000) (hcf : ∀ c ∈ t.calls, 0 ≤ c.f ∧ c.f < t.files.length) (h0 : 0 ≤ p) (h1 : p < t.size) (hat : fncAt p t.funcs = (i : Int)) (hi : t.funcs[i]? = some fn) (hil : t.funcs.length ≤ 1000) :
    Calls Tryd.prog 43 #[v, .int .i64 p] w fun e w' => ∃ u, e = .returned (.tuple #[u, .int .i64 0]) ∧ Below w.heap.size w w' ∧ w'.ownsRow (w.heap.size + 1) 57 3 u (placesOf t p fn.n).length (cellsG encP (placesOf t p fn.n)) := by
  have HAT := Lib.hid (fun (W : World) (hW : Below w.heap.size w W) => funcAt_any v t p W (hv.below (Nat.le_refl _) hW))
  rw [atVal_some hat] at HAT
  have HLA := Lib.hid (fun (W : World) (hW : Below w.heap.size w W) => lineAt_any v t p W (hv.below (Nat.le_refl _) hW) hn hp hf)
  obtain ⟨v1, v2, v3, v4, rfl, hid, hsz, ⟨p1, c1, rfl, l1, m1, f1, o1⟩, ⟨p2, c2, rfl, l2, m2, f2, o2⟩, ⟨p3, c3, rfl, l3, m3, f3, o3⟩, ⟨p4, c4, rfl, l4, m4, f4, o4⟩⟩ := hv
  clear hp hf hat f1 f2 f3 f4 o3 hid hsz l2 l3 l4 m2 m3 m4 hn
  obtain ⟨hil2, hfx⟩ := List.getElem?_eq_some_iff.1 hi
  rcases o2 with hz | ⟨bn, on_, rfl, hbn, hcn2⟩
  · rw [hz] at hil2; simp at hil2
  have q0 := (hcn2.fnc hil2).1
  rw [hfx] at q0
  clear hfx hi hcn2
  obtain ⟨fnm, fa, fb⟩ := fn
  simp only at q0 ⊢
  have hiz : (i : Int) < (t.funcs.length : Int) := by omega
  have hwi : IntKind.i64.wrap (i : Int) = (i : Int) := IntWalk.i64_in _ ⟨by omega, by omega⟩
  have d1 : decide (p < 0) = false := decide_eq_false (by omega)
  have d2 : decide (t.size ≤ p) = false := decide_eq_false (by omega)
  have hA : Below w.heap.size w (w.alloc (.cells #[.string t.id, .int .i64 t.size, .slice p1 t.files.length c1, .slice (some ⟨bn, on_, none⟩) t.funcs.length c2, .slice p3 t.rows.length c3, .slice p4 t.calls.length c4] 42)) := (Below.refl _ _).alloc (Nat.le_refl _) _
  obtain ⟨i0, hi0, hz0, hz1, hz2⟩ := info_parts Tryd.info57
  have hz5 : (Value.agg #[.string ⟨#[]⟩, .string ⟨#[]⟩, .int .i64 0]).cells.size = 3 := rfl
  generalize hla : lineAt t p = la at *
  obtain ⟨laf, lal⟩ := la
  simp only at HLA
  have HPL := Lib.hid (show placesOf t p fnm = (outs t.files p (laf, lal) fnm t.calls).reverse by unfold placesOf; rw [hla])
  rw [HPL.out]
  have HOL := Lib.hid (outs_length t.files p (laf, lal) t.calls fnm)
  clear hla h0 h1 hil2
  go_enter Tryd.func43, Tryd.ntmps43
  go_wp2_with (go_at_call 16; with_reducible refine (HAT.out _ hA).mono ?_; rintro e w1 ⟨rfl, hb1⟩; have hbw1 := below_call hA hA.size hb1; have q0 := (hbw1.cell (p := ⟨bn, _, none⟩) hbn).trans q0; have g0 : w1.cell? ⟨w.heap.size, 0, none⟩ = some (.string t.id) := (hb1.cell (p := ⟨w.heap.size, 0, none⟩) (by simp)).trans (by go_simp); have g1 : w1.cell? ⟨w.heap.size, 1, none⟩ = some (.int .i64 t.size) := (hb1.cell (p := ⟨w.heap.size, 1, none⟩) (by simp)).trans (by go_simp); have g2 : w1.cell? ⟨w.heap.size, 2, none⟩ = some (.slice p1 t.files.length c1) := (hb1.cell (p := ⟨w.heap.size, 2, none⟩) (by simp)).trans (by go_simp); have g3 : w1.cell? ⟨w.heap.size, 3, none⟩ = some (.slice (some ⟨bn, on_, none⟩) t.funcs.length c2) := (hb1.cell (p := ⟨w.heap.size, 3, none⟩) (by simp)).trans (by go_simp); have g4 : w1.cell? ⟨w.heap.size, 4, none⟩ = some (.slice p3 t.rows.length c3) := (hb1.cell (p := ⟨w.heap.size, 4, none⟩) (by simp)).trans (by go_simp); have g5 : w1.cell? ⟨w.heap.size, 5, none⟩ = some (.slice p4 t.calls.length c4) := (hb1.cell (p := ⟨w.heap.size, 5, none⟩) (by simp)).trans (by go_simp))
  go_loopw [8, 9, 39] (fun v8 v9 v wr => ∃ (k : Nat) (acc : List Pl) (name : ByteArray) (va : Value), va = v8 ∧ v9 = .string name ∧ k ≤ t.calls.length ∧ acc.length ≤ k ∧ v = .int .i64 k ∧ outs t.files p (laf, lal) fnm t.calls = acc ++ outs t.files p (laf, lal) name (t.calls.drop k) ∧ wr.ownsRow (w.heap.size + 1) 57 3 va acc.length (cellsG encP acc) ∧ wr.cell? ⟨w.heap.size, 0, none⟩ = some (.string t.id) ∧ wr.cell? ⟨w.heap.size, 1, none⟩ = some (.int .i64 t.size) ∧ wr.cell? ⟨w.heap.size, 2, none⟩ = some (.slice p1 t.files.length c1) ∧ wr.cell? ⟨w.heap.size, 3, none⟩ = some (.slice (some ⟨bn, on_, none⟩) t.funcs.length c2) ∧ wr.cell? ⟨w.heap.size, 4, none⟩ = some (.slice p3 t.rows.length c3) ∧ wr.cell? ⟨w.heap.size, 5, none⟩ = some (.slice p4 t.calls.length c4) ∧ Below w.heap.size w wr) (fun _ _ v _ => t.calls.length - (RowKit.intOf v).toNat)
  case atStart => exact ⟨0, [], fnm, _, rfl, rfl, Nat.zero_le _, Nat.zero_le _, rfl, rfl, ⟨rfl, .inl ⟨rfl, rfl⟩⟩, g0, g1, g2, g3, g4, g5, hbw1⟩
  case round =>
    clear g0 g1 g2 g3 g4 g5 q0
    obtain ⟨k, acc, name, va, rfl, rfl, hk, hak, rfl, heq, hown, g0, g1, g2, g3, g4, g5, hbw⟩ := hrel
    have HEQ := Lib.hid heq
    clear heq
    have hge := fun q h => own_lt (k := q) hown h
    have hneB : va.ownBlock ≠ some w.heap.size := fun h => by have := (hge _ h).1; omega
    have hBG : ∀ q, va.ownBlock = some q → w.heap.size ≤ q := fun q h => by have := (hge _ h).1; omega
    have hlg := World.block_lt_of_cell? _ _ g0
    simp only at hlg
    by_cases hlt : k < t.calls.length
    · have HD := Lib.hid (List.drop_eq_getElem_cons hlt)
      rcases o4 with hz | ⟨b, off, rfl, hb, hc⟩
      · rw [hz] at hlt; simp at hlt
      obtain ⟨k0, k1, k2, k3, k4⟩ := hc.cal hlt
      have k0 := (hbw.cell (p := ⟨b, _, none⟩) hb).trans k0
      have k1 := (hbw.cell (p := ⟨b, _, none⟩) hb).trans k1
      have k2 := (hbw.cell (p := ⟨b, _, none⟩) hb).trans k2
      have k3 := (hbw.cell (p := ⟨b, _, none⟩) hb).trans k3
      have k4 := (hbw.cell (p := ⟨b, _, none⟩) hb).trans k4
      have hcr := hcf _ (List.getElem_mem hlt)
      generalize t.calls[k] = c at *
      obtain ⟨cn, ca, cb, cf, cl⟩ := c
      simp only at k0 k1 k2 k3 k4 hcr
      have HH := Lib.hid (fun u (h : outs t.files p (laf, lal) name (⟨cn, ca, cb, cf, cl⟩ :: t.calls.drop (k + 1)) = u) => (show outs t.files p (laf, lal) fnm t.calls = acc ++ u by rw [HEQ.out, HD.out, h]))
      clear HEQ HD
      have hbwA := hbw.alloc hbw.size (.cells #[.string cn, .int .i64 ca, .int .i64 cb, .int .i64 cf, .int .i64 cl] 84)
      have hownA := hown.alloc (.cells #[.string cn, .int .i64 ca, .int .i64 cb, .int .i64 cf, .int .i64 cl] 84)
      have a0 : (wr.alloc (.cells #[.string cn, .int .i64 ca, .int .i64 cb, .int .i64 cf, .int .i64 cl] 84)).cell? ⟨w.heap.size, 0, none⟩ = some (.string t.id) := (World.cell?_alloc_lt _ _ _ hlg).trans g0
      have a1 : (wr.alloc (.cells #[.string cn, .int .i64 ca, .int .i64 cb, .int .i64 cf, .int .i64 cl] 84)).cell? ⟨w.heap.size, 1, none⟩ = some (.int .i64 t.size) := (World.cell?_alloc_lt _ _ _ hlg).trans g1
      have a2 : (wr.alloc (.cells #[.string cn, .int .i64 ca, .int .i64 cb, .int .i64 cf, .int .i64 cl] 84)).cell? ⟨w.heap.size, 2, none⟩ = some (.slice p1 t.files.length c1) := (World.cell?_alloc_lt _ _ _ hlg).trans g2
      have a3 : (wr.alloc (.cells #[.string cn, .int .i64 ca, .int .i64 cb, .int .i64 cf, .int .i64 cl] 84)).cell? ⟨w.heap.size, 3, none⟩ = some (.slice (some ⟨bn, on_, none⟩) t.funcs.length c2) := (World.cell?_alloc_lt _ _ _ hlg).trans g3
      have a4 : (wr.alloc (.cells #[.string cn, .int .i64 ca, .int .i64 cb, .int .i64 cf, .int .i64 cl] 84)).cell? ⟨w.heap.size, 4, none⟩ = some (.slice p3 t.rows.length c3) := (World.cell?_alloc_lt _ _ _ hlg).trans g4
      have a5 : (wr.alloc (.cells #[.string cn, .int .i64 ca, .int .i64 cb, .int .i64 cf, .int .i64 cl] 84)).cell? ⟨w.heap.size, 5, none⟩ = some (.slice (some ⟨b, off, none⟩) t.calls.length c4) := (World.cell?_alloc_lt _ _ _ hlg).trans g5
      by_cases hin : ca ≤ p ∧ p < cb
      · have e1 : decide (ca ≤ p) = true := decide_eq_true hin.1
        have e2 : decide (p < cb) = true := decide_eq_true hin.2
        have HADD := Lib.hid (HH.out _ (outs_in hin.1 hin.2))
        clear hin HH
        obtain ⟨fi, rfl⟩ := Int.eq_ofNat_of_zero_le hcr.1
        have hfl : fi < t.files.length := by omega
        rcases o1 with hz | ⟨bf, of, rfl, hbf, hcfl⟩
        · rw [hz] at hfl; simp at hfl
        have fq := (hbwA.cell (p := ⟨bf, _, none⟩) hbf).trans (hcfl.str hfl)
        have HFA := Lib.hid (show fileAt t.files (fi : Int) = t.files[fi] by unfold fileAt; simp [List.getD, List.getElem?_eq_getElem hfl])
        simp only at HADD
        rw [HFA.out] at HADD
        generalize t.files[fi] = fs at *
        have hfz : (fi : Int) < (t.files.length : Int) := by omega
        have hwf : IntKind.i64.wrap (fi : Int) = (fi : Int) := IntWalk.i64_in _ ⟨by omega, by unfold maxLen at m1; omega⟩
        have hlbf : bf < wr.heap.size := by have := hbw.size; omega
        have hownY := (own_drew hownA).alloc (.cells #[.string name, .string fs, .int .i64 cl] 57)
        have hsrc := cells3_new ((wr.alloc (.cells #[.string cn, .int .i64 ca, .int .i64 cb, .int .i64 fi, .int .i64 cl] 84)).drew) name fs cl 57
        have hone := cells3_one name fs cl
        have hneC : va.ownBlock ≠ some wr.heap.size := fun h => by have := (hge _ h).2; omega
        have hbwW := (Below.drew hbwA).alloc (Below.drew hbwA).size (.cells #[.string name, .string fs, .int .i64 cl] 57)
        have hfc : (((wr.alloc (.cells #[.string cn, .int .i64 ca, .int .i64 cb, .int .i64 fi, .int .i64 cl] 84)).drew).alloc (.cells #[.string name, .string fs, .int .i64 cl] 57)).cell? ⟨wr.heap.size, 0, none⟩ = some (.string cn) := by
          rw [World.cell?_alloc_lt _ _ _ (by simp [World.drew])]
          show (wr.alloc _).cell? _ = _
          go_simp
        have dd0 : (((wr.alloc (.cells #[.string cn, .int .i64 ca, .int .i64 cb, .int .i64 fi, .int .i64 cl] 84)).drew).alloc (.cells #[.string name, .string fs, .int .i64 cl] 57)).cell? ⟨w.heap.size, 0, none⟩ = some (.string t.id) := (World.cell?_alloc_lt _ _ _ (World.block_lt_of_cell? _ _ (cell_drewL a0))).trans (cell_drewL a0)
        have dd1 : (((wr.alloc (.cells #[.string cn, .int .i64 ca, .int .i64 cb, .int .i64 fi, .int .i64 cl] 84)).drew).alloc (.cells #[.string name, .string fs, .int .i64 cl] 57)).cell? ⟨w.heap.size, 1, none⟩ = some (.int .i64 t.size) := (World.cell?_alloc_lt _ _ _ (World.block_lt_of_cell? _ _ (cell_drewL a1))).trans (cell_drewL a1)
        have dd2 : (((wr.alloc (.cells #[.string cn, .int .i64 ca, .int .i64 cb, .int .i64 fi, .int .i64 cl] 84)).drew).alloc (.cells #[.string name, .string fs, .int .i64 cl] 57)).cell? ⟨w.heap.size, 2, none⟩ = some (.slice (some ⟨bf, of, none⟩) t.files.length c1) := (World.cell?_alloc_lt _ _ _ (World.block_lt_of_cell? _ _ (cell_drewL a2))).trans (cell_drewL a2)
        have dd3 : (((wr.alloc (.cells #[.string cn, .int .i64 ca, .int .i64 cb, .int .i64 fi, .int .i64 cl] 84)).drew).alloc (.cells #[.string name, .string fs, .int .i64 cl] 57)).cell? ⟨w.heap.size, 3, none⟩ = some (.slice (some ⟨bn, on_, none⟩) t.funcs.length c2) := (World.cell?_alloc_lt _ _ _ (World.block_lt_of_cell? _ _ (cell_drewL a3))).trans (cell_drewL a3)
        have dd4 : (((wr.alloc (.cells #[.string cn, .int .i64 ca, .int .i64 cb, .int .i64 fi, .int .i64 cl] 84)).drew).alloc (.cells #[.string name, .string fs, .int .i64 cl] 57)).cell? ⟨w.heap.size, 4, none⟩ = some (.slice p3 t.rows.length c3) := (World.cell?_alloc_lt _ _ _ (World.block_lt_of_cell? _ _ (cell_drewL a4))).trans (cell_drewL a4)
        have dd5 : (((wr.alloc (.cells #[.string cn, .int .i64 ca, .int .i64 cb, .int .i64 fi, .int .i64 cl] 84)).drew).alloc (.cells #[.string name, .string fs, .int .i64 cl] 57)).cell? ⟨w.heap.size, 5, none⟩ = some (.slice (some ⟨b, off, none⟩) t.calls.length c4) := (World.cell?_alloc_lt _ _ _ (World.block_lt_of_cell? _ _ (cell_drewL a5))).trans (cell_drewL a5)
        have q1 : acc.length + 1 ≤ maxLen := by unfold maxLen; omega
        have q2 : (acc.length + 1) * 40 ≤ 140737488355328 := by omega
        have q3 : w.heap.size + 1 ≤ (((wr.alloc (.cells #[.string cn, .int .i64 ca, .int .i64 cb, .int .i64 fi, .int .i64 cl] 84)).drew).alloc (.cells #[.string name, .string fs, .int .i64 cl] 57)).heap.size := by have := hbw.size; simp [World.drew]; omega
        go_wp2_with fail
        go_region_law (refine step_append_own rfl (.tmp 53) (.tmp 64) 53 rfl (w.heap.size + 1) 57 i0 _ 3 40 Tryd.underlying53 hi0 hz0 hz1 hz2 hz5 (by decide) va acc.length _ (by simp [Act.eval]) hownY ⟨(wr.alloc (.cells #[.string cn, .int .i64 ca, .int .i64 cb, .int .i64 fi, .int .i64 cl] 84)).drew.heap.size, 0, none⟩ 1 1 [.string name, .string fs, .int .i64 cl] (by simp [Act.eval]) rfl hsrc hone q1 q2 q3 ?_; intro v4 w4 hown4 hgr4)
        all_goals (
          have fc := cell_grown hgr4 hfc hneC
          go_wp2_with fail
          exact ⟨⟨k + 1, acc ++ [⟨name, fs, cl⟩], cn, v4, rfl, rfl, by omega, by simp; omega, by go_num, by rw [HADD.out]; simp, by rw [cellsP_snoc, List.length_append]; exact hown4, cell_grown hgr4 dd0 hneB, cell_grown hgr4 dd1 hneB, cell_grown hgr4 dd2 hneB, cell_grown hgr4 dd3 hneB, cell_grown hgr4 dd4 hneB, cell_grown hgr4 dd5 hneB, below_grown hbwW hgr4 hBG hbwW.size⟩, by simp [RowKit.intOf]; omega⟩)
      · have HADD := Lib.hid (HH.out _ (outs_out hin))
        clear HH
        go_wp2_with fail
        all_goals first
          | exact ⟨⟨k + 1, acc, name, va, rfl, rfl, by omega, by omega, by go_num, HADD.out, hownA, a0, a1, a2, a3, a4, a5, hbwA⟩, by simp [RowKit.intOf]; omega⟩
          | (exfalso; omega)
    · have HE := Lib.hid (show outs t.files p (laf, lal) fnm t.calls = acc ++ [⟨name, laf, lal⟩] by rw [HEQ.out, List.drop_of_length_le (by omega)]; rfl)
      have hone := cells3_one name laf lal
      have q1 : acc.length + 1 ≤ maxLen := by unfold maxLen; omega
      have q2 : (acc.length + 1) * 40 ≤ 140737488355328 := by omega
      have hlr : (acc ++ [(⟨name, laf, lal⟩ : Pl)]).length = acc.length + 1 := by simp
      clear HEQ
      go_wp2_with (first
        | (go_at_call 70; with_reducible refine (HLA.out _ hbw).mono ?_; rintro e w5 ⟨rfl, hb5⟩; have hbw5 := below_call hbw hbw.size hb5; have hown5 := (own_keeps hown hb5).alloc (.cells #[.string name, .string laf, .int .i64 lal] 57); have hsrc5 := cells3_new w5 name laf lal 57; have q3 : w.heap.size + 1 ≤ (w5.alloc (.cells #[.string name, .string laf, .int .i64 lal] 57)).heap.size := (by have := hbw5.size; simp; omega); have hbwZ := hbw5.alloc hbw5.size (.cells #[.string name, .string laf, .int .i64 lal] 57))
        | (at_builtin; (refine wpList_append_own _ rfl _ _ 53 rfl (w.heap.size + 1) 57 i0 _ 3 40 Tryd.underlying53 hi0 hz0 hz1 hz2 hz5 (by decide) va acc.length _ rfl hown5 ⟨w5.heap.size, 0, none⟩ 1 1 [.string name, .string laf, .int .i64 lal] rfl rfl hsrc5 hone q1 q2 q3 ?_; intro v6 w6 hown6 hgr6 _; have hown7 : w6.ownsRow (w.heap.size + 1) 57 3 v6 (acc ++ [(⟨name, laf, lal⟩ : Pl)]).length (cellsG encP (acc ++ [⟨name, laf, lal⟩])) := (by rw [cellsP_snoc, hlr]; exact hown6); have hbw6 := below_grown hbwZ hgr6 hBG hbwZ.size; have hge6 := fun q h => own_lt (k := q) hown7 h))
        | (go_at_call 71; with_reducible refine (reverse_own (w.heap.size + 1) _ _ _ (by rw [hlr]; omega) (by rw [hlr]; omega) hown7).mono ?_; rintro e w8 ⟨rfl, hown8, hgr8⟩))
      go_ret2
      exact ⟨v6, rfl, below_grown hbw6 hgr8 (fun q h => by have := (hge6 q h).1; omega) hbw6.size, by rw [List.length_reverse, HE.out]; exact hown8⟩
end Go.Proofs.YtcdaalnjanncmaaDoor

/- What the reference writes behind a name. -/
import Derived.Test.YtmoofdcoodaaiaaGreatDoorWrN
import Derived.Test.YtmoofdcoodaaiaaGreatDoorWrD
import Derived.Lib.Slices
import Derived.Laws.AppendOwn
import Derived.Deep.CutRange
namespace Go.Proofs.YtmoofdcoodaaiaaGreatDoor
open Go.RowKit Go.Lib

def sv (l : List ByteArray) : List Value := l.map fun x => .string x
theorem infoS : (Tryz.prog.info? 9).map (fun i => (i.zero, i.size, i.bytes)) = some (some (.string ⟨#[]⟩), 1, 16) := by kernel_rfl
theorem cell_new (w : World) (u : Value) (t : TypeId) : ∀ (q : Nat) (x : Value), [u][q]? = some x → (w.alloc (.cells #[u] t)).cell? (Addr.add ⟨w.heap.size, 0, none⟩ q) = some x := by
  intro q x hq
  match q, hq with
  | 0, hq => simp at hq; subst hq; simp [Addr.add]
theorem one_cell (x : ByteArray) : ∀ u ∈ [Value.string x], u.oneCell' = true := by intro u hu; simp at hu; subst hu; rfl
theorem own_base {w : World} {base : Nat} {e : TypeId} {size : Nat} {v : Value} {n : Nat} {xs : List Value} (h : w.ownsRow base e size v n xs) : ∀ k, v.ownBlock = some k → base ≤ k := fun k hk => (h.lt k hk).1
theorem below_grown {w' : World} {B : Nat} {a w : World} {row : Option Nat} (h : Below B a w) (hg : w.grownBy w' row) (hr : ∀ k, row = some k → B ≤ k) (hB : B ≤ w.heap.size) : Below B a w' :=
  ⟨hg.os.trans h.os, hg.tape.trans h.tape, hg.output.trans h.output, Nat.le_trans h.size hg.size, fun k hk => (hg.block k (by omega) (fun e => by have := hr k e.symm; omega)).trans (h.block k hk)⟩
/-- What stands behind an append to a row of the call's own. -/
theorem st_grow {w u u2 : World} {o : Obj} {v : Value} {n : Nat} {xs : List Value} (hb : Below w.heap.size w u) (hs : w.heap.size + 1 ≤ u.heap.size) (ho : u.ownsRow (w.heap.size + 1) 9 1 v n xs) (hg : (u.alloc o).grownBy u2 v.ownBlock) :
    Below w.heap.size w u2 ∧ w.heap.size + 1 ≤ u2.heap.size ∧ ∀ (j : Nat) (x : Value), u.cell? ⟨w.heap.size, j, none⟩ = some x → u2.cell? ⟨w.heap.size, j, none⟩ = some x := by
  refine ⟨below_grown (hb.alloc (by omega) o) hg (fun k hk => by have := own_base ho k hk; omega) (by simp; omega), by have := hg.size; simp at this; omega, fun j x hx => ?_⟩
  have d2 : (u.alloc o).cell? ⟨w.heap.size, j, none⟩ = some x := by rw [World.cell?_alloc_lt _ _ _ (show w.heap.size < u.heap.size by omega)]; exact hx
  exact hg.cell d2 (fun h => by have := own_base ho _ h.symm; simp at this; omega)
theorem joinTail_len (sep : List UInt8) (M : Nat) : ∀ l : List (List UInt8), (∀ x ∈ l, x.length ≤ M) → (Lib.joinTail sep l).length ≤ l.length * (M + sep.length)
  | [], _ => by simp [Lib.joinTail]
  | x :: l, h => by
    have ih := joinTail_len sep M l (fun y hy => h y (List.mem_cons_of_mem _ hy))
    have hx := h x (by simp)
    have : Lib.joinTail sep (x :: l) = sep ++ x ++ Lib.joinTail sep l := by simp [Lib.joinTail]
    rw [this, List.length_append, List.length_append, List.length_cons, Nat.add_mul]
    omega
theorem join_len {sep : List UInt8} {M : Nat} {l : List (List UInt8)} (h : ∀ x ∈ l, x.length ≤ M) : (Lib.join l sep).length ≤ l.length * (M + sep.length) := by
  cases l with
  | nil => simp [Lib.join_nil]
  | cons x l =>
    rw [Lib.join_cons, List.length_append, List.length_cons, Nat.add_mul]
    have := joinTail_len sep M l (fun y hy => h y (List.mem_cons_of_mem _ hy))
    have hx := h x (by simp)
    omega
/-- Join of a row of the call's own. -/
theorem join_own {w : World} {base n : Nat} {v : Value} {ws : List ByteArray} {c : UInt8} (ho : w.ownsRow base 9 1 v n (sv ws)) (hn : n = ws.length) (hl : ws.length ≤ 5000) (hf : ∀ x ∈ ws, x.size ≤ 3000) :
    Calls Tryz.prog 26 #[v, .string ⟨#[c]⟩] w fun e w' => e = .returned (.string (bs (Lib.join (ws.map (·.data.toList)) [c]))) ∧ Below w.heap.size w w' := by
  have hjl : (Lib.join (ws.map (·.data.toList)) (⟨#[c]⟩ : ByteArray).data.toList).length ≤ 140737488355328 := by
    have h1 : ∀ x ∈ ws.map (·.data.toList), x.length ≤ 3000 := by
      intro x hx
      obtain ⟨y, hy, rfl⟩ := List.mem_map.1 hx
      have := hf y hy
      rwa [Lib.size_eq] at this
    have h2 := join_len (sep := (⟨#[c]⟩ : ByteArray).data.toList) h1
    rw [List.length_map] at h2
    have h3 : (⟨#[c]⟩ : ByteArray).data.toList.length = 1 := rfl
    rw [h3] at h2
    have h4 : ws.length * (3000 + 1) ≤ 5000 * (3000 + 1) := Nat.mul_le_mul_right _ hl
    omega
  by_cases h0 : ws = []
  · subst h0
    have hn0 : n = 0 := hn
    subst hn0
    have : ∃ a c, v = .slice a 0 c := by
      rcases ho.2 with ⟨hv, _⟩ | ⟨g, cap, cur, hv, _⟩
      · exact ⟨_, _, hv⟩
      · exact ⟨_, _, hv⟩
    obtain ⟨a, c', rfl⟩ := this
    refine (Tryz.strings_Join_none a c' _ w).mono ?_
    rintro e w' ⟨rfl, rfl⟩
    exact ⟨rfl, Below.refl _ _⟩
  · have hpos : 0 < n := by rw [hn]; exact List.length_pos_iff.2 h0
    obtain ⟨h1, ⟨_, h2⟩ | ⟨g, cap, cur, rfl, hg, hc, h3, h4, h5, h6⟩⟩ := ho
    · omega
    · rw [hn] at h3 ⊢
      refine (Tryz.strings_Join g 0 cap ws ⟨#[c]⟩ w (fun j x hj => ?_) (Array.getElem?_eq_some_iff.1 hc).1 (by omega) h3 hjl).mono ?_
      · rw [Nat.zero_add]
        have hj' : (sv ws)[j]? = some (.string x) := by unfold sv; rw [List.getElem?_map, hj]; rfl
        simp only [World.cell?, hc]
        rw [← h6, List.getElem?_take] at hj'
        split at hj'
        · simpa using hj'
        · exact absurd hj' (by simp)
      · rintro e w' ⟨rfl, hb⟩
        exact ⟨rfl, hb⟩

set_option maxHeartbeats 4000000 in
set_option maxRecDepth 100000 in
theorem restR_0000 (m f i : ByteArray) (ln ad : Int) (ow : Bool) (w : World) (hx : FrOk ⟨m, f, i, ln, ad, ow⟩) (hi : i.size = 0) (had : ad < 0) (how : ow = false) :
    Calls Tryz.prog 25 #[.agg #[.string m, .string f, .string i, .int .i64 ln, .int .i64 ad, .bool ow]] w fun e w' => e = .returned (.string (bs (restW ⟨m, f, i, ln, ad, ow⟩))) ∧ Below w.heap.size w w' := by
  obtain ⟨i0, hi', hz0, hz1, hz2⟩ := info_parts infoS
  obtain ⟨g1, g2, g3, hln, hl1, ha0, ha1⟩ := hx
  simp only at g1 g2 g3 hln hl1 ha0 ha1
  have z1 : (⟨#[40]⟩ : ByteArray).size = 1 := rfl
  have z2 : (⟨#[41]⟩ : ByteArray).size = 1 := rfl
  have z3 : (⟨#[58]⟩ : ByteArray).size = 1 := rfl
  have z4 : (⟨#[64]⟩ : ByteArray).size = 1 := rfl
  have z5 : (⟨#[42]⟩ : ByteArray).size = 1 := rfl
  have HW := Lib.hid (show wordsW ⟨m, f, i, ln, ad, ow⟩ = [] by unfold wordsW w1 w2 w3 fileW; simp only; rw [if_pos hi, if_pos (show ad < 0 by omega)]; subst how; rfl)
  have hi2 := nil_eq i hi
  subst hi2
  clear hi
  have ha0 : ad = -1 := by omega
  subst ha0
  clear had
  subst how
  go_enter Tryz.func25, Tryz.ntmps25
  go_upto_region 1 with fail
  have hBu0 : Below w.heap.size w (w.alloc (.cells #[.string m, .string f, .string ⟨#[]⟩, .int .i64 ln, .int .i64 (-1), .bool false] 54)) := (Below.refl _ _).alloc (Nat.le_refl _) _
  have hsu0 : w.heap.size + 1 ≤ (w.alloc (.cells #[.string m, .string f, .string ⟨#[]⟩, .int .i64 ln, .int .i64 (-1), .bool false] 54)).heap.size := by simp
  have hou0 : (w.alloc (.cells #[.string m, .string f, .string ⟨#[]⟩, .int .i64 ln, .int .i64 (-1), .bool false] 54)).ownsRow (w.heap.size + 1) 9 1 (.slice none 0 0) 0 [] := World.ownsRow_nil _ _ _ _
  have c2u0 : (w.alloc (.cells #[.string m, .string f, .string ⟨#[]⟩, .int .i64 ln, .int .i64 (-1), .bool false] 54)).cell? ⟨w.heap.size, 2, none⟩ = some (.string ⟨#[]⟩) := by go_simp
  have c3u0 : (w.alloc (.cells #[.string m, .string f, .string ⟨#[]⟩, .int .i64 ln, .int .i64 (-1), .bool false] 54)).cell? ⟨w.heap.size, 3, none⟩ = some (.int .i64 ln) := by go_simp
  have c4u0 : (w.alloc (.cells #[.string m, .string f, .string ⟨#[]⟩, .int .i64 ln, .int .i64 (-1), .bool false] 54)).cell? ⟨w.heap.size, 4, none⟩ = some (.int .i64 (-1)) := by go_simp
  have c5u0 : (w.alloc (.cells #[.string m, .string f, .string ⟨#[]⟩, .int .i64 ln, .int .i64 (-1), .bool false] 54)).cell? ⟨w.heap.size, 5, none⟩ = some (.bool false) := by go_simp
  generalize w.alloc (.cells #[.string m, .string f, .string ⟨#[]⟩, .int .i64 ln, .int .i64 (-1), .bool false] 54) = u0 at *
  go_wp2_with (first
    | (go_at_call 26; (with_reducible refine (Tryz.strings_Join_none none 0 ⟨#[32]⟩ u0).mono ?_); rintro e uz ⟨rfl, rfl⟩))
  go_ret
  exact ⟨congrArg (fun x => Ending.returned (Value.string x)) (by unfold restW; rw [HW.out]; rfl), hBu0⟩

set_option maxHeartbeats 4000000 in
set_option maxRecDepth 100000 in
theorem restR_0001 (m f i : ByteArray) (ln ad : Int) (ow : Bool) (w : World) (hx : FrOk ⟨m, f, i, ln, ad, ow⟩) (hi : i.size = 0) (had : ad < 0) (how : ow = true) :
    Calls Tryz.prog 25 #[.agg #[.string m, .string f, .string i, .int .i64 ln, .int .i64 ad, .bool ow]] w fun e w' => e = .returned (.string (bs (restW ⟨m, f, i, ln, ad, ow⟩))) ∧ Below w.heap.size w w' := by
  obtain ⟨i0, hi', hz0, hz1, hz2⟩ := info_parts infoS
  obtain ⟨g1, g2, g3, hln, hl1, ha0, ha1⟩ := hx
  simp only at g1 g2 g3 hln hl1 ha0 ha1
  have z1 : (⟨#[40]⟩ : ByteArray).size = 1 := rfl
  have z2 : (⟨#[41]⟩ : ByteArray).size = 1 := rfl
  have z3 : (⟨#[58]⟩ : ByteArray).size = 1 := rfl
  have z4 : (⟨#[64]⟩ : ByteArray).size = 1 := rfl
  have z5 : (⟨#[42]⟩ : ByteArray).size = 1 := rfl
  have HW := Lib.hid (show wordsW ⟨m, f, i, ln, ad, ow⟩ = [(⟨#[42]⟩ : ByteArray)] by unfold wordsW w1 w2 w3 fileW; simp only; rw [if_pos hi, if_pos (show ad < 0 by omega)]; subst how; rfl)
  have hi2 := nil_eq i hi
  subst hi2
  clear hi
  have ha0 : ad = -1 := by omega
  subst ha0
  clear had
  subst how
  go_enter Tryz.func25, Tryz.ntmps25
  go_upto_region 1 with fail
  have hBu0 : Below w.heap.size w (w.alloc (.cells #[.string m, .string f, .string ⟨#[]⟩, .int .i64 ln, .int .i64 (-1), .bool true] 54)) := (Below.refl _ _).alloc (Nat.le_refl _) _
  have hsu0 : w.heap.size + 1 ≤ (w.alloc (.cells #[.string m, .string f, .string ⟨#[]⟩, .int .i64 ln, .int .i64 (-1), .bool true] 54)).heap.size := by simp
  have hou0 : (w.alloc (.cells #[.string m, .string f, .string ⟨#[]⟩, .int .i64 ln, .int .i64 (-1), .bool true] 54)).ownsRow (w.heap.size + 1) 9 1 (.slice none 0 0) 0 [] := World.ownsRow_nil _ _ _ _
  have c2u0 : (w.alloc (.cells #[.string m, .string f, .string ⟨#[]⟩, .int .i64 ln, .int .i64 (-1), .bool true] 54)).cell? ⟨w.heap.size, 2, none⟩ = some (.string ⟨#[]⟩) := by go_simp
  have c3u0 : (w.alloc (.cells #[.string m, .string f, .string ⟨#[]⟩, .int .i64 ln, .int .i64 (-1), .bool true] 54)).cell? ⟨w.heap.size, 3, none⟩ = some (.int .i64 ln) := by go_simp
  have c4u0 : (w.alloc (.cells #[.string m, .string f, .string ⟨#[]⟩, .int .i64 ln, .int .i64 (-1), .bool true] 54)).cell? ⟨w.heap.size, 4, none⟩ = some (.int .i64 (-1)) := by go_simp
  have c5u0 : (w.alloc (.cells #[.string m, .string f, .string ⟨#[]⟩, .int .i64 ln, .int .i64 (-1), .bool true] 54)).cell? ⟨w.heap.size, 5, none⟩ = some (.bool true) := by go_simp
  generalize w.alloc (.cells #[.string m, .string f, .string ⟨#[]⟩, .int .i64 ln, .int .i64 (-1), .bool true] 54) = u0 at *
  go_wp2_with (first
    | (at_builtin; refine wpList_append_own _ rfl _ _ 56 rfl (w.heap.size + 1) 9 i0 (.string ⟨#[]⟩) 1 16 Tryz.underlying56 hi' hz0 hz1 hz2 rfl (by decide) _ _ _ rfl (hou0.alloc (.cells #[.string (⟨#[42]⟩ : ByteArray)] 9)) ⟨u0.heap.size, 0, none⟩ 1 1 [.string (⟨#[42]⟩ : ByteArray)] rfl rfl (cell_new u0 _ 9) (one_cell _) (by unfold maxLen; omega) (by omega) (by simp; omega) ?_; intro v3 u5 hou5 hgu5 _; have hstu5 := st_grow hBu0 hsu0 hou0 hgu5; have hBu5 := hstu5.1; have hsu5 := hstu5.2.1; clear hstu5 hgu5)
    | (go_at_call 26; (with_reducible refine (join_own (ws := [(⟨#[42]⟩ : ByteArray)]) hou5 rfl (by simp) (by intro y hy; simp only [List.mem_cons, List.not_mem_nil, or_false] at hy; rcases hy with rfl <;> (try simp only [ByteArray.size_append]) <;> omega)).mono ?_); rintro e uz ⟨rfl, hbuz⟩))
  go_ret
  exact ⟨congrArg (fun x => Ending.returned (Value.string x)) (congrArg bs (by unfold restW; rw [HW.out]; rfl)), below_keep hBu5 (Nat.le_refl _) hbuz⟩

set_option maxHeartbeats 4000000 in
set_option maxRecDepth 100000 in
theorem restR_0010 (m f i : ByteArray) (ln ad : Int) (ow : Bool) (w : World) (hx : FrOk ⟨m, f, i, ln, ad, ow⟩) (hi : i.size = 0) (had : 0 ≤ ad) (how : ow = false) :
    Calls Tryz.prog 25 #[.agg #[.string m, .string f, .string i, .int .i64 ln, .int .i64 ad, .bool ow]] w fun e w' => e = .returned (.string (bs (restW ⟨m, f, i, ln, ad, ow⟩))) ∧ Below w.heap.size w w' := by
  obtain ⟨i0, hi', hz0, hz1, hz2⟩ := info_parts infoS
  obtain ⟨g1, g2, g3, hln, hl1, ha0, ha1⟩ := hx
  simp only at g1 g2 g3 hln hl1 ha0 ha1
  have z1 : (⟨#[40]⟩ : ByteArray).size = 1 := rfl
  have z2 : (⟨#[41]⟩ : ByteArray).size = 1 := rfl
  have z3 : (⟨#[58]⟩ : ByteArray).size = 1 := rfl
  have z4 : (⟨#[64]⟩ : ByteArray).size = 1 := rfl
  have z5 : (⟨#[42]⟩ : ByteArray).size = 1 := rfl
  have hxl := hex_len had ha1
  have HX := Lib.hid (fun (W : World) => inBase16_any ad.toNat W (by omega))
  rw [show ((ad.toNat : Nat) : Int) = ad by omega, show bs (hexL ad.toNat) = hexB ad from rfl] at HX
  have HW := Lib.hid (show wordsW ⟨m, f, i, ln, ad, ow⟩ = [(⟨#[64]⟩ ++ hexB ad)] by unfold wordsW w1 w2 w3 fileW; simp only; rw [if_pos hi, if_neg (show ¬ ad < 0 by omega)]; subst how; rfl)
  have hi2 := nil_eq i hi
  subst hi2
  clear hi
  subst how
  generalize hexB ad = hx at *
  go_enter Tryz.func25, Tryz.ntmps25
  go_upto_region 1 with fail
  have hBu0 : Below w.heap.size w (w.alloc (.cells #[.string m, .string f, .string ⟨#[]⟩, .int .i64 ln, .int .i64 ad, .bool false] 54)) := (Below.refl _ _).alloc (Nat.le_refl _) _
  have hsu0 : w.heap.size + 1 ≤ (w.alloc (.cells #[.string m, .string f, .string ⟨#[]⟩, .int .i64 ln, .int .i64 ad, .bool false] 54)).heap.size := by simp
  have hou0 : (w.alloc (.cells #[.string m, .string f, .string ⟨#[]⟩, .int .i64 ln, .int .i64 ad, .bool false] 54)).ownsRow (w.heap.size + 1) 9 1 (.slice none 0 0) 0 [] := World.ownsRow_nil _ _ _ _
  have c2u0 : (w.alloc (.cells #[.string m, .string f, .string ⟨#[]⟩, .int .i64 ln, .int .i64 ad, .bool false] 54)).cell? ⟨w.heap.size, 2, none⟩ = some (.string ⟨#[]⟩) := by go_simp
  have c3u0 : (w.alloc (.cells #[.string m, .string f, .string ⟨#[]⟩, .int .i64 ln, .int .i64 ad, .bool false] 54)).cell? ⟨w.heap.size, 3, none⟩ = some (.int .i64 ln) := by go_simp
  have c4u0 : (w.alloc (.cells #[.string m, .string f, .string ⟨#[]⟩, .int .i64 ln, .int .i64 ad, .bool false] 54)).cell? ⟨w.heap.size, 4, none⟩ = some (.int .i64 ad) := by go_simp
  have c5u0 : (w.alloc (.cells #[.string m, .string f, .string ⟨#[]⟩, .int .i64 ln, .int .i64 ad, .bool false] 54)).cell? ⟨w.heap.size, 5, none⟩ = some (.bool false) := by go_simp
  generalize w.alloc (.cells #[.string m, .string f, .string ⟨#[]⟩, .int .i64 ln, .int .i64 ad, .bool false] 54) = u0 at *
  go_wp2_with (first
    | (go_at_call 42; (with_reducible refine (HX.out u0).mono ?_); rintro e u3 ⟨rfl, hbu3⟩; have hBu3 := below_keep hBu0 (Nat.le_refl _) hbu3; have hsu3 := Nat.le_trans hsu0 hbu3.size; have hou3 := own_keeps hou0 hbu3; have c5u3 := cell_keep c5u0 hbu3)
    | (at_builtin; refine wpList_append_own _ rfl _ _ 56 rfl (w.heap.size + 1) 9 i0 (.string ⟨#[]⟩) 1 16 Tryz.underlying56 hi' hz0 hz1 hz2 rfl (by decide) _ _ _ rfl (hou3.alloc (.cells #[.string (⟨#[64]⟩ ++ hx)] 9)) ⟨u3.heap.size, 0, none⟩ 1 1 [.string (⟨#[64]⟩ ++ hx)] rfl rfl (cell_new u3 _ 9) (one_cell _) (by unfold maxLen; omega) (by omega) (by simp; omega) ?_; intro v2 u4 hou4 hgu4 _; have hstu4 := st_grow hBu3 hsu3 hou3 hgu4; have hBu4 := hstu4.1; have hsu4 := hstu4.2.1; have c5u4 := hstu4.2.2 _ _ c5u3; clear hstu4 hgu4)
    | (go_at_call 26; (with_reducible refine (join_own (ws := [(⟨#[64]⟩ ++ hx)]) hou4 rfl (by simp) (by intro y hy; simp only [List.mem_cons, List.not_mem_nil, or_false] at hy; rcases hy with rfl <;> (try simp only [ByteArray.size_append]) <;> omega)).mono ?_); rintro e uz ⟨rfl, hbuz⟩))
  go_ret
  exact ⟨congrArg (fun x => Ending.returned (Value.string x)) (congrArg bs (by unfold restW; rw [HW.out]; rfl)), below_keep hBu4 (Nat.le_refl _) hbuz⟩

set_option maxHeartbeats 4000000 in
set_option maxRecDepth 100000 in
theorem restR_0011 (m f i : ByteArray) (ln ad : Int) (ow : Bool) (w : World) (hx : FrOk ⟨m, f, i, ln, ad, ow⟩) (hi : i.size = 0) (had : 0 ≤ ad) (how : ow = true) :
    Calls Tryz.prog 25 #[.agg #[.string m, .string f, .string i, .int .i64 ln, .int .i64 ad, .bool ow]] w fun e w' => e = .returned (.string (bs (restW ⟨m, f, i, ln, ad, ow⟩))) ∧ Below w.heap.size w w' := by
  obtain ⟨i0, hi', hz0, hz1, hz2⟩ := info_parts infoS
  obtain ⟨g1, g2, g3, hln, hl1, ha0, ha1⟩ := hx
  simp only at g1 g2 g3 hln hl1 ha0 ha1
  have z1 : (⟨#[40]⟩ : ByteArray).size = 1 := rfl
  have z2 : (⟨#[41]⟩ : ByteArray).size = 1 := rfl
  have z3 : (⟨#[58]⟩ : ByteArray).size = 1 := rfl
  have z4 : (⟨#[64]⟩ : ByteArray).size = 1 := rfl
  have z5 : (⟨#[42]⟩ : ByteArray).size = 1 := rfl
  have hxl := hex_len had ha1
  have HX := Lib.hid (fun (W : World) => inBase16_any ad.toNat W (by omega))
  rw [show ((ad.toNat : Nat) : Int) = ad by omega, show bs (hexL ad.toNat) = hexB ad from rfl] at HX
  have HW := Lib.hid (show wordsW ⟨m, f, i, ln, ad, ow⟩ = [(⟨#[64]⟩ ++ hexB ad), (⟨#[42]⟩ : ByteArray)] by unfold wordsW w1 w2 w3 fileW; simp only; rw [if_pos hi, if_neg (show ¬ ad < 0 by omega)]; subst how; rfl)
  have hi2 := nil_eq i hi
  subst hi2
  clear hi
  subst how
  generalize hexB ad = hx at *
  go_enter Tryz.func25, Tryz.ntmps25
  go_upto_region 1 with fail
  have hBu0 : Below w.heap.size w (w.alloc (.cells #[.string m, .string f, .string ⟨#[]⟩, .int .i64 ln, .int .i64 ad, .bool true] 54)) := (Below.refl _ _).alloc (Nat.le_refl _) _
  have hsu0 : w.heap.size + 1 ≤ (w.alloc (.cells #[.string m, .string f, .string ⟨#[]⟩, .int .i64 ln, .int .i64 ad, .bool true] 54)).heap.size := by simp
  have hou0 : (w.alloc (.cells #[.string m, .string f, .string ⟨#[]⟩, .int .i64 ln, .int .i64 ad, .bool true] 54)).ownsRow (w.heap.size + 1) 9 1 (.slice none 0 0) 0 [] := World.ownsRow_nil _ _ _ _
  have c2u0 : (w.alloc (.cells #[.string m, .string f, .string ⟨#[]⟩, .int .i64 ln, .int .i64 ad, .bool true] 54)).cell? ⟨w.heap.size, 2, none⟩ = some (.string ⟨#[]⟩) := by go_simp
  have c3u0 : (w.alloc (.cells #[.string m, .string f, .string ⟨#[]⟩, .int .i64 ln, .int .i64 ad, .bool true] 54)).cell? ⟨w.heap.size, 3, none⟩ = some (.int .i64 ln) := by go_simp
  have c4u0 : (w.alloc (.cells #[.string m, .string f, .string ⟨#[]⟩, .int .i64 ln, .int .i64 ad, .bool true] 54)).cell? ⟨w.heap.size, 4, none⟩ = some (.int .i64 ad) := by go_simp
  have c5u0 : (w.alloc (.cells #[.string m, .string f, .string ⟨#[]⟩, .int .i64 ln, .int .i64 ad, .bool true] 54)).cell? ⟨w.heap.size, 5, none⟩ = some (.bool true) := by go_simp
  generalize w.alloc (.cells #[.string m, .string f, .string ⟨#[]⟩, .int .i64 ln, .int .i64 ad, .bool true] 54) = u0 at *
  go_wp2_with (first
    | (go_at_call 42; (with_reducible refine (HX.out u0).mono ?_); rintro e u3 ⟨rfl, hbu3⟩; have hBu3 := below_keep hBu0 (Nat.le_refl _) hbu3; have hsu3 := Nat.le_trans hsu0 hbu3.size; have hou3 := own_keeps hou0 hbu3; have c5u3 := cell_keep c5u0 hbu3)
    | (at_builtin; refine wpList_append_own _ rfl _ _ 56 rfl (w.heap.size + 1) 9 i0 (.string ⟨#[]⟩) 1 16 Tryz.underlying56 hi' hz0 hz1 hz2 rfl (by decide) _ _ _ rfl (hou3.alloc (.cells #[.string (⟨#[64]⟩ ++ hx)] 9)) ⟨u3.heap.size, 0, none⟩ 1 1 [.string (⟨#[64]⟩ ++ hx)] rfl rfl (cell_new u3 _ 9) (one_cell _) (by unfold maxLen; omega) (by omega) (by simp; omega) ?_; intro v2 u4 hou4 hgu4 _; have hstu4 := st_grow hBu3 hsu3 hou3 hgu4; have hBu4 := hstu4.1; have hsu4 := hstu4.2.1; have c5u4 := hstu4.2.2 _ _ c5u3; clear hstu4 hgu4)
    | (at_builtin; refine wpList_append_own _ rfl _ _ 56 rfl (w.heap.size + 1) 9 i0 (.string ⟨#[]⟩) 1 16 Tryz.underlying56 hi' hz0 hz1 hz2 rfl (by decide) _ _ _ rfl (hou4.alloc (.cells #[.string (⟨#[42]⟩ : ByteArray)] 9)) ⟨u4.heap.size, 0, none⟩ 1 1 [.string (⟨#[42]⟩ : ByteArray)] rfl rfl (cell_new u4 _ 9) (one_cell _) (by unfold maxLen; omega) (by omega) (by simp; omega) ?_; intro v3 u5 hou5 hgu5 _; have hstu5 := st_grow hBu4 hsu4 hou4 hgu5; have hBu5 := hstu5.1; have hsu5 := hstu5.2.1; clear hstu5 hgu5)
    | (go_at_call 26; (with_reducible refine (join_own (ws := [(⟨#[64]⟩ ++ hx), (⟨#[42]⟩ : ByteArray)]) hou5 rfl (by simp) (by intro y hy; simp only [List.mem_cons, List.not_mem_nil, or_false] at hy; rcases hy with rfl | rfl <;> (try simp only [ByteArray.size_append]) <;> omega)).mono ?_); rintro e uz ⟨rfl, hbuz⟩))
  go_ret
  exact ⟨congrArg (fun x => Ending.returned (Value.string x)) (congrArg bs (by unfold restW; rw [HW.out]; rfl)), below_keep hBu5 (Nat.le_refl _) hbuz⟩

set_option maxHeartbeats 4000000 in
set_option maxRecDepth 100000 in
theorem restR_1000 (m f i : ByteArray) (ln ad : Int) (ow : Bool) (w : World) (hx : FrOk ⟨m, f, i, ln, ad, ow⟩) (hi : ¬ i.size = 0) (hlt : ln ≤ 0) (had : ad < 0) (how : ow = false) :
    Calls Tryz.prog 25 #[.agg #[.string m, .string f, .string i, .int .i64 ln, .int .i64 ad, .bool ow]] w fun e w' => e = .returned (.string (bs (restW ⟨m, f, i, ln, ad, ow⟩))) ∧ Below w.heap.size w w' := by
  obtain ⟨i0, hi', hz0, hz1, hz2⟩ := info_parts infoS
  obtain ⟨g1, g2, g3, hln, hl1, ha0, ha1⟩ := hx
  simp only at g1 g2 g3 hln hl1 ha0 ha1
  have z1 : (⟨#[40]⟩ : ByteArray).size = 1 := rfl
  have z2 : (⟨#[41]⟩ : ByteArray).size = 1 := rfl
  have z3 : (⟨#[58]⟩ : ByteArray).size = 1 := rfl
  have z4 : (⟨#[64]⟩ : ByteArray).size = 1 := rfl
  have z5 : (⟨#[42]⟩ : ByteArray).size = 1 := rfl
  have HW := Lib.hid (show wordsW ⟨m, f, i, ln, ad, ow⟩ = [((⟨#[40]⟩ ++ i) ++ ⟨#[41]⟩)] by unfold wordsW w1 w2 w3 fileW; simp only; rw [if_neg hi, if_pos (show ad < 0 by omega), if_pos (show ln ≤ 0 by omega)]; subst how; rfl)
  have hie := isE hi
  clear hi
  have hl0 : ln = 0 := by omega
  subst hl0
  clear hlt
  have ha0 : ad = -1 := by omega
  subst ha0
  clear had
  subst how
  obtain ⟨A1, hA1⟩ : ∃ A1, (⟨#[40]⟩ : ByteArray) ++ i = A1 := ⟨_, rfl⟩
  have sA1 : A1.size ≤ 201 := by rw [← hA1, ByteArray.size_append]; omega
  obtain ⟨A4, hA4⟩ : ∃ A4, A1 ++ (⟨#[41]⟩ : ByteArray) = A4 := ⟨_, rfl⟩
  have sA4 : A4.size ≤ 210 := by rw [← hA4, ByteArray.size_append]; omega
  rw [hA1, hA4] at HW
  go_enter Tryz.func25, Tryz.ntmps25
  go_upto_region 1 with fail
  have hBu0 : Below w.heap.size w (w.alloc (.cells #[.string m, .string f, .string i, .int .i64 0, .int .i64 (-1), .bool false] 54)) := (Below.refl _ _).alloc (Nat.le_refl _) _
  have hsu0 : w.heap.size + 1 ≤ (w.alloc (.cells #[.string m, .string f, .string i, .int .i64 0, .int .i64 (-1), .bool false] 54)).heap.size := by simp
  have hou0 : (w.alloc (.cells #[.string m, .string f, .string i, .int .i64 0, .int .i64 (-1), .bool false] 54)).ownsRow (w.heap.size + 1) 9 1 (.slice none 0 0) 0 [] := World.ownsRow_nil _ _ _ _
  have c2u0 : (w.alloc (.cells #[.string m, .string f, .string i, .int .i64 0, .int .i64 (-1), .bool false] 54)).cell? ⟨w.heap.size, 2, none⟩ = some (.string i) := by go_simp
  have c3u0 : (w.alloc (.cells #[.string m, .string f, .string i, .int .i64 0, .int .i64 (-1), .bool false] 54)).cell? ⟨w.heap.size, 3, none⟩ = some (.int .i64 0) := by go_simp
  have c4u0 : (w.alloc (.cells #[.string m, .string f, .string i, .int .i64 0, .int .i64 (-1), .bool false] 54)).cell? ⟨w.heap.size, 4, none⟩ = some (.int .i64 (-1)) := by go_simp
  have c5u0 : (w.alloc (.cells #[.string m, .string f, .string i, .int .i64 0, .int .i64 (-1), .bool false] 54)).cell? ⟨w.heap.size, 5, none⟩ = some (.bool false) := by go_simp
  generalize w.alloc (.cells #[.string m, .string f, .string i, .int .i64 0, .int .i64 (-1), .bool false] 54) = u0 at *
  go_wp2_with (first
    | (at_builtin; refine wpList_append_own _ rfl _ _ 56 rfl (w.heap.size + 1) 9 i0 (.string ⟨#[]⟩) 1 16 Tryz.underlying56 hi' hz0 hz1 hz2 rfl (by decide) _ _ _ rfl (hou0.alloc (.cells #[.string (A4)] 9)) ⟨u0.heap.size, 0, none⟩ 1 1 [.string (A4)] rfl rfl (cell_new u0 _ 9) (one_cell _) (by unfold maxLen; omega) (by omega) (by simp; omega) ?_; intro v1 u2 hou2 hgu2 _; have hstu2 := st_grow hBu0 hsu0 hou0 hgu2; have hBu2 := hstu2.1; have hsu2 := hstu2.2.1; have c4u2 := hstu2.2.2 _ _ c4u0; have c5u2 := hstu2.2.2 _ _ c5u0; clear hstu2 hgu2)
    | (go_at_call 26; (with_reducible refine (join_own (ws := [(A4)]) hou2 rfl (by simp) (by intro y hy; simp only [List.mem_cons, List.not_mem_nil, or_false] at hy; rcases hy with rfl <;> (try simp only [ByteArray.size_append]) <;> omega)).mono ?_); rintro e uz ⟨rfl, hbuz⟩))
  go_ret
  exact ⟨congrArg (fun x => Ending.returned (Value.string x)) (congrArg bs (by unfold restW; rw [HW.out]; rfl)), below_keep hBu2 (Nat.le_refl _) hbuz⟩

set_option maxHeartbeats 4000000 in
set_option maxRecDepth 100000 in
theorem restR_1001 (m f i : ByteArray) (ln ad : Int) (ow : Bool) (w : World) (hx : FrOk ⟨m, f, i, ln, ad, ow⟩) (hi : ¬ i.size = 0) (hlt : ln ≤ 0) (had : ad < 0) (how : ow = true) :
    Calls Tryz.prog 25 #[.agg #[.string m, .string f, .string i, .int .i64 ln, .int .i64 ad, .bool ow]] w fun e w' => e = .returned (.string (bs (restW ⟨m, f, i, ln, ad, ow⟩))) ∧ Below w.heap.size w w' := by
  obtain ⟨i0, hi', hz0, hz1, hz2⟩ := info_parts infoS
  obtain ⟨g1, g2, g3, hln, hl1, ha0, ha1⟩ := hx
  simp only at g1 g2 g3 hln hl1 ha0 ha1
  have z1 : (⟨#[40]⟩ : ByteArray).size = 1 := rfl
  have z2 : (⟨#[41]⟩ : ByteArray).size = 1 := rfl
  have z3 : (⟨#[58]⟩ : ByteArray).size = 1 := rfl
  have z4 : (⟨#[64]⟩ : ByteArray).size = 1 := rfl
  have z5 : (⟨#[42]⟩ : ByteArray).size = 1 := rfl
  have HW := Lib.hid (show wordsW ⟨m, f, i, ln, ad, ow⟩ = [((⟨#[40]⟩ ++ i) ++ ⟨#[41]⟩), (⟨#[42]⟩ : ByteArray)] by unfold wordsW w1 w2 w3 fileW; simp only; rw [if_neg hi, if_pos (show ad < 0 by omega), if_pos (show ln ≤ 0 by omega)]; subst how; rfl)
  have hie := isE hi
  clear hi
  have hl0 : ln = 0 := by omega
  subst hl0
  clear hlt
  have ha0 : ad = -1 := by omega
  subst ha0
  clear had
  subst how
  obtain ⟨A1, hA1⟩ : ∃ A1, (⟨#[40]⟩ : ByteArray) ++ i = A1 := ⟨_, rfl⟩
  have sA1 : A1.size ≤ 201 := by rw [← hA1, ByteArray.size_append]; omega
  obtain ⟨A4, hA4⟩ : ∃ A4, A1 ++ (⟨#[41]⟩ : ByteArray) = A4 := ⟨_, rfl⟩
  have sA4 : A4.size ≤ 210 := by rw [← hA4, ByteArray.size_append]; omega
  rw [hA1, hA4] at HW
  go_enter Tryz.func25, Tryz.ntmps25
  go_upto_region 1 with fail
  have hBu0 : Below w.heap.size w (w.alloc (.cells #[.string m, .string f, .string i, .int .i64 0, .int .i64 (-1), .bool true] 54)) := (Below.refl _ _).alloc (Nat.le_refl _) _
  have hsu0 : w.heap.size + 1 ≤ (w.alloc (.cells #[.string m, .string f, .string i, .int .i64 0, .int .i64 (-1), .bool true] 54)).heap.size := by simp
  have hou0 : (w.alloc (.cells #[.string m, .string f, .string i, .int .i64 0, .int .i64 (-1), .bool true] 54)).ownsRow (w.heap.size + 1) 9 1 (.slice none 0 0) 0 [] := World.ownsRow_nil _ _ _ _
  have c2u0 : (w.alloc (.cells #[.string m, .string f, .string i, .int .i64 0, .int .i64 (-1), .bool true] 54)).cell? ⟨w.heap.size, 2, none⟩ = some (.string i) := by go_simp
  have c3u0 : (w.alloc (.cells #[.string m, .string f, .string i, .int .i64 0, .int .i64 (-1), .bool true] 54)).cell? ⟨w.heap.size, 3, none⟩ = some (.int .i64 0) := by go_simp
  have c4u0 : (w.alloc (.cells #[.string m, .string f, .string i, .int .i64 0, .int .i64 (-1), .bool true] 54)).cell? ⟨w.heap.size, 4, none⟩ = some (.int .i64 (-1)) := by go_simp
  have c5u0 : (w.alloc (.cells #[.string m, .string f, .string i, .int .i64 0, .int .i64 (-1), .bool true] 54)).cell? ⟨w.heap.size, 5, none⟩ = some (.bool true) := by go_simp
  generalize w.alloc (.cells #[.string m, .string f, .string i, .int .i64 0, .int .i64 (-1), .bool true] 54) = u0 at *
  go_wp2_with (first
    | (at_builtin; refine wpList_append_own _ rfl _ _ 56 rfl (w.heap.size + 1) 9 i0 (.string ⟨#[]⟩) 1 16 Tryz.underlying56 hi' hz0 hz1 hz2 rfl (by decide) _ _ _ rfl (hou0.alloc (.cells #[.string (A4)] 9)) ⟨u0.heap.size, 0, none⟩ 1 1 [.string (A4)] rfl rfl (cell_new u0 _ 9) (one_cell _) (by unfold maxLen; omega) (by omega) (by simp; omega) ?_; intro v1 u2 hou2 hgu2 _; have hstu2 := st_grow hBu0 hsu0 hou0 hgu2; have hBu2 := hstu2.1; have hsu2 := hstu2.2.1; have c4u2 := hstu2.2.2 _ _ c4u0; have c5u2 := hstu2.2.2 _ _ c5u0; clear hstu2 hgu2)
    | (at_builtin; refine wpList_append_own _ rfl _ _ 56 rfl (w.heap.size + 1) 9 i0 (.string ⟨#[]⟩) 1 16 Tryz.underlying56 hi' hz0 hz1 hz2 rfl (by decide) _ _ _ rfl (hou2.alloc (.cells #[.string (⟨#[42]⟩ : ByteArray)] 9)) ⟨u2.heap.size, 0, none⟩ 1 1 [.string (⟨#[42]⟩ : ByteArray)] rfl rfl (cell_new u2 _ 9) (one_cell _) (by unfold maxLen; omega) (by omega) (by simp; omega) ?_; intro v3 u5 hou5 hgu5 _; have hstu5 := st_grow hBu2 hsu2 hou2 hgu5; have hBu5 := hstu5.1; have hsu5 := hstu5.2.1; clear hstu5 hgu5)
    | (go_at_call 26; (with_reducible refine (join_own (ws := [(A4), (⟨#[42]⟩ : ByteArray)]) hou5 rfl (by simp) (by intro y hy; simp only [List.mem_cons, List.not_mem_nil, or_false] at hy; rcases hy with rfl | rfl <;> (try simp only [ByteArray.size_append]) <;> omega)).mono ?_); rintro e uz ⟨rfl, hbuz⟩))
  go_ret
  exact ⟨congrArg (fun x => Ending.returned (Value.string x)) (congrArg bs (by unfold restW; rw [HW.out]; rfl)), below_keep hBu5 (Nat.le_refl _) hbuz⟩

set_option maxHeartbeats 4000000 in
set_option maxRecDepth 100000 in
theorem restR_1010 (m f i : ByteArray) (ln ad : Int) (ow : Bool) (w : World) (hx : FrOk ⟨m, f, i, ln, ad, ow⟩) (hi : ¬ i.size = 0) (hlt : ln ≤ 0) (had : 0 ≤ ad) (how : ow = false) :
    Calls Tryz.prog 25 #[.agg #[.string m, .string f, .string i, .int .i64 ln, .int .i64 ad, .bool ow]] w fun e w' => e = .returned (.string (bs (restW ⟨m, f, i, ln, ad, ow⟩))) ∧ Below w.heap.size w w' := by
  obtain ⟨i0, hi', hz0, hz1, hz2⟩ := info_parts infoS
  obtain ⟨g1, g2, g3, hln, hl1, ha0, ha1⟩ := hx
  simp only at g1 g2 g3 hln hl1 ha0 ha1
  have z1 : (⟨#[40]⟩ : ByteArray).size = 1 := rfl
  have z2 : (⟨#[41]⟩ : ByteArray).size = 1 := rfl
  have z3 : (⟨#[58]⟩ : ByteArray).size = 1 := rfl
  have z4 : (⟨#[64]⟩ : ByteArray).size = 1 := rfl
  have z5 : (⟨#[42]⟩ : ByteArray).size = 1 := rfl
  have hxl := hex_len had ha1
  have HX := Lib.hid (fun (W : World) => inBase16_any ad.toNat W (by omega))
  rw [show ((ad.toNat : Nat) : Int) = ad by omega, show bs (hexL ad.toNat) = hexB ad from rfl] at HX
  have HW := Lib.hid (show wordsW ⟨m, f, i, ln, ad, ow⟩ = [((⟨#[40]⟩ ++ i) ++ ⟨#[41]⟩), (⟨#[64]⟩ ++ hexB ad)] by unfold wordsW w1 w2 w3 fileW; simp only; rw [if_neg hi, if_neg (show ¬ ad < 0 by omega), if_pos (show ln ≤ 0 by omega)]; subst how; rfl)
  have hie := isE hi
  clear hi
  have hl0 : ln = 0 := by omega
  subst hl0
  clear hlt
  subst how
  obtain ⟨A1, hA1⟩ : ∃ A1, (⟨#[40]⟩ : ByteArray) ++ i = A1 := ⟨_, rfl⟩
  have sA1 : A1.size ≤ 201 := by rw [← hA1, ByteArray.size_append]; omega
  obtain ⟨A4, hA4⟩ : ∃ A4, A1 ++ (⟨#[41]⟩ : ByteArray) = A4 := ⟨_, rfl⟩
  have sA4 : A4.size ≤ 210 := by rw [← hA4, ByteArray.size_append]; omega
  rw [hA1, hA4] at HW
  generalize hexB ad = hx at *
  go_enter Tryz.func25, Tryz.ntmps25
  go_upto_region 1 with fail
  have hBu0 : Below w.heap.size w (w.alloc (.cells #[.string m, .string f, .string i, .int .i64 0, .int .i64 ad, .bool false] 54)) := (Below.refl _ _).alloc (Nat.le_refl _) _
  have hsu0 : w.heap.size + 1 ≤ (w.alloc (.cells #[.string m, .string f, .string i, .int .i64 0, .int .i64 ad, .bool false] 54)).heap.size := by simp
  have hou0 : (w.alloc (.cells #[.string m, .string f, .string i, .int .i64 0, .int .i64 ad, .bool false] 54)).ownsRow (w.heap.size + 1) 9 1 (.slice none 0 0) 0 [] := World.ownsRow_nil _ _ _ _
  have c2u0 : (w.alloc (.cells #[.string m, .string f, .string i, .int .i64 0, .int .i64 ad, .bool false] 54)).cell? ⟨w.heap.size, 2, none⟩ = some (.string i) := by go_simp
  have c3u0 : (w.alloc (.cells #[.string m, .string f, .string i, .int .i64 0, .int .i64 ad, .bool false] 54)).cell? ⟨w.heap.size, 3, none⟩ = some (.int .i64 0) := by go_simp
  have c4u0 : (w.alloc (.cells #[.string m, .string f, .string i, .int .i64 0, .int .i64 ad, .bool false] 54)).cell? ⟨w.heap.size, 4, none⟩ = some (.int .i64 ad) := by go_simp
  have c5u0 : (w.alloc (.cells #[.string m, .string f, .string i, .int .i64 0, .int .i64 ad, .bool false] 54)).cell? ⟨w.heap.size, 5, none⟩ = some (.bool false) := by go_simp
  generalize w.alloc (.cells #[.string m, .string f, .string i, .int .i64 0, .int .i64 ad, .bool false] 54) = u0 at *
  go_wp2_with (first
    | (at_builtin; refine wpList_append_own _ rfl _ _ 56 rfl (w.heap.size + 1) 9 i0 (.string ⟨#[]⟩) 1 16 Tryz.underlying56 hi' hz0 hz1 hz2 rfl (by decide) _ _ _ rfl (hou0.alloc (.cells #[.string (A4)] 9)) ⟨u0.heap.size, 0, none⟩ 1 1 [.string (A4)] rfl rfl (cell_new u0 _ 9) (one_cell _) (by unfold maxLen; omega) (by omega) (by simp; omega) ?_; intro v1 u2 hou2 hgu2 _; have hstu2 := st_grow hBu0 hsu0 hou0 hgu2; have hBu2 := hstu2.1; have hsu2 := hstu2.2.1; have c4u2 := hstu2.2.2 _ _ c4u0; have c5u2 := hstu2.2.2 _ _ c5u0; clear hstu2 hgu2)
    | (go_at_call 42; (with_reducible refine (HX.out u2).mono ?_); rintro e u3 ⟨rfl, hbu3⟩; have hBu3 := below_keep hBu2 (Nat.le_refl _) hbu3; have hsu3 := Nat.le_trans hsu2 hbu3.size; have hou3 := own_keeps hou2 hbu3; have c5u3 := cell_keep c5u2 hbu3)
    | (at_builtin; refine wpList_append_own _ rfl _ _ 56 rfl (w.heap.size + 1) 9 i0 (.string ⟨#[]⟩) 1 16 Tryz.underlying56 hi' hz0 hz1 hz2 rfl (by decide) _ _ _ rfl (hou3.alloc (.cells #[.string (⟨#[64]⟩ ++ hx)] 9)) ⟨u3.heap.size, 0, none⟩ 1 1 [.string (⟨#[64]⟩ ++ hx)] rfl rfl (cell_new u3 _ 9) (one_cell _) (by unfold maxLen; omega) (by omega) (by simp; omega) ?_; intro v2 u4 hou4 hgu4 _; have hstu4 := st_grow hBu3 hsu3 hou3 hgu4; have hBu4 := hstu4.1; have hsu4 := hstu4.2.1; have c5u4 := hstu4.2.2 _ _ c5u3; clear hstu4 hgu4)
    | (go_at_call 26; (with_reducible refine (join_own (ws := [(A4), (⟨#[64]⟩ ++ hx)]) hou4 rfl (by simp) (by intro y hy; simp only [List.mem_cons, List.not_mem_nil, or_false] at hy; rcases hy with rfl | rfl <;> (try simp only [ByteArray.size_append]) <;> omega)).mono ?_); rintro e uz ⟨rfl, hbuz⟩))
  go_ret
  exact ⟨congrArg (fun x => Ending.returned (Value.string x)) (congrArg bs (by unfold restW; rw [HW.out]; rfl)), below_keep hBu4 (Nat.le_refl _) hbuz⟩

set_option maxHeartbeats 4000000 in
set_option maxRecDepth 100000 in
theorem restR_1011 (m f i : ByteArray) (ln ad : Int) (ow : Bool) (w : World) (hx : FrOk ⟨m, f, i, ln, ad, ow⟩) (hi : ¬ i.size = 0) (hlt : ln ≤ 0) (had : 0 ≤ ad) (how : ow = true) :
    Calls Tryz.prog 25 #[.agg #[.string m, .string f, .string i, .int .i64 ln, .int .i64 ad, .bool ow]] w fun e w' => e = .returned (.string (bs (restW ⟨m, f, i, ln, ad, ow⟩))) ∧ Below w.heap.size w w' := by
  obtain ⟨i0, hi', hz0, hz1, hz2⟩ := info_parts infoS
  obtain ⟨g1, g2, g3, hln, hl1, ha0, ha1⟩ := hx
  simp only at g1 g2 g3 hln hl1 ha0 ha1
  have z1 : (⟨#[40]⟩ : ByteArray).size = 1 := rfl
  have z2 : (⟨#[41]⟩ : ByteArray).size = 1 := rfl
  have z3 : (⟨#[58]⟩ : ByteArray).size = 1 := rfl
  have z4 : (⟨#[64]⟩ : ByteArray).size = 1 := rfl
  have z5 : (⟨#[42]⟩ : ByteArray).size = 1 := rfl
  have hxl := hex_len had ha1
  have HX := Lib.hid (fun (W : World) => inBase16_any ad.toNat W (by omega))
  rw [show ((ad.toNat : Nat) : Int) = ad by omega, show bs (hexL ad.toNat) = hexB ad from rfl] at HX
  have HW := Lib.hid (show wordsW ⟨m, f, i, ln, ad, ow⟩ = [((⟨#[40]⟩ ++ i) ++ ⟨#[41]⟩), (⟨#[64]⟩ ++ hexB ad), (⟨#[42]⟩ : ByteArray)] by unfold wordsW w1 w2 w3 fileW; simp only; rw [if_neg hi, if_neg (show ¬ ad < 0 by omega), if_pos (show ln ≤ 0 by omega)]; subst how; rfl)
  have hie := isE hi
  clear hi
  have hl0 : ln = 0 := by omega
  subst hl0
  clear hlt
  subst how
  obtain ⟨A1, hA1⟩ : ∃ A1, (⟨#[40]⟩ : ByteArray) ++ i = A1 := ⟨_, rfl⟩
  have sA1 : A1.size ≤ 201 := by rw [← hA1, ByteArray.size_append]; omega
  obtain ⟨A4, hA4⟩ : ∃ A4, A1 ++ (⟨#[41]⟩ : ByteArray) = A4 := ⟨_, rfl⟩
  have sA4 : A4.size ≤ 210 := by rw [← hA4, ByteArray.size_append]; omega
  rw [hA1, hA4] at HW
  generalize hexB ad = hx at *
  go_enter Tryz.func25, Tryz.ntmps25
  go_upto_region 1 with fail
  have hBu0 : Below w.heap.size w (w.alloc (.cells #[.string m, .string f, .string i, .int .i64 0, .int .i64 ad, .bool true] 54)) := (Below.refl _ _).alloc (Nat.le_refl _) _
  have hsu0 : w.heap.size + 1 ≤ (w.alloc (.cells #[.string m, .string f, .string i, .int .i64 0, .int .i64 ad, .bool true] 54)).heap.size := by simp
  have hou0 : (w.alloc (.cells #[.string m, .string f, .string i, .int .i64 0, .int .i64 ad, .bool true] 54)).ownsRow (w.heap.size + 1) 9 1 (.slice none 0 0) 0 [] := World.ownsRow_nil _ _ _ _
  have c2u0 : (w.alloc (.cells #[.string m, .string f, .string i, .int .i64 0, .int .i64 ad, .bool true] 54)).cell? ⟨w.heap.size, 2, none⟩ = some (.string i) := by go_simp
  have c3u0 : (w.alloc (.cells #[.string m, .string f, .string i, .int .i64 0, .int .i64 ad, .bool true] 54)).cell? ⟨w.heap.size, 3, none⟩ = some (.int .i64 0) := by go_simp
  have c4u0 : (w.alloc (.cells #[.string m, .string f, .string i, .int .i64 0, .int .i64 ad, .bool true] 54)).cell? ⟨w.heap.size, 4, none⟩ = some (.int .i64 ad) := by go_simp
  have c5u0 : (w.alloc (.cells #[.string m, .string f, .string i, .int .i64 0, .int .i64 ad, .bool true] 54)).cell? ⟨w.heap.size, 5, none⟩ = some (.bool true) := by go_simp
  generalize w.alloc (.cells #[.string m, .string f, .string i, .int .i64 0, .int .i64 ad, .bool true] 54) = u0 at *
  go_wp2_with (first
    | (at_builtin; refine wpList_append_own _ rfl _ _ 56 rfl (w.heap.size + 1) 9 i0 (.string ⟨#[]⟩) 1 16 Tryz.underlying56 hi' hz0 hz1 hz2 rfl (by decide) _ _ _ rfl (hou0.alloc (.cells #[.string (A4)] 9)) ⟨u0.heap.size, 0, none⟩ 1 1 [.string (A4)] rfl rfl (cell_new u0 _ 9) (one_cell _) (by unfold maxLen; omega) (by omega) (by simp; omega) ?_; intro v1 u2 hou2 hgu2 _; have hstu2 := st_grow hBu0 hsu0 hou0 hgu2; have hBu2 := hstu2.1; have hsu2 := hstu2.2.1; have c4u2 := hstu2.2.2 _ _ c4u0; have c5u2 := hstu2.2.2 _ _ c5u0; clear hstu2 hgu2)
    | (go_at_call 42; (with_reducible refine (HX.out u2).mono ?_); rintro e u3 ⟨rfl, hbu3⟩; have hBu3 := below_keep hBu2 (Nat.le_refl _) hbu3; have hsu3 := Nat.le_trans hsu2 hbu3.size; have hou3 := own_keeps hou2 hbu3; have c5u3 := cell_keep c5u2 hbu3)
    | (at_builtin; refine wpList_append_own _ rfl _ _ 56 rfl (w.heap.size + 1) 9 i0 (.string ⟨#[]⟩) 1 16 Tryz.underlying56 hi' hz0 hz1 hz2 rfl (by decide) _ _ _ rfl (hou3.alloc (.cells #[.string (⟨#[64]⟩ ++ hx)] 9)) ⟨u3.heap.size, 0, none⟩ 1 1 [.string (⟨#[64]⟩ ++ hx)] rfl rfl (cell_new u3 _ 9) (one_cell _) (by unfold maxLen; omega) (by omega) (by simp; omega) ?_; intro v2 u4 hou4 hgu4 _; have hstu4 := st_grow hBu3 hsu3 hou3 hgu4; have hBu4 := hstu4.1; have hsu4 := hstu4.2.1; have c5u4 := hstu4.2.2 _ _ c5u3; clear hstu4 hgu4)
    | (at_builtin; refine wpList_append_own _ rfl _ _ 56 rfl (w.heap.size + 1) 9 i0 (.string ⟨#[]⟩) 1 16 Tryz.underlying56 hi' hz0 hz1 hz2 rfl (by decide) _ _ _ rfl (hou4.alloc (.cells #[.string (⟨#[42]⟩ : ByteArray)] 9)) ⟨u4.heap.size, 0, none⟩ 1 1 [.string (⟨#[42]⟩ : ByteArray)] rfl rfl (cell_new u4 _ 9) (one_cell _) (by unfold maxLen; omega) (by omega) (by simp; omega) ?_; intro v3 u5 hou5 hgu5 _; have hstu5 := st_grow hBu4 hsu4 hou4 hgu5; have hBu5 := hstu5.1; have hsu5 := hstu5.2.1; clear hstu5 hgu5)
    | (go_at_call 26; (with_reducible refine (join_own (ws := [(A4), (⟨#[64]⟩ ++ hx), (⟨#[42]⟩ : ByteArray)]) hou5 rfl (by simp) (by intro y hy; simp only [List.mem_cons, List.not_mem_nil, or_false] at hy; rcases hy with rfl | rfl | rfl <;> (try simp only [ByteArray.size_append]) <;> omega)).mono ?_); rintro e uz ⟨rfl, hbuz⟩))
  go_ret
  exact ⟨congrArg (fun x => Ending.returned (Value.string x)) (congrArg bs (by unfold restW; rw [HW.out]; rfl)), below_keep hBu5 (Nat.le_refl _) hbuz⟩

set_option maxHeartbeats 4000000 in
set_option maxRecDepth 100000 in
theorem restR_1100 (m f i : ByteArray) (ln ad : Int) (ow : Bool) (w : World) (hx : FrOk ⟨m, f, i, ln, ad, ow⟩) (hi : ¬ i.size = 0) (hlt : 0 < ln) (had : ad < 0) (how : ow = false) :
    Calls Tryz.prog 25 #[.agg #[.string m, .string f, .string i, .int .i64 ln, .int .i64 ad, .bool ow]] w fun e w' => e = .returned (.string (bs (restW ⟨m, f, i, ln, ad, ow⟩))) ∧ Below w.heap.size w w' := by
  obtain ⟨i0, hi', hz0, hz1, hz2⟩ := info_parts infoS
  obtain ⟨g1, g2, g3, hln, hl1, ha0, ha1⟩ := hx
  simp only at g1 g2 g3 hln hl1 ha0 ha1
  have z1 : (⟨#[40]⟩ : ByteArray).size = 1 := rfl
  have z2 : (⟨#[41]⟩ : ByteArray).size = 1 := rfl
  have z3 : (⟨#[58]⟩ : ByteArray).size = 1 := rfl
  have z4 : (⟨#[64]⟩ : ByteArray).size = 1 := rfl
  have z5 : (⟨#[42]⟩ : ByteArray).size = 1 := rfl
  have hil := itoa_len hln hl1
  have HT := Lib.hid (fun (W : World) (_ : Below w.heap.size w W) => told_any ln W hln hl1)
  have HW := Lib.hid (show wordsW ⟨m, f, i, ln, ad, ow⟩ = [((⟨#[40]⟩ ++ i) ++ (⟨#[58]⟩ ++ bs (Lib.itoa ln)) ++ ⟨#[41]⟩)] by unfold wordsW w1 w2 w3 fileW; simp only; rw [if_neg hi, if_pos (show ad < 0 by omega), if_neg (show ¬ ln ≤ 0 by omega)]; subst how; rfl)
  have hie := isE hi
  clear hi
  have ha0 : ad = -1 := by omega
  subst ha0
  clear had
  subst how
  generalize bs (Lib.itoa ln) = it at *
  obtain ⟨A1, hA1⟩ : ∃ A1, (⟨#[40]⟩ : ByteArray) ++ i = A1 := ⟨_, rfl⟩
  have sA1 : A1.size ≤ 201 := by rw [← hA1, ByteArray.size_append]; omega
  obtain ⟨A2, hA2⟩ : ∃ A2, (⟨#[58]⟩ : ByteArray) ++ it = A2 := ⟨_, rfl⟩
  have sA2 : A2.size ≤ 8 := by rw [← hA2, ByteArray.size_append]; omega
  obtain ⟨A3, hA3⟩ : ∃ A3, A1 ++ A2 = A3 := ⟨_, rfl⟩
  have sA3 : A3.size ≤ 209 := by rw [← hA3, ByteArray.size_append]; omega
  obtain ⟨A4, hA4⟩ : ∃ A4, A3 ++ (⟨#[41]⟩ : ByteArray) = A4 := ⟨_, rfl⟩
  have sA4 : A4.size ≤ 210 := by rw [← hA4, ByteArray.size_append]; omega
  rw [hA1, hA2, hA3, hA4] at HW
  go_enter Tryz.func25, Tryz.ntmps25
  go_upto_region 1 with fail
  have hBu0 : Below w.heap.size w (w.alloc (.cells #[.string m, .string f, .string i, .int .i64 ln, .int .i64 (-1), .bool false] 54)) := (Below.refl _ _).alloc (Nat.le_refl _) _
  have hsu0 : w.heap.size + 1 ≤ (w.alloc (.cells #[.string m, .string f, .string i, .int .i64 ln, .int .i64 (-1), .bool false] 54)).heap.size := by simp
  have hou0 : (w.alloc (.cells #[.string m, .string f, .string i, .int .i64 ln, .int .i64 (-1), .bool false] 54)).ownsRow (w.heap.size + 1) 9 1 (.slice none 0 0) 0 [] := World.ownsRow_nil _ _ _ _
  have c2u0 : (w.alloc (.cells #[.string m, .string f, .string i, .int .i64 ln, .int .i64 (-1), .bool false] 54)).cell? ⟨w.heap.size, 2, none⟩ = some (.string i) := by go_simp
  have c3u0 : (w.alloc (.cells #[.string m, .string f, .string i, .int .i64 ln, .int .i64 (-1), .bool false] 54)).cell? ⟨w.heap.size, 3, none⟩ = some (.int .i64 ln) := by go_simp
  have c4u0 : (w.alloc (.cells #[.string m, .string f, .string i, .int .i64 ln, .int .i64 (-1), .bool false] 54)).cell? ⟨w.heap.size, 4, none⟩ = some (.int .i64 (-1)) := by go_simp
  have c5u0 : (w.alloc (.cells #[.string m, .string f, .string i, .int .i64 ln, .int .i64 (-1), .bool false] 54)).cell? ⟨w.heap.size, 5, none⟩ = some (.bool false) := by go_simp
  generalize w.alloc (.cells #[.string m, .string f, .string i, .int .i64 ln, .int .i64 (-1), .bool false] 54) = u0 at *
  go_wp2_with (first
    | (go_at_call 23; (with_reducible refine (HT.out u0 hBu0).mono ?_); rintro e u1 ⟨rfl, hbu1⟩; have hBu1 := below_keep hBu0 (Nat.le_refl _) hbu1; have hsu1 := Nat.le_trans hsu0 hbu1.size; have hou1 := own_keeps hou0 hbu1; have c4u1 := cell_keep c4u0 hbu1; have c5u1 := cell_keep c5u0 hbu1)
    | (at_builtin; refine wpList_append_own _ rfl _ _ 56 rfl (w.heap.size + 1) 9 i0 (.string ⟨#[]⟩) 1 16 Tryz.underlying56 hi' hz0 hz1 hz2 rfl (by decide) _ _ _ rfl (hou1.alloc (.cells #[.string (A4)] 9)) ⟨u1.heap.size, 0, none⟩ 1 1 [.string (A4)] rfl rfl (cell_new u1 _ 9) (one_cell _) (by unfold maxLen; omega) (by omega) (by simp; omega) ?_; intro v1 u2 hou2 hgu2 _; have hstu2 := st_grow hBu1 hsu1 hou1 hgu2; have hBu2 := hstu2.1; have hsu2 := hstu2.2.1; have c4u2 := hstu2.2.2 _ _ c4u1; have c5u2 := hstu2.2.2 _ _ c5u1; clear hstu2 hgu2)
    | (go_at_call 26; (with_reducible refine (join_own (ws := [(A4)]) hou2 rfl (by simp) (by intro y hy; simp only [List.mem_cons, List.not_mem_nil, or_false] at hy; rcases hy with rfl <;> (try simp only [ByteArray.size_append]) <;> omega)).mono ?_); rintro e uz ⟨rfl, hbuz⟩))
  go_ret
  exact ⟨congrArg (fun x => Ending.returned (Value.string x)) (congrArg bs (by unfold restW; rw [HW.out]; rfl)), below_keep hBu2 (Nat.le_refl _) hbuz⟩

set_option maxHeartbeats 4000000 in
set_option maxRecDepth 100000 in
theorem restR_1101 (m f i : ByteArray) (ln ad : Int) (ow : Bool) (w : World) (hx : FrOk ⟨m, f, i, ln, ad, ow⟩) (hi : ¬ i.size = 0) (hlt : 0 < ln) (had : ad < 0) (how : ow = true) :
    Calls Tryz.prog 25 #[.agg #[.string m, .string f, .string i, .int .i64 ln, .int .i64 ad, .bool ow]] w fun e w' => e = .returned (.string (bs (restW ⟨m, f, i, ln, ad, ow⟩))) ∧ Below w.heap.size w w' := by
  obtain ⟨i0, hi', hz0, hz1, hz2⟩ := info_parts infoS
  obtain ⟨g1, g2, g3, hln, hl1, ha0, ha1⟩ := hx
  simp only at g1 g2 g3 hln hl1 ha0 ha1
  have z1 : (⟨#[40]⟩ : ByteArray).size = 1 := rfl
  have z2 : (⟨#[41]⟩ : ByteArray).size = 1 := rfl
  have z3 : (⟨#[58]⟩ : ByteArray).size = 1 := rfl
  have z4 : (⟨#[64]⟩ : ByteArray).size = 1 := rfl
  have z5 : (⟨#[42]⟩ : ByteArray).size = 1 := rfl
  have hil := itoa_len hln hl1
  have HT := Lib.hid (fun (W : World) (_ : Below w.heap.size w W) => told_any ln W hln hl1)
  have HW := Lib.hid (show wordsW ⟨m, f, i, ln, ad, ow⟩ = [((⟨#[40]⟩ ++ i) ++ (⟨#[58]⟩ ++ bs (Lib.itoa ln)) ++ ⟨#[41]⟩), (⟨#[42]⟩ : ByteArray)] by unfold wordsW w1 w2 w3 fileW; simp only; rw [if_neg hi, if_pos (show ad < 0 by omega), if_neg (show ¬ ln ≤ 0 by omega)]; subst how; rfl)
  have hie := isE hi
  clear hi
  have ha0 : ad = -1 := by omega
  subst ha0
  clear had
  subst how
  generalize bs (Lib.itoa ln) = it at *
  obtain ⟨A1, hA1⟩ : ∃ A1, (⟨#[40]⟩ : ByteArray) ++ i = A1 := ⟨_, rfl⟩
  have sA1 : A1.size ≤ 201 := by rw [← hA1, ByteArray.size_append]; omega
  obtain ⟨A2, hA2⟩ : ∃ A2, (⟨#[58]⟩ : ByteArray) ++ it = A2 := ⟨_, rfl⟩
  have sA2 : A2.size ≤ 8 := by rw [← hA2, ByteArray.size_append]; omega
  obtain ⟨A3, hA3⟩ : ∃ A3, A1 ++ A2 = A3 := ⟨_, rfl⟩
  have sA3 : A3.size ≤ 209 := by rw [← hA3, ByteArray.size_append]; omega
  obtain ⟨A4, hA4⟩ : ∃ A4, A3 ++ (⟨#[41]⟩ : ByteArray) = A4 := ⟨_, rfl⟩
  have sA4 : A4.size ≤ 210 := by rw [← hA4, ByteArray.size_append]; omega
  rw [hA1, hA2, hA3, hA4] at HW
  go_enter Tryz.func25, Tryz.ntmps25
  go_upto_region 1 with fail
  have hBu0 : Below w.heap.size w (w.alloc (.cells #[.string m, .string f, .string i, .int .i64 ln, .int .i64 (-1), .bool true] 54)) := (Below.refl _ _).alloc (Nat.le_refl _) _
  have hsu0 : w.heap.size + 1 ≤ (w.alloc (.cells #[.string m, .string f, .string i, .int .i64 ln, .int .i64 (-1), .bool true] 54)).heap.size := by simp
  have hou0 : (w.alloc (.cells #[.string m, .string f, .string i, .int .i64 ln, .int .i64 (-1), .bool true] 54)).ownsRow (w.heap.size + 1) 9 1 (.slice none 0 0) 0 [] := World.ownsRow_nil _ _ _ _
  have c2u0 : (w.alloc (.cells #[.string m, .string f, .string i, .int .i64 ln, .int .i64 (-1), .bool true] 54)).cell? ⟨w.heap.size, 2, none⟩ = some (.string i) := by go_simp
  have c3u0 : (w.alloc (.cells #[.string m, .string f, .string i, .int .i64 ln, .int .i64 (-1), .bool true] 54)).cell? ⟨w.heap.size, 3, none⟩ = some (.int .i64 ln) := by go_simp
  have c4u0 : (w.alloc (.cells #[.string m, .string f, .string i, .int .i64 ln, .int .i64 (-1), .bool true] 54)).cell? ⟨w.heap.size, 4, none⟩ = some (.int .i64 (-1)) := by go_simp
  have c5u0 : (w.alloc (.cells #[.string m, .string f, .string i, .int .i64 ln, .int .i64 (-1), .bool true] 54)).cell? ⟨w.heap.size, 5, none⟩ = some (.bool true) := by go_simp
  generalize w.alloc (.cells #[.string m, .string f, .string i, .int .i64 ln, .int .i64 (-1), .bool true] 54) = u0 at *
  go_wp2_with (first
    | (go_at_call 23; (with_reducible refine (HT.out u0 hBu0).mono ?_); rintro e u1 ⟨rfl, hbu1⟩; have hBu1 := below_keep hBu0 (Nat.le_refl _) hbu1; have hsu1 := Nat.le_trans hsu0 hbu1.size; have hou1 := own_keeps hou0 hbu1; have c4u1 := cell_keep c4u0 hbu1; have c5u1 := cell_keep c5u0 hbu1)
    | (at_builtin; refine wpList_append_own _ rfl _ _ 56 rfl (w.heap.size + 1) 9 i0 (.string ⟨#[]⟩) 1 16 Tryz.underlying56 hi' hz0 hz1 hz2 rfl (by decide) _ _ _ rfl (hou1.alloc (.cells #[.string (A4)] 9)) ⟨u1.heap.size, 0, none⟩ 1 1 [.string (A4)] rfl rfl (cell_new u1 _ 9) (one_cell _) (by unfold maxLen; omega) (by omega) (by simp; omega) ?_; intro v1 u2 hou2 hgu2 _; have hstu2 := st_grow hBu1 hsu1 hou1 hgu2; have hBu2 := hstu2.1; have hsu2 := hstu2.2.1; have c4u2 := hstu2.2.2 _ _ c4u1; have c5u2 := hstu2.2.2 _ _ c5u1; clear hstu2 hgu2)
    | (at_builtin; refine wpList_append_own _ rfl _ _ 56 rfl (w.heap.size + 1) 9 i0 (.string ⟨#[]⟩) 1 16 Tryz.underlying56 hi' hz0 hz1 hz2 rfl (by decide) _ _ _ rfl (hou2.alloc (.cells #[.string (⟨#[42]⟩ : ByteArray)] 9)) ⟨u2.heap.size, 0, none⟩ 1 1 [.string (⟨#[42]⟩ : ByteArray)] rfl rfl (cell_new u2 _ 9) (one_cell _) (by unfold maxLen; omega) (by omega) (by simp; omega) ?_; intro v3 u5 hou5 hgu5 _; have hstu5 := st_grow hBu2 hsu2 hou2 hgu5; have hBu5 := hstu5.1; have hsu5 := hstu5.2.1; clear hstu5 hgu5)
    | (go_at_call 26; (with_reducible refine (join_own (ws := [(A4), (⟨#[42]⟩ : ByteArray)]) hou5 rfl (by simp) (by intro y hy; simp only [List.mem_cons, List.not_mem_nil, or_false] at hy; rcases hy with rfl | rfl <;> (try simp only [ByteArray.size_append]) <;> omega)).mono ?_); rintro e uz ⟨rfl, hbuz⟩))
  go_ret
  exact ⟨congrArg (fun x => Ending.returned (Value.string x)) (congrArg bs (by unfold restW; rw [HW.out]; rfl)), below_keep hBu5 (Nat.le_refl _) hbuz⟩

set_option maxHeartbeats 4000000 in
set_option maxRecDepth 100000 in
theorem restR_1110 (m f i : ByteArray) (ln ad : Int) (ow : Bool) (w : World) (hx : FrOk ⟨m, f, i, ln, ad, ow⟩) (hi : ¬ i.size = 0) (hlt : 0 < ln) (had : 0 ≤ ad) (how : ow = false) :
    Calls Tryz.prog 25 #[.agg #[.string m, .string f, .string i, .int .i64 ln, .int .i64 ad, .bool ow]] w fun e w' => e = .returned (.string (bs (restW ⟨m, f, i, ln, ad, ow⟩))) ∧ Below w.heap.size w w' := by
  obtain ⟨i0, hi', hz0, hz1, hz2⟩ := info_parts infoS
  obtain ⟨g1, g2, g3, hln, hl1, ha0, ha1⟩ := hx
  simp only at g1 g2 g3 hln hl1 ha0 ha1
  have z1 : (⟨#[40]⟩ : ByteArray).size = 1 := rfl
  have z2 : (⟨#[41]⟩ : ByteArray).size = 1 := rfl
  have z3 : (⟨#[58]⟩ : ByteArray).size = 1 := rfl
  have z4 : (⟨#[64]⟩ : ByteArray).size = 1 := rfl
  have z5 : (⟨#[42]⟩ : ByteArray).size = 1 := rfl
  have hil := itoa_len hln hl1
  have HT := Lib.hid (fun (W : World) (_ : Below w.heap.size w W) => told_any ln W hln hl1)
  have hxl := hex_len had ha1
  have HX := Lib.hid (fun (W : World) => inBase16_any ad.toNat W (by omega))
  rw [show ((ad.toNat : Nat) : Int) = ad by omega, show bs (hexL ad.toNat) = hexB ad from rfl] at HX
  have HW := Lib.hid (show wordsW ⟨m, f, i, ln, ad, ow⟩ = [((⟨#[40]⟩ ++ i) ++ (⟨#[58]⟩ ++ bs (Lib.itoa ln)) ++ ⟨#[41]⟩), (⟨#[64]⟩ ++ hexB ad)] by unfold wordsW w1 w2 w3 fileW; simp only; rw [if_neg hi, if_neg (show ¬ ad < 0 by omega), if_neg (show ¬ ln ≤ 0 by omega)]; subst how; rfl)
  have hie := isE hi
  clear hi
  subst how
  generalize bs (Lib.itoa ln) = it at *
  obtain ⟨A1, hA1⟩ : ∃ A1, (⟨#[40]⟩ : ByteArray) ++ i = A1 := ⟨_, rfl⟩
  have sA1 : A1.size ≤ 201 := by rw [← hA1, ByteArray.size_append]; omega
  obtain ⟨A2, hA2⟩ : ∃ A2, (⟨#[58]⟩ : ByteArray) ++ it = A2 := ⟨_, rfl⟩
  have sA2 : A2.size ≤ 8 := by rw [← hA2, ByteArray.size_append]; omega
  obtain ⟨A3, hA3⟩ : ∃ A3, A1 ++ A2 = A3 := ⟨_, rfl⟩
  have sA3 : A3.size ≤ 209 := by rw [← hA3, ByteArray.size_append]; omega
  obtain ⟨A4, hA4⟩ : ∃ A4, A3 ++ (⟨#[41]⟩ : ByteArray) = A4 := ⟨_, rfl⟩
  have sA4 : A4.size ≤ 210 := by rw [← hA4, ByteArray.size_append]; omega
  rw [hA1, hA2, hA3, hA4] at HW
  generalize hexB ad = hx at *
  go_enter Tryz.func25, Tryz.ntmps25
  go_upto_region 1 with fail
  have hBu0 : Below w.heap.size w (w.alloc (.cells #[.string m, .string f, .string i, .int .i64 ln, .int .i64 ad, .bool false] 54)) := (Below.refl _ _).alloc (Nat.le_refl _) _
  have hsu0 : w.heap.size + 1 ≤ (w.alloc (.cells #[.string m, .string f, .string i, .int .i64 ln, .int .i64 ad, .bool false] 54)).heap.size := by simp
  have hou0 : (w.alloc (.cells #[.string m, .string f, .string i, .int .i64 ln, .int .i64 ad, .bool false] 54)).ownsRow (w.heap.size + 1) 9 1 (.slice none 0 0) 0 [] := World.ownsRow_nil _ _ _ _
  have c2u0 : (w.alloc (.cells #[.string m, .string f, .string i, .int .i64 ln, .int .i64 ad, .bool false] 54)).cell? ⟨w.heap.size, 2, none⟩ = some (.string i) := by go_simp
  have c3u0 : (w.alloc (.cells #[.string m, .string f, .string i, .int .i64 ln, .int .i64 ad, .bool false] 54)).cell? ⟨w.heap.size, 3, none⟩ = some (.int .i64 ln) := by go_simp
  have c4u0 : (w.alloc (.cells #[.string m, .string f, .string i, .int .i64 ln, .int .i64 ad, .bool false] 54)).cell? ⟨w.heap.size, 4, none⟩ = some (.int .i64 ad) := by go_simp
  have c5u0 : (w.alloc (.cells #[.string m, .string f, .string i, .int .i64 ln, .int .i64 ad, .bool false] 54)).cell? ⟨w.heap.size, 5, none⟩ = some (.bool false) := by go_simp
  generalize w.alloc (.cells #[.string m, .string f, .string i, .int .i64 ln, .int .i64 ad, .bool false] 54) = u0 at *
  go_wp2_with (first
    | (go_at_call 23; (with_reducible refine (HT.out u0 hBu0).mono ?_); rintro e u1 ⟨rfl, hbu1⟩; have hBu1 := below_keep hBu0 (Nat.le_refl _) hbu1; have hsu1 := Nat.le_trans hsu0 hbu1.size; have hou1 := own_keeps hou0 hbu1; have c4u1 := cell_keep c4u0 hbu1; have c5u1 := cell_keep c5u0 hbu1)
    | (at_builtin; refine wpList_append_own _ rfl _ _ 56 rfl (w.heap.size + 1) 9 i0 (.string ⟨#[]⟩) 1 16 Tryz.underlying56 hi' hz0 hz1 hz2 rfl (by decide) _ _ _ rfl (hou1.alloc (.cells #[.string (A4)] 9)) ⟨u1.heap.size, 0, none⟩ 1 1 [.string (A4)] rfl rfl (cell_new u1 _ 9) (one_cell _) (by unfold maxLen; omega) (by omega) (by simp; omega) ?_; intro v1 u2 hou2 hgu2 _; have hstu2 := st_grow hBu1 hsu1 hou1 hgu2; have hBu2 := hstu2.1; have hsu2 := hstu2.2.1; have c4u2 := hstu2.2.2 _ _ c4u1; have c5u2 := hstu2.2.2 _ _ c5u1; clear hstu2 hgu2)
    | (go_at_call 42; (with_reducible refine (HX.out u2).mono ?_); rintro e u3 ⟨rfl, hbu3⟩; have hBu3 := below_keep hBu2 (Nat.le_refl _) hbu3; have hsu3 := Nat.le_trans hsu2 hbu3.size; have hou3 := own_keeps hou2 hbu3; have c5u3 := cell_keep c5u2 hbu3)
    | (at_builtin; refine wpList_append_own _ rfl _ _ 56 rfl (w.heap.size + 1) 9 i0 (.string ⟨#[]⟩) 1 16 Tryz.underlying56 hi' hz0 hz1 hz2 rfl (by decide) _ _ _ rfl (hou3.alloc (.cells #[.string (⟨#[64]⟩ ++ hx)] 9)) ⟨u3.heap.size, 0, none⟩ 1 1 [.string (⟨#[64]⟩ ++ hx)] rfl rfl (cell_new u3 _ 9) (one_cell _) (by unfold maxLen; omega) (by omega) (by simp; omega) ?_; intro v2 u4 hou4 hgu4 _; have hstu4 := st_grow hBu3 hsu3 hou3 hgu4; have hBu4 := hstu4.1; have hsu4 := hstu4.2.1; have c5u4 := hstu4.2.2 _ _ c5u3; clear hstu4 hgu4)
    | (go_at_call 26; (with_reducible refine (join_own (ws := [(A4), (⟨#[64]⟩ ++ hx)]) hou4 rfl (by simp) (by intro y hy; simp only [List.mem_cons, List.not_mem_nil, or_false] at hy; rcases hy with rfl | rfl <;> (try simp only [ByteArray.size_append]) <;> omega)).mono ?_); rintro e uz ⟨rfl, hbuz⟩))
  go_ret
  exact ⟨congrArg (fun x => Ending.returned (Value.string x)) (congrArg bs (by unfold restW; rw [HW.out]; rfl)), below_keep hBu4 (Nat.le_refl _) hbuz⟩

set_option maxHeartbeats 4000000 in
set_option maxRecDepth 100000 in
theorem restR_1111 (m f i : ByteArray) (ln ad : Int) (ow : Bool) (w : World) (hx : FrOk ⟨m, f, i, ln, ad, ow⟩) (hi : ¬ i.size = 0) (hlt : 0 < ln) (had : 0 ≤ ad) (how : ow = true) :
    Calls Tryz.prog 25 #[.agg #[.string m, .string f, .string i, .int .i64 ln, .int .i64 ad, .bool ow]] w fun e w' => e = .returned (.string (bs (restW ⟨m, f, i, ln, ad, ow⟩))) ∧ Below w.heap.size w w' := by
  obtain ⟨i0, hi', hz0, hz1, hz2⟩ := info_parts infoS
  obtain ⟨g1, g2, g3, hln, hl1, ha0, ha1⟩ := hx
  simp only at g1 g2 g3 hln hl1 ha0 ha1
  have z1 : (⟨#[40]⟩ : ByteArray).size = 1 := rfl
  have z2 : (⟨#[41]⟩ : ByteArray).size = 1 := rfl
  have z3 : (⟨#[58]⟩ : ByteArray).size = 1 := rfl
  have z4 : (⟨#[64]⟩ : ByteArray).size = 1 := rfl
  have z5 : (⟨#[42]⟩ : ByteArray).size = 1 := rfl
  have hil := itoa_len hln hl1
  have HT := Lib.hid (fun (W : World) (_ : Below w.heap.size w W) => told_any ln W hln hl1)
  have hxl := hex_len had ha1
  have HX := Lib.hid (fun (W : World) => inBase16_any ad.toNat W (by omega))
  rw [show ((ad.toNat : Nat) : Int) = ad by omega, show bs (hexL ad.toNat) = hexB ad from rfl] at HX
  have HW := Lib.hid (show wordsW ⟨m, f, i, ln, ad, ow⟩ = [((⟨#[40]⟩ ++ i) ++ (⟨#[58]⟩ ++ bs (Lib.itoa ln)) ++ ⟨#[41]⟩), (⟨#[64]⟩ ++ hexB ad), (⟨#[42]⟩ : ByteArray)] by unfold wordsW w1 w2 w3 fileW; simp only; rw [if_neg hi, if_neg (show ¬ ad < 0 by omega), if_neg (show ¬ ln ≤ 0 by omega)]; subst how; rfl)
  have hie := isE hi
  clear hi
  subst how
  generalize bs (Lib.itoa ln) = it at *
  obtain ⟨A1, hA1⟩ : ∃ A1, (⟨#[40]⟩ : ByteArray) ++ i = A1 := ⟨_, rfl⟩
  have sA1 : A1.size ≤ 201 := by rw [← hA1, ByteArray.size_append]; omega
  obtain ⟨A2, hA2⟩ : ∃ A2, (⟨#[58]⟩ : ByteArray) ++ it = A2 := ⟨_, rfl⟩
  have sA2 : A2.size ≤ 8 := by rw [← hA2, ByteArray.size_append]; omega
  obtain ⟨A3, hA3⟩ : ∃ A3, A1 ++ A2 = A3 := ⟨_, rfl⟩
  have sA3 : A3.size ≤ 209 := by rw [← hA3, ByteArray.size_append]; omega
  obtain ⟨A4, hA4⟩ : ∃ A4, A3 ++ (⟨#[41]⟩ : ByteArray) = A4 := ⟨_, rfl⟩
  have sA4 : A4.size ≤ 210 := by rw [← hA4, ByteArray.size_append]; omega
  rw [hA1, hA2, hA3, hA4] at HW
  generalize hexB ad = hx at *
  go_enter Tryz.func25, Tryz.ntmps25
  go_upto_region 1 with fail
  have hBu0 : Below w.heap.size w (w.alloc (.cells #[.string m, .string f, .string i, .int .i64 ln, .int .i64 ad, .bool true] 54)) := (Below.refl _ _).alloc (Nat.le_refl _) _
  have hsu0 : w.heap.size + 1 ≤ (w.alloc (.cells #[.string m, .string f, .string i, .int .i64 ln, .int .i64 ad, .bool true] 54)).heap.size := by simp
  have hou0 : (w.alloc (.cells #[.string m, .string f, .string i, .int .i64 ln, .int .i64 ad, .bool true] 54)).ownsRow (w.heap.size + 1) 9 1 (.slice none 0 0) 0 [] := World.ownsRow_nil _ _ _ _
  have c2u0 : (w.alloc (.cells #[.string m, .string f, .string i, .int .i64 ln, .int .i64 ad, .bool true] 54)).cell? ⟨w.heap.size, 2, none⟩ = some (.string i) := by go_simp
  have c3u0 : (w.alloc (.cells #[.string m, .string f, .string i, .int .i64 ln, .int .i64 ad, .bool true] 54)).cell? ⟨w.heap.size, 3, none⟩ = some (.int .i64 ln) := by go_simp
  have c4u0 : (w.alloc (.cells #[.string m, .string f, .string i, .int .i64 ln, .int .i64 ad, .bool true] 54)).cell? ⟨w.heap.size, 4, none⟩ = some (.int .i64 ad) := by go_simp
  have c5u0 : (w.alloc (.cells #[.string m, .string f, .string i, .int .i64 ln, .int .i64 ad, .bool true] 54)).cell? ⟨w.heap.size, 5, none⟩ = some (.bool true) := by go_simp
  generalize w.alloc (.cells #[.string m, .string f, .string i, .int .i64 ln, .int .i64 ad, .bool true] 54) = u0 at *
  go_wp2_with (first
    | (go_at_call 23; (with_reducible refine (HT.out u0 hBu0).mono ?_); rintro e u1 ⟨rfl, hbu1⟩; have hBu1 := below_keep hBu0 (Nat.le_refl _) hbu1; have hsu1 := Nat.le_trans hsu0 hbu1.size; have hou1 := own_keeps hou0 hbu1; have c4u1 := cell_keep c4u0 hbu1; have c5u1 := cell_keep c5u0 hbu1)
    | (at_builtin; refine wpList_append_own _ rfl _ _ 56 rfl (w.heap.size + 1) 9 i0 (.string ⟨#[]⟩) 1 16 Tryz.underlying56 hi' hz0 hz1 hz2 rfl (by decide) _ _ _ rfl (hou1.alloc (.cells #[.string (A4)] 9)) ⟨u1.heap.size, 0, none⟩ 1 1 [.string (A4)] rfl rfl (cell_new u1 _ 9) (one_cell _) (by unfold maxLen; omega) (by omega) (by simp; omega) ?_; intro v1 u2 hou2 hgu2 _; have hstu2 := st_grow hBu1 hsu1 hou1 hgu2; have hBu2 := hstu2.1; have hsu2 := hstu2.2.1; have c4u2 := hstu2.2.2 _ _ c4u1; have c5u2 := hstu2.2.2 _ _ c5u1; clear hstu2 hgu2)
    | (go_at_call 42; (with_reducible refine (HX.out u2).mono ?_); rintro e u3 ⟨rfl, hbu3⟩; have hBu3 := below_keep hBu2 (Nat.le_refl _) hbu3; have hsu3 := Nat.le_trans hsu2 hbu3.size; have hou3 := own_keeps hou2 hbu3; have c5u3 := cell_keep c5u2 hbu3)
    | (at_builtin; refine wpList_append_own _ rfl _ _ 56 rfl (w.heap.size + 1) 9 i0 (.string ⟨#[]⟩) 1 16 Tryz.underlying56 hi' hz0 hz1 hz2 rfl (by decide) _ _ _ rfl (hou3.alloc (.cells #[.string (⟨#[64]⟩ ++ hx)] 9)) ⟨u3.heap.size, 0, none⟩ 1 1 [.string (⟨#[64]⟩ ++ hx)] rfl rfl (cell_new u3 _ 9) (one_cell _) (by unfold maxLen; omega) (by omega) (by simp; omega) ?_; intro v2 u4 hou4 hgu4 _; have hstu4 := st_grow hBu3 hsu3 hou3 hgu4; have hBu4 := hstu4.1; have hsu4 := hstu4.2.1; have c5u4 := hstu4.2.2 _ _ c5u3; clear hstu4 hgu4)
    | (at_builtin; refine wpList_append_own _ rfl _ _ 56 rfl (w.heap.size + 1) 9 i0 (.string ⟨#[]⟩) 1 16 Tryz.underlying56 hi' hz0 hz1 hz2 rfl (by decide) _ _ _ rfl (hou4.alloc (.cells #[.string (⟨#[42]⟩ : ByteArray)] 9)) ⟨u4.heap.size, 0, none⟩ 1 1 [.string (⟨#[42]⟩ : ByteArray)] rfl rfl (cell_new u4 _ 9) (one_cell _) (by unfold maxLen; omega) (by omega) (by simp; omega) ?_; intro v3 u5 hou5 hgu5 _; have hstu5 := st_grow hBu4 hsu4 hou4 hgu5; have hBu5 := hstu5.1; have hsu5 := hstu5.2.1; clear hstu5 hgu5)
    | (go_at_call 26; (with_reducible refine (join_own (ws := [(A4), (⟨#[64]⟩ ++ hx), (⟨#[42]⟩ : ByteArray)]) hou5 rfl (by simp) (by intro y hy; simp only [List.mem_cons, List.not_mem_nil, or_false] at hy; rcases hy with rfl | rfl | rfl <;> (try simp only [ByteArray.size_append]) <;> omega)).mono ?_); rintro e uz ⟨rfl, hbuz⟩))
  go_ret
  exact ⟨congrArg (fun x => Ending.returned (Value.string x)) (congrArg bs (by unfold restW; rw [HW.out]; rfl)), below_keep hBu5 (Nat.le_refl _) hbuz⟩

theorem restR_any (x : Fr) (w : World) (hx : FrOk x) :
    Calls Tryz.prog 25 #[.agg #[.string x.m, .string x.f, .string x.i, .int .i64 x.line, .int .i64 x.addr, .bool x.own]] w fun e w' => e = .returned (.string (bs (restW x))) ∧ Below w.heap.size w w' := by
  obtain ⟨m, f, i, ln, ad, ow⟩ := x
  simp only
  by_cases hi : i.size = 0
  · by_cases ha : ad < 0
    · cases ow
      · exact restR_0000 m f i ln ad _ w hx hi ha rfl
      · exact restR_0001 m f i ln ad _ w hx hi ha rfl
    · cases ow
      · exact restR_0010 m f i ln ad _ w hx hi (by omega) rfl
      · exact restR_0011 m f i ln ad _ w hx hi (by omega) rfl
  · by_cases hl : 0 < ln
    · by_cases ha : ad < 0
      · cases ow
        · exact restR_1100 m f i ln ad _ w hx hi hl ha rfl
        · exact restR_1101 m f i ln ad _ w hx hi hl ha rfl
      · cases ow
        · exact restR_1110 m f i ln ad _ w hx hi hl (by omega) rfl
        · exact restR_1111 m f i ln ad _ w hx hi hl (by omega) rfl
    · by_cases ha : ad < 0
      · cases ow
        · exact restR_1000 m f i ln ad _ w hx hi (by omega) ha rfl
        · exact restR_1001 m f i ln ad _ w hx hi (by omega) ha rfl
      · cases ow
        · exact restR_1010 m f i ln ad _ w hx hi (by omega) (by omega) rfl
        · exact restR_1011 m f i ln ad _ w hx hi (by omega) (by omega) rfl
theorem bs_nil {l : List UInt8} (h : l = []) : bs l = ⟨#[]⟩ := by subst h; rfl
theorem bs_isE {l : List UInt8} (h : l ≠ []) : (bs l).toList.isEmpty = false := isE (by rw [bs_size]; exact fun h0 => h (List.length_eq_zero_iff.1 h0))

set_option maxHeartbeats 2000000 in
set_option maxRecDepth 100000 in
/-- The reference's line of a frame. -/
theorem lineR_any (x : Fr) (w : World) (hx : FrOk x) :
    Calls Tryz.prog 22 #[.agg #[.string x.m, .string x.f, .string x.i, .int .i64 x.line, .int .i64 x.addr, .bool x.own]] w fun e w' => e = .returned (.string (bs (lineL x))) ∧ Below w.heap.size w w' := by
  have HR := Lib.hid (fun W => restR_any x W hx)
  have HN := Lib.hid (fun W => nameOf_any x W hx)
  have hcl := callB_len hx
  have hrl := restW_len hx
  have z1 : (⟨#[32]⟩ : ByteArray).size = 1 := rfl
  have HL := Lib.hid (line_rest x hx)
  by_cases he : restW x = []
  · rw [if_pos he] at HL
    rw [bs_nil he] at HR
    have HE := Lib.hid (show callB x = bs (lineL x) by rw [HL.out]; exact (bs_of _).symm)
    clear he HL
    go_enter Tryz.func22, Tryz.ntmps22
    go_wp2_with (first
      | (go_at_call 25; (with_reducible refine (HR.out _).mono ?_); rintro e w1 ⟨rfl, hb1⟩; have hbw1 := below_a1 (Below.refl _ w) (Nat.le_refl _) hb1; have k0 : w1.cell? ⟨w.heap.size, 0, none⟩ = some (.string x.m) := cell_keep (by go_simp) hb1; have k1 : w1.cell? ⟨w.heap.size, 1, none⟩ = some (.string x.f) := cell_keep (by go_simp) hb1; have k2 : w1.cell? ⟨w.heap.size, 2, none⟩ = some (.string x.i) := cell_keep (by go_simp) hb1; have k3 : w1.cell? ⟨w.heap.size, 3, none⟩ = some (.int .i64 x.line) := cell_keep (by go_simp) hb1; have k4 : w1.cell? ⟨w.heap.size, 4, none⟩ = some (.int .i64 x.addr) := cell_keep (by go_simp) hb1; have k5 : w1.cell? ⟨w.heap.size, 5, none⟩ = some (.bool x.own) := cell_keep (by go_simp) hb1)
      | (go_at_call 24; (with_reducible refine (HN.out _).mono ?_); rintro e w2 ⟨rfl, hb2⟩))
    go_ret
    exact ⟨congrArg (fun x => Ending.returned (Value.string x)) HE.out, below_keep hbw1 (Nat.le_refl _) hb2⟩
  · rw [if_neg he] at HL
    have hie := bs_isE he
    have hbl : (bs (restW x)).size ≤ 240 := by rw [bs_size]; exact hrl
    have HE := Lib.hid (show callB x ++ ⟨#[32]⟩ ++ bs (restW x) = bs (lineL x) by
      apply data_inj
      rw [HL.out, app_data, app_data, bs_data, bs_data, List.append_assoc]; rfl)
    clear he HL
    generalize bs (restW x) = R at *
    go_enter Tryz.func22, Tryz.ntmps22
    go_wp2_with (first
      | (go_at_call 25; (with_reducible refine (HR.out _).mono ?_); rintro e w1 ⟨rfl, hb1⟩; have hbw1 := below_a1 (Below.refl _ w) (Nat.le_refl _) hb1; have k0 : w1.cell? ⟨w.heap.size, 0, none⟩ = some (.string x.m) := cell_keep (by go_simp) hb1; have k1 : w1.cell? ⟨w.heap.size, 1, none⟩ = some (.string x.f) := cell_keep (by go_simp) hb1; have k2 : w1.cell? ⟨w.heap.size, 2, none⟩ = some (.string x.i) := cell_keep (by go_simp) hb1; have k3 : w1.cell? ⟨w.heap.size, 3, none⟩ = some (.int .i64 x.line) := cell_keep (by go_simp) hb1; have k4 : w1.cell? ⟨w.heap.size, 4, none⟩ = some (.int .i64 x.addr) := cell_keep (by go_simp) hb1; have k5 : w1.cell? ⟨w.heap.size, 5, none⟩ = some (.bool x.own) := cell_keep (by go_simp) hb1)
      | (go_at_call 24; (with_reducible refine (HN.out _).mono ?_); rintro e w2 ⟨rfl, hb2⟩))
    go_ret
    exact ⟨congrArg (fun x => Ending.returned (Value.string x)) HE.out, below_keep hbw1 (Nat.le_refl _) hb2⟩
end Go.Proofs.YtmoofdcoodaaiaaGreatDoor

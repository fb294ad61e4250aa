/- How the arguments read: tables and modules. -/
import Derived.Test.YtcdaalnjanncmaaDoorRows
import Derived.Test.YtcdaalnjanncmaaDoorModA
import Derived.ProofKit
import Derived.SizedLaws
import Derived.Carry
import Derived.Deep.Slices
import Derived.Deep.Fields
namespace Go.Proofs.YtcdaalnjanncmaaDoor
open Go.ChangeShapes Go.WideShapes Go.ChangeAt Go.RowKit Go.Deep

theorem add_none (b o i : Nat) : (⟨b, o, none⟩ : Addr).add i = ⟨b, o + i, none⟩ := by unfold Addr.add; split <;> simp_all
theorem own : ownKnob Tryd.prog.godebug = none := by kernel_rfl
theorem laidOut : laidOutB Tryd.prog = true := by kernel_rfl
theorem cells9 : Tryd.prog.cellsOf 9 = 1 := by kernel_rfl
theorem cells3 : Tryd.prog.cellsOf 3 = 1 := by kernel_rfl
theorem cells22 : Tryd.prog.cellsOf 29 = 1 := by kernel_rfl
theorem cells23 : Tryd.prog.cellsOf 38 = 1 := by kernel_rfl
theorem cells24 : Tryd.prog.cellsOf 39 = 1 := by kernel_rfl
theorem cells25 : Tryd.prog.cellsOf 40 = 1 := by kernel_rfl
theorem cells27 : Tryd.prog.cellsOf 42 = 6 := by kernel_rfl
theorem cells37 : Tryd.prog.cellsOf 50 = 3 := by kernel_rfl
theorem cells39 : Tryd.prog.cellsOf 77 = 4 := by kernel_rfl
theorem cells53 : Tryd.prog.cellsOf 93 = 3 := by kernel_rfl
theorem cells55 : Tryd.prog.cellsOf 84 = 5 := by kernel_rfl

theorem wf_in64 {n : Int} (h : (Lit.int .i64 n).wf = true) : in64 n := by
  simp only [Lit.wf, Bool.and_eq_true, decide_eq_true_eq] at h
  have h1 : IntKind.min .i64 = -9223372036854775808 := by decide
  have h2 : IntKind.max .i64 = 9223372036854775807 := by decide
  rw [h1, h2] at h
  exact h
theorem fitS_of {s : ByteArray} (h : s.size ≤ maxLen) : fitS s := by unfold maxLen at h; exact h

section
variable {H : Type} {enc : TypeId × Value → H} {W : World}

/-- Elements that each are some thing are a list of things. -/
theorem list_of {α : Type} {p : Nat → α → Prop} : ∀ n : Nat, (∀ i, i < n → ∃ x, p i x) → ∃ l : List α, l.length = n ∧ ∀ i (h : i < l.length), p i l[i]
  | 0, _ => ⟨[], rfl, fun i h => absurd h (by simp)⟩
  | n + 1, h => by
    obtain ⟨l, hl, hp⟩ := list_of n fun i hi => h i (by omega)
    obtain ⟨x, hx⟩ := h n (by omega)
    refine ⟨l ++ [x], by simp [hl], fun i hi => ?_⟩
    by_cases hin : i < l.length
    · rw [List.getElem_append_left hin]; exact hp i hin
    · have : i = n := by simp at hi; omega
      subst this
      rw [List.getElem_append_right (by omega)]
      simpa [hl] using hx
theorem cell_lt {a : Addr} {v : Value} (h : W.cell? a = some v) : a.block < W.heap.size := by
  unfold World.cell? at h
  cases hb : W.heap[a.block]? with
  | none => simp [hb] at h
  | some o => exact (Array.getElem?_eq_some_iff.1 hb).1

theorem open_slG {α : Type} {en : α → List Value} {k : Nat} {fit : α → Prop} {T e : TypeId} (hT : Tryd.prog.underlying T = some (.slice e)) (hcells : Tryd.prog.cellsOf e = k) (hk0 : 0 < k) (hen : ∀ x, ∃ v r, en x = v :: r)
    (hel : ∀ (fuel : Nat) (cs : List Value) (x : DataW H × List MemPlace), DataW.trod enc Tryd.prog W 0 (fun _ => true) true fuel e cs = some x → ∃ f : α, cs = en f ∧ fit f)
    {fuel : Nat} {v : Value} {x : DataW H × List MemPlace} (h : DataW.trod enc Tryd.prog W 0 (fun _ => true) true fuel T [v] = some x) : ∃ l, SlG en k fit W v l := by
  rcases open_slice hT h with ⟨hcs, _⟩ | ⟨a, len, cap, m, n, D, Pl, hcs, hb, hl, hm, hmm, _, hi⟩
  · simp only [List.cons.injEq, and_true] at hcs
    subst hcs
    exact ⟨[], SlG.nil W⟩
  · simp only [List.cons.injEq, and_true] at hcs
    subst hcs
    simp only [if_true] at hmm
    subst hmm
    have hex : ∀ i, i < len → ∃ f : α, fit f ∧ ∀ j, j < k → W.cell? ((a.add (i * k)).add j) = (en f)[j]? := fun i hlt => by
      obtain ⟨cs', hc, ht⟩ := hi i (by omega)
      rw [hcells] at hc
      obtain ⟨_, _, hat⟩ := World.cells?_some hc
      obtain ⟨f, rfl, hf⟩ := hel _ _ _ ht
      exact ⟨f, hf, hat⟩
    obtain ⟨l, rfl, hp⟩ := list_of len hex
    refine ⟨l, some a, m, rfl, hl, hm, fun y hy => ?_, ?_⟩
    · obtain ⟨i, hi', rfl⟩ := List.getElem_of_mem hy
      exact (hp i hi').1
    · by_cases h0 : l.length = 0
      · exact .inl (List.length_eq_zero_iff.1 h0)
      right
      have hc0 := (hp 0 (by omega)).2 0 hk0
      obtain ⟨v0, r0, he0⟩ := hen l[0]
      rw [he0] at hc0
      obtain ⟨b, off, spot⟩ := a
      have hc1 : W.cell? ((⟨b, off, spot⟩ : Addr).add (0 * k + 0)) = some v0 := by rw [← add_add]; exact hc0
      have hspot : spot = none := by simpa [Addr.add] using World.cell?_spot hc1
      subst hspot
      rw [add_none] at hc1
      refine ⟨b, off, rfl, cell_lt hc1, fun i hi' j hj => ?_⟩
      have := (hp i hi').2 j hj
      rwa [add_none, add_none] at this

theorem open_str (fuel : Nat) (cs : List Value) (x : DataW H × List MemPlace) (h : DataW.trod enc Tryd.prog W 0 (fun _ => true) true fuel 9 cs = some x) : ∃ s : ByteArray, cs = encS s ∧ fitS s := by
  obtain ⟨s, e, _, z⟩ := DataW.trod_string Tryd.underlying9 h
  exact ⟨s, e, fitS_of z⟩
theorem open_int (fuel : Nat) (cs : List Value) (x : DataW H × List MemPlace) (h : DataW.trod enc Tryd.prog W 0 (fun _ => true) true fuel 3 cs = some x) : ∃ n : Int, cs = [.int .i64 n] ∧ in64 n := by
  obtain ⟨n, e, _, z⟩ := DataW.trod_int Tryd.underlying3 h
  exact ⟨n, e, wf_in64 z⟩

set_option maxRecDepth 100000 in
theorem open_fnc (fuel : Nat) (cs : List Value) (x : DataW H × List MemPlace) (h : DataW.trod enc Tryd.prog W 0 (fun _ => true) true fuel 50 cs = some x) : ∃ f : Fc, cs = encF f ∧ fitF f := by
  obtain ⟨xs, n, _, _, hl, hxl, hf⟩ := DataW.trod_struct Tryd.underlying50 h
  rw [cells37] at hl
  match cs, hl with
  | [c0, c1, c2], _ =>
    match xs, hxl with
    | [y0, y1, y2], _ =>
      obtain ⟨s0, e0, z0⟩ := open_str n [c0] y0 (by simpa [cells9] using hf 0 _ rfl)
      obtain ⟨n1, e1, z1⟩ := open_int n [c1] y1 (by simpa [cells3] using hf 1 _ rfl)
      obtain ⟨n2, e2, z2⟩ := open_int n [c2] y2 (by simpa [cells3] using hf 2 _ rfl)
      simp only [encS, List.cons.injEq, and_true] at e0 e1 e2
      subst e0 e1 e2
      exact ⟨⟨s0, n1, n2⟩, rfl, z0, z1, z2⟩
set_option maxRecDepth 100000 in
theorem open_row (fuel : Nat) (cs : List Value) (x : DataW H × List MemPlace) (h : DataW.trod enc Tryd.prog W 0 (fun _ => true) true fuel 93 cs = some x) : ∃ f : Rw, cs = encR f ∧ fitR f := by
  obtain ⟨xs, n, _, _, hl, hxl, hf⟩ := DataW.trod_struct Tryd.underlying93 h
  rw [cells53] at hl
  match cs, hl with
  | [c0, c1, c2], _ =>
    match xs, hxl with
    | [y0, y1, y2], _ =>
      obtain ⟨n0, e0, z0⟩ := open_int n [c0] y0 (by simpa [cells3] using hf 0 _ rfl)
      obtain ⟨n1, e1, z1⟩ := open_int n [c1] y1 (by simpa [cells3] using hf 1 _ rfl)
      obtain ⟨n2, e2, z2⟩ := open_int n [c2] y2 (by simpa [cells3] using hf 2 _ rfl)
      simp only [List.cons.injEq, and_true] at e0 e1 e2
      subst e0 e1 e2
      exact ⟨⟨n0, n1, n2⟩, rfl, z0, z1, z2⟩
set_option maxRecDepth 100000 in
theorem open_cal (fuel : Nat) (cs : List Value) (x : DataW H × List MemPlace) (h : DataW.trod enc Tryd.prog W 0 (fun _ => true) true fuel 84 cs = some x) : ∃ f : Cl, cs = encC f ∧ fitC f := by
  obtain ⟨xs, n, _, _, hl, hxl, hf⟩ := DataW.trod_struct Tryd.underlying84 h
  rw [cells55] at hl
  match cs, hl with
  | [c0, c1, c2, c3, c4], _ =>
    match xs, hxl with
    | [y0, y1, y2, y3, y4], _ =>
      obtain ⟨s0, e0, z0⟩ := open_str n [c0] y0 (by simpa [cells9] using hf 0 _ rfl)
      obtain ⟨n1, e1, z1⟩ := open_int n [c1] y1 (by simpa [cells3] using hf 1 _ rfl)
      obtain ⟨n2, e2, z2⟩ := open_int n [c2] y2 (by simpa [cells3] using hf 2 _ rfl)
      obtain ⟨n3, e3, z3⟩ := open_int n [c3] y3 (by simpa [cells3] using hf 3 _ rfl)
      obtain ⟨n4, e4, z4⟩ := open_int n [c4] y4 (by simpa [cells3] using hf 4 _ rfl)
      simp only [encS, List.cons.injEq, and_true] at e0 e1 e2 e3 e4
      subst e0 e1 e2 e3 e4
      exact ⟨⟨s0, n1, n2, n3, n4⟩, rfl, z0, z1, z2, z3, z4⟩
set_option maxRecDepth 100000 in
theorem open_mod (fuel : Nat) (cs : List Value) (x : DataW H × List MemPlace) (h : DataW.trod enc Tryd.prog W 0 (fun _ => true) true fuel 77 cs = some x) : ∃ f : Md, cs = encM f ∧ fitM f := by
  obtain ⟨xs, n, _, _, hl, hxl, hf⟩ := DataW.trod_struct Tryd.underlying77 h
  rw [cells39] at hl
  match cs, hl with
  | [c0, c1, c2, c3], _ =>
    match xs, hxl with
    | [y0, y1, y2, y3], _ =>
      obtain ⟨s0, e0, z0⟩ := open_str n [c0] y0 (by simpa [cells9] using hf 0 _ rfl)
      obtain ⟨s1, e1, z1⟩ := open_str n [c1] y1 (by simpa [cells9] using hf 1 _ rfl)
      obtain ⟨n2, e2, z2⟩ := open_int n [c2] y2 (by simpa [cells3] using hf 2 _ rfl)
      obtain ⟨n3, e3, z3⟩ := open_int n [c3] y3 (by simpa [cells3] using hf 3 _ rfl)
      simp only [encS, List.cons.injEq, and_true] at e0 e1 e2 e3
      subst e0 e1 e2 e3
      exact ⟨⟨s0, s1, n2, n3⟩, rfl, z0, z1, z2, z3⟩
theorem open_mods {fuel : Nat} {v : Value} {x : DataW H × List MemPlace} (h : DataW.trod enc Tryd.prog W 0 (fun _ => true) true fuel 23 [v] = some x) : ∃ l, SlG encM 4 fitM W v l :=
  open_slG Tryd.underlying23 cells39 (by omega) (fun _ => ⟨_, _, rfl⟩) open_mod h

set_option maxRecDepth 100000 in
/-- Six cells that read as a table are one. -/
theorem open_table {fuel : Nat} {cs : List Value} {x : DataW H × List MemPlace} (h : DataW.trod enc Tryd.prog W 0 (fun _ => true) true fuel 42 cs = some x) : ∃ t : Tb, ∃ v1 v2 v3 v4, cs = [.string t.id, .int .i64 t.size, v1, v2, v3, v4] ∧ TbV W (.agg #[.string t.id, .int .i64 t.size, v1, v2, v3, v4]) t := by
  obtain ⟨xs, n, _, _, hl, hxl, hf⟩ := DataW.trod_struct Tryd.underlying42 h
  rw [cells27] at hl
  match cs, hl with
  | [c0, c1, c2, c3, c4, c5], _ =>
    match xs, hxl with
    | [y0, y1, y2, y3, y4, y5], _ =>
      obtain ⟨s0, e0, z0⟩ := open_str n [c0] y0 (by simpa [cells9] using hf 0 _ rfl)
      obtain ⟨n1, e1, z1⟩ := open_int n [c1] y1 (by simpa [cells3] using hf 1 _ rfl)
      have h2 : DataW.trod enc Tryd.prog W 0 (fun _ => true) true n 29 [c2] = some y2 := by simpa [cells22] using hf 2 _ rfl
      have h3 : DataW.trod enc Tryd.prog W 0 (fun _ => true) true n 38 [c3] = some y3 := by simpa [cells23] using hf 3 _ rfl
      have h4 : DataW.trod enc Tryd.prog W 0 (fun _ => true) true n 39 [c4] = some y4 := by simpa [cells24] using hf 4 _ rfl
      have h5 : DataW.trod enc Tryd.prog W 0 (fun _ => true) true n 40 [c5] = some y5 := by simpa [cells25] using hf 5 _ rfl
      obtain ⟨l2, z2⟩ := open_slG (en := encS) (k := 1) (fit := fitS) Tryd.underlying29 cells9 (by omega) (fun _ => ⟨_, _, rfl⟩) open_str h2
      obtain ⟨l3, z3⟩ := open_slG (en := encF) (k := 3) (fit := fitF) Tryd.underlying38 cells37 (by omega) (fun _ => ⟨_, _, rfl⟩) open_fnc h3
      obtain ⟨l4, z4⟩ := open_slG (en := encR) (k := 3) (fit := fitR) Tryd.underlying39 cells53 (by omega) (fun _ => ⟨_, _, rfl⟩) open_row h4
      obtain ⟨l5, z5⟩ := open_slG (en := encC) (k := 5) (fit := fitC) Tryd.underlying40 cells55 (by omega) (fun _ => ⟨_, _, rfl⟩) open_cal h5
      simp only [encS, List.cons.injEq, and_true] at e0 e1
      subst e0 e1
      exact ⟨⟨s0, n1, l2, l3, l4, l5⟩, c2, c3, c4, c5, rfl, c2, c3, c4, c5, rfl, z0, z1, z2, z3, z4, z5⟩
end
end Go.Proofs.YtcdaalnjanncmaaDoor

/-
  The law GroupCarried holds: for every list of rules, what RulesText writes ReadRules reads, and its text is the same again; the rules read afterwards as before.
  Conditions: none of ours. The row lists five variables of the library; they are tied to the program's text on the card.
-/
import Derived.Test.YtooilpblbkgloaaGreatDoorLawCarried
import Derived.Test.YtooilpblbkgloaaGreatDoorTie
import Derived.Test.YtooilpblbkgloaaGreatDoorCards
import Derived.ProofKit
import Derived.SizedLaws
import Derived.LaidMore
import Derived.OpenShut
import Derived.Lay
import Derived.Stop.Joined
import Derived.LaidLaws
import Derived.LaidHandle
import Derived.SevenTiedAt
import Derived.ChangeMaps5
import Derived.ChangeArms
import Derived.Carry
import Derived.Deep.Slices
import Derived.Deep.Fields
import Derived.Deep.DeepHandedRow
namespace Go.Proofs.YtooilpblbkgloaaGreatDoor.carried
open Go.ChangeShapes Go.WideShapes Go.ChangeAt Go.RowKit Go.Deep

theorem own : ownKnob Tryz.prog.godebug = none := by kernel_rfl
theorem laidOut : laidOutB Tryz.prog = true := by kernel_rfl
theorem params4 : Tryz.f4.params = #[22] := by kernel_rfl
theorem cells3 : Tryz.prog.cellsOf 3 = 1 := by kernel_rfl
theorem cells4 : Tryz.prog.cellsOf 4 = 1 := by kernel_rfl
theorem cells9 : Tryz.prog.cellsOf 9 = 1 := by kernel_rfl
theorem cells47 : Tryz.prog.cellsOf 34 = 1 := by kernel_rfl
theorem cells48 : Tryz.prog.cellsOf 35 = 1 := by kernel_rfl
theorem cells50 : Tryz.prog.cellsOf 37 = 2 := by kernel_rfl
theorem cells53 : Tryz.prog.cellsOf 46 = 3 := by kernel_rfl
theorem cells57 : Tryz.prog.cellsOf 49 = 3 := by kernel_rfl
theorem add_none (b o i : Nat) : (⟨b, o, none⟩ : Addr).add i = ⟨b, o + i, none⟩ := by unfold Addr.add; split <;> simp_all

section
variable {H : Type} {enc : TypeId × Value → H} {W : World}
/-- Elements that each are some thing are a list of things. -/
theorem list_of {α : Type} {p : Nat → α → Prop} : ∀ n : Nat, (∀ i, i < n → ∃ x, p i x) → ∃ l : List α, l.length = n ∧ ∀ i (h : i < l.length), p i l[i]
  | 0, _ => ⟨[], rfl, fun i h => absurd h (by simp)⟩
  | n + 1, h => by
    obtain ⟨l, hl, hp⟩ := list_of n fun i hi => h i (by omega)
    obtain ⟨x, hx⟩ := h n (by omega)
    refine ⟨l ++ [x], by simp [hl], fun i hi => ?_⟩
    by_cases hin : i < l.length
    · rw [List.getElem_append_left hin]; exact hp i hin
    · have : i = n := by simp at hi; omega
      subst this
      rw [List.getElem_append_right (by omega)]
      simpa [hl] using hx
theorem cell_lt {a : Addr} {v : Value} (h : W.cell? a = some v) : a.block < W.heap.size := by
  unfold World.cell? at h
  cases hb : W.heap[a.block]? with
  | none => simp [hb] at h
  | some o => exact (Array.getElem?_eq_some_iff.1 hb).1
theorem open_slG {α : Type} {en : α → List Value} {k : Nat} {fit : α → Prop} {T e : TypeId} (hT : Tryz.prog.underlying T = some (.slice e)) (hcells : Tryz.prog.cellsOf e = k) (hk0 : 0 < k) (hen : ∀ x, ∃ v r, en x = v :: r)
    (hel : ∀ (fuel : Nat) (cs : List Value) (x : DataW H × List MemPlace), DataW.trod enc Tryz.prog W 0 (fun _ => true) true fuel e cs = some x → ∃ f : α, cs = en f ∧ fit f)
    {fuel : Nat} {v : Value} {x : DataW H × List MemPlace} (h : DataW.trod enc Tryz.prog W 0 (fun _ => true) true fuel T [v] = some x) : ∃ l, SlG en k fit W v l := by
  rcases open_slice hT h with ⟨hcs, _⟩ | ⟨a, len, cap, m, n, D, Pl, hcs, hb, hl, hm, hmm, _, hi⟩
  · simp only [List.cons.injEq, and_true] at hcs
    subst hcs
    exact ⟨[], SlG.nil W⟩
  · simp only [List.cons.injEq, and_true] at hcs
    subst hcs
    simp only [if_true] at hmm
    subst hmm
    have hex : ∀ i, i < len → ∃ f : α, fit f ∧ ∀ j, j < k → W.cell? ((a.add (i * k)).add j) = (en f)[j]? := fun i hlt => by
      obtain ⟨cs', hc, ht⟩ := hi i (by omega)
      rw [hcells] at hc
      obtain ⟨_, _, hat⟩ := World.cells?_some hc
      obtain ⟨f, rfl, hf⟩ := hel _ _ _ ht
      exact ⟨f, hf, hat⟩
    obtain ⟨l, rfl, hp⟩ := list_of len hex
    refine ⟨l, some a, m, rfl, hl, hm, fun y hy => ?_, ?_⟩
    · obtain ⟨i, hi', rfl⟩ := List.getElem_of_mem hy
      exact (hp i hi').1
    · by_cases h0 : l.length = 0
      · exact .inl (List.length_eq_zero_iff.1 h0)
      right
      have hc0 := (hp 0 (by omega)).2 0 hk0
      obtain ⟨v0, r0, he0⟩ := hen l[0]
      rw [he0] at hc0
      obtain ⟨b, off, spot⟩ := a
      have hc1 : W.cell? ((⟨b, off, spot⟩ : Addr).add (0 * k + 0)) = some v0 := by rw [← add_add]; exact hc0
      have hspot : spot = none := by simpa [Addr.add] using World.cell?_spot hc1
      subst hspot
      rw [add_none] at hc1
      refine ⟨b, off, rfl, cell_lt hc1, fun i hi' j hj => ?_⟩
      have := (hp i hi').2 j hj
      rwa [add_none, add_none] at this

theorem fitS_of {s : ByteArray} (h : s.size ≤ maxLen) : fitS s := by unfold maxLen at h; exact h
theorem open_str (fuel : Nat) (cs : List Value) (x : DataW H × List MemPlace) (h : DataW.trod enc Tryz.prog W 0 (fun _ => true) true fuel 9 cs = some x) : ∃ s : ByteArray, cs = [.string s] ∧ fitS s := by
  obtain ⟨s, e, _, z⟩ := DataW.trod_string Tryz.underlying9 h
  exact ⟨s, e, fitS_of z⟩
theorem open_int' (fuel : Nat) (cs : List Value) (x : DataW H × List MemPlace) (h : DataW.trod enc Tryz.prog W 0 (fun _ => true) true fuel 3 cs = some x) : ∃ n : Int, cs = [.int .i64 n] := by
  obtain ⟨n, e, _, _⟩ := DataW.trod_int Tryz.underlying3 h
  exact ⟨n, e⟩
theorem open_bool' (fuel : Nat) (cs : List Value) (x : DataW H × List MemPlace) (h : DataW.trod enc Tryz.prog W 0 (fun _ => true) true fuel 4 cs = some x) : ∃ b : Bool, cs = [.bool b] := by
  obtain ⟨n, e, _⟩ := DataW.trod_bool Tryz.underlying4 h
  exact ⟨n, e⟩
set_option maxRecDepth 100000 in
theorem open_mat (fuel : Nat) (cs : List Value) (x : DataW H × List MemPlace) (h : DataW.trod enc Tryz.prog W 0 (fun _ => true) true fuel 46 cs = some x) : ∃ f : Mt, cs = encM f ∧ fitM f := by
  obtain ⟨xs, n, _, _, hl, hxl, hf⟩ := DataW.trod_struct Tryz.underlying46 h
  rw [cells53] at hl
  match cs, hl with
  | [c0, c1, c2], _ =>
    match xs, hxl with
    | [y0, y1, y2], _ =>
      obtain ⟨n0, e0⟩ := open_int' n [c0] y0 (by simpa [cells3] using hf 0 _ rfl)
      obtain ⟨n1, e1⟩ := open_bool' n [c1] y1 (by simpa [cells4] using hf 1 _ rfl)
      obtain ⟨n2, e2, z2⟩ := open_str n [c2] y2 (by simpa [cells9] using hf 2 _ rfl)
      simp only [List.cons.injEq, and_true] at e0 e1 e2
      subst e0 e1 e2
      exact ⟨⟨n0, n1, n2⟩, rfl, z2⟩
set_option maxRecDepth 100000 in
theorem open_act (fuel : Nat) (cs : List Value) (x : DataW H × List MemPlace) (h : DataW.trod enc Tryz.prog W 0 (fun _ => true) true fuel 49 cs = some x) : ∃ f : Ac, cs = encA f ∧ fitA f := by
  obtain ⟨xs, n, _, _, hl, hxl, hf⟩ := DataW.trod_struct Tryz.underlying49 h
  rw [cells57] at hl
  match cs, hl with
  | [c0, c1, c2], _ =>
    match xs, hxl with
    | [y0, y1, y2], _ =>
      obtain ⟨n0, e0⟩ := open_int' n [c0] y0 (by simpa [cells3] using hf 0 _ rfl)
      obtain ⟨n1, e1⟩ := open_int' n [c1] y1 (by simpa [cells3] using hf 1 _ rfl)
      obtain ⟨n2, e2, z2⟩ := open_str n [c2] y2 (by simpa [cells9] using hf 2 _ rfl)
      simp only [List.cons.injEq, and_true] at e0 e1 e2
      subst e0 e1 e2
      exact ⟨⟨n0, n1, n2⟩, rfl, z2⟩
set_option maxRecDepth 100000 in
theorem open_rule (fuel : Nat) (cs : List Value) (x : DataW H × List MemPlace) (h : DataW.trod enc Tryz.prog W 0 (fun _ => true) true fuel 37 cs = some x) : ∃ f : Value × Value × Ru, cs = [f.1, f.2.1] ∧ RuV W f.1 f.2.1 f.2.2 := by
  obtain ⟨xs, n, _, _, hl, hxl, hf⟩ := DataW.trod_struct Tryz.underlying37 h
  rw [cells50] at hl
  match cs, hl with
  | [c0, c1], _ =>
    match xs, hxl with
    | [y0, y1], _ =>
      have h0 : DataW.trod enc Tryz.prog W 0 (fun _ => true) true n 34 [c0] = some y0 := by simpa [cells47] using hf 0 _ rfl
      have h1 : DataW.trod enc Tryz.prog W 0 (fun _ => true) true n 35 [c1] = some y1 := by simpa [cells48] using hf 1 _ rfl
      obtain ⟨l0, z0⟩ := open_slG (en := encM) (k := 3) (fit := fitM) Tryz.underlying34 cells53 (by omega) (fun _ => ⟨_, _, rfl⟩) open_mat h0
      obtain ⟨l1, z1⟩ := open_slG (en := encA) (k := 3) (fit := fitA) Tryz.underlying35 cells57 (by omega) (fun _ => ⟨_, _, rfl⟩) open_act h1
      exact ⟨(c0, c1, ⟨l0, l1⟩), rfl, z0, z1⟩
theorem open_rules {fuel : Nat} {v : Value} {x : DataW H × List MemPlace} (h : DataW.trod enc Tryz.prog W 0 (fun _ => true) true fuel 22 [v] = some x) : ∃ l, RsV W v l := by
  obtain ⟨l, p, cap, hv, h1, h2, h3, h4⟩ := open_slG (en := fun f : Value × Value × Ru => [f.1, f.2.1]) (k := 2) (fit := fun f => RuV W f.1 f.2.1 f.2.2) Tryz.underlying22 cells50 (by omega) (fun _ => ⟨_, _, rfl⟩) open_rule h
  refine ⟨l.map (fun f => f.2.2), p, cap, by rw [List.length_map]; exact hv, by rw [List.length_map]; exact h1, h2, ?_⟩
  rcases h4 with rfl | ⟨b, off, hp, hb, hc⟩
  · exact .inl rfl
  · refine .inr ⟨b, off, hp, hb, fun i hi => ?_⟩
    rw [List.length_map] at hi
    refine ⟨l[i].1, l[i].2.1, ?_, ?_, ?_⟩
    · have := hc i hi 0 (by omega); simpa using this
    · have := hc i hi 1 (by omega); simpa using this
    · rw [List.getElem_map]; exact h3 _ (List.getElem_mem hi)
end

theorem gPow : Tryz.prog.globalNamed "internal/strconv.uint64pow10" = some 5 := by kernel_rfl
theorem gPowType : (Tryz.prog.globals[5]?).map (·.type) = some 156 := by kernel_rfl
theorem cells127 : Tryz.prog.cellsOf 156 = 20 := by kernel_rfl
theorem cells121 : Tryz.prog.cellsOf 145 = 1 := by kernel_rfl
/-- What the texts need is there when the call begins. -/
theorem env_of {W : World} (hL : laidMetH Tryz.prog Rows.groupCarriedRow.laid W) (hsh : W.ShapedOpen Tryz.prog) : Env W := by
  refine ⟨Tryz.laysM143.s1_3 W hsh, ?_⟩
  have h := hL.filter (fun x => x.1 == "internal/strconv.uint64pow10")
  have e : Rows.groupCarriedRow.laid.filter (fun x => x.1 == "internal/strconv.uint64pow10") = [("internal/strconv.uint64pow10", Rows.laid_internal_strconv_uint64pow10)] := by rfl
  rw [e, MakeChecks.laidMetH_plain _ _ _ (by kernel_rfl)] at h
  exact Lib.tabIs_of_head (rest := []) gPow gPowType Tryz.underlying156 Tryz.underlying145 cells121 cells127 h

set_option maxHeartbeats 800000 in
set_option maxRecDepth 100000 in
theorem lifted (os : Os) (started : os.Started) (H : Type) (enc : TypeId × Value → H) (F : Stop.Interp) :
    ReturnsInHanded {} Tryz.checked os 4 .any ((OpenSpec.ofChange Rows.groupCarriedSpec).preRow enc Tryz.prog Tryz.f4 Rows.groupCarriedRow.domain false Rows.groupCarriedRow.laid) (((OpenSpec.ofChange Rows.groupCarriedSpec).at F).post enc Tryz.prog Tryz.f4 false true false false) := by
  obtain ⟨places, hx⟩ : ∃ places, DataW.whole enc Tryz.prog ((World.laidAll Tryz.prog os Rows.groupCarriedRow.laid).forCall (fun _ _ => 0) ⟨#[], #[.slice none 0 0], []⟩).memory Tryz.f4.params.toList Rows.groupCarriedSpec.vars false #[Value.slice none 0 0].toList 8 = some ([.nil], [], places) := ⟨[], by kernel_rfl⟩
  refine returnsInHanded_of_row (C := Tryz.checked) (s := OpenSpec.ofChange Rows.groupCarriedSpec) own started (by kernel_rfl) Tryz.func4
    (witness_row_at (enc := enc) (C := Tryz.checked) false (World.laidAll Tryz.prog os Rows.groupCarriedRow.laid) #[.slice none 0 0] (World.laidAll_os _ _ _) (by kernel_rfl) (by kernel_rfl) (by kernel_rfl)
      (OpenSpec.preRow_of_cond 8 hx (by kernel_rfl) (fun k hk => by cases hk) (by kernel_rfl)
        (by rw [MakeChecks.laidMetH_plain _ _ _ (by kernel_rfl)]; exact laidMet_laidAll _ (by kernel_rfl) (by kernel_rfl)))) ?_
  intro W base args ds gs before hval0 hW _ _ _ hL hsh _
  have henv := env_of hL hsh
  have hval : ∀ (j : Nat) t v, Tryz.f4.params[j]? = some t → args[j]? = some v → Value.okWide Tryz.prog W .any base t v := hval0
  have hW' := hW
  obtain ⟨p, q, hA0, hV, rfl, _, _⟩ := hW
  have hA : DataW.TrodAll enc Tryz.prog W 0 (fun _ => true) true Tryz.f4.params.toList args.toList ds p := hA0
  rw [params4] at hA hval
  obtain ⟨v0, vs0, d0, ds0, p0, q0, hargs, rfl, rfl, h0, r0⟩ := trodAll_cons hA
  obtain ⟨rfl, rfl, rfl⟩ := trodAll_nil r0
  obtain ⟨args⟩ := args
  simp only at hargs
  subst hargs
  obtain ⟨rfl, rfl⟩ := trodVars_none hV
  obtain ⟨a1, n1, k1, rfl⟩ := okWide_slice Tryz.underlying22 (hval 0 22 v0 rfl rfl)
  clear hA0 hval0 hval hA r0
  simp only [List.append_nil] at hW'
  have hlt : ∀ y ∈ p0, y.block < W.heap.size := fun y hy => by simpa using hW'.lt y (by simpa using hy)
  have e0 := fun W' (hn : Below W.heap.size W W') => Below.trod laidOut (by kernel_rfl) (of_decide_eq_true (by kernel_rfl)) h0 hn (fun y hy => hlt y hy)
  obtain ⟨f0, hf0⟩ := h0
  obtain ⟨l, hl⟩ := open_rules (v := .slice a1 n1 k1) hf0
  refine (carried_any _ l W hl henv).mono fun e W' ⟨he, hn⟩ => ?_
  subst he
  exact ⟨_, rfl, _, _, _, [], _, [], hW', trodAll_mk1 (shut_bool Tryz.underlying4 _),
    trodAll_cons_mk (e0 _ hn) trodAll_mk0, rfl, hn.frame _, fun h => by cases h⟩

theorem row : Rows.GroupCarriedSaid :=
  OpenClaim.holds_of_cond 4 Tryz.f4 rfl rfl rfl rfl rfl rfl rfl ⟨rfl, rfl, rfl, rfl, rfl⟩ rfl rfl rfl rfl rfl (by kernel_rfl) Tryz.func4 (by kernel_rfl)
    (of_decide_eq_true (by kernel_rfl)) (by unfold Func.isWrapper; first | (rw [if_pos (by decide +kernel)]; kernel_rfl) | (rw [if_neg (by decide +kernel)]; exact ⟨rfl, rfl⟩))
    (fun os started H enc _ F => by rw [OpenClaim.pre_eq_preRow]; exact lifted os started H enc F)

theorem card : Rows.GroupCarriedCardSaid :=
  Claim7.holds_tied_plain_at .later [] _ _ _ _
    row (fun _ h => by cases h) (by kernel_rfl) (fun _ h => by cases h) groupCarried_row_tie rfl ⟨rfl, rfl⟩ (by kernel_rfl) rfl
    (fun f fn hf hfn => by
      obtain rfl : f = 4 := Option.some.inj ((show Tryz.prog.funcNamed "inquest/inqkeep1.GroupCarried" = some 4 by kernel_rfl).symm.trans hf) |>.symm
      obtain rfl : fn = Tryz.f4 := (Option.some.inj (Tryz.func4.symm.trans hfn)).symm
      exact ⟨by kernel_rfl, fun j t ht => by
        rw [params4] at ht
        have hm : t ∈ [22] := by simpa using Array.mem_of_getElem? ht
        have hall : ([22].all fun u => !Tryz.prog.wantsStandIn u) = true := by kernel_rfl
        exact (show Tryz.prog.wantsStandIn t = false by simpa using List.all_eq_true.1 hall t hm)⟩)
    (by kernel_rfl)
#print axioms card
end Go.Proofs.YtooilpblbkgloaaGreatDoor.carried

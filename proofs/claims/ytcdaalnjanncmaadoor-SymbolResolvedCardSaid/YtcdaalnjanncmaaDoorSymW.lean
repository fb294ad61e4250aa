/- How the arguments read: slices of frames, and of tables. -/
import Derived.Test.YtcdaalnjanncmaaDoorSymV
import Derived.Test.YtcdaalnjanncmaaDoorResD
namespace Go.Proofs.YtcdaalnjanncmaaDoor
open Go.ChangeShapes Go.WideShapes Go.ChangeAt Go.RowKit Go.Deep

theorem cells35 : Tryd.prog.cellsOf 35 = 6 := by kernel_rfl
theorem cells42 : Tryd.prog.cellsOf 42 = 6 := by kernel_rfl
theorem cells4 : Tryd.prog.cellsOf 4 = 1 := by kernel_rfl
theorem slF_of_slG {w : World} {v : Value} {l : List Fr} (h : SlG encFr 6 Fr.fit w v l) : SlF w v l := by
  obtain ⟨p, cap, hv, h1, h2, h3, h4⟩ := h
  refine ⟨p, cap, hv, h1, h2, h3, ?_⟩
  rcases h4 with h4 | ⟨b, off, hp, hb, hc⟩
  · exact .inl h4
  · refine .inr ⟨b, off, hp, hb, fun k hk => ⟨?_, ?_, ?_, ?_, ?_, ?_⟩⟩
    · simpa [encFr] using hc k hk 0 (by omega)
    · simpa [encFr] using hc k hk 1 (by omega)
    · simpa [encFr] using hc k hk 2 (by omega)
    · simpa [encFr] using hc k hk 3 (by omega)
    · simpa [encFr] using hc k hk 4 (by omega)
    · simpa [encFr] using hc k hk 5 (by omega)
section
variable {H : Type} {enc : TypeId × Value → H} {W : World}
set_option maxRecDepth 100000 in
theorem open_frame (fuel : Nat) (cs : List Value) (x : DataW H × List MemPlace) (h : DataW.trod enc Tryd.prog W 0 (fun _ => true) true fuel 35 cs = some x) : ∃ f : Fr, cs = encFr f ∧ f.fit := by
  obtain ⟨xs, n, _, _, hl, hxl, hf⟩ := DataW.trod_struct Tryd.underlying35 h
  rw [cells35] at hl
  match cs, hl with
  | [c0, c1, c2, c3, c4, c5], _ =>
    match xs, hxl with
    | [y0, y1, y2, y3, y4, y5], _ =>
      have h0 : DataW.trod enc Tryd.prog W 0 (fun _ => true) true n 9 [c0] = some y0 := by simpa [cells9] using hf 0 _ rfl
      have h1 : DataW.trod enc Tryd.prog W 0 (fun _ => true) true n 9 [c1] = some y1 := by simpa [cells9] using hf 1 _ rfl
      have h2 : DataW.trod enc Tryd.prog W 0 (fun _ => true) true n 9 [c2] = some y2 := by simpa [cells9] using hf 2 _ rfl
      have h3 : DataW.trod enc Tryd.prog W 0 (fun _ => true) true n 3 [c3] = some y3 := by simpa [cells3] using hf 3 _ rfl
      have h4 : DataW.trod enc Tryd.prog W 0 (fun _ => true) true n 3 [c4] = some y4 := by simpa [cells3] using hf 4 _ rfl
      have h5 : DataW.trod enc Tryd.prog W 0 (fun _ => true) true n 4 [c5] = some y5 := by simpa [cells4] using hf 5 _ rfl
      obtain ⟨s0, e0, _, z0⟩ := DataW.trod_string Tryd.underlying9 h0
      obtain ⟨s1, e1, _, z1⟩ := DataW.trod_string Tryd.underlying9 h1
      obtain ⟨s2, e2, _, z2⟩ := DataW.trod_string Tryd.underlying9 h2
      obtain ⟨n3, e3, _, _⟩ := DataW.trod_int Tryd.underlying3 h3
      obtain ⟨n4, e4, _, _⟩ := DataW.trod_int Tryd.underlying3 h4
      obtain ⟨b5, e5, _⟩ := DataW.trod_bool Tryd.underlying4 h5
      simp only [List.cons.injEq, and_true] at e0 e1 e2 e3 e4 e5
      subst e0 e1 e2 e3 e4 e5
      exact ⟨⟨s0, s1, s2, n3, n4, b5⟩, rfl, z0, z1, z2⟩
theorem open_frames {fuel : Nat} {v : Value} {x : DataW H × List MemPlace} (h : DataW.trod enc Tryd.prog W 0 (fun _ => true) true fuel 22 [v] = some x) : ∃ l, SlF W v l := by
  obtain ⟨l, hl⟩ := open_slG (en := encFr) (k := 6) (fit := Fr.fit) Tryd.underlying22 cells35 (by omega) (fun _ => ⟨_, _, rfl⟩) open_frame h
  exact ⟨l, slF_of_slG hl⟩
theorem open_tab (fuel : Nat) (cs : List Value) (x : DataW H × List MemPlace) (h : DataW.trod enc Tryd.prog W 0 (fun _ => true) true fuel 42 cs = some x) : ∃ f : Te, cs = encT f ∧ TbV W f.val f.t := by
  obtain ⟨t, v1, v2, v3, v4, hcs, htv⟩ := open_table h
  obtain ⟨u1, u2, u3, u4, he, g1, g2, g3, g4, g5, g6⟩ := id htv
  simp only [Value.agg.injEq, Array.mk.injEq, List.cons.injEq, and_true, true_and] at he
  obtain ⟨rfl, rfl, rfl, rfl⟩ := he
  obtain ⟨p1, k1, rfl, _⟩ := id g3
  obtain ⟨p2, k2, rfl, _⟩ := id g4
  obtain ⟨p3, k3, rfl, _⟩ := id g5
  obtain ⟨p4, k4, rfl, _⟩ := id g6
  exact ⟨⟨t, p1, p2, p3, p4, k1, k2, k3, k4⟩, hcs, htv⟩
theorem open_tables {fuel : Nat} {v : Value} {x : DataW H × List MemPlace} (h : DataW.trod enc Tryd.prog W 0 (fun _ => true) true fuel 24 [v] = some x) : ∃ l, TbsV W v l := by
  obtain ⟨l, p, cap, hv, h1, h2, h3, h4⟩ := open_slG (en := encT) (k := 6) (fit := fun f => TbV W f.val f.t) Tryd.underlying24 cells42 (by omega) (fun _ => ⟨_, _, rfl⟩) open_tab h
  exact ⟨l, ⟨p, cap, hv, h1, h2, fun _ _ => trivial, h4⟩, h3⟩
end
end Go.Proofs.YtcdaalnjanncmaaDoor

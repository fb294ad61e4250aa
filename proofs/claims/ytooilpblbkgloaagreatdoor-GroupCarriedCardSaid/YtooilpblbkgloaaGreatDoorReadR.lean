/- A reader's rule. -/
import Derived.Test.YtooilpblbkgloaaGreatDoorReadE
import Derived.Test.YtooilpblbkgloaaGreatDoorReadP
import Derived.Deep.RegionLaw
import Derived.Deep.RegionHeld3
namespace Go.Proofs.YtooilpblbkgloaaGreatDoor
open Go.RowKit Go.Lib Go.Deep

theorem infoM : (Tryz.prog.info? 46).map (fun i => (i.zero, i.size, i.bytes)) = some (some (.agg #[.int .i64 0, .bool false, .string ⟨#[]⟩]), 3, 32) := by kernel_rfl
theorem infoA : (Tryz.prog.info? 49).map (fun i => (i.zero, i.size, i.bytes)) = some (some (.agg #[.int .i64 0, .int .i64 0, .string ⟨#[]⟩]), 3, 32) := by kernel_rfl
theorem step_append {P : Program} {ops : Array Oper} {o : Oper} {a : Act} {w : World} {K : Act → World → Prop} {Q : Exit → Act → World → Prop} {E : Prop} (hgd : o.guard = none) (s x : Operand) (t : TypeId)
    (ho : o.op = .call { callee := .builtin .append, args := #[s, x], argTypes := #[t, t] })
    (base : Nat) (e : TypeId) (i : TypeInfo) (z : Value) (size bytes : Nat) (ht : P.underlying t = some (.slice e)) (hi : P.info? e = some i) (hz : i.zero = some z)
    (hsize : i.size = size) (hby : i.bytes = bytes) (hzs : z.cells.size = size) (hsz : 0 < size)
    (v : Value) (n : Nat) (xs : List Value) (hs : a.eval s = v) (hown : w.ownsRow base e size v n xs)
    (ad : Addr) (m c : Nat) (news : List Value) (hx : a.eval x = .slice (some ad) m c) (hl : news.length = m * size) (hnews : ∀ j u, news[j]? = some u → w.cell? (ad.add j) = some u) (h1 : ∀ u ∈ news, u.oneCell' = true)
    (h63 : n + m ≤ maxLen) (hbytes : (n + m) * bytes ≤ 140737488355328) (hbase : base ≤ w.heap.size)
    (h : ∀ v' w', w'.ownsRow base e size v' (n + m) (xs ++ news) → w.grownBy w' v.ownBlock → K (a.put o.dst v') w') :
    if Region.wanted o (yielded ops a.tmps) = true then Oper.wp P o a w K Q else E := by
  rw [if_pos (by simp [Region.wanted, hgd])]
  exact wp_append_own w s x t ho base e i z size bytes ht hi hz hsize hby hzs hsz v n xs hs hown ad m c news hx hl hnews h1 h63 hbytes hbase fun v' w' h2 h3 _ => h v' w' h2 h3
theorem encM_new (w : World) (a : Mt) (t : TypeId) : ∀ j u, (encM a)[j]? = some u → (w.alloc (.cells #[.int .i64 a.on, .bool a.nt, .string a.gl] t)).cell? ((⟨w.heap.size, 0, none⟩ : Addr).add j) = some u := by
  intro j u hj
  unfold encM at hj
  match j, hj with
  | 0, hj => simp at hj; subst hj; simp [Addr.add]
  | 1, hj => simp at hj; subst hj; simp [Addr.add]
  | 2, hj => simp at hj; subst hj; simp [Addr.add]
theorem encM_one (a : Mt) : ∀ u ∈ encM a, u.oneCell' = true := by
  intro u hx
  simp only [encM, List.mem_cons, List.not_mem_nil, or_false] at hx
  rcases hx with rfl | rfl | rfl <;> rfl
theorem match_rd (m : Mt) (b : Nat) (l : List UInt8) (w : World) (h : mErr m = 0) (hR : RdC w b (bs (mText m ++ l))) :
    Calls Tryz.prog 26 #[.pointer (some ⟨b, 0, none⟩)] w fun e w' => e = .returned (.agg #[.int .i64 m.on, .bool m.nt, .string m.gl]) ∧ RdC w' b (bs l) ∧ w.grownBy w' (some b) := by
  obtain ⟨h1, h2, h3⟩ := mErr_fit h
  have h6 : m.on = 6 → m.gl = ⟨#[]⟩ := by
    intro e
    unfold mErr at h
    rw [if_neg (by omega)] at h
    by_cases hz : m.gl.size = 0
    · have : m.gl.data.toList = [] := by apply List.eq_nil_of_length_eq_zero; rw [← Lib.size_eq]; exact hz
      rw [← Lib.mk_data m.gl, this]
    · rw [if_pos ⟨e, hz⟩] at h; omega
  obtain ⟨on, nt, gl⟩ := m
  simp only at h1 h2 h3 h6 hR ⊢
  have e : (((on - 1).toNat : Int) + 1) = on := by omega
  have := match_at (on - 1).toNat (by omega) nt gl b l w h3 (fun h => h6 (by omega)) (by rw [e]; exact hR)
  rw [e] at this
  exact this

theorem ms_drop {ms : List Mt} {k : Nat} (h : k < ms.length) : msText (ms.drop k) = mText ms[k] ++ (32 :: msText (ms.drop (k + 1))) := by
  rw [List.drop_eq_getElem_cons h]; unfold msText; rw [List.flatMap_cons, List.append_assoc]; rfl
theorem own_drew' {w : World} {base : Nat} {e : TypeId} {size : Nat} {v : Value} {n : Nat} {xs : List Value} (h : w.ownsRow base e size v n xs) : w.drew.ownsRow base e size v n xs := h
/-- What the boxes of readRule hold: n the result, n + 1 the rule, n + 2 the reader. -/
structure Ri (n : Nat) (w wr : World) (v1 v2 : Value) : Prop where
  i0 : wr.cell? ⟨n + 1, 0, none⟩ = some v1
  i1 : wr.cell? ⟨n + 1, 1, none⟩ = some v2
  g0 : wr.frozen? ⟨n + 1, 0, none⟩ = false
  g1 : wr.frozen? ⟨n + 1, 1, none⟩ = false
  z0 : wr.cell? ⟨n, 0, none⟩ = some (.slice none 0 0)
  z1 : wr.cell? ⟨n, 1, none⟩ = some (.slice none 0 0)
  y0 : wr.frozen? ⟨n, 0, none⟩ = false
  y1 : wr.frozen? ⟨n, 1, none⟩ = false
  bw : Below n w wr
theorem Ri.lt {n : Nat} {w wr : World} {v1 v2 : Value} (h : Ri n w wr v1 v2) : n + 1 < wr.heap.size := World.block_lt_of_cell? _ _ h.i0
theorem Ri.grown {n : Nat} {w wr w' : World} {v1 v2 : Value} {r : Option Nat} (h : Ri n w wr v1 v2) (hg : wr.grownBy w' r) (hr : ∀ q, r = some q → n + 1 + 1 ≤ q) : Ri n w w' v1 v2 := by
  have hl := h.lt
  have e1 : w'.heap[n + 1]? = wr.heap[n + 1]? := hg.block _ hl (fun e => by have := hr _ e.symm; omega)
  have e0 : w'.heap[n]? = wr.heap[n]? := hg.block _ (by omega) (fun e => by have := hr _ e.symm; omega)
  exact ⟨(World.cell?_of_block (a := ⟨n + 1, 0, none⟩) e1).trans h.i0, (World.cell?_of_block (a := ⟨n + 1, 1, none⟩) e1).trans h.i1, (World.frozen?_of_block (a := ⟨n + 1, 0, none⟩) e1).trans h.g0, (World.frozen?_of_block (a := ⟨n + 1, 1, none⟩) e1).trans h.g1,
    (World.cell?_of_block (a := ⟨n, 0, none⟩) e0).trans h.z0, (World.cell?_of_block (a := ⟨n, 1, none⟩) e0).trans h.z1, (World.frozen?_of_block (a := ⟨n, 0, none⟩) e0).trans h.y0, (World.frozen?_of_block (a := ⟨n, 1, none⟩) e0).trans h.y1,
    h.bw.grown hg (by omega) (fun q e => by have := hr q e; omega)⟩
theorem Ri.drew {n : Nat} {w wr : World} {v1 v2 : Value} (h : Ri n w wr v1 v2) : Ri n w wr.drew v1 v2 := ⟨h.i0, h.i1, h.g0, h.g1, h.z0, h.z1, h.y0, h.y1, h.bw.drew⟩
theorem Ri.alloc {n : Nat} {w wr : World} {v1 v2 : Value} (h : Ri n w wr v1 v2) (o : Obj) : Ri n w (wr.alloc o) v1 v2 := h.grown (World.grownBy_alloc wr o none) (fun q e => by cases e)
theorem Ri.set0 {n : Nat} {w wr : World} {v1 v2 : Value} (h : Ri n w wr v1 v2) (u : Value) : Ri n w (wr.setCell ⟨n + 1, 0, none⟩ u) u v2 := by
  obtain ⟨i0, i1, g0, g1, z0, z1, y0, y1, bw⟩ := h
  exact ⟨by go_simp, by go_simp, by rw [World.frozen?_setCell]; exact g0, by rw [World.frozen?_setCell]; exact g1, by go_simp, by go_simp, by rw [World.frozen?_setCell]; exact y0, by rw [World.frozen?_setCell]; exact y1, bw.setCell (by show n ≤ n + 1; omega) _⟩
theorem own_set {n o : Nat} {w : World} {base : Nat} {e : TypeId} {size : Nat} {v : Value} {k : Nat} {xs : List Value} (h : w.ownsRow base e size v k xs) (hn : n < base) (u : Value) : (w.setCell ⟨n, o, none⟩ u).ownsRow base e size v k xs := ownsRow_setCell_below h hn u

theorem Ri.set1 {n : Nat} {w wr : World} {v1 v2 : Value} (h : Ri n w wr v1 v2) (u : Value) : Ri n w (wr.setCell ⟨n + 1, 1, none⟩ u) v1 u := by
  obtain ⟨i0, i1, g0, g1, z0, z1, y0, y1, bw⟩ := h
  exact ⟨by go_simp, by go_simp, by rw [World.frozen?_setCell]; exact g0, by rw [World.frozen?_setCell]; exact g1, by go_simp, by go_simp, by rw [World.frozen?_setCell]; exact y0, by rw [World.frozen?_setCell]; exact y1, bw.setCell (by show n ≤ n + 1; omega) _⟩
theorem encA_new (w : World) (a : Ac) (t : TypeId) : ∀ j u, (encA a)[j]? = some u → (w.alloc (.cells #[.int .i64 a.d, .int .i64 a.n, .string a.t] t)).cell? ((⟨w.heap.size, 0, none⟩ : Addr).add j) = some u := by
  intro j u hj
  unfold encA at hj
  match j, hj with
  | 0, hj => simp at hj; subst hj; simp [Addr.add]
  | 1, hj => simp at hj; subst hj; simp [Addr.add]
  | 2, hj => simp at hj; subst hj; simp [Addr.add]
theorem encA_one (a : Ac) : ∀ u ∈ encA a, u.oneCell' = true := by
  intro u hx
  simp only [encA, List.mem_cons, List.not_mem_nil, or_false] at hx
  rcases hx with rfl | rfl | rfl <;> rfl
theorem own_other {w w' : World} {B s1 s2 n1 n2 : Nat} {v1 v2 : Value} {x1 x2 : List Value} (h1 : w.ownsRow B 46 s1 v1 n1 x1) (h2 : w.ownsRow B 49 s2 v2 n2 x2) (hg : w.grownBy w' v2.ownBlock) : w'.ownsRow B 46 s1 v1 n1 x1 := by
  obtain ⟨a1, b1⟩ := h1
  refine ⟨a1, ?_⟩
  rcases b1 with b1 | ⟨g, cap, cur, hv, hgb, hh, r⟩
  · exact Or.inl b1
  · refine Or.inr ⟨g, cap, cur, hv, hgb, ?_, r⟩
    rw [hg.block g (Array.getElem?_eq_some_iff.1 hh).1 ?_]
    · exact hh
    · intro e
      rcases h2.2 with ⟨rfl, _⟩ | ⟨g2, cap2, cur2, rfl, _, hh2, _⟩
      · simp [Value.ownBlock] at e
      · simp [Value.ownBlock] at e
        subst e
        rw [hh] at hh2
        simp at hh2
theorem own_slv {w : World} {B s n : Nat} {e : TypeId} {v : Value} {xs : List Value} (h : w.ownsRow B e s v n xs) : ∃ a m c, v = .slice a m c := by
  rcases h.2 with ⟨rfl, _⟩ | ⟨g, cap, cur, rfl, _⟩
  · exact ⟨_, _, _, rfl⟩
  · exact ⟨_, _, _, rfl⟩
theorem as_drop {l : List Ac} {k : Nat} (h : k < l.length) : asText (l.drop k) = 32 :: (aText l[k] ++ asText (l.drop (k + 1))) := by
  rw [List.drop_eq_getElem_cons h]; unfold asText; rw [List.flatMap_cons]; rfl
theorem as_head : ∀ l : List Ac, asText l = [] ∨ ∃ t, asText l = 32 :: t
  | [] => Or.inl rfl
  | a :: l => Or.inr ⟨aText a ++ asText l, by unfold asText; rw [List.flatMap_cons]; rfl⟩
theorem as_len : ∀ {l : List Ac}, (∀ a ∈ l, aErr a = 0) → (asText l).length ≤ l.length * 211
  | [], _ => by simp [asText]
  | a :: l, h => by
    have ih := as_len (l := l) (fun x hx => h x (List.mem_cons_of_mem _ hx))
    have ha := aText_len (h a (by simp))
    have : asText (a :: l) = 32 :: (aText a ++ asText l) := by unfold asText; rw [List.flatMap_cons]; rfl
    rw [this]
    simp only [List.length_append, List.length_cons]
    omega
theorem act_rd (a : Ac) (b : Nat) (l : List UInt8) (w : World) (h : aErr a = 0) (hl : l = [] ∨ ∃ t, l = 32 :: t) (hlz : l.length ≤ 900000) (hR : RdC w b (bs (aText a ++ l))) (hE : ∀ W, w.grownBy W (some b) → Env W) :
    Calls Tryz.prog 28 #[.pointer (some ⟨b, 0, none⟩)] w fun e w' => e = .returned (.agg #[.int .i64 a.d, .int .i64 a.n, .string a.t]) ∧ RdC w' b (bs l) ∧ w.grownBy w' (some b) := by
  obtain ⟨h1, h2, h3, h4⟩ := aErr_fit h
  have h0 : (a.n ≠ 0 → a.d = 5) ∧ (a.t.size ≠ 0 → a.d = 6) := by
    unfold aErr at h
    split at h
    · omega
    · split at h
      · omega
      · rename_i hq
        exact ⟨fun hn => by apply Classical.byContradiction; intro hd; exact hq (Or.inl ⟨hn, hd⟩), fun hn => by apply Classical.byContradiction; intro hd; exact hq (Or.inr ⟨hn, hd⟩)⟩
  obtain ⟨d, n, t⟩ := a
  simp only at h1 h2 h3 h4 h0 hR ⊢
  have e : (((d - 1).toNat : Int) + 1) = d := by omega
  have := act_at (d - 1).toNat (by omega) n t b l w h3 (by
    split
    · have := h4 (by omega); omega
    · apply Classical.byContradiction; intro hn; have := h0.1 hn; omega) (fun hd => by
    have hz : t.size = 0 := by apply Classical.byContradiction; intro hz; have := h0.2 hz; omega
    have : t.data.toList = [] := by apply List.eq_nil_of_length_eq_zero; rw [← Lib.size_eq]; exact hz
    rw [← Lib.mk_data t, this]) hl hlz (by rw [e]; exact hR) hE
  rw [e] at this
  exact this
theorem results_bx2 {fn : Func} {p q : Tmp} {v0 v1 : Value} (h : fn.results = #[.cell p 37, .tmp q]) (tmps : Array Value) (w : World) (g : Nat) (hp : tmps.getD p undef = .pointer (some ⟨g, 0, none⟩)) (c0 : w.cell? ⟨g, 0, none⟩ = some v0) (c1 : w.cell? ⟨g, 1, none⟩ = some v1) :
    (results fn tmps).run Tryz.prog w = .ok (.tuple #[.agg #[v0, v1], tmps.getD q undef]) w := by
  have hp' : tmps[p]?.getD undef = .pointer (some ⟨g, 0, none⟩) := by simpa using hp
  simp [results, h, hp', asAddr, loadVar]
  go_simp
/-- A rule whose rows a call has made. -/
def OwR (w : World) (v1 v2 : Value) (r : Ru) : Prop := ∃ B, w.ownsRow B 46 3 v1 r.ms.length (cellsG encM r.ms) ∧ w.ownsRow B 49 3 v2 r.as.length (cellsG encA r.as)
theorem OwR.ru {w : World} {v1 v2 : Value} {r : Ru} (h : OwR w v1 v2 r) (hr : ruErr r = 0) : RuV w v1 v2 r := by
  obtain ⟨B, h1, h2⟩ := h
  refine ⟨slG_of_owns (enc := encM) (k := 3) (fun _ => rfl) (by decide) h1 (fun x hx => ?_), slG_of_owns (enc := encA) (k := 3) (fun _ => rfl) (by decide) h2 (fun x hx => ?_)⟩
  · have := (mErr_fit ((ruErr_fit hr).2.2.1 x hx)).2.2
    unfold fitM fitS; omega
  · have := (aErr_fit ((ruErr_fit hr).2.2.2 x hx)).2.2.1
    unfold fitA fitS; omega
theorem OwR.keeps {w w' : World} {v1 v2 : Value} {r : Ru} (h : OwR w v1 v2 r) (hb : Below w.heap.size w w') : OwR w' v1 v2 r := by
  obtain ⟨B, h1, h2⟩ := h
  exact ⟨B, own_keeps h1 hb, own_keeps h2 hb⟩
theorem own_type {w w' : World} {B B2 e1 e2 s1 s2 n1 n2 : Nat} {v1 v2 : Value} {x1 x2 : List Value} (he : e1 ≠ e2) (h1 : w.ownsRow B e1 s1 v1 n1 x1) (h2 : w.ownsRow B2 e2 s2 v2 n2 x2) (hg : w.grownBy w' v2.ownBlock) : w'.ownsRow B e1 s1 v1 n1 x1 := by
  obtain ⟨a1, b1⟩ := h1
  refine ⟨a1, ?_⟩
  rcases b1 with b1 | ⟨g, cap, cur, hv, hgb, hh, r⟩
  · exact Or.inl b1
  · refine Or.inr ⟨g, cap, cur, hv, hgb, ?_, r⟩
    rw [hg.block g (Array.getElem?_eq_some_iff.1 hh).1 ?_]
    · exact hh
    · intro e
      rcases h2.2 with ⟨rfl, _⟩ | ⟨g2, cap2, cur2, rfl, _, hh2, _⟩
      · simp [Value.ownBlock] at e
      · simp [Value.ownBlock] at e
        subst e
        rw [hh] at hh2
        simp at hh2
        exact he hh2.2
/-- An append to a row of rules keeps the rules' own rows. -/
theorem OwR.grown {w w' : World} {v1 v2 : Value} {r : Ru} (h : OwR w v1 v2 r) {B2 n2 : Nat} {v : Value} {x2 : List Value} (h2 : w.ownsRow B2 37 2 v n2 x2) (hg : w.grownBy w' v.ownBlock) : OwR w' v1 v2 r := by
  obtain ⟨B, o1, o2⟩ := h
  exact ⟨B, own_type (by decide) o1 h2 hg, own_type (by decide) o2 h2 hg⟩
/-- The second loop of readRule. -/
def L2 (n : Nat) (w : World) (ms : List Mt) (as' : List Ac) (v1 : Value) (wr : World) : Prop := ∃ (k : Nat) (v2 : Value), k ≤ as'.length ∧ Ri n w wr v1 v2 ∧ wr.ownsRow (n + 1 + 1 + 1) 46 3 v1 ms.length (cellsG encM ms) ∧ wr.ownsRow (n + 1 + 1 + 1) 49 3 v2 k (cellsG encA (as'.take k)) ∧ RdC wr (n + 1 + 1) (bs (asText (as'.drop k)))
/-- The first loop of readRule. -/
def L1 (n : Nat) (w : World) (ms : List Mt) (R : List UInt8) (wr : World) : Prop := ∃ (k : Nat) (v : Value), k ≤ ms.length ∧ Ri n w wr v (.slice none 0 0) ∧ wr.ownsRow (n + 1 + 1 + 1) 46 3 v k (cellsG encM (ms.take k)) ∧ RdC wr (n + 1 + 1) (bs (msText (ms.drop k) ++ R))
set_option maxHeartbeats 4000000 in
set_option maxRecDepth 100000 in
theorem readRule_good (line : ByteArray) (r : Ru) (w : World) (hl : line = bs (rText r)) (hr : ruErr r = 0) (henv : Env w) :
    Calls Tryz.prog 11 #[.string line] w fun e w' => ∃ v1 v2, e = .returned (.tuple #[.agg #[v1, v2], .bool true]) ∧ OwR w' v1 v2 r ∧ Below w.heap.size w w' := by
  obtain ⟨n, hn⟩ : ∃ n, n = w.heap.size := ⟨_, rfl⟩
  obtain ⟨R, hRR⟩ : ∃ R, R = [45, 62] ++ asText r.as := ⟨_, rfl⟩
  have hms := (ruErr_fit hr).1
  have hme := (ruErr_fit hr).2.2.1
  obtain ⟨im, him, hzm0, hzm1, hzm2⟩ := info_parts infoM
  have HL := Lib.hid hl
  have HENV := Lib.hid henv
  have has := (ruErr_fit hr).2.1
  have hae := (ruErr_fit hr).2.2.2
  obtain ⟨ia, hia, hza0, hza1, hza2⟩ := info_parts infoA
  have HRR := Lib.hid hRR
  clear hl hRR
  obtain ⟨ms, hmsE⟩ : ∃ ms, ms = r.ms := ⟨_, rfl⟩
  obtain ⟨as', hasE⟩ : ∃ l, l = r.as := ⟨_, rfl⟩
  rw [← hmsE] at hms hme
  rw [← hasE] at has hae HRR
  have HME := Lib.hid hmsE
  have HAE := Lib.hid hasE
  clear hmsE hasE henv
  go_enter Tryz.func11, Tryz.ntmps11
  go_wp2_with fail
  rw [← hn]
  have HN := Lib.hid hn
  clear hn
  go_loopw [] (fun wr => L1 n w ms R wr) (fun wr => Lib.strSize ((wr.cell? ⟨n + 1 + 1, 0, none⟩).getD (.string ⟨#[]⟩)))
  case atStart =>
    have hLE : bs (msText (ms.drop 0) ++ R) = line := by rw [HL.out, rText_parts, HRR.out, ← HME.out, ← HAE.out]; rfl
    have hn := HN.out
    subst hn
    exact ⟨0, .slice none 0 0, Nat.zero_le _, ⟨by go_simp, by go_simp, by go_simp, by go_simp, by go_simp, by go_simp, by go_simp, by go_simp, (((Below.refl _ _).alloc (Nat.le_refl _) _).alloc (by simp) _).alloc (by simp; omega) _⟩, ⟨rfl, .inl ⟨rfl, rfl⟩⟩, ⟨by rw [hLE]; go_simp, by go_simp, by go_simp⟩⟩
  case round =>
    obtain ⟨k, v, hk, h, hown, hrd⟩ := hrel
    have hrl := hrd.lt
    by_cases hlt : k < ms.length
    · have HK := Lib.hid (show msText (ms.drop k) ++ R = mText ms[k] ++ ([32] ++ (msText (ms.drop (k + 1)) ++ R)) by rw [ms_drop hlt]; simp)
      have hm := hme _ (List.getElem_mem hlt)
      have HT := Lib.hid (show cellsG encM (ms.take (k + 1)) = cellsG encM (ms.take k) ++ encM ms[k] by rw [List.take_succ_eq_append_getElem hlt, cellsG_append]; simp [cellsG])
      generalize ms[k] = m at *
      rw [HK.out] at hrd
      have HS := Lib.hid (show Calls Tryz.prog 25 #[.pointer (some ⟨n + 1 + 1, 0, none⟩), .string ⟨#[45, 62]⟩] wr fun e w' => e = .returned (.bool false) ∧ w' = wr from skip_miss (n + 1 + 1) (bs [45, 62]) _ wr hrd (mText_noarrow m _))
      have HM := Lib.hid (match_rd m (n + 1 + 1) _ wr.drew hm ⟨hrd.c0, hrd.c1, hrd.f0⟩)
      have x0 := hrd.c0
      have x1 := hrd.c1
      have xi := h.i0
      have H := Lib.hid h.drew
      have HO := Lib.hid hown
      have hbase : ∀ q, v.ownBlock = some q → n + 1 + 1 + 1 ≤ q := fun q e => own_base hown q e
      have q1 : k + 1 ≤ maxLen := by unfold maxLen; omega
      have q2 : (k + 1) * 32 ≤ 140737488355328 := by omega
      have HX := Lib.hid (fun (W : World) (hr : RdC W (n + 1 + 1) (bs ([32] ++ (msText (ms.drop (k + 1)) ++ R)))) => (show Calls Tryz.prog 27 #[.pointer (some ⟨n + 1 + 1, 0, none⟩), .string ⟨#[32]⟩] W fun e w' => e = .returned (.tuple #[]) ∧ RdC w' (n + 1 + 1) (bs (msText (ms.drop (k + 1)) ++ R)) ∧ W.grownBy w' (some (n + 1 + 1)) from expect_hit (n + 1 + 1) [32] _ W hr))
      clear h hrd hown
      go_wp2_with (go_at_call 25; (with_reducible refine HS.out.mono ?_); rintro e w1 ⟨rfl, rfl⟩)
      go_region_law (first
        | (refine step_append rfl (.tmp 20) (.tmp 23) 34 rfl (n + 1 + 1 + 1) 46 im _ 3 32 Tryz.underlying34 him hzm0 hzm1 hzm2 rfl (by decide) v k _ (by simp [Act.eval]) hown2 ⟨w2.heap.size, 0, none⟩ 1 1 (encM m) (by simp [Act.eval]) rfl (encM_new w2 m 46) (encM_one m) q1 q2 (by simp; omega) ?_; intro v4 w4 hown4 hgr4; obtain ⟨g4, cap4, rfl, hcap4, hgb4, hgl4, hcl4⟩ := own_slice hown4 (Nat.succ_pos k); have h4 := (h2.alloc _).grown hgr4 (fun q e => (by have := hbase q e; omega)); have k0 := h4.i0; have kf := h4.g0; have hR4 := (hR2.alloc (.cells #[.int .i64 m.on, .bool m.nt, .string m.gl] 46)).grown hgr4 (fun e => (by have := hbase _ e; omega)))
        | (go_simp; go_at_call 26; (with_reducible refine HM.out.mono ?_); rintro e w2 ⟨rfl, hR2, hg2⟩; have h2 := H.out.grown hg2 (fun q e => (by have := Option.some.inj e; omega)); have j0 := h2.i0; have hown2 := (own_grown (own_drew' HO.out) hg2 (Nat.lt_succ_self _)).alloc (.cells #[.int .i64 m.on, .bool m.nt, .string m.gl] 46); have hs2 := hg2.size; have hrl2 : n + 1 + 1 < w2.heap.size := Nat.lt_of_lt_of_le hrl hs2; have hlt1 : n + 1 < w2.heap.size := (by omega)))
      all_goals
        have hR5 := hR4.at0 (B := n + 1) (o := 0) (by omega) (.slice (some ⟨g4, 0, none⟩) (k + 1) cap4)
        go_wp2_with (go_at_call 27; (with_reducible refine (HX.out _ hR5).mono ?_); rintro e w6 ⟨rfl, hR6, hg6⟩)
        refine ⟨show L1 n w ms R w6 from ⟨k + 1, .slice (some ⟨g4, 0, none⟩) (k + 1) cap4, hlt, (h4.set0 _).grown hg6 (fun q e => by have := Option.some.inj e; omega), ?_, hR6⟩, ?_⟩
        · rw [HT.out]; exact own_grown (own_set hown4 (by omega) _) hg6 (by omega)
        · rw [hR6.c0, x0]
          simp only [Option.getD_some, Lib.strSize_string, bs_size, List.length_append, List.length_cons]
          omega
    · have hkn : k = ms.length := by omega
      rw [hkn, List.drop_length, show msText [] = [] from rfl, List.nil_append, HRR.out] at hrd
      rw [hkn, List.take_length] at hown
      clear hkn hlt hk
      have HS := Lib.hid (show Calls Tryz.prog 25 #[.pointer (some ⟨n + 1 + 1, 0, none⟩), .string ⟨#[45, 62]⟩] wr fun e w' => e = .returned (.bool true) ∧ RdC w' (n + 1 + 1) (bs (asText as')) ∧ wr.grownBy w' (some (n + 1 + 1)) from skip_hit (n + 1 + 1) [45, 62] (asText as') wr hrd)
      have x0 := hrd.c0
      have x1 := hrd.c1
      have H := Lib.hid h
      clear h
      go_wp2_with (go_at_call 25; (with_reducible refine HS.out.mono ?_); rintro e w1 ⟨rfl, hR1, hg1⟩)
      have h1 := H.out.grown hg1 (fun q e => by have := Option.some.inj e; omega)
      have ho1 := own_grown hown hg1 (show n + 1 + 1 < n + 1 + 1 + 1 by omega)
      obtain ⟨sa, sn, sc, rfl⟩ := own_slv ho1
      have HI := Lib.hid (show L2 n w ms as' (.slice sa sn sc) w1 from ⟨0, .slice none 0 0, Nat.zero_le _, h1, ho1, ⟨rfl, .inl ⟨rfl, rfl⟩⟩, hR1⟩)
      clear x0 x1 H hR1 hg1 h1 ho1 hown hrd HS hms hme
      go_loopw [] (fun wr => L2 n w ms as' (.slice sa sn sc) wr) (fun wr => Lib.strSize ((wr.cell? ⟨n + 1 + 1, 0, none⟩).getD (.string ⟨#[]⟩)))
      case atStart => exact HI.out
      case round =>
        obtain ⟨k, v, hk, h, hown1, hown2, hrd⟩ := hrel
        have hrl := hrd.lt
        by_cases hlt : k < as'.length
        · have HK := Lib.hid (as_drop hlt)
          have hm := hae _ (List.getElem_mem hlt)
          have HT := Lib.hid (show cellsG encA (as'.take (k + 1)) = cellsG encA (as'.take k) ++ encA as'[k] by rw [List.take_succ_eq_append_getElem hlt, cellsG_append]; simp [cellsG])
          have hX1 := as_head (as'.drop (k + 1))
          have hX2 : (asText (as'.drop (k + 1))).length ≤ 900000 := by
            have h1 := as_len (l := as'.drop (k + 1)) (fun a ha => hae a (List.mem_of_mem_drop ha))
            have h2 : (as'.drop (k + 1)).length ≤ 8 := by rw [List.length_drop]; omega
            have h3 := Nat.mul_le_mul_right 211 h2
            omega
          generalize as'[k] = m at *
          rw [HK.out] at hrd
          obtain ⟨X, hX⟩ : ∃ X, X = asText (as'.drop (k + 1)) := ⟨_, rfl⟩
          rw [← hX] at hrd hX1 hX2
          have HXE := Lib.hid hX
          clear hX
          have HX := Lib.hid (show Calls Tryz.prog 27 #[.pointer (some ⟨n + 1 + 1, 0, none⟩), .string ⟨#[32]⟩] wr fun e w' => e = .returned (.tuple #[]) ∧ RdC w' (n + 1 + 1) (bs (aText m ++ X)) ∧ wr.grownBy w' (some (n + 1 + 1)) from expect_hit (n + 1 + 1) [32] _ wr hrd)
          obtain ⟨T, hT⟩ : ∃ T, T = bs (32 :: (aText m ++ X)) := ⟨_, rfl⟩
          rw [← hT] at hrd
          obtain ⟨p1, p2, p3, p4⟩ := bs_ne hT
          have HP4 := Lib.hid p4
          have x0 := hrd.c0
          have HA := Lib.hid (fun (W : World) (hr : RdC W (n + 1 + 1) (bs (aText m ++ X))) (hb : Below n w W) => act_rd m (n + 1 + 1) X W hm hX1 hX2 hr (fun W' hg => HENV.out.keep (by
            rw [← HN.out]; exact hb.grown hg (by have := hr.lt; omega) (fun q e => by have := Option.some.inj e; omega))))
          have H := Lib.hid h
          have HO1 := Lib.hid hown1
          have HO2 := Lib.hid hown2
          have hbase : ∀ q, v.ownBlock = some q → n + 1 + 1 + 1 ≤ q := fun q e => own_base hown2 q e
          have q1 : k + 1 ≤ maxLen := by unfold maxLen; omega
          have q2 : (k + 1) * 32 ≤ 140737488355328 := by omega
          clear h hown1 hown2 hT hrd p4
          go_wp2_with (go_at_call 27; (with_reducible refine HX.out.mono ?_); rintro e w1 ⟨rfl, hR1, hg1⟩; have h1 := H.out.grown hg1 (fun q e => (by have := Option.some.inj e; omega)); have xi := h1.i1)
          have hR1d : RdC w1.drew (n + 1 + 1) (bs (aText m ++ X)) := ⟨hR1.c0, hR1.c1, hR1.f0⟩
          have H1 := Lib.hid h1.drew
          have HOA := Lib.hid (own_drew' (own_grown HO1.out hg1 (show n + 1 + 1 < n + 1 + 1 + 1 by omega)))
          have HOB := Lib.hid (own_drew' (own_grown HO2.out hg1 (show n + 1 + 1 < n + 1 + 1 + 1 by omega)))
          have hrl1 := hR1.lt
          go_region_law (first
            | (refine step_append rfl (.tmp 36) (.tmp 39) 35 rfl (n + 1 + 1 + 1) 49 ia _ 3 32 Tryz.underlying35 hia hza0 hza1 hza2 rfl (by decide) v k _ (by simp [Act.eval]) hown2b ⟨w2.heap.size, 0, none⟩ 1 1 (encA m) (by simp [Act.eval]) rfl (encA_new w2 m 49) (encA_one m) q1 q2 (by simp; omega) ?_; intro v4 w4 hown4 hgr4; obtain ⟨g4, cap4, rfl, hcap4, hgb4, hgl4, hcl4⟩ := own_slice hown4 (Nat.succ_pos k); have h4 := (h2.alloc _).grown hgr4 (fun q e => (by have := hbase q e; omega)); have k0 := h4.i1; have kf := h4.g1; have hR4 := (hR2.alloc (.cells #[.int .i64 m.d, .int .i64 m.n, .string m.t] 49)).grown hgr4 (fun e => (by have := hbase _ e; omega)); have hown1d := own_other hown1b hown2b hgr4)
            | (go_simp; go_at_call 28; (with_reducible refine (HA.out _ hR1d H1.out.bw).mono ?_); rintro e w2 ⟨rfl, hR2, hg2⟩; have h2 := H1.out.grown hg2 (fun q e => (by have := Option.some.inj e; omega)); have j0 := h2.i1; have hown1b := (own_grown HOA.out hg2 (Nat.lt_succ_self _)).alloc (.cells #[.int .i64 m.d, .int .i64 m.n, .string m.t] 49); have hown2b := (own_grown HOB.out hg2 (Nat.lt_succ_self _)).alloc (.cells #[.int .i64 m.d, .int .i64 m.n, .string m.t] 49); have hs2 := hg2.size; have hrl2 : n + 1 + 1 < w2.heap.size := Nat.lt_of_lt_of_le hrl1 hs2; have hlt1 : n + 1 < w2.heap.size := (by omega)))
          all_goals
            have hR5 := hR4.at0 (B := n + 1) (o := 1) (by omega) (.slice (some ⟨g4, 0, none⟩) (k + 1) cap4)
            go_wp2_with fail
            refine ⟨show L2 n w ms as' (.slice sa sn sc) _ from ⟨k + 1, .slice (some ⟨g4, 0, none⟩) (k + 1) cap4, hlt, h4.set1 _, own_set hown1d (by omega) _, ?_, ?_⟩, ?_⟩
            · rw [HT.out]; exact own_set hown4 (by omega) _
            · rw [← HXE.out]; exact hR5
            · rw [hR5.c0, x0]
              simp only [Option.getD_some, Lib.strSize_string, bs_size]
              rw [HP4.out, List.length_append]
              omega
        · have hkn : k = as'.length := by omega
          rw [hkn, List.drop_length, show asText [] = [] from rfl] at hrd
          rw [hkn, List.take_length] at hown2
          clear hkn hlt hk
          obtain ⟨ta, tn, tc, rfl⟩ := own_slv hown2
          obtain ⟨T, hT⟩ : ∃ T, T = bs [] := ⟨_, rfl⟩
          rw [← hT] at hrd
          have p1 : T.toList.isEmpty = true := by rw [Lib.toList_data, hT]; rfl
          have p2 : (!T.toList.isEmpty) = false := by rw [p1]; rfl
          have x0 := hrd.c0
          have x1 := hrd.c1
          have HF := Lib.hid h
          obtain ⟨i0, i1, g0, g1, z0, z1, y0, y1, bw⟩ := h
          clear hT hrd
          go_wp2_with fail
          go_region
          all_goals
            (try go_wp2_with fail)
            (try simp only [Exit.inBlock, Exit.then])
            refine bodyPost_ret (results_bx2 rfl _ _ n rfl (v0 := .slice sa sn sc) (v1 := .slice ta tn tc) (by go_simp) (by go_simp)) rfl ?_
            refine ⟨.slice sa sn sc, .slice ta tn tc, rfl, ⟨n + 1 + 1 + 1, ?_, ?_⟩, ?_⟩
            · rw [← HME.out]; exact own_set (own_set (own_drew' hown1) (by omega) _) (by omega) _
            · rw [← HAE.out]; exact own_set (own_set (own_drew' hown2) (by omega) _) (by omega) _
            · rw [← HN.out]
              exact (bw.drew.setCell (p := ⟨n, 0, none⟩) (Nat.le_refl _) _).setCell (p := ⟨n, 1, none⟩) (Nat.le_refl _) _
end Go.Proofs.YtooilpblbkgloaaGreatDoor

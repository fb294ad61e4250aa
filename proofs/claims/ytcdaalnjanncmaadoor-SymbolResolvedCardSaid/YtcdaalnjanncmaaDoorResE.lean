/- What frames become, as lists; and the contract of resolveFrame in one. -/
import Derived.Test.YtcdaalnjanncmaaDoorResD
namespace Go.Proofs.YtcdaalnjanncmaaDoor
open Go.RowKit Go.Deep Go.Lib

/-- The name of the first function that has an offset. -/
def fname (t : Tb) (p : Int) : ByteArray := ((t.funcs[(fncAt p t.funcs).toNat]?).map Fc.n).getD noB
/-- The frames that a frame becomes; none: it stays. -/
def resO (fr : Fr) (ret : Bool) (ms : List Md) (ts : List Te) : Option (List Fr) :=
  if modAt fr.addr ms = -1 then none else
  match ms[(modAt fr.addr ms).toNat]? with
  | none => none
  | some m =>
    if tabIdx ts m.id < 0 then none else
    match ts[(tabIdx ts m.id).toNat]? with
    | none => none
    | some x =>
      if plErr x.t (offOf0 (fr.addr - m.a) ret) ≠ 0 then none else
      some ((placesOf x.t (offOf0 (fr.addr - m.a) ret) (fname x.t (offOf0 (fr.addr - m.a) ret))).map (frOf m.n fr.addr fr.own))
theorem modAt_cases (p : Int) (ms : List Md) : modAt p ms = -1 ∨ ∃ (i : Nat) (m : Md), modAt p ms = (i : Int) ∧ ms[i]? = some m ∧ m.a ≤ p ∧ p < m.b := by
  by_cases h : modAt p ms = -1
  · exact .inl h
  · right
    obtain ⟨i, hi, h1, h2, h3, _⟩ := firstFrom_lt (l := mprs ms) (k := 0) (p := p) h
    have hi' : i < ms.length := by unfold mprs at hi; simpa using hi
    refine ⟨i, ms[i], ?_, List.getElem?_eq_getElem hi', ?_, ?_⟩
    · unfold modAt; rw [h1]; simp
    · simpa [mprs] using h2
    · simpa [mprs] using h3
theorem resO_eq {fr : Fr} {ret : Bool} {ms : List Md} {ts : List Te} {i : Nat} {m : Md} (h1 : modAt fr.addr ms = (i : Int)) (h2 : ms[i]? = some m) :
    resO fr ret ms ts = if tabIdx ts m.id < 0 then none else
    match ts[(tabIdx ts m.id).toNat]? with
    | none => none
    | some x =>
      if plErr x.t (offOf0 (fr.addr - m.a) ret) ≠ 0 then none else
      some ((placesOf x.t (offOf0 (fr.addr - m.a) ret) (fname x.t (offOf0 (fr.addr - m.a) ret))).map (frOf m.n fr.addr fr.own)) := by
  unfold resO
  rw [if_neg (by omega), h1, Int.toNat_natCast, h2]
theorem resO_eq2 {fr : Fr} {ret : Bool} {ms : List Md} {ts : List Te} {i k : Nat} {m : Md} {x : Te} (h1 : modAt fr.addr ms = (i : Int)) (h2 : ms[i]? = some m) (h3 : tabIdx ts m.id = (k : Int)) (h4 : ts[k]? = some x) :
    resO fr ret ms ts = if plErr x.t (offOf0 (fr.addr - m.a) ret) ≠ 0 then none else
      some ((placesOf x.t (offOf0 (fr.addr - m.a) ret) (fname x.t (offOf0 (fr.addr - m.a) ret))).map (frOf m.n fr.addr fr.own)) := by
  rw [resO_eq h1 h2, if_neg (by omega), h3, Int.toNat_natCast, h4]

/-- What right frames, modules and tables are. -/
structure GoodR (fs : List Fr) (ms : List Md) (ts : List Te) : Prop where
  nfs : fs.length ≤ 200
  nms : ms.length ≤ 100
  nts : ts.length ≤ 100
  adr : ∀ f ∈ fs, -1 ≤ f.addr ∧ f.addr ≤ 281474976710655
  mod : ∀ m ∈ ms, 0 ≤ m.a ∧ m.b ≤ 281474976710656
  tab : ∀ x ∈ ts, tabErr x.t = 0

theorem resolveFrame_no (fr : Fr) (ret : Bool) (vm vt : Value) (fs : List Fr) (ms : List Md) (ts : List Te) (w : World) (hm : SlG encM 4 fitM w vm ms) (ht : TbsV w vt ts) (hg : GoodR fs ms ts) (hf : fr ∈ fs) (h : resO fr ret ms ts = none) :
    Calls Tryd.prog 28 #[fr.val, .bool ret, vm, vt] w fun e w' => e = .returned (.tuple #[.slice none 0 0, .bool false]) ∧ Below w.heap.size w w' := by
  rcases modAt_cases fr.addr ms with h1 | ⟨i, m, h1, h2, h3, h4⟩
  · exact resolveFrame_out fr ret vm vt ms w hm h1
  · have ha := hg.adr _ hf
    have hma := hg.mod m (List.mem_iff_getElem?.2 ⟨i, h2⟩)
    by_cases hx : tabIdx ts m.id < 0
    · exact resolveFrame_lone fr ret vm vt ms ts i m w hm ht h1 h2 hg.nms hx
    · obtain ⟨k, x, k1, k2, k3⟩ := tabIdx_some (Int.not_lt.1 hx)
      rw [resO_eq2 h1 h2 k1 k2] at h
      refine resolveFrame_bad fr ret vm vt ms ts i k m x w hm ht h1 h2 hg.nms k1 k2 hg.nts (by omega) (by omega) ?_
      intro hz
      rw [if_neg (by omega)] at h
      cases h
theorem resolveFrame_yes (fr : Fr) (ret : Bool) (vm vt : Value) (fs : List Fr) (ms : List Md) (ts : List Te) (l : List Fr) (w : World) (hm : SlG encM 4 fitM w vm ms) (ht : TbsV w vt ts) (hg : GoodR fs ms ts) (hf : fr ∈ fs) (h : resO fr ret ms ts = some l) :
    Calls Tryd.prog 28 #[fr.val, .bool ret, vm, vt] w fun e w' => ∃ u, e = .returned (.tuple #[u, .bool true]) ∧ Below w.heap.size w w' ∧ w'.ownsRow w.heap.size 35 6 u l.length (cellsG encFr l) := by
  rcases modAt_cases fr.addr ms with h1 | ⟨i, m, h1, h2, h3, h4⟩
  · unfold resO at h; rw [if_pos h1] at h; cases h
  · have ha := hg.adr _ hf
    have hma := hg.mod m (List.mem_iff_getElem?.2 ⟨i, h2⟩)
    by_cases hx : tabIdx ts m.id < 0
    · rw [resO_eq h1 h2, if_pos hx] at h; cases h
    · obtain ⟨k, x, k1, k2, k3⟩ := tabIdx_some (Int.not_lt.1 hx)
      rw [resO_eq2 h1 h2 k1 k2] at h
      by_cases hz : plErr x.t (offOf0 (fr.addr - m.a) ret) = 0
      · rw [if_neg (by omega)] at h
        refine (resolveFrame_fine fr ret vm vt ms ts i k m x w hm ht h1 h2 hg.nms k1 k2 hg.nts (by omega) (by omega) (hg.tab x (List.mem_iff_getElem?.2 ⟨k, k2⟩)) hz).mono ?_
        rintro e w1 ⟨u, nm, rfl, hb, hown, j, hj, fn, hfn, rfl⟩
        have hnm : fname x.t (offOf0 (fr.addr - m.a) ret) = fn.n := by unfold fname; rw [hj, Int.toNat_natCast, hfn]; rfl
        rw [hnm] at h
        obtain rfl := Option.some.inj h
        refine ⟨u, rfl, hb, ?_⟩
        rw [List.length_map]
        exact hown
      · rw [if_pos hz] at h; cases h
/-- What a frame becomes is at least one frame, and not many. -/
theorem resO_len {fr : Fr} {ret : Bool} {fs : List Fr} {ms : List Md} {ts : List Te} {l : List Fr} (hg : GoodR fs ms ts) (h : resO fr ret ms ts = some l) : 1 ≤ l.length ∧ l.length ≤ 1001 := by
  unfold resO at h
  split at h
  · cases h
  split at h
  · cases h
  rename_i m h2
  split at h
  · cases h
  split at h
  · cases h
  rename_i x h4
  split at h
  · cases h
  obtain rfl := Option.some.inj h
  rw [List.length_map]
  obtain ⟨y, hy, _, _⟩ := placesOf_head x.t (offOf0 (fr.addr - m.a) ret) (fname x.t (offOf0 (fr.addr - m.a) ret))
  obtain ⟨hlt, _⟩ := List.getElem?_eq_some_iff.1 hy
  exact ⟨hlt, placesOf_len (good_of (hg.tab x (List.mem_iff_getElem?.2 ⟨_, h4⟩)))⟩

/-- The frames that a frame becomes, or itself. -/
def resL (fr : Fr) (ret : Bool) (ms : List Md) (ts : List Te) : List Fr := (resO fr ret ms ts).getD [fr]
/-- Those that the first k frames become. -/
def resTo (fs : List Fr) (ms : List Md) (ts : List Te) : Nat → List Fr
  | 0 => []
  | k + 1 => resTo fs ms ts k ++ match fs[k]? with
    | some f => resL f (decide (0 < k)) ms ts
    | none => []
theorem resTo_succ {fs : List Fr} {ms : List Md} {ts : List Te} {k : Nat} {f : Fr} (h : fs[k]? = some f) : resTo fs ms ts (k + 1) = resTo fs ms ts k ++ resL f (decide (0 < k)) ms ts := by rw [resTo, h]
theorem resL_len {fr : Fr} {ret : Bool} {fs : List Fr} {ms : List Md} {ts : List Te} (hg : GoodR fs ms ts) : 1 ≤ (resL fr ret ms ts).length ∧ (resL fr ret ms ts).length ≤ 1001 := by
  unfold resL
  cases h : resO fr ret ms ts with
  | none => simp
  | some l => exact resO_len hg h
theorem resTo_len {fs : List Fr} {ms : List Md} {ts : List Te} (hg : GoodR fs ms ts) : ∀ {k : Nat}, k ≤ fs.length → k ≤ (resTo fs ms ts k).length ∧ (resTo fs ms ts k).length ≤ k * 1001
  | 0, _ => by simp [resTo]
  | k + 1, h => by
    rw [resTo_succ (List.getElem?_eq_getElem h), List.length_append]
    have h1 := resTo_len (ms := ms) (ts := ts) hg (k := k) (by omega)
    have h2 := resL_len (fr := fs[k]) (ret := decide (0 < k)) hg
    omega
/-- Where no frame becomes anything the frames stay. -/
theorem resTo_stay {fs : List Fr} {ms : List Md} {ts : List Te} (h : ∀ f ∈ fs, ∀ r, resO f r ms ts = none) : ∀ {k : Nat}, k ≤ fs.length → resTo fs ms ts k = fs.take k
  | 0, _ => by simp [resTo]
  | k + 1, hk => by
    rw [resTo_succ (List.getElem?_eq_getElem hk), resTo_stay h (by omega), List.take_succ_eq_append_getElem hk]
    unfold resL
    rw [h _ (List.getElem_mem hk)]
    rfl
theorem resO_notab {f : Fr} {r : Bool} {ms : List Md} : resO f r ms [] = none := by
  rcases modAt_cases f.addr ms with h1 | ⟨i, m, h1, h2, _, _⟩
  · unfold resO; rw [if_pos h1]
  · rw [resO_eq h1 h2, tabIdx_nil, if_pos (by omega)]
theorem resO_noaddr {f : Fr} {r : Bool} {fs : List Fr} {ms : List Md} {ts : List Te} (hg : GoodR fs ms ts) (h : f.addr = -1) : resO f r ms ts = none := by
  rcases modAt_cases f.addr ms with h1 | ⟨i, m, h1, h2, h3, _⟩
  · unfold resO; rw [if_pos h1]
  · have := hg.mod m (List.mem_iff_getElem?.2 ⟨i, h2⟩); omega

/-- The error of tables; before: those before them. -/
def tbsErr : List Te → List Te → Int
  | _, [] => 0
  | pre, x :: l => if tabErr x.t ≠ 0 then tabErr x.t else if 0 ≤ tabIdx pre x.t.id then 6 else tbsErr (pre ++ [x]) l
/-- The error of all that Resolve and Missing are given. -/
def allErr (fs : List Fr) (ms : List Md) (ts : List Te) : Int :=
  if frsErr fs ≠ 0 then frsErr fs else if eMods ms ≠ 0 then eMods ms else if 100 < ts.length then 4 else tbsErr [] ts
theorem tbsErr_tab {pre l : List Te} {x : Te} (h : tabErr x.t ≠ 0) : tbsErr pre (x :: l) = tabErr x.t := by rw [tbsErr, if_pos h]
theorem tbsErr_twice {pre l : List Te} {x : Te} (h : tabErr x.t = 0) (h2 : 0 ≤ tabIdx pre x.t.id) : tbsErr pre (x :: l) = 6 := by rw [tbsErr, if_neg (by omega), if_pos h2]
theorem tbsErr_next {pre l : List Te} {x : Te} (h : tabErr x.t = 0) (h2 : ¬ 0 ≤ tabIdx pre x.t.id) : tbsErr pre (x :: l) = tbsErr (pre ++ [x]) l := by rw [tbsErr, if_neg (by omega), if_neg h2]
theorem allErr_frames {fs : List Fr} {ms : List Md} {ts : List Te} (h : frsErr fs ≠ 0) : allErr fs ms ts = frsErr fs := by unfold allErr; rw [if_pos h]
theorem allErr_mods {fs : List Fr} {ms : List Md} {ts : List Te} (h : frsErr fs = 0) (h2 : eMods ms ≠ 0) : allErr fs ms ts = eMods ms := by unfold allErr; rw [if_neg (by omega), if_pos h2]
theorem allErr_large {fs : List Fr} {ms : List Md} {ts : List Te} (h : frsErr fs = 0) (h2 : eMods ms = 0) (h3 : 100 < ts.length) : allErr fs ms ts = 4 := by unfold allErr; rw [if_neg (by omega), if_neg (by omega), if_pos h3]
theorem allErr_tabs {fs : List Fr} {ms : List Md} {ts : List Te} (h : frsErr fs = 0) (h2 : eMods ms = 0) (h3 : ¬ 100 < ts.length) : allErr fs ms ts = tbsErr [] ts := by unfold allErr; rw [if_neg (by omega), if_neg (by omega), if_neg h3]
theorem tbs_ok : ∀ {l pre : List Te}, tbsErr pre l = 0 → ∀ x ∈ l, tabErr x.t = 0
  | [], _, _, x, hx => absurd hx (by simp)
  | y :: l, pre, h, x, hx => by
    rw [tbsErr] at h
    split at h
    · rename_i hn; exact absurd h hn
    rename_i hz
    split at h
    · omega
    rw [List.mem_cons] at hx
    rcases hx with rfl | hx
    · exact Classical.not_not.1 hz
    · exact tbs_ok h x hx
theorem mods_ok : ∀ {l : List Md} {e : Int}, modsErr e l = 0 → 0 ≤ e → ∀ m ∈ l, 0 ≤ m.a ∧ m.b ≤ 281474976710656
  | [], _, _, _, m, hm => absurd hm (by simp)
  | y :: l, e, h, he, m, hm => by
    rw [modsErr] at h
    split at h
    · rename_i hn; exact absurd h hn
    split at h
    · omega
    split at h
    · omega
    rename_i hs
    have hs := Classical.not_not.1 hs
    unfold spanOk at hs
    split at h
    · omega
    rw [List.mem_cons] at hm
    rcases hm with rfl | hm
    · omega
    · exact mods_ok h (by omega) m hm
theorem frs_ok : ∀ {l : List Fr}, frsErr1 l = 0 → ∀ x ∈ l, frErr x = 0
  | [], _, x, hx => absurd hx (by simp)
  | y :: l, h, x, hx => by
    rw [frsErr1] at h
    split at h
    · rename_i hn; exact absurd h hn
    rename_i hz
    rw [List.mem_cons] at hx
    rcases hx with rfl | hx
    · exact Classical.not_not.1 hz
    · exact frs_ok h x hx
theorem frErr_addr {x : Fr} (h : frErr x = 0) : -1 ≤ x.addr ∧ x.addr ≤ 281474976710655 := by
  unfold frErr at h
  split at h
  · omega
  split at h
  · omega
  split at h
  · omega
  split at h
  · omega
  omega
theorem goodR_of {fs : List Fr} {ms : List Md} {ts : List Te} (h : allErr fs ms ts = 0) : GoodR fs ms ts := by
  unfold allErr at h
  split at h
  · rename_i hn; exact absurd h hn
  rename_i z1
  split at h
  · rename_i hn; exact absurd h hn
  rename_i z2
  split at h
  · omega
  rename_i z3
  rw [Classical.not_not] at z1 z2
  unfold frsErr at z1
  split at z1
  · omega
  rename_i z4
  unfold eMods at z2
  split at z2
  · omega
  rename_i z5
  exact ⟨by omega, by omega, by omega, fun f hf => frErr_addr (frs_ok z1 f hf), fun m hm => mods_ok z2 (Int.le_refl _) m hm, fun x hx => tbs_ok h x hx⟩
theorem goodR_frs {fs : List Fr} {ms : List Md} {ts : List Te} (h : allErr fs ms ts = 0) : frsErr fs = 0 := by
  unfold allErr at h
  split at h
  · rename_i hn; exact absurd h hn
  rename_i z1
  exact Classical.not_not.1 z1
theorem goodR_mods {fs : List Fr} {ms : List Md} {ts : List Te} (h : allErr fs ms ts = 0) : eMods ms = 0 := by
  unfold allErr at h
  split at h
  · rename_i hn; exact absurd h hn
  split at h
  · rename_i hn; exact absurd h hn
  rename_i z2
  exact Classical.not_not.1 z2
theorem GoodR.notabs {fs : List Fr} {ms : List Md} {ts : List Te} (h : GoodR fs ms ts) : GoodR fs ms [] := ⟨h.nfs, h.nms, by simp, h.adr, h.mod, by simp⟩

/-- What Resolve's error is. -/
def resErr (fs : List Fr) (ms : List Md) (ts : List Te) : Int := if allErr fs ms ts ≠ 0 then allErr fs ms ts else if 200 < (resTo fs ms ts fs.length).length then 4 else 0

/-- The ids that are missing, of the first k frames. -/
def missStep (acc : List ByteArray) (fr : Fr) (ms : List Md) (ts : List Te) : List ByteArray :=
  if modAt fr.addr ms = -1 then acc else
  match ms[(modAt fr.addr ms).toNat]? with
  | none => acc
  | some m => if tabIdx ts m.id < 0 ∧ ¬ containsS acc m.id = true then acc ++ [m.id] else acc
def missTo (fs : List Fr) (ms : List Md) (ts : List Te) : Nat → List ByteArray
  | 0 => []
  | k + 1 => match fs[k]? with
    | some f => missStep (missTo fs ms ts k) f ms ts
    | none => missTo fs ms ts k
theorem missTo_succ {fs : List Fr} {ms : List Md} {ts : List Te} {k : Nat} {f : Fr} (h : fs[k]? = some f) : missTo fs ms ts (k + 1) = missStep (missTo fs ms ts k) f ms ts := by rw [missTo, h]
theorem missStep_out {acc : List ByteArray} {fr : Fr} {ms : List Md} {ts : List Te} (h : modAt fr.addr ms = -1) : missStep acc fr ms ts = acc := by unfold missStep; rw [if_pos h]
theorem missStep_eq {acc : List ByteArray} {fr : Fr} {ms : List Md} {ts : List Te} {i : Nat} {m : Md} (h1 : modAt fr.addr ms = (i : Int)) (h2 : ms[i]? = some m) : missStep acc fr ms ts = if tabIdx ts m.id < 0 ∧ ¬ containsS acc m.id = true then acc ++ [m.id] else acc := by
  unfold missStep
  rw [if_neg (by omega), h1, Int.toNat_natCast, h2]
theorem missStep_len {acc : List ByteArray} {fr : Fr} {ms : List Md} {ts : List Te} : (missStep acc fr ms ts).length ≤ acc.length + 1 := by
  unfold missStep
  split
  · omega
  split
  · omega
  split
  · simp
  · omega
theorem missTo_len {fs : List Fr} {ms : List Md} {ts : List Te} : ∀ {k : Nat}, (missTo fs ms ts k).length ≤ k
  | 0 => by simp [missTo]
  | k + 1 => by
    rw [missTo]
    have := missTo_len (fs := fs) (ms := ms) (ts := ts) (k := k)
    split
    · have := missStep_len (acc := missTo fs ms ts k) (fr := by assumption) (ms := ms) (ts := ts)
      omega
    · omega
/-- No table has an id that is missing. -/
theorem missStep_lone {acc : List ByteArray} {fr : Fr} {ms : List Md} {ts : List Te} (h : ∀ s ∈ acc, tabIdx ts s < 0) : ∀ s ∈ missStep acc fr ms ts, tabIdx ts s < 0 := by
  intro s hs
  unfold missStep at hs
  split at hs
  · exact h s hs
  split at hs
  · exact h s hs
  split at hs
  · rename_i hc
    rw [List.mem_append, List.mem_singleton] at hs
    rcases hs with hs | rfl
    · exact h s hs
    · exact hc.1
  · exact h s hs
theorem missTo_lone {fs : List Fr} {ms : List Md} {ts : List Te} : ∀ {k : Nat}, ∀ s ∈ missTo fs ms ts k, tabIdx ts s < 0
  | 0 => by simp [missTo]
  | k + 1 => by
    rw [missTo]
    have h := missTo_lone (fs := fs) (ms := ms) (ts := ts) (k := k)
    split
    · exact missStep_lone h
    · exact h
theorem idx_neg {x : ByteArray} : ∀ {zs : List ByteArray} {i : Nat}, idxFromS zs x i < 0 → ∀ z ∈ zs, z ≠ x
  | [], _, _, z, hz => absurd hz (by simp)
  | y :: zs, i, h, z, hz => by
    rw [idxFromS] at h
    split at h
    · omega
    rename_i hy
    rw [List.mem_cons] at hz
    rcases hz with rfl | hz
    · exact hy
    · exact idx_neg h z hz
theorem tab_lone {ts : List Te} {s : ByteArray} (h : tabIdx ts s < 0) : ∀ x ∈ ts, x.t.id ≠ s := fun x hx => idx_neg h _ (by unfold ids; exact List.mem_map.2 ⟨x, hx, rfl⟩)
end Go.Proofs.YtcdaalnjanncmaaDoor

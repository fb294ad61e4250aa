/- What Culprit answers: the name of the frame to look at first. -/
import Derived.Test.YtihnpbhcddapdaaFaults
namespace Go.Proofs.Ytihnpbhcddapdaa
open Go.RowKit

/-- The first part of the line of a frame. -/
def nameF (x : Fr) : ByteArray := if x.m.size = 0 then x.f else x.m ++ ⟨#[33]⟩ ++ x.f

theorem ret_str {a b : ByteArray} (h : a = b) : Ending.returned (.string a) = .returned (.string b) := by rw [h]
theorem ret_str2 {a b : ByteArray} {k : IntKind} {n : Int} (h : a = b) : Ending.returned (.tuple #[.string a, .int k n]) = .returned (.tuple #[.string b, .int k n]) := by rw [h]

/-- The frame to look at first: the first own one, else the first one. -/
def ownFr (l : List Fa) : Option Fr := l.findSome? fun x => x.fr.find? (·.own)
def anyFr (l : List Fa) : Option Fr := l.findSome? fun x => x.fr.head?
def culprit (l : List Fa) : ByteArray :=
  match ownFr l with
  | some f => nameF f
  | none => match anyFr l with
    | some f => nameF f
    | none => ⟨#[]⟩

theorem findSome_at {α β : Type} {f : α → Option β} : ∀ {l : List α} {k : Nat} (hk : k < l.length) {b : β}, (∀ x ∈ l.take k, f x = none) → f l[k] = some b → l.findSome? f = some b
  | a :: l, 0, _, b, _, h => by rw [List.findSome?_cons, show f a = some b from h]
  | a :: l, k + 1, hk, b, hz, h => by
    rw [List.findSome?_cons, hz a (by simp)]
    exact findSome_at (k := k) (by simpa using hk) (fun x hx => hz x (by simp [hx])) h
theorem findSome_end {α β : Type} {f : α → Option β} {l : List α} {k : Nat} (hk : l.length ≤ k) (hz : ∀ x ∈ l.take k, f x = none) : l.findSome? f = none := by
  rw [List.take_of_length_le hk] at hz
  rw [List.findSome?_eq_none_iff]; exact hz
theorem find_at {α : Type} {p : α → Bool} : ∀ {l : List α} {k : Nat} (hk : k < l.length), (∀ x ∈ l.take k, p x = false) → p l[k] = true → l.find? p = some l[k]
  | a :: l, 0, _, _, h => by rw [List.find?_cons]; rw [show p a = true from h]; rfl
  | a :: l, k + 1, hk, hz, h => by
    rw [List.find?_cons, hz a (by simp)]
    exact find_at (k := k) (by simpa using hk) (fun x hx => hz x (by simp [hx])) h
theorem find_end {α : Type} {p : α → Bool} {l : List α} {k : Nat} (hk : l.length ≤ k) (hz : ∀ x ∈ l.take k, p x = false) : l.find? p = none := by
  rw [List.take_of_length_le hk] at hz
  rw [List.find?_eq_none]; intro x hx; simp [hz x hx]

theorem frErr_sizes {x : Fr} (h : frErr x = 0) : x.m.size ≤ 200 ∧ x.f.size ≤ 200 := by
  unfold frErr at h
  split at h
  · omega
  · omega
theorem frsErr1_mem : ∀ {l : List Fr}, frsErr1 l = 0 → ∀ x ∈ l, frErr x = 0
  | [], _, x, hx => absurd hx (by simp)
  | a :: l, h, x, hx => by
    rw [frsErr1] at h
    split at h
    · omega
    · rcases List.mem_cons.1 hx with rfl | hx
      · omega
      · exact frsErr1_mem h x hx
theorem firstErr_mem {α : Type} {f : α → Int} : ∀ {l : List α}, firstErr f l = 0 → ∀ x ∈ l, f x = 0
  | [], _, x, hx => absurd hx (by simp)
  | a :: l, h, x, hx => by
    rw [firstErr] at h
    split at h
    · omega
    · rcases List.mem_cons.1 hx with rfl | hx
      · omega
      · exact firstErr_mem h x hx
theorem fasErr_zero {l : List Fa} (h : fasErr l = 0) : l.length ≤ 10 ∧ ∀ x ∈ l, ∀ f ∈ x.fr, f.m.size ≤ 200 ∧ f.f.size ≤ 200 := by
  unfold fasErr at h
  split at h
  · omega
  split at h
  · omega
  refine ⟨by omega, fun x hx f hf => ?_⟩
  have h1 : faErr x.kind x.text x.fr = 0 := firstErr_mem h x hx
  unfold faErr at h1
  repeat (split at h1; · omega)
  unfold frsErr at h1
  split at h1
  · omega
  exact frErr_sizes (frsErr1_mem h1 f hf)

set_option maxHeartbeats 1000000 in
set_option maxRecDepth 100000 in
theorem callOf_v (x : Fr) (w : World) (h1 : x.m.size ≤ 200) (h2 : x.f.size ≤ 200) :
    Calls Try.prog 34 #[.agg #[.string x.m, .string x.f, .string x.i, .int .i64 x.line, .int .i64 x.addr, .bool x.own]] w fun e w' => e = .returned (.string (nameF x)) ∧ Below w.heap.size w w' := by
  obtain ⟨m, f, i, l, a, o⟩ := x
  simp only at h1 h2 ⊢
  go_enter Try.func34, Try.ntmps34
  go_wp2_with fail
  all_goals go_ret
  · have q : m.toList.isEmpty = true := by assumption
    exact ⟨ret_str (by unfold nameF; rw [if_pos (by simpa [emp] using q)]), (Below.refl _ _).alloc (Nat.le_refl _) _⟩
  · have q : m.toList.isEmpty = false := by assumption
    exact ⟨ret_str (by unfold nameF; rw [if_neg (by simpa [emp] using q)]), (Below.refl _ _).alloc (Nat.le_refl _) _⟩

set_option maxHeartbeats 1000000 in
set_option maxRecDepth 100000 in
theorem nameOf_v (x : Fr) (w : World) (h1 : x.m.size ≤ 200) (h2 : x.f.size ≤ 200) :
    Calls Try.prog 43 #[.agg #[.string x.m, .string x.f, .string x.i, .int .i64 x.line, .int .i64 x.addr, .bool x.own]] w fun e w' => e = .returned (.string (nameF x)) ∧ Below w.heap.size w w' := by
  obtain ⟨m, f, i, l, a, o⟩ := x
  simp only at h1 h2 ⊢
  go_enter Try.func43, Try.ntmps43
  go_wp2_with fail
  all_goals go_ret
  · have q : m.toList.isEmpty = true := by assumption
    exact ⟨ret_str (by unfold nameF; rw [if_pos (by simpa [emp] using q)]), (Below.refl _ _).alloc (Nat.le_refl _) _⟩
  · have q : m.toList.isEmpty = false := by assumption
    exact ⟨ret_str (by unfold nameF; rw [if_neg (by simpa [emp] using q)]), (Below.refl _ _).alloc (Nat.le_refl _) _⟩


set_option maxHeartbeats 1000000 in
set_option maxRecDepth 100000 in
theorem culprit_bad (v : Value) (l : List Fa) (w : World) (h : SlA w v l) (he : fasErr l ≠ 0) :
    Calls Try.prog 7 #[v] w fun e w' => e = .returned (.tuple #[.string ⟨#[]⟩, .int .i64 (fasErr l)]) ∧ Below w.heap.size w w' := by
  have hq : (fasErr l != 0) = true := by simpa using he
  go_enter Try.func7, Try.ntmps7
  go_wp2_with (go_at_call 12; refine (check_any _ l _ h).mono ?_; rintro e w1 ⟨rfl, hb1⟩)
  go_ret2
  exact ⟨rfl, hb1⟩

set_option maxHeartbeats 2000000 in
set_option maxRecDepth 100000 in
theorem culprit_some (b off cap : Nat) (l : List Fa) (w : World) (hb : b < w.heap.size) (hcap : l.length ≤ cap) (hcm : cap ≤ maxLen) (hcell : FasAt w b off l) (hok : ∀ x ∈ l, x.ok w) (he : fasErr l = 0) :
    Calls Try.prog 7 #[.slice (some ⟨b, off, none⟩) l.length cap] w fun e w' => e = .returned (.tuple #[.string (culprit l), .int .i64 0]) ∧ Below w.heap.size w w' := by
  have hS : SlA w (.slice (some ⟨b, off, none⟩) l.length cap) l := ⟨_, cap, rfl, hcap, hcm, hok, .inr ⟨b, off, rfl, hb, hcell⟩⟩
  obtain ⟨hl10, hsz⟩ := fasErr_zero he
  have HE := Lib.hid he
  clear he
  go_enter Try.func7, Try.ntmps7
  go_wp2_with (go_at_call 12; refine (check_any _ l _ hS).mono ?_; rintro e w1 ⟨rfl, hb1⟩; rw [HE.out])
  go_loopw [18] (fun v wr => ∃ k : Nat, k ≤ l.length ∧ (∀ x ∈ l.take k, x.fr.find? (·.own) = none) ∧ v = .int .i64 k ∧ Below w.heap.size w wr) (fun v _ => l.length - (intOf v).toNat)
  case atStart => exact ⟨0, Nat.zero_le _, by simp, rfl, hb1⟩
  case round =>
    obtain ⟨wo, rfl⟩ : ∃ wo : World, wo = wr := ⟨_, rfl⟩
    obtain ⟨k, hk, hz, rfl, hbw⟩ := hrel
    have HZ := Lib.hid hz
    clear hz
    by_cases hlt : k < l.length
    · obtain ⟨c0, c1, c2⟩ := (hcell k hlt).below hb hbw
      have hx := hok l[k] (List.getElem_mem hlt)
      have hxs := hsz l[k] (List.getElem_mem hlt)
      have HA := Lib.hid (allz_succ (p := fun x : Fa => x.fr.find? (·.own) = none) hlt HZ.out)
      have HN := Lib.hid (fun b => findSome_at (f := fun x : Fa => x.fr.find? (·.own)) hlt (b := b) HZ.out)
      generalize l[k] = x at *
      obtain ⟨kd, tx, fv, fr⟩ := x
      have hfv : SlF w fv fr := hx.2.2
      simp only at c0 c1 c2 hxs HA HN
      obtain ⟨p', c', rfl, q1, q2, _, hp'⟩ := hfv
      have hfm : fr.length ≤ 9223372036854775807 := by unfold maxLen at q2; omega
      clear q1 q2
      go_wp2_with fail
      go_loopw [25] (fun v wr => ∃ j : Nat, j ≤ fr.length ∧ (∀ f ∈ fr.take j, f.own = false) ∧ v = .int .i64 j ∧ Below w.heap.size w wr) (fun v _ => fr.length - (intOf v).toNat)
      case atStart => exact ⟨0, Nat.zero_le _, by simp, rfl, hbw.alloc hbw.size _⟩
      obtain ⟨j, hj, hzj, rfl, hbj⟩ := hrel
      have HJ := Lib.hid hzj
      clear hzj
      by_cases hjt : j < fr.length
      · rcases hp' with rfl | ⟨b', off', rfl, hb', hfr⟩
        · exact absurd hjt (by simp)
        obtain ⟨d0, d1, d2, d3, d4, d5⟩ := (hfr j hjt).below hb' hbj
        have hfs := hxs fr[j] (List.getElem_mem hjt)
        have HA2 := Lib.hid (allz_succ (p := fun f : Fr => f.own = false) hjt HJ.out)
        have HF := Lib.hid (find_at (p := fun f : Fr => f.own) hjt HJ.out)
        generalize fr[j] = f at *
        obtain ⟨g1, g2⟩ := hfs
        obtain ⟨fm, ff, fi, fl, fa, fo⟩ := f
        simp only at d0 d1 d2 d3 d4 d5 HA2 HF g1 g2
        cases fo with
        | true =>
          have HV := Lib.hid (fun w' => callOf_v ⟨fm, ff, fi, fl, fa, true⟩ w' g1 g2)
          simp only at HV
          go_wp2_with (go_at_call 34; refine (HV.out _).mono ?_; rintro e w' ⟨rfl, hbc⟩)
          go_ret2
          exact ⟨ret_str2 (by unfold culprit ownFr; rw [HN.out _ (HF.out trivial)]), below_a1 hbj hbj.size hbc⟩
        | false =>
          go_wp2_with fail
          exact ⟨⟨j + 1, by omega, HA2.out rfl, by go_num, hbj.alloc hbj.size _⟩, by simp [intOf]; omega⟩
      · go_wp2_with fail
        exact ⟨⟨k + 1, by omega, HA.out (find_end (by omega) fun x hx => HJ.out x hx), by go_num, hbj⟩, by simp [intOf]; omega⟩
    · have HO := Lib.hid (show ownFr l = none from findSome_end (by omega) HZ.out)
      clear HZ
      go_wp2_with fail
      go_loopw [37] (fun v wr => ∃ k : Nat, k ≤ l.length ∧ (∀ x ∈ l.take k, x.fr.head? = none) ∧ v = .int .i64 k ∧ Below w.heap.size w wr) (fun v _ => l.length - (intOf v).toNat)
      case atStart => exact ⟨0, Nat.zero_le _, by simp, rfl, hbw⟩
      obtain ⟨j, hj, hz, rfl, hbw2⟩ := hrel
      have HZ := Lib.hid hz
      clear hz
      by_cases hjt : j < l.length
      · obtain ⟨c0, c1, c2⟩ := (hcell j hjt).below hb hbw2
        have hx := hok l[j] (List.getElem_mem hjt)
        have hxs := hsz l[j] (List.getElem_mem hjt)
        have HA := Lib.hid (allz_succ (p := fun x : Fa => x.fr.head? = none) hjt HZ.out)
        have HN := Lib.hid (fun b => findSome_at (f := fun x : Fa => x.fr.head?) hjt (b := b) HZ.out)
        generalize l[j] = x at *
        obtain ⟨kd, tx, fv, fr⟩ := x
        have hfv : SlF w fv fr := hx.2.2
        simp only at c0 c1 c2 hxs HA HN
        obtain ⟨p', c', rfl, q1, q2, _, hp'⟩ := hfv
        cases fr with
        | nil =>
          go_wp2_with fail
          exact ⟨⟨j + 1, by omega, HA.out rfl, by go_num, hbw2.alloc hbw2.size _⟩, by simp [intOf]; omega⟩
        | cons f fr' =>
          rcases hp' with h | ⟨b', off', rfl, hb', hfr⟩
          · exact absurd h (by simp)
          have hfr0 : FrAt w b' off' f := by have := hfr 0 (by simp); simpa using this
          obtain ⟨d0, d1, d2, d3, d4, d5⟩ := hfr0.below (B := w.heap.size) hb' (hbw2.alloc hbw2.size (.cells #[.string kd, .string tx, .slice (some ⟨b', off', none⟩) (f :: fr').length c'] 26))
          have hfs := hxs f (by simp)
          have HV := Lib.hid (fun w' => callOf_v f w' hfs.1 hfs.2)
          have hlen : 0 < (f :: fr').length := by simp
          generalize (f :: fr').length = n at *
          go_wp2_with (go_at_call 34; refine (HV.out _).mono ?_; rintro e w' ⟨rfl, hbc⟩)
          go_ret2
          exact ⟨ret_str2 (by unfold culprit; rw [HO.out]; unfold anyFr; rw [HN.out f rfl]), below_a1 hbw2 hbw2.size hbc⟩
      · go_wp2_with fail
        go_ret2
        exact ⟨ret_str2 (by unfold culprit; rw [HO.out, show anyFr l = none from findSome_end (by omega) HZ.out]), hbw2⟩

theorem culprit_good (v : Value) (l : List Fa) (w : World) (h : SlA w v l) (he : fasErr l = 0) :
    Calls Try.prog 7 #[v] w fun e w' => e = .returned (.tuple #[.string (culprit l), .int .i64 0]) ∧ Below w.heap.size w w' := by
  obtain ⟨p, cap, rfl, h1, h2, h3, h4⟩ := h
  rcases h4 with rfl | ⟨b, off, rfl, hb, hc⟩
  · exact absurd he (by decide)
  · exact culprit_some b off cap l w hb h1 h2 hc h3 he
set_option maxHeartbeats 2000000 in
set_option maxRecDepth 100000 in
theorem culpritOf_some (b off cap : Nat) (l : List Fa) (w : World) (hb : b < w.heap.size) (hcell : FasAt w b off l) (hok : ∀ x ∈ l, x.ok w) (he : fasErr l = 0) :
    Calls Try.prog 18 #[.slice (some ⟨b, off, none⟩) l.length cap] w fun e w' => e = .returned (.string (culprit l)) ∧ Below w.heap.size w w' := by
  obtain ⟨hl10, hsz⟩ := fasErr_zero he
  clear he
  go_enter Try.func18, Try.ntmps18
  go_wp2_with fail
  go_loopw [11] (fun v wr => ∃ k : Nat, k ≤ l.length ∧ (∀ x ∈ l.take k, x.fr.find? (·.own) = none) ∧ v = .int .i64 k ∧ Below w.heap.size w wr) (fun v _ => l.length - (intOf v).toNat)
  case atStart => exact ⟨0, Nat.zero_le _, by simp, rfl, Below.refl _ _⟩
  case round =>
    obtain ⟨wo, rfl⟩ : ∃ wo : World, wo = wr := ⟨_, rfl⟩
    obtain ⟨k, hk, hz, rfl, hbw⟩ := hrel
    have HZ := Lib.hid hz
    clear hz
    by_cases hlt : k < l.length
    · obtain ⟨c0, c1, c2⟩ := (hcell k hlt).below hb hbw
      have hx := hok l[k] (List.getElem_mem hlt)
      have hxs := hsz l[k] (List.getElem_mem hlt)
      have HA := Lib.hid (allz_succ (p := fun x : Fa => x.fr.find? (·.own) = none) hlt HZ.out)
      have HN := Lib.hid (fun b => findSome_at (f := fun x : Fa => x.fr.find? (·.own)) hlt (b := b) HZ.out)
      generalize l[k] = x at *
      obtain ⟨kd, tx, fv, fr⟩ := x
      have hfv : SlF w fv fr := hx.2.2
      simp only at c0 c1 c2 hxs HA HN
      obtain ⟨p', c', rfl, q1, q2, _, hp'⟩ := hfv
      have hfm : fr.length ≤ 9223372036854775807 := by unfold maxLen at q2; omega
      clear q1 q2
      go_wp2_with fail
      go_loopw [18] (fun v wr => ∃ j : Nat, j ≤ fr.length ∧ (∀ f ∈ fr.take j, f.own = false) ∧ v = .int .i64 j ∧ Below w.heap.size w wr) (fun v _ => fr.length - (intOf v).toNat)
      case atStart => exact ⟨0, Nat.zero_le _, by simp, rfl, hbw.alloc hbw.size _⟩
      obtain ⟨j, hj, hzj, rfl, hbj⟩ := hrel
      have HJ := Lib.hid hzj
      clear hzj
      by_cases hjt : j < fr.length
      · rcases hp' with rfl | ⟨b', off', rfl, hb', hfr⟩
        · exact absurd hjt (by simp)
        obtain ⟨d0, d1, d2, d3, d4, d5⟩ := (hfr j hjt).below hb' hbj
        have hfs := hxs fr[j] (List.getElem_mem hjt)
        have HA2 := Lib.hid (allz_succ (p := fun f : Fr => f.own = false) hjt HJ.out)
        have HF := Lib.hid (find_at (p := fun f : Fr => f.own) hjt HJ.out)
        generalize fr[j] = f at *
        obtain ⟨g1, g2⟩ := hfs
        obtain ⟨fm, ff, fi, fl, fa, fo⟩ := f
        simp only at d0 d1 d2 d3 d4 d5 HA2 HF g1 g2
        cases fo with
        | true =>
          have HV := Lib.hid (fun w' => nameOf_v ⟨fm, ff, fi, fl, fa, true⟩ w' g1 g2)
          simp only at HV
          go_wp2_with (go_at_call 43; refine (HV.out _).mono ?_; rintro e w' ⟨rfl, hbc⟩)
          go_ret
          exact ⟨ret_str (by unfold culprit ownFr; rw [HN.out _ (HF.out trivial)]), below_a1 hbj hbj.size hbc⟩
        | false =>
          go_wp2_with fail
          exact ⟨⟨j + 1, by omega, HA2.out rfl, by go_num, hbj.alloc hbj.size _⟩, by simp [intOf]; omega⟩
      · go_wp2_with fail
        exact ⟨⟨k + 1, by omega, HA.out (find_end (by omega) fun x hx => HJ.out x hx), by go_num, hbj⟩, by simp [intOf]; omega⟩
    · have HO := Lib.hid (show ownFr l = none from findSome_end (by omega) HZ.out)
      clear HZ
      go_wp2_with fail
      go_loopw [30] (fun v wr => ∃ k : Nat, k ≤ l.length ∧ (∀ x ∈ l.take k, x.fr.head? = none) ∧ v = .int .i64 k ∧ Below w.heap.size w wr) (fun v _ => l.length - (intOf v).toNat)
      case atStart => exact ⟨0, Nat.zero_le _, by simp, rfl, hbw⟩
      obtain ⟨j, hj, hz, rfl, hbw2⟩ := hrel
      have HZ := Lib.hid hz
      clear hz
      by_cases hjt : j < l.length
      · obtain ⟨c0, c1, c2⟩ := (hcell j hjt).below hb hbw2
        have hx := hok l[j] (List.getElem_mem hjt)
        have hxs := hsz l[j] (List.getElem_mem hjt)
        have HA := Lib.hid (allz_succ (p := fun x : Fa => x.fr.head? = none) hjt HZ.out)
        have HN := Lib.hid (fun b => findSome_at (f := fun x : Fa => x.fr.head?) hjt (b := b) HZ.out)
        generalize l[j] = x at *
        obtain ⟨kd, tx, fv, fr⟩ := x
        have hfv : SlF w fv fr := hx.2.2
        simp only at c0 c1 c2 hxs HA HN
        obtain ⟨p', c', rfl, q1, q2, _, hp'⟩ := hfv
        cases fr with
        | nil =>
          go_wp2_with fail
          exact ⟨⟨j + 1, by omega, HA.out rfl, by go_num, hbw2.alloc hbw2.size _⟩, by simp [intOf]; omega⟩
        | cons f fr' =>
          rcases hp' with h | ⟨b', off', rfl, hb', hfr⟩
          · exact absurd h (by simp)
          have hfr0 : FrAt w b' off' f := by have := hfr 0 (by simp); simpa using this
          obtain ⟨d0, d1, d2, d3, d4, d5⟩ := hfr0.below (B := w.heap.size) hb' (hbw2.alloc hbw2.size (.cells #[.string kd, .string tx, .slice (some ⟨b', off', none⟩) (f :: fr').length c'] 26))
          have hfs := hxs f (by simp)
          have HV := Lib.hid (fun w' => nameOf_v f w' hfs.1 hfs.2)
          have hlen : 0 < (f :: fr').length := by simp
          generalize (f :: fr').length = n at *
          go_wp2_with (go_at_call 43; refine (HV.out _).mono ?_; rintro e w' ⟨rfl, hbc⟩)
          go_ret
          exact ⟨ret_str (by unfold culprit; rw [HO.out]; unfold anyFr; rw [HN.out f rfl]), below_a1 hbw2 hbw2.size hbc⟩
      · go_wp2_with fail
        go_ret
        exact ⟨ret_str (by unfold culprit; rw [HO.out, show anyFr l = none from findSome_end (by omega) HZ.out]), hbw2⟩

theorem culpritOf_good (v : Value) (l : List Fa) (w : World) (h : SlA w v l) (he : fasErr l = 0) :
    Calls Try.prog 18 #[v] w fun e w' => e = .returned (.string (culprit l)) ∧ Below w.heap.size w w' := by
  obtain ⟨p, cap, rfl, h1, h2, h3, h4⟩ := h
  rcases h4 with rfl | ⟨b, off, rfl, hb, hc⟩
  · exact absurd he (by decide)
  · exact culpritOf_some b off cap l w hb hc h3 he
end Go.Proofs.Ytihnpbhcddapdaa

/- Modules: where they lie, their first error, and the first one that has an address. -/
import Derived.Test.YtcdaalnjanncmaaDoorSymJ
import Derived.Test.YtcdaalnjanncmaaDoorSymE
namespace Go.Proofs.YtcdaalnjanncmaaDoor
open Go.RowKit Go.Lib

theorem cell_keepA {W W' : World} {p : Addr} {v : Value} (h : W.cell? p = some v) (hb : Below W.heap.size W W') : W'.cell? p = some v := (hb.cell (World.block_lt_of_cell? _ _ h)).trans h

structure Md where
  n : ByteArray
  id : ByteArray
  a : Int
  b : Int
deriving DecidableEq
def encM (x : Md) : List Value := [.string x.n, .string x.id, .int .i64 x.a, .int .i64 x.b]
def fitM (x : Md) : Prop := fitS x.n ∧ fitS x.id ∧ in64 x.a ∧ in64 x.b
theorem AtG.mod {w : World} {b off : Nat} {l : List Md} (h : AtG encM 4 w b off l) {i : Nat} (hi : i < l.length) :
    w.cell? ⟨b, off + i * 4, none⟩ = some (.string l[i].n) ∧ w.cell? ⟨b, off + i * 4 + 1, none⟩ = some (.string l[i].id) ∧ w.cell? ⟨b, off + i * 4 + 2, none⟩ = some (.int .i64 l[i].a) ∧ w.cell? ⟨b, off + i * 4 + 3, none⟩ = some (.int .i64 l[i].b) :=
  ⟨by simpa [encM] using h i hi 0 (by omega), by simpa [encM] using h i hi 1 (by omega), by simpa [encM] using h i hi 2 (by omega), by simpa [encM] using h i hi 3 (by omega)⟩
def mprs (l : List Md) : List (Int × Int) := l.map fun f => (f.a, f.b)
def modAt (p : Int) (l : List Md) : Int := firstFrom 0 p (mprs l)
def modsErr : Int → List Md → Int
  | _, [] => 0
  | e, m :: l => if modErr m.n ≠ 0 then modErr m.n else if isIdB m.id = false then 1 else if ¬ spanOk m.a m.b 281474976710656 then 2 else if m.a < e then 5 else modsErr m.b l
def eMods (l : List Md) : Int := if 100 < l.length then 4 else modsErr 0 l
section
variable {e : Int} {m : Md} {l : List Md}
theorem modsErr_name (h : modErr m.n ≠ 0) : modsErr e (m :: l) = modErr m.n := by rw [modsErr, if_pos h]
theorem modsErr_id (h : modErr m.n = 0) (h1 : isIdB m.id = false) : modsErr e (m :: l) = 1 := by rw [modsErr, if_neg (by omega), if_pos h1]
theorem modsErr_span (h : modErr m.n = 0) (h1 : isIdB m.id = true) (h2 : ¬ spanOk m.a m.b 281474976710656) : modsErr e (m :: l) = 2 := by rw [modsErr, if_neg (by omega), if_neg (by simp [h1]), if_pos h2]
theorem modsErr_order (h : modErr m.n = 0) (h1 : isIdB m.id = true) (h2 : spanOk m.a m.b 281474976710656) (h3 : m.a < e) : modsErr e (m :: l) = 5 := by rw [modsErr, if_neg (by omega), if_neg (by simp [h1]), if_neg (by simpa using h2), if_pos h3]
theorem modsErr_next (h : modErr m.n = 0) (h1 : isIdB m.id = true) (h2 : spanOk m.a m.b 281474976710656) (h3 : ¬ m.a < e) : modsErr e (m :: l) = modsErr m.b l := by rw [modsErr, if_neg (by omega), if_neg (by simp [h1]), if_neg (by simpa using h2), if_neg h3]
end

set_option maxHeartbeats 2000000 in
set_option maxRecDepth 100000 in
theorem moduleAt_some (p : Int) (b off n c : Nat) (l : List Md) (w : World) (hl : l.length = n) (hn : n ≤ 9223372036854775807) (hb : b < w.heap.size) (hc : AtG encM 4 w b off l) :
    Calls Tryd.prog 29 #[.slice (some ⟨b, off, none⟩) n c, .int .i64 p] w fun e w' => e = .returned (atVal (modAt p l)) ∧ Below w.heap.size w w' := by
  go_enter Tryd.func29, Tryd.ntmps29
  go_wp2_with fail
  go_loopw [10] (fun v wr => ∃ k : Nat, k ≤ n ∧ v = .int .i64 k ∧ modAt p l = firstFrom k p (mprs (l.drop k)) ∧ Below w.heap.size w wr) (fun v _ => n - (RowKit.intOf v).toNat)
  case atStart => exact ⟨0, Nat.zero_le _, rfl, rfl, Below.refl _ _⟩
  case round =>
    obtain ⟨k, hk, rfl, heq, hbw⟩ := hrel
    have HEQ := Lib.hid heq
    clear heq
    by_cases hlt : k < n
    · have hkl : k < l.length := by omega
      have HD := Lib.hid (List.drop_eq_getElem_cons hkl)
      obtain ⟨c0, c1', c2', c3'⟩ := hc.mod hkl
      have c0 := (hbw.cell (p := ⟨b, _, none⟩) hb).trans c0
      have c1' := (hbw.cell (p := ⟨b, _, none⟩) hb).trans c1'
      have c2' := (hbw.cell (p := ⟨b, _, none⟩) hb).trans c2'
      have c3' := (hbw.cell (p := ⟨b, _, none⟩) hb).trans c3'
      generalize l[k] = f at *
      obtain ⟨s, sid, fa, fb⟩ := f
      simp only at c0 c1' c2' c3'
      have hbw1 := hbw.alloc hbw.size (.cells #[.string s, .string sid, .int .i64 fa, .int .i64 fb] 77)
      by_cases h1 : fa ≤ p
      · by_cases h2 : p < fb
        · have HR := Lib.hid (show atVal (modAt p l) = .tuple #[.int .i64 k, .bool true] by
            rw [HEQ.out, HD.out]; exact atVal_some (firstFrom_hit (x := (fa, fb)) h1 h2))
          go_wp2_with fail
          go_ret2
          exact ⟨by rw [HR.out]; rfl, hbw1⟩
        · have HR := Lib.hid (show modAt p l = firstFrom (k + 1) p (mprs (l.drop (k + 1))) by
            rw [HEQ.out, HD.out]; exact firstFrom_miss (x := (fa, fb)) (by simp only; omega))
          go_wp2_with fail
          exact ⟨⟨k + 1, by omega, by go_num, HR.out, hbw1⟩, by simp [RowKit.intOf]; omega⟩
      · have HR := Lib.hid (show modAt p l = firstFrom (k + 1) p (mprs (l.drop (k + 1))) by
          rw [HEQ.out, HD.out]; exact firstFrom_miss (x := (fa, fb)) (by simp only; omega))
        go_wp2_with fail
        exact ⟨⟨k + 1, by omega, by go_num, HR.out, hbw1⟩, by simp [RowKit.intOf]; omega⟩
    · have HR := Lib.hid (show atVal (modAt p l) = .tuple #[.int .i64 0, .bool false] by rw [HEQ.out, List.drop_of_length_le (by omega)]; rfl)
      go_wp2_with fail
      go_ret2
      exact ⟨by rw [HR.out]; rfl, hbw⟩

set_option maxHeartbeats 2000000 in
set_option maxRecDepth 100000 in
theorem moduleOf_some (p : Int) (b off n c : Nat) (l : List Md) (w : World) (hl : l.length = n) (hn : n ≤ 9223372036854775807) (hb : b < w.heap.size) (hc : AtG encM 4 w b off l) :
    Calls Tryd.prog 31 #[.slice (some ⟨b, off, none⟩) n c, .int .i64 p] w fun e w' => e = .returned (atVal (modAt p l)) ∧ Below w.heap.size w w' := by
  go_enter Tryd.func31, Tryd.ntmps31
  go_wp2_with fail
  go_loopw [10] (fun v wr => ∃ k : Nat, k ≤ n ∧ v = .int .i64 k ∧ modAt p l = firstFrom k p (mprs (l.drop k)) ∧ Below w.heap.size w wr) (fun v _ => n - (RowKit.intOf v).toNat)
  case atStart => exact ⟨0, Nat.zero_le _, rfl, rfl, Below.refl _ _⟩
  case round =>
    obtain ⟨k, hk, rfl, heq, hbw⟩ := hrel
    have HEQ := Lib.hid heq
    clear heq
    by_cases hlt : k < n
    · have hkl : k < l.length := by omega
      have HD := Lib.hid (List.drop_eq_getElem_cons hkl)
      obtain ⟨c0, c1', c2', c3'⟩ := hc.mod hkl
      have c0 := (hbw.cell (p := ⟨b, _, none⟩) hb).trans c0
      have c1' := (hbw.cell (p := ⟨b, _, none⟩) hb).trans c1'
      have c2' := (hbw.cell (p := ⟨b, _, none⟩) hb).trans c2'
      have c3' := (hbw.cell (p := ⟨b, _, none⟩) hb).trans c3'
      generalize l[k] = f at *
      obtain ⟨s, sid, fa, fb⟩ := f
      simp only at c0 c1' c2' c3'
      have hbw1 := hbw.alloc hbw.size (.cells #[.string s, .string sid, .int .i64 fa, .int .i64 fb] 77)
      by_cases h1 : fa ≤ p
      · by_cases h2 : p < fb
        · have HR := Lib.hid (show atVal (modAt p l) = .tuple #[.int .i64 k, .bool true] by
            rw [HEQ.out, HD.out]; exact atVal_some (firstFrom_hit (x := (fa, fb)) h1 h2))
          go_wp2_with fail
          go_ret2
          exact ⟨by rw [HR.out]; rfl, hbw1⟩
        · have HR := Lib.hid (show modAt p l = firstFrom (k + 1) p (mprs (l.drop (k + 1))) by
            rw [HEQ.out, HD.out]; exact firstFrom_miss (x := (fa, fb)) (by simp only; omega))
          go_wp2_with fail
          exact ⟨⟨k + 1, by omega, by go_num, HR.out, hbw1⟩, by simp [RowKit.intOf]; omega⟩
      · have HR := Lib.hid (show modAt p l = firstFrom (k + 1) p (mprs (l.drop (k + 1))) by
          rw [HEQ.out, HD.out]; exact firstFrom_miss (x := (fa, fb)) (by simp only; omega))
        go_wp2_with fail
        exact ⟨⟨k + 1, by omega, by go_num, HR.out, hbw1⟩, by simp [RowKit.intOf]; omega⟩
    · have HR := Lib.hid (show atVal (modAt p l) = .tuple #[.int .i64 0, .bool false] by rw [HEQ.out, List.drop_of_length_le (by omega)]; rfl)
      go_wp2_with fail
      go_ret2
      exact ⟨by rw [HR.out]; rfl, hbw⟩

theorem modErr_empty {s : ByteArray} (h : s.size = 0) : modErr s = 1 := by unfold modErr; rw [if_pos h]

set_option maxHeartbeats 1000000 in
set_option maxRecDepth 100000 in
theorem checkModuleName_any (s : ByteArray) (w : World) (hs : fitS s) :
    Calls Tryd.prog 82 #[.string s] w fun e w' => e = .returned (.int .i64 (modErr s)) ∧ Below w.heap.size w w' := by
  by_cases h0 : s.size = 0
  · have he : (s.toList == ([] : List UInt8)) = true := by rw [eq_empty]; simp [h0]
    have HE := Lib.hid (modErr_empty h0)
    clear h0
    go_enter Tryd.func82, Tryd.ntmps82
    go_wp2_with fail
    go_ret
    exact ⟨ret_int HE.out.symm, Below.refl _ _⟩
  · have he : (s.toList == ([] : List UInt8)) = false := by rw [eq_empty]; simp [h0]
    have HN := Lib.hid (checkName_any s ⟨s, fB, noB, 0, -1, false⟩ w ⟨fitS_le hs, by show fB.size ≤ maxLen; decide, by show noB.size ≤ maxLen; decide⟩)
    unfold noB fB at HN
    have HE := Lib.hid (show modErr s = if frErr ⟨s, ⟨#[102]⟩, ⟨#[]⟩, 0, -1, false⟩ ≠ 0 then frErr ⟨s, ⟨#[102]⟩, ⟨#[]⟩, 0, -1, false⟩ else if bang s = true then 9 else 0 by unfold modErr; rw [if_neg h0]; rfl)
    rw [← HE.out] at HN
    clear h0
    go_enter Tryd.func82, Tryd.ntmps82
    go_wp2_with (go_at_call 115; refine HN.out.mono ?_; rintro e w1 ⟨rfl, hb1⟩)
    go_ret
    exact ⟨rfl, hb1⟩

set_option maxHeartbeats 2000000 in
set_option maxRecDepth 100000 in
theorem checkModules_some (b off n c : Nat) (l : List Md) (w : World) (hl : l.length = n) (hn : n ≤ 100) (hb : b < w.heap.size) (hc : AtG encM 4 w b off l) (hf : ∀ f ∈ l, fitM f) :
    Calls Tryd.prog 56 #[.slice (some ⟨b, off, none⟩) n c] w fun e w' => e = .returned (.int .i64 (modsErr 0 l)) ∧ Below w.heap.size w w' := by
  have hd : decide (100 < (n : Int)) = false := by simp; omega
  go_enter Tryd.func56, Tryd.ntmps56
  go_wp2_with fail
  go_loopw [3, 12] (fun v3 v wr => ∃ (k : Nat) (e : Int), k ≤ n ∧ v3 = .int .i64 e ∧ v = .int .i64 k ∧ modsErr 0 l = modsErr e (l.drop k) ∧ Below w.heap.size w wr) (fun _ v _ => n - (RowKit.intOf v).toNat)
  case atStart => exact ⟨0, 0, Nat.zero_le _, rfl, rfl, rfl, Below.refl _ _⟩
  case round =>
    obtain ⟨k, e, hk, rfl, rfl, heq, hbw⟩ := hrel
    have HEQ := Lib.hid heq
    clear heq
    by_cases hlt : k < n
    · have hkl : k < l.length := by omega
      have HD := Lib.hid (List.drop_eq_getElem_cons hkl)
      obtain ⟨c0, c1', c2', c3'⟩ := hc.mod hkl
      have c0 := (hbw.cell (p := ⟨b, _, none⟩) hb).trans c0
      have c1' := (hbw.cell (p := ⟨b, _, none⟩) hb).trans c1'
      have c2' := (hbw.cell (p := ⟨b, _, none⟩) hb).trans c2'
      have c3' := (hbw.cell (p := ⟨b, _, none⟩) hb).trans c3'
      have hfs := hf _ (List.getElem_mem hkl)
      generalize l[k] = f at *
      obtain ⟨s, sid, fa, fb⟩ := f
      simp only at c0 c1' c2' c3'
      have HN := Lib.hid (fun W => checkModuleName_any s W hfs.1)
      have HI := Lib.hid (fun W => isId_any sid W hfs.2.1)
      have HS := Lib.hid (fun W => isSpan_any fa fb 281474976710656 W)
      have HH := Lib.hid (fun v (h : modsErr e (⟨s, sid, fa, fb⟩ :: l.drop (k + 1)) = v) => (show modsErr 0 l = v by rw [HEQ.out, HD.out]; exact h))
      clear HEQ HD
      by_cases hz : modErr s = 0
      · rw [hz] at HN
        cases hid : isIdB sid
        · rw [hid] at HI
          have HR := Lib.hid (HH.out _ (modsErr_id hz hid))
          clear hz hid HS HH
          go_wp2_with (first
            | (go_at_call 82; refine (HN.out _).mono ?_; rintro e' w1 ⟨rfl, hb1⟩; have hbw1 := below_a1 hbw hbw.size hb1; have f1 : w1.cell? ⟨wr.heap.size, 1, none⟩ = some (.string sid) := (hb1.cell (p := ⟨wr.heap.size, 1, none⟩) (by simp)).trans (by go_simp))
            | (go_at_call 61; refine (HI.out _).mono ?_; rintro e' w2 ⟨rfl, hb2⟩; have hbw2 := below_call hbw1 hbw1.size hb2))
          go_ret
          exact ⟨ret_int HR.out.symm, hbw2⟩
        · rw [hid] at HI
          by_cases hsp : spanOk fa fb 281474976710656
          · rw [decide_eq_true hsp] at HS
            by_cases ho : fa < e
            · have HR := Lib.hid (HH.out _ (modsErr_order hz hid hsp ho))
              clear hz hid hsp HH
              go_wp2_with (first
                | (go_at_call 82; refine (HN.out _).mono ?_; rintro e' w1 ⟨rfl, hb1⟩; have hbw1 := below_a1 hbw hbw.size hb1; have f1 : w1.cell? ⟨wr.heap.size, 1, none⟩ = some (.string sid) := (hb1.cell (p := ⟨wr.heap.size, 1, none⟩) (by simp)).trans (by go_simp); have f2 : w1.cell? ⟨wr.heap.size, 2, none⟩ = some (.int .i64 fa) := (hb1.cell (p := ⟨wr.heap.size, 2, none⟩) (by simp)).trans (by go_simp); have f3 : w1.cell? ⟨wr.heap.size, 3, none⟩ = some (.int .i64 fb) := (hb1.cell (p := ⟨wr.heap.size, 3, none⟩) (by simp)).trans (by go_simp))
                | (go_at_call 61; refine (HI.out _).mono ?_; rintro e' w2 ⟨rfl, hb2⟩; have hbw2 := below_call hbw1 hbw1.size hb2; have f2 := cell_keepA f2 hb2; have f3 := cell_keepA f3 hb2)
                | (go_at_call 83; refine (HS.out _).mono ?_; rintro e' w3 ⟨rfl, rfl⟩))
              go_ret
              exact ⟨ret_int HR.out.symm, hbw2⟩
            · have HR := Lib.hid (HH.out _ (modsErr_next hz hid hsp ho))
              clear hz hid hsp HH
              go_wp2_with (first
                | (go_at_call 82; refine (HN.out _).mono ?_; rintro e' w1 ⟨rfl, hb1⟩; have hbw1 := below_a1 hbw hbw.size hb1; have f1 : w1.cell? ⟨wr.heap.size, 1, none⟩ = some (.string sid) := (hb1.cell (p := ⟨wr.heap.size, 1, none⟩) (by simp)).trans (by go_simp); have f2 : w1.cell? ⟨wr.heap.size, 2, none⟩ = some (.int .i64 fa) := (hb1.cell (p := ⟨wr.heap.size, 2, none⟩) (by simp)).trans (by go_simp); have f3 : w1.cell? ⟨wr.heap.size, 3, none⟩ = some (.int .i64 fb) := (hb1.cell (p := ⟨wr.heap.size, 3, none⟩) (by simp)).trans (by go_simp))
                | (go_at_call 61; refine (HI.out _).mono ?_; rintro e' w2 ⟨rfl, hb2⟩; have hbw2 := below_call hbw1 hbw1.size hb2; have f2 := cell_keepA f2 hb2; have f3 := cell_keepA f3 hb2)
                | (go_at_call 83; refine (HS.out _).mono ?_; rintro e' w3 ⟨rfl, rfl⟩))
              exact ⟨⟨k + 1, fb, by omega, rfl, by go_num, HR.out, hbw2⟩, by simp [RowKit.intOf]; omega⟩
          · rw [decide_eq_false hsp] at HS
            have HR := Lib.hid (HH.out _ (modsErr_span hz hid hsp))
            clear hz hid hsp HH
            go_wp2_with (first
              | (go_at_call 82; refine (HN.out _).mono ?_; rintro e' w1 ⟨rfl, hb1⟩; have hbw1 := below_a1 hbw hbw.size hb1; have f1 : w1.cell? ⟨wr.heap.size, 1, none⟩ = some (.string sid) := (hb1.cell (p := ⟨wr.heap.size, 1, none⟩) (by simp)).trans (by go_simp); have f2 : w1.cell? ⟨wr.heap.size, 2, none⟩ = some (.int .i64 fa) := (hb1.cell (p := ⟨wr.heap.size, 2, none⟩) (by simp)).trans (by go_simp); have f3 : w1.cell? ⟨wr.heap.size, 3, none⟩ = some (.int .i64 fb) := (hb1.cell (p := ⟨wr.heap.size, 3, none⟩) (by simp)).trans (by go_simp))
              | (go_at_call 61; refine (HI.out _).mono ?_; rintro e' w2 ⟨rfl, hb2⟩; have hbw2 := below_call hbw1 hbw1.size hb2; have f2 := cell_keepA f2 hb2; have f3 := cell_keepA f3 hb2)
              | (go_at_call 83; refine (HS.out _).mono ?_; rintro e' w3 ⟨rfl, rfl⟩))
            go_ret
            exact ⟨ret_int HR.out.symm, hbw2⟩
      · have hq : (modErr s != 0) = true := by simpa using hz
        have HR := Lib.hid (HH.out _ (modsErr_name hz))
        clear hz HI HS HH
        generalize modErr s = E at *
        go_wp2_with (go_at_call 82; refine (HN.out _).mono ?_; rintro e' w1 ⟨rfl, hb1⟩; have hbw1 := below_a1 hbw hbw.size hb1)
        go_ret
        exact ⟨ret_int HR.out.symm, hbw1⟩
    · have HR := Lib.hid (show modsErr 0 l = 0 by rw [HEQ.out, List.drop_of_length_le (by omega)]; rfl)
      go_wp2_with fail
      go_ret
      exact ⟨ret_int HR.out.symm, hbw⟩
end Go.Proofs.YtcdaalnjanncmaaDoor

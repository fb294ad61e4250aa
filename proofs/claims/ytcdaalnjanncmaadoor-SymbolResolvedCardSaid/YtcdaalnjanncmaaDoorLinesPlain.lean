/- The places of an offset and the spans of a line: lists alone. -/
import Derived.Test.YtcdaalnjanncmaaDoorTabErr
namespace Go.Proofs.YtcdaalnjanncmaaDoor
open Go.RowKit

structure Pl where
  n : ByteArray
  f : ByteArray
  l : Int
deriving DecidableEq
structure Sp where
  a : Int
  b : Int
deriving DecidableEq
def encP (x : Pl) : List Value := [.string x.n, .string x.f, .int .i64 x.l]
def encSp (x : Sp) : List Value := [.int .i64 x.a, .int .i64 x.b]

/-- The number of rows that have begun at an offset, where rows stand in order. -/
def begun (p : Int) (rs : List Rw) : Nat := (rs.takeWhile fun r => decide (r.p ≤ p)).length
def fileAt (fs : List ByteArray) (i : Int) : ByteArray := fs.getD i.toNat noB
/-- What a row tells. -/
def rowSays (fs : List ByteArray) (r : Rw) : ByteArray × Int := if r.f = -1 then (noB, 0) else (fileAt fs r.f, r.l)
/-- What the rows tell of an offset. -/
def lineAt (t : Tb) (p : Int) : ByteArray × Int :=
  match t.rows[begun p t.rows - 1]? with
  | none => (noB, 0)
  | some r => if begun p t.rows = 0 then (noB, 0) else rowSays t.files r
/-- The places of an offset, from outside in. -/
def outs (fs : List ByteArray) (p : Int) (at_ : ByteArray × Int) : ByteArray → List Cl → List Pl
  | name, [] => [⟨name, at_.1, at_.2⟩]
  | name, c :: l => if c.a ≤ p ∧ p < c.b then ⟨name, fileAt fs c.f, c.l⟩ :: outs fs p at_ c.n l else outs fs p at_ name l

/-- A span is added behind the others, or to the last one. -/
def addSp (l : List Sp) (s : Sp) : List Sp :=
  match l.getLast? with
  | none => [s]
  | some d => if d.b = s.a then l.dropLast ++ [⟨d.a, s.b⟩] else l ++ [s]
/-- Where the first of rows begins, or the end of all. -/
def nextAt (size : Int) : List Rw → Int
  | [] => size
  | r :: _ => r.p
/-- The spans of a line, behind those that were found. -/
def spansOf (k : Int) (line size : Int) : List Sp → List Rw → List Sp
  | acc, [] => acc
  | acc, r :: l => if r.f = k ∧ r.l = line then spansOf k line size (addSp acc ⟨r.p, nextAt size l⟩) l else spansOf k line size acc l

/-- Spans are in order and apart, and each begins where a row of the line does. -/
def goodSp (k line : Int) (rs : List Rw) : Int → List Sp → Prop
  | _, [] => True
  | e, s :: l => e < s.a ∧ s.a < s.b ∧ (∃ r ∈ rs, r.p = s.a ∧ r.f = k ∧ r.l = line) ∧ goodSp k line rs s.b l
/-- Where the last span ends. -/
def endSp (e : Int) (l : List Sp) : Int := match l.getLast? with | none => e | some d => d.b

theorem goodSp_snoc {k line : Int} {rs : List Rw} {s : Sp} (h2 : s.a < s.b) (h3 : ∃ r ∈ rs, r.p = s.a ∧ r.f = k ∧ r.l = line) : ∀ {l : List Sp} {e : Int}, goodSp k line rs e l → endSp e l < s.a → goodSp k line rs e (l ++ [s])
  | [], e, _, h1 => ⟨h1, h2, h3, trivial⟩
  | d :: l, e, h, h1 => by
    obtain ⟨k1, k2, k3, k4⟩ := h
    refine ⟨k1, k2, k3, goodSp_snoc h2 h3 k4 ?_⟩
    cases l with
    | nil => simpa [endSp] using h1
    | cons x l =>
      have he : endSp d.b (x :: l) = endSp e (d :: x :: l) := by
        unfold endSp
        rw [List.getLast?_cons_cons, List.getLast?_cons]
      rw [he]; exact h1
theorem goodSp_last {k line : Int} {rs : List Rw} {d : Sp} {b : Int} (hb : d.b ≤ b) : ∀ {l : List Sp} {e : Int}, goodSp k line rs e (l ++ [d]) → goodSp k line rs e (l ++ [⟨d.a, b⟩])
  | [], e, ⟨k1, k2, k3, _⟩ => ⟨k1, by show d.a < b; omega, k3, trivial⟩
  | x :: l, e, ⟨k1, k2, k3, k4⟩ => ⟨k1, k2, k3, goodSp_last hb k4⟩
theorem addSp_good {k line : Int} {rs : List Rw} {s : Sp} {e : Int} {l : List Sp} (h : goodSp k line rs e l) (hle : endSp e l ≤ s.a) (he : e < s.a) (h2 : s.a < s.b) (h3 : ∃ r ∈ rs, r.p = s.a ∧ r.f = k ∧ r.l = line) :
    goodSp k line rs e (addSp l s) ∧ endSp e (addSp l s) = s.b := by
  unfold addSp
  rcases hl : l.getLast? with _ | d
  · rw [List.getLast?_eq_none_iff] at hl
    subst hl
    exact ⟨⟨he, h2, h3, trivial⟩, by simp [endSp]⟩
  · simp only
    have hd : endSp e l = d.b := by unfold endSp; rw [hl]
    split
    · rename_i hq
      obtain ⟨q, hq'⟩ := List.getLast?_eq_some_iff.1 hl
      subst hq'
      rw [List.dropLast_concat]
      exact ⟨goodSp_last (by omega) h, by simp [endSp]⟩
    · rename_i hq
      exact ⟨goodSp_snoc h2 h3 h (by omega), by simp [endSp]⟩
theorem spansOf_good {k line size : Int} {rs : List Rw} : ∀ {l : List Rw} {acc : List Sp} {e : Int}, (∀ r ∈ l, r ∈ rs) → l.Pairwise (fun r s => r.p < s.p) → (∀ r ∈ l, r.p < size ∧ endSp e acc ≤ r.p ∧ e < r.p) → goodSp k line rs e acc → goodSp k line rs e (spansOf k line size acc l)
  | [], _, _, _, _, _, h => h
  | r :: l, acc, e, hm, hp, hb, h => by
    rw [spansOf]
    obtain ⟨p1, p2⟩ := List.pairwise_cons.1 hp
    have hr := hb r (by simp)
    split
    · rename_i hc
      have hn : r.p < nextAt size l := by
        cases l with
        | nil => exact hr.1
        | cons s l => exact p1 s (by simp)
      obtain ⟨a1, a2⟩ := addSp_good (s := ⟨r.p, nextAt size l⟩) h hr.2.1 hr.2.2 hn ⟨r, hm r (by simp), rfl, hc.1, hc.2⟩
      refine spansOf_good (fun x hx => hm x (by simp [hx])) p2 (fun x hx => ?_) a1
      rw [a2]
      have hbx := hb x (by simp [hx])
      refine ⟨hbx.1, ?_, hbx.2.2⟩
      show nextAt size l ≤ x.p
      cases l with
      | nil => simp at hx
      | cons s l =>
        rw [List.mem_cons] at hx
        rcases hx with rfl | hx
        · exact Int.le_refl _
        · have := (List.pairwise_cons.1 p2).1 x hx
          show s.p ≤ x.p
          omega
    · exact spansOf_good (fun x hx => hm x (by simp [hx])) p2 (fun x hx => hb x (by simp [hx])) h

theorem takeWhile_at {p : Int} : ∀ {rs : List Rw} {i : Nat}, rs.Pairwise (fun r s => r.p < s.p) → (h : i < rs.length) → rs[i].p = p → begun p rs = i + 1
  | r :: l, 0, hp, _, he => by
    obtain ⟨p1, p2⟩ := List.pairwise_cons.1 hp
    simp only [List.getElem_cons_zero] at he
    unfold begun
    rw [List.takeWhile_cons_of_pos (by simp; omega)]
    cases l with
    | nil => rfl
    | cons s l =>
      have := p1 s (by simp)
      rw [List.takeWhile_cons_of_neg (by simp; omega)]; rfl
  | r :: l, i + 1, hp, h, he => by
    obtain ⟨p1, p2⟩ := List.pairwise_cons.1 hp
    have hi : i < l.length := by simpa using h
    have he' : l[i].p = p := by simpa using he
    have := p1 l[i] (List.getElem_mem hi)
    have ih := takeWhile_at p2 hi he'
    unfold begun at ih ⊢
    rw [List.takeWhile_cons_of_pos (by simp; omega), List.length_cons, ih]
/-- Where a row of a line begins, that line is told. -/
theorem lineAt_row {t : Tb} {r : Rw} (hp : t.rows.Pairwise (fun r s => r.p < s.p)) (hr : r ∈ t.rows) : lineAt t r.p = rowSays t.files r := by
  obtain ⟨i, hi, rfl⟩ := List.mem_iff_getElem.1 hr
  unfold lineAt
  rw [takeWhile_at hp hi rfl, Nat.add_sub_cancel, List.getElem?_eq_getElem hi]
  simp

theorem outs_ne (fs : List ByteArray) (p : Int) (a : ByteArray × Int) : ∀ (l : List Cl) (name : ByteArray), outs fs p a name l ≠ []
  | [], _ => by simp [outs]
  | c :: l, name => by
    rw [outs]; split
    · simp
    · exact outs_ne fs p a l name
/-- The innermost place tells what the rows tell. -/
theorem outs_last (fs : List ByteArray) (p : Int) (a : ByteArray × Int) : ∀ (l : List Cl) (name : ByteArray), ∃ x, (outs fs p a name l).getLast? = some x ∧ x.f = a.1 ∧ x.l = a.2
  | [], name => ⟨_, by rw [outs]; rfl, rfl, rfl⟩
  | c :: l, name => by
    rw [outs]; split
    · obtain ⟨x, h1, h2⟩ := outs_last fs p a l c.n
      refine ⟨x, ?_, h2⟩
      rw [List.getLast?_cons, h1]; rfl
    · exact outs_last fs p a l name
theorem outs_length (fs : List ByteArray) (p : Int) (a : ByteArray × Int) : ∀ (l : List Cl) (name : ByteArray), (outs fs p a name l).length ≤ l.length + 1
  | [], _ => by simp [outs]
  | c :: l, name => by
    rw [outs]; split
    · have := outs_length fs p a l c.n; simp; omega
    · have := outs_length fs p a l name; simp; omega
end Go.Proofs.YtcdaalnjanncmaaDoor

/- The law of lines, of lists alone. -/
import Derived.Test.YtcdaalnjanncmaaDoorLinesPlain
namespace Go.Proofs.YtcdaalnjanncmaaDoor
open Go.RowKit

theorem endSp_snoc {e : Int} {l : List Sp} {s : Sp} : endSp e (l ++ [s]) = s.b := by simp [endSp]
theorem goodSp_drop {k line : Int} {rs : List Rw} : ∀ {l : List Sp} {e : Int} (i : Nat), goodSp k line rs e l → goodSp k line rs (endSp e (l.take i)) (l.drop i)
  | l, e, 0, h => by simpa [endSp] using h
  | [], e, i + 1, h => by simp [goodSp]
  | s :: l, e, i + 1, ⟨_, _, _, h4⟩ => by
    have := goodSp_drop (l := l) (e := s.b) i h4
    rw [List.take_succ_cons, List.drop_succ_cons]
    have he : endSp e (s :: l.take i) = endSp s.b (l.take i) := by
      unfold endSp
      rw [List.getLast?_cons]
      cases (l.take i).getLast? <;> rfl
    rw [he]; exact this
theorem goodSp_at {k line : Int} {rs : List Rw} {l : List Sp} {e : Int} {i : Nat} {s : Sp} (h : goodSp k line rs e l) (hs : l[i]? = some s) :
    endSp e (l.take i) < s.a ∧ s.a < s.b ∧ (∃ r ∈ rs, r.p = s.a ∧ r.f = k ∧ r.l = line) ∧ endSp e (l.take (i + 1)) = s.b := by
  obtain ⟨hi, hx⟩ := List.getElem?_eq_some_iff.1 hs
  have hd := goodSp_drop i h
  rw [List.drop_eq_getElem_cons hi, hx] at hd
  obtain ⟨h1, h2, h3, _⟩ := hd
  refine ⟨h1, h2, h3, ?_⟩
  rw [List.take_succ_eq_append_getElem hi, hx, endSp_snoc]
/-- The first of the places, the innermost first. -/
def placesOf (t : Tb) (p : Int) (name : ByteArray) : List Pl := (outs t.files p (lineAt t p) name t.calls).reverse
theorem placesOf_head (t : Tb) (p : Int) (name : ByteArray) : ∃ x, (placesOf t p name)[0]? = some x ∧ x.f = (lineAt t p).1 ∧ x.l = (lineAt t p).2 := by
  obtain ⟨x, h1, h2⟩ := outs_last t.files p (lineAt t p) t.calls name
  refine ⟨x, ?_, h2⟩
  unfold placesOf
  rw [← List.head?_eq_getElem?, List.head?_reverse, h1]
end Go.Proofs.YtcdaalnjanncmaaDoor

/- The lines of a trace: lists alone. -/
import Derived.Test.YtmoofdcoodaaiaaGreatDoorWrC
import Derived.Lib.Join
namespace Go.Proofs.YtmoofdcoodaaiaaGreatDoor
open Go.RowKit Go.Lib

/-- Lines, each with its line feed. -/
def tx (ls : List (List UInt8)) : List UInt8 := ls.flatMap (fun l => l ++ [10])
theorem tx_app (a b : List (List UInt8)) : tx (a ++ b) = tx a ++ tx b := by simp [tx]
theorem tx_nil : tx [] = [] := rfl
theorem tx_lnL (m s : List UInt8) : tx [m ++ s] = lnL m s := by simp [tx, lnL]
theorem tx_one (s : List UInt8) : tx [s] = lnL [] s := tx_lnL [] s
theorem tx_join : ∀ ls : List (List UInt8), Lib.join (ls ++ [[]]) [10] = tx ls
  | [] => by rw [List.nil_append, Lib.join_one]; rfl
  | x :: ls => by
    have ih := tx_join ls
    rw [List.cons_append, Lib.join_cons]
    cases ls with
    | nil => simp [tx, Lib.joinTail]
    | cons y ls =>
      rw [List.cons_append, Lib.join_cons] at ih
      have e : Lib.joinTail [10] (y :: ls ++ [[]]) = [10] ++ (y ++ Lib.joinTail [10] (ls ++ [[]])) := by simp [Lib.joinTail]
      rw [List.cons_append] at e
      rw [List.cons_append, e, ih]
      simp [tx]

def lineL (x : Fr) : List UInt8 := d (callB x) ++ d (restB x)
def inLn (x : Fr) : List UInt8 := [32, 32, 32, 32, 97, 116, 32] ++ lineL x
def outLn (x : Fr) : List UInt8 := [32, 32] ++ lineL x
def headL (f : Fa) : List UInt8 := d (headB f.kind f.text)
def frsOf (l : List Fa) (i : Nat) : List Fr := ((l[i]?).map Fa.fr).getD []
/-- How many frames are told by their number. -/
def goneAt (l : List Fa) (i : Nat) : Nat := if i = 0 then 0 else if shared (frsOf l (i - 1)) (frsOf l i) < 2 then 0 else shared (frsOf l (i - 1)) (frsOf l i)
def causeL : List UInt8 := [67, 97, 117, 115, 101, 100, 32, 98, 121, 58, 32]
def moreL (n : Nat) : List UInt8 := [32, 32, 32, 32, 46, 46, 46, 32] ++ (Lib.itoa n ++ [32, 109, 111, 114, 101])
def inHead (i : Nat) (f : Fa) : List UInt8 := (if i = 0 then [] else causeL) ++ headL f
def inMore (l : List Fa) (i : Nat) : List (List UInt8) := if goneAt l i = 0 then [] else [moreL (goneAt l i)]
/-- The lines of a fault in the form Inner. -/
def inFa (l : List Fa) (i : Nat) (f : Fa) : List (List UInt8) := [inHead i f] ++ (f.fr.take (f.fr.length - goneAt l i)).map inLn ++ inMore l i
def inUp (l : List Fa) (k : Nat) : List (List UInt8) := (List.range k).flatMap (fun i => match l[i]? with | some f => inFa l i f | none => [])
theorem inUp_zero (l : List Fa) : inUp l 0 = [] := rfl
theorem inUp_succ (l : List Fa) (k : Nat) (hk : k < l.length) : inUp l (k + 1) = inUp l k ++ inFa l k l[k] := by
  unfold inUp; rw [List.range_succ, List.flatMap_append, List.flatMap_singleton, List.getElem?_eq_getElem hk]

def tbL : List UInt8 := [84, 114, 97, 99, 101, 98, 97, 99, 107, 58]
def ledL : List UInt8 := [119, 104, 105, 99, 104, 32, 108, 101, 100, 32, 116, 111, 58]
/-- The lines of a fault in the form Outer. -/
def outFa (i : Nat) (f : Fa) : List (List UInt8) := [tbL] ++ f.fr.reverse.map outLn ++ [headL f] ++ (if i = 0 then [] else [ledL])
/-- The lines of the last k faults. -/
def outDn (l : List Fa) (k : Nat) : List (List UInt8) := (List.range k).flatMap (fun j => match l[l.length - 1 - j]? with | some f => outFa (l.length - 1 - j) f | none => [])
theorem outDn_zero (l : List Fa) : outDn l 0 = [] := rfl
theorem outDn_succ (l : List Fa) (i : Nat) (hi : i < l.length) : outDn l (l.length - i) = outDn l (l.length - (i + 1)) ++ outFa i l[i] := by
  rw [show l.length - i = (l.length - (i + 1)) + 1 by omega]
  unfold outDn
  rw [List.range_succ, List.flatMap_append, List.flatMap_singleton]
  rw [show l.length - 1 - (l.length - (i + 1)) = i by omega, List.getElem?_eq_getElem hi]
theorem rev_take {α : Type} (l : List α) (j : Nat) (hj : j < l.length) : (l.drop j).reverse = (l.drop (j + 1)).reverse ++ [l[j]] := by
  rw [List.drop_eq_getElem_cons hj, List.reverse_cons]

/-- The second line of a frame in the form Pairs. -/
def tailL (x : Fr) : List UInt8 := Lib.trimPrefix (d (restB x)) [32]
def prLn (x : Fr) : List (List UInt8) := [d (callB x), [9] ++ tailL x]
def prLs (f : Fa) : List (List UInt8) := [[102, 97, 117, 108, 116, 32] ++ headL f] ++ f.fr.flatMap prLn
theorem prFr_tx (x : Fr) : prFr x = tx (prLn x) := by
  show lnL [] (d (callB x)) ++ lnL [9] (tailL x) = tx ([d (callB x)] ++ [[9] ++ tailL x])
  rw [tx_app, tx_one, tx_lnL]
theorem flat_tx {α : Type} (f : α → List (List UInt8)) (l : List α) : l.flatMap (fun x => tx (f x)) = tx (l.flatMap f) := by
  induction l with
  | nil => rfl
  | cons a l ih => rw [List.flatMap_cons, List.flatMap_cons, tx_app, ih]
theorem prFa_tx (f : Fa) : prFa f = tx (prLs f) := by
  unfold prFa prLs prFrs
  rw [tx_app, tx_lnL, ← flat_tx]
  congr 1
  exact congrArg (fun g => f.fr.flatMap g) (funext prFr_tx)
theorem prFas_tx (l : List Fa) : prFas l = tx (l.flatMap prLs) := by
  unfold prFas
  rw [← flat_tx]
  exact congrArg (fun g => l.flatMap g) (funext prFa_tx)

/-- The lines of faults in a form. -/
def lines (l : List Fa) (form : Int) : List (List UInt8) := if form = 1 then inUp l l.length else if form = 2 then outDn l l.length else l.flatMap prLs

/-! ### The words behind a name -/
def fileW (x : Fr) : ByteArray := if x.line ≤ 0 then (⟨#[40]⟩ ++ x.i) ++ ⟨#[41]⟩ else (⟨#[40]⟩ ++ x.i) ++ (⟨#[58]⟩ ++ bs (Lib.itoa x.line)) ++ ⟨#[41]⟩
def w1 (x : Fr) : List ByteArray := if x.i.size = 0 then [] else [fileW x]
def w2 (x : Fr) : List ByteArray := if x.addr < 0 then [] else [⟨#[64]⟩ ++ hexB x.addr]
def w3 (x : Fr) : List ByteArray := if x.own = true then [⟨#[42]⟩] else []
def wordsW (x : Fr) : List ByteArray := w1 x ++ w2 x ++ w3 x
def sp (l : List ByteArray) : List UInt8 := l.flatMap (fun w => 32 :: d w)
theorem d_bs (l : List UInt8) : d (bs l) = l := bs_data l
theorem d_app (a b : ByteArray) : d (a ++ b) = d a ++ d b := app_data a b
theorem sp_app (a b : List ByteArray) : sp (a ++ b) = sp a ++ sp b := List.flatMap_append
theorem restB_sp (x : Fr) (h : FrOk x) : d (restB x) = sp (wordsW x) := by
  have e1 : d (r1 x) = sp (w1 x) := by
    unfold r1 w1 fileW
    split
    · rfl
    · by_cases hl : x.line = 0
      · rw [if_pos hl, if_pos (by omega)]
        simp [sp, d_app]; rfl
      · rw [if_neg hl, if_neg (by have := h.l0; omega)]
        simp [sp, d_app, d_bs]; rfl
  have e2 : d (r2 x (r1 x)) = sp (w1 x ++ w2 x) := by
    unfold r2 w2
    by_cases ha : x.addr = -1
    · rw [if_pos ha, if_pos (by omega), e1, List.append_nil]
    · rw [if_neg ha, if_neg (by have := h.a0; omega), d_app, e1, d_app]
      unfold sp
      rw [List.flatMap_append]
      congr 1
      simp [d_app]; rfl
  unfold restB r3 wordsW w3
  split
  · rw [d_app, e2, sp_app (w1 x ++ w2 x)]; rfl
  · rw [e2, List.append_nil]
def restW (x : Fr) : List UInt8 := Lib.join ((wordsW x).map (·.data.toList)) [32]
theorem sp_join : ∀ l : List ByteArray, sp l = if l = [] then [] else 32 :: Lib.join (l.map (·.data.toList)) [32]
  | [] => rfl
  | a :: l => by
    rw [if_neg (by simp), List.map_cons, Lib.join_cons]
    have : ∀ l : List ByteArray, sp l = Lib.joinTail [32] (l.map (·.data.toList)) := by
      intro l
      induction l with
      | nil => rfl
      | cons b l ih => show (32 :: d b) ++ sp l = _; rw [ih]; simp [Lib.joinTail]; rfl
    show (32 :: d a) ++ sp l = _
    rw [this]; rfl
theorem tail_rest (x : Fr) (h : FrOk x) : tailL x = restW x := by
  unfold tailL restW
  rw [restB_sp x h, sp_join]
  split
  · rename_i he; rw [he]; rfl
  · unfold Lib.trimPrefix
    rw [if_pos (by simp [Lib.hasPrefix])]; rfl
/-- The line of a frame as the reference writes it. -/
theorem line_rest (x : Fr) (h : FrOk x) : lineL x = if restW x = [] then d (callB x) else d (callB x) ++ (32 :: restW x) := by
  unfold lineL
  rw [restB_sp x h, sp_join]
  by_cases he : wordsW x = []
  · rw [if_pos he]
    have : restW x = [] := by unfold restW; rw [he]; rfl
    rw [if_pos this, List.append_nil]
  · have hne : restW x ≠ [] := by
      intro hr
      unfold restW at hr
      cases hw : wordsW x with
      | nil => exact he hw
      | cons a l =>
        rw [hw, List.map_cons, Lib.join_cons] at hr
        have ha : a.data.toList = [] := (List.append_eq_nil_iff.1 hr).1
        have hm : a ∈ wordsW x := by rw [hw]; exact List.mem_cons_self
        have : d a ≠ [] := by
          unfold wordsW w1 w2 w3 at hm
          rw [List.mem_append, List.mem_append] at hm
          rcases hm with (hm | hm) | hm
          · split at hm
            · cases hm
            · rw [List.mem_singleton] at hm; rw [hm]; unfold fileW; split <;> simp only [d_app] <;> exact fun h => by cases h
          · split at hm
            · cases hm
            · rw [List.mem_singleton] at hm; rw [hm]; simp only [d_app]; exact fun h => by cases h
          · split at hm
            · rw [List.mem_singleton] at hm; rw [hm]; exact fun h => by cases h
            · cases hm
        exact this ha
    rw [if_neg he, if_neg hne]; rfl
theorem wordsW_len (x : Fr) : (wordsW x).length ≤ 3 := by
  unfold wordsW w1 w2 w3
  rw [List.length_append, List.length_append]
  split <;> split <;> split <;> simp
theorem lineL_len {x : Fr} (h : FrOk x) : (lineL x).length ≤ 641 := by
  have h1 := callB_len h
  have h2 := restB_len h
  unfold lineL; rw [List.length_append, d_len, d_len]; omega
theorem restW_len {x : Fr} (h : FrOk x) : (restW x).length ≤ 240 := by
  have h1 := trim_len (d (restB x)) [32]
  have h2 := restB_len h
  rw [← tail_rest x h]; unfold tailL; rw [d_len] at h1; omega
theorem headL_len {f : Fa} (h : FaOk f) : (headL f).length ≤ 2202 := by
  have := headB_len h.k h.t
  unfold headL; rw [d_len]; exact this
end Go.Proofs.YtmoofdcoodaaiaaGreatDoor

/- A place without a route has both ways: what is dropped though it isn't there changes nothing. -/
import Derived.Test.YtfhpcpanjonpeaaTe
namespace Go.Proofs.Ytfhpcpanjonpeaa.Tri
open Pre
open Go.ChangeShapes Go.WideShapes Go.ChangeAt Go.RowKit

def T.isNil : T → Bool
  | .nil => true
  | .node .. => false
def T.Tight : T → Prop
  | .nil => True
  | .node _ _ x l r => (x = none → l.isNil = false ∧ r.isNil = false) ∧ l.Tight ∧ r.Tight
theorem put_some (t : T) (r : R) : (t.put r).1.isNil = false := by
  cases t with
  | nil => rfl
  | node a n x l rr =>
    unfold T.put
    split
    · split
      · rfl
      · split <;> rfl
    · split <;> (unfold fork; split <;> rfl)
theorem put_tight (t : T) (r : R) (h : t.Tight) : (t.put r).1.Tight := by
  induction t with
  | nil => exact ⟨(fun e => by cases e), trivial, trivial⟩
  | node a n x l rr il ir =>
    have hh := h
    obtain ⟨h1, h2, h3⟩ := h
    unfold T.put
    split
    · split
      · exact ⟨(fun e => by cases e), h2, h3⟩
      · split
        · exact ⟨fun e => ⟨(h1 e).1, put_some _ _⟩, h2, ir h3⟩
        · exact ⟨fun e => ⟨put_some _ _, (h1 e).2⟩, il h2, h3⟩
    · have lt : (leaf r).Tight := ⟨(fun e => by cases e), trivial, trivial⟩
      split
      · unfold fork
        split
        · exact ⟨(fun e => by cases e), trivial, hh⟩
        · exact ⟨(fun e => by cases e), hh, trivial⟩
      · unfold fork
        split
        · exact ⟨fun _ => ⟨rfl, rfl⟩, lt, hh⟩
        · exact ⟨fun _ => ⟨rfl, rfl⟩, hh, lt⟩
theorem needed_tight (a n : Nat) (x : Option R) (l r : T) (h2 : l.Tight) (h3 : r.Tight) : (needed a n x l r).Tight := by
  cases x with
  | some y => exact ⟨(fun e => by cases e), h2, h3⟩
  | none =>
    cases l <;> cases r
    · trivial
    · exact h3
    · exact h2
    · exact ⟨fun _ => ⟨rfl, rfl⟩, h2, h3⟩
theorem drop_tight (t : T) (b m : Nat) (h : t.Tight) : (t.drop b m).1.Tight := by
  induction t with
  | nil => trivial
  | node a n x l r il ir =>
    obtain ⟨h1, h2, h3⟩ := h
    unfold T.drop
    split
    · exact needed_tight a n none l r h2 h3
    · split
      · exact needed_tight a n x l (r.drop b m).1 h2 (ir h3)
      · exact needed_tight a n x (l.drop b m).1 r (il h2) h3
theorem needed_keep (a n : Nat) (x : Option R) (l r : T) (h : x = none → l.isNil = false ∧ r.isNil = false) : needed a n x l r = .node a n x l r := by
  cases x with
  | some y => rfl
  | none =>
    obtain ⟨h1, h2⟩ := h rfl
    cases l with
    | nil => cases h1
    | node _ _ _ _ _ =>
      cases r with
      | nil => cases h2
      | node _ _ _ _ _ => rfl
theorem drop_same (t : T) (b m : Nat) (h : t.Tight) (hw : (t.drop b m).2 = false) : (t.drop b m).1 = t := by
  induction t with
  | nil => rfl
  | node a n x l r il ir =>
    obtain ⟨h1, h2, h3⟩ := h
    unfold T.drop at hw ⊢
    split
    · rename_i he
      rw [if_pos he] at hw
      cases x with
      | some y => cases hw
      | none => exact needed_keep _ _ _ _ _ h1
    · rename_i he
      rw [if_neg he] at hw
      split
      · rename_i hs
        rw [if_pos hs] at hw
        show needed a n x l (r.drop b m).1 = _
        rw [ir h3 hw]
        exact needed_keep _ _ _ _ _ h1
      · rename_i hs
        rw [if_neg hs] at hw
        show needed a n x (l.drop b m).1 r = _
        rw [il h2 hw]
        exact needed_keep _ _ _ _ _ h1
end Go.Proofs.Ytfhpcpanjonpeaa.Tri

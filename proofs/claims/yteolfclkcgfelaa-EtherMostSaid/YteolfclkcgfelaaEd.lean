/- Hears, Join. -/
import Derived.Test.YteolfclkcgfelaaEc
namespace Go.Proofs.Yteolfclkcgfelaa.Eth
open Go.ChangeShapes Go.WideShapes Go.ChangeAt Go.RowKit
open Coin (Rd Own b8 Row)
set_option maxRecDepth 8000
set_option linter.unusedVariables false
variable {lo : Nat} {w : World} {q : Nat} {H : Nat → Nat → Bool} {l : List Pk} {v : Value}

theorem isN_nat {a : Nat} (h : a < 16) : isN (a : Int) = true := decide_eq_true ⟨by omega, by omega⟩
theorem isN_of {a : Int} (h : isN a = true) : ∃ n : Nat, a = (n : Int) ∧ n < 16 := by
  have := of_decide_eq_true h
  exact ⟨a.toNat, by omega, by omega⟩
theorem hears_nil (w : World) (a b : Int) : Calls Try.prog 15 #[.pointer none, .int .i64 a, .int .i64 b] w fun e w' => e = .returned (.bool false) ∧ w = w' := by
  go_enter Try.func15, Try.ntmps15
  go_wp2
  go_ret
  exact ⟨rfl, rfl⟩
theorem hears_two (h : EAt lo w q H l v) (a b : Nat) (ha : a < 16) (hb : b < 16) : Calls Try.prog 15 #[.pointer (some ⟨q, 0, none⟩), .int .i64 (a : Int), .int .i64 (b : Int)] w fun e w' => e = .returned (.bool (H a b)) ∧ w = w' := by
  have c1 := isN_nat ha ▸ node_any (a : Int) w
  have c2 := isN_nat hb ▸ node_any (b : Int) w
  have p := h.hears ha hb
  have ha' : (a : Int) < 16 := by omega
  have hb' : (b : Int) < 16 := by omega
  clear h
  go_enter Try.func15, Try.ntmps15
  go_wp2_with (first
    | (go_at_call 16; (with_reducible refine c1.mono ?_); rintro e w1 ⟨rfl, rfl⟩)
    | (go_at_call 16; (with_reducible refine c2.mono ?_); rintro e w1 ⟨rfl, rfl⟩))
  go_ret
  exact ⟨rfl, rfl⟩
theorem hears_not (w : World) (q : Nat) (a b : Int) (hn : ¬ (isN a = true ∧ isN b = true)) : Calls Try.prog 15 #[.pointer (some ⟨q, 0, none⟩), .int .i64 a, .int .i64 b] w fun e w' => e = .returned (.bool false) ∧ w = w' := by
  have c1 := node_any a w
  have c2 := node_any b w
  cases h1 : isN a with
  | false =>
    rw [h1] at c1
    clear hn c2
    go_enter Try.func15, Try.ntmps15
    go_wp2_with (first
      | (go_at_call 16; (with_reducible refine c1.mono ?_); rintro e w1 ⟨rfl, rfl⟩))
    go_ret
    exact ⟨rfl, rfl⟩
  | true =>
    rw [h1] at c1
    have h2 : isN b = false := by
      cases h2 : isN b with
      | false => rfl
      | true => exact absurd ⟨h1, h2⟩ hn
    rw [h2] at c2
    clear hn
    go_enter Try.func15, Try.ntmps15
    go_wp2_with (first
      | (go_at_call 16; (with_reducible refine c1.mono ?_); rintro e w1 ⟨rfl, rfl⟩)
      | (go_at_call 16; (with_reducible refine c2.mono ?_); rintro e w1 ⟨rfl, rfl⟩))
    go_ret
    exact ⟨rfl, rfl⟩
/-- Of two ones. -/
def hr (H : Nat → Nat → Bool) (a b : Int) : Bool := isN a && isN b && H a.toNat b.toNat
theorem hears_any (h : EAt lo w q H l v) (a b : Int) : Calls Try.prog 15 #[.pointer (some ⟨q, 0, none⟩), .int .i64 a, .int .i64 b] w fun e w' => e = .returned (.bool (hr H a b)) ∧ w = w' := by
  unfold hr
  by_cases hn : isN a = true ∧ isN b = true
  · obtain ⟨a, rfl, ha⟩ := isN_of hn.1
    obtain ⟨b, rfl, hb⟩ := isN_of hn.2
    rw [hn.1, hn.2]
    exact hears_two h a b ha hb
  · have e : (isN a && isN b && H a.toNat b.toNat) = false := by
      cases h1 : isN a with
      | false => rfl
      | true => cases h2 : isN b with
        | false => rfl
        | true => exact absurd ⟨h1, h2⟩ hn
    rw [e]
    exact hears_not w q a b hn
/-- One cell turned. -/
def set1 (H : Nat → Nat → Bool) (a b : Nat) (o : Bool) : Nat → Nat → Bool := fun x y => if x = a ∧ y = b then o else H x y
theorem hc_set (H : Nat → Nat → Bool) (v : Value) {a b : Nat} (ha : a < 16) (hb : b < 16) (o : Bool) : (hc H ++ [v]).toArray.setIfInBounds (a * 16 + b) (.bool o) = (hc (set1 H a b o) ++ [v]).toArray := by
  have hlt : a * 16 + b < 256 := by omega
  apply Array.toList_inj.1
  rw [Array.toList_setIfInBounds, List.toList_toArray, List.toList_toArray, List.set_append_left _ _ (by rw [hc_len]; exact hlt)]
  congr 1
  apply List.ext_getElem?
  intro k
  unfold hc
  rw [List.getElem?_set]
  by_cases hk : k < 256
  · rw [List.getElem?_map, List.getElem?_map, List.getElem?_range hk]
    simp only [Option.map_some, List.length_map, List.length_range]
    by_cases e : a * 16 + b = k
    · subst e
      rw [if_pos rfl, if_pos hk]
      unfold set1
      rw [if_pos ⟨by omega, by omega⟩]
    · rw [if_neg e]
      unfold set1
      rw [if_neg (by omega)]
  · rw [if_neg (by omega), List.getElem?_eq_none (by simp; omega), List.getElem?_eq_none (by simp; omega)]
theorem EAt.q_ne (h : EAt lo w q H l v) {k : Nat} {c : Array Value} {t : TypeId} {fr : Nat × Nat} (hk : w.heap[k]? = some (.cells c t fr)) (h1 : t ≠ 29) : k ≠ q := fun e => by
  subst e
  have := h.row
  rw [hk] at this; injection this with this; injection this with _ h3 _
  exact h1 h3
theorem EAt.slset (h : EAt lo w q H l v) (i : Nat) (u : Value) : PSl lo (w.setCell ⟨q, i, none⟩ u) v l := h.sl.keep fun g _ hg hor => by
  refine heap_setCell_other w ⟨q, i, none⟩ g u fun e => ?_
  rcases hor with hor | ⟨cur, hor⟩
  · obtain ⟨_, _, cur, hc⟩ := h.sl.ty hor
    exact h.q_ne hc (by decide) e
  · exact h.q_ne hor (by decide) e
theorem EAt.set (h : EAt lo w q H l v) {a b : Nat} (ha : a < 16) (hb : b < 16) (o : Bool) : EAt lo (w.setCell ⟨q, a * 16 + b, none⟩ (.bool o)) q (set1 H a b o) l v :=
  ⟨by rw [heap_setCell_same w q _ _ 29 _ h.row, hc_set H v ha hb o], h.slset _ _⟩
theorem EF.set (w : World) (q i : Nat) (u v : Value) : EF w (w.setCell ⟨q, i, none⟩ u) q v v :=
  ⟨rfl, rfl, rfl, by simp [World.setCell], fun k _ hq _ => heap_setCell_other w ⟨q, i, none⟩ k u (fun e => hq e), .inl rfl⟩
/-- Two hear each other, or don't any more. -/
def upd (H : Nat → Nat → Bool) (a b : Nat) (o : Bool) : Nat → Nat → Bool := set1 (set1 H a b o) b a o
theorem join_nil (w : World) (a b : Int) (on : Bool) : Calls Try.prog 8 #[.pointer none, .int .i64 a, .int .i64 b, .bool on] w fun e w' => e = .returned (.int .i64 2) ∧ w = w' := by
  go_enter Try.func8, Try.ntmps8
  go_wp2
  go_ret
  exact ⟨rfl, rfl⟩
theorem join_any (h : EAt lo w q H l v) (a b : Nat) (ha : a < 16) (hb : b < 16) (hab : a ≠ b) (on : Bool) : Calls Try.prog 8 #[.pointer (some ⟨q, 0, none⟩), .int .i64 (a : Int), .int .i64 (b : Int), .bool on] w fun e w' => e = .returned (.int .i64 0) ∧ EAt lo w' q (upd H a b on) l v ∧ EF w w' q v v := by
  have c1 := isN_nat ha ▸ node_any (a : Int) w
  have c2 := isN_nat hb ▸ node_any (b : Int) w
  have p1 := h.hears ha hb
  have f1 := h.fz (a * 16 + b)
  have h2 := h.set ha hb on
  have p2 := h2.hears hb ha
  have f2 := h2.fz (b * 16 + a)
  have HR := Lib.hid (And.intro (h2.set hb ha on) ((EF.set w q (a * 16 + b) (.bool on) v).trans (EF.set _ q (b * 16 + a) (.bool on) v)))
  have ha' : (a : Int) < 16 := by omega
  have hb' : (b : Int) < 16 := by omega
  have hne : ¬ (a : Int) = b := by omega
  clear h h2
  go_enter Try.func8, Try.ntmps8
  go_wp2_with (first
    | (go_at_call 16; (with_reducible refine c1.mono ?_); rintro e w1 ⟨rfl, rfl⟩)
    | (go_at_call 16; (with_reducible refine c2.mono ?_); rintro e w1 ⟨rfl, rfl⟩))
  go_ret
  exact ⟨rfl, HR.out⟩
theorem join_not (w : World) (q : Nat) (a b : Int) (on : Bool) (hn : ¬ (isN a = true ∧ isN b = true ∧ a ≠ b)) : Calls Try.prog 8 #[.pointer (some ⟨q, 0, none⟩), .int .i64 a, .int .i64 b, .bool on] w fun e w' => e = .returned (.int .i64 1) ∧ w = w' := by
  have c1 := node_any a w
  have c2 := node_any b w
  cases h1 : isN a with
  | false =>
    rw [h1] at c1
    clear hn c2
    go_enter Try.func8, Try.ntmps8
    go_wp2_with (first
      | (go_at_call 16; (with_reducible refine c1.mono ?_); rintro e w1 ⟨rfl, rfl⟩))
    go_ret
    exact ⟨rfl, rfl⟩
  | true =>
    rw [h1] at c1
    cases h2 : isN b with
    | false =>
      rw [h2] at c2
      clear hn
      go_enter Try.func8, Try.ntmps8
      go_wp2_with (first
        | (go_at_call 16; (with_reducible refine c1.mono ?_); rintro e w1 ⟨rfl, rfl⟩)
        | (go_at_call 16; (with_reducible refine c2.mono ?_); rintro e w1 ⟨rfl, rfl⟩))
      go_ret
      exact ⟨rfl, rfl⟩
    | true =>
      rw [h2] at c2
      obtain rfl : a = b := Decidable.byContradiction fun h => hn ⟨h1, h2, h⟩
      clear hn
      go_enter Try.func8, Try.ntmps8
      go_wp2_with (first
        | (go_at_call 16; (with_reducible refine c1.mono ?_); rintro e w1 ⟨rfl, rfl⟩))
      go_ret
      exact ⟨rfl, rfl⟩
end Go.Proofs.Yteolfclkcgfelaa.Eth

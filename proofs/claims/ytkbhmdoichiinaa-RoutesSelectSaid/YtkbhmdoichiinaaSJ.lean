/- By prefixes: what is selected of each. -/
import Derived.Test.YtkbhmdoichiinaaSI
namespace Go.Proofs.Ytkbhmdoichiinaa.Rts
open Pre Ser
open Go.Proofs.Ytkbhmdoichiinaa.Src (row1 row2)
open Go.ChangeShapes Go.WideShapes Go.ChangeAt Go.RowKit
set_option maxRecDepth 8000
set_option linter.unusedVariables false

open Go.Proofs.Ytkbhmdoichiinaa.Src (Mk SrcAt pA pN fk)
theorem filter_or {α : Type} {p q : α → Bool} : ∀ {l : List α}, l.Pairwise (fun x y => ¬ (q x = true ∧ p y = true)) → (∀ x ∈ l, ¬ (p x = true ∧ q x = true)) → l.filter (fun x => p x || q x) = l.filter p ++ l.filter q
  | [], _, _ => rfl
  | x :: l, h, hd => by
    rw [List.pairwise_cons] at h
    have ih := filter_or h.2 fun y hy => hd y (List.mem_cons_of_mem _ hy)
    by_cases hp : p x = true
    · have hq : q x = false := by
        cases hq : q x with
        | true => exact absurd ⟨hp, hq⟩ (hd x List.mem_cons_self)
        | false => rfl
      simp [hp, hq, ih]
    · have hp : p x = false := by simpa using hp
      cases hq : q x with
      | false => simp [hp, hq, ih]
      | true =>
        have hn : l.filter p = [] := by
          rw [List.filter_eq_nil_iff]
          intro y hy h2
          exact h.1 y hy ⟨hq, h2⟩
        simp [hp, hq, ih, hn]
/-- The best of those before. -/
def stB (f : Mk) (L : List E) (a n b : Nat) : Nat × Ro := (L.filter fun e => ofp a n e && decide (e.b < b)).foldl (stp cfL f) (65535, Ro.zero)
theorem stB_zero (f : Mk) (L : List E) (a n : Nat) : stB f L a n 0 = (65535, Ro.zero) := by
  unfold stB
  have : (L.filter fun e => ofp a n e && decide (e.b < 0)) = [] := by
    rw [List.filter_eq_nil_iff]; intro e he; simp
  rw [this]; rfl
theorem stB_hit {L l : List E} {now : Nat} (h : Inv L l now) (f : Mk) {e : E} (he : e ∈ L) : stB f L e.a e.n (e.b + 1) = stp cfL f (stB f L e.a e.n e.b) e := by
  have h1 : (L.filter fun x => ofp e.a e.n x && decide (x.b = e.b)) = [e] := by
    have hnd : (L.filter fun x => ofp e.a e.n x && decide (x.b = e.b)).Nodup := List.Pairwise.filter _ (h.up.imp fun {x y} hxy he => by rw [he] at hxy; exact absurd hxy (Nat.lt_irrefl _))
    have hall : ∀ x ∈ (L.filter fun x => ofp e.a e.n x && decide (x.b = e.b)), x = e := fun x hx => by
      obtain ⟨hx1, hx2⟩ := List.mem_filter.1 hx
      simp only [Bool.and_eq_true, decide_eq_true_eq, ofp] at hx2
      exact h.one he hx1 hx2.1.1 hx2.1.2 hx2.2
    have hin : e ∈ (L.filter fun x => ofp e.a e.n x && decide (x.b = e.b)) := List.mem_filter.2 ⟨he, by simp [ofp]⟩
    generalize (L.filter fun x => ofp e.a e.n x && decide (x.b = e.b)) = G at hnd hall hin
    match G, hnd, hall, hin with
    | [], _, _, hin => exact absurd hin (by simp)
    | [x], _, hall, _ => rw [hall x List.mem_cons_self]
    | x :: y :: G, hnd, hall, _ =>
      rw [hall x List.mem_cons_self, hall y (by simp)] at hnd
      exact absurd hnd (by simp)
  have h2 : (L.filter fun x => ofp e.a e.n x && decide (x.b < e.b + 1)) = (L.filter fun x => ofp e.a e.n x && decide (x.b < e.b)) ++ [e] := by
    rw [← h1, ← filter_or]
    · apply List.filter_congr
      intro x hx
      rw [Bool.eq_iff_iff]
      simp only [Bool.or_eq_true, Bool.and_eq_true, decide_eq_true_eq]
      constructor
      · rintro ⟨h3, h4⟩
        rcases Nat.lt_or_eq_of_le (Nat.lt_succ_iff.1 h4) with h5 | h5
        · exact Or.inl ⟨h3, h5⟩
        · exact Or.inr ⟨h3, h5⟩
      · rintro (⟨h3, h4⟩ | ⟨h3, h4⟩)
        · exact ⟨h3, by omega⟩
        · exact ⟨h3, by omega⟩
    · refine h.up.imp ?_
      intro x y hxy hh
      simp only [Bool.and_eq_true, decide_eq_true_eq, ofp] at hh
      unfold E.key key at hxy
      rw [hh.1.1.1, hh.1.1.2, hh.2.1.1, hh.2.1.2] at hxy
      omega
    · intro x hx hh
      simp only [Bool.and_eq_true, decide_eq_true_eq] at hh
      omega
  unfold stB
  rw [h2, List.foldl_append]; rfl
theorem stB_miss (f : Mk) {L : List E} {a n b : Nat} (h : ∀ e ∈ L, ¬ (e.a = a ∧ e.n = n ∧ e.b = b)) : stB f L a n (b + 1) = stB f L a n b := by
  unfold stB
  congr 1
  apply List.filter_congr
  intro x hx
  rw [Bool.eq_iff_iff]
  simp only [Bool.and_eq_true, decide_eq_true_eq, ofp]
  constructor
  · rintro ⟨h3, h4⟩
    rcases Nat.lt_or_eq_of_le (Nat.lt_succ_iff.1 h4) with h5 | h5
    · exact ⟨h3, h5⟩
    · exact absurd ⟨h3.1, h3.2, h5⟩ (h x hx)
  · rintro ⟨h3, h4⟩; exact ⟨h3, by omega⟩
theorem stB_all {L l : List E} {now : Nat} (h : Inv L l now) (f : Mk) (a n : Nat) : stB f L a n 8 = short cfL f (L.filter (ofp a n)) := by
  unfold stB short
  congr 1
  apply List.filter_congr
  intro x hx
  rw [decide_eq_true (h.by8 x hx).1, Bool.and_true]
theorem stB_form (f : Mk) (L : List E) (a n b : Nat) : stB f L a n b = (65535, Ro.zero) ∨ ((stB f L a n b).1 < 65535 ∧ (stB f L a n b).2.m = (stB f L a n b).1) := by
  rcases fold_le (cf := cfL) (f := f) (L.filter fun e => ofp a n e && decide (e.b < b)) (65535, Ro.zero) with h1 | ⟨h1, e, he, h2, h3⟩
  · exact Or.inl h1
  · refine Or.inr ⟨h1, ?_⟩
    unfold stB
    rw [h2]; rfl
theorem cfL_le (k : Nat) : cfL k ≤ 65535 := by
  by_cases h7 : k < 7
  · have h : k = 0 ∨ k = 1 ∨ k = 2 ∨ k = 3 ∨ k = 4 ∨ k = 5 ∨ k = 6 := by omega
    rcases h with rfl | rfl | rfl | rfl | rfl | rfl | rfl <;> decide
  · unfold cfL
    rw [List.getD_eq_getElem?_getD, List.getElem?_eq_none (by simp; omega)]
    decide
theorem stp_no {f : Mk} {x : Nat × Ro} {e : E} (h : ¬ (e.m + cfL e.b < x.1 ∧ feasE f e = true)) : stp cfL f x e = x := by unfold stp; rw [if_neg h]
theorem stp_yes {f : Mk} {x : Nat × Ro} {e : E} (h : e.m + cfL e.b < x.1) (hf : feasE f e = true) : stp cfL f x e = (e.m + cfL e.b, ⟨e.a, e.n, e.b, e.m + cfL e.b, e.s⟩) := by unfold stp; rw [if_pos ⟨h, hf⟩]
theorem SelOK.is {f : Mk} {L l : List E} {now : Nat} {rs : List Ro} (h : Inv L l now) (hs : SelOK cfL f L rs) {r : Ro} (hr : r ∈ rs) : (stB f L r.a r.n 8).1 < 65535 ∧ (stB f L r.a r.n 8).2 = r := by
  have := (hs.mem r).1 hr
  unfold selP at this
  rw [← stB_all h] at this
  split at this
  · rename_i h1; exact ⟨h1, Option.some.inj this⟩
  · cases this
theorem SelOK.not {f : Mk} {L l : List E} {now : Nat} {rs : List Ro} (h : Inv L l now) (hs : SelOK cfL f L rs) {a n : Nat} (hn : ∀ r ∈ rs, ¬ (r.a = a ∧ r.n = n)) : ¬ (stB f L a n 8).1 < 65535 := fun hlt => by
  have h1 : selP cfL f L a n = some (stB f L a n 8).2 := by unfold selP; rw [← stB_all h, if_pos hlt]
  obtain ⟨e, he, ha, hn2, hr, -⟩ := sel_from h1
  have ha2 : (stB f L a n 8).2.a = a := by rw [hr]; exact ha
  have hn3 : (stB f L a n 8).2.n = n := by rw [hr]; exact hn2
  exact hn _ ((hs.mem _).2 (by rw [ha2, hn3]; exact h1)) ⟨ha2, hn3⟩
theorem SelOK.count {f : Mk} {L l : List E} {now : Nat} {rs : List Ro} (h : Inv L l now) (hs : SelOK cfL f L rs) : cntB (rs.map fun r => (r.a, r.n)) 18 = rs.length := by
  have := cntB_all (bs := rs.map fun r => (r.a, r.n)) (by
    rw [List.Nodup, List.pairwise_map]
    refine hs.up.imp ?_
    intro x y hxy he
    injection he with e1 e2
    unfold Ro.pk at hxy
    rw [e1, e2] at hxy
    omega) (fun p hp => by
    obtain ⟨r, hr, rfl⟩ := List.mem_map.1 hp
    obtain ⟨e, he, ha, hn, -⟩ := sel_from ((hs.mem r).1 hr)
    obtain ⟨-, k, h5, h6⟩ := h.by8 e he
    exact ⟨k, by rw [← h5, ← h6, ha, hn]⟩)
  rw [this, List.length_map]
theorem SelOK.ahead {f : Mk} {L l : List E} {now : Nat} {rs : List Ro} (h : Inv L l now) (hs : SelOK cfL f L rs) {i : Nat} (hi : i + 1 < rs.length) : (decide (rs[i].a < rs[i + 1].a) || (rs[i].a == rs[i + 1].a && decide (rs[i].n < rs[i + 1].n))) = true := by
  have h1 := List.pairwise_iff_getElem.1 hs.up i (i + 1) (by omega) hi (by omega)
  have hb : ∀ j (hj : j < rs.length), rs[j].n < 256 := fun j hj => by
    obtain ⟨e, he, -, hn, -⟩ := sel_from ((hs.mem _).1 (List.getElem_mem hj))
    rw [← hn]; exact (h.ok e he).n
  have h2 := hb i (by omega)
  have h3 := hb (i + 1) hi
  unfold Ro.pk at h1
  simp only [Bool.or_eq_true, Bool.and_eq_true, decide_eq_true_eq, beq_iff_eq]
  omega
/-- Where among the first it is: the last of them. -/
def InAt (rs : List Ro) (a n j : Nat) (v : Int) : Prop := (v = -1 ∧ ∀ i (h : i < rs.length), i < j → ¬ (rs[i].a = a ∧ rs[i].n = n)) ∨ ∃ i, ∃ h : i < rs.length, v = (i : Int) ∧ rs[i].a = a ∧ rs[i].n = n
theorem InAt.zero (rs : List Ro) (a n : Nat) : InAt rs a n 0 (-1) := Or.inl ⟨rfl, fun i h h2 => absurd h2 (Nat.not_lt_zero _)⟩
theorem InAt.hit {rs : List Ro} {a n j : Nat} (hj : j < rs.length) (h : rs[j].a = a ∧ rs[j].n = n) : InAt rs a n (j + 1) (j : Int) := Or.inr ⟨j, hj, rfl, h⟩
theorem InAt.miss {rs : List Ro} {a n j : Nat} {v : Int} (hi : InAt rs a n j v) (hj : j < rs.length) (h : ¬ (rs[j].a = a ∧ rs[j].n = n)) : InAt rs a n (j + 1) v := by
  rcases hi with ⟨h1, h2⟩ | h1
  · refine Or.inl ⟨h1, fun i hi h3 => ?_⟩
    rcases Nat.lt_or_eq_of_le (Nat.lt_succ_iff.1 h3) with h5 | h5
    · exact h2 i hi h5
    · subst h5; exact h
  · exact Or.inr h1
/-- The boxes of one prefix's round. -/
structure SelW (w6 W : World) (wb pb a n : Nat) (r : Ro) : Prop where
  b : Below w6.heap.size w6 W
  h : w6.heap.size ≤ wb
  ne : pb ≠ wb
  x : W.heap[wb]? = some (.cells #[.int .u32 (r.a : Int), .int .u8 (r.n : Int), .int .i64 (r.v : Int), .int .u16 (r.m : Int), .int .u16 (r.s : Int)] 53 (0, 0))
  p : W.heap[pb]? = some (.cells #[.int .u32 (a : Int), .int .u8 (n : Int)] 39 (0, 0))
theorem SelW.step {w6 W W' : World} {wb pb a n : Nat} {r : Ro} (h : SelW w6 W wb pb a n r) (B : Below W.heap.size W W') : SelW w6 W' wb pb a n r := ⟨h.b.trans (B.mono h.b.size), h.h, h.ne, brow B h.x, brow B h.p⟩
theorem SelW.set {w6 W : World} {wb pb a n : Nat} {r : Ro} (h : SelW w6 W wb pb a n r) (r' : Ro) : SelW w6 (((((W.setCell ⟨wb, 0, none⟩ (.int .u32 (r'.a : Int))).setCell ⟨wb, 1, none⟩ (.int .u8 (r'.n : Int))).setCell ⟨wb, 2, none⟩ (.int .i64 (r'.v : Int))).setCell ⟨wb, 3, none⟩ (.int .u16 (r'.m : Int))).setCell ⟨wb, 4, none⟩ (.int .u16 (r'.s : Int))) wb pb a n r' := by
  have hg := grown5 W wb (.int .u32 (r'.a : Int)) (.int .u8 (r'.n : Int)) (.int .i64 (r'.v : Int)) (.int .u16 (r'.m : Int)) (.int .u16 (r'.s : Int))
  refine ⟨h.b.grown hg h.b.size (fun k e => ?_), h.h, h.ne, set5 h.x _ _ _ _ _, (hg.block _ (Array.getElem?_eq_some_iff.1 h.p).1 (fun e => h.ne (Option.some.inj e))).trans h.p⟩
  have := Option.some.inj e
  have := h.h
  omega
end Go.Proofs.Ytkbhmdoichiinaa.Rts

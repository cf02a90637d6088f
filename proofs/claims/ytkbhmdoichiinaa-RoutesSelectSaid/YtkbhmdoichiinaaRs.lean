/- Appends of what is told, run at once. -/
import Derived.Test.YtkbhmdoichiinaaRr
import Derived.Laws.AppendOwnNone
import Derived.Lib.AppendZeros
namespace Go.Proofs.Ytkbhmdoichiinaa.Rts
open Pre Ser
open Go.Proofs.Ytkbhmdoichiinaa.Src (row1 row2)
open Go.ChangeShapes Go.WideShapes Go.ChangeAt Go.RowKit
set_option maxRecDepth 8000
set_option linter.unusedVariables false

theorem flat_cells {w : World} {b o : Nat} {l : List E} (h : ESl w (some ⟨b, o, none⟩) l) : ∀ j u, (l.flatMap E.cl)[j]? = some u → w.cell? ⟨b, o + j, none⟩ = some u := fun j u hj => by
  have hl := (List.getElem?_eq_some_iff.1 hj).1
  rw [rflat_len] at hl
  obtain ⟨k, i, rfl, hi⟩ : ∃ k i, j = k * 7 + i ∧ i < 7 := ⟨j / 7, j % 7, by omega, by omega⟩
  have hk : k < l.length := by omega
  rw [rflat_at l k i hk hi] at hj
  obtain ⟨b', o', e, -, hE⟩ := h k hk
  injection e with e; injection e with e1 e2 _
  subst e1 e2
  obtain ⟨k0, k1, k2, k3, k4, k5, k6⟩ := hE
  have hi : i = 0 ∨ i = 1 ∨ i = 2 ∨ i = 3 ∨ i = 4 ∨ i = 5 ∨ i = 6 := by omega
  rw [← Nat.add_assoc]
  rcases hi with rfl | rfl | rfl | rfl | rfl | rfl | rfl <;> (have hj := Option.some.inj hj; subst hj; assumption)
theorem app_nil_run (w : World) (A : Option Addr) (n c : Nat) (l : List E) (hn : n = l.length) (hsl : ESl w A l) (hA : A = none → c = 0) (hlen : n ≤ 1000) :
    ∃ v' w', (Builtin.append_ #[26, 26] 26 #[.slice none 0 0, .slice A n c]).run Try.prog w = .ok v' w' ∧ EOwn w' w.heap.size v' l ∧ Below w.heap.size w w' := by
  obtain ⟨i0, hi0, hz0, hz1, hz2⟩ := info_parts info43
  rcases A with _ | a
  · obtain rfl := hA rfl
    have hl : l = [] := by
      rcases l with _ | ⟨e, l⟩
      · rfl
      · obtain ⟨b, o, e, -⟩ := hsl 0 (by simp)
        cases e
    subst hl
    subst hn
    exact ⟨_, _, run_append_owned_none (P := Try.prog) (w := w) w.heap.size 26 26 43 i0 7 Try.underlying26 hi0 (.slice none 0 0) 0 [] (World.ownsRow_nil w w.heap.size 43 7), EOwn.nil _ _, Below.refl _ _⟩
  · have hnews : ∀ j u, (l.flatMap E.cl)[j]? = some u → w.cell? (a.add j) = some u := fun j u hj => by
      rcases l with _ | ⟨e, l⟩
      · simp at hj
      · obtain ⟨b, o, e2, -⟩ := hsl 0 (by simp)
        injection e2 with e2
        subst e2
        rw [Addr.add_lit]; exact flat_cells hsl j u hj
    obtain ⟨v', w', hrun, h1, h2, -, h4⟩ := run_append_own_at (P := Try.prog) w w.heap.size 26 26 43 i0 _ 7 40 Try.underlying26 hi0 hz0 hz1 hz2 rfl (by decide) (.slice none 0 0) 0 [] (World.ownsRow_nil w w.heap.size 43 7) a n c (l.flatMap E.cl) (by rw [rflat_len, hn]) hnews (rcl_one l) (by unfold maxLen; omega) (by omega) (Nat.le_refl _)
    refine ⟨v', w', hrun, ?_, Fr.below (X := fun _ => False) (Fr.grown h2 (fun k e => by cases e)) (Nat.le_refl _) (fun _ h => h.elim)⟩
    unfold EOwn
    rw [← hn]
    simpa using h1
theorem app_one_run (w : World) (B : Nat) (v : Value) (l : List E) (e : E) (b : Nat) (hown : EOwn w B v l) (hc : ∀ j u, (E.cl e)[j]? = some u → w.cell? ((⟨b, 0, none⟩ : Addr).add j) = some u) (hlen : l.length ≤ 1000) (hB : B ≤ w.heap.size) :
    ∃ v' w', (Builtin.append_ #[26, 26] 26 #[v, .slice (some ⟨b, 0, none⟩) 1 1]).run Try.prog w = .ok v' w' ∧ EOwn w' B v' (l ++ [e]) ∧ w.grownBy w' v.ownBlock := by
  obtain ⟨i0, hi0, hz0, hz1, hz2⟩ := info_parts info43
  obtain ⟨v', w', hrun, h1, h2, -⟩ := run_append_own_at (P := Try.prog) w B 26 26 43 i0 _ 7 40 Try.underlying26 hi0 hz0 hz1 hz2 rfl (by decide) v l.length (l.flatMap E.cl) hown ⟨b, 0, none⟩ 1 1 (E.cl e) rfl hc (rcl_one1 e) (by unfold maxLen; omega) (by omega) hB
  exact ⟨v', w', hrun, own_app h1, h2⟩
end Go.Proofs.Ytkbhmdoichiinaa.Rts

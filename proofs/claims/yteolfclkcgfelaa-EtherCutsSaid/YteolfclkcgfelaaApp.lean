/- 'append' of bytes to a row of the call's own, the source nil or not. -/
import Derived.Test.YteolfclkcgfelaaMem
import Derived.Laws.AppendOwnNone
namespace Go.Proofs.Yteolfclkcgfelaa.Coin
open Go.ChangeShapes Go.WideShapes Go.ChangeAt Go.RowKit
set_option maxRecDepth 4000

def Own (w : World) (B : Nat) (v : Value) (l : List UInt8) : Prop := w.ownsRow B 5 1 v l.length (l.map b8)
theorem Own.nil (w : World) (B : Nat) : Own w B (.slice none 0 0) [] := World.ownsRow_nil w B 5 1
theorem Own.lt {w : World} {B : Nat} {v : Value} {l : List UInt8} (h : Own w B v l) : ∀ k, v.ownBlock = some k → B ≤ k ∧ k < w.heap.size := World.ownsRow.lt h
theorem Own.form {w : World} {B : Nat} {v : Value} {l : List UInt8} (h : Own w B v l) : ∃ A c, v = .slice A l.length c ∧ Rd w w.heap.size A l ∧ l.length ≤ c ∧ (A = none → c = 0) := by
  have hh := h
  obtain ⟨_, ⟨rfl, h0⟩ | ⟨g, cap, cur, rfl, _, hg, hle, _, _, _⟩⟩ := h
  · rw [List.eq_nil_of_length_eq_zero h0]
    exact ⟨none, 0, rfl, Rd.nil _ _ _, Nat.le_refl _, fun _ => rfl⟩
  · refine ⟨_, cap, rfl, fun h0 => ⟨_, rfl, ?_, fun j hj => ?_⟩, hle, fun h => by cases h⟩
    · rcases Nat.lt_or_ge g w.heap.size with h | h
      · exact h
      · rw [Array.getElem?_eq_none h] at hg; cases hg
    · rw [zero_add', World.ownsRow.cellAt hh j (by omega)]; simp [hj]
theorem Own.kept {w w' : World} {B : Nat} {v : Value} {l : List UInt8} (h : Own w B v l) (hb : Below w.heap.size w w') : Own w' B v l :=
  World.ownsRow.kept (row := none) h ⟨hb.os, hb.tape, hb.output, hb.size, fun k hk _ => hb.block k hk⟩ (by cases v.ownBlock <;> simp)
theorem Own.lit (w : World) (B : Nat) (l : List UInt8) (hB : B ≤ w.heap.size) (hl : l.length ≤ 1000000) : Own (w.alloc (.cells (l.map b8).toArray 5)) B (.slice (some ⟨w.heap.size, 0, none⟩) l.length l.length) l := by
  have := World.ownsRow_lit (e := 5) (size := 1) w (l.map b8).toArray l.length hB (by unfold maxLen; omega) (by simp)
  simpa [Own] using this
theorem Row.lit (w : World) (l : List UInt8) : Row (w.alloc (.cells (l.map b8).toArray 5)) w.heap.size l := heap_alloc_new w _

theorem app_any {w : World} {ops : Array Oper} {rest : List Oper} {o : Oper} {a : Act} {Q : Exit → Act → World → Prop} (hgd : o.guard = none) (s x : Operand)
    (ho : o.op = .call { callee := .builtin .append, args := #[s, x], argTypes := #[37, 37] }) (B : Nat) (v : Value) (l r : List UInt8) (A : Option Addr) (m c Bx : Nat)
    (hs : a.eval s = v) (hx : a.eval x = .slice A m c) (hown : Own w B v l) (hr : Rd w Bx A r) (hm : m = r.length) (hA : A = none → c = 0) (hlen : l.length + r.length ≤ 1000000) (hB : B ≤ w.heap.size) (B0 : Nat) (w0 : World) (hb : Below B0 w0 w) (hB0 : B0 ≤ B)
    (h : ∀ v' w', Own w' B v' (l ++ r) → Below B0 w0 w' → w.grownBy w' v.ownBlock → wpList Try.prog ops Q rest (a.put o.dst v') w') : wpList Try.prog ops Q (o :: rest) a w := by
  obtain ⟨i0, hi, hz0, hz1, hz2⟩ := info_parts info5
  subst hm
  rcases A with _ | ad
  · have h0 : r = [] := by
      rcases r with _ | ⟨b, r⟩
      · rfl
      · obtain ⟨ad, h, _⟩ := hr (by simp); cases h
    subst h0
    obtain rfl := hA rfl
    exact wpList_append_own_none hgd s x 37 ho B 5 i0 1 Try.underlying37 hi v l.length (l.map b8) hs hown hx (h v w (by simpa using hown) hb (World.grownBy.refl w _))
  · have hc : ∀ j u, (r.map b8)[j]? = some u → w.cell? (ad.add j) = some u := by
      intro j u hj
      by_cases h0 : 0 < r.length
      · obtain ⟨ad', e, h⟩ := hr.src h0
        injection e with e
        subst e
        exact h j u hj
      · obtain rfl : r = [] := List.eq_nil_of_length_eq_zero (by omega)
        simp at hj
    refine wpList_append_own w hgd s x 37 ho B 5 i0 (.int .u8 0) 1 1 Try.underlying37 hi hz0 hz1 hz2 rfl (by decide) v l.length (l.map b8) hs hown ad r.length c (r.map b8) hx (by simp) hc (one_b8 r) (by unfold maxLen; omega) (by omega) hB ?_
    intro v' w' h1 h2 _
    refine h v' w' ?_ (hb.grown h2 (Nat.le_trans hB0 hB) fun k hk => Nat.le_trans hB0 (hown.lt k hk).1) h2
    simpa [Own] using h1
end Go.Proofs.Yteolfclkcgfelaa.Coin

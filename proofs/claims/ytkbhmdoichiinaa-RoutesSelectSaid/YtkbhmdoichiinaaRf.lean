/- A row in its place: written over, or put in; the search; what is kept. -/
import Derived.Test.YtkbhmdoichiinaaRe
namespace Go.Proofs.Ytkbhmdoichiinaa.Rts
open Pre Ser
open Go.Proofs.Ytkbhmdoichiinaa.Src (row1 row2)
open Go.ChangeShapes Go.WideShapes Go.ChangeAt Go.RowKit
set_option maxRecDepth 8000

theorem grown_setCell (w : World) (q i : Nat) (v : Value) : w.grownBy (w.setCell ⟨q, i, none⟩ v) (some q) :=
  ⟨rfl, rfl, rfl, ((Below.refl 0 w).setCell (p := ⟨q, i, none⟩) (Nat.zero_le _) v).size, fun k _ hne => Below.heap_setCell w ⟨q, i, none⟩ v k (fun e => hne (by rw [e]))⟩
theorem splice_set {α : Type} (L : List α) (o : Nat) (x : α) (xs : List α) (h : o < L.length) : splice (L.set o x) (o + 1) xs = splice L o (x :: xs) := by
  unfold splice
  have e1 : (L.set o x).take (o + 1) = L.take o ++ [x] := by
    rw [List.take_add_one, List.take_set_of_le (Nat.le_refl _)]
    simp [h]
  rw [e1, List.drop_set_of_lt (by omega)]
  simp [Nat.add_assoc, Nat.add_comm 1]
theorem splice_none {α : Type} (L : List α) (o : Nat) : splice L o [] = L := by simp [splice]
theorem splice_in {α : Type} (X Y0 Y D L : List α) (hY : Y0.length = Y.length) (hL : L.take (X.length + Y.length + D.length) = X ++ Y0 ++ D) : (splice L X.length Y).take (X.length + Y.length + D.length) = X ++ Y ++ D := by
  obtain ⟨L', rfl⟩ : ∃ L', L = X ++ (Y0 ++ (D ++ L')) := ⟨L.drop (X.length + Y.length + D.length), by rw [← List.append_assoc, ← List.append_assoc, ← hL, List.take_append_drop]⟩
  unfold splice
  rw [List.take_left' rfl, ← List.append_assoc X Y0, List.drop_left' (by rw [List.length_append, hY]), ← List.append_assoc X, ← List.append_assoc, List.take_left' (by simp only [List.length_append])]
theorem set_list {w : World} {b : Nat} {t : TypeId} {L : List Value} (h : w.heap[b]? = some (.cells L.toArray t (0, 0))) (i : Nat) (v : Value) : (w.setCell ⟨b, i, none⟩ v).heap[b]? = some (.cells (L.set i v).toArray t (0, 0)) := by
  rw [heap_setCell_same w b i _ t v h]
  congr 2
  simp
theorem slice_inj {a b o p n m c d : Nat} (h : Value.slice (some ⟨a, o, none⟩) n c = .slice (some ⟨b, p, none⟩) m d) : a = b ∧ o = p ∧ n = m ∧ c = d := by
  injection h with h1 h2 h3; injection h1 with h1; injection h1 with h1 h4
  exact ⟨h1, h4, h2, h3⟩
theorem splice7 {α : Type} (L : List α) (o : Nat) (h : o + 7 ≤ L.length) (y0 y1 y2 y3 y4 y5 y6 : α) :
    splice L o [y0, y1, y2, y3, y4, y5, y6] = ((((((L.set o y0).set (o + 1) y1).set (o + 2) y2).set (o + 3) y3).set (o + 4) y4).set (o + 5) y5).set (o + 6) y6 := by
  rw [← splice_set L o y0 _ (by omega), ← splice_set _ (o + 1) y1 _ (by simp only [List.length_set]; omega), ← splice_set _ (o + 2) y2 _ (by simp only [List.length_set]; omega), ← splice_set _ (o + 3) y3 _ (by simp only [List.length_set]; omega), ← splice_set _ (o + 4) y4 _ (by simp only [List.length_set]; omega), ← splice_set _ (o + 5) y5 _ (by simp only [List.length_set]; omega), ← splice_set _ (o + 6) y6 _ (by simp only [List.length_set]; omega), splice_none]
theorem put7 {w : World} {b o : Nat} {t : TypeId} {L : List Value} (h : w.heap[b]? = some (.cells L.toArray t (0, 0))) (hl : o + 7 ≤ L.length) (y0 y1 y2 y3 y4 y5 y6 : Value) :
    (((((((w.setCell ⟨b, o, none⟩ y0).setCell ⟨b, o + 1, none⟩ y1).setCell ⟨b, o + 2, none⟩ y2).setCell ⟨b, o + 3, none⟩ y3).setCell ⟨b, o + 4, none⟩ y4).setCell ⟨b, o + 5, none⟩ y5).setCell ⟨b, o + 6, none⟩ y6).heap[b]? = some (.cells (splice L o [y0, y1, y2, y3, y4, y5, y6]).toArray t (0, 0)) := by
  rw [splice7 L o hl]
  exact (set_list (set_list (set_list (set_list (set_list (set_list (set_list h o y0) (o + 1) y1) (o + 2) y2) (o + 3) y3) (o + 4) y4) (o + 5) y5) (o + 6) y6)
theorem grown7 (w : World) (b o : Nat) (y0 y1 y2 y3 y4 y5 y6 : Value) :
    w.grownBy (((((((w.setCell ⟨b, o, none⟩ y0).setCell ⟨b, o + 1, none⟩ y1).setCell ⟨b, o + 2, none⟩ y2).setCell ⟨b, o + 3, none⟩ y3).setCell ⟨b, o + 4, none⟩ y4).setCell ⟨b, o + 5, none⟩ y5).setCell ⟨b, o + 6, none⟩ y6) (some b) :=
  (((((((Rts.grown_setCell w b o y0).trans (Rts.grown_setCell _ b (o + 1) y1)).trans (Rts.grown_setCell _ b (o + 2) y2)).trans (Rts.grown_setCell _ b (o + 3) y3)).trans (Rts.grown_setCell _ b (o + 4) y4)).trans (Rts.grown_setCell _ b (o + 5) y5)).trans (Rts.grown_setCell _ b (o + 6) y6))
theorem EOwn.put {w : World} {B g0 n cp : Nat} {rs : List E} (h : EOwn w B (.slice (some ⟨g0, 0, none⟩) n cp) rs) {k : Nat} (hk : k < rs.length) (r : E) {y0 y1 y2 y3 y4 y5 y6 : Value} (hr : r.cl = [y0, y1, y2, y3, y4, y5, y6]) :
    EOwn (((((((w.setCell ⟨g0, k * 7, none⟩ y0).setCell ⟨g0, k * 7 + 1, none⟩ y1).setCell ⟨g0, k * 7 + 2, none⟩ y2).setCell ⟨g0, k * 7 + 3, none⟩ y3).setCell ⟨g0, k * 7 + 4, none⟩ y4).setCell ⟨g0, k * 7 + 5, none⟩ y5).setCell ⟨g0, k * 7 + 6, none⟩ y6) B (.slice (some ⟨g0, 0, none⟩) n cp) (rs.set k r) := by
  rcases h.2 with ⟨hv, _⟩ | ⟨g, cap, cur, hv, hB, hg, h1, h2, h3, h4⟩
  · cases hv
  · obtain ⟨e1, _, e2, e3⟩ := slice_inj hv
    clear hv
    subst e1 e2 e3
    have hg' : w.heap[g0]? = some (.cells cur.toList.toArray 43 (0, 0)) := hg
    have hfit : k * 7 + 7 ≤ cur.toList.length := by rw [Array.length_toList, h3]; omega
    have h10 := put7 hg' hfit y0 y1 y2 y3 y4 y5 y6
    have hls : (splice cur.toList (k * 7) [y0, y1, y2, y3, y4, y5, y6]).length = cp * 7 := by
      rw [← hr, length_splice _ _ _ (by rw [rcl_len]; exact hfit), Array.length_toList, h3]
    clear hg hg'
    generalize ((((((w.setCell _ _).setCell _ _).setCell _ _).setCell _ _).setCell _ _).setCell _ _).setCell _ _ = w9 at h10 ⊢
    rw [← hr] at h10 hls
    refine ⟨by rw [rflat_len], .inr ⟨g0, cp, _, by rw [List.length_set], hB, h10, by rw [List.length_set]; exact h1, h2, by rw [List.size_toArray, hls], ?_⟩⟩
    · have hX : ((rs.take k).flatMap E.cl).length = k * 7 := by rw [rflat_len, List.length_take]; omega
      have hD : ((rs.drop (k + 1)).flatMap E.cl).length = (rs.length - (k + 1)) * 7 := by rw [rflat_len, List.length_drop]
      have hs : rs.set k r = rs.take k ++ r :: rs.drop (k + 1) := List.set_eq_take_append_cons_drop .. |>.trans (by rw [if_pos hk])
      have ho : rs.flatMap E.cl = (rs.take k).flatMap E.cl ++ rs[k].cl ++ (rs.drop (k + 1)).flatMap E.cl := by
        conv => lhs; rw [← List.take_append_drop k rs, List.drop_eq_getElem_cons hk]
        simp only [List.flatMap_append, List.flatMap_cons, List.append_assoc]
      have := splice_in ((rs.take k).flatMap E.cl) rs[k].cl r.cl ((rs.drop (k + 1)).flatMap E.cl) cur.toList rfl (by rw [hX, hD, rcl_len, ← ho, ← h4]; congr 1; omega)
      rw [hX, hD, rcl_len] at this
      rw [hs, List.flatMap_append, List.flatMap_cons, ← List.append_assoc, ← this]
      simp only [List.length_append, List.length_cons, List.length_take, List.length_drop]
      congr 1
      omega
theorem ins_any (w : World) (B : Nat) (v : Value) (rs : List E) (r : E) (i vb : Nat) (hown : EOwn w B v rs) (hvb : w.heap[vb]? = some (.cells r.cl.toArray 43 (0, 0))) (hne : v.ownBlock ≠ some vb) (hi : i ≤ rs.length) (hlen : rs.length ≤ 1000) (hB : B ≤ w.heap.size) :
    Calls Try.prog 67 #[v, .int .i64 (i : Int), .slice (some ⟨vb, 0, none⟩) 1 1] w (InsSaid w B v (rs.take i ++ r :: rs.drop i)) := by
  rcases Nat.lt_or_eq_of_le hi with h | h
  · rcases hown.2 with ⟨_, h0⟩ | ⟨g, cap, cur, rfl, hBg, hg, h1, h2, h3, h4⟩
    · have : rs.length = 0 := h0; omega
    · have hg' : w.heap[g]? = some (.cells cur.toList.toArray 43 (0, 0)) := hg
      by_cases hroom : rs.length + 1 ≤ cap
      · exact ins_room w B g cap i cur.toList rs r vb hg' hBg h2 (by simpa using h3) h4 hvb (fun e => hne (by rw [e]; rfl)) h hlen hroom
      · exact ins_grow w B g cap i cur.toList rs r vb hg' hB h4 hvb h hlen h1 (by omega)
  · subst h
    rw [List.take_length, List.drop_length]
    exact ins_end w B v rs r vb hown hvb hlen hB
end Go.Proofs.Ytkbhmdoichiinaa.Rts

/- How what was done to names becomes safe: settle. -/
import Derived.Test.YtkalgonkaoiapaaShb
import Derived.Test.YtkalgonkaoiapaaShc
import Derived.Deep.RegionWith
namespace Go.Proofs.Ytkalgonkaoiapaa.Shf
open Go.ChangeShapes Go.WideShapes Go.ChangeAt Go.RowKit

theorem ages_succ (l : List (S × Nat)) (v : List Mv) (k : Nat) (h : k < v.length) : ages l (v.take (k + 1)) = v[k].on (ages l (v.take k)) := by
  unfold ages
  rw [List.take_add_one, List.getElem?_eq_getElem h, List.foldl_append]
  rfl
theorem mv_cell {w : World} {mv : Value} {l : List Mv} (h : MvAt w mv l) (k : Nat) (hk : k < l.length) : ∃ g cap, mv = .slice (some ⟨g, 0, none⟩) l.length cap ∧ l.length ≤ cap ∧
    w.cell? ⟨g, k * 3, none⟩ = some (.string (str l[k].fr)) ∧ w.cell? ⟨g, k * 3 + 1, none⟩ = some (.string (str l[k].to)) ∧ w.cell? ⟨g, k * 3 + 2, none⟩ = some (ptrV l[k].f) := by
  obtain ⟨h1, h2⟩ := id h
  have hx : ∀ i, i < 3 → (l.flatMap mvC)[k * 3 + i]? = (mvC l[k])[i]? := by
    intro i hi
    clear h h1 h2
    induction l generalizing k with
    | nil => simp at hk
    | cons v l ih =>
      cases k with
      | zero => simp [List.getElem?_append_left, show i < (mvC v).length by simp [mvC]; omega]
      | succ k =>
        simp only [List.flatMap_cons, List.getElem_cons_succ]
        rw [List.getElem?_append_right (by simp [mvC]; omega), show (k + 1) * 3 + i - (mvC v).length = k * 3 + i by simp [mvC]; omega]
        exact ih k (by simpa using hk)
  rcases h2 with ⟨_, h0⟩ | ⟨g, cap, cur, rfl, hb, hg, hn, hm, hs, ht⟩
  · omega
  · refine ⟨g, cap, rfl, hn, ?_⟩
    have hc : ∀ i, i < 3 → w.cell? ⟨g, k * 3 + i, none⟩ = (mvC l[k])[i]? := by
      intro i hi
      rw [cell_of_row w g _ _ 67 (0, 0) hg, ← hx i hi, ← ht, List.getElem?_take_of_lt (by omega)]
      simp
    exact ⟨hc 0 (by omega), hc 1 (by omega), hc 2 (by omega)⟩
/-- Behind k rounds. -/
def Stl (w wr : World) (q : Nat) (m : M) (nv sv mv : Value) (ns k : Nat) : Prop := ∃ sv', ShAt wr q {m with safe := ages m.safe (m.moves.take k)} nv sv' mv ∧ NMv wr sv' (ns + k) (ages m.safe (m.moves.take k)) ∧ MvAt wr mv m.moves ∧
  (∀ b, mapBlock sv' = some b → mapBlock sv = some b ∨ w.heap.size ≤ b) ∧ Chg w wr (fun k => k = q ∨ mapBlock sv = some k)
theorem stl_step (w wr V w1 : World) (q : Nat) (m : M) (nv sv : Value) (mb : Option Nat) (mv : Value) (ns k nb : Nat) (hk : k < m.moves.length) (S1 : ShAt wr q {m with safe := ages m.safe (m.moves.take k)} nv (.map mb) mv) (S3 : MvAt wr mv m.moves)
    (S4 : ∀ b, mapBlock (.map mb) = some b → mapBlock sv = some b ∨ w.heap.size ≤ b) (S5 : Chg w wr (fun k => k = q ∨ mapBlock sv = some k)) (hV : Chg wr V (fun _ => False)) (hq1 : mapBlock sv ≠ some q) (hq2 : mv.ownBlock ≠ some q) (hq3 : ∀ b, mapBlock sv = some b → mv.ownBlock ≠ some b) (hqw : q < w.heap.size) (hmw : ∀ b, mv.ownBlock = some b → b < w.heap.size)
    (N1 : NM w1 nb (ns + k + 1) (m.moves[k].on (ages m.safe (m.moves.take k)))) (G1 : V.drew.grownBy w1 (mapBlock (.map mb))) (P1 : mapBlock (.map mb) = some nb ∨ V.drew.heap.size ≤ nb) :
    Stl w (w1.setCell ⟨q, 2, none⟩ (.map (some nb))) q m nv sv mv ns (k + 1) := by
  have hVs : wr.heap.size ≤ V.heap.size := hV.size
  have hws := S5.size
  have hmq : mapBlock (.map mb) ≠ some q := by
    intro e
    rcases S4 q e with h | h
    · exact hq1 h
    · omega
  have hmm : ∀ b, mapBlock (.map mb) = some b → mv.ownBlock ≠ some b := by
    intro b e
    rcases S4 b e with h | h
    · exact hq3 b h
    · intro e2; have := hmw b e2; omega
  have C1 : Chg wr w1 (fun k => mapBlock (.map mb) = some k) := (hV.wide (fun _ _ h => h.elim)).trans ⟨G1.os, G1.tape, G1.output, G1.size, fun k hk hn => G1.block k hk (fun e => hn e.symm)⟩
  have hP : mapBlock (.map mb) = some nb ∨ wr.heap.size ≤ nb := P1.imp id (fun h => Nat.le_trans hVs h)
  have hnq : nb ≠ q := by
    rcases hP with h | h
    · intro e; subst e; exact hmq h
    · omega
  have C2 : Chg wr (w1.setCell ⟨q, 2, none⟩ (.map (some nb))) (fun k => k = q ∨ mapBlock (.map mb) = some k) := (C1.wide (fun _ _ h => Or.inr h)).andThen (chg_set w1 q 2 _) (fun _ _ h => Or.inl h)
  refine ⟨.map (some nb), ?_, ?_, ?_, ?_, ?_⟩
  · exact (S1.at C1 hmq).set 2 _ rfl
  · refine Or.inr ⟨nb, rfl, ?_⟩
    rw [ages_succ _ _ _ hk]
    exact N1.at (heap_setCell_other w1 ⟨q, 2, none⟩ nb _ hnq)
  · exact S3.at C2 (fun b hb h => by
      rcases h with h | h
      · exact hq2 (by rw [hb, h])
      · exact hmm b h hb)
  · intro b hb
    obtain rfl : nb = b := by simpa [mapBlock] using hb
    rcases hP with h | h
    · exact S4 nb h
    · exact Or.inr (by omega)
  · exact S5.andThen C2 (fun i hi h => by
      rcases h with h | h
      · exact Or.inl h
      · rcases S4 i h with h | h
        · exact Or.inr h
        · omega)
set_option maxRecDepth 4000 in
theorem settle_any (w : World) (q : Nat) (m : M) (nv sv mv : Value) (ns n : Nat) (h : ShAt w q m nv sv mv) (hs : NMv w sv ns m.safe) (hm : MvAt w mv m.moves) (hn : n ≤ m.moves.length) (hns : ns + n < 1000000000000) (hml : m.moves.length < 1000000000000)
    (hlen : ∀ v ∈ m.moves, v.fr.length ≤ 1000000 ∧ v.to.length ≤ 1000000) (hq1 : mapBlock sv ≠ some q) (hq2 : mv.ownBlock ≠ some q) (hq3 : ∀ b, mapBlock sv = some b → mv.ownBlock ≠ some b) :
    Calls Try.prog 35 #[.pointer (some ⟨q, 0, none⟩), .int .i64 (n : Int)] w fun e w' => e = .returned (.tuple #[]) ∧ ∃ sv', ShAt w' q {m with safe := ages m.safe (m.moves.take n), moves := [], gone := 0} nv sv' (.slice none 0 0) ∧ NMv w' sv' (ns + n) (ages m.safe (m.moves.take n)) ∧
      (∀ b, mapBlock sv' = some b → mapBlock sv = some b ∨ w.heap.size ≤ b) ∧ Chg w w' (fun k => k = q ∨ mapBlock sv = some k) := by
  have m3 : w.cell? ⟨q, 3, none⟩ = some mv := h.cell 3
  have f3 := h.fz 3
  have hform : ∃ A c, mv = .slice A m.moves.length c ∧ m.moves.length ≤ c ∧ (0 < n → ∃ g, A = some ⟨g, 0, none⟩) := by
    obtain ⟨h1, h2⟩ := hm
    rcases h2 with ⟨rfl, h0⟩ | ⟨g, cap, cur, rfl, hb, hg, hnn, _⟩
    · exact ⟨none, 0, by rw [h0], by omega, fun h => by omega⟩
    · exact ⟨_, cap, rfl, hnn, fun _ => ⟨g, rfl⟩⟩
  obtain ⟨A, c, rfl, hc, hA⟩ := hform
  have hnc : (n : Int) ≤ (c : Int) := by omega
  have hqw := h.lt
  have hmw := hm.lt
  have HSH := Lib.hid h
  have HNM := Lib.hid hs
  have HMV := Lib.hid hm
  clear h hs hm
  obtain ⟨L, hL⟩ : ∃ L, L = m.moves.length := ⟨_, rfl⟩
  rw [← hL] at m3 hc hn hml
  have HL := Lib.hid hL
  clear hL
  rcases Nat.eq_zero_or_pos n with h0 | h0
  · subst h0
    have c5 : w.cell? ⟨q, 5, none⟩ = some (.int .i64 (m.gone : Int)) := HSH.out.cell 5
    have f5 := HSH.out.fz 5
    have HS := Lib.hid ((HSH.out.set (m' := {m with moves := []}) (nv' := nv) (sv' := sv) (mv' := .slice none 0 0) 3 (.slice none 0 0) rfl).set (m' := {m with moves := [], gone := 0}) (nv' := nv) (sv' := sv) (mv' := .slice none 0 0) 5 (.int .i64 0) rfl)
    have HQ := Lib.hid ((chg_set w q 3 (.slice none 0 0)).trans (chg_set _ q 5 (.int .i64 0)))
    have hcc : (0 : Int) ≤ (c : Int) := by omega
    go_enter Try.func35, Try.ntmps35
    go_wp2
    go_loopw [13] (fun i wr => i = .int .i64 0 ∧ wr = w) (fun i _ => 0)
    case atStart => exact ⟨rfl, rfl⟩
    case round =>
      obtain ⟨rfl, rfl⟩ := hrel
      go_wp2
      go_returns
      exact ⟨rfl, sv, HS.out, HNM.out.at HQ.out (fun b hb e => by subst e; exact hq1 hb), fun b hb => Or.inl hb, HQ.out.wide (fun _ _ h => Or.inl h)⟩
  · obtain ⟨g, rfl⟩ := hA h0
    go_enter Try.func35, Try.ntmps35
    go_wp2
    go_loopw [13] (fun i wr => ∃ k : Nat, k ≤ n ∧ i = .int .i64 k ∧ Stl w wr q m nv sv (.slice (some ⟨g, 0, none⟩) m.moves.length c) ns k) (fun i _ => n - (intOf i).toNat)
    case atStart => exact ⟨0, by omega, rfl, sv, HSH.out, HNM.out, HMV.out, fun b hb => Or.inl hb, Chg.refl _ _⟩
    case round =>
      obtain ⟨k, hk, rfl, sv', S1, S2, S3, S4, S5⟩ := hrel
      by_cases hlt : k < n
      · obtain ⟨_, _, e, _, d0, d1, d2⟩ := mv_cell S3 k (by have := HL.out; omega)
        obtain ⟨rfl, rfl⟩ : _ = g ∧ _ = c := by simp at e; exact ⟨e.1.symm, e.2.symm⟩
        have hkl : k < m.moves.length := by have := HL.out; omega
        have hkL : (k : Int) < (L : Int) := by omega
        have hkn : (k : Int) < (n : Int) := by omega
        obtain ⟨v1, v2⟩ := hlen m.moves[k] (List.getElem_mem _)
        obtain ⟨mb, rfl⟩ := S2.form
        have hmq : mapBlock (.map mb) ≠ some q := by
          intro e
          rcases S4 q e with h | h
          · exact hq1 h
          · omega
        have hFQ : ∀ (V w1 : World), V.drew.cell? ⟨q, 2, none⟩ = some (.map mb) → V.frozen? ⟨q, 2, none⟩ = false → q < V.heap.size → V.drew.grownBy w1 (mapBlock (.map mb)) → w1.cell? ⟨q, 2, none⟩ = some (.map mb) ∧ w1.frozen? ⟨q, 2, none⟩ = false :=
          fun V w1 h1 h2 h3 hg => by
            have e : w1.heap[q]? = V.drew.heap[q]? := hg.block q h3 (fun e => hmq e.symm)
            exact ⟨(World.cell?_of_block (a := ⟨q, 2, none⟩) e).trans h1, (World.frozen?_of_block (a := ⟨q, 2, none⟩) e).trans h2⟩
        have c54 := fun (V : World) (hV : Chg wr V (fun _ => False)) => on_mv V.drew m.moves[k] (.map mb) (ns + k) (ages m.safe (m.moves.take k)) (S2.at hV.drew (fun _ _ h => h)) (by omega) v1 v2
        obtain ⟨p, hp⟩ : ∃ p, ptrV m.moves[k].f = .pointer p := by cases m.moves[k].f <;> exact ⟨_, rfl⟩
        have hst := fun (V w1 : World) (nb : Nat) => stl_step w wr V w1 q m nv sv mb _ ns k nb hkl S1 S3 S4 S5
        rw [hp] at d2
        simp only [mvV, hp] at c54
        have c2 : wr.cell? ⟨q, 2, none⟩ = some (.map mb) := S1.cell 2
        have f2 : wr.frozen? ⟨q, 2, none⟩ = false := S1.fz 2
        have hqr := S1.lt
        have HC := Lib.hid c54
        have HT := Lib.hid hst
        clear hst c54 S1 S2 S3 S4 S5 hp
        generalize str m.moves[k].fr = t1 at *
        generalize str m.moves[k].to = t2 at *
        go_wp2
        have hV := chg_alloc wr (.cells #[.string t1, .string t2, .pointer p] 67) (fun _ => False)
        have hbx := alloc1 wr (.cells #[.string t1, .string t2, .pointer p] 67)
        have x0 := (cell_of_row _ _ 0 _ 67 (0, 0) hbx).trans (show _ = some (.string t1) from rfl)
        have x1 := (cell_of_row _ _ 1 _ 67 (0, 0) hbx).trans (show _ = some (.string t2) from rfl)
        have x2 := (cell_of_row _ _ 2 _ 67 (0, 0) hbx).trans (show _ = some (.pointer p) from rfl)
        have y2 : (wr.alloc (.cells #[.string t1, .string t2, .pointer p] 67)).cell? ⟨q, 2, none⟩ = some (.map mb) := (World.cell?_of_block (a := ⟨q, 2, none⟩) (hV.block q hqr (fun h => h))).trans c2
        have g2 : (wr.alloc (.cells #[.string t1, .string t2, .pointer p] 67)).frozen? ⟨q, 2, none⟩ = false := (World.frozen?_of_block (a := ⟨q, 2, none⟩) (hV.block q hqr (fun h => h))).trans f2
        have hqV : q < (wr.alloc (.cells #[.string t1, .string t2, .pointer p] 67)).heap.size := Nat.lt_of_lt_of_le hqr hV.size
        generalize wr.alloc (.cells #[.string t1, .string t2, .pointer p] 67) = V at *
        have HV := Lib.hid hV
        have cV := HC.out V hV
        have HF := Lib.hid hFQ
        clear hbx d0 d1 d2 c2 f2 hV HC hFQ
        have x0 : V.drew.cell? ⟨wr.heap.size, 0, none⟩ = some (.string t1) := x0
        have x1 : V.drew.cell? ⟨wr.heap.size, 1, none⟩ = some (.string t2) := x1
        have x2 : V.drew.cell? ⟨wr.heap.size, 2, none⟩ = some (.pointer p) := x2
        have y2 : V.drew.cell? ⟨q, 2, none⟩ = some (.map mb) := y2
        go_region_with (go_at_call 54; refine cV.mono ?_; rintro e w1 ⟨nb, rfl, N1, G1, P1⟩; obtain ⟨z2, zf⟩ := HF.out V w1 y2 g2 hqV G1)
        all_goals
          go_wp2
          exact ⟨⟨k + 1, by omega, by simp, HT.out V w1 nb HV.out hq1 hq2 hq3 hqw hmw N1 G1 P1⟩, by simp [intOf]; omega⟩
      · obtain rfl : k = n := by omega
        have d3 : wr.cell? ⟨q, 3, none⟩ = some _ := S1.cell 3
        have d5 : wr.cell? ⟨q, 5, none⟩ = some (.int .i64 (m.gone : Int)) := S1.cell 5
        have e3 := S1.fz 3
        have e5 := S1.fz 5
        have HS := Lib.hid ((S1.set (m' := {m with safe := ages m.safe (m.moves.take k), moves := []}) (nv' := nv) (sv' := sv') (mv' := .slice none 0 0) 3 (.slice none 0 0) rfl).set (m' := {m with safe := ages m.safe (m.moves.take k), moves := [], gone := 0}) (nv' := nv) (sv' := sv') (mv' := .slice none 0 0) 5 (.int .i64 0) rfl)
        have HQ := Lib.hid ((chg_set wr q 3 (.slice none 0 0)).trans (chg_set _ q 5 (.int .i64 0)))
        have H2 := Lib.hid S2
        have H5 := Lib.hid S5
        have H4 := Lib.hid S4
        have hnq : ∀ b, mapBlock sv' = some b → b ≠ q := by
          intro b hb e
          subst e
          rcases S4 b hb with h | h
          · exact hq1 h
          · omega
        have hkk : ¬ ((k : Int) < (k : Int)) := by omega
        clear S1 S2 S3 S4 S5
        go_wp2
        go_returns
        exact ⟨rfl, sv', HS.out, H2.out.at HQ.out hnq, H4.out, H5.out.andThen HQ.out (fun _ _ h => Or.inl h)⟩
end Go.Proofs.Ytkalgonkaoiapaa.Shf

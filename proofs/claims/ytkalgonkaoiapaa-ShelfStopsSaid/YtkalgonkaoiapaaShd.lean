/- What is done to a shelf's names: do. -/
import Derived.Test.YtkalgonkaoiapaaShc
import Derived.Deep.RegionWith
import Derived.Deep.RegionLaw
import Derived.Deep.AppendLies
namespace Go.Proofs.Ytkalgonkaoiapaa.Shf
open Go.ChangeShapes Go.WideShapes Go.ChangeAt Go.RowKit

theorem info67 : (Try.prog.info? 67).map (fun i => (i.zero, i.size, i.bytes)) = some (some (.agg #[.string ⟨#[]⟩, .string ⟨#[]⟩, .pointer none]), 3, 40) := by kernel_rfl
theorem box3_rows (V : World) (x y z : Value) : ∀ j u, [x, y, z][j]? = some u → (V.alloc (.cells #[x, y, z] 67)).cell? ((⟨V.heap.size, 0, none⟩ : Addr).add j) = some u := by
  intro j u hj
  rw [zero_add', cell_of_row _ _ j _ 67 (0, 0) (alloc1 V _)]
  simpa using hj
theorem do_mid (w V w1 : World) (q : Nat) (m : M) (mb : Option Nat) (sv mv : Value) (n : Nat) (v : Mv) (nb : Nat) (cs : Array Value) (hS : ShAt V q m (.map mb) sv mv) (hM : MvAt V mv m.moves) (hC : Chg w V (fun _ => False))
    (hbx : V.heap[w.heap.size]? = some (.cells cs 67 (0, 0))) (hq1 : mapBlock (.map mb) ≠ some q) (hq2 : mv.ownBlock ≠ some q) (hq3 : ∀ b, mapBlock (.map mb) = some b → mv.ownBlock ≠ some b)
    (N1 : NM w1 nb (n + 1) (v.on m.now)) (G1 : V.drew.grownBy w1 (mapBlock (.map mb))) (P1 : mapBlock (.map mb) = some nb ∨ V.drew.heap.size ≤ nb) (hwq : q < w.heap.size) (hwm : ∀ b, mapBlock (.map mb) = some b → b < w.heap.size) :
    ShAt (w1.setCell ⟨q, 1, none⟩ (.map (some nb))) q {m with now := v.on m.now} (.map (some nb)) sv mv ∧ NM (w1.setCell ⟨q, 1, none⟩ (.map (some nb))) nb (n + 1) (v.on m.now) ∧ MvAt (w1.setCell ⟨q, 1, none⟩ (.map (some nb))) mv m.moves ∧
      Chg w (w1.setCell ⟨q, 1, none⟩ (.map (some nb))) (fun k => k = q ∨ mapBlock (.map mb) = some k ∨ mv.ownBlock = some k) ∧ (w1.setCell ⟨q, 1, none⟩ (.map (some nb))).heap[w.heap.size]? = some (.cells cs 67 (0, 0)) ∧ (nb ≠ q ∧ mv.ownBlock ≠ some nb) ∧ w.heap.size < (w1.setCell ⟨q, 1, none⟩ (.map (some nb))).heap.size := by
  have C1 : Chg V w1 (fun k => mapBlock (.map mb) = some k) := ⟨G1.os, G1.tape, G1.output, G1.size, fun k hk hn => G1.block k hk (fun e => hn e.symm)⟩
  have hVw : w.heap.size < V.heap.size := (Array.getElem?_eq_some_iff.1 hbx).1
  have hnq : nb ≠ q := by
    rcases P1 with h | h
    · intro e; subst e; exact hq1 h
    · intro e; subst e; have : V.heap.size ≤ nb := h; omega
  have hnm : mv.ownBlock ≠ some nb := by
    rcases P1 with h | h
    · exact hq3 nb h
    · intro e; have h1 := hM.lt nb e; have : V.heap.size ≤ nb := h; omega
  have C2 : Chg V (w1.setCell ⟨q, 1, none⟩ (.map (some nb))) (fun k => k = q ∨ mapBlock (.map mb) = some k) := (C1.wide (fun _ _ h => Or.inr h)).andThen (chg_set w1 q 1 _) (fun _ _ h => Or.inl h)
  refine ⟨(hS.at C1 hq1).set 1 _ rfl, ?_, ?_, ?_, ?_, ⟨hnq, hnm⟩, Nat.lt_of_lt_of_le hVw C2.size⟩
  · exact N1.at (heap_setCell_other w1 ⟨q, 1, none⟩ nb _ hnq)
  · exact hM.at C2 (fun b hb h => by
      rcases h with h | h
      · exact hq2 (by rw [hb, h])
      · exact hq3 b h hb)
  · exact (hC.wide (R' := fun k => k = q ∨ mapBlock (.map mb) = some k ∨ mv.ownBlock = some k) (fun _ _ h => h.elim)).andThen C2 (fun i _ h => by
      rcases h with h | h
      · exact Or.inl h
      · exact Or.inr (Or.inl h))
  · exact (C2.block _ hVw (by
      rintro (h | h)
      · omega
      · have := hwm _ h; omega)).trans hbx
theorem do_cell (W w2 : World) (q : Nat) (m : M) (nv sv mv : Value) (o : Obj) (hA : ShAt W q m nv sv mv) (hq2 : mv.ownBlock ≠ some q) (hg : (W.drew.alloc o).grownBy w2 mv.ownBlock) : w2.cell? ⟨q, 3, none⟩ = some mv ∧ w2.frozen? ⟨q, 3, none⟩ = false := by
  have hlt := hA.lt
  have e : w2.heap[q]? = W.heap[q]? := (hg.block q (by simp; omega) (fun e => hq2 e.symm)).trans (Below.heap_alloc W.drew o q hlt)
  exact ⟨(World.cell?_of_block (a := ⟨q, 3, none⟩) e).trans (hA.cell 3), (World.frozen?_of_block (a := ⟨q, 3, none⟩) e).trans (hA.fz 3)⟩
theorem do_end (w W w2 : World) (q g cap : Nat) (m : M) (mb : Option Nat) (sv mv : Value) (n : Nat) (v : Mv) (nb : Nat) (pf : Value) (o : Obj) (hp : pf = ptrV v.f) (hA : ShAt W q {m with now := v.on m.now} (.map (some nb)) sv mv) (hN : NM W nb (n + 1) (v.on m.now))
    (hD : Chg w W (fun k => k = q ∨ mapBlock (.map mb) = some k ∨ mv.ownBlock = some k)) (_hM : MvAt W mv m.moves) (h6 : nb ≠ q ∧ mv.ownBlock ≠ some nb) (hq2 : mv.ownBlock ≠ some q) (hg : (W.drew.alloc o).grownBy w2 mv.ownBlock)
    (hown : w2.ownsRow 0 67 3 (.slice (some ⟨g, 0, none⟩) (m.moves.length + 1) cap) (m.moves.length + 1) (m.moves.flatMap mvC ++ [.string (str v.fr), .string (str v.to), pf])) (hat : mv.ownBlock = some g ∨ g = (W.drew.alloc o).heap.size) (hlt : w.heap.size < W.heap.size)
    (P : mapBlock (.map mb) = some nb ∨ w.heap.size ≤ nb) :
    ShAt (w2.setCell ⟨q, 3, none⟩ (.slice (some ⟨g, 0, none⟩) (m.moves.length + 1) cap)) q {m with now := v.on m.now, moves := m.moves ++ [v]} (.map (some nb)) sv (.slice (some ⟨g, 0, none⟩) (m.moves.length + 1) cap) ∧
    NM (w2.setCell ⟨q, 3, none⟩ (.slice (some ⟨g, 0, none⟩) (m.moves.length + 1) cap)) nb (n + 1) (v.on m.now) ∧ MvAt (w2.setCell ⟨q, 3, none⟩ (.slice (some ⟨g, 0, none⟩) (m.moves.length + 1) cap)) (.slice (some ⟨g, 0, none⟩) (m.moves.length + 1) cap) (m.moves ++ [v]) ∧
      (mapBlock (.map mb) = some nb ∨ w.heap.size ≤ nb) ∧ (∀ b, (Value.slice (some ⟨g, 0, none⟩) (m.moves.length + 1) cap).ownBlock = some b → mv.ownBlock = some b ∨ w.heap.size ≤ b) ∧ (Value.slice (some ⟨g, 0, none⟩) (m.moves.length + 1) cap).ownBlock ≠ some nb ∧ Chg w (w2.setCell ⟨q, 3, none⟩ (.slice (some ⟨g, 0, none⟩) (m.moves.length + 1) cap)) (fun k => k = q ∨ mapBlock (.map mb) = some k ∨ mv.ownBlock = some k) := by
  subst hp
  have hC1 : Chg W (W.drew.alloc o) (fun k => mv.ownBlock = some k) := ⟨rfl, rfl, rfl, by simp, fun k hk _ => Below.heap_alloc W.drew o k hk⟩
  have hC2 : Chg W w2 (fun k => mv.ownBlock = some k) := hC1.trans (chg_grown hg)
  have hC3 : Chg W (w2.setCell ⟨q, 3, none⟩ (.slice (some ⟨g, 0, none⟩) (m.moves.length + 1) cap)) (fun k => k = q ∨ mv.ownBlock = some k) := (hC2.wide (fun _ _ h => Or.inr h)).andThen (chg_set w2 q 3 _) (fun _ _ h => Or.inl h)
  have hgq : g ≠ q := by
    rcases hat with h | h
    · intro e; exact hq2 (by rw [h, e])
    · intro e; have := hA.lt; simp at h; omega
  have hgn : g ≠ nb := by
    rcases hat with h | h
    · intro e; exact h6.2 (by rw [h, e])
    · intro e; have := hN.lt; simp at h; omega
  refine ⟨(hA.at hC2 hq2).set 3 _ rfl, hN.at (hC3.block nb hN.lt (fun h => h.elim (fun h => h6.1 h) (fun h => h6.2 h))), ?_, P, ?_, ?_, ?_⟩
  · have e : (m.moves ++ [v]).length = m.moves.length + 1 := by simp
    have e2 : (m.moves ++ [v]).flatMap mvC = m.moves.flatMap mvC ++ [.string (str v.fr), .string (str v.to), ptrV v.f] := by simp [mvC]
    have h0 : MvAt w2 (.slice (some ⟨g, 0, none⟩) (m.moves.length + 1) cap) (m.moves ++ [v]) := by
      unfold MvAt; rw [e, e2]; exact hown
    exact h0.at (chg_set w2 q 3 _) (fun b hb h => by simp [Value.ownBlock] at hb; omega)
  · intro b hb
    simp [Value.ownBlock] at hb
    rcases hat with h | h
    · exact Or.inl (by rw [h, hb])
    · exact Or.inr (by simp at h; omega)
  · simp [Value.ownBlock]; exact hgn
  · exact hD.andThen hC3 (fun i _ h => by
      rcases h with h | h
      · exact Or.inl h
      · exact Or.inr (Or.inr h))
set_option maxRecDepth 4000 in
theorem do_mv (w : World) (q : Nat) (m : M) (nv sv mv : Value) (n : Nat) (v : Mv) (h : ShAt w q m nv sv mv) (hn : NMv w nv n m.now) (hm : MvAt w mv m.moves) (hn' : n < 1000000000000) (h1 : v.fr.length ≤ 1000000) (h2 : v.to.length ≤ 1000000)
    (hq1 : mapBlock nv ≠ some q) (hq2 : mv.ownBlock ≠ some q) (hq3 : ∀ b, mapBlock nv = some b → mv.ownBlock ≠ some b) (hml : m.moves.length < 1000000000) :
    Calls Try.prog 33 #[.pointer (some ⟨q, 0, none⟩), mvV v] w fun e w' => e = .returned (.tuple #[]) ∧ ∃ nb mv', ShAt w' q {m with now := v.on m.now, moves := m.moves ++ [v]} (.map (some nb)) sv mv' ∧ NM w' nb (n + 1) (v.on m.now) ∧ MvAt w' mv' (m.moves ++ [v]) ∧
      (mapBlock nv = some nb ∨ w.heap.size ≤ nb) ∧ (∀ b, mv'.ownBlock = some b → mv.ownBlock = some b ∨ w.heap.size ≤ b) ∧ mv'.ownBlock ≠ some nb ∧ Chg w w' (fun k => k = q ∨ mapBlock nv = some k ∨ mv.ownBlock = some k) := by
  obtain ⟨pf, hpfe⟩ : ∃ pf, pf = ptrV v.f := ⟨_, rfl⟩
  obtain ⟨V, hV⟩ : ∃ V, V = w.alloc (.cells #[.string (str v.fr), .string (str v.to), pf] 67) := ⟨_, rfl⟩
  have hC : Chg w V (fun _ => False) := by rw [hV]; exact chg_alloc w _ _
  have hbx : V.heap[w.heap.size]? = some (.cells #[.string (str v.fr), .string (str v.to), pf] 67 (0, 0)) := by rw [hV]; exact alloc1 w _
  have hS := h.at hC (fun h => h)
  have hN := hn.at hC (fun _ _ h => h)
  have hM := hm.at hC (fun _ _ h => h)
  have c54 := on_mv V.drew v nv n m.now hN hn' h1 h2
  have hqV := hS.lt
  obtain ⟨mb, rfl⟩ := hn.form
  have x1 : V.drew.cell? ⟨q, 1, none⟩ = some (.map mb) := hS.cell 1
  have xb : V.drew.heap[w.heap.size]? = some (.cells #[.string (str v.fr), .string (str v.to), pf] 67 (0, 0)) := hbx
  have xb0 : V.drew.cell? ⟨w.heap.size, 0, none⟩ = some (.string (str v.fr)) := (cell_of_row _ _ 0 _ 67 (0, 0) hbx).trans rfl
  have xb1 : V.drew.cell? ⟨w.heap.size, 1, none⟩ = some (.string (str v.to)) := (cell_of_row _ _ 1 _ 67 (0, 0) hbx).trans rfl
  have xb2 : V.drew.cell? ⟨w.heap.size, 2, none⟩ = some pf := (cell_of_row _ _ 2 _ 67 (0, 0) hbx).trans rfl
  have hbx' := Lib.hid hbx
  have hwq := h.lt
  have hwm := hn.lt
  have hpf : pf.oneCell' = true := by rw [hpfe]; cases v.f <;> rfl
  have HS := Lib.hid hS
  have HM := Lib.hid hM
  have HC := Lib.hid hC
  clear hS hN hM hC h hn hm hbx
  simp only [mvV, ← hpfe] at c54 ⊢
  have HP := Lib.hid hpfe
  clear hpfe
  go_enter Try.func33, Try.ntmps33
  go_wp2
  rw [← hV]
  clear hV
  go_region_with (go_at_call 54; refine c54.mono ?_; rintro e w1 ⟨nb, rfl, N1, G1, P1⟩; have y1 : w1.cell? ⟨q, 1, none⟩ = some (.map mb) := (World.cell?_of_block (G1.block q hqV (fun e => hq1 e.symm))).trans x1; have yf : w1.frozen? ⟨q, 1, none⟩ = false := (World.frozen?_of_block (G1.block q hqV (fun e => hq1 e.symm))).trans (HS.out.fz 1))
  all_goals
    go_wp2
    have A8 : mapBlock (.map mb) = some nb ∨ w.heap.size ≤ nb := P1.imp id (fun h => Nat.le_trans HC.out.size h)
    obtain ⟨A1, A2, A3, A4, A5, A6, A7⟩ := do_mid w V w1 q m mb sv mv n v nb _ HS.out HM.out HC.out hbx'.out hq1 hq2 hq3 N1 G1 P1 hwq hwm
    generalize w1.setCell ⟨q, 1, none⟩ (.map (some nb)) = W at *
    have m3 : W.cell? ⟨q, 3, none⟩ = some mv := A1.cell 3
    have x0 : W.cell? ⟨w.heap.size, 0, none⟩ = some (.string (str v.fr)) := (cell_of_row _ _ 0 _ 67 (0, 0) A5).trans rfl
    have x1 : W.cell? ⟨w.heap.size, 1, none⟩ = some (.string (str v.to)) := (cell_of_row _ _ 1 _ 67 (0, 0) A5).trans rfl
    have x2 : W.cell? ⟨w.heap.size, 2, none⟩ = some pf := (cell_of_row _ _ 2 _ 67 (0, 0) A5).trans rfl
    have hqW := A1.lt
    have HA := Lib.hid A1
    have HD := Lib.hid A4
    have HE := Lib.hid A2
    clear A1 A5 A2 A4 xb0 xb1 xb2 G1 N1 y1 yf HC HS HM hbx'
    obtain ⟨i0, hi, hz0, hz1, hz2⟩ := info_parts info67
    have hMW := A3
    unfold MvAt at hMW
    have hone : ∀ u ∈ [Value.string (str v.fr), .string (str v.to), pf], u.oneCell' = true := by
      intro u hu
      simp only [List.mem_cons, List.not_mem_nil, or_false] at hu
      rcases hu with rfl | rfl | rfl
      · rfl
      · rfl
      · exact hpf
    have HQ := Lib.hid (fun (w2 : World) (o : Obj) (hg : (W.drew.alloc o).grownBy w2 mv.ownBlock) => do_cell W w2 q _ _ sv mv o HA.out hq2 hg)
    go_region_law (first
      | (refine step_append_lies _ rfl _ _ 59 rfl 0 67 i0 _ 3 40 Try.underlying59 hi hz0 hz1 hz2 rfl (by decide) mv m.moves.length _ rfl (hMW.alloc _) ⟨W.heap.size, 0, none⟩ 1 1 [.string (str v.fr), .string (str v.to), pf] rfl rfl (box3_rows _ _ _ _) hone (by decide) (by unfold maxLen; omega) (by omega) (Nat.zero_le _) _ rfl ?_; intro g cap w2 hown hgrow hat hlt; obtain ⟨z1, z2⟩ := HQ.out _ _ hgrow))
    all_goals
      go_wp2
      go_returns
      exact ⟨rfl, _, _, do_end w W w2 q g cap m mb sv mv n v nb pf _ HP.out HA.out HE.out HD.out hMW A6 hq2 hgrow hown hat A7 A8⟩
end Go.Proofs.Ytkalgonkaoiapaa.Shf

/- What a Purse answers, and what becomes of it. -/
import Derived.Test.YtecfblkagbdjlaaGet
namespace Go.Proofs.Ytecfblkagbdjlaa.Coin
open Go.ChangeShapes Go.WideShapes Go.ChangeAt Go.RowKit

/-- The purse at block q has these bytes left, and this fault. -/
def Pur (w : World) (q : Nat) (l : List UInt8) (f : Nat) : Prop :=
  ∃ g off cap, w.heap[q]? = some (.cells #[.slice (some ⟨g, off, none⟩) l.length cap, .int .i64 (f : Nat)] 72 (0, 0)) ∧ l.length ≤ cap ∧ cap ≤ 1000000 ∧ g < q ∧ ∀ j (hj : j < l.length), w.cell? ⟨g, off + j, none⟩ = some (b8 l[j])

theorem fault_any (w : World) (q : Nat) (l : List UInt8) (f : Nat) (h : Pur w q l f) :
    Calls Try.prog 39 #[.pointer (some ⟨q, 0, none⟩)] w fun e w' => e = .returned (.int .i64 (f : Nat)) ∧ w = w' := by
  obtain ⟨g, off, cap, hq, _, _, _, _⟩ := h
  have h0 : w.cell? ⟨q, 0, none⟩ = some (.slice (some ⟨g, off, none⟩) l.length cap) := by rw [cell_of_row w q 0 _ 72 (0, 0) hq]; rfl
  have h1 : w.cell? ⟨q, 1, none⟩ = some (.int .i64 (f : Nat)) := by rw [cell_of_row w q 1 _ 72 (0, 0) hq]; rfl
  clear hq
  go_enter Try.func39, Try.ntmps39
  go_wp2
  go_ret
  exact ⟨rfl, rfl⟩
theorem left_any (w : World) (q : Nat) (l : List UInt8) (f : Nat) (h : Pur w q l f) :
    Calls Try.prog 40 #[.pointer (some ⟨q, 0, none⟩)] w fun e w' => e = .returned (.int .i64 (l.length : Nat)) ∧ w = w' := by
  obtain ⟨g, off, cap, hq, _, _, _, _⟩ := h
  have h0 : w.cell? ⟨q, 0, none⟩ = some (.slice (some ⟨g, off, none⟩) l.length cap) := by rw [cell_of_row w q 0 _ 72 (0, 0) hq]; rfl
  have h1 : w.cell? ⟨q, 1, none⟩ = some (.int .i64 (f : Nat)) := by rw [cell_of_row w q 1 _ 72 (0, 0) hq]; rfl
  clear hq
  go_enter Try.func40, Try.ntmps40
  go_wp2
  go_ret
  exact ⟨rfl, rfl⟩
def endV (l : List UInt8) (f : Nat) : Nat := if f = 0 ∧ 0 < l.length then 4 else f
theorem end_any (w : World) (q : Nat) (l : List UInt8) (f : Nat) (h : Pur w q l f) :
    Calls Try.prog 44 #[.pointer (some ⟨q, 0, none⟩)] w fun e w' => e = .returned (.int .i64 (endV l f : Nat)) ∧ w = w' := by
  have c20 := fault_any w q l f h
  have c21 := left_any w q l f h
  by_cases hf : f = 0
  · subst hf
    by_cases hl : 0 < l.length
    · rw [show endV l 0 = 4 by simp [endV, hl]]
      generalize l.length = m at *
      go_enter Try.func44, Try.ntmps44
      go_wp2_with (first | (go_at_call 39; refine c20.mono ?_; rintro e w' ⟨rfl, rfl⟩) | (go_at_call 40; refine c21.mono ?_; rintro e w' ⟨rfl, rfl⟩))
      go_ret
      exact ⟨rfl, rfl⟩
    · rw [show endV l 0 = 0 by simp [endV, hl]]
      generalize l.length = m at *
      go_enter Try.func44, Try.ntmps44
      go_wp2_with (first | (go_at_call 39; refine c20.mono ?_; rintro e w' ⟨rfl, rfl⟩) | (go_at_call 40; refine c21.mono ?_; rintro e w' ⟨rfl, rfl⟩))
      go_ret
      exact ⟨rfl, rfl⟩
  · rw [show endV l f = f by simp [endV, hf]]
    have hb : (((f : Nat) : Int) == 0) = false := by simp; omega
    go_enter Try.func44, Try.ntmps44
    go_wp2_with (first | (go_at_call 39; refine c20.mono ?_; rintro e w' ⟨rfl, rfl⟩) | (go_at_call 40; refine c21.mono ?_; rintro e w' ⟨rfl, rfl⟩))
    go_ret
    exact ⟨rfl, rfl⟩
/-- Of a nil purse. -/
theorem fault_nil (w : World) : Calls Try.prog 39 #[.pointer none] w fun e w' => e = .returned (.int .i64 2) ∧ w = w' := by
  go_enter Try.func39, Try.ntmps39
  go_wp2
  go_ret
  exact ⟨rfl, rfl⟩
theorem left_nil (w : World) : Calls Try.prog 40 #[.pointer none] w fun e w' => e = .returned (.int .i64 0) ∧ w = w' := by
  go_enter Try.func40, Try.ntmps40
  go_wp2
  go_ret
  exact ⟨rfl, rfl⟩
theorem end_nil (w : World) : Calls Try.prog 44 #[.pointer none] w fun e w' => e = .returned (.int .i64 2) ∧ w = w' := by
  go_enter Try.func44, Try.ntmps44
  go_wp2_with (first | (go_at_call 39; refine (fault_nil _).mono ?_; rintro e w' ⟨rfl, rfl⟩) | (go_at_call 40; refine (left_nil _).mono ?_; rintro e w' ⟨rfl, rfl⟩))
  go_ret
  exact ⟨rfl, rfl⟩
theorem take_nil (n : Int) (w : World) : Calls Try.prog 38 #[.pointer none, .int .u64 n] w fun e w' => e = .returned (.int .u64 0) ∧ w = w' := by
  go_enter Try.func38, Try.ntmps38
  go_wp2_with (first | (go_at_call 39; refine (fault_nil _).mono ?_; rintro e w' ⟨rfl, rfl⟩))
  go_ret
  exact ⟨rfl, rfl⟩
theorem bytes_nil (n : Nat) (w : World) : Calls Try.prog 48 #[.pointer none, .int .i64 n] w fun e w' => e = .returned (.slice none 0 0) ∧ w = w' := by
  go_enter Try.func48, Try.ntmps48
  go_wp2_with (first | (go_at_call 39; refine (fault_nil _).mono ?_; rintro e w' ⟨rfl, rfl⟩))
  go_ret
  exact ⟨rfl, rfl⟩

/-- What Take answers, what is left, and the fault. -/
def takeV (l : List UInt8) (f most : Nat) : Nat × List UInt8 × Nat :=
  if f ≠ 0 then (0, l, f) else if (got l).2.2 ≠ 0 then (0, l, (got l).2.2) else if most < (got l).1 then (0, l, 6) else ((got l).1, l.drop (got l).2.1, 0)

theorem Pur.far {w w' : World} {q : Nat} {l : List UInt8} {f : Nat} (h : Pur w q l f) (hb : ∀ i, i ≤ q → w'.heap[i]? = w.heap[i]?) : Pur w' q l f := by
  obtain ⟨g, off, cap, hq, h1, h2, h3, h4⟩ := h
  exact ⟨g, off, cap, (hb q (Nat.le_refl _)).trans hq, h1, h2, h3, fun j hj => (World.cell?_of_block (a := ⟨g, off + j, none⟩) (hb g (by omega))).trans (h4 j hj)⟩
theorem grown_trans {a b c : World} {q : Nat} (h : a.grownBy b (some q)) (k : b.grownBy c (some q)) : a.grownBy c (some q) :=
  ⟨k.os.trans h.os, k.tape.trans h.tape, k.output.trans h.output, Nat.le_trans h.size k.size, fun i hi hne => (k.block i (Nat.lt_of_lt_of_le hi h.size) hne).trans (h.block i hi hne)⟩
theorem grown_drewN (w : World) (n : Nat) (r : Option Nat) : w.grownBy (w.drewN n) r := ⟨rfl, rfl, rfl, Nat.le_refl _, fun _ _ _ => rfl⟩
theorem grown_set (w : World) (q i : Nat) (v : Value) : w.grownBy (w.setCell ⟨q, i, none⟩ v) (some q) :=
  ⟨rfl, rfl, rfl, by simp [World.setCell], fun k _ hne => heap_setCell_other w ⟨q, i, none⟩ k v (fun e => hne (by rw [e]))⟩
theorem Pur.fault {w : World} {q : Nat} {l : List UInt8} {f : Nat} (h : Pur w q l f) (f' : Nat) : Pur (w.setCell ⟨q, 1, none⟩ (.int .i64 (f' : Nat))) q l f' := by
  obtain ⟨g, off, cap, hq, h1, h2, h3, h4⟩ := h
  refine ⟨g, off, cap, ?_, h1, h2, h3, fun j hj => ?_⟩
  · rw [heap_setCell_same w q 1 _ 72 _ hq]; rfl
  · rw [World.cell?_of_block (heap_setCell_other w ⟨q, 1, none⟩ g _ (by simp; omega))]; exact h4 j hj
theorem pur_rest {w : World} {q g off cap f k : Nat} {l : List UInt8} (hq : w.heap[q]? = some (.cells #[.slice (some ⟨g, off, none⟩) l.length cap, .int .i64 (f : Nat)] 72 (0, 0))) (h1 : l.length ≤ cap) (h2 : cap ≤ 1000000) (h3 : g < q)
    (h4 : ∀ j (hj : j < l.length), w.cell? ⟨g, off + j, none⟩ = some (b8 l[j])) (hk : k ≤ l.length) (A : Option Addr) (hA : (cap = k → A = some ⟨g, off, none⟩) ∧ (cap ≠ k → A = some ⟨g, off + k, none⟩)) :
    Pur (w.setCell ⟨q, 0, none⟩ (.slice A (l.length - k) (cap - k))) q (l.drop k) f := by
  have hc : ∀ j, (w.setCell ⟨q, 0, none⟩ (.slice A (l.length - k) (cap - k))).cell? ⟨g, j, none⟩ = w.cell? ⟨g, j, none⟩ := fun j => World.cell?_of_block (heap_setCell_other w ⟨q, 0, none⟩ g _ (by simp; omega))
  by_cases e : cap = k
  · refine ⟨g, off, cap - k, ?_, by simp; omega, by omega, h3, fun j hj => ?_⟩
    · rw [heap_setCell_same w q 0 _ 72 _ hq, hA.1 e]; simp
    · simp at hj; omega
  · refine ⟨g, off + k, cap - k, ?_, by simp; omega, by omega, h3, fun j hj => ?_⟩
    · rw [heap_setCell_same w q 0 _ 72 _ hq, hA.2 e]; simp
    · rw [hc, Nat.add_assoc, h4 (k + j) (by simp at hj; omega)]; simp

theorem take_any (w : World) (q : Nat) (l : List UInt8) (f most : Nat) (h : Pur w q l f) (hf : f ≤ 12) (_hmost : most < 18446744073709551616) :
    Calls Try.prog 38 #[.pointer (some ⟨q, 0, none⟩), .int .u64 most] w fun e w' => e = .returned (.int .u64 ((takeV l f most).1 : Nat)) ∧ Pur w' q (takeV l f most).2.1 (takeV l f most).2.2 ∧ w.grownBy w' (some q) := by
  have c20 := fault_any w q l f h
  by_cases hf0 : f = 0
  · subst hf0
    obtain ⟨g, off, cap, hq, h1, h2, h3, h4⟩ := id h
    have g1 := got_lt l
    have c11 := fun W (hW : ∀ i, i ≤ q → W.heap[i]? = w.heap[i]?) => get_any (some ⟨g, off, none⟩) cap q l W (by omega) (fun h0 => ⟨_, rfl, h3, fun j hj => by
      rw [World.cell?_of_block (w := w) (a := (⟨g, off, none⟩ : Addr).add j) (by rw [block_add]; exact hW g (by omega))]
      have := h4 j hj
      unfold Addr.add; split
      · rename_i e; subst e; exact this
      · exact this⟩)
    have h0 : w.cell? ⟨q, 0, none⟩ = some (.slice (some ⟨g, off, none⟩) l.length cap) := by rw [cell_of_row w q 0 _ 72 (0, 0) hq]; rfl
    have h5 : w.cell? ⟨q, 1, none⟩ = some (.int .i64 0) := by rw [cell_of_row w q 1 _ 72 (0, 0) hq]; rfl
    have hf0' : w.frozen? ⟨q, 0, none⟩ = false := frozen_of_row w q 0 _ 72 hq
    have hf1' : w.frozen? ⟨q, 1, none⟩ = false := frozen_of_row w q 1 _ 72 hq
    have hz := c11 w (fun _ _ => rfl)
    clear c11
    generalize hG : got l = G at *
    obtain ⟨n, k, e⟩ := G
    have HTV := Lib.hid (show takeV l 0 most = if e ≠ 0 then (0, l, e) else if most < n then (0, l, 6) else (n, l.drop k, 0) by simp [takeV, hG])
    generalize takeV l 0 most = T at *
    clear hG
    obtain ⟨m, hm⟩ : ∃ m, m = l.length := ⟨_, rfl⟩
    rw [← hm] at hz h0
    have HM := Lib.hid hm
    clear hm
    have HQ := Lib.hid hq
    have H4 : Hid (∀ j (hj : j < l.length), w.cell? ⟨g, off + j, none⟩ = some (b8 l[j])) := h4
    clear hq h4
    simp only at hz g1
    by_cases he : e = 0
    · subst he
      by_cases hlt : most < n
      · have hT : T = (0, l, 6) := by rw [HTV.out]; simp [hlt]
        subst hT
        go_enter Try.func38, Try.ntmps38
        go_wp2_with (first | (go_at_call 39; refine c20.mono ?_; rintro e w' ⟨rfl, rfl⟩))
        refine hz.mono ?_
        rintro e' w1 ⟨rfl, nq, hw1⟩
        have B1 : w.grownBy w1 (some q) := by rw [hw1]; exact grown_drewN w nq _
        have h5 : w1.cell? ⟨q, 1, none⟩ = some (.int .i64 0) := by rw [hw1]; exact h5
        have hf1' : w1.frozen? ⟨q, 1, none⟩ = false := by rw [hw1]; exact hf1'
        have P1 : Pur w1 q l 0 := by rw [hw1]; exact h
        have R := P1.fault 6
        have B2 := grown_trans B1 (grown_set w1 q 1 (.int .i64 (6 : Nat)))
        clear hw1 hz hf0' P1
        go_wp2
        go_ret
        exact ⟨rfl, R, B2⟩
      · have hT : T = (n, l.drop k, 0) := by rw [HTV.out]; simp [hlt]
        subst hT
        go_enter Try.func38, Try.ntmps38
        go_wp2_with (first | (go_at_call 39; refine c20.mono ?_; rintro e w' ⟨rfl, rfl⟩))
        refine hz.mono ?_
        rintro e w1 ⟨rfl, nq, hw1⟩
        have B1 : w.grownBy w1 (some q) := by rw [hw1]; exact grown_drewN w nq _
        have h0 : w1.cell? ⟨q, 0, none⟩ = some (.slice (some ⟨g, off, none⟩) m cap) := by rw [hw1]; exact h0
        have hf0' : w1.frozen? ⟨q, 0, none⟩ = false := by rw [hw1]; exact hf0'
        have HQ : Hid (w1.heap[q]? = some (.cells #[.slice (some ⟨g, off, none⟩) l.length cap, .int .i64 (0 : Nat)] 72 (0, 0))) := by rw [hw1]; exact HQ
        have H4 : Hid (∀ j (hj : j < l.length), w1.cell? ⟨g, off + j, none⟩ = some (b8 l[j])) := by rw [hw1]; exact H4
        clear hw1 hz h5 hf1'
        have hkm : k ≤ m := by rw [HM.out]; exact g1.2.2.1
        have hmc : m ≤ cap := by rw [HM.out]; exact h1
        by_cases e : cap = k
        · have R := pur_rest (k := k) HQ.out h1 h2 h3 H4.out g1.2.2.1 (some ⟨g, off, none⟩) ⟨fun _ => rfl, fun h => absurd e h⟩
          have B2 := grown_trans B1 (grown_set w1 q 0 (.slice (some ⟨g, off, none⟩) (l.length - k) (cap - k)))
          rw [← HM.out, e, Nat.sub_self] at R B2
          go_wp2
          go_ret
          exact ⟨rfl, R, B2⟩
        · have R := pur_rest (k := k) HQ.out h1 h2 h3 H4.out g1.2.2.1 (some ⟨g, off + k, none⟩) ⟨fun h => absurd h e, fun _ => rfl⟩
          have B2 := grown_trans B1 (grown_set w1 q 0 (.slice (some ⟨g, off + k, none⟩) (l.length - k) (cap - k)))
          rw [← HM.out] at R B2
          go_wp2
          go_ret
          exact ⟨rfl, R, B2⟩
    · have hT : T = (0, l, e) := by rw [HTV.out]; simp [he]
      subst hT
      have hbe : (((e : Nat) : Int) == 0) = false := by simp; omega
      have hbn : (((e : Nat) : Int) != 0) = true := by simp; omega
      go_enter Try.func38, Try.ntmps38
      go_wp2_with (first | (go_at_call 39; refine c20.mono ?_; rintro e w' ⟨rfl, rfl⟩))
      refine hz.mono ?_
      rintro e' w1 ⟨rfl, nq, hw1⟩
      have B1 : w.grownBy w1 (some q) := by rw [hw1]; exact grown_drewN w nq _
      have h5 : w1.cell? ⟨q, 1, none⟩ = some (.int .i64 0) := by rw [hw1]; exact h5
      have hf1' : w1.frozen? ⟨q, 1, none⟩ = false := by rw [hw1]; exact hf1'
      have P1 : Pur w1 q l 0 := by rw [hw1]; exact h
      have R := P1.fault e
      have B2 := grown_trans B1 (grown_set w1 q 1 (.int .i64 (e : Nat)))
      clear hw1 hz hf0' P1
      go_wp2
      go_ret
      exact ⟨rfl, R, B2⟩
  · have hT : takeV l f most = (0, l, f) := by simp [takeV, hf0]
    rw [hT]
    have hb : (((f : Nat) : Int) != 0) = true := by simp; omega
    go_enter Try.func38, Try.ntmps38
    go_wp2_with (first | (go_at_call 39; refine c20.mono ?_; rintro e w' ⟨rfl, rfl⟩))
    go_ret
    exact ⟨rfl, h, grown_drewN w 0 _⟩
end Go.Proofs.Ytecfblkagbdjlaa.Coin

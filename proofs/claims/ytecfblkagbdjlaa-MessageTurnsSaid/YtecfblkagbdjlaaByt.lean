/- A Purse's Bytes, and NewPurse. -/
import Derived.Test.YtecfblkagbdjlaaPur
namespace Go.Proofs.Ytecfblkagbdjlaa.Coin
open Go.ChangeShapes Go.WideShapes Go.ChangeAt Go.RowKit

/-- What NewPurse answers. -/
def NewSaid (w : World) (l : List UInt8) (e : Ending) (w' : World) : Prop := ∃ q, e = .returned (.pointer (some ⟨q, 0, none⟩)) ∧ Pur w' q l 0 ∧ w.heap.size ≤ q ∧ q < w'.heap.size ∧ Below w.heap.size w w'
theorem new_any (A : Option Addr) (cap : Nat) (l : List UInt8) (w : World) (hl : l.length ≤ 900000) (hr : Rd w w.heap.size A l) :
    Calls Try.prog 28 #[.slice A l.length cap] w (NewSaid w l) := by
  obtain ⟨m, hm⟩ : ∃ m, m = l.length := ⟨_, rfl⟩
  have hmk := make_any m (by omega) w
  have R0 := Row.new w m
  have B1 : Below w.heap.size w (w.alloc (.cells (madeCells #[.int .u8 0] m) 5)) := (Below.refl _ _).alloc (Nat.le_refl _) _
  have R1 : Rd (w.alloc (.cells (madeCells #[.int .u8 0] m) 5)) w.heap.size A l := hr.below B1 (Nat.le_refl _)
  obtain ⟨w1, hw1⟩ : ∃ w1, w1 = w.alloc (.cells (madeCells #[.int .u8 0] m) 5) := ⟨_, rfl⟩
  rw [← hw1] at R0 R1 B1 hmk
  rw [← hm]
  have HM := Lib.hid hm
  clear hm hw1
  go_enter Try.func28, Try.ntmps28
  go_wp2_with (first | (with_reducible refine copy_row rfl (.tmp 7) (.tmp 8) rfl w.heap.size m m cap A rfl rfl l ?c1 _ R1 R0 w.heap.size w B1 (Nat.le_refl _) ?_))
  case c1 => rw [← HM.out]; exact (Nat.min_self _).symm
  intro w2 R2 B2
  clear R0 B1 R1 hmk
  rw [← HM.out, Nat.sub_self, List.replicate_zero, List.append_nil] at R2
  rw [← HM.out]
  go_wp2
  go_ret
  have hg := R2.lt
  have B3 := B2.alloc (by have := B2.size; omega) (.cells #[.slice (some ⟨w.heap.size, 0, none⟩) m m, .int .i64 0] 72)
  refine ⟨w2.heap.size, rfl, ⟨w.heap.size, 0, m, ?_, by have := HM.out; omega, by have := HM.out; omega, hg, fun j hj => ?_⟩, by have := B2.size; omega, by simp, B3⟩
  · rw [heap_alloc_new, HM.out]; rfl
  · rw [World.cell?_of_block (w := w2) (a := ⟨w.heap.size, 0 + j, none⟩) (Below.heap_alloc w2 _ w.heap.size hg), Nat.zero_add, R2.cell j hj]

def bytesV (l : List UInt8) (f : Nat) (n : Int) : List UInt8 × List UInt8 × Nat :=
  if n < 0 ∨ f ≠ 0 then ([], l, f) else if (l.length : Int) < n then ([], l, 5) else (l.take n.toNat, l.drop n.toNat, 0)
/-- What Bytes answers. -/
def BytesSaid (w : World) (q : Nat) (t : List UInt8 × List UInt8 × Nat) (e : Ending) (w' : World) : Prop := ∃ A c, e = .returned (.slice A t.1.length c) ∧ Rd w' w'.heap.size A t.1 ∧ Pur w' q t.2.1 t.2.2 ∧ w.grownBy w' (some q)
theorem bytes_any (w : World) (q : Nat) (l : List UInt8) (f : Nat) (n : Int) (h : Pur w q l f) (hn : -1000 ≤ n ∧ n ≤ 100000) :
    Calls Try.prog 48 #[.pointer (some ⟨q, 0, none⟩), .int .i64 n] w (BytesSaid w q (bytesV l f n)) := by
  have c20 := fault_any w q l f h
  by_cases h0 : n < 0
  · have hT : bytesV l f n = ([], l, f) := by simp [bytesV, h0]
    rw [hT]
    go_enter Try.func48, Try.ntmps48
    go_wp2
    go_ret
    exact ⟨none, 0, rfl, Rd.nil _ _ _, h, grown_drewN w 0 _⟩
  · obtain ⟨n, rfl⟩ := Int.eq_ofNat_of_zero_le (show 0 ≤ n by omega)
    by_cases hf : f = 0
    · subst hf
      obtain ⟨g, off, cap, hq, h1, h2, h3, h4⟩ := id h
      have c0 : w.cell? ⟨q, 0, none⟩ = some (.slice (some ⟨g, off, none⟩) l.length cap) := by rw [cell_of_row w q 0 _ 72 (0, 0) hq]; rfl
      have h5 : w.cell? ⟨q, 1, none⟩ = some (.int .i64 0) := by rw [cell_of_row w q 1 _ 72 (0, 0) hq]; rfl
      have hf0' : w.frozen? ⟨q, 0, none⟩ = false := frozen_of_row w q 0 _ 72 hq
      have hf1' : w.frozen? ⟨q, 1, none⟩ = false := frozen_of_row w q 1 _ 72 hq
      obtain ⟨m, hm⟩ : ∃ m, m = l.length := ⟨_, rfl⟩
      rw [← hm] at c0
      by_cases hlt : m < n
      · have hT : bytesV l 0 n = ([], l, 5) := by unfold bytesV; rw [if_neg (by omega), if_pos (by omega)]
        rw [hT]
        have R := h.fault 5
        have B2 := grown_set w q 1 (.int .i64 (5 : Nat))
        have HM := Lib.hid hm
        have HQ := Lib.hid hq
        clear hm hq hT
        go_enter Try.func48, Try.ntmps48
        go_wp2_with (first | (go_at_call 39; refine c20.mono ?_; rintro e w' ⟨rfl, rfl⟩))
        go_ret
        exact ⟨none, 0, rfl, Rd.nil _ _ _, R, B2⟩
      · have hT : bytesV l 0 n = (l.take n, l.drop n, 0) := by unfold bytesV; rw [if_neg (by omega), if_neg (by omega)]; simp
        rw [hT]
        have hnm : n ≤ m := by omega
        have hlt' : (l.take n).length = n := by simp; omega
        have hmk := make_any n (by omega) w
        have R0 := Row.new w n
        have B1 : Below w.heap.size w (w.alloc (.cells (madeCells #[.int .u8 0] n) 5)) := (Below.refl _ _).alloc (Nat.le_refl _) _
        have hqw : q < w.heap.size := by
          rcases Nat.lt_or_ge q w.heap.size with h | h
          · exact h
          · rw [Array.getElem?_eq_none h] at hq; cases hq
        obtain ⟨w1, hw1⟩ : ∃ w1, w1 = w.alloc (.cells (madeCells #[.int .u8 0] n) 5) := ⟨_, rfl⟩
        rw [← hw1] at R0 B1 hmk
        have k0 : w1.cell? ⟨q, 0, none⟩ = some (.slice (some ⟨g, off, none⟩) m cap) := (B1.cell hqw).trans c0
        have R1 : Rd w1 q (some ⟨g, off, none⟩) (l.take n) := fun hp => ⟨_, rfl, h3, fun j hj => by
          rw [B1.cell (by rw [block_add]; show g < _; omega)]
          have := h4 j (by simp at hj; omega)
          have e : (⟨g, off, none⟩ : Addr).add j = ⟨g, off + j, none⟩ := by unfold Addr.add; split <;> simp_all
          rw [e, this]; simp⟩
        have HM := Lib.hid hm
        have HQ := Lib.hid hq
        obtain ⟨X, hX⟩ : ∃ X, X = l.take n := ⟨_, rfl⟩
        rw [← hX] at hlt' R1 ⊢
        have HX := Lib.hid hX
        clear hX
        have HL := Lib.hid hlt'
        have H4 : Hid (∀ j (hj : j < l.length), w.cell? ⟨g, off + j, none⟩ = some (b8 l[j])) := h4
        clear hm hq hw1 h4 hT hlt'
        go_enter Try.func48, Try.ntmps48
        go_wp2_with (first | (go_at_call 39; refine c20.mono ?_; rintro e w' ⟨rfl, rfl⟩) | (with_reducible refine copy_row rfl (.tmp 25) (.tmp 29) rfl w.heap.size n m cap (some ⟨g, off, none⟩) rfl rfl X ?c1 _ R1 R0 w.heap.size w B1 (Nat.le_refl _) ?_))
        case c1 => rw [HL.out]; exact (Nat.min_eq_right hnm).symm
        intro w2 R2 B2
        rw [HL.out, Nat.sub_self, List.replicate_zero, List.append_nil] at R2
        have k2 : w2.cell? ⟨q, 0, none⟩ = some (.slice (some ⟨g, off, none⟩) m cap) := (B2.cell hqw).trans c0
        have f2 : w2.frozen? ⟨q, 0, none⟩ = false := (B2.frozen hqw).trans hf0'
        have Q2 : w2.heap[q]? = some (.cells #[.slice (some ⟨g, off, none⟩) l.length cap, .int .i64 (0 : Nat)] 72 (0, 0)) := (B2.block q hqw).trans HQ.out
        have C2 : ∀ j (hj : j < l.length), w2.cell? ⟨g, off + j, none⟩ = some (b8 l[j]) := fun j hj => (B2.cell (p := ⟨g, off + j, none⟩) (by show g < _; omega)).trans (H4.out j hj)
        have G2 : w.grownBy w2 (some q) := ⟨B2.os, B2.tape, B2.output, B2.size, fun i hi _ => B2.block i hi⟩
        clear k0 R1 R0 hmk B1
        have hmc : m ≤ cap := by rw [HM.out]; exact h1
        have hml : n ≤ l.length := by rw [← HM.out]; exact hnm
        by_cases e : cap = n
        · have P := pur_rest (k := n) Q2 h1 h2 h3 C2 hml (some ⟨g, off, none⟩) ⟨fun _ => rfl, fun h => absurd e h⟩
          have G3 := grown_trans G2 (grown_set w2 q 0 (.slice (some ⟨g, off, none⟩) (l.length - n) (cap - n)))
          have R3 : Row (w2.setCell ⟨q, 0, none⟩ (.slice (some ⟨g, off, none⟩) (l.length - n) (cap - n))) w.heap.size X := (heap_setCell_other w2 ⟨q, 0, none⟩ w.heap.size _ (by simp; omega)).trans R2
          rw [← HM.out, e, Nat.sub_self] at P G3 R3
          have HP := Lib.hid P
          have HG := Lib.hid G3
          have HR := Lib.hid R3
          clear P G3 R3 Q2 C2 R2
          go_wp2
          go_ret
          exact ⟨_, n, by rw [HL.out]; rfl, HR.out.rd, HP.out, HG.out⟩
        · have P := pur_rest (k := n) Q2 h1 h2 h3 C2 hml (some ⟨g, off + n, none⟩) ⟨fun h => absurd h e, fun _ => rfl⟩
          have G3 := grown_trans G2 (grown_set w2 q 0 (.slice (some ⟨g, off + n, none⟩) (l.length - n) (cap - n)))
          have R3 : Row (w2.setCell ⟨q, 0, none⟩ (.slice (some ⟨g, off + n, none⟩) (l.length - n) (cap - n))) w.heap.size X := (heap_setCell_other w2 ⟨q, 0, none⟩ w.heap.size _ (by simp; omega)).trans R2
          rw [← HM.out] at P G3 R3
          have HP := Lib.hid P
          have HG := Lib.hid G3
          have HR := Lib.hid R3
          clear P G3 R3 Q2 C2 R2
          go_wp2
          go_ret
          exact ⟨_, n, by rw [HL.out]; rfl, HR.out.rd, HP.out, HG.out⟩
    · have hT : bytesV l f n = ([], l, f) := by simp [bytesV, hf]
      rw [hT]
      have hb : (((f : Nat) : Int) != 0) = true := by simp; omega
      go_enter Try.func48, Try.ntmps48
      go_wp2_with (first | (go_at_call 39; refine c20.mono ?_; rintro e w' ⟨rfl, rfl⟩))
      go_ret
      exact ⟨none, 0, rfl, Rd.nil _ _ _, h, grown_drewN w 0 _⟩
end Go.Proofs.Ytecfblkagbdjlaa.Coin

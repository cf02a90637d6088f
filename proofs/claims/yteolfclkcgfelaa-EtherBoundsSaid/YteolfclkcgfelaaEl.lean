/- What the laws of the ether share. -/
import Derived.Test.YteolfclkcgfelaaEk
namespace Go.Proofs.Yteolfclkcgfelaa.Eth
open Go.ChangeShapes Go.WideShapes Go.ChangeAt Go.RowKit
open Coin (Rd Own b8 Row)
set_option maxRecDepth 8000
set_option linter.unusedVariables false
variable {lo : Nat} {w : World} {q : Nat} {H : Nat → Nat → Bool} {l : List Pk} {v : Value}

theorem snt_one (H : Nat → Nat → Bool) (a q : Nat) (d : List UInt8) (hq : q < 16) (h : ∀ b, b < 16 → H a b = decide (b = q)) : snt H a d 16 = [⟨a, q, d⟩] := by
  unfold snt
  have e : (List.range 16).filter (fun b => H a b) = (List.range 16).filter (fun b => decide (b = q)) := List.filter_congr fun b hb => h b (List.mem_range.1 hb)
  have e2 : ∀ q, q < 16 → (List.range 16).filter (fun b => decide (b = q)) = [q] := by decide
  rw [e, e2 q hq]
  rfl
theorem snt_none (H : Nat → Nat → Bool) (a : Nat) (d : List UInt8) (h : ∀ b, b < 16 → H a b = false) : snt H a d 16 = [] := by
  unfold snt
  rw [List.filter_eq_nil_iff.2 fun b hb => by rw [h b (List.mem_range.1 hb)]; exact Bool.false_ne_true]
  rfl
theorem upd_on {p q : Nat} (h : p ≠ q) (b : Nat) : upd H0 p q true p b = decide (b = q) := by
  unfold upd set1 H0
  by_cases e : b = q
  · subst e
    simp
  · simp [e, h]
theorem upd_off {p q : Nat} (h : p ≠ q) (b : Nat) : upd (upd H0 p q true) q p false p b = false := by
  have := upd_on h b
  show set1 (set1 (upd H0 p q true) q p false) p q false p b = false
  unfold set1
  by_cases e : b = q
  · subst e
    simp
  · rw [this]
    simp [e]
/-- Packets from p to q, of one byte each, which rises. -/
def Lst (p q i k : Nat) : List Pk := (List.range' i k).map fun j => ⟨p, q, [UInt8.ofNat j]⟩
theorem Lst_len (p q i k : Nat) : (Lst p q i k).length = k := by simp [Lst]
theorem Lst_snoc (p q k : Nat) : Lst p q 0 (k + 1) = Lst p q 0 k ++ [⟨p, q, [UInt8.ofNat k]⟩] := by
  unfold Lst
  rw [List.range'_concat, List.map_append]
  simp
theorem Lst_cons (p q i k : Nat) : Lst p q i (k + 1) = ⟨p, q, [UInt8.ofNat i]⟩ :: Lst p q (i + 1) k := by
  unfold Lst
  rw [List.range'_succ]
  rfl
theorem most_small {l : List Pk} (h : l.length ≤ 1024) : most l = l := by
  unfold most
  rw [show l.length - 1024 = 0 by omega]
  rfl
theorem own_cell {B : Nat} {u : Value} {b : UInt8} (h : Own w B u [b]) : ∃ g c, u = .slice (some ⟨g, 0, none⟩) 1 c ∧ w.cell? ⟨g, 0, none⟩ = some (b8 b) ∧ g < w.heap.size := by
  have hh := h
  obtain ⟨_, ⟨_, h0⟩ | ⟨g, cap, cur, rfl, _, hg, _⟩⟩ := h
  · exact absurd h0 (by simp)
  · exact ⟨g, cap, rfl, World.ownsRow.cellAt hh 0 (by simp), (Array.getElem?_eq_some_iff.1 hg).1⟩
/-- One byte goes out. -/
theorem send_one {w0 : World} (h : LW lo w0 w q H l v) (a : Nat) (ha : a < 16) (j : Nat) (hj : j < 256) (g : Nat) (fr : Nat × Nat) (hg : w.heap[g]? = some (.cells #[.int .u8 (j : Int)] 5 fr)) (hm : l.length ≤ 1000) :
    Calls Try.prog 9 #[.pointer (some ⟨q, 0, none⟩), .int .i64 (a : Int), .slice (some ⟨g, 0, none⟩) 1 1] w fun e w' => e = .returned (.int .i64 ((snt H a [UInt8.ofNat j] 16).length : Nat)) ∧ ∃ v', LW lo w0 w' q H (l ++ snt H a [UInt8.ofNat j] 16) v' ∧ EF w w' q v v' := by
  have hr : Rd w (g + 1) (some ⟨g, 0, none⟩) [UInt8.ofNat j] := fun h0 => ⟨_, rfl, Nat.lt_succ_self _, fun k hk => by
    have hk : k < 1 := hk
    obtain rfl : k = 0 := by omega
    rw [Coin.zero_add', cell_of_row _ g 0 _ 5 fr hg]
    exact congrArg some (Coin.b8_small j hj).symm⟩
  have := send_lw h a ha (some ⟨g, 0, none⟩) 1 (g + 1) [UInt8.ofNat j] hr (fun h => by cases h) (fun h => by cases h) (by simp) (by omega)
  rw [most_small (by have := snt_len H a [UInt8.ofNat j] 16; rw [List.length_append]; omega)] at this
  exact this
theorem take_lw {w0 : World} (h : LW lo w0 w q H l v) (hn : 0 < l.length) (hm : l.length ≤ 5000) (hd : ∀ x ∈ l, x.d.length ≤ 100000) (i : Int) : Calls Try.prog 13 #[.pointer (some ⟨q, 0, none⟩), .int .i64 i] w fun e w' => ∃ u v', e = .returned (.tuple #[pkV (l[plc i l.length]'(plc_lt i hn)) u, .int .i64 0]) ∧ Own w' w.heap.size u (l[plc i l.length]'(plc_lt i hn)).d ∧ LW lo w0 w' q H (rm l (plc i l.length)) v' ∧ EF w w' q v v' :=
  (Take_any h.e hn hm hd i).mono fun e w' ⟨u, v', h1, h2, h3, h4⟩ => ⟨u, v', h1, h2, h.ef h3 h4, h4⟩
theorem plc_zero (n : Nat) : plc 0 n = 0 := by unfold plc; simp
theorem rm_zero (x : Pk) (l : List Pk) : rm (x :: l) 0 = l := rfl
end Go.Proofs.Yteolfclkcgfelaa.Eth

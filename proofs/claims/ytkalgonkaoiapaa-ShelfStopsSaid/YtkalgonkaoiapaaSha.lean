/- What a shelf's small calls do: On, Used, Moves, Done, Arm, Room, act. -/
import Derived.Test.YtkalgonkaoiapaaShw
import Derived.Deep.Draws
import Derived.Handy
import Derived.BigQuiet
namespace Go.Proofs.Ytkalgonkaoiapaa.Shf
open Go.ChangeShapes Go.WideShapes Go.ChangeAt Go.RowKit

def ShV (m : M) (nv sv mv : Value) : Array Value := #[.int .i64 m.room, nv, sv, mv, .int .i64 (m.named : Int), .int .i64 (m.gone : Int), .int .i64 (m.done : Int), .bool m.armed, .int .i64 m.ahead, .bool m.fallen]
/-- The shelf's block. -/
def ShAt (w : World) (q : Nat) (m : M) (nv sv mv : Value) : Prop := w.heap[q]? = some (.cells (ShV m nv sv mv) 61 (0, 0))
theorem ShAt.cell {w : World} {q : Nat} {m : M} {nv sv mv : Value} (h : ShAt w q m nv sv mv) (i : Nat) : w.cell? ⟨q, i, none⟩ = (ShV m nv sv mv)[i]? := cell_of_row w q i _ 61 (0, 0) h
theorem ShAt.fz {w : World} {q : Nat} {m : M} {nv sv mv : Value} (h : ShAt w q m nv sv mv) (i : Nat) : w.frozen? ⟨q, i, none⟩ = false := frozen_of_row w q i _ 61 h
theorem ShAt.lt {w : World} {q : Nat} {m : M} {nv sv mv : Value} (h : ShAt w q m nv sv mv) : q < w.heap.size := (Array.getElem?_eq_some_iff.1 h).1
theorem ShAt.kept {w w' : World} {q : Nat} {m : M} {nv sv mv : Value} {row : Option Nat} (h : ShAt w q m nv sv mv) (hg : w.grownBy w' row) (hne : some q ≠ row) : ShAt w' q m nv sv mv := (hg.block q h.lt hne).trans h
theorem ShAt.set {w : World} {q : Nat} {m m' : M} {nv sv mv nv' sv' mv' : Value} (h : ShAt w q m nv sv mv) (i : Nat) (v : Value) (e : (ShV m nv sv mv).setIfInBounds i v = ShV m' nv' sv' mv') : ShAt (w.setCell ⟨q, i, none⟩ v) q m' nv' sv' mv' := by
  unfold ShAt; rw [heap_setCell_same w q i _ 61 _ h, e]
theorem grown_set (w : World) (q i : Nat) (v : Value) : w.grownBy (w.setCell ⟨q, i, none⟩ v) (some q) :=
  ⟨rfl, rfl, rfl, by simp [World.setCell], fun k _ hne => heap_setCell_other w ⟨q, i, none⟩ k v (fun e => hne (by rw [e]))⟩
theorem grown_drewN (w : World) (n : Nat) (r : Option Nat) : w.grownBy (w.drewN n) r := ⟨rfl, rfl, rfl, Nat.le_refl _, fun _ _ _ => rfl⟩

def M.act (m : M) : M := if m.fallen then m else if m.armed ∧ m.ahead = 0 then {m with fallen := true} else if m.armed then {m with ahead := m.ahead - 1, done := m.done + 1} else {m with done := m.done + 1}
def M.actE (m : M) : Nat := if m.fallen ∨ (m.armed ∧ m.ahead = 0) then 7 else 0

theorem on_any (w : World) (q : Nat) (m : M) (nv sv mv : Value) (h : ShAt w q m nv sv mv) : Calls Try.prog 22 #[.pointer (some ⟨q, 0, none⟩)] w fun e w' => e = .returned (.bool (!m.fallen)) ∧ w = w' := by
  have h9 : w.cell? ⟨q, 9, none⟩ = some (.bool m.fallen) := h.cell 9
  clear h
  go_enter Try.func22, Try.ntmps22
  go_wp2
  go_ret
  exact ⟨rfl, rfl⟩
theorem on_nil (w : World) : Calls Try.prog 22 #[.pointer none] w fun e w' => e = .returned (.bool false) ∧ w = w' := by
  go_enter Try.func22, Try.ntmps22
  go_wp2
  go_ret
  exact ⟨rfl, rfl⟩
theorem used_any (w : World) (q : Nat) (m : M) (nv sv mv : Value) (h : ShAt w q m nv sv mv) (hb : m.named + m.gone ≤ 1000000000000) : Calls Try.prog 30 #[.pointer (some ⟨q, 0, none⟩)] w fun e w' => e = .returned (.int .i64 ((m.named + m.gone : Nat) : Int)) ∧ ∃ k, w' = w.drewN k := by
  have h4 : w.cell? ⟨q, 4, none⟩ = some (.int .i64 (m.named : Int)) := h.cell 4
  have h5 : w.cell? ⟨q, 5, none⟩ = some (.int .i64 (m.gone : Int)) := h.cell 5
  clear h
  have hw : IntKind.i64.wrap ((m.named : Int) + (m.gone : Int)) = ((m.named + m.gone : Nat) : Int) := by rw [IntKind.wrap_i64] <;> omega
  go_enter Try.func30, Try.ntmps30
  go_wp2
  go_quiet (fail)
  go_wp2
  go_ret
  exact ⟨rfl, _, rfl⟩
theorem used_nil (w : World) : Calls Try.prog 30 #[.pointer none] w fun e w' => e = .returned (.int .i64 0) ∧ w = w' := by
  go_enter Try.func30, Try.ntmps30
  go_wp2
  go_ret
  exact ⟨rfl, rfl⟩
theorem moves_any (w : World) (q : Nat) (m : M) (nv sv : Value) (A : Option Addr) (n c : Nat) (h : ShAt w q m nv sv (.slice A n c)) : Calls Try.prog 31 #[.pointer (some ⟨q, 0, none⟩)] w fun e w' => e = .returned (.int .i64 (n : Int)) ∧ w = w' := by
  have h4 : w.cell? ⟨q, 3, none⟩ = some (.slice A n c) := h.cell 3
  clear h
  go_enter Try.func31, Try.ntmps31
  go_wp2
  go_ret
  exact ⟨rfl, rfl⟩
theorem moves_nil (w : World) : Calls Try.prog 31 #[.pointer none] w fun e w' => e = .returned (.int .i64 0) ∧ w = w' := by
  go_enter Try.func31, Try.ntmps31
  go_wp2
  go_ret
  exact ⟨rfl, rfl⟩
theorem done_any (w : World) (q : Nat) (m : M) (nv sv mv : Value) (h : ShAt w q m nv sv mv) : Calls Try.prog 21 #[.pointer (some ⟨q, 0, none⟩)] w fun e w' => e = .returned (.int .i64 (m.done : Int)) ∧ w = w' := by
  have h4 : w.cell? ⟨q, 6, none⟩ = some (.int .i64 (m.done : Int)) := h.cell 6
  clear h
  go_enter Try.func21, Try.ntmps21
  go_wp2
  go_ret
  exact ⟨rfl, rfl⟩
theorem done_nil (w : World) : Calls Try.prog 21 #[.pointer none] w fun e w' => e = .returned (.int .i64 0) ∧ w = w' := by
  go_enter Try.func21, Try.ntmps21
  go_wp2
  go_ret
  exact ⟨rfl, rfl⟩
def M.arm (m : M) (n : Int) : M := {m with armed := decide (0 ≤ n), ahead := n}
theorem arm_any (w : World) (q : Nat) (m : M) (nv sv mv : Value) (h : ShAt w q m nv sv mv) (n : Int) : Calls Try.prog 20 #[.pointer (some ⟨q, 0, none⟩), .int .i64 n] w fun e w' => e = .returned (.tuple #[]) ∧ ShAt w' q (m.arm n) nv sv mv ∧ w.grownBy w' (some q) := by
  have f7 := h.fz 7
  have f8 := h.fz 8
  have h7 : w.cell? ⟨q, 7, none⟩ = some (.bool m.armed) := h.cell 7
  have h8 : w.cell? ⟨q, 8, none⟩ = some (.int .i64 m.ahead) := h.cell 8
  have HS := Lib.hid ((h.set (m' := {m with armed := decide (0 ≤ n)}) 7 (.bool (decide (0 ≤ n))) rfl).set (m' := m.arm n) 8 (.int .i64 n) rfl)
  have HG := Lib.hid ((grown_set w q 7 (.bool (decide (0 ≤ n)))).trans (grown_set _ q 8 (.int .i64 n)))
  clear h
  go_enter Try.func20, Try.ntmps20
  go_wp2
  go_returns
  exact ⟨rfl, HS.out, HG.out⟩
theorem arm_nil (w : World) (n : Int) : Calls Try.prog 20 #[.pointer none, .int .i64 n] w fun e w' => e = .returned (.tuple #[]) ∧ w = w' := by
  go_enter Try.func20, Try.ntmps20
  go_wp2
  go_returns
  exact ⟨rfl, rfl⟩
theorem room_any (w : World) (q : Nat) (m : M) (nv sv mv : Value) (h : ShAt w q m nv sv mv) (n : Int) : Calls Try.prog 26 #[.pointer (some ⟨q, 0, none⟩), .int .i64 n] w fun e w' => e = .returned (.tuple #[]) ∧ ShAt w' q {m with room := n} nv sv mv ∧ w.grownBy w' (some q) := by
  have f7 := h.fz 0
  have h0 : w.cell? ⟨q, 0, none⟩ = some (.int .i64 m.room) := h.cell 0
  have HS := Lib.hid (h.set (m' := {m with room := n}) 0 (.int .i64 n) rfl)
  have HG := Lib.hid (grown_set w q 0 (.int .i64 n))
  clear h
  go_enter Try.func26, Try.ntmps26
  go_wp2
  go_returns
  exact ⟨rfl, HS.out, HG.out⟩
theorem room_nil (w : World) (n : Int) : Calls Try.prog 26 #[.pointer none, .int .i64 n] w fun e w' => e = .returned (.tuple #[]) ∧ w = w' := by
  go_enter Try.func26, Try.ntmps26
  go_wp2
  go_returns
  exact ⟨rfl, rfl⟩
theorem act_nil (w : World) : Calls Try.prog 32 #[.pointer none] w fun e w' => e = .returned (.int .i64 7) ∧ w = w' := by
  go_enter Try.func32, Try.ntmps32
  go_wp2_with (first | (go_at_call 22; refine (on_nil _).mono ?_; rintro e w' ⟨rfl, rfl⟩))
  go_ret
  exact ⟨rfl, rfl⟩
theorem act_any (w : World) (q : Nat) (m : M) (nv sv mv : Value) (h : ShAt w q m nv sv mv) (hd : m.done < 1000000000000) (ha : m.armed = true → 0 ≤ m.ahead ∧ m.ahead < 9223372036854775808) :
    Calls Try.prog 32 #[.pointer (some ⟨q, 0, none⟩)] w fun e w' => e = .returned (.int .i64 (m.actE : Int)) ∧ ShAt w' q m.act nv sv mv ∧ w.grownBy w' (some q) := by
  have c22 := on_any w q m nv sv mv h
  have h6 : w.cell? ⟨q, 6, none⟩ = some (.int .i64 (m.done : Int)) := h.cell 6
  have h7 : w.cell? ⟨q, 7, none⟩ = some (.bool m.armed) := h.cell 7
  have h8 : w.cell? ⟨q, 8, none⟩ = some (.int .i64 m.ahead) := h.cell 8
  have h9 : w.cell? ⟨q, 9, none⟩ = some (.bool m.fallen) := h.cell 9
  have f6 := h.fz 6
  have f8 := h.fz 8
  have f9 := h.fz 9
  have HW := Lib.hid h
  have hw : IntKind.i64.wrap ((m.done : Int) + 1) = (m.done : Int) + 1 := by rw [IntKind.wrap_i64] <;> omega
  clear h
  by_cases hf : m.fallen = true
  · rw [show m.actE = 7 by simp [M.actE, hf], show m.act = m by simp [M.act, hf]]
    rw [hf] at c22
    go_enter Try.func32, Try.ntmps32
    go_wp2_with (first | (go_at_call 22; refine c22.mono ?_; rintro e w' ⟨rfl, rfl⟩))
    go_ret
    exact ⟨rfl, HW.out, World.grownBy.refl _ _⟩
  · have hf : m.fallen = false := by simpa using hf
    rw [hf] at c22
    by_cases hA : m.armed = true
    · rw [hA] at h7
      by_cases h0 : m.ahead = 0
      · rw [show m.actE = 7 by simp [M.actE, hA, h0], show m.act = {m with fallen := true} by simp [M.act, hf, hA, h0]]
        rw [h0] at h8
        have HS := Lib.hid (HW.out.set (m' := {m with fallen := true}) 9 (.bool true) rfl)
        go_enter Try.func32, Try.ntmps32
        go_wp2_with (first | (go_at_call 22; refine c22.mono ?_; rintro e w' ⟨rfl, rfl⟩))
        go_ret
        exact ⟨rfl, HS.out, grown_set _ _ _ _⟩
      · rw [show m.actE = 0 by simp [M.actE, hf, h0], show m.act = {m with ahead := m.ahead - 1, done := m.done + 1} by simp [M.act, hf, hA, h0]]
        have ha := ha hA
        have hw8 : IntKind.i64.wrap (m.ahead - 1) = m.ahead - 1 := by rw [IntKind.wrap_i64] <;> omega
        have h0' : (m.ahead == 0) = false := by simp [h0]
        have HS := Lib.hid ((HW.out.set (m' := {m with ahead := m.ahead - 1}) (nv' := nv) (sv' := sv) (mv' := mv) 8 (.int .i64 (m.ahead - 1)) rfl).set (m' := {m with ahead := m.ahead - 1, done := m.done + 1}) (nv' := nv) (sv' := sv) (mv' := mv) 6 (.int .i64 ((m.done : Int) + 1)) (by simp [ShV]))
        have HG := Lib.hid ((grown_set w q 8 (.int .i64 (m.ahead - 1))).trans (grown_set _ q 6 (.int .i64 ((m.done : Int) + 1))))
        go_enter Try.func32, Try.ntmps32
        go_wp2_with (first | (go_at_call 22; refine c22.mono ?_; rintro e w' ⟨rfl, rfl⟩))
        go_ret
        exact ⟨rfl, HS.out, HG.out⟩
    · have hA : m.armed = false := by simpa using hA
      rw [hA] at h7
      rw [show m.actE = 0 by simp [M.actE, hf, hA], show m.act = {m with done := m.done + 1} by simp [M.act, hf, hA]]
      have HS := Lib.hid (HW.out.set (m' := {m with done := m.done + 1}) (nv' := nv) (sv' := sv) (mv' := mv) 6 (.int .i64 ((m.done : Int) + 1)) (by simp [ShV]))
      go_enter Try.func32, Try.ntmps32
      go_wp2_with (first | (go_at_call 22; refine c22.mono ?_; rintro e w' ⟨rfl, rfl⟩))
      go_ret
      exact ⟨rfl, HS.out, grown_set _ _ _ _⟩
end Go.Proofs.Ytkalgonkaoiapaa.Shf

/- More than may be under way. -/
import Derived.Test.YteolfclkcgfelaaEl
namespace Go.Proofs.Yteolfclkcgfelaa.Eth
open Go.ChangeShapes Go.WideShapes Go.ChangeAt Go.RowKit
open Coin (Rd Own b8 Row)
set_option maxRecDepth 8000
set_option linter.unusedVariables false
variable {lo : Nat} {w : World} {q : Nat} {H : Nat → Nat → Bool} {l : List Pk} {v : Value}

def pk2 (j : Nat) : Pk := ⟨0, 1, [UInt8.ofNat j, UInt8.ofNat (j / 256)]⟩
/-- The last ones of so many. -/
def Lw (i : Nat) : List Pk := (List.range' (i - 1024) (min i 1024)).map pk2
theorem Lw_len (i : Nat) : (Lw i).length = min i 1024 := by simp [Lw]
theorem Lw_next (i : Nat) : most (Lw i ++ [pk2 i]) = Lw (i + 1) := by
  have e : Lw i ++ [pk2 i] = (List.range' (i - 1024) (min i 1024 + 1)).map pk2 := by
    unfold Lw
    rw [List.range'_concat, List.map_append, show i - 1024 + 1 * min i 1024 = i by omega]
    rfl
  rw [e]
  unfold most Lw
  rw [List.length_map, List.length_range', ← List.map_drop]
  congr 1
  by_cases h : i < 1024
  · rw [show min i 1024 + 1 - 1024 = 0 by omega, List.drop_zero, show i + 1 - 1024 = i - 1024 by omega, show min (i + 1) 1024 = min i 1024 + 1 by omega]
  · rw [show min i 1024 + 1 - 1024 = 1 by omega, show min i 1024 + 1 = 1024 + 1 by omega, List.range'_succ, List.drop_succ_cons, List.drop_zero, show i + 1 - 1024 = i - 1024 + 1 by omega, show min (i + 1) 1024 = 1024 by omega]
theorem Lw_head (i : Nat) (h : 0 < (Lw i).length) : (Lw i)[0] = pk2 (i - 1024) := by
  have h1 : 0 < min i 1024 := by rw [← Lw_len]; exact h
  have e : (Lw i)[0]? = some (pk2 (i - 1024)) := by
    unfold Lw
    obtain ⟨m, hm⟩ : ∃ m, min i 1024 = m + 1 := ⟨min i 1024 - 1, by omega⟩
    rw [hm, List.range'_succ]
    rfl
  exact (List.getElem?_eq_some_iff.1 e).2
theorem Lw_d (i : Nat) : ∀ x ∈ Lw i, x.d.length ≤ 100000 := fun x hx => by
  obtain ⟨j, _, rfl⟩ := List.mem_map.1 hx
  simp [pk2]
theorem own_cell2 {B : Nat} {u : Value} {b c : UInt8} (h : Own w B u [b, c]) : ∃ g k, u = .slice (some ⟨g, 0, none⟩) 2 k ∧ w.cell? ⟨g, 0, none⟩ = some (b8 b) ∧ w.cell? ⟨g, 1, none⟩ = some (b8 c) ∧ g < w.heap.size := by
  have hh := h
  obtain ⟨_, ⟨_, h0⟩ | ⟨g, cap, cur, rfl, _, hg, _⟩⟩ := h
  · exact absurd h0 (by simp)
  · exact ⟨g, cap, rfl, World.ownsRow.cellAt hh 0 (by simp), World.ownsRow.cellAt hh 1 (by simp), (Array.getElem?_eq_some_iff.1 hg).1⟩
theorem H1_on (b : Nat) : H1 0 b = decide (b = 1) := upd_on (p := 0) (q := 1) (by decide) b
/-- Two bytes go out. -/
theorem send_two {w0 : World} (j : Nat) (h : LW lo w0 w q H1 (Lw j) v) (hj : j < 65536) (g : Nat) (hg : w.heap[g]? = some (.cells #[.int .u8 ((j % 256 : Nat) : Int), .int .u8 ((j / 256 : Nat) : Int)] 5 (0, 0))) :
    Calls Try.prog 9 #[.pointer (some ⟨q, 0, none⟩), .int .i64 0, .slice (some ⟨g, 0, none⟩) 2 2] w fun e w' => ∃ z, e = .returned (.int .i64 z) ∧ ∃ v', LW lo w0 w' q H1 (Lw (j + 1)) v' := by
  have hr : Rd w (g + 1) (some ⟨g, 0, none⟩) [UInt8.ofNat j, UInt8.ofNat (j / 256)] := fun h0 => ⟨_, rfl, Nat.lt_succ_self _, fun k hk => by
    have hk : k < 2 := hk
    have hk : k = 0 ∨ k = 1 := by omega
    rcases hk with rfl | rfl
    · rw [Coin.zero_add', cell_of_row _ g 0 _ 5 _ hg]
      refine congrArg some (Eq.symm ?_)
      rw [List.getElem_cons_zero, Coin.b8_ofNat]
      congr 1
    · rw [Coin.zero_add', cell_of_row _ g 1 _ 5 _ hg]
      refine congrArg some (Eq.symm ?_)
      exact Coin.b8_small (j / 256) (by omega)⟩
  refine (send_lw h 0 (by decide) (some ⟨g, 0, none⟩) 2 (g + 1) [UInt8.ofNat j, UInt8.ofNat (j / 256)] hr (fun h => by cases h) (fun h => by cases h) (by simp) (by rw [Lw_len]; omega)).mono ?_
  rintro e w' ⟨h1, v', h2, _⟩
  rw [snt_one H1 0 1 _ (by decide) (fun b _ => H1_on b)] at h2
  have e2 := Lw_next j
  unfold pk2 at e2
  rw [e2] at h2
  exact ⟨_, h1, v', h2⟩
end Go.Proofs.Yteolfclkcgfelaa.Eth

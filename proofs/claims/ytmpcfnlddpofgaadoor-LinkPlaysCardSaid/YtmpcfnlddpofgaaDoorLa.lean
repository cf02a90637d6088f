/- Links: the table of math/bits, single bits, and what a link is in memory. -/
import Derived.Test.YtmpcfnlddpofgaaDoorRows
import Derived.WalkKit
import Derived.ProofKit
import Derived.OpenShut
import Derived.WalkLawsBesides
import Derived.Lib.Hide
import Derived.Lib.LaidTab
import Derived.Lib.TrailingZeros
import Derived.Laws.BitsAllLaws
import Derived.Laws.OwnMore
import Derived.Below
import Derived.BigQuiet
import Derived.Deep.QuietTactic
import Derived.StillTailTactics
namespace Go.Proofs.YtmpcfnlddpofgaaDoor.Lk
open Go.ChangeShapes Go.WideShapes Go.ChangeAt Go.RowKit

theorem ret_bool {a b : Bool} (h : a = b) : Ending.returned (.bool a) = .returned (.bool b) := by rw [h]
theorem ret_int {k : IntKind} {a b : Int} (h : a = b) : Ending.returned (.int k a) = .returned (.int k b) := by rw [h]
theorem bcell {W w1 : World} (hb : Below W.heap.size W w1) : (∀ b o, b < W.heap.size → w1.cell? ⟨b, o, none⟩ = W.cell? ⟨b, o, none⟩) ∧ (∀ b o, b < W.heap.size → w1.frozen? ⟨b, o, none⟩ = W.frozen? ⟨b, o, none⟩) :=
  ⟨fun b o h => hb.cell (p := ⟨b, o, none⟩) h, fun b o h => hb.frozen (p := ⟨b, o, none⟩) h⟩
theorem bstep {w W w1 : World} (h : Below w.heap.size w W) (hb : Below W.heap.size W w1) : Below w.heap.size w w1 := h.trans (hb.mono h.size)

/-- The table that TrailingZeros16 reads, in its variable. -/
def Tab (w : World) : Prop := Lib.TabIs Tryd.prog w "math/bits.deBruijn32tab" .u8 (Lib.deBruijn32tab.map fun n => ((n : Nat) : Int))

theorem tab_cell {w : World} (h : Tab w) (i : Nat) (hi : i < 32) : w.cell? ⟨0, i, none⟩ = some (.int .u8 ((Lib.deBruijn32tab.getD i 0 : Nat) : Int)) := by
  have hl : (Lib.deBruijn32tab.map fun n => ((n : Nat) : Int)).length = 32 := by decide
  have := Lib.TabIs.cell h (g := 0) (by kernel_rfl) i (by rw [hl]; exact hi)
  rw [this]
  have hl2 : Lib.deBruijn32tab.length = 32 := by decide
  have hi2 : i < Lib.deBruijn32tab.length := by omega
  simp [List.getD_eq_getElem?_getD, List.getElem?_eq_getElem hi2]
theorem tab_size {w : World} (h : Tab w) : 0 < w.heap.size := by
  unfold Tab Lib.TabIs World.var? at h
  rw [show Tryd.prog.globalNamed "math/bits.deBruijn32tab" = some 0 by kernel_rfl] at h
  simp only [Option.bind_some] at h
  rcases Nat.eq_zero_or_pos w.heap.size with h0 | h0
  · rw [Array.getElem?_eq_none (by omega)] at h; cases h
  · exact h0
theorem tab_keep {w w' : World} (h : Tab w) (hb : w'.heap[0]? = w.heap[0]?) : Tab w' := by
  unfold Tab Lib.TabIs World.var? at h ⊢
  rw [show Tryd.prog.globalNamed "math/bits.deBruijn32tab" = some 0 by kernel_rfl] at h ⊢
  simp only [Option.bind_some] at h ⊢
  rw [hb]; exact h
theorem tab_below {w w' : World} {B : Nat} (h : Tab w) (hb : Below B w w') (h0 : 0 < B) : Tab w' := tab_keep h (hb.block 0 h0)
theorem tab_grown {w w' : World} {q : Nat} (h : Tab w) (hg : w.grownBy w' (some q)) (hq : 0 < q) : Tab w' := tab_keep h (hg.block 0 (tab_size h) (by simp; omega))

theorem bits_and_u16_nat (a b : Nat) (ha : a < 65536) (hb : b < 65536) : bits .and .u16 (a : Int) (b : Int) = ((a &&& b : Nat) : Int) := by
  have hx : a &&& b < 2 ^ 16 := Nat.and_lt_two_pow _ (by omega)
  have h1 : (BitVec.ofInt 16 (a : Int)).toNat = a := by
    rw [BitVec.ofInt_natCast, BitVec.toNat_ofNat]; exact Nat.mod_eq_of_lt (by omega)
  have h2 : (BitVec.ofInt 16 (b : Int)).toNat = b := by
    rw [BitVec.ofInt_natCast, BitVec.toNat_ofNat]; exact Nat.mod_eq_of_lt (by omega)
  show IntKind.u16.wrap ((BitVec.ofInt 16 (a : Int) &&& BitVec.ofInt 16 (b : Int)).toNat : Int) = _
  rw [BitVec.toNat_and, h1, h2, IntKind.wrap_u16]
  omega
theorem bits_or_one (a : Nat) (ha : a < 65536) (h2 : a % 2 = 0) : bits .or .u16 (a : Int) 1 = ((a + 1 : Nat) : Int) := by
  have h1 : (BitVec.ofInt 16 (a : Int)).toNat = a := by
    rw [BitVec.ofInt_natCast, BitVec.toNat_ofNat]; exact Nat.mod_eq_of_lt (by omega)
  show IntKind.u16.wrap ((BitVec.ofInt 16 (a : Int) ||| BitVec.ofInt 16 1).toNat : Int) = _
  rw [BitVec.toNat_or, h1, show (BitVec.ofInt 16 1).toNat = 1 by decide, IntKind.wrap_u16]
  have e : a ||| 1 = a + 1 := by
    have h3 := Nat.two_pow_add_eq_or_of_lt (i := 1) (b := 1) (by decide) (a / 2)
    rw [show 2 ^ 1 * (a / 2) = a by omega] at h3
    exact h3.symm
  rw [e]; omega

theorem tz16_key (x a : Nat) (hx : x < 65536) (hx0 : x ≠ 0) (hlow : x &&& (65536 - x) = a) :
    bits BinOp.and IntKind.u16 (x : Int) (IntKind.u16.wrap (-(x : Int))) = (a : Int) := by
  have e1 : IntKind.u16.wrap (-(x : Int)) = ((65536 - x : Nat) : Int) := by rw [IntKind.wrap_u16]; omega
  rw [e1, bits_and_u16_nat x _ hx (by omega), hlow]

theorem tz16_zero (w : World) : Calls Tryd.prog 18 #[.int .u16 0] w fun e w' => e = .returned (.int .i64 16) ∧ w = w' := by
  go_enter Tryd.func18, Tryd.ntmps18
  go_wp2
  go_ret
  exact ⟨rfl, rfl⟩
set_option maxHeartbeats 1000000 in
theorem tz16_core (x k idx : Nat) (w : World) (hx0 : ((x : Int) == 0) = false)
    (key : bits BinOp.and IntKind.u16 (x : Int) (IntKind.u16.wrap (-(x : Int))) % 4294967296 * 125613361 % 4294967296 / 134217728 = (idx : Int))
    (hi : idx < 32) (hcell : w.cell? ⟨0, idx, none⟩ = some (.int .u8 k)) (hk : k < 32) :
    Calls Tryd.prog 18 #[.int .u16 x] w fun e w' => e = .returned (.int .i64 k) ∧ w = w' := by
  go_enter Tryd.func18, Tryd.ntmps18
  go_wp2_with (simp only [key])
  go_ret
  exact ⟨rfl, rfl⟩
theorem tz16_any (x : Nat) (hx : x < 65536) (w : World) (hT : Tab w) :
    Calls Tryd.prog 18 #[.int .u16 x] w fun e w' => e = .returned (.int .i64 (Lib.ctz 16 x : Nat)) ∧ w = w' := by
  by_cases hx0 : x = 0
  · subst hx0
    exact tz16_zero w
  · obtain ⟨hlow, hk⟩ := Lib.lowest_bit 16 x hx0 hx
    obtain ⟨hi, htab⟩ := Lib.deBruijn32_at (Lib.ctz 16 x) (by omega)
    have hcell := tab_cell hT _ hi
    rw [htab] at hcell
    have hlt : 2 ^ Lib.ctz 16 x < 65536 := Nat.pow_lt_pow_right (n := 16) (a := 2) (by decide) hk
    have key := tz16_key x _ hx hx0 hlow
    refine tz16_core x _ _ w (by simp; omega) ?_ hi hcell (by omega)
    rw [key]
    exact (show ∀ z : Nat, z < 65536 → (z : Int) % 4294967296 * 125613361 % 4294967296 / 134217728 = ((z * 125613361 % 4294967296 / 134217728 : Nat) : Int) by intro z hz; omega) _ hlt

set_option maxRecDepth 100000 in
theorem pop_any (k : Nat) (hk : k < 8) (w : World) :
    Calls Tryd.prog 17 #[.int .u16 ((8192 * k : Nat) : Int)] w fun e w' => e = .returned (.int .i64 ((k % 2 + k / 2 % 2 + k / 4 : Nat) : Int)) ∧ ∃ n, w' = w.drewN n := by
  have b0 : bits .and .u16 0 255 = 0 := by decide +kernel
  have b1 : bits .and .u16 8192 255 = 0 := by decide +kernel
  have b2 : bits .and .u16 16384 255 = 0 := by decide +kernel
  have b3 : bits .and .u16 24576 255 = 0 := by decide +kernel
  have b4 : bits .and .u16 32768 255 = 0 := by decide +kernel
  have b5 : bits .and .u16 40960 255 = 0 := by decide +kernel
  have b6 : bits .and .u16 49152 255 = 0 := by decide +kernel
  have b7 : bits .and .u16 57344 255 = 0 := by decide +kernel
  rcases (by omega : k = 0 ∨ k = 1 ∨ k = 2 ∨ k = 3 ∨ k = 4 ∨ k = 5 ∨ k = 6 ∨ k = 7) with rfl | rfl | rfl | rfl | rfl | rfl | rfl | rfl
  all_goals
    go_enter Tryd.func17, Tryd.ntmps17
    go_wp2
    go_quiet (fail)
    go_wp2
    go_ret
    exact ⟨rfl, ⟨_, rfl⟩⟩
end Go.Proofs.YtmpcfnlddpofgaaDoor.Lk

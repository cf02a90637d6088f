/- Contracts: isNode, known, Right. -/
import Derived.Test.YtecfblkagbdjlaaMa
import Derived.Laws.StructEq
import Derived.Deep.DeepCutAuto
import Derived.Deep.CutBlock
import Derived.Deep.RegionHeld3
import Derived.Maps.AppendAt
namespace Go.Proofs.Ytecfblkagbdjlaa.Msg
open Go.ChangeShapes Go.WideShapes Go.ChangeAt Go.RowKit
set_option maxRecDepth 8000

theorem node_any (n : Int) (w : World) : Calls Try.prog 25 #[.int .i64 n] w fun e w' => e = .returned (.bool (isNd n)) ∧ w = w' := by
  unfold isNd
  by_cases h0 : 0 ≤ n
  · go_enter Try.func25, Try.ntmps25
    go_wp2
    go_ret
    exact ⟨Pre.ret_bool (by simp [h0]), rfl⟩
  · go_enter Try.func25, Try.ntmps25
    go_wp2
    go_ret
    exact ⟨Pre.ret_bool (by simp; omega), rfl⟩
def isKnown (k : Nat) : Bool := decide (1 ≤ k) && decide (k ≤ 4)
theorem known_any (k : Nat) (w : World) : Calls Try.prog 42 #[.int .u8 (k : Int)] w fun e w' => e = .returned (.bool (isKnown k)) ∧ w = w' := by
  unfold isKnown
  by_cases h0 : 1 ≤ k
  · go_enter Try.func42, Try.ntmps42
    go_wp2
    go_ret
    exact ⟨Pre.ret_bool (by simp [h0]; omega), rfl⟩
  · go_enter Try.func42, Try.ntmps42
    go_wp2
    go_ret
    exact ⟨Pre.ret_bool (by have : k = 0 := by omega
                            subst this; rfl), rfl⟩
theorem right1 (n a l s m : Nat) (d : Int) (ha : a < 4294967296) (hl : l ≤ 255) (w : World) : Calls Try.prog 13 #[.agg #[.int .u8 1, .int .u64 (n : Int), .int .i64 d, .int .u32 (a : Int), .int .u8 (l : Int), .int .u16 (s : Int), .int .u16 (m : Int)]] w fun e w' => e = .returned (.bool (d == 0 && (a == 0 && (l == 0 && (s == 0 && (m == 0 && decide (n ≤ 4294967295))))))) ∧ Below w.heap.size w w' := by
  have hnd := node_any d
  have hpr := fun W => Pre.right_any a l ha hl W
  generalize isNd d = nd at *
  generalize Pre.right a l = pr at *
  have H := Lib.hid (And.intro hnd hpr)
  clear hnd hpr
  go_enter Try.func13, Try.ntmps13
  go_wp2
  all_goals (go_ret; exact ⟨Pre.ret_bool (by first | (simp; done) | (simp; omega) | (simp_all; done) | (simp_all; omega)), (Below.refl _ _).alloc (Nat.le_refl _) _⟩)
theorem right2 (n a l s m : Nat) (d : Int) (ha : a < 4294967296) (hl : l ≤ 255) (w : World) : Calls Try.prog 13 #[.agg #[.int .u8 2, .int .u64 (n : Int), .int .i64 d, .int .u32 (a : Int), .int .u8 (l : Int), .int .u16 (s : Int), .int .u16 (m : Int)]] w fun e w' => e = .returned (.bool (n == 0 && (a == 0 && (l == 0 && (s == 0 && isNd d))))) ∧ Below w.heap.size w w' := by
  have hnd := node_any d
  have hpr := fun W => Pre.right_any a l ha hl W
  generalize isNd d = nd at *
  generalize Pre.right a l = pr at *
  have H := Lib.hid (And.intro hnd hpr)
  clear hnd hpr
  go_enter Try.func13, Try.ntmps13
  go_wp2_with (first | (go_at_call 25; (with_reducible refine (H.out.1 _).mono ?_); rintro e w1 ⟨rfl, rfl⟩))
  all_goals (go_ret; exact ⟨Pre.ret_bool (by first | (simp; done) | (simp; omega) | (simp_all; done) | (simp_all; omega)), (Below.refl _ _).alloc (Nat.le_refl _) _⟩)
theorem right3 (n a l s m : Nat) (d : Int) (ha : a < 4294967296) (hl : l ≤ 255) (w : World) : Calls Try.prog 13 #[.agg #[.int .u8 3, .int .u64 (n : Int), .int .i64 d, .int .u32 (a : Int), .int .u8 (l : Int), .int .u16 (s : Int), .int .u16 (m : Int)]] w fun e w' => e = .returned (.bool (n == 0 && (isNd d && Pre.right a l))) ∧ Below w.heap.size w w' := by
  have hnd := node_any d
  have hpr := fun W => Pre.right_any a l ha hl W
  generalize isNd d = nd at *
  generalize Pre.right a l = pr at *
  have H := Lib.hid (And.intro hnd hpr)
  clear hnd hpr
  go_enter Try.func13, Try.ntmps13
  go_wp2_with (first | (go_at_call 25; (with_reducible refine (H.out.1 _).mono ?_); rintro e w1 ⟨rfl, rfl⟩) | (go_at_call 26; (with_reducible refine (H.out.2 _).mono ?_); rintro e w2 ⟨rfl, B2⟩; have HB2 := Lib.hid (((Below.refl w.heap.size w).alloc (Nat.le_refl _) _).trans (B2.mono (by simp))); clear B2))
  all_goals (go_ret; exact ⟨Pre.ret_bool (by first | (simp; done) | (simp; omega) | (simp_all; done) | (simp_all; omega)), by first | exact HB2.out | exact (Below.refl _ _).alloc (Nat.le_refl _) _⟩)
theorem right4 (n a l s m : Nat) (d : Int) (ha : a < 4294967296) (hl : l ≤ 255) (w : World) : Calls Try.prog 13 #[.agg #[.int .u8 4, .int .u64 (n : Int), .int .i64 d, .int .u32 (a : Int), .int .u8 (l : Int), .int .u16 (s : Int), .int .u16 (m : Int)]] w fun e w' => e = .returned (.bool (d == 0 && (m == 0 && (Pre.right a l && decide (n ≤ 64))))) ∧ Below w.heap.size w w' := by
  have hnd := node_any d
  have hpr := fun W => Pre.right_any a l ha hl W
  generalize isNd d = nd at *
  generalize Pre.right a l = pr at *
  have H := Lib.hid (And.intro hnd hpr)
  clear hnd hpr
  go_enter Try.func13, Try.ntmps13
  go_wp2_with (first | (go_at_call 26; (with_reducible refine (H.out.2 _).mono ?_); rintro e w2 ⟨rfl, B2⟩; have HB2 := Lib.hid (((Below.refl w.heap.size w).alloc (Nat.le_refl _) _).trans (B2.mono (by simp))); have k1 : w2.cell? ⟨w.heap.size, 1, none⟩ = some (.int .u64 (n : Int)) := (by rw [World.cell?_of_block (B2.block w.heap.size (by simp)), cell_of_row _ w.heap.size 1 _ 28 (0, 0) (heap_alloc_new w _)]; rfl); clear B2))
  all_goals (go_ret; exact ⟨Pre.ret_bool (by first | (simp; done) | (simp; omega) | (simp_all; done) | (simp_all; omega)), by first | exact HB2.out | exact (Below.refl _ _).alloc (Nat.le_refl _) _⟩)
theorem right0 (k n a l s m : Nat) (d : Int) (h1 : k ≠ 1) (h2 : k ≠ 2) (h3 : k ≠ 3) (h4 : k ≠ 4) (w : World) : Calls Try.prog 13 #[.agg #[.int .u8 (k : Int), .int .u64 (n : Int), .int .i64 d, .int .u32 (a : Int), .int .u8 (l : Int), .int .u16 (s : Int), .int .u16 (m : Int)]] w fun e w' => e = .returned (.bool false) ∧ Below w.heap.size w w' := by
  have B0 := Lib.hid ((Below.refl w.heap.size w).alloc (Nat.le_refl _) (.cells #[.int .u8 (k : Int), .int .u64 (n : Int), .int .i64 d, .int .u32 (a : Int), .int .u8 (l : Int), .int .u16 (s : Int), .int .u16 (m : Int)] 28))
  have e1 : ((k : Int) == 1) = false := by simp; omega
  have e2 : ((k : Int) == 2) = false := by simp; omega
  have e3 : ((k : Int) == 3) = false := by simp; omega
  have e4 : ((k : Int) == 4) = false := by simp; omega
  go_enter Try.func13, Try.ntmps13
  go_wp2
  go_ret
  exact ⟨rfl, B0.out⟩
theorem right_any (x : Pt) (hx : x.Fits) (w : World) : Calls Try.prog 13 #[.agg x.cl.toArray] w fun e w' => e = .returned (.bool x.rt) ∧ Below w.heap.size w w' := by
  obtain ⟨k, n, d, a, l, s, m⟩ := x
  have h1 := hx.k
  have h2 := hx.a
  have h3 := hx.l
  simp only at h1 h2 h3
  show Calls Try.prog 13 #[.agg #[.int .u8 (k : Int), .int .u64 (n : Int), .int .i64 d, .int .u32 (a : Int), .int .u8 (l : Int), .int .u16 (s : Int), .int .u16 (m : Int)]] w _
  unfold Pt.rt
  simp only
  repeat' split
  · rename_i h; subst h; exact right1 n a l s m d h2 (by omega) w
  · rename_i h; subst h; exact right2 n a l s m d h2 (by omega) w
  · rename_i h; subst h; exact right3 n a l s m d h2 (by omega) w
  · rename_i h; subst h; exact right4 n a l s m d h2 (by omega) w
  · exact right0 k n a l s m d (by assumption) (by assumption) (by assumption) (by assumption) w
end Go.Proofs.Ytecfblkagbdjlaa.Msg

/- The document's right, and near. -/
import Derived.Test.YtecfblkagbdjlaaMn
namespace Go.Proofs.Ytecfblkagbdjlaa.Msg
open Go.ChangeShapes Go.WideShapes Go.ChangeAt Go.RowKit
open Coin (coin sz b8 Rd Row Own CoinOwn put_any sz_le length_coin rcoin_own app_any info5 one_b8)
set_option maxRecDepth 8000
set_option linter.unusedVariables false

theorem intz (n : Nat) : ((n : Int) == 0) = (n == 0) := by rw [Bool.eq_iff_iff]; simp
set_option maxHeartbeats 1000000 in
theorem rrt1 (n a l s m : Nat) (d : Int) (ha : a < 4294967296) (hl : l ≤ 255) (w : World) : Calls Try.prog 10 #[.agg #[.int .u8 1, .int .u64 (n : Int), .int .i64 d, .int .u32 (a : Int), .int .u8 (l : Int), .int .u16 (s : Int), .int .u16 (m : Int)]] w fun e w' => e = .returned (.bool (d == 0 && (a == 0 && (l == 0 && (s == 0 && (m == 0 && decide (n ≤ 4294967295))))))) ∧ Below w.heap.size w w' := by
  have hpr := fun W => Pre.rright_any a l ha hl W
  generalize Pre.right a l = pr at *
  have H := Lib.hid hpr
  clear hpr
  obtain ⟨t, ht⟩ : ∃ t, t = n % 4294967296 := ⟨_, rfl⟩
  have HT : Hid ((n = t) ↔ n ≤ 4294967295) := ⟨fun h => by omega, fun h => by omega⟩
  have ht1 : (n : Int).tmod 4294967296 = t := by rw [Int.tmod_eq_emod_of_nonneg (by omega)]; omega
  have ht2 : IntKind.u64.wrap (t : Int) = t := by rw [wrap_u64]; omega
  have ht3 : (n : Int) % 4294967296 = t := by omega
  clear ht
  go_enter Try.func10, Try.ntmps10
  go_wp2
  all_goals (go_ret; exact ⟨Pre.ret_bool (by first | (simp; done) | (simp; omega) | (simp_all; done) | (simp_all; omega) | (rw [intz]; simp_all; done) | (rw [intz]; simp_all; omega)), by first | exact HB2.out | exact (Below.refl _ _).alloc (Nat.le_refl _) _⟩)
set_option maxHeartbeats 1000000 in
theorem rrt2 (n a l s m : Nat) (d : Int) (ha : a < 4294967296) (hl : l ≤ 255) (w : World) : Calls Try.prog 10 #[.agg #[.int .u8 2, .int .u64 (n : Int), .int .i64 d, .int .u32 (a : Int), .int .u8 (l : Int), .int .u16 (s : Int), .int .u16 (m : Int)]] w fun e w' => e = .returned (.bool (n == 0 && (a == 0 && (l == 0 && (s == 0 && isNd d))))) ∧ Below w.heap.size w w' := by
  unfold isNd
  have hpr := fun W => Pre.rright_any a l ha hl W
  generalize Pre.right a l = pr at *
  have H := Lib.hid hpr
  clear hpr
  go_enter Try.func10, Try.ntmps10
  go_wp2
  all_goals (go_ret; exact ⟨Pre.ret_bool (by first | (simp; done) | (simp; omega) | (simp_all; done) | (simp_all; omega) | (rw [intz]; simp_all; done) | (rw [intz]; simp_all; omega)), by first | exact HB2.out | exact (Below.refl _ _).alloc (Nat.le_refl _) _⟩)
set_option maxHeartbeats 1000000 in
theorem rrt3 (n a l s m : Nat) (d : Int) (ha : a < 4294967296) (hl : l ≤ 255) (w : World) : Calls Try.prog 10 #[.agg #[.int .u8 3, .int .u64 (n : Int), .int .i64 d, .int .u32 (a : Int), .int .u8 (l : Int), .int .u16 (s : Int), .int .u16 (m : Int)]] w fun e w' => e = .returned (.bool (n == 0 && (isNd d && Pre.right a l))) ∧ Below w.heap.size w w' := by
  unfold isNd
  have hpr := fun W => Pre.rright_any a l ha hl W
  generalize Pre.right a l = pr at *
  have H := Lib.hid hpr
  clear hpr
  go_enter Try.func10, Try.ntmps10
  go_wp2_with (first | (go_at_call 23; (with_reducible refine (H.out _).mono ?_); rintro e w2 ⟨rfl, B2⟩; have HB2 := Lib.hid (((Below.refl w.heap.size w).alloc (Nat.le_refl _) _).trans (B2.mono (by simp))); obtain ⟨⟨g0, g1, g2, g3, g4, g5, g6⟩, -⟩ := row7 ((B2.block w.heap.size (by simp)).trans (heap_alloc_new w _)); clear B2))
  all_goals (go_ret; exact ⟨Pre.ret_bool (by first | (simp; done) | (simp; omega) | (simp_all; done) | (simp_all; omega) | (rw [intz]; simp_all; done) | (rw [intz]; simp_all; omega)), by first | exact HB2.out | exact (Below.refl _ _).alloc (Nat.le_refl _) _⟩)
set_option maxHeartbeats 1000000 in
theorem rrt4 (n a l s m : Nat) (d : Int) (ha : a < 4294967296) (hl : l ≤ 255) (w : World) : Calls Try.prog 10 #[.agg #[.int .u8 4, .int .u64 (n : Int), .int .i64 d, .int .u32 (a : Int), .int .u8 (l : Int), .int .u16 (s : Int), .int .u16 (m : Int)]] w fun e w' => e = .returned (.bool (d == 0 && (m == 0 && (Pre.right a l && decide (n ≤ 64))))) ∧ Below w.heap.size w w' := by
  have hpr := fun W => Pre.rright_any a l ha hl W
  generalize Pre.right a l = pr at *
  have H := Lib.hid hpr
  clear hpr
  go_enter Try.func10, Try.ntmps10
  go_wp2_with (first | (go_at_call 23; (with_reducible refine (H.out _).mono ?_); rintro e w2 ⟨rfl, B2⟩; have HB2 := Lib.hid (((Below.refl w.heap.size w).alloc (Nat.le_refl _) _).trans (B2.mono (by simp))); obtain ⟨⟨g0, g1, g2, g3, g4, g5, g6⟩, -⟩ := row7 ((B2.block w.heap.size (by simp)).trans (heap_alloc_new w _)); clear B2))
  all_goals (go_ret; exact ⟨Pre.ret_bool (by first | (simp; done) | (simp; omega) | (simp_all; done) | (simp_all; omega) | (rw [intz]; simp_all; done) | (rw [intz]; simp_all; omega)), by first | exact HB2.out | exact (Below.refl _ _).alloc (Nat.le_refl _) _⟩)
theorem rrt0 (k n a l s m : Nat) (d : Int) (h1 : k ≠ 1) (h2 : k ≠ 2) (h3 : k ≠ 3) (h4 : k ≠ 4) (w : World) : Calls Try.prog 10 #[.agg #[.int .u8 (k : Int), .int .u64 (n : Int), .int .i64 d, .int .u32 (a : Int), .int .u8 (l : Int), .int .u16 (s : Int), .int .u16 (m : Int)]] w fun e w' => e = .returned (.bool false) ∧ Below w.heap.size w w' := by
  have e1 : ((k : Int) == 1) = false := by simp; omega
  have e2 : ((k : Int) == 2) = false := by simp; omega
  have e3 : ((k : Int) == 3) = false := by simp; omega
  have e4 : ((k : Int) == 4) = false := by simp; omega
  go_enter Try.func10, Try.ntmps10
  go_wp2
  all_goals (go_ret; exact ⟨rfl, (Below.refl _ _).alloc (Nat.le_refl _) _⟩)
theorem rright_any (x : Pt) (hx : x.Fits) (w : World) : Calls Try.prog 10 #[.agg x.cl.toArray] w fun e w' => e = .returned (.bool x.rt) ∧ Below w.heap.size w w' := by
  obtain ⟨k, n, d, a, l, s, m⟩ := x
  have h1 := hx.k
  have h2 := hx.a
  have h3 := hx.l
  simp only at h1 h2 h3
  show Calls Try.prog 10 #[.agg #[.int .u8 (k : Int), .int .u64 (n : Int), .int .i64 d, .int .u32 (a : Int), .int .u8 (l : Int), .int .u16 (s : Int), .int .u16 (m : Int)]] w _
  unfold Pt.rt
  simp only
  repeat' split
  · rename_i h; subst h; exact rrt1 n a l s m d h2 (by omega) w
  · rename_i h; subst h; exact rrt2 n a l s m d h2 (by omega) w
  · rename_i h; subst h; exact rrt3 n a l s m d h2 (by omega) w
  · rename_i h; subst h; exact rrt4 n a l s m d h2 (by omega) w
  · exact rrt0 k n a l s m d (by assumption) (by assumption) (by assumption) (by assumption) w
end Go.Proofs.Ytecfblkagbdjlaa.Msg

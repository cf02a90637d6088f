/- A nil chronicle; what is too long; an index that isn't right. -/
import Derived.Test.YtdbhgkbmbbjpdaaGreatDoorOg
namespace Go.Proofs.YtdbhgkbmbbjpdaaGreatDoor.Chr
open Go.ChangeShapes Go.WideShapes Go.ChangeAt Go.RowKit
open Shf (S str)
open Coin (Rd Row Own sz coin got Pur takeV endV CoinSaid)
open Frm (pack err size kind cnt body noItem itemV OneSaid)
set_option maxRecDepth 8000
set_option linter.unusedVariables false
open Shf (Tag Ext Rep M RdN get Fine)
theorem base_nil (w : World) : Calls Tryz.prog 36 #[.pointer none] w fun e w' => e = .returned (.tuple #[.slice none 0 0, .int .i64 2]) ∧ w = w' := by
  go_enter Tryz.func36, Tryz.ntmps36
  go_wp2
  go_ret2
  exact ⟨rfl, rfl⟩
theorem sync_nil (w : World) : Calls Tryz.prog 23 #[.pointer none] w fun e w' => e = .returned (.int .i64 2) ∧ w = w' := by
  go_enter Tryz.func23, Tryz.ntmps23
  go_wp2
  go_ret
  exact ⟨rfl, rfl⟩
theorem fold_nil (w : World) (n : Int) (A : Option Addr) (m c : Nat) : Calls Tryz.prog 32 #[.pointer none, .int .u64 n, .slice A m c] w fun e w' => e = .returned (.int .i64 2) ∧ w = w' := by
  go_enter Tryz.func32, Tryz.ntmps32
  go_wp2
  go_ret
  exact ⟨rfl, rfl⟩
theorem nextn_nil (w : World) : Calls Tryz.prog 19 #[.pointer none] w fun e w' => e = .returned (.int .u64 0) ∧ w = w' := by
  go_enter Tryz.func19, Tryz.ntmps19
  go_wp2
  go_ret
  exact ⟨rfl, rfl⟩
theorem bytes_nil (w : World) : Calls Tryz.prog 30 #[.pointer none] w fun e w' => e = .returned (.int .i64 0) ∧ w = w' := by
  go_enter Tryz.func30, Tryz.ntmps30
  go_wp2
  go_ret
  exact ⟨rfl, rfl⟩
theorem full_nil (w : World) : Calls Tryz.prog 14 #[.pointer none] w fun e w' => e = .returned (.bool false) ∧ w = w' := by
  go_enter Tryz.func14, Tryz.ntmps14
  go_wp2
  go_ret
  exact ⟨rfl, rfl⟩
theorem vols_nil (w : World) : Calls Tryz.prog 24 #[.pointer none] w fun e w' => e = .returned (.slice none 0 0) ∧ w = w' := by
  go_enter Tryz.func24, Tryz.ntmps24
  go_wp2
  go_ret
  exact ⟨rfl, rfl⟩
theorem head_nil (w : World) : Calls Tryz.prog 20 #[.pointer none] w fun e w' => e = .returned (.agg #[.int .u64 0, .int .u64 0, .int .u64 0]) ∧ Below w.heap.size w w' := by
  have N1 := heap_alloc_new w (.cells #[.int .u64 0, .int .u64 0, .int .u64 0] 45)
  have B1 : Below w.heap.size w (w.alloc (.cells #[.int .u64 0, .int .u64 0, .int .u64 0] 45)) := (Below.refl _ _).alloc (Nat.le_refl _) _
  go_enter Tryz.func20, Tryz.ntmps20
  go_wp2
  (try simp only [Exit.inBlock, Exit.then])
  refine bodyPost_ret (results_cell_row rfl _ _ w.heap.size 45 _ (0, 0) _ rfl N1 Tryz.underlying45 rfl (by kernel_rfl)) rfl ?_
  exact ⟨rfl, B1⟩
theorem read_nil (w : World) (s : ByteArray) : Calls Tryz.prog 25 #[.pointer none, .string s] w fun e w' => e = .returned (.tuple #[.slice none 0 0, .int .i64 7]) ∧ w = w' := by
  have c17 := Shf.on_nil
  go_enter Tryz.func25, Tryz.ntmps25
  go_wp2_with (go_at_call 17; (with_reducible refine (c17 _).mono ?_); rintro e w1 ⟨rfl, rfl⟩)
  go_ret2
  exact ⟨rfl, rfl⟩
theorem open_nil (w : World) (mo : Int) : Calls Tryz.prog 11 #[.pointer none, .int .i64 mo] w fun e w' => e = .returned (.tuple #[.pointer none, .int .i64 7]) ∧ w = w' := by
  have c25 := read_nil w ⟨#[105, 110, 100, 101, 120]⟩
  go_enter Tryz.func11, Tryz.ntmps11
  go_wp2_with (go_at_call 25; (with_reducible refine c25.mono ?_); rintro e w1 ⟨rfl, rfl⟩)
  go_ret2
  exact ⟨rfl, rfl⟩
variable {lo : Nat}
set_option maxHeartbeats 1000000 in
theorem fold_long (w : World) (T : Nat → Tag) (p q : Nat) (c : CD) (h : CAt lo w T p q c) (hs : c.Small) (up : Nat) (hu : c.hU < up) (hn : up < c.next) (A : Option Addr) (n cp : Nat) (hl : 1048576 < n) :
    Calls Tryz.prog 32 #[.pointer (some ⟨p, 0, none⟩), .int .u64 (up : Int), .slice A n cp] w fun e w' => e = .returned (.int .i64 6) ∧ Below w.heap.size w w' := by
  have c19 := next_any w T p q c h hs
  obtain ⟨nx, hnx⟩ : ∃ x, x = c.next := ⟨_, rfl⟩
  obtain ⟨hU, hhU⟩ : ∃ x, x = c.hU := ⟨_, rfl⟩
  rw [← hnx] at c19 hn
  rw [← hhU] at hu
  obtain ⟨bA, bc, vv, gv, h⟩ := h
  have hr := h.row
  unfold cC at hr
  rw [← hhU] at hr
  obtain ⟨p0, p1, p2, p3, p4, p5, p6, p7, -⟩ := row8 hr
  have k1 : ¬ up ≤ hU := by omega
  have k2 : ¬ nx ≤ up := by omega
  have k3 : (1048576 : Int) < n := by omega
  clear hr h hs hnx hhU p0 p1 p2 p3 p5 p6 p7
  go_enter Tryz.func32, Tryz.ntmps32
  go_wp2_with (go_at_call 19; (with_reducible refine c19.mono ?_); rintro e w1 ⟨rfl, B1⟩; have HB1 := Lib.hid B1; clear B1 c19)
  go_ret
  exact ⟨rfl, HB1.out⟩
/-- No frame begins with that byte. -/
theorem no255 (l : S) : hdOk (255 :: l) = false := by
  have h : err (255 :: l) ≠ 0 := by
    unfold Frm.err
    by_cases h1 : (got (255 :: l)).2.2 ≠ 0
    · rw [if_pos h1]; exact h1
    · rw [if_neg h1]
      have h2 : 1048576 < cnt (255 :: l) := by
        have e : got (255 :: l) = if l.length + 1 < 9 then (0, 0, 5) else if sz (Coin.val 255 l) = 9 then (Coin.val 255 l, 9, 0) else (0, 0, 4) := rfl
        unfold Frm.cnt
        rw [e] at h1 ⊢
        by_cases h3 : l.length + 1 < 9
        · rw [if_pos h3] at h1; exact absurd (by decide) h1
        · rw [if_neg h3] at h1 ⊢
          by_cases h4 : sz (Coin.val 255 l) = 9
          · rw [if_pos h4]
            have := Coin.sz_lo (Coin.val 255 l) (by omega)
            rw [h4] at this
            have h5 : (128 : Nat) ^ (9 - 1) = 72057594037927936 := by decide
            omega
          · rw [if_neg h4] at h1; exact absurd (by decide) h1
      rw [if_pos h2]
      decide
  unfold hdOk whole
  rw [decide_eq_false (fun h2 => h h2.1)]
  rfl
end Go.Proofs.YtdbhgkbmbbjpdaaGreatDoor.Chr

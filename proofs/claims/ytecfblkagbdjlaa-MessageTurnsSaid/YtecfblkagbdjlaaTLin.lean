/- What tally's lines are: the table. -/
import Derived.Test.YtecfblkagbdjlaaTTab
namespace Go.Proofs.Ytecfblkagbdjlaa.Tal
open Go.ChangeShapes Go.WideShapes Go.ChangeAt Go.RowKit

/-- The lowest one of a byte. -/
def lst (b : Nat) : Nat := (bits .and .i64 (b : Int) (-(b : Int))).toNat
/-- The lines of bytes of one single one. -/
def f1 (i : Nat) : Nat → Nat := fun b => if (List.range i).any (fun j => b == 128 / 2 ^ j) then tab b else 0
/-- The lines of the first bytes, and those. -/
def f2 (i : Nat) : Nat → Nat := fun b => if b < i then tab b else f1 8 b
theorem f1_zero (b : Nat) : f1 0 b = 0 := rfl
theorem f1_step (i : Nat) (h : i < 8) (b : Nat) (hb : b < 256) : upd (f1 i) (128 / 2 ^ i) (lowN (i + 1) 1) b = f1 (i + 1) b := by
  have h := (by decide +kernel : ∀ i : Fin 8, ∀ b : Fin 256, upd (f1 i.val) (128 / 2 ^ i.val) (lowN (i.val + 1) 1) b.val = f1 (i.val + 1) b.val) ⟨i, h⟩ ⟨b, hb⟩
  exact h
theorem lst_eq (i : Nat) (h : i < 256) : bits .and .i64 (i : Int) (-(i : Int)) = (lst i : Nat) ∧ lst i < 256 ∧ bits .xor .i64 (i : Int) (lst i : Nat) = ((i ^^^ lst i : Nat) : Int) ∧ i ^^^ lst i < 256 := by
  have h := (by decide +kernel : ∀ i : Fin 256, bits .and .i64 (i.val : Int) (-(i.val : Int)) = (lst i.val : Nat) ∧ lst i.val < 256 ∧ bits .xor .i64 (i.val : Int) (lst i.val : Nat) = ((i.val ^^^ lst i.val : Nat) : Int) ∧ i.val ^^^ lst i.val < 256) ⟨i, h⟩
  exact h
theorem f2_line (i : Nat) (h : i < 256) : f2 i (lst i) ^^^ f2 i (i ^^^ lst i) = tab i ∧ f2 i (lst i) < 4294967296 ∧ f2 i (i ^^^ lst i) < 4294967296 := by
  have h := (by decide +kernel : ∀ i : Fin 256, f2 i.val (lst i.val) ^^^ f2 i.val (i.val ^^^ lst i.val) = tab i.val ∧ f2 i.val (lst i.val) < 4294967296 ∧ f2 i.val (i.val ^^^ lst i.val) < 4294967296) ⟨i, h⟩
  exact h
theorem f2_step (i : Nat) (b : Nat) : upd (f2 i) i (tab i) b = f2 (i + 1) b := by
  unfold upd f2
  by_cases h : b = i
  · subst h; simp
  · rw [if_neg h]
    by_cases h1 : b < i
    · rw [if_pos h1, if_pos (by omega)]
    · rw [if_neg h1, if_neg (by omega)]
theorem f2_all (b : Nat) (h : b < 256) : f2 256 b = tab b := by unfold f2; rw [if_pos h]
theorem f2_zero (b : Nat) : f2 0 b = f1 8 b := by unfold f2; rw [if_neg (by omega)]

/-- A whole row is read. -/
theorem load_row {w : World} {ops : Array Oper} {rest : List Oper} {op : Oper} {a : Act} {Q : Exit → Act → World → Prop} (hgd : op.guard = none) (x : Operand) (ho : op.op = .load 87 x)
    (g : Nat) (f : Nat → Nat) (hx : a.eval x = .pointer (some ⟨g, 0, none⟩)) (hg : Row w g f) (h : wpList Try.prog ops Q rest (a.put op.dst (.agg (cellsOf f))) w) : wpList Try.prog ops Q (op :: rest) a w :=
  wpList_load_row hgd 87 x ho g hx 87 (cellsOf f) (0, 0) (.array 256 23) hg under33 rfl (by rw [size_cellsOf]; exact size33) h
def LinesSaid (w : World) (e : Ending) (w' : World) : Prop := e = .returned (.agg (cellsOf tab)) ∧ Below w.heap.size w w'
theorem index_128 (i : Nat) (h : i < 8) : (128 : Int) / 2 ^ i = ((128 / 2 ^ i : Nat) : Int) ∧ 128 / 2 ^ i < 256 := by
  have h := (by decide +kernel : ∀ i : Fin 8, (128 : Int) / 2 ^ i.val = ((128 / 2 ^ i.val : Nat) : Int) ∧ 128 / 2 ^ i.val < 256) ⟨i, h⟩
  exact h
set_option maxRecDepth 100000 in
theorem lines_any (w : World) : Calls Try.prog 51 #[] w (LinesSaid w) := by
  have hz := zero33
  have b1 : Below w.heap.size w ((w.alloc (.cells (cellsOf fun _ => 0) 87)).alloc (.cells (cellsOf fun _ => 0) 87)) := ((Below.refl _ _).alloc (Nat.le_refl _) _).alloc (by simp) _
  have r0 : Row ((w.alloc (.cells (cellsOf fun _ => 0) 87)).alloc (.cells (cellsOf fun _ => 0) 87)) w.heap.size (fun _ => 0) := heap_alloc2_old w _ _
  have r1 : Row ((w.alloc (.cells (cellsOf fun _ => 0) 87)).alloc (.cells (cellsOf fun _ => 0) 87)) (w.heap.size + 1) (fun _ => 0) := heap_alloc2_new w _ _
  have r1' := r1.congr (f' := f1 0) (fun b _ => (f1_zero b).symm)
  clear r1
  go_enter Try.func51, Try.ntmps51
  go_wp2_with fail
  generalize (w.alloc (.cells (cellsOf fun _ => 0) 87)).alloc (.cells (cellsOf fun _ => 0) 87) = w1 at *
  clear hz
  have hgw : w.heap.size < w.heap.size + 1 := by omega
  generalize w.heap.size + 1 = g at *
  go_loopw [2, 6] (fun x i wr => ∃ k : Nat, k ≤ 8 ∧ i = .int .i64 k ∧ x = .int .u32 (lowN k 1 : Nat) ∧ Row wr g (f1 k) ∧ Row wr w.heap.size (fun _ => 0) ∧ Below w.heap.size w wr) (fun _ i _ => 8 - (intOf i).toNat)
  case atStart => exact ⟨0, by omega, rfl, rfl, r1', r0, b1⟩
  case round =>
    clear r1' r0 b1
    obtain ⟨k, hk, rfl, rfl, R, R0, B⟩ := hrel
    by_cases hlt : k < 8
    · have cl := fun W => lower_any (lowN k 1) (lowN_lt k 1 (by omega)) W
      obtain ⟨hi1, hi2⟩ := index_128 k hlt
      have hcell := R.cell (128 / 2 ^ k) hi2
      have hfz := R.frozen (128 / 2 ^ k)
      have R' := (R.set (128 / 2 ^ k) (lowN (k + 1) 1)).congr (f1_step k hlt)
      have R0' : Row (wr.setCell ⟨g, 128 / 2 ^ k, none⟩ (.int .u32 (lowN (k + 1) 1 : Nat))) w.heap.size (fun _ => 0) := (heap_setCell_other wr ⟨g, 128 / 2 ^ k, none⟩ w.heap.size _ (by simp; omega)).trans R0
      have B' := B.setCell (p := ⟨g, 128 / 2 ^ k, none⟩) (by show w.heap.size ≤ g; omega) (.int .u32 (lowN (k + 1) 1 : Nat))
      have e : low (lowN k 1) = lowN (k + 1) 1 := rfl
      rw [e] at cl
      clear e R R0 B
      generalize lowN k 1 = x at *
      obtain ⟨y, hy⟩ : ∃ y, y = lowN (k + 1) 1 := ⟨_, rfl⟩
      rw [← hy] at cl R' R0' B'
      have HY := Lib.hid hy
      clear hy
      generalize 128 / 2 ^ k = c at *
      go_wp2_with (go_at_call 53; refine (cl _).mono ?_; rintro e w' ⟨rfl, rfl⟩)
      go_roundw
      case rel => exact ⟨k + 1, by omega, by go_num, by rw [← HY.out], R', R0', B'⟩
      case measure => simp [intOf]; omega
    · obtain rfl : k = 8 := by omega
      have R1 := R.congr (f' := f2 0) (fun b _ => (f2_zero b).symm)
      clear R
      generalize lowN 8 1 = x at *
      go_wp2_with fail
      go_loopw [16] (fun i wr => ∃ k : Nat, k ≤ 256 ∧ i = .int .i64 k ∧ Row wr g (f2 k) ∧ Row wr w.heap.size (fun _ => 0) ∧ Below w.heap.size w wr) (fun i _ => 256 - (intOf i).toNat)
      case atStart => exact ⟨0, by omega, rfl, R1, R0, B⟩
      case round =>
        clear R1 R0 B
        obtain ⟨k, hk, rfl, R, R0, B⟩ := hrel
        by_cases hlt : k < 256
        · obtain ⟨ha1, ha2, hx1, hx2⟩ := lst_eq k hlt
          obtain ⟨hl1, hl2, hl3⟩ := f2_line k hlt
          have hxr := u32_xor_nat _ _ hl2 hl3
          rw [hl1] at hxr
          have hca : wr.drew.cell? ⟨g, lst k, none⟩ = some (.int .u32 (f2 k (lst k) : Nat)) := R.cell (lst k) ha2
          have hcb : wr.drew.cell? ⟨g, k ^^^ lst k, none⟩ = some (.int .u32 (f2 k (k ^^^ lst k) : Nat)) := R.cell (k ^^^ lst k) hx2
          obtain ⟨q, hck⟩ : ∃ q : Int, wr.drew.cell? ⟨g, k, none⟩ = some (.int .u32 q) := ⟨_, R.cell k hlt⟩
          have hfz : wr.drew.frozen? ⟨g, k, none⟩ = false := R.frozen k
          have R' := Lib.hid ((show Row wr.drew g (f2 k) from R).set k (tab k))
          have R2 := R'.out.congr (fun b _ => f2_step k b)
          have R0' : Row (wr.drew.setCell ⟨g, k, none⟩ (.int .u32 (tab k : Nat))) w.heap.size (fun _ => 0) := (heap_setCell_other wr.drew ⟨g, k, none⟩ w.heap.size _ (by simp; omega)).trans R0
          have B' := B.drew.setCell (p := ⟨g, k, none⟩) (by show w.heap.size ≤ g; omega) (.int .u32 (tab k : Nat))
          clear R' hl1 hl2 hl3 R R0 B
          generalize f2 k (lst k) = fa at *
          generalize f2 k (k ^^^ lst k) = fb at *
          generalize k ^^^ lst k = c at *
          generalize lst k = a at *
          obtain ⟨y, hy⟩ : ∃ y, y = tab k := ⟨_, rfl⟩
          rw [← hy] at R2 R0' B' hxr
          clear hy
          go_wp2_with fail
          refine wp_region_still_tail 11 (by kernel_rfl) (by kernel_rfl) ?_
          simp only [List.take_succ_cons, List.take_zero, List.drop_succ_cons, List.drop_zero]
          change wpStill _ _ wr.drew (fun a' => wpList _ _ _ _ a' wr.drew) _ _
          generalize wr.drew = wd at *
          have hin1 : (0 : Int) ≤ a ∧ (a : Int) < 256 := by omega
          have hin2 : (0 : Int) ≤ c ∧ (c : Int) < 256 := by omega
          have hin3 : (0 : Int) ≤ k ∧ (k : Int) < 256 := by omega
          repeat still_step
          refine wpStill_nil ?_
          go_wp2_with fail
          go_roundw
          case rel => first | exact ⟨k + 1, by omega, by go_num, R2, R0', B'⟩ | ((repeat apply Exists.intro); exact ⟨⟨k + 1, by omega, by go_num, R2, R0', B'⟩, rfl⟩)
          case measure => simp [intOf]; omega
        · obtain rfl : k = 256 := by omega
          have R2 := R.congr (f' := tab) f2_all
          clear R
          go_wp2_with (first | (with_reducible refine load_row rfl (.tmp 1) rfl g tab rfl R2 ?_) | (with_reducible refine store_row rfl (.tmp 0) (.tmp 35) rfl w.heap.size tab (fun _ => 0) rfl rfl R0 w.heap.size w B (Nat.le_refl _) ?_; intro w2 R3 B3 _ _))
          exact bodyPost_ret (v := .agg (cellsOf tab)) (results_cell_row (p := 0) (ty := 87) rfl _ _ w.heap.size 87 (cellsOf tab) (0, 0) (.array 256 23) rfl R3 under33 rfl (by rw [size_cellsOf]; exact size33)) rfl ⟨rfl, B3⟩

def TableSaid (w : World) (e : Ending) (w' : World) : Prop := ∃ g, e = .returned (.pointer (some ⟨g, 0, none⟩)) ∧ Row w' g tab ∧ w.heap.size ≤ g ∧ Below w.heap.size w w'
end Go.Proofs.Ytecfblkagbdjlaa.Tal

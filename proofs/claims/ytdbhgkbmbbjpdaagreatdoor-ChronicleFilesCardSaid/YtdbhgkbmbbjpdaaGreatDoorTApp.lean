/- What tally's lines are. What tally's lines are: the table. What tally's sums are, and the document's own. 'append' of bytes to a row of the call's own, the source nil or not. -/
import Derived.Test.YtdbhgkbmbbjpdaaGreatDoorRows
import Derived.Test.YtdbhgkbmbbjpdaaGreatDoorPut
import Derived.WalkKit
import Derived.ProofKit
import Derived.OpenShut
import Derived.ShutString
import Derived.WalkLawsBesides
import Derived.Lib.Hide
import Derived.Laws.BitsAllLaws
import Derived.Below
import Derived.Laws.Rows
import Derived.Deep.MidRow
import Derived.Laws.CopyOwn
import Derived.StillTailTactics
import Derived.Lib.SlBytesConst
import Derived.Laws.OwnMore
import Derived.OwnWalk
import Derived.Laws.AppendOwn
import Derived.Laws.AppendOwnNone
namespace Go.Proofs.YtdbhgkbmbbjpdaaGreatDoor.Tal
open Go.ChangeShapes Go.WideShapes Go.ChangeAt Go.RowKit
theorem ret_bool {a b : Bool} (h : a = b) : Ending.returned (.bool a) = .returned (.bool b) := by rw [h]
theorem ret_int {k : IntKind} {a b : Int} (h : a = b) : Ending.returned (.int k a) = .returned (.int k b) := by rw [h]
theorem lower_any (x : Nat) (hx : x < 4294967296) (w : World) : Calls Tryz.prog 149 #[.int .u32 x] w fun e w' => e = .returned (.int .u32 (low x : Nat)) ∧ w = w' := by
  have ha : bits .and .u32 (x : Int) 1 = ((x % 2 : Nat) : Int) := by
    have := u32_and_nat x 1 hx (by decide)
    rw [Nat.and_one_is_mod] at this
    exact this
  have hxor : bits .xor .u32 ((x : Int) / 2) 2197175160 = ((x / 2 ^^^ 2197175160 : Nat) : Int) := by
    have := u32_xor_nat (x / 2) 2197175160 (by omega) (by decide)
    exact this
  by_cases h : x % 2 = 1
  · have e : low x = x / 2 ^^^ 2197175160 := by unfold low; rw [if_pos h]
    rw [e]
    generalize x / 2 ^^^ 2197175160 = y at *
    go_enter Tryz.func149, Tryz.ntmps149
    go_wp2
    go_ret
    exact ⟨rfl, rfl⟩
  · have e : low x = x / 2 := by unfold low; rw [if_neg h]
    rw [e]
    go_enter Tryz.func149, Tryz.ntmps149
    go_wp2
    go_ret
    exact ⟨ret_int (by omega), rfl⟩
def cellsOf (f : Nat → Nat) : Array Value := ((List.range 256).map fun b => Value.int .u32 (f b : Nat)).toArray
theorem size_cellsOf (f : Nat → Nat) : (cellsOf f).size = 256 := by simp [cellsOf]
theorem get_cellsOf (f : Nat → Nat) (b : Nat) (h : b < 256) : (cellsOf f)[b]? = some (.int .u32 (f b : Nat)) := by simp [cellsOf, h]
theorem cellsOf_congr (f g : Nat → Nat) (h : ∀ b, b < 256 → f b = g b) : cellsOf f = cellsOf g := by
  unfold cellsOf
  congr 1
  apply List.map_congr_left
  intro b hb
  rw [h b (by simpa using hb)]
def upd (f : Nat → Nat) (b x : Nat) : Nat → Nat := fun j => if j = b then x else f j
theorem set_cellsOf (f : Nat → Nat) (b x : Nat) : (cellsOf f).setIfInBounds b (.int .u32 (x : Nat)) = cellsOf (upd f b x) := by
  apply Array.ext_getElem?
  intro j
  rw [Array.getElem?_setIfInBounds]
  by_cases hj : j < 256
  · rw [get_cellsOf _ _ hj, get_cellsOf _ _ hj, size_cellsOf]
    by_cases h : b = j
    · subst h; simp [upd, hj]
    · rw [if_neg h]; simp [upd, Ne.symm h]
  · rw [Array.getElem?_eq_none (by rw [size_cellsOf]; omega), Array.getElem?_eq_none (by rw [size_cellsOf]; omega), size_cellsOf]
    split
    · rw [if_neg (by omega)]
    · rfl
def Row (w : World) (g : Nat) (f : Nat → Nat) : Prop := w.heap[g]? = some (.cells (cellsOf f) 181 (0, 0))
theorem Row.lt {w : World} {g : Nat} {f : Nat → Nat} (h : Row w g f) : g < w.heap.size := by
  rcases Nat.lt_or_ge g w.heap.size with hlt | hge
  · exact hlt
  · unfold Row at h; rw [Array.getElem?_eq_none hge] at h; cases h
theorem Row.cell {w : World} {g : Nat} {f : Nat → Nat} (h : Row w g f) (b : Nat) (hb : b < 256) : w.cell? ⟨g, b, none⟩ = some (.int .u32 (f b : Nat)) := by
  rw [cell_of_row w g b _ 181 (0, 0) h, get_cellsOf f b hb]
theorem Row.frozen {w : World} {g : Nat} {f : Nat → Nat} (h : Row w g f) (b : Nat) : w.frozen? ⟨g, b, none⟩ = false := frozen_of_row w g b _ 181 h
theorem Row.set {w : World} {g : Nat} {f : Nat → Nat} (h : Row w g f) (b x : Nat) : Row (w.setCell ⟨g, b, none⟩ (.int .u32 (x : Nat))) g (upd f b x) := by
  unfold Row at h ⊢
  rw [heap_setCell_same w g b _ 181 _ h, set_cellsOf]
theorem Row.congr {w : World} {g : Nat} {f f' : Nat → Nat} (h : Row w g f) (e : ∀ b, b < 256 → f b = f' b) : Row w g f' := by
  unfold Row at h ⊢
  rw [← cellsOf_congr f f' e]; exact h
theorem Row.below {w w' : World} {g B : Nat} {f : Nat → Nat} (h : Row w g f) (hb : Below B w w') (hg : g < B) : Row w' g f := (hb.block g hg).trans h
theorem zero33 (w : World) : (zeroValue 181).run Tryz.prog w = .ok (.agg (cellsOf fun _ => 0)) w := by kernel_rfl
theorem size33 : (Tryz.prog.info? 181).map (·.size) = some 256 := by kernel_rfl
theorem under33 : Tryz.prog.underlying 181 = some (.array 256 125) := by kernel_rfl
theorem one_cellsOf (f : Nat → Nat) : (cellsOf f).all (·.oneCell') = true := by
  unfold cellsOf
  apply all_oneCell_toArray
  intro v hv
  obtain ⟨b, _, rfl⟩ := List.mem_map.1 hv
  rfl
theorem store_row {w : World} {ops : Array Oper} {rest : List Oper} {op : Oper} {a : Act} {Q : Exit → Act → World → Prop} (hgd : op.guard = none) (x y : Operand) (ho : op.op = .store 181 x y)
    (g : Nat) (f f0 : Nat → Nat) (hx : a.eval x = .pointer (some ⟨g, 0, none⟩)) (hy : a.eval y = .agg (cellsOf f)) (hg : Row w g f0) (B : Nat) (w0 : World) (hb : Below B w0 w) (hB : B ≤ g)
    (h : ∀ w', Row w' g f → Below B w0 w' → (∀ k, k ≠ g → w'.heap[k]? = w.heap[k]?) → w'.heap.size = w.heap.size → wpList Tryz.prog ops Q rest (a.put op.dst undef) w') : wpList Tryz.prog ops Q (op :: rest) a w := by
  refine wpList_store_row hgd 181 x y ho g (cellsOf f) hx hy 181 (cellsOf f0) hg (by rw [size_cellsOf]; exact size33) (by rw [size_cellsOf, size_cellsOf]) (one_cellsOf f) ?_
  refine h _ (setRow_heap w g _ _ 181 _ hg) (below_setRow hb hB _) (fun k hk => setRow_other w g k _ hk) (by simp [World.setRow])
end Go.Proofs.YtdbhgkbmbbjpdaaGreatDoor.Tal
namespace Go.Proofs.YtdbhgkbmbbjpdaaGreatDoor.Tal
open Go.ChangeShapes Go.WideShapes Go.ChangeAt Go.RowKit
def lst (b : Nat) : Nat := (bits .and .i64 (b : Int) (-(b : Int))).toNat
def f1 (i : Nat) : Nat → Nat := fun b => if (List.range i).any (fun j => b == 128 / 2 ^ j) then tab b else 0
def f2 (i : Nat) : Nat → Nat := fun b => if b < i then tab b else f1 8 b
theorem f1_zero (b : Nat) : f1 0 b = 0 := rfl
theorem f1_step (i : Nat) (h : i < 8) (b : Nat) (hb : b < 256) : upd (f1 i) (128 / 2 ^ i) (lowN (i + 1) 1) b = f1 (i + 1) b := by
  have h := (by decide +kernel : ∀ i : Fin 8, ∀ b : Fin 256, upd (f1 i.val) (128 / 2 ^ i.val) (lowN (i.val + 1) 1) b.val = f1 (i.val + 1) b.val) ⟨i, h⟩ ⟨b, hb⟩
  exact h
theorem lst_eq (i : Nat) (h : i < 256) : bits .and .i64 (i : Int) (-(i : Int)) = (lst i : Nat) ∧ lst i < 256 ∧ bits .xor .i64 (i : Int) (lst i : Nat) = ((i ^^^ lst i : Nat) : Int) ∧ i ^^^ lst i < 256 := by
  have h := (by decide +kernel : ∀ i : Fin 256, bits .and .i64 (i.val : Int) (-(i.val : Int)) = (lst i.val : Nat) ∧ lst i.val < 256 ∧ bits .xor .i64 (i.val : Int) (lst i.val : Nat) = ((i.val ^^^ lst i.val : Nat) : Int) ∧ i.val ^^^ lst i.val < 256) ⟨i, h⟩
  exact h
theorem f2_line (i : Nat) (h : i < 256) : f2 i (lst i) ^^^ f2 i (i ^^^ lst i) = tab i ∧ f2 i (lst i) < 4294967296 ∧ f2 i (i ^^^ lst i) < 4294967296 := by
  have h := (by decide +kernel : ∀ i : Fin 256, f2 i.val (lst i.val) ^^^ f2 i.val (i.val ^^^ lst i.val) = tab i.val ∧ f2 i.val (lst i.val) < 4294967296 ∧ f2 i.val (i.val ^^^ lst i.val) < 4294967296) ⟨i, h⟩
  exact h
theorem f2_step (i : Nat) (b : Nat) : upd (f2 i) i (tab i) b = f2 (i + 1) b := by
  unfold upd f2
  by_cases h : b = i
  · subst h; simp
  · rw [if_neg h]
    by_cases h1 : b < i
    · rw [if_pos h1, if_pos (by omega)]
    · rw [if_neg h1, if_neg (by omega)]
theorem f2_all (b : Nat) (h : b < 256) : f2 256 b = tab b := by unfold f2; rw [if_pos h]
theorem f2_zero (b : Nat) : f2 0 b = f1 8 b := by unfold f2; rw [if_neg (by omega)]
theorem load_row {w : World} {ops : Array Oper} {rest : List Oper} {op : Oper} {a : Act} {Q : Exit → Act → World → Prop} (hgd : op.guard = none) (x : Operand) (ho : op.op = .load 181 x)
    (g : Nat) (f : Nat → Nat) (hx : a.eval x = .pointer (some ⟨g, 0, none⟩)) (hg : Row w g f) (h : wpList Tryz.prog ops Q rest (a.put op.dst (.agg (cellsOf f))) w) : wpList Tryz.prog ops Q (op :: rest) a w :=
  wpList_load_row hgd 181 x ho g hx 181 (cellsOf f) (0, 0) (.array 256 125) hg under33 rfl (by rw [size_cellsOf]; exact size33) h
def LinesSaid (w : World) (e : Ending) (w' : World) : Prop := e = .returned (.agg (cellsOf tab)) ∧ Below w.heap.size w w'
theorem index_128 (i : Nat) (h : i < 8) : (128 : Int) / 2 ^ i = ((128 / 2 ^ i : Nat) : Int) ∧ 128 / 2 ^ i < 256 := by
  have h := (by decide +kernel : ∀ i : Fin 8, (128 : Int) / 2 ^ i.val = ((128 / 2 ^ i.val : Nat) : Int) ∧ 128 / 2 ^ i.val < 256) ⟨i, h⟩
  exact h
set_option maxRecDepth 100000 in
theorem lines_any (w : World) : Calls Tryz.prog 146 #[] w (LinesSaid w) := by
  have hz := zero33
  have b1 : Below w.heap.size w ((w.alloc (.cells (cellsOf fun _ => 0) 181)).alloc (.cells (cellsOf fun _ => 0) 181)) := ((Below.refl _ _).alloc (Nat.le_refl _) _).alloc (by simp) _
  have r0 : Row ((w.alloc (.cells (cellsOf fun _ => 0) 181)).alloc (.cells (cellsOf fun _ => 0) 181)) w.heap.size (fun _ => 0) := heap_alloc2_old w _ _
  have r1 : Row ((w.alloc (.cells (cellsOf fun _ => 0) 181)).alloc (.cells (cellsOf fun _ => 0) 181)) (w.heap.size + 1) (fun _ => 0) := heap_alloc2_new w _ _
  have r1' := r1.congr (f' := f1 0) (fun b _ => (f1_zero b).symm)
  clear r1
  go_enter Tryz.func146, Tryz.ntmps146
  go_wp2_with fail
  generalize (w.alloc (.cells (cellsOf fun _ => 0) 181)).alloc (.cells (cellsOf fun _ => 0) 181) = w1 at *
  clear hz
  have hgw : w.heap.size < w.heap.size + 1 := by omega
  generalize w.heap.size + 1 = g at *
  go_loopw [2, 6] (fun x i wr => ∃ k : Nat, k ≤ 8 ∧ i = .int .i64 k ∧ x = .int .u32 (lowN k 1 : Nat) ∧ Row wr g (f1 k) ∧ Row wr w.heap.size (fun _ => 0) ∧ Below w.heap.size w wr) (fun _ i _ => 8 - (intOf i).toNat)
  case atStart => exact ⟨0, by omega, rfl, rfl, r1', r0, b1⟩
  case round =>
    clear r1' r0 b1
    obtain ⟨k, hk, rfl, rfl, R, R0, B⟩ := hrel
    by_cases hlt : k < 8
    · have cl := fun W => lower_any (lowN k 1) (lowN_lt k 1 (by omega)) W
      obtain ⟨hi1, hi2⟩ := index_128 k hlt
      have hcell := R.cell (128 / 2 ^ k) hi2
      have hfz := R.frozen (128 / 2 ^ k)
      have R' := (R.set (128 / 2 ^ k) (lowN (k + 1) 1)).congr (f1_step k hlt)
      have R0' : Row (wr.setCell ⟨g, 128 / 2 ^ k, none⟩ (.int .u32 (lowN (k + 1) 1 : Nat))) w.heap.size (fun _ => 0) := (heap_setCell_other wr ⟨g, 128 / 2 ^ k, none⟩ w.heap.size _ (by simp; omega)).trans R0
      have B' := B.setCell (p := ⟨g, 128 / 2 ^ k, none⟩) (by show w.heap.size ≤ g; omega) (.int .u32 (lowN (k + 1) 1 : Nat))
      have e : low (lowN k 1) = lowN (k + 1) 1 := rfl
      rw [e] at cl
      clear e R R0 B
      generalize lowN k 1 = x at *
      obtain ⟨y, hy⟩ : ∃ y, y = lowN (k + 1) 1 := ⟨_, rfl⟩
      rw [← hy] at cl R' R0' B'
      have HY := Lib.hid hy
      clear hy
      generalize 128 / 2 ^ k = c at *
      go_wp2_with (go_at_call 149; refine (cl _).mono ?_; rintro e w' ⟨rfl, rfl⟩)
      go_roundw
      case rel => exact ⟨k + 1, by omega, by go_num, by rw [← HY.out], R', R0', B'⟩
      case measure => simp [intOf]; omega
    · obtain rfl : k = 8 := by omega
      have R1 := R.congr (f' := f2 0) (fun b _ => (f2_zero b).symm)
      clear R
      generalize lowN 8 1 = x at *
      go_wp2_with fail
      go_loopw [16] (fun i wr => ∃ k : Nat, k ≤ 256 ∧ i = .int .i64 k ∧ Row wr g (f2 k) ∧ Row wr w.heap.size (fun _ => 0) ∧ Below w.heap.size w wr) (fun i _ => 256 - (intOf i).toNat)
      case atStart => exact ⟨0, by omega, rfl, R1, R0, B⟩
      case round =>
        clear R1 R0 B
        obtain ⟨k, hk, rfl, R, R0, B⟩ := hrel
        by_cases hlt : k < 256
        · obtain ⟨ha1, ha2, hx1, hx2⟩ := lst_eq k hlt
          obtain ⟨hl1, hl2, hl3⟩ := f2_line k hlt
          have hxr := u32_xor_nat _ _ hl2 hl3
          rw [hl1] at hxr
          have hca : wr.drew.cell? ⟨g, lst k, none⟩ = some (.int .u32 (f2 k (lst k) : Nat)) := R.cell (lst k) ha2
          have hcb : wr.drew.cell? ⟨g, k ^^^ lst k, none⟩ = some (.int .u32 (f2 k (k ^^^ lst k) : Nat)) := R.cell (k ^^^ lst k) hx2
          obtain ⟨q, hck⟩ : ∃ q : Int, wr.drew.cell? ⟨g, k, none⟩ = some (.int .u32 q) := ⟨_, R.cell k hlt⟩
          have hfz : wr.drew.frozen? ⟨g, k, none⟩ = false := R.frozen k
          have R' := Lib.hid ((show Row wr.drew g (f2 k) from R).set k (tab k))
          have R2 := R'.out.congr (fun b _ => f2_step k b)
          have R0' : Row (wr.drew.setCell ⟨g, k, none⟩ (.int .u32 (tab k : Nat))) w.heap.size (fun _ => 0) := (heap_setCell_other wr.drew ⟨g, k, none⟩ w.heap.size _ (by simp; omega)).trans R0
          have B' := B.drew.setCell (p := ⟨g, k, none⟩) (by show w.heap.size ≤ g; omega) (.int .u32 (tab k : Nat))
          clear R' hl1 hl2 hl3 R R0 B
          generalize f2 k (lst k) = fa at *
          generalize f2 k (k ^^^ lst k) = fb at *
          generalize k ^^^ lst k = c at *
          generalize lst k = a at *
          obtain ⟨y, hy⟩ : ∃ y, y = tab k := ⟨_, rfl⟩
          rw [← hy] at R2 R0' B' hxr
          clear hy
          go_wp2_with fail
          refine wp_region_still_tail 11 (by kernel_rfl) (by kernel_rfl) ?_
          simp only [List.take_succ_cons, List.take_zero, List.drop_succ_cons, List.drop_zero]
          change wpStill _ _ wr.drew (fun a' => wpList _ _ _ _ a' wr.drew) _ _
          generalize wr.drew = wd at *
          have hin1 : (0 : Int) ≤ a ∧ (a : Int) < 256 := by omega
          have hin2 : (0 : Int) ≤ c ∧ (c : Int) < 256 := by omega
          have hin3 : (0 : Int) ≤ k ∧ (k : Int) < 256 := by omega
          repeat still_step
          refine wpStill_nil ?_
          go_wp2_with fail
          go_roundw
          case rel => first | exact ⟨k + 1, by omega, by go_num, R2, R0', B'⟩ | ((repeat apply Exists.intro); exact ⟨⟨k + 1, by omega, by go_num, R2, R0', B'⟩, rfl⟩)
          case measure => simp [intOf]; omega
        · obtain rfl : k = 256 := by omega
          have R2 := R.congr (f' := tab) f2_all
          clear R
          go_wp2_with (first | (with_reducible refine load_row rfl (.tmp 1) rfl g tab rfl R2 ?_) | (with_reducible refine store_row rfl (.tmp 0) (.tmp 35) rfl w.heap.size tab (fun _ => 0) rfl rfl R0 w.heap.size w B (Nat.le_refl _) ?_; intro w2 R3 B3 _ _))
          exact bodyPost_ret (v := .agg (cellsOf tab)) (results_cell_row (p := 0) (ty := 181) rfl _ _ w.heap.size 181 (cellsOf tab) (0, 0) (.array 256 125) rfl R3 under33 rfl (by rw [size_cellsOf]; exact size33)) rfl ⟨rfl, B3⟩
end Go.Proofs.YtdbhgkbmbbjpdaaGreatDoor.Tal
namespace Go.Proofs.YtdbhgkbmbbjpdaaGreatDoor.Tal
open Go.ChangeShapes Go.WideShapes Go.ChangeAt Go.RowKit
def b8 (b : UInt8) : Value := .int .u8 (b.toNat : Int)
def Rd (w : World) (B : Nat) (A : Option Addr) (l : List UInt8) : Prop := 0 < l.length → ∃ ad : Addr, A = some ad ∧ ad.block < B ∧ ∀ j (hj : j < l.length), w.cell? (ad.add j) = some (b8 l[j])
theorem blk_add (a : Addr) (n : Nat) : (a.add n).block = a.block := by unfold Addr.add; split <;> rfl
theorem Rd.keep {w w' : World} {B : Nat} {A : Option Addr} {l : List UInt8} (h : Rd w B A l) (hk : ∀ p : Addr, p.block < B → w'.cell? p = w.cell? p) : Rd w' B A l := fun h0 => by
  obtain ⟨ad, e, hb, hc⟩ := h h0
  exact ⟨ad, e, hb, fun j hj => (hk _ (by rw [blk_add]; exact hb)).trans (hc j hj)⟩
theorem Rd.below {w w' : World} {B B' : Nat} {A : Option Addr} {l : List UInt8} (h : Rd w B A l) (hb : Below B' w w') (hB : B ≤ B') : Rd w' B A l := h.keep fun _ hp => hb.cell (Nat.lt_of_lt_of_le hp hB)
theorem Rd.more {w : World} {B B' : Nat} {A : Option Addr} {l : List UInt8} (h : Rd w B A l) (hB : B ≤ B') : Rd w B' A l := fun h0 => by
  obtain ⟨ad, e, hb, hc⟩ := h h0
  exact ⟨ad, e, Nat.lt_of_lt_of_le hb hB, hc⟩
theorem Rd.nil (w : World) (B : Nat) (A : Option Addr) : Rd w B A [] := fun h => by simp at h
theorem not_u32 (x : Nat) (h : x < 4294967296) : bits .xor .u32 IntKind.u32.max (x : Int) = ((4294967295 - x : Nat) : Int) := by
  have e : IntKind.u32.max = ((4294967295 : Nat) : Int) := by rfl
  rw [e, u32_xor_nat 4294967295 x (by decide) h]
  congr 1
  apply Nat.eq_of_testBit_eq
  intro i
  have h1 : (4294967295 : Nat) = 2 ^ 32 - 1 := by decide
  rw [Nat.testBit_xor, h1, Nat.testBit_two_pow_sub_one, Nat.sub_sub, Nat.add_comm 1, Nat.testBit_two_pow_sub_succ (by omega)]
  by_cases hi : i < 32
  · simp [hi]
  · have : x.testBit i = false := Nat.testBit_lt_two_pow (Nat.lt_of_lt_of_le h (by
      have := Nat.pow_le_pow_right (n := 2) (by decide) (show 32 ≤ i by omega)
      omega))
    simp [hi, this]
def MoreSaid (w : World) (v : Nat) (e : Ending) (w' : World) : Prop := e = .returned (.int .u32 (v : Nat)) ∧ Below w.heap.size w w'
set_option maxRecDepth 100000 in
theorem more_any (s : Nat) (hs : s < 4294967296) (A : Option Addr) (cap : Nat) (l : List UInt8) (w : World) (hl : l.length ≤ 1300000) (hr : Rd w w.heap.size A l) :
    Calls Tryz.prog 136 #[.int .u32 s, .slice A l.length cap] w (MoreSaid w (more s l)) := by
  have hz := zero33
  have hn := not_u32 s hs
  obtain ⟨m, hm⟩ : ∃ m, m = l.length := ⟨_, rfl⟩
  rw [← hm]
  have HM := Lib.hid hm
  have hm9 : m ≤ 1300000 := by omega
  have HMO := Lib.hid (show more s l = 4294967295 - crc (4294967295 - s) (l.take l.length) by rw [List.take_length]; rfl)
  rw [← hm] at HMO
  have hr0 : 4294967295 - s < 4294967296 := by omega
  clear hm hl
  generalize 4294967295 - s = r at *
  generalize more s l = V at *
  go_enter Tryz.func136, Tryz.ntmps136
  go_wp2_with fail
  refine (lines_any _).mono ?_
  rintro e w1 ⟨rfl, B1⟩
  have r0 : Row (w1.alloc (.cells (cellsOf fun _ => 0) 181)) w1.heap.size (fun _ => 0) := heap_alloc_new w1 _
  have b0 : Below w.heap.size w (w1.alloc (.cells (cellsOf fun _ => 0) 181)) := B1.alloc B1.size _
  have hsz := B1.size
  go_wp2_with (with_reducible refine store_row rfl (.tmp 5) (.tmp 8) rfl w1.heap.size tab (fun _ => 0) rfl rfl r0 w.heap.size w b0 hsz ?_; intro w2 R3 B3 _ _)
  have R2 : Rd w2 w.heap.size A l := hr.below B3 (Nat.le_refl _)
  generalize w1.heap.size = g at *
  clear r0 b0 hz hr
  go_loop [0, 13] (fun t i => ∃ k : Nat, k ≤ m ∧ i = .int .i64 k ∧ ∃ x : Nat, t = .int .u32 x ∧ x < 4294967296 ∧ Hid (x = crc r (l.take k))) (fun _ i => m - (intOf i).toNat)
  case atStart => exact ⟨0, by omega, rfl, r, rfl, hr0, show _ = _ by simp [crc]⟩
  case round =>
    obtain ⟨k, hk, rfl, x, rfl, hx, HX⟩ := hrel
    by_cases hlt : k < m
    · have hk' : k < l.length := by rw [← HM.out]; exact hlt
      obtain ⟨ad, rfl, _, hc⟩ := R2 (by omega)
      have hcell : w2.cell? (ad.add k) = some (.int .u8 ((l[k]).toNat : Int)) := hc k hk'
      have hb : (l[k]).toNat < 256 := UInt8.toNat_lt _
      have HS : Hid (step x l[k] = crc r (l.take (k + 1))) := by show _ = _; rw [List.take_succ_eq_append_getElem hk', crc_snoc, ← HX.out]
      have hst := step_eq x l[k]
      have hsl := step_lt x l[k] hx
      generalize step x l[k] = y at *
      generalize (l[k]).toNat = b at *
      have hxb : bits .xor .u8 ((x : Int) % 256) (b : Int) = ((x % 256 ^^^ b : Nat) : Int) := by
        have := u8_xor_nat (x % 256) b (by omega) hb
        rw [← this]; simp
      have hcl : x % 256 ^^^ b < 256 := Nat.xor_lt_two_pow (n := 8) (by omega) hb
      have htc := R3.cell (x % 256 ^^^ b) hcl
      have htl := tab_lt (x % 256 ^^^ b) hcl
      have hxr := u32_xor_nat (x / 256) (tab (x % 256 ^^^ b)) (by omega) htl
      rw [← hst] at hxr
      have hxr' : bits .xor .u32 ((x : Int) / 256) (tab (x % 256 ^^^ b) : Nat) = (y : Int) := by rw [← hxr]; simp
      clear hst hxr hc R2 R3
      generalize tab (x % 256 ^^^ b) = tc at *
      generalize x % 256 ^^^ b = c at *
      go_wp2_with fail
      go_round
      case rel => exact ⟨k + 1, by omega, by go_num, y, rfl, hsl, HS⟩
      case measure => simp [intOf]; omega
    · obtain rfl : k = m := by omega
      have hnx := not_u32 x hx
      have HV : Hid (V = 4294967295 - x) := by show _ = _; rw [HMO.out, ← HX.out]
      go_wp2_with fail
      go_ret
      exact ⟨ret_int (by rw [HV.out]), B3⟩
theorem sum_any (A : Option Addr) (cap : Nat) (l : List UInt8) (w : World) (hl : l.length ≤ 1300000) (hr : Rd w w.heap.size A l) :
    Calls Tryz.prog 117 #[.slice A l.length cap] w (MoreSaid w (more 0 l)) := by
  have c := more_any 0 (by decide) A cap l w hl hr
  generalize more 0 l = V at *
  generalize l.length = m at *
  go_enter Tryz.func117, Tryz.ntmps117
  go_wp2_with fail
  refine c.mono ?_
  rintro e w1 ⟨rfl, B1⟩
  go_wp2_with fail
  go_ret
  exact ⟨rfl, B1⟩
theorem low_bit (x e : Nat) (he : e < 2) : (x % 2 = e → low (x ^^^ e) = x / 2) ∧ (x % 2 ≠ e → low (x ^^^ e) = x / 2 ^^^ 2197175160) := by
  have hd : (x ^^^ e) / 2 = x / 2 := by rw [Nat.xor_div_two, show e / 2 = 0 by omega, Nat.xor_zero]
  have hm := xor_mod2 x e
  unfold low
  rw [hd, hm]
  constructor
  · intro h; rw [if_neg (by omega)]
  · intro h; rw [if_pos (by omega)]
set_option maxRecDepth 100000 in
theorem rsum_any (A : Option Addr) (cap B : Nat) (l : List UInt8) (w : World) (hl : l.length ≤ 1300000) (hr : Rd w B A l) :
    Calls Tryz.prog 87 #[.slice A l.length cap] w fun e w' => e = .returned (.int .u32 (more 0 l : Nat)) ∧ w = w' := by
  obtain ⟨m, hm⟩ : ∃ m, m = l.length := ⟨_, rfl⟩
  rw [← hm]
  have HM := Lib.hid hm
  have hm9 : m ≤ 1300000 := by omega
  have HMO := Lib.hid (show more 0 l = 4294967295 - feed (bitAt l) 4294967295 (8 * l.length) by rw [← crc_feed]; rfl)
  rw [← hm] at HMO
  clear hm hl
  generalize more 0 l = V at *
  go_enter Tryz.func87, Tryz.ntmps87
  go_wp2_with fail
  go_loop [3, 4] (fun t i => ∃ k : Nat, k ≤ 8 * m ∧ i = .int .i64 k ∧ ∃ x : Nat, t = .int .u32 x ∧ x < 4294967296 ∧ Hid (x = feed (bitAt l) 4294967295 k)) (fun _ i => 8 * m - (intOf i).toNat)
  case atStart => exact ⟨0, by omega, rfl, 4294967295, rfl, by omega, rfl⟩
  case round =>
    obtain ⟨k, hk, rfl, x, rfl, hx, HX⟩ := hrel
    by_cases hlt : k < 8 * m
    · have hk' : k / 8 < l.length := by have := HM.out; omega
      obtain ⟨ad, rfl, _, hc⟩ := hr (by omega)
      have hcell : w.cell? (ad.add (k / 8)) = some (.int .u8 ((l[k / 8]).toNat : Int)) := hc (k / 8) hk'
      have hb : (l[k / 8]).toNat < 256 := UInt8.toNat_lt _
      have hbt : bitAt l k = (l[k / 8]).toNat / 2 ^ (k % 8) % 2 := by unfold bitAt; simp [List.getD, hk']
      have HS : Hid (low (x ^^^ bitAt l k) = feed (bitAt l) 4294967295 (k + 1)) := by show _ = _; rw [feed, ← HX.out]
      generalize (l[k / 8]).toNat = b at *
      have hz : ((b : Int) / 2 ^ (k % 8)) = ((b / 2 ^ (k % 8) : Nat) : Int) := by simp
      have hzl : b / 2 ^ (k % 8) < 256 := Nat.lt_of_le_of_lt (Nat.div_le_self _ _) hb
      rw [hbt] at HS
      generalize b / 2 ^ (k % 8) = z at *
      obtain ⟨hl1, hl2⟩ := low_bit x (z % 2) (by omega)
      have hlo : low (x ^^^ z % 2) < 4294967296 := low_lt _ (Nat.xor_lt_two_pow (n := 32) (by omega) (by omega))
      clear hc hbt
      by_cases he : x % 2 = z % 2
      · have e1 := hl1 he
        rw [e1] at HS hlo
        have hne : (((x : Int) % 2) != ((z : Int) % 2)) = false := by simp; omega
        clear hl1 hl2 e1
        go_wp2_with fail
        go_round
        case rel => exact ⟨k + 1, by omega, by go_num, x / 2, by go_num, hlo, HS⟩
        case measure => simp [intOf]; omega
      · have e1 := hl2 he
        rw [e1] at HS hlo
        have hne : (((x : Int) % 2) != ((z : Int) % 2)) = true := by simp; omega
        have hxr : bits .xor .u32 ((x : Int) / 2) 2197175160 = ((x / 2 ^^^ 2197175160 : Nat) : Int) := by
          have := u32_xor_nat (x / 2) 2197175160 (by omega) (by decide)
          exact this
        generalize x / 2 ^^^ 2197175160 = y at *
        clear hl1 hl2 e1
        go_wp2_with fail
        go_round
        case rel => exact ⟨k + 1, by omega, by go_num, y, rfl, hlo, HS⟩
        case measure => simp [intOf]; omega
    · obtain rfl : k = 8 * m := by omega
      have HV : Hid (V = 4294967295 - x) := by show _ = _; rw [HMO.out, ← HX.out]
      go_wp2_with fail
      go_ret
      exact ⟨ret_int (by rw [HV.out]; omega), rfl⟩
end Go.Proofs.YtdbhgkbmbbjpdaaGreatDoor.Tal
namespace Go.Proofs.YtdbhgkbmbbjpdaaGreatDoor.Tal
open Go.ChangeShapes Go.WideShapes Go.ChangeAt Go.RowKit
set_option maxRecDepth 8000
theorem info5 : (Tryz.prog.info? 5).map (fun i => (i.zero, i.size, i.bytes)) = some (some (.int .u8 0), 1, 1) := by kernel_rfl
theorem zero_add' (g j : Nat) : (⟨g, 0, none⟩ : Addr).add j = ⟨g, j, none⟩ := by
  unfold Addr.add; split <;> simp_all
theorem one_b8 (l : List UInt8) : ∀ v ∈ l.map b8, v.oneCell' = true := by
  intro v hv
  obtain ⟨b, _, rfl⟩ := List.mem_map.1 hv
  rfl
theorem Rd.src {w : World} {B : Nat} {A : Option Addr} {l : List UInt8} (h : Rd w B A l) (h0 : 0 < l.length) : ∃ ad, A = some ad ∧ ∀ j v, (l.map b8)[j]? = some v → w.cell? (ad.add j) = some v := by
  obtain ⟨ad, e, _, hc⟩ := h h0
  refine ⟨ad, e, fun j v hv => ?_⟩
  obtain ⟨hj, rfl⟩ := List.getElem?_eq_some_iff.1 hv
  simp at hj
  rw [hc j hj]; simp
def Own (w : World) (B : Nat) (v : Value) (l : List UInt8) : Prop := w.ownsRow B 5 1 v l.length (l.map b8)
theorem Own.nil (w : World) (B : Nat) : Own w B (.slice none 0 0) [] := World.ownsRow_nil w B 5 1
theorem Own.lt {w : World} {B : Nat} {v : Value} {l : List UInt8} (h : Own w B v l) : ∀ k, v.ownBlock = some k → B ≤ k ∧ k < w.heap.size := World.ownsRow.lt h
theorem Own.form {w : World} {B : Nat} {v : Value} {l : List UInt8} (h : Own w B v l) : ∃ A c, v = .slice A l.length c ∧ Rd w w.heap.size A l ∧ l.length ≤ c ∧ (A = none → c = 0) := by
  have hh := h
  obtain ⟨_, ⟨rfl, h0⟩ | ⟨g, cap, cur, rfl, _, hg, hle, _, _, _⟩⟩ := h
  · rw [List.eq_nil_of_length_eq_zero h0]
    exact ⟨none, 0, rfl, Rd.nil _ _ _, Nat.le_refl _, fun _ => rfl⟩
  · refine ⟨_, cap, rfl, fun h0 => ⟨_, rfl, ?_, fun j hj => ?_⟩, hle, fun h => by cases h⟩
    · rcases Nat.lt_or_ge g w.heap.size with h | h
      · exact h
      · rw [Array.getElem?_eq_none h] at hg; cases hg
    · rw [zero_add', World.ownsRow.cellAt hh j (by omega)]; simp [hj]
theorem Own.kept {w w' : World} {B : Nat} {v : Value} {l : List UInt8} (h : Own w B v l) (hb : Below w.heap.size w w') : Own w' B v l :=
  World.ownsRow.kept (row := none) h ⟨hb.os, hb.tape, hb.output, hb.size, fun k hk _ => hb.block k hk⟩ (by cases v.ownBlock <;> simp)
theorem Own.lit (w : World) (B : Nat) (l : List UInt8) (hB : B ≤ w.heap.size) (hl : l.length ≤ 1300000) : Own (w.alloc (.cells (l.map b8).toArray 5)) B (.slice (some ⟨w.heap.size, 0, none⟩) l.length l.length) l := by
  have := World.ownsRow_lit (e := 5) (size := 1) w (l.map b8).toArray l.length hB (by unfold maxLen; omega) (by simp)
  simpa [Own] using this
theorem app_any {w : World} {ops : Array Oper} {rest : List Oper} {o : Oper} {a : Act} {Q : Exit → Act → World → Prop} (hgd : o.guard = none) (s x : Operand)
    (ho : o.op = .call { callee := .builtin .append, args := #[s, x], argTypes := #[30, 30] }) (B : Nat) (v : Value) (l r : List UInt8) (A : Option Addr) (m c Bx : Nat)
    (hs : a.eval s = v) (hx : a.eval x = .slice A m c) (hown : Own w B v l) (hr : Rd w Bx A r) (hm : m = r.length) (hA : A = none → c = 0) (hlen : l.length + r.length ≤ 1300000) (hB : B ≤ w.heap.size) (B0 : Nat) (w0 : World) (hb : Below B0 w0 w) (hB0 : B0 ≤ B)
    (h : ∀ v' w', Own w' B v' (l ++ r) → Below B0 w0 w' → w.grownBy w' v.ownBlock → wpList Tryz.prog ops Q rest (a.put o.dst v') w') : wpList Tryz.prog ops Q (o :: rest) a w := by
  obtain ⟨i0, hi, hz0, hz1, hz2⟩ := info_parts info5
  subst hm
  rcases A with _ | ad
  · have h0 : r = [] := by
      rcases r with _ | ⟨b, r⟩
      · rfl
      · obtain ⟨ad, h, _⟩ := hr (by simp); cases h
    subst h0
    obtain rfl := hA rfl
    exact wpList_append_own_none hgd s x 30 ho B 5 i0 1 Tryz.underlying30 hi v l.length (l.map b8) hs hown hx (h v w (by simpa using hown) hb (World.grownBy.refl w _))
  · have hc : ∀ j u, (r.map b8)[j]? = some u → w.cell? (ad.add j) = some u := by
      intro j u hj
      by_cases h0 : 0 < r.length
      · obtain ⟨ad', e, h⟩ := hr.src h0
        injection e with e
        subst e
        exact h j u hj
      · obtain rfl : r = [] := List.eq_nil_of_length_eq_zero (by omega)
        simp at hj
    refine wpList_append_own w hgd s x 30 ho B 5 i0 (.int .u8 0) 1 1 Tryz.underlying30 hi hz0 hz1 hz2 rfl (by decide) v l.length (l.map b8) hs hown ad r.length c (r.map b8) hx (by simp) hc (one_b8 r) (by unfold maxLen; omega) (by omega) hB ?_
    intro v' w' h1 h2 _
    refine h v' w' ?_ (hb.grown h2 (Nat.le_trans hB0 hB) fun k hk => Nat.le_trans hB0 (hown.lt k hk).1) h2
    simpa [Own] using h1
def IsRow (k : IntKind) (w : World) (a : Option Addr) (len cap : Nat) (zs : List Int) : Prop :=
  (a = none ∧ len = 0 ∧ cap = 0 ∧ zs = []) ∨
  ∃ x, a = some x ∧ len ≤ cap ∧ cap ≤ maxLen ∧ zs.length = cap ∧ (∀ i, i < zs.length → w.cell? (x.add i) = some (.int k (zs.getD i 0))) ∧ ∀ n ∈ zs, (Lit.int k n).wf = true
theorem bytes_of {w : World} {a : Option Addr} {len cap : Nat} {z : List Int} (h : IsRow .u8 w a len cap z) : ∃ l : List UInt8, len = l.length ∧ len ≤ maxLen ∧ len ≤ cap ∧ Rd w w.heap.size a l ∧ (a = none → cap = 0) := by
  rcases h with ⟨rfl, rfl, rfl, rfl⟩ | ⟨x, rfl, h1, h2, h3, h4, h5⟩
  · exact ⟨[], rfl, by unfold maxLen; omega, Nat.le_refl _, Rd.nil _ _ _, fun _ => rfl⟩
  · refine ⟨(z.take len).map fun n => UInt8.ofNat n.toNat, by simp; omega, by omega, h1, fun h0 => ⟨x, rfl, ?_, fun j hj => ?_⟩, fun h => by cases h⟩
    · have hc := h4 0 (by simp at h0; omega)
      have := block_lt_of_cell hc
      rwa [blk_add] at this
    · simp at hj
      have hz : z[j] ∈ z := List.getElem_mem _
      have hb := bounds_u8 (h5 _ hz)
      have hc := h4 j (by omega)
      have e : z.getD j 0 = z[j] := by rw [List.getD_eq_getElem?_getD, List.getElem?_eq_getElem]; rfl
      rw [e] at hc
      rw [hc]
      simp only [List.getElem_map, List.getElem_take, b8]
      congr 2
      simp; omega
end Go.Proofs.YtdbhgkbmbbjpdaaGreatDoor.Tal

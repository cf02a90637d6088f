/- What the sum of a packet is, the document's tail, and the document's Right. -/
import Derived.Test.YtecfblkagbdjlaaPrs
import Derived.Test.YtecfblkagbdjlaaTApp
import Derived.Test.YtecfblkagbdjlaaPFns
namespace Go.Proofs.Ytecfblkagbdjlaa.Msg
open Go.ChangeShapes Go.WideShapes Go.ChangeAt Go.RowKit
open Coin (b8 Rd Row Own sz)
open Tal (more)

def tailb (s : Nat) : List UInt8 := [UInt8.ofNat s, UInt8.ofNat (s / 256), UInt8.ofNat (s / 65536), UInt8.ofNat (s / 16777216)]
theorem length_tailb (s : Nat) : (tailb s).length = 4 := rfl
theorem tailb_inj (a b : Nat) (ha : a < 4294967296) (hb : b < 4294967296) (h : tailb a = tailb b) : a = b := by
  simp only [tailb, List.cons.injEq, and_true] at h
  obtain ⟨h0, h1, h2, h3⟩ := h
  have e0 := congrArg UInt8.toNat h0
  have e1 := congrArg UInt8.toNat h1
  have e2 := congrArg UInt8.toNat h2
  have e3 := congrArg UInt8.toNat h3
  simp at e0 e1 e2 e3
  omega

/-- A row of four bytes. -/
def Row4 (w : World) (g : Nat) (l : List UInt8) : Prop := w.heap[g]? = some (.cells (l.map b8).toArray 54 (0, 0))
theorem Row4.cells {w : World} {g : Nat} {a b c d : UInt8} (h : Row4 w g [a, b, c, d]) : w.cell? ⟨g, 0, none⟩ = some (b8 a) ∧ w.cell? ⟨g, 1, none⟩ = some (b8 b) ∧ w.cell? ⟨g, 2, none⟩ = some (b8 c) ∧ w.cell? ⟨g, 3, none⟩ = some (b8 d) ∧ ∀ j, w.frozen? ⟨g, j, none⟩ = false := by
  refine ⟨?_, ?_, ?_, ?_, fun j => frozen_of_row w g j _ 54 h⟩
  all_goals (rw [cell_of_row w g _ _ 54 (0, 0) h]; rfl)
theorem Row4.set {w : World} {g : Nat} {l : List UInt8} (h : Row4 w g l) (j : Nat) (b : UInt8) : Row4 (w.setCell ⟨g, j, none⟩ (b8 b)) g (l.set j b) := by
  unfold Row4 at h ⊢
  rw [heap_setCell_same w g j _ 54 _ h]
  simp [List.map_set]
theorem Row4.other {w : World} {k g : Nat} {l : List UInt8} (h : Row4 w k l) (hk : k ≠ g) (j : Nat) (v : Value) : Row4 (w.setCell ⟨g, j, none⟩ v) k l := (Below.heap_setCell w ⟨g, j, none⟩ v k hk).trans h
theorem size4 : (Try.prog.info? 54).map (·.size) = some 4 := by kernel_rfl
theorem under4 : Try.prog.underlying 54 = some (.array 4 5) := by kernel_rfl
/-- A whole row is stored over another one. -/
theorem store4 {w : World} {ops : Array Oper} {rest : List Oper} {op : Oper} {a : Act} {Q : Exit → Act → World → Prop} (hgd : op.guard = none) (x y : Operand) (ho : op.op = .store 54 x y)
    (g : Nat) (l0 : List UInt8) (b0 b1 b2 b3 : UInt8) (hx : a.eval x = .pointer (some ⟨g, 0, none⟩)) (hy : a.eval y = .agg #[b8 b0, b8 b1, b8 b2, b8 b3]) (hg : Row4 w g l0) (hl : l0.length = 4) (B : Nat) (w0 : World) (hb : Below B w0 w) (hB : B ≤ g) 
    (h : ∀ w', Row4 w' g [b0, b1, b2, b3] → Below B w0 w' → wpList Try.prog ops Q rest (a.put op.dst undef) w') : wpList Try.prog ops Q (op :: rest) a w := by
  refine wpList_store_row hgd 54 x y ho g _ hx hy 54 _ hg size4 (by simp [hl]) (by simp [Value.oneCell', b8]) ?_
  exact h _ (setRow_heap w g _ _ 54 _ hg) (below_setRow hb hB _)
def SumSaid (w : World) (l : List UInt8) (e : Ending) (w' : World) : Prop := e = .returned (.agg #[b8 (UInt8.ofNat (more 0 l)), b8 (UInt8.ofNat (more 0 l / 256)), b8 (UInt8.ofNat (more 0 l / 65536)), b8 (UInt8.ofNat (more 0 l / 16777216))]) ∧ Below w.heap.size w w'
set_option maxRecDepth 100000 in
theorem sumof_any (A : Option Addr) (cap : Nat) (l : List UInt8) (w : World) (hl : l.length ≤ 1000000) (hr : Rd w w.heap.size A l) :
    Calls Try.prog 22 #[.slice A l.length cap] w (SumSaid w l) := by
  have B0 : Below w.heap.size w (w.alloc (.cells #[.int .u8 0, .int .u8 0, .int .u8 0, .int .u8 0] 54)) := (Below.refl _ _).alloc (Nat.le_refl _) _
  have c := Tal.sum_any A cap l (w.alloc (.cells #[.int .u8 0, .int .u8 0, .int .u8 0, .int .u8 0] 54)) hl ((hr.below B0 (Nat.le_refl _)).more (by simp))
  have hm := Tal.more_lt 0 l
  unfold SumSaid
  generalize more 0 l = s at *
  generalize l.length = m at *
  go_enter Try.func22, Try.ntmps22
  go_wp2_with fail
  refine c.mono ?_
  rintro e w1 ⟨rfl, B1⟩
  go_wp2_with fail
  have R1 : Row4 (w1.alloc (.cells #[.int .u8 0, .int .u8 0, .int .u8 0, .int .u8 0] 54)) w1.heap.size [0, 0, 0, 0] := heap_alloc_new w1 _
  have hsz : w.heap.size < w1.heap.size := Nat.lt_of_lt_of_le (by simp) B1.size
  have R0 : Row4 (w1.alloc (.cells #[.int .u8 0, .int .u8 0, .int .u8 0, .int .u8 0] 54)) w.heap.size [0, 0, 0, 0] := (heap_alloc_old w1 _ hsz).trans ((B1.block _ (by simp)).trans (heap_alloc_new w _))
  have B2 : Below w.heap.size w (w1.alloc (.cells #[.int .u8 0, .int .u8 0, .int .u8 0, .int .u8 0] 54)) := (B0.trans (B1.mono (by simp))).alloc (by omega) _
  have hg : w.heap.size < w1.heap.size := hsz
  generalize w1.alloc (.cells #[.int .u8 0, .int .u8 0, .int .u8 0, .int .u8 0] 54) = w2 at *
  generalize w1.heap.size = g at *
  clear B1 B0 c hr hsz
  go_loopw [3, 8] (fun x i wr => ∃ z : Int, (z = 0 ∨ z = 1 ∨ z = 2 ∨ z = 3 ∨ z = 4) ∧ i = .int .i64 z ∧ ∃ y : Nat, x = .int .u32 y ∧ y < 4294967296 ∧ Hid (y = s / 256 ^ z.toNat) ∧ Row4 wr w.heap.size [0, 0, 0, 0] ∧ Row4 wr g ((tailb s).take z.toNat ++ List.replicate (4 - z.toNat) 0) ∧ Below w.heap.size w wr) (fun _ i _ => 4 - (intOf i).toNat)
  case atStart => exact ⟨0, .inl rfl, rfl, s, rfl, hm, show _ = _ by simp, R0, R1, B2⟩
  case round =>
    clear R0 R1 B2
    obtain ⟨z, hz, rfl, y, rfl, hy, HY, R0, R, B⟩ := hrel
    have hd : y / 256 < 4294967296 := by omega
    rcases hz with rfl | rfl | rfl | rfl | rfl
    · have R' := R.set 0 (UInt8.ofNat y)
      have B' := B.setCell (p := ⟨g, 0, none⟩) (by show w.heap.size ≤ g; omega) (b8 (UInt8.ofNat y))
      have R0' := R0.other (g := g) (by omega) 0 (b8 (UInt8.ofNat y))
      obtain ⟨p0, p1, p2, p3, pf⟩ := R.cells
      rw [Coin.b8_ofNat] at R' B' R0'
      have R'' : Row4 (wr.setCell ⟨g, 0, none⟩ (.int .u8 ((y : Int) % 256))) g ((tailb s).take (1 : Int).toNat ++ List.replicate (4 - (1 : Int).toNat) 0) := by rw [HY.out] at R' ⊢; simpa [tailb] using R'
      clear R R'
      go_wp2
      go_roundw
      case rel => exact ⟨1, .inr (.inl rfl), rfl, y / 256, by go_num, hd, show _ = _ by rw [HY.out]; simp <;> omega, R0', R'', B'⟩
      case measure => simp [intOf]
    · have R' := R.set 1 (UInt8.ofNat y)
      have B' := B.setCell (p := ⟨g, 1, none⟩) (by show w.heap.size ≤ g; omega) (b8 (UInt8.ofNat y))
      have R0' := R0.other (g := g) (by omega) 1 (b8 (UInt8.ofNat y))
      obtain ⟨p0, p1, p2, p3, pf⟩ := R.cells
      rw [Coin.b8_ofNat] at R' B' R0'
      have R'' : Row4 (wr.setCell ⟨g, 1, none⟩ (.int .u8 ((y : Int) % 256))) g ((tailb s).take (2 : Int).toNat ++ List.replicate (4 - (2 : Int).toNat) 0) := by rw [HY.out] at R' ⊢; simpa [tailb] using R'
      clear R R'
      go_wp2
      go_roundw
      case rel => exact ⟨2, .inr (.inr (.inl rfl)), rfl, y / 256, by go_num, hd, show _ = _ by rw [HY.out]; simp <;> omega, R0', R'', B'⟩
      case measure => simp [intOf]
    · have R' := R.set 2 (UInt8.ofNat y)
      have B' := B.setCell (p := ⟨g, 2, none⟩) (by show w.heap.size ≤ g; omega) (b8 (UInt8.ofNat y))
      have R0' := R0.other (g := g) (by omega) 2 (b8 (UInt8.ofNat y))
      obtain ⟨p0, p1, p2, p3, pf⟩ := R.cells
      rw [Coin.b8_ofNat] at R' B' R0'
      have R'' : Row4 (wr.setCell ⟨g, 2, none⟩ (.int .u8 ((y : Int) % 256))) g ((tailb s).take (3 : Int).toNat ++ List.replicate (4 - (3 : Int).toNat) 0) := by rw [HY.out] at R' ⊢; simpa [tailb] using R'
      clear R R'
      go_wp2
      go_roundw
      case rel => exact ⟨3, .inr (.inr (.inr (.inl rfl))), rfl, y / 256, by go_num, hd, show _ = _ by rw [HY.out]; simp <;> omega, R0', R'', B'⟩
      case measure => simp [intOf]
    · have R' := R.set 3 (UInt8.ofNat y)
      have B' := B.setCell (p := ⟨g, 3, none⟩) (by show w.heap.size ≤ g; omega) (b8 (UInt8.ofNat y))
      have R0' := R0.other (g := g) (by omega) 3 (b8 (UInt8.ofNat y))
      obtain ⟨p0, p1, p2, p3, pf⟩ := R.cells
      rw [Coin.b8_ofNat] at R' B' R0'
      have R'' : Row4 (wr.setCell ⟨g, 3, none⟩ (.int .u8 ((y : Int) % 256))) g ((tailb s).take (4 : Int).toNat ++ List.replicate (4 - (4 : Int).toNat) 0) := by rw [HY.out] at R' ⊢; simpa [tailb] using R'
      clear R R'
      go_wp2
      go_roundw
      case rel => exact ⟨4, .inr (.inr (.inr (.inr (rfl)))), rfl, y / 256, by go_num, hd, show _ = _ by rw [HY.out]; simp <;> omega, R0', R'', B'⟩
      case measure => simp [intOf]
    · obtain ⟨p0, p1, p2, p3, pf⟩ := R.cells
      go_wp2_with (with_reducible refine store4 rfl (.tmp 2) (.tmp 18) rfl w.heap.size _ _ _ _ _ rfl rfl R0 rfl w.heap.size w B (Nat.le_refl _) ?_; intro w3 R3 B3)
      (try simp only [Exit.inBlock, Exit.then])
      exact bodyPost_ret (results_cell_row (p := 2) (ty := 54) rfl _ _ w.heap.size 54 _ (0, 0) (.array 4 5) rfl R3 under4 rfl size4) rfl ⟨rfl, B3⟩
def TailSaid (w : World) (l : List UInt8) (e : Ending) (w' : World) : Prop := e = .returned (.slice (some ⟨w.heap.size, 0, none⟩) 4 4) ∧ Row w' w.heap.size (tailb (more 0 l)) ∧ Below w.heap.size w w'
theorem tail_any (A : Option Addr) (cap B : Nat) (l : List UInt8) (w : World) (hl : l.length ≤ 1000000) (hr : Rd w B A l) :
    Calls Try.prog 17 #[.slice A l.length cap] w (TailSaid w l) := by
  have c := Tal.rsum_any A cap B l w hl hr
  have hm := Tal.more_lt 0 l
  unfold TailSaid
  generalize more 0 l = s at *
  generalize l.length = m at *
  clear hr
  have hR : Row (w.alloc (.cells #[.int .u8 ((s : Int) % 256), .int .u8 ((s : Int) / 256 % 256), .int .u8 ((s : Int) / 65536 % 256), .int .u8 ((s : Int) / 16777216 % 256)] 5)) w.heap.size (tailb s) := by
    have h := Coin.Row.lit w (tailb s)
    have e : ((tailb s).map b8).toArray = #[.int .u8 ((s : Int) % 256), .int .u8 ((s : Int) / 256 % 256), .int .u8 ((s : Int) / 65536 % 256), .int .u8 ((s : Int) / 16777216 % 256)] := by
      simp only [tailb, List.map_cons, List.map_nil, Coin.b8_ofNat]; simp
    rwa [e] at h
  have e4 : (s : Int) / 16777216 % 256 = (s : Int) / 16777216 := by omega
  have hB : Below w.heap.size w (w.alloc (.cells #[.int .u8 ((s : Int) % 256), .int .u8 ((s : Int) / 256 % 256), .int .u8 ((s : Int) / 65536 % 256), .int .u8 ((s : Int) / 16777216 % 256)] 5)) := (Below.refl _ _).alloc (Nat.le_refl _) _
  rw [e4] at hR hB
  go_enter Try.func17, Try.ntmps17
  go_wp2_with (go_at_call 31; refine c.mono ?_; rintro e w' ⟨rfl, rfl⟩)
  go_ret
  exact ⟨rfl, hR, hB⟩

theorem row4_rd {w : World} {g : Nat} {l : List UInt8} (h : Row4 w g l) : Rd w w.heap.size (some ⟨g, 0, none⟩) l := fun h0 => by
  refine ⟨_, rfl, ?_, fun j hj => ?_⟩
  · rcases Nat.lt_or_ge g w.heap.size with h1 | h1
    · exact h1
    · unfold Row4 at h; rw [Array.getElem?_eq_none h1] at h; cases h
  · rw [Coin.zero_add', cell_of_row w g j _ 54 (0, 0) h]; simp [hj]
end Go.Proofs.Ytecfblkagbdjlaa.Msg

/- What frame.Size and a frame's sum answer. What frame.Pack answers, and the document's own. For the law on purses: pieces of a slice that came in; a purse that is left alone. What frame.One answers. What frame.Scan answers. -/
import Derived.Test.YtdbhgkbmbbjpdaaGreatDoorPut
import Derived.Test.YtdbhgkbmbbjpdaaGreatDoorRta
import Derived.Test.YtdbhgkbmbbjpdaaGreatDoorTApp
import Derived.Lib.QuietBelow
import Derived.Laws.ResultCell
import Derived.Laws.Cover3
import Derived.Stop.BytesEq
namespace Go.Proofs.YtdbhgkbmbbjpdaaGreatDoor.Frm
open Go.ChangeShapes Go.WideShapes Go.ChangeAt Go.RowKit
open Coin (b8 Rd Row Own sz)
open Tal (more)
theorem fsize_any (n : Nat) (hn : n ≤ 2000000) (w : World) : Calls Tryz.prog 58 #[.int .i64 n] w fun e w' => e = .returned (.int .i64 (sz n + 1 + n + 4 : Nat)) ∧ w = w' := by
  have c := Coin.size_any n (by omega)
  have hs := Coin.sz_le n
  generalize sz n = s at *
  go_enter Tryz.func58, Tryz.ntmps58
  go_wp2_with (go_at_call 88; refine (c _).mono ?_; rintro e w' ⟨rfl, rfl⟩)
  go_ret
  exact ⟨Coin.ret_int (by omega), rfl⟩
def Row4 (w : World) (g : Nat) (l : List UInt8) : Prop := w.heap[g]? = some (.cells (l.map b8).toArray 129 (0, 0))
theorem Row4.cells {w : World} {g : Nat} {a b c d : UInt8} (h : Row4 w g [a, b, c, d]) : w.cell? ⟨g, 0, none⟩ = some (b8 a) ∧ w.cell? ⟨g, 1, none⟩ = some (b8 b) ∧ w.cell? ⟨g, 2, none⟩ = some (b8 c) ∧ w.cell? ⟨g, 3, none⟩ = some (b8 d) ∧ ∀ j, w.frozen? ⟨g, j, none⟩ = false := by
  refine ⟨?_, ?_, ?_, ?_, fun j => frozen_of_row w g j _ 129 h⟩
  all_goals (rw [cell_of_row w g _ _ 129 (0, 0) h]; rfl)
theorem Row4.set {w : World} {g : Nat} {l : List UInt8} (h : Row4 w g l) (j : Nat) (b : UInt8) : Row4 (w.setCell ⟨g, j, none⟩ (b8 b)) g (l.set j b) := by
  unfold Row4 at h ⊢
  rw [heap_setCell_same w g j _ 129 _ h]
  simp [List.map_set]
theorem Row4.other {w : World} {k g : Nat} {l : List UInt8} (h : Row4 w k l) (hk : k ≠ g) (j : Nat) (v : Value) : Row4 (w.setCell ⟨g, j, none⟩ v) k l := (Below.heap_setCell w ⟨g, j, none⟩ v k hk).trans h
theorem size4 : (Tryz.prog.info? 129).map (·.size) = some 4 := by kernel_rfl
theorem under4 : Tryz.prog.underlying 129 = some (.array 4 5) := by kernel_rfl
theorem store4 {w : World} {ops : Array Oper} {rest : List Oper} {op : Oper} {a : Act} {Q : Exit → Act → World → Prop} (hgd : op.guard = none) (x y : Operand) (ho : op.op = .store 129 x y)
    (g : Nat) (l0 : List UInt8) (b0 b1 b2 b3 : UInt8) (hx : a.eval x = .pointer (some ⟨g, 0, none⟩)) (hy : a.eval y = .agg #[b8 b0, b8 b1, b8 b2, b8 b3]) (hg : Row4 w g l0) (hl : l0.length = 4) (B : Nat) (w0 : World) (hb : Below B w0 w) (hB : B ≤ g)
    (h : ∀ w', Row4 w' g [b0, b1, b2, b3] → Below B w0 w' → wpList Tryz.prog ops Q rest (a.put op.dst undef) w') : wpList Tryz.prog ops Q (op :: rest) a w := by
  refine wpList_store_row hgd 129 x y ho g _ hx hy 129 _ hg size4 (by simp [hl]) (by simp [Value.oneCell', b8]) ?_
  exact h _ (setRow_heap w g _ _ 129 _ hg) (below_setRow hb hB _)
def SumSaid (w : World) (l : List UInt8) (e : Ending) (w' : World) : Prop := e = .returned (.agg #[b8 (UInt8.ofNat (more 0 l)), b8 (UInt8.ofNat (more 0 l / 256)), b8 (UInt8.ofNat (more 0 l / 65536)), b8 (UInt8.ofNat (more 0 l / 16777216))]) ∧ Below w.heap.size w w'
set_option maxRecDepth 100000 in
theorem sumof_any (A : Option Addr) (cap : Nat) (l : List UInt8) (w : World) (hl : l.length ≤ 1300000) (hr : Rd w w.heap.size A l) :
    Calls Tryz.prog 93 #[.slice A l.length cap] w (SumSaid w l) := by
  have B0 : Below w.heap.size w (w.alloc (.cells #[.int .u8 0, .int .u8 0, .int .u8 0, .int .u8 0] 129)) := (Below.refl _ _).alloc (Nat.le_refl _) _
  have c := Tal.sum_any A cap l (w.alloc (.cells #[.int .u8 0, .int .u8 0, .int .u8 0, .int .u8 0] 129)) hl ((hr.below B0 (Nat.le_refl _)).more (by simp))
  have hm := Tal.more_lt 0 l
  unfold SumSaid
  generalize more 0 l = s at *
  generalize l.length = m at *
  go_enter Tryz.func93, Tryz.ntmps93
  go_wp2_with fail
  refine c.mono ?_
  rintro e w1 ⟨rfl, B1⟩
  go_wp2_with fail
  have R1 : Row4 (w1.alloc (.cells #[.int .u8 0, .int .u8 0, .int .u8 0, .int .u8 0] 129)) w1.heap.size [0, 0, 0, 0] := heap_alloc_new w1 _
  have hsz : w.heap.size < w1.heap.size := Nat.lt_of_lt_of_le (by simp) B1.size
  have R0 : Row4 (w1.alloc (.cells #[.int .u8 0, .int .u8 0, .int .u8 0, .int .u8 0] 129)) w.heap.size [0, 0, 0, 0] := (heap_alloc_old w1 _ hsz).trans ((B1.block _ (by simp)).trans (heap_alloc_new w _))
  have B2 : Below w.heap.size w (w1.alloc (.cells #[.int .u8 0, .int .u8 0, .int .u8 0, .int .u8 0] 129)) := (B0.trans (B1.mono (by simp))).alloc (by omega) _
  have hg : w.heap.size < w1.heap.size := hsz
  generalize w1.alloc (.cells #[.int .u8 0, .int .u8 0, .int .u8 0, .int .u8 0] 129) = w2 at *
  generalize w1.heap.size = g at *
  clear B1 B0 c hr hsz
  go_loopw [3, 8] (fun x i wr => ∃ z : Int, (z = 0 ∨ z = 1 ∨ z = 2 ∨ z = 3 ∨ z = 4) ∧ i = .int .i64 z ∧ ∃ y : Nat, x = .int .u32 y ∧ y < 4294967296 ∧ Hid (y = s / 256 ^ z.toNat) ∧ Row4 wr w.heap.size [0, 0, 0, 0] ∧ Row4 wr g ((tailb s).take z.toNat ++ List.replicate (4 - z.toNat) 0) ∧ Below w.heap.size w wr) (fun _ i _ => 4 - (intOf i).toNat)
  case atStart => exact ⟨0, .inl rfl, rfl, s, rfl, hm, show _ = _ by simp, R0, R1, B2⟩
  case round =>
    clear R0 R1 B2
    obtain ⟨z, hz, rfl, y, rfl, hy, HY, R0, R, B⟩ := hrel
    have hd : y / 256 < 4294967296 := by omega
    rcases hz with rfl | rfl | rfl | rfl | rfl
    · have R' := R.set 0 (UInt8.ofNat y)
      have B' := B.setCell (p := ⟨g, 0, none⟩) (by show w.heap.size ≤ g; omega) (b8 (UInt8.ofNat y))
      have R0' := R0.other (g := g) (by omega) 0 (b8 (UInt8.ofNat y))
      obtain ⟨p0, p1, p2, p3, pf⟩ := R.cells
      rw [Coin.b8_ofNat] at R' B' R0'
      have R'' : Row4 (wr.setCell ⟨g, 0, none⟩ (.int .u8 ((y : Int) % 256))) g ((tailb s).take (1 : Int).toNat ++ List.replicate (4 - (1 : Int).toNat) 0) := by rw [HY.out] at R' ⊢; simpa [tailb] using R'
      clear R R'
      go_wp2
      go_roundw
      case rel => exact ⟨1, .inr (.inl rfl), rfl, y / 256, by go_num, hd, show _ = _ by rw [HY.out]; simp <;> omega, R0', R'', B'⟩
      case measure => simp [intOf]
    · have R' := R.set 1 (UInt8.ofNat y)
      have B' := B.setCell (p := ⟨g, 1, none⟩) (by show w.heap.size ≤ g; omega) (b8 (UInt8.ofNat y))
      have R0' := R0.other (g := g) (by omega) 1 (b8 (UInt8.ofNat y))
      obtain ⟨p0, p1, p2, p3, pf⟩ := R.cells
      rw [Coin.b8_ofNat] at R' B' R0'
      have R'' : Row4 (wr.setCell ⟨g, 1, none⟩ (.int .u8 ((y : Int) % 256))) g ((tailb s).take (2 : Int).toNat ++ List.replicate (4 - (2 : Int).toNat) 0) := by rw [HY.out] at R' ⊢; simpa [tailb] using R'
      clear R R'
      go_wp2
      go_roundw
      case rel => exact ⟨2, .inr (.inr (.inl rfl)), rfl, y / 256, by go_num, hd, show _ = _ by rw [HY.out]; simp <;> omega, R0', R'', B'⟩
      case measure => simp [intOf]
    · have R' := R.set 2 (UInt8.ofNat y)
      have B' := B.setCell (p := ⟨g, 2, none⟩) (by show w.heap.size ≤ g; omega) (b8 (UInt8.ofNat y))
      have R0' := R0.other (g := g) (by omega) 2 (b8 (UInt8.ofNat y))
      obtain ⟨p0, p1, p2, p3, pf⟩ := R.cells
      rw [Coin.b8_ofNat] at R' B' R0'
      have R'' : Row4 (wr.setCell ⟨g, 2, none⟩ (.int .u8 ((y : Int) % 256))) g ((tailb s).take (3 : Int).toNat ++ List.replicate (4 - (3 : Int).toNat) 0) := by rw [HY.out] at R' ⊢; simpa [tailb] using R'
      clear R R'
      go_wp2
      go_roundw
      case rel => exact ⟨3, .inr (.inr (.inr (.inl rfl))), rfl, y / 256, by go_num, hd, show _ = _ by rw [HY.out]; simp <;> omega, R0', R'', B'⟩
      case measure => simp [intOf]
    · have R' := R.set 3 (UInt8.ofNat y)
      have B' := B.setCell (p := ⟨g, 3, none⟩) (by show w.heap.size ≤ g; omega) (b8 (UInt8.ofNat y))
      have R0' := R0.other (g := g) (by omega) 3 (b8 (UInt8.ofNat y))
      obtain ⟨p0, p1, p2, p3, pf⟩ := R.cells
      rw [Coin.b8_ofNat] at R' B' R0'
      have R'' : Row4 (wr.setCell ⟨g, 3, none⟩ (.int .u8 ((y : Int) % 256))) g ((tailb s).take (4 : Int).toNat ++ List.replicate (4 - (4 : Int).toNat) 0) := by rw [HY.out] at R' ⊢; simpa [tailb] using R'
      clear R R'
      go_wp2
      go_roundw
      case rel => exact ⟨4, .inr (.inr (.inr (.inr (rfl)))), rfl, y / 256, by go_num, hd, show _ = _ by rw [HY.out]; simp <;> omega, R0', R'', B'⟩
      case measure => simp [intOf]
    · obtain ⟨p0, p1, p2, p3, pf⟩ := R.cells
      go_wp2_with (with_reducible refine store4 rfl (.tmp 2) (.tmp 18) rfl w.heap.size _ _ _ _ _ rfl rfl R0 rfl w.heap.size w B (Nat.le_refl _) ?_; intro w3 R3 B3)
      (try simp only [Exit.inBlock, Exit.then])
      exact bodyPost_ret (results_cell_row (p := 2) (ty := 129) rfl _ _ w.heap.size 129 _ (0, 0) (.array 4 5) rfl R3 under4 rfl size4) rfl ⟨rfl, B3⟩
end Go.Proofs.YtdbhgkbmbbjpdaaGreatDoor.Frm
namespace Go.Proofs.YtdbhgkbmbbjpdaaGreatDoor.Frm
open Go.ChangeShapes Go.WideShapes Go.ChangeAt Go.RowKit
open Coin (b8 Rd Row Own sz coin CoinSaid CoinOwn)
open Tal (more)
def TailSaid (w : World) (l : List UInt8) (e : Ending) (w' : World) : Prop := e = .returned (.slice (some ⟨w.heap.size, 0, none⟩) 4 4) ∧ Row w' w.heap.size (tailb (more 0 l)) ∧ Below w.heap.size w w'
theorem tail_any (A : Option Addr) (cap B : Nat) (l : List UInt8) (w : World) (hl : l.length ≤ 1300000) (hr : Rd w B A l) :
    Calls Tryz.prog 57 #[.slice A l.length cap] w (TailSaid w l) := by
  have c := Tal.rsum_any A cap B l w hl hr
  have hm := Tal.more_lt 0 l
  unfold TailSaid
  generalize more 0 l = s at *
  generalize l.length = m at *
  clear hr
  have hR : Row (w.alloc (.cells #[.int .u8 ((s : Int) % 256), .int .u8 ((s : Int) / 256 % 256), .int .u8 ((s : Int) / 65536 % 256), .int .u8 ((s : Int) / 16777216 % 256)] 5)) w.heap.size (tailb s) := by
    have h := Coin.Row.lit w (tailb s)
    have e : ((tailb s).map b8).toArray = #[.int .u8 ((s : Int) % 256), .int .u8 ((s : Int) / 256 % 256), .int .u8 ((s : Int) / 65536 % 256), .int .u8 ((s : Int) / 16777216 % 256)] := by
      simp only [tailb, List.map_cons, List.map_nil, Coin.b8_ofNat]; simp
    rwa [e] at h
  have e4 : (s : Int) / 16777216 % 256 = (s : Int) / 16777216 := by omega
  have hB : Below w.heap.size w (w.alloc (.cells #[.int .u8 ((s : Int) % 256), .int .u8 ((s : Int) / 256 % 256), .int .u8 ((s : Int) / 65536 % 256), .int .u8 ((s : Int) / 16777216 % 256)] 5)) := (Below.refl _ _).alloc (Nat.le_refl _) _
  rw [e4] at hR hB
  go_enter Tryz.func57, Tryz.ntmps57
  go_wp2_with (go_at_call 87; refine c.mono ?_; rintro e w' ⟨rfl, rfl⟩)
  go_ret
  exact ⟨rfl, hR, hB⟩
theorem own_made (w : World) (n : Nat) (hn : n ≤ 1300000) : Own (w.alloc (.cells (madeCells #[.int .u8 0] n) 5)) w.heap.size (.slice (some ⟨w.heap.size, 0, none⟩) 0 n) [] := by
  refine ⟨rfl, .inr ⟨w.heap.size, n, madeCells #[.int .u8 0] n, rfl, Nat.le_refl _, heap_alloc_new w _, Nat.zero_le _, by unfold maxLen; omega, ?_, by simp⟩⟩
  rw [← Array.length_toList, toList_madeCells_one]; simp
theorem make0_any (n : Nat) (h : n ≤ 1300000) : ∀ w : World, (Instr.makeSlice 30 (.int .i64 0) (.int .i64 (n : Int))).run Tryz.prog w = .ok (.slice (some ⟨w.heap.size, 0, none⟩) 0 n) (w.alloc (.cells (madeCells #[.int .u8 0] n) 5)) := by
  intro w
  obtain ⟨i, hi, hz, h1, h2⟩ := info_parts Coin.info5
  have h := run_make (P := Tryz.prog) w 30 5 i (.int .u8 0) Tryz.underlying30 hi hz .i64 .i64 0 n (Int.le_refl _) (by omega) (by rw [h2]; omega) (by omega)
  have e : (Value.int IntKind.u8 0).cells = #[.int .u8 0] := rfl
  rw [h1, e] at h
  simpa using h
theorem one_row (w : World) (k : UInt8) (q : Nat) (hq : q = k.toNat) : Row (w.alloc (.cells #[.int .u8 (q : Int)] 5)) w.heap.size [k] := by rw [hq]; exact heap_alloc_new w _
theorem row4_rd {w : World} {g : Nat} {l : List UInt8} (h : Row4 w g l) : Rd w w.heap.size (some ⟨g, 0, none⟩) l := fun h0 => by
  refine ⟨_, rfl, ?_, fun j hj => ?_⟩
  · rcases Nat.lt_or_ge g w.heap.size with h1 | h1
    · exact h1
    · unfold Row4 at h; rw [Array.getElem?_eq_none h1] at h; cases h
  · rw [Coin.zero_add', cell_of_row w g j _ 129 (0, 0) h]; simp [hj]
set_option maxRecDepth 100000 in
theorem pack_own (k : UInt8) (A : Option Addr) (cap : Nat) (p : List UInt8) (w : World) (hl : p.length ≤ 1100000) (hr : Rd w w.heap.size A p) (hA : A = none → cap = 0) :
    Calls Tryz.prog 62 #[.int .u8 (k.toNat : Int), .slice A p.length cap] w (CoinOwn w (pack k p)) := by
  have hs := Coin.sz_le p.length
  have hlc := Coin.length_coin p.length
  have hlp := length_pack k p
  have cs := fsize_any p.length (by omega)
  obtain ⟨N, hN⟩ : ∃ N, N = sz p.length + 1 + p.length + 4 := ⟨_, rfl⟩
  rw [← hN] at cs
  have hmk := make0_any N (by omega) w
  have O1 := own_made w N (by omega)
  have B1 : Below w.heap.size w (w.alloc (.cells (madeCells #[.int .u8 0] N) 5)) := (Below.refl _ _).alloc (Nat.le_refl _) _
  generalize w.alloc (.cells (madeCells #[.int .u8 0] N) 5) = w1 at *
  have cp := Coin.put_any none 0 [] p.length w1 (by omega) (by simp) (Rd.nil _ _ _)
  simp only [List.length_nil, Nat.zero_add, List.nil_append] at cp
  have hpk : pack k p = coin p.length ++ [k] ++ p ++ tailb (more 0 (coin p.length ++ [k] ++ p)) := by simp [pack, head]
  have hlh := length_head k p
  have hhd : head k p = coin p.length ++ [k] ++ p := by simp [head]
  rw [hhd] at hlh
  rw [hpk] at hlp ⊢
  obtain ⟨q, hq⟩ : ∃ q, q = k.toNat := ⟨_, rfl⟩
  rw [← hq]
  have HQ := Lib.hid hq
  obtain ⟨Y, hY⟩ : ∃ Y, Y = coin p.length ++ [k] ++ p ++ tailb (more 0 (coin p.length ++ [k] ++ p)) := ⟨_, rfl⟩
  rw [← hY] at hlp ⊢
  have HY := Lib.hid hY
  clear hq hY
  obtain ⟨m, hm⟩ : ∃ m, m = p.length := ⟨_, rfl⟩
  rw [← hm] at cs cp HY hlp hlh hlc hN hs hl ⊢
  have HM := Lib.hid hm
  obtain ⟨z, hz⟩ : ∃ z, z = sz m := ⟨_, rfl⟩
  rw [← hz] at cp hlp hlh hlc hN hs
  have HP := Lib.hid hlp
  have HH := Lib.hid hlh
  have HC := Lib.hid hlc
  generalize coin m = C at *
  clear hm hz hpk hhd hlp hlh hlc
  have HN := Lib.hid hN
  clear hN
  have hmN : N ≤ 1100100 := by have := HN.out; omega
  go_enter Tryz.func62, Tryz.ntmps62
  go_wp2_with (first
    | (go_at_call 58; refine (cs _).mono ?_; rintro e w' ⟨rfl, rfl⟩)
    | (go_at_call 92; refine cp.mono ?_; rintro e w2 ⟨rfl, R2, B2⟩; have O2 := O1.kept B2; have b2 := B1.trans (B2.mono B1.size); have s2 := b2.size; have l2 : ([] : List UInt8).length + C.length ≤ 1300000 := (by have := HC.out; simp; omega))
    | (at_builtin; with_reducible refine Coin.app_any rfl (.tmp 11) (.tmp 15) rfl w.heap.size (.slice (some ⟨w.heap.size, 0, none⟩) 0 N) [] C (some ⟨w1.heap.size, 0, none⟩) z z w2.heap.size rfl rfl O2 R2.rd HC.out.symm (fun h => by cases h) l2 s2 w.heap.size w b2 (Nat.le_refl _) ?_; intro v3 w3 O3 B3 G3; rw [List.nil_append] at O3; have O4 := O3.kept (w' := w3.alloc (.cells #[.int .u8 (q : Int)] 5)) ((Below.refl _ _).alloc (Nat.le_refl _) _); have R4 := (one_row w3 k q HQ.out).rd; have b4 : Below w.heap.size w (w3.alloc (.cells #[.int .u8 (q : Int)] 5)) := B3.alloc B3.size _; have s4 := b4.size; have l4 : C.length + [k].length ≤ 1300000 := (by have := HC.out; simp; omega))
    | (at_builtin; with_reducible refine Coin.app_any rfl (.tmp 17) (.tmp 19) rfl w.heap.size v3 C [k] (some ⟨w3.heap.size, 0, none⟩) 1 1 _ rfl rfl O4 R4 rfl (fun h => by cases h) l4 s4 w.heap.size w b4 (Nat.le_refl _) ?_; intro v5 w5 O5 B5 G5; have R5 := hr.below B5 (Nat.le_refl _); have s5 := B5.size; have l5 : (C ++ [k]).length + p.length ≤ 1300000 := (by have := HC.out; have := HM.out; simp; omega))
    | (at_builtin; with_reducible refine Coin.app_any rfl (.tmp 21) (.tmp 22) rfl w.heap.size v5 (C ++ [k]) p A m cap _ rfl rfl O5 R5 HM.out hA l5 s5 w.heap.size w B5 (Nat.le_refl _) ?_; intro v6 w6 O6 B6 G6))
  obtain ⟨F, hF⟩ : ∃ F, F = C ++ [k] ++ p := ⟨_, rfl⟩
  obtain ⟨u, hu⟩ : ∃ u, u = F.length := ⟨_, rfl⟩
  have HF := HH.out
  have HYY := HY.out
  rw [← hF] at O6 HF HYY
  have hul : u = z + 1 + m := hu.trans HF
  have O6' := O6
  obtain ⟨A6, c6, rfl, R6, hc6, hn6⟩ := O6'.form
  have c16 := sumof_any A6 c6 F w6 (by rw [HF]; omega) R6
  unfold SumSaid at c16
  generalize more 0 F = s at *
  rw [← hu] at c16 hc6
  simp only [← hu] at O6
  have HU := Lib.hid (And.intro hul (And.intro HYY hu))
  clear hF hu HF hul HYY
  obtain ⟨b0, hb0⟩ : ∃ b0, b0 = UInt8.ofNat s := ⟨_, rfl⟩
  obtain ⟨b1, hb1⟩ : ∃ b1, b1 = UInt8.ofNat (s / 256) := ⟨_, rfl⟩
  obtain ⟨b2, hb2⟩ : ∃ b2, b2 = UInt8.ofNat (s / 65536) := ⟨_, rfl⟩
  obtain ⟨b3, hb3⟩ : ∃ b3, b3 = UInt8.ofNat (s / 16777216) := ⟨_, rfl⟩
  rw [← hb0, ← hb1, ← hb2, ← hb3] at c16
  have HT : Hid (tailb s = [b0, b1, b2, b3]) := by show _ = _; rw [hb0, hb1, hb2, hb3]; rfl
  clear hb0 hb1 hb2 hb3
  rw [← HU.out.2.2]
  refine c16.mono ?_
  rintro e w7 ⟨rfl, B7⟩
  have S7 := B7.size; have b7 : Below w.heap.size w (w7.alloc (.cells #[.int .u8 0, .int .u8 0, .int .u8 0, .int .u8 0] 129)) := (B6.trans (B7.mono B6.size)).alloc (Nat.le_trans B6.size B7.size) _; have r7 : Row4 (w7.alloc (.cells #[.int .u8 0, .int .u8 0, .int .u8 0, .int .u8 0] 129)) w7.heap.size [0, 0, 0, 0] := heap_alloc_new w7 _
  go_wp2_with (first
    | (with_reducible refine store4 rfl (.tmp 6) (.tmp 25) rfl w7.heap.size [0, 0, 0, 0] b0 b1 b2 b3 rfl rfl r7 rfl w6.heap.size (w7.alloc (.cells #[.int .u8 0, .int .u8 0, .int .u8 0, .int .u8 0] 129)) (Below.refl _ _) S7 ?_; intro w8 R8 B8; have O8 := O6.kept ((B7.alloc S7 (.cells #[.int .u8 0, .int .u8 0, .int .u8 0, .int .u8 0] 129)).trans B8); have b8 : Below w.heap.size w w8 := b7.trans (B8.mono B6.size); have s8 := b8.size; have T8 := row4_rd R8; rw [← HT.out] at T8; have l8 : F.length + (tailb s).length ≤ 1300000 := (by rw [← HU.out.2.2, HU.out.1]; rw [length_tailb]; omega))
    | (at_builtin; with_reducible refine Coin.app_any rfl (.tmp 26) (.tmp 27) rfl w.heap.size (.slice A6 u c6) F (tailb s) (some ⟨w7.heap.size, 0, none⟩) 4 4 _ rfl rfl O8 T8 rfl (fun h => by cases h) l8 s8 w.heap.size w b8 (Nat.le_refl _) ?_; intro v9 w9 O9 B9 G9))
  rw [← HU.out.2.1] at O9
  go_ret
  exact ⟨v9, rfl, O9, B9⟩
theorem rpack_any (k : UInt8) (A : Option Addr) (cap : Nat) (p : List UInt8) (w : World) (hl : p.length ≤ 1100000) (hr : Rd w w.heap.size A p) (hA : A = none → cap = 0) :
    Calls Tryz.prog 27 #[.int .u8 (k.toNat : Int), .slice A p.length cap] w (CoinOwn w (pack k p)) := by
  have hs := Coin.sz_le p.length
  have hlc := Coin.length_coin p.length
  have hlp := length_pack k p
  have hlh := length_head k p
  have hpk : pack k p = coin p.length ++ [k] ++ p ++ tailb (more 0 (coin p.length ++ [k] ++ p)) := by simp [pack, head]
  have hhd : head k p = coin p.length ++ [k] ++ p := by simp [head]
  rw [hhd] at hlh
  rw [hpk] at hlp ⊢
  obtain ⟨q, hq⟩ : ∃ q, q = k.toNat := ⟨_, rfl⟩
  rw [← hq]
  have HQ := Lib.hid hq
  obtain ⟨Y, hY⟩ : ∃ Y, Y = coin p.length ++ [k] ++ p ++ tailb (more 0 (coin p.length ++ [k] ++ p)) := ⟨_, rfl⟩
  rw [← hY] at hlp ⊢
  have HY := Lib.hid hY
  clear hq hY
  obtain ⟨m, hm⟩ : ∃ m, m = p.length := ⟨_, rfl⟩
  have cc := Coin.rcoin_own p.length (by omega) w
  rw [← hm] at cc HY hlp hlh hlc hs hl ⊢
  have HM := Lib.hid hm
  obtain ⟨z, hz⟩ : ∃ z, z = sz m := ⟨_, rfl⟩
  rw [← hz] at hlp hlh hlc hs
  have HP := Lib.hid hlp
  have HH := Lib.hid hlh
  have HC := Lib.hid hlc
  generalize coin m = C at *
  clear hm hz hpk hhd hlp hlh hlc
  go_enter Tryz.func27, Tryz.ntmps27
  go_wp2_with (first
    | (go_at_call 56; refine cc.mono ?_; rintro e w3 ⟨v3, rfl, O3, B3⟩; have O4 := O3.kept (w' := w3.alloc (.cells #[.int .u8 (q : Int)] 5)) ((Below.refl _ _).alloc (Nat.le_refl _) _); have R4 := (one_row w3 k q HQ.out).rd; have b4 : Below w.heap.size w (w3.alloc (.cells #[.int .u8 (q : Int)] 5)) := B3.alloc B3.size _; have s4 := b4.size; have l4 : C.length + [k].length ≤ 1300000 := (by have := HC.out; simp; omega))
    | (at_builtin; with_reducible refine Coin.app_any rfl (.tmp 9) (.tmp 11) rfl w.heap.size v3 C [k] (some ⟨w3.heap.size, 0, none⟩) 1 1 _ rfl rfl O4 R4 rfl (fun h => by cases h) l4 s4 w.heap.size w b4 (Nat.le_refl _) ?_; intro v5 w5 O5 B5 G5; have R5 := hr.below B5 (Nat.le_refl _); have s5 := B5.size; have l5 : (C ++ [k]).length + p.length ≤ 1300000 := (by have := HC.out; have := HM.out; simp; omega))
    | (at_builtin; with_reducible refine Coin.app_any rfl (.tmp 13) (.tmp 14) rfl w.heap.size v5 (C ++ [k]) p A m cap _ rfl rfl O5 R5 HM.out hA l5 s5 w.heap.size w B5 (Nat.le_refl _) ?_; intro v6 w6 O6 B6 G6))
  obtain ⟨F, hF⟩ : ∃ F, F = C ++ [k] ++ p := ⟨_, rfl⟩
  obtain ⟨u, hu⟩ : ∃ u, u = F.length := ⟨_, rfl⟩
  have HF := HH.out
  have HYY := HY.out
  rw [← hF] at O6 HF HYY
  have hul : u = z + 1 + m := hu.trans HF
  have O6' := O6
  obtain ⟨A6, c6, rfl, R6, hc6, hn6⟩ := O6'.form
  have c16 := tail_any A6 c6 w6.heap.size F w6 (by rw [HF]; omega) R6
  unfold TailSaid at c16
  generalize more 0 F = s at *
  rw [← hu] at c16 hc6
  simp only [← hu] at O6
  have HU := Lib.hid (And.intro hul (And.intro HYY hu))
  clear hF hu HF hul HYY
  rw [← HU.out.2.2]
  refine c16.mono ?_
  rintro e w8 ⟨rfl, T8, B8⟩
  have O8 := O6.kept B8
  have b8 : Below w.heap.size w w8 := B6.trans (B8.mono B6.size)
  have s8 := b8.size
  have l8 : F.length + (tailb s).length ≤ 1300000 := (by rw [← HU.out.2.2, HU.out.1]; rw [length_tailb]; omega)
  go_wp2_with (first
    | (at_builtin; with_reducible refine Coin.app_any rfl (.tmp 16) (.tmp 18) rfl w.heap.size (.slice A6 u c6) F (tailb s) (some ⟨w6.heap.size, 0, none⟩) 4 4 _ rfl rfl O8 T8.rd rfl (fun h => by cases h) l8 s8 w.heap.size w b8 (Nat.le_refl _) ?_; intro v9 w9 O9 B9 G9))
  rw [← HU.out.2.1] at O9
  go_ret
  exact ⟨v9, rfl, O9, B9⟩
end Go.Proofs.YtdbhgkbmbbjpdaaGreatDoor.Frm
namespace Go.Proofs.YtdbhgkbmbbjpdaaGreatDoor.Coin
open Go.ChangeShapes Go.WideShapes Go.ChangeAt Go.RowKit
set_option maxRecDepth 4000
theorem Pur.lt {w : World} {q f : Nat} {l : List UInt8} (h : Pur w q l f) : q < w.heap.size := by
  obtain ⟨g, off, cap, hq, _⟩ := h
  rcases Nat.lt_or_ge q w.heap.size with hlt | hge
  · exact hlt
  · rw [Array.getElem?_eq_none hge] at hq; cases hq
theorem Pur.below {w w' : World} {q f : Nat} {l : List UInt8} (h : Pur w q l f) (hb : Below w.heap.size w w') : Pur w' q l f :=
  h.far fun i hi => hb.block i (Nat.lt_of_le_of_lt hi h.lt)
theorem below_grown {w W W' : World} {q : Nat} (hb : Below w.heap.size w W) (hg : W.grownBy W' (some q)) (hq : w.heap.size ≤ q) : Below w.heap.size w W' :=
  hb.grown hg hb.size fun k h => by injection h with h; omega
theorem slice_from (A : Option Addr) (m c k : Nat) (hk : k ≤ m) (W : World) :
    (Instr.slice 30 (.slice A m c) (some (.int .i64 (k : Int))) none none).run Tryz.prog W = .ok (.slice (if c = k then A else A.map (·.add k)) (m - k) (c - k)) W := by
  have h := run_slice_l (P := Tryz.prog) (w := W) 30 A m c Tryz.underlying30 .i64 (k : Int) (by omega) (by omega)
  rw [h]
  simp [go_sem, sliced]
theorem cut_any {w : World} {B : Nat} {A : Option Addr} {l : List UInt8} (h : Rd w B A l) (m c k : Nat) (hm : m = l.length) (hc : m ≤ c) (hA : A = none → c = 0) (hk : k ≤ m) :
    ∃ A', (∀ W, (Instr.slice 30 (.slice A m c) (some (.int .i64 (k : Int))) none none).run Tryz.prog W = .ok (.slice A' (m - k) (c - k)) W) ∧ Rd w B A' (l.drop k) ∧ (A' = none → c - k = 0) := by
  refine ⟨_, slice_from A m c k hk, ?_, ?_⟩
  · by_cases e : c = k
    · have : l.drop k = [] := List.drop_eq_nil_of_le (by omega)
      rw [this]
      exact Rd.nil _ _ _
    · rw [if_neg e]; exact h.cut k
  · by_cases e : c = k
    · intro _; omega
    · rw [if_neg e]
      intro h'
      rcases A with _ | ad
      · have := hA rfl; omega
      · cases h'
theorem upto_any {A : Option Addr} (m c k : Nat) (hA : A = none → c = 0) (hc : m ≤ c) (hk : k ≤ m) (W : World) :
    (Instr.slice 30 (.slice A m c) none (some (.int .i64 (k : Int))) none).run Tryz.prog W = .ok (.slice A k c) W := by
  have h := run_slice_h (P := Tryz.prog) (w := W) 30 A m c Tryz.underlying30 .i64 (k : Int) (by omega) (by omega)
  rw [h]
  rcases A with _ | ad
  · have h0 := hA rfl
    obtain rfl : k = 0 := by omega
    subst h0
    simp [go_sem, sliced]
  · simp [go_sem, sliced]
end Go.Proofs.YtdbhgkbmbbjpdaaGreatDoor.Coin
namespace Go.Proofs.YtdbhgkbmbbjpdaaGreatDoor.Frm
open Go.ChangeShapes Go.WideShapes Go.ChangeAt Go.RowKit Go.Sort
set_option maxRecDepth 8000
open Coin (b8 Rd Row Own sz coin got)
open Tal (more)
def noItem : Value := .agg #[.int .u8 0, .slice none 0 0, .int .i64 0, .int .i64 0]
def itemV (k : UInt8) (g n a b : Nat) : Value := .agg #[.int .u8 (k.toNat : Int), .slice (some ⟨g, 0, none⟩) n n, .int .i64 (a : Int), .int .i64 (b : Int)]
def OneSaid (w : World) (r : List UInt8) (a : Nat) (e : Ending) (w' : World) : Prop :=
  (err r ≠ 0 → e = .returned (.tuple #[noItem, .int .i64 (err r : Nat)])) ∧
  (err r = 0 → ∃ g, e = .returned (.tuple #[itemV (kind r) g (cnt r) a (a + size r), .int .i64 0]) ∧ Row w' g (body r) ∧ w.heap.size ≤ g) ∧ Below w.heap.size w w'
theorem one_no {w w' : World} {r : List UInt8} {a x : Nat} {e : Ending} (hx : err r = x) (h0 : x ≠ 0) (he : e = .returned (.tuple #[noItem, .int .i64 (x : Nat)])) (hb : Below w.heap.size w w') : OneSaid w r a e w' :=
  ⟨fun _ => by rw [hx]; exact he, fun h => absurd (hx.symm.trans h) h0, hb⟩
theorem size26 : (Tryz.prog.info? 75).map (·.size) = some 4 := by kernel_rfl
theorem isrow26 : (match (Tryz.prog.underlying 75) with | some (.struct _) | some (.array _ _) => true | _ => false) = true := by kernel_rfl
theorem res26 {fn : Func} {p u : Tmp} (h : fn.results = #[.cell p 75, .tmp u]) (tmps : Array Value) (w : World) (g : Nat) (t : TypeId) (cs : Array Value) (fr : Nat × Nat)
    (hp : tmps.getD p undef = .pointer (some ⟨g, 0, none⟩)) (hg : w.heap[g]? = some (.cells cs t fr)) (h4 : cs.size = 4) :
    (results fn tmps).run Tryz.prog w = .ok (.tuple #[.agg cs, tmps.getD u undef]) w := by
  obtain ⟨d, hu, hd⟩ : ∃ d, Tryz.prog.underlying 75 = some d ∧ (match d with | .struct _ | .array _ _ => true | _ => false) = true := by
    have h := isrow26
    cases e : Tryz.prog.underlying 75 with
    | none => rw [e] at h; cases h
    | some d => rw [e] at h; exact ⟨d, rfl, by cases d <;> first | rfl | cases h⟩
  rw [results_cell_tmp h, hp]
  simp [asAddr, Result.andThen, run_loadVar_row w g t 75 cs fr d hg hu (by cases d <;> first | rfl | cases hd) (by rw [size26, h4])]
theorem put26 {ops : Array Oper} {rest : List Oper} {o : Oper} {a : Act} {w : World} {Q : Exit → Act → World → Prop} (hgd : o.guard = none) (x y : Operand) (ho : o.op = .store 75 x y)
    (g : Nat) (hx : a.eval x = .pointer (some ⟨g, 0, none⟩)) {x0 x1 x2 x3 : Value} (hg : w.heap[g]? = some (.cells #[x0, x1, x2, x3] 75))
    {A : Option Addr} {n c : Nat} {k i j : Int} (hy : a.eval y = .agg #[.int .u8 k, .slice A n c, .int .i64 i, .int .i64 j])
    (h : ∀ w', w'.heap[g]? = some (.cells #[.int .u8 k, .slice A n c, .int .i64 i, .int .i64 j] 75) → w.grownBy w' (some g) → wpList Tryz.prog ops Q rest (a.put o.dst undef) w') :
    wpList Tryz.prog ops Q (o :: rest) a w := by
  refine wpList_store_row hgd 75 x y ho g _ hx hy 75 _ hg size26 rfl (by simp [Value.oneCell']) ?_
  refine h _ (setRow_heap w g _ _ 75 _ hg) ⟨rfl, rfl, rfl, by simp, fun k _ hne => setRow_other w g k _ (fun e => hne (by rw [e]))⟩
theorem Calls.mono' {P : Program} {f : FuncId} {args : Array Value} {w : World} {Q Q' : Ending → World → Prop} (h : Calls P f args w Q) (k : ∀ e w', Q e w' → Q' e w') : Calls P f args w Q' := h.mono k
theorem sizeOf5 (w : World) : (sizeOf 5).run Tryz.prog w = .ok 1 w := by kernel_rfl
theorem between_any (ad : Addr) (m c k h : Nat) (h1 : k ≤ h) (h2 : h ≤ c) (h3 : k < c) (W : World) :
    (Instr.slice 30 (.slice (some ad) m c) (some (.int .i64 (k : Int))) (some (.int .i64 (h : Int))) none).run Tryz.prog W = .ok (.slice (some (ad.add k)) (h - k) (c - k)) W := by
  have h := run_slice_lh (P := Tryz.prog) (w := W) 30 (some ad) m c Tryz.underlying30 .i64 .i64 (k : Int) (h : Int) (by omega) (by omega) (by omega)
  rw [h]
  have : c ≠ k := by omega
  simp [go_sem, sliced, this]
theorem one_any (A : Option Addr) (cap B a : Nat) (l : List UInt8) (w : World) (hl : l.length ≤ 900000) (hc : l.length ≤ cap) (hA : A = none → cap = 0) (ha : a ≤ l.length) (hB : B ≤ w.heap.size) (hr : Rd w B A l) :
    Calls Tryz.prog 95 #[.slice A l.length cap, .int .i64 (a : Int)] w (OneSaid w (l.drop a) a) := by
  have B1 : Below w.heap.size w (w.alloc (.cells #[.int .u8 0, .slice none 0 0, .int .i64 0, .int .i64 0] 75)) := (Below.refl _ _).alloc (Nat.le_refl _) _
  have E1 : (w.alloc (.cells #[.int .u8 0, .slice none 0 0, .int .i64 0, .int .i64 0] 75)).heap[w.heap.size]? = some (.cells #[.int .u8 0, .slice none 0 0, .int .i64 0, .int .i64 0] 75) := heap_alloc_new w _
  have hS1 : (w.alloc (.cells #[.int .u8 0, .slice none 0 0, .int .i64 0, .int .i64 0] 75)).heap.size = w.heap.size + 1 := by simp
  obtain ⟨A', hsl, R, hA'⟩ := Coin.cut_any (hr.below B1 hB) l.length cap a rfl hc hA ha
  obtain ⟨r, hrr⟩ : ∃ r, r = l.drop a := ⟨_, rfl⟩
  have hrn : r.length = l.length - a := by rw [hrr, List.length_drop]
  rw [← hrr] at R ⊢
  generalize hm : l.length = m at *
  clear hrr hr hA
  have hc' : m - a ≤ cap - a := by omega
  obtain ⟨n, hn⟩ : ∃ n, n = m - a := ⟨_, rfl⟩
  obtain ⟨c, hcc⟩ : ∃ c, c = cap - a := ⟨_, rfl⟩
  rw [← hn] at hsl hrn hc'
  rw [← hcc] at hsl hA' hc'
  have cg := Coin.get_any A' c B r (w.alloc (.cells #[.int .u8 0, .slice none 0 0, .int .i64 0, .int .i64 0] 75)) (by omega) R
  rw [hrn] at cg
  have hn9 : n ≤ 900000 := by omega
  have ha9 : a ≤ 900000 := by omega
  have ham : (a : Int) ≤ m := by omega
  have HN := Lib.hid hrn
  clear hrn hn hcc hc hm hl
  have hg := Coin.got_lt r
  have hgl := got_len r
  obtain ⟨x1, h1⟩ : ∃ x, x = cnt r := ⟨_, rfl⟩
  obtain ⟨x2, h2⟩ : ∃ x, x = wid r := ⟨_, rfl⟩
  obtain ⟨x3, h3⟩ : ∃ x, x = (got r).2.2 := ⟨_, rfl⟩
  have cg := Calls.mono' cg (Q' := fun e w' => e = .returned (.tuple #[.int .u64 (x1 : Nat), .int .i64 (x2 : Nat), .int .i64 (x3 : Nat)]) ∧ w'.heap[w.heap.size]? = some (.cells #[.int .u8 0, .slice none 0 0, .int .i64 0, .int .i64 0] 75) ∧ Below w.heap.size w w' ∧ Rd w' B A' r ∧ w'.heap.size = w.heap.size + 1) (by
    rintro e w' ⟨rfl, x, rfl⟩
    exact ⟨by rw [h1, h2, h3]; rfl, E1, B1.trans ⟨rfl, rfl, rfl, Nat.le_refl _, fun _ _ => rfl⟩, R.keep fun _ _ => rfl, hS1⟩)
  rw [← h1, ← h2, ← h3] at hgl
  have hg1 : x1 < 18446744073709551616 := by rw [h1]; exact hg.1
  have hg2 : x2 ≤ 9 := by rw [h2]; exact hg.2.1
  have hg3 : x3 ≤ 5 := by rw [h3]; exact hg.2.2.2
  clear hg
  clear R B1 E1 hS1
  by_cases he : x3 = 0
  · have hx : err r = if 1048576 < x1 then 6 else if r.length < x2 + 1 + x1 + 4 then 5 else if tailb (more 0 (r.take (x2 + 1 + x1))) = (r.drop (x2 + 1 + x1)).take 4 then 0 else 4 := by
      unfold err
      rw [← h3, he, if_neg (by simp)]
      simp only [summed, summ, size, ← h1, ← h2]
    obtain ⟨q1, q2, q3, q4, _⟩ := hgl he
    subst he
    by_cases hd : 1048576 < x1
    · rw [if_pos hd] at hx
      have HX := Lib.hid hx
      have hd' : (1048576 : Int) < x1 := by omega
      clear hx h1 h2 h3 q1 q2 q3 q4
      go_enter Tryz.func95, Tryz.ntmps95
      go_wp2_with (first
        | (go_at_call 118; refine cg.mono ?_; rintro e w2 ⟨rfl, E2, B2, R2, S2⟩)
        | (with_reducible refine put26 rfl (.tmp 4) (.tmp 38) rfl w.heap.size rfl E2 rfl ?_; intro w3 E3 G3))
      (try simp only [Exit.inBlock, Exit.then])
      exact bodyPost_ret (res26 rfl _ _ w.heap.size 75 _ (0, 0) rfl E3 rfl) rfl (one_no HX.out (by decide) rfl (B2.grown G3 B2.size (fun k h => by cases h; exact Nat.le_refl _)))
    · rw [if_neg hd] at hx
      have cs := fsize_any x1 (by omega)
      rw [q1] at cs
      obtain ⟨S, hS⟩ : ∃ S, S = x2 + 1 + x1 + 4 := ⟨_, rfl⟩
      have e1 : x2 + 1 + x1 = S - 4 := by omega
      rw [← hS] at cs hx
      have hd' : ¬ (1048576 : Int) < x1 := by omega
      have hw1 : IntKind.i64.wrap (x1 : Int) = x1 := by rw [IntKind.wrap_i64]; omega
      rw [HN.out] at hx q4
      by_cases hs : n < S
      · rw [if_pos hs] at hx
        have HX := Lib.hid hx
        have hs' : (n : Int) < S := by omega
        clear hx h1 h2 h3 q1 q2 q3 q4 hS e1
        go_enter Tryz.func95, Tryz.ntmps95
        go_wp2_with (first
          | (go_at_call 118; refine cg.mono ?_; rintro e w2 ⟨rfl, E2, B2, R2, S2⟩)
          | (go_at_call 58; refine (cs _).mono ?_; rintro e w' ⟨rfl, rfl⟩)
          | (with_reducible refine put26 rfl (.tmp 4) (.tmp 46) rfl w.heap.size rfl E2 rfl ?_; intro w3 E3 G3))
        (try simp only [Exit.inBlock, Exit.then])
        exact bodyPost_ret (res26 rfl _ _ w.heap.size 75 _ (0, 0) rfl E3 rfl) rfl (one_no HX.out (by decide) rfl (B2.grown G3 B2.size (fun k h => by cases h; exact Nat.le_refl _)))
      · rw [if_neg hs, e1] at hx
        have hs' : ¬ (n : Int) < S := by omega
        have hS4 : 5 ≤ S := by omega
        obtain ⟨ad, hAd⟩ : ∃ ad, A' = some ad := by
          rcases A' with _ | ad
          · have := hA' rfl; omega
          · exact ⟨ad, rfl⟩
        subst hAd
        obtain ⟨Z, hZ⟩ : ∃ Z, Z = S - 4 := ⟨_, rfl⟩
        have hSZ : S = Z + 4 := by omega
        rw [← hZ] at hx e1
        have hup := Coin.upto_any (A := some ad) n c Z hA' hc' (by omega)
        have hbt := between_any ad n c Z S (by omega) (by omega) (by omega)
        rw [show S - Z = 4 by omega] at hbt
        have hT : (r.take Z).length = Z := by rw [List.length_take, HN.out]; omega
        obtain ⟨V, hV⟩ : ∃ V, V = r.take Z := ⟨_, rfl⟩
        rw [← hV] at hT hx
        have cq : ∀ w2, Rd w2 B (some ad) r → w.heap.size ≤ w2.heap.size → Calls Tryz.prog 93 #[.slice (some ad) Z c] w2 (SumSaid w2 V) := fun w2 h h2 => by
          have h3 := h.take Z
          rw [← hV] at h3
          have := sumof_any (some ad) c V w2 (by rw [hT]; omega) (h3.more (by omega))
          rw [hT] at this; exact this
        have hz : (S : Int) - 4 = (Z : Int) := by omega
        have hn2 : 5 ≤ n := by omega
        have hZ9 : Z ≤ 900000 := by omega
        have hZS : (Z : Int) + 4 = S := by omega
        have h4l : ((r.drop Z).take 4).length = 4 := by rw [List.length_take, List.length_drop, HN.out]; omega
        obtain ⟨b0, b1, b2, b3, h4⟩ : ∃ b0 b1 b2 b3, (r.drop Z).take 4 = [b0, b1, b2, b3] := by
          match hh : (r.drop Z).take 4, h4l with
          | [b0, b1, b2, b3], _ => exact ⟨b0, b1, b2, b3, rfl⟩
        have hc4 : ∀ w2, Rd w2 B (some ad) r → ∃ X, ad.add Z = X ∧ w2.cell? X = some (b8 b0) ∧ w2.cell? ⟨X.block, X.off + 1, none⟩ = some (b8 b1) ∧ w2.cell? ⟨X.block, X.off + 2, none⟩ = some (b8 b2) ∧ w2.cell? ⟨X.block, X.off + 3, none⟩ = some (b8 b3) := fun w2 h => by
          have h3 := (h.cut Z).take 4
          rw [h4] at h3
          obtain ⟨ad', e, _, hcell⟩ := h3 (by simp)
          simp only [Option.map_some, Option.some.injEq] at e
          subst e
          have c0 := hcell 0 (by simp)
          have c1 := hcell 1 (by simp)
          have c2 := hcell 2 (by simp)
          have c3 := hcell 3 (by simp)
          exact ⟨_, rfl, c0, c1, c2, c3⟩
        rw [h4] at hx
        have HH := Lib.hid (And.intro hx (And.intro hV (And.intro h4 (And.intro h1 (And.intro h2 (And.intro q3 (And.intro hSZ e1)))))))
        have HT := Lib.hid hT
        clear hx hV h4 h1 h2 q1 q2 q3 q4 hSZ h4l hT h3 hgl hZ hs e1 hS
        go_enter Tryz.func95, Tryz.ntmps95
        go_wp2_with (first
          | (go_at_call 118; refine cg.mono ?_; rintro e w2 ⟨rfl, E2, B2, R2, S2⟩)
          | (go_at_call 58; refine (cs _).mono ?_; rintro e w' ⟨rfl, rfl⟩))
        go_quiet (fail)
        go_wp2_with fail
        have E3 : (w2.drewN nq).heap[w.heap.size]? = some (.cells #[.int .u8 0, .slice none 0 0, .int .i64 0, .int .i64 0] 75) := E2
        have B3 : Below w.heap.size w (w2.drewN nq) := B2.trans ⟨rfl, rfl, rfl, Nat.le_refl _, fun _ _ => rfl⟩
        have R3 : Rd (w2.drewN nq) B (some ad) r := R2.keep fun _ _ => rfl
        have S3 : (w2.drewN nq).heap.size = w.heap.size + 1 := S2
        clear E2 B2 R2 S2
        generalize w2.drewN nq = w3 at *
        obtain ⟨X, hX, d0, d1, d2, d3⟩ := hc4 w3 R3
        rw [hX]
        have HX := Lib.hid hX
        have hat : ∀ w, (Instr.arrayAt 129 (.slice (some X) 4 (c - Z))).run Tryz.prog w = .ok (.pointer (some X)) w := fun w => run_arrayAt w 129 _ 4 _ 4 (c - Z) under4 (Nat.le_refl _)
        obtain ⟨u0, u1, u2, u3, hu, hU⟩ : ∃ u0 u1 u2 u3 : UInt8, tailb (more 0 V) = [u0, u1, u2, u3] ∧ ∀ w2, Rd w2 B (some ad) r → w.heap.size ≤ w2.heap.size → Calls Tryz.prog 93 #[.slice (some ad) Z c] w2 fun e w' => e = .returned (.agg #[b8 u0, b8 u1, b8 u2, b8 u3]) ∧ Below w2.heap.size w2 w' := ⟨_, _, _, _, rfl, cq⟩
        have hb8 : ∀ b : UInt8, b8 b = .int .u8 (b.toNat : Int) := fun _ => rfl
        simp only [hb8] at d0 d1 d2 d3 hU
        have HU := Lib.hid hu
        obtain ⟨y, hy⟩ : ∃ y : Bool, y = ([u0, u1, u2, u3] == [b0, b1, b2, b3]) := ⟨_, rfl⟩
        have heq : ∀ w, (Op.equalIn 10000 129 (.agg #[.int .u8 (u0.toNat : Int), .int .u8 (u1.toNat : Int), .int .u8 (u2.toNat : Int), .int .u8 (u3.toNat : Int)]) (.agg #[.int .u8 (b0.toNat : Int), .int .u8 (b1.toNat : Int), .int .u8 (b2.toNat : Int), .int .u8 (b3.toNat : Int)])).run Tryz.prog w = .ok y w := fun w => by
          rw [hy]; exact run_equalIn_bytes w 9998 129 5 4 under4 Tryz.underlying5 (fun w => sizeOf5 w) [u0, u1, u2, u3] [b0, b1, b2, b3] rfl rfl
        have HYY := Lib.hid hy
        generalize (u0.toNat : Int) = i0 at *
        generalize (u1.toNat : Int) = i1 at *
        generalize (u2.toNat : Int) = i2 at *
        generalize (u3.toNat : Int) = i3 at *
        generalize (b0.toNat : Int) = j0 at *
        generalize (b1.toNat : Int) = j1 at *
        generalize (b2.toNat : Int) = j2 at *
        generalize (b3.toNat : Int) = j3 at *
        have e0 := fun d os => cell_regrown d0 d os
        have e1 := fun d os => cell_regrown d1 d os
        have e2 := fun d os => cell_regrown d2 d os
        have e3 := fun d os => cell_regrown d3 d os
        have cQ : ∀ d os, Calls Tryz.prog 93 #[.slice (some ad) Z c] (grow (redrawn w3 d) os) fun e w'' => e = .returned (.agg #[.int .u8 i0, .int .u8 i1, .int .u8 i2, .int .u8 i3]) ∧ ∃ p : Regrown, w'' = grow (redrawn w3 p.d) p.os := fun d os => Calls.regrown_of (hU _ (R3.below (below_regrown w3 d os) (by omega)) (Nat.le_trans (by omega) (below_regrown w3 d os).size))
        clear hX hc4 cq hU hu hy cs cg d0 d1 d2 d3 hup hbt
        refine wp_region_quiet_below (by kernel_rfl) (by kernel_rfl) ?_
        repeat (quiet_step (with_reducible exact cQ _ _))
        refine wpQuiet_nil ?_
        intro _ hw'
        obtain ⟨⟨dq, osq⟩, hw''⟩ := hw'
        subst hw''
        have bq := below_regrown w3 dq osq
        have B4 : Below w.heap.size w (grow (redrawn w3 dq) osq) := B3.trans (bq.mono (by omega))
        have E4 : (grow (redrawn w3 dq) osq).heap[w.heap.size]? = some (.cells #[.int .u8 0, .slice none 0 0, .int .i64 0, .int .i64 0] 75) := (bq.block _ (by omega)).trans E3
        have R4 : Rd (grow (redrawn w3 dq) osq) B (some ad) r := R3.below bq (by omega)
        have S4 : w.heap.size + 1 ≤ (grow (redrawn w3 dq) osq).heap.size := by rw [← S3]; exact bq.size
        generalize grow (redrawn w3 dq) osq = w4 at *
        clear e0 e1 e2 e3 cQ heq hat bq E3 B3 R3 S3
        cases y with
        | false =>
          have hne : err r = 4 := by rw [HH.out.1, if_neg (by rw [HU.out]; intro h; have := HYY.out; simp [h] at this)]
          have HX := Lib.hid hne
          clear hne
          go_wp2_with (with_reducible refine put26 rfl (.tmp 4) (.tmp 62) rfl w.heap.size rfl E4 rfl ?_; intro w5 E5 G5)
          (try simp only [Exit.inBlock, Exit.then])
          exact bodyPost_ret (res26 rfl _ _ w.heap.size 75 _ (0, 0) rfl E5 rfl) rfl (one_no HX.out (by decide) rfl (B4.grown G5 B4.size (fun k h => by cases h; exact Nat.le_refl _)))
        | true =>
          have hZ : Z = x2 + 1 + x1 := by have := HH.out.2.2.2.2.2.2.2; omega
          have h0 : err r = 0 := by rw [HH.out.1, if_pos (by rw [HU.out]; exact eq_of_beq HYY.out.symm)]
          have hrl := HN.out
          have hx2 : x2 < r.length := by omega
          have hkd : kind r = r[x2] := by unfold kind; rw [← HH.out.2.2.2.2.1]; simp [List.getD, hx2]
          have hbd : body r = V.drop (x2 + 1) := by
            unfold body
            rw [← HH.out.2.2.2.2.1, ← HH.out.2.2.2.1, HH.out.2.1, List.drop_take, hZ]
            congr 1; omega
          have hbl : (V.drop (x2 + 1)).length = x1 := by rw [List.length_drop, HT.out]; omega
          have hmk := run_make_row' (P := Tryz.prog) 30 5 (.int .u8 0) 1 Tryz.underlying30 Coin.info5 rfl .u64 .u64 x1 (by omega) (by omega) w4
          have N5 := Coin.Row.new w4 x1
          have B5 : Below w4.heap.size w4 (w4.alloc (.cells (madeCells #[.int .u8 0] x1) 5)) := (Below.refl _ _).alloc (Nat.le_refl _) _
          obtain ⟨w5, hw5⟩ : ∃ w5, w5 = w4.alloc (.cells (madeCells #[.int .u8 0] x1) 5) := ⟨_, rfl⟩
          rw [← hw5] at hmk N5 B5
          have R5 : Rd w5 B (some ad) V := by rw [HH.out.2.1]; exact (R4.below B5 (by omega)).take Z
          obtain ⟨A2, hs2, R6, _⟩ := Coin.cut_any R5 Z c (x2 + 1) HT.out.symm (by omega) hA' (by omega)
          rw [show ((x2 + 1 : Nat) : Int) = (x2 : Int) + 1 by omega, show Z - (x2 + 1) = x1 by omega] at hs2
          have b5 : Below w.heap.size w w5 := B4.trans (B5.mono B4.size)
          have e5 := (B5.block _ (by omega)).trans E4
          have k5 : w5.cell? (ad.add x2) = some (.int .u8 ((kind r).toNat : Int)) := by
            obtain ⟨ad', e, hb, hc⟩ := R4 (by omega)
            injection e with e; subst e
            rw [B5.cell (by rw [Coin.block_add]; omega), hc x2 hx2, hkd]
            rfl
          have kb : (ad.add x2).block < w.heap.size := by
            obtain ⟨ad', e, hb, hc⟩ := R4 (by omega)
            injection e with e; subst e
            rw [Coin.block_add]; omega
          have hx2Z : (x2 : Int) < Z := by omega
          rw [← hbd] at hbl R6
          have HZ := Lib.hid (And.intro hbl (And.intro h0 hZ))
          clear hZ h0 hkd hbd hbl hw5 hx2 hrl R4 R5
          generalize hkk : ((kind r).toNat : Int) = kk at *
          have HK := Lib.hid hkk
          clear hkk
          have hmin : (body r).length = Nat.min x1 x1 := by rw [HZ.out.1]; exact (Nat.min_self _).symm
          go_wp2_with (first
            | (with_reducible refine Coin.copy_row rfl (.tmp 65) (.tmp 69) rfl w4.heap.size x1 x1 (c - (x2 + 1)) A2 rfl rfl (body r) hmin B R6 N5 w4.heap.size w4 B5 (Nat.le_refl _) ?_; intro w6 R7 B6; have e6 := (B6.block w.heap.size (by omega)).trans E4; have k6 : w6.cell? (ad.add x2) = some (.int .u8 kk) := ((B6.cell (by omega)).trans (B5.cell (by omega)).symm).trans k5)
            | (with_reducible refine put26 rfl (.tmp 4) (.tmp 80) rfl w.heap.size rfl e6 rfl ?_; intro w7 E7 G7))
          (try simp only [Exit.inBlock, Exit.then])
          refine bodyPost_ret (res26 rfl _ _ w.heap.size 75 _ (0, 0) rfl E7 rfl) rfl ?_
          rw [HZ.out.1, Nat.sub_self, List.replicate_zero, List.append_nil] at R7
          have R8 : Row w7 w4.heap.size (body r) := (G7.block _ R7.lt (by intro h; injection h with h; omega)).trans R7
          refine ⟨fun h => absurd HZ.out.2.1 h, fun _ => ⟨w4.heap.size, ?_, R8, by omega⟩, (B4.trans (B6.mono B4.size)).grown G7 (Nat.le_trans B4.size B6.size) (fun k h => by cases h; exact Nat.le_refl _)⟩
          have es : a + size r = a + S := by unfold size; rw [← HH.out.2.2.2.1, ← HH.out.2.2.2.2.1]; have := HH.out.2.2.2.2.2.2.1; have := HZ.out.2.2; omega
          rw [es, ← HH.out.2.2.2.1]
          unfold itemV
          rw [HK.out, Int.natCast_add]
          rfl
  · have hx : err r = x3 := by unfold err; rw [← h3, if_pos he]
    have HX := Lib.hid hx
    clear hx h1 h2 h3 hgl
    go_enter Tryz.func95, Tryz.ntmps95
    go_wp2_with (first
      | (go_at_call 118; refine cg.mono ?_; rintro e w2 ⟨rfl, E2, B2, R2, S2⟩)
      | (with_reducible refine put26 rfl (.tmp 4) (.tmp 34) rfl w.heap.size rfl E2 rfl ?_; intro w3 E3 G3))
    (try simp only [Exit.inBlock, Exit.then])
    exact bodyPost_ret (res26 rfl _ _ w.heap.size 75 _ (0, 0) rfl E3 rfl) rfl (one_no HX.out he rfl (B2.grown G3 B2.size (fun k h => by cases h; exact Nat.le_refl _)))
end Go.Proofs.YtdbhgkbmbbjpdaaGreatDoor.Frm
namespace Go.Proofs.YtdbhgkbmbbjpdaaGreatDoor.Frm
open Go.ChangeShapes Go.WideShapes Go.ChangeAt Go.RowKit
set_option maxRecDepth 8000
open Coin (b8 Rd Row Own sz coin got)
open Tal (more)
def itemC (l : List UInt8) (x : Nat × Nat) : List Value := [.int .u8 ((kind (l.drop x.1)).toNat : Int), .slice (some ⟨x.2, 0, none⟩) (cnt (l.drop x.1)) (cnt (l.drop x.1)), .int .i64 (x.1 : Int), .int .i64 (x.1 + size (l.drop x.1) : Nat)]
structure Items (w : World) (base : Nat) (v : Value) (l : List UInt8) (xs : List (Nat × Nat)) : Prop where
  own : w.ownsRow base 75 4 v xs.length (xs.flatMap (itemC l))
  row : ∀ x ∈ xs, Row w x.2 (body (l.drop x.1)) ∧ base ≤ x.2
theorem Items.nil (w : World) (base : Nat) (l : List UInt8) : Items w base (.slice none 0 0) l [] := ⟨World.ownsRow_nil w base _ 4, fun x h => by simp at h⟩
theorem Items.kept {w w' : World} {base : Nat} {v : Value} {l : List UInt8} {xs : List (Nat × Nat)} (h : Items w base v l xs) (hb : Below w.heap.size w w') : Items w' base v l xs :=
  ⟨World.ownsRow.kept (row := none) h.own ⟨hb.os, hb.tape, hb.output, hb.size, fun k hk _ => hb.block k hk⟩ (by cases v.ownBlock <;> simp), fun x hx => ⟨(h.row x hx).1.below hb (h.row x hx).1.lt, (h.row x hx).2⟩⟩
theorem row_ne {w : World} {base : Nat} {e : TypeId} {sz n g : Nat} {v : Value} {us : List Value} {l : List UInt8} (h : w.ownsRow base e sz v n us) (he : e ≠ 5) (r : Row w g l) : some g ≠ v.ownBlock := by
  rcases h.2 with ⟨rfl, _⟩ | ⟨k, cap, cur, rfl, _, hg, _⟩
  · simp [Value.ownBlock]
  · intro hk
    simp only [Value.ownBlock, Option.some.injEq] at hk
    subst hk
    unfold Coin.Row at r
    rw [r] at hg
    injection hg with hg
    injection hg with _ h2
    exact he h2.symm
theorem info26 : (Tryz.prog.info? 75).map (fun i => (i.zero, i.size, i.bytes)) = some (some (.agg #[.int .u8 0, .slice none 0 0, .int .i64 0, .int .i64 0]), 4, 48) := by kernel_rfl
theorem cells4 {w : World} {b : Nat} {t : TypeId} {x0 x1 x2 x3 : Value} (h : w.heap[b]? = some (.cells #[x0, x1, x2, x3] t)) :
    w.cell? ⟨b, 0, none⟩ = some x0 ∧ w.cell? ⟨b, 1, none⟩ = some x1 ∧ w.cell? ⟨b, 2, none⟩ = some x2 ∧ w.cell? ⟨b, 3, none⟩ = some x3 ∧ ∀ i, w.frozen? ⟨b, i, none⟩ = false :=
  ⟨cell_of_row w b 0 _ t (0, 0) h, cell_of_row w b 1 _ t (0, 0) h, cell_of_row w b 2 _ t (0, 0) h, cell_of_row w b 3 _ t (0, 0) h, fun i => frozen_of_row w b i _ t h⟩
theorem cells_four (w : World) (x y z u : Value) (t : TypeId) : ∀ j v, [x, y, z, u][j]? = some v → (w.alloc (.cells #[x, y, z, u] t)).cell? ((⟨w.heap.size, 0, none⟩ : Addr).add j) = some v := by
  intro j u hj
  rw [Coin.zero_add', cell_of_row _ _ j _ t (0, 0) (heap_alloc_new w _)]
  simpa using hj
theorem Items.more {w w' : World} {base : Nat} {v v' : Value} {l : List UInt8} {xs : List (Nat × Nat)} {a g : Nat} (h : Items w base v l xs) (r : Row w g (body (l.drop a))) (hg : base ≤ g)
    (o : w'.ownsRow base 75 4 v' (xs.length + 1) (xs.flatMap (itemC l) ++ itemC l (a, g))) (hw : w.grownBy w' v.ownBlock) : Items w' base v' l (xs ++ [(a, g)]) := by
  refine ⟨?_, fun x hx => ?_⟩
  · rw [List.flatMap_append, List.length_append]
    simpa using o
  · have k : ∀ k m, Row w k m → Row w' k m := fun k m r => (hw.block k r.lt (row_ne h.own (by decide) r)).trans r
    rcases List.mem_append.1 hx with hx | hx
    · exact ⟨k _ _ (h.row x hx).1, (h.row x hx).2⟩
    · rw [List.mem_singleton] at hx
      subst hx
      exact ⟨k _ _ r, hg⟩
def ScanSaid (w : World) (l : List UInt8) (e : Ending) (w' : World) : Prop := ∃ v xs b er, e = .returned (.tuple #[v, .int .i64 (b : Nat), .int .i64 (er : Nat)]) ∧ Items w' w.heap.size v l xs ∧ chain l 0 (xs.map (·.1)) b ∧ ends l b er ∧ Below w.heap.size w w'
set_option maxRecDepth 100000 in
theorem scan_any (A : Option Addr) (cap B : Nat) (l : List UInt8) (w : World) (hl : l.length ≤ 900000) (hc : l.length ≤ cap) (hA : A = none → cap = 0) (hB : B ≤ w.heap.size) (hr : Rd w B A l) :
    Calls Tryz.prog 121 #[.slice A l.length cap] w (ScanSaid w l) := by
  have co : ∀ W b, Below w.heap.size w W → b ≤ l.length → Calls Tryz.prog 95 #[.slice A l.length cap, .int .i64 (b : Int)] W (OneSaid W (l.drop b) b) := fun W b h hb => one_any A cap B b l W hl hc hA hb (Nat.le_trans hB h.size) (hr.below h hB)
  obtain ⟨i0, hi, hz0, hz1, hz2⟩ := info_parts info26
  have HI := Lib.hid (And.intro hi (And.intro hz0 (And.intro hz1 hz2)))
  obtain ⟨m, hm⟩ : ∃ m, m = l.length := ⟨_, rfl⟩
  rw [← hm] at co ⊢
  have hm9 : m ≤ 900000 := by omega
  have HM := Lib.hid hm
  have HC : Hid (∀ W b, Below w.heap.size w W → b ≤ m → Calls Tryz.prog 95 #[.slice A m cap, .int .i64 (b : Int)] W (OneSaid W (l.drop b) b)) := co
  clear hm hi hz0 hz1 hz2 co hr hc hA hl
  go_enter Tryz.func121, Tryz.ntmps121
  go_wp2_with fail
  go_loopw [5, 6] (fun v i wr => ∃ b : Nat, b ≤ m ∧ i = .int .i64 b ∧ ∃ xs : List (Nat × Nat), Items wr w.heap.size v l xs ∧ Hid (chain l 0 (xs.map (·.1)) b) ∧ Below w.heap.size w wr) (fun _ i _ => m - (intOf i).toNat)
  case atStart => exact ⟨0, by omega, rfl, [], Items.nil _ _ _, rfl, Below.refl _ _⟩
  case round =>
    obtain ⟨b, hb, rfl, xs, I, CH, B⟩ := hrel
    by_cases hlt : b < m
    · have c := HC.out wr b B hb
      by_cases he : err (l.drop b) = 0
      · have hblt : b < l.length := by rw [← HM.out]; exact hlt
        have hsz := (err_ok _ he).2.2.1
        rw [List.length_drop, ← HM.out] at hsz
        have h1s : 1 ≤ size (l.drop b) := by unfold size; omega
        have hch := chain_snoc l (xs.map (·.1)) 0 b CH.out hblt he
        have hlen := chain_length l (xs.map (·.1)) 0 b (Nat.zero_le _) CH.out
        rw [List.length_map] at hlen
        obtain ⟨kk, hk⟩ : ∃ k : Int, k = (kind (l.drop b)).toNat := ⟨_, rfl⟩
        obtain ⟨n, hn⟩ : ∃ n, n = cnt (l.drop b) := ⟨_, rfl⟩
        obtain ⟨b2, hb2⟩ : ∃ b2, b2 = b + size (l.drop b) := ⟨_, rfl⟩
        have c := Calls.mono' c (Q' := fun e w' => ∃ g, e = .returned (.tuple #[.agg #[.int .u8 kk, .slice (some ⟨g, 0, none⟩) n n, .int .i64 (b : Nat), .int .i64 (b2 : Nat)], .int .i64 0]) ∧ Row w' g (body (l.drop b)) ∧ wr.heap.size ≤ g ∧ Below wr.heap.size wr w') (fun e w' h => by
          obtain ⟨g, h1, h2, h3⟩ := h.2.1 he
          exact ⟨g, by rw [hk, hn, hb2]; exact h1, h2, h3, h.2.2⟩)
        have hit : ∀ g, itemC l (b, g) = [.int .u8 kk, .slice (some ⟨g, 0, none⟩) n n, .int .i64 (b : Nat), .int .i64 (b2 : Nat)] := fun g => by unfold itemC; rw [hk, hn, hb2]
        rw [← hb2] at hch
        have hbm : b < b2 ∧ b2 ≤ m := by omega
        have HCH : Hid (chain l 0 ((xs.map (·.1)) ++ [b]) b2) := hch
        have HIT : Hid (∀ g, itemC l (b, g) = [.int .u8 kk, .slice (some ⟨g, 0, none⟩) n n, .int .i64 (b : Nat), .int .i64 (b2 : Nat)]) := hit
        have hlt' : (b : Int) < m := by omega
        have HL := Lib.hid hlen
        clear hk hn hb2 hch hit hlen h1s hsz
        go_wp2_with (first
          | (go_at_call 95; (with_reducible refine c.mono ?_); rintro e w2 ⟨g, rfl, R2, hg2, B2⟩; have E2 : (w2.alloc (.cells #[.int .u8 0, .slice none 0 0, .int .i64 0, .int .i64 0] 75)).heap[w2.heap.size]? = some (.cells #[.int .u8 0, .slice none 0 0, .int .i64 0, .int .i64 0] 75) := heap_alloc_new w2 _; have HB2 := Lib.hid (And.intro R2 (And.intro hg2 B2)); clear R2 hg2 B2)
          | (with_reducible refine put26 rfl (.tmp 7) (.tmp 17) rfl w2.heap.size rfl E2 rfl ?_; intro w3 E3 G3; obtain ⟨p0, p1, p2, p3, pf⟩ := cells4 E3; have b2' := HB2.out.2.2.alloc HB2.out.2.2.size (.cells #[.int .u8 0, .slice none 0 0, .int .i64 0, .int .i64 0] 75); have b3 := b2'.grown G3 b2'.size (fun k h => by cases h; exact HB2.out.2.2.size); have b4 := b3.alloc b3.size (.cells #[.int .u8 kk, .slice (some ⟨g, 0, none⟩) n n, .int .i64 (b : Nat), .int .i64 (b2 : Nat)] 75); have I4 := I.kept b4; have s4 := Nat.le_trans B.size b4.size; have HG3 := Lib.hid (And.intro E3 (And.intro G3 (And.intro b3 (And.intro b4 I4)))); clear E3 G3 b2' b3 b4 I4)
          | (at_builtin; refine wpList_append_own _ rfl (.tmp 24) (.tmp 26) 58 rfl w.heap.size 75 i0 _ 4 48 Tryz.underlying58 HI.out.1 HI.out.2.1 HI.out.2.2.1 HI.out.2.2.2 rfl (by decide) u5 _ _ rfl (HG3.out.2.2.2.2.own) ⟨w3.heap.size, 0, none⟩ 1 1 [.int .u8 kk, .slice (some ⟨g, 0, none⟩) n n, .int .i64 (b : Nat), .int .i64 (b2 : Nat)] rfl rfl (cells_four _ _ _ _ _ _) (by intro u hu; simp at hu; rcases hu with rfl | rfl | rfl | rfl <;> rfl) (by have := HL.out; unfold maxLen; omega) (by have := HL.out; omega) s4 ?_; intro v5 w5 o5 G5 nil5; have q5 := (cells4 ((G5.block w2.heap.size (by have := (Array.getElem?_eq_some_iff.1 HG3.out.1).1; simp; omega) (fun h => by have h1 := (World.ownsRow.lt I.own _ h.symm).2; have h2 := HB2.out.2.2.size; omega)).trans ((heap_alloc_old w3 _ (Array.getElem?_eq_some_iff.1 HG3.out.1).1).trans HG3.out.1))).2.2.2.1; have HO5 := Lib.hid (And.intro o5 G5); clear o5 G5 nil5))
        have b5 : Below w.heap.size w w5 := (B.trans (HG3.out.2.2.2.1.mono B.size)).grown HO5.out.2 s4 (fun k hk => (World.ownsRow.lt I.own k hk).1)
        have r4 := HB2.out.1
        have r5 : Row (w3.alloc (.cells #[.int .u8 kk, .slice (some ⟨g, 0, none⟩) n n, .int .i64 (b : Nat), .int .i64 (b2 : Nat)] 75)) g (body (l.drop b)) := by
          have h2 := HB2.out.2.2
          refine (heap_alloc_old w3 _ ?_).trans ((HG3.out.2.1.block g ?_ ?_).trans ((heap_alloc_old w2 _ r4.lt).trans r4))
          · have h3 := HG3.out.2.1.size; have h4 := r4.lt; simp at h3; omega
          · have := r4.lt; simp; omega
          · intro h; injection h with h; have := r4.lt; omega
        have i5 := (HG3.out.2.2.2.2).more r5 (Nat.le_trans B.size HB2.out.2.1) (by rw [HIT.out g]; exact HO5.out.1) HO5.out.2
        go_roundw
        case rel => exact ⟨b2, hbm.2, rfl, xs ++ [(b, g)], i5, by show chain _ _ _ _; rw [List.map_append]; exact HCH.out, b5⟩
        case measure => simp [intOf]; omega
      · obtain ⟨x, hx⟩ : ∃ x, x = err (l.drop b) := ⟨_, rfl⟩
        have c := Calls.mono' c (Q' := fun e w' => e = .returned (.tuple #[.agg #[.int .u8 0, .slice none 0 0, .int .i64 0, .int .i64 0], .int .i64 (x : Nat)]) ∧ Below wr.heap.size wr w') (fun e w' h => by
          rw [hx]; exact ⟨h.1 he, h.2.2⟩)
        rw [← hx] at he
        have HX := Lib.hid hx
        have hlt' : (b : Int) < m := by omega
        clear hx
        go_wp2_with (first
          | (go_at_call 95; (with_reducible refine c.mono ?_); rintro e w2 ⟨rfl, B2⟩; have E2 : (w2.alloc (.cells #[.int .u8 0, .slice none 0 0, .int .i64 0, .int .i64 0] 75)).heap[w2.heap.size]? = some (.cells #[.int .u8 0, .slice none 0 0, .int .i64 0, .int .i64 0] 75) := heap_alloc_new w2 _)
          | (with_reducible refine put26 rfl (.tmp 7) (.tmp 17) rfl w2.heap.size rfl E2 rfl ?_; intro w3 E3 G3))
        (try simp only [Exit.inBlock, Exit.then])
        refine bodyPost_ret (results_tmp3 rfl _ _ _) rfl ?_
        have b2 : Below wr.heap.size wr (w2.alloc (.cells #[.int .u8 0, .slice none 0 0, .int .i64 0, .int .i64 0] 75)) := B2.alloc B2.size _
        have b3 := b2.grown G3 b2.size (fun k h => by cases h; exact B2.size)
        exact ⟨u5, xs, b, x, rfl, I.kept b3, CH.out, .inr ⟨by rw [← HM.out]; exact hlt, HX.out.symm, he⟩, B.trans (b3.mono B.size)⟩
    · obtain rfl : b = m := by omega
      have hlt' : ¬ (b : Int) < b := by omega
      go_wp2_with fail
      (try simp only [Exit.inBlock, Exit.then])
      refine bodyPost_ret (results_tmp3 rfl _ _ _) rfl ?_
      exact ⟨u5, xs, b, 0, rfl, I, CH.out, .inl ⟨HM.out, rfl⟩, B⟩
end Go.Proofs.YtdbhgkbmbbjpdaaGreatDoor.Frm

/- The rows that package table makes. -/
import Derived.Test.YtcgncecjbkpmkaaBt
import Derived.Deep.DeepCutAuto
import Derived.Deep.RegionHeld3
namespace Go.Proofs.Ytcgncecjbkpmkaa.Tab
open Pre Ser
open Go.ChangeShapes Go.WideShapes Go.ChangeAt Go.RowKit
set_option maxRecDepth 8000

theorem row5 {w : World} {b : Nat} {t : TypeId} {x0 x1 x2 x3 x4 : Value} (h : w.heap[b]? = some (.cells #[x0, x1, x2, x3, x4] t (0, 0))) : w.cell? ⟨b, 0, none⟩ = some x0 ∧ w.cell? ⟨b, 1, none⟩ = some x1 ∧ w.cell? ⟨b, 2, none⟩ = some x2 ∧ w.cell? ⟨b, 3, none⟩ = some x3 ∧ w.cell? ⟨b, 4, none⟩ = some x4 :=
  ⟨cell_of_row w b 0 _ t (0, 0) h, cell_of_row w b 1 _ t (0, 0) h, cell_of_row w b 2 _ t (0, 0) h, cell_of_row w b 3 _ t (0, 0) h, cell_of_row w b 4 _ t (0, 0) h⟩
theorem row10 {w : World} {b : Nat} {t : TypeId} {x0 x1 x2 x3 x4 x5 x6 x7 x8 x9 : Value} (h : w.heap[b]? = some (.cells #[x0, x1, x2, x3, x4, x5, x6, x7, x8, x9] t (0, 0))) : (w.cell? ⟨b, 0, none⟩ = some x0 ∧ w.cell? ⟨b, 1, none⟩ = some x1 ∧ w.cell? ⟨b, 2, none⟩ = some x2 ∧ w.cell? ⟨b, 3, none⟩ = some x3 ∧ w.cell? ⟨b, 4, none⟩ = some x4 ∧ w.cell? ⟨b, 5, none⟩ = some x5 ∧ w.cell? ⟨b, 6, none⟩ = some x6 ∧ w.cell? ⟨b, 7, none⟩ = some x7 ∧ w.cell? ⟨b, 8, none⟩ = some x8 ∧ w.cell? ⟨b, 9, none⟩ = some x9) ∧ ∀ i, w.frozen? ⟨b, i, none⟩ = false :=
  ⟨⟨cell_of_row w b 0 _ t (0, 0) h, cell_of_row w b 1 _ t (0, 0) h, cell_of_row w b 2 _ t (0, 0) h, cell_of_row w b 3 _ t (0, 0) h, cell_of_row w b 4 _ t (0, 0) h, cell_of_row w b 5 _ t (0, 0) h, cell_of_row w b 6 _ t (0, 0) h, cell_of_row w b 7 _ t (0, 0) h, cell_of_row w b 8 _ t (0, 0) h, cell_of_row w b 9 _ t (0, 0) h⟩, fun i => frozen_of_row w b i _ t h⟩
/-- Ten cells written over. -/
theorem sets10_below {w w1 : World} {B : Nat} (h : Below B w w1) (q : Nat) (hq : B ≤ q) (v0 v1 v2 v3 v4 v5 v6 v7 v8 v9 : Value) :
    Below B w ((((((((((w1.setCell ⟨q, 0, none⟩ v0).setCell ⟨q, 1, none⟩ v1).setCell ⟨q, 2, none⟩ v2).setCell ⟨q, 3, none⟩ v3).setCell ⟨q, 4, none⟩ v4).setCell ⟨q, 5, none⟩ v5).setCell ⟨q, 6, none⟩ v6).setCell ⟨q, 7, none⟩ v7).setCell ⟨q, 8, none⟩ v8).setCell ⟨q, 9, none⟩ v9) :=
  (((((((((h.setCell hq v0).setCell hq v1).setCell hq v2).setCell hq v3).setCell hq v4).setCell hq v5).setCell hq v6).setCell hq v7).setCell hq v8).setCell hq v9
theorem first_any (a n : Nat) (v m s : Int) (w : World) :
    Calls Try.prog 41 #[.agg #[.int .u32 (a : Int), .int .u8 (n : Int), .int .i64 v, .int .u16 m, .int .u16 s]] w fun e w' => e = .returned (.agg #[.int .u32 (a : Int), .int .u8 (n : Int), .bool true, .int .u32 (a : Int), .int .u8 (n : Int), .int .i64 v, .int .u16 m, .int .u16 s, .int .u16 s, .int .u16 m]) ∧ Below w.heap.size w w' := by
  have c59 := fun W => mark_any a n v m s W
  have R0 : ((w.alloc (.cells #[.int .u32 (a : Int), .int .u8 (n : Int), .int .i64 v, .int .u16 m, .int .u16 s] 36)).alloc (.cells #[.int .u32 0, .int .u8 0, .bool false, .int .u32 0, .int .u8 0, .int .i64 0, .int .u16 0, .int .u16 0, .int .u16 0, .int .u16 0] 43)).heap[w.heap.size]? = some (.cells #[.int .u32 (a : Int), .int .u8 (n : Int), .int .i64 v, .int .u16 m, .int .u16 s] 36 (0, 0)) := (heap_alloc_old _ _ (by simp)).trans (heap_alloc_new w _)
  have R1 : ((w.alloc (.cells #[.int .u32 (a : Int), .int .u8 (n : Int), .int .i64 v, .int .u16 m, .int .u16 s] 36)).alloc (.cells #[.int .u32 0, .int .u8 0, .bool false, .int .u32 0, .int .u8 0, .int .i64 0, .int .u16 0, .int .u16 0, .int .u16 0, .int .u16 0] 43)).heap[w.heap.size + 1]? = some (.cells #[.int .u32 0, .int .u8 0, .bool false, .int .u32 0, .int .u8 0, .int .i64 0, .int .u16 0, .int .u16 0, .int .u16 0, .int .u16 0] 43 (0, 0)) := by
    have := heap_alloc_new (w.alloc (.cells #[.int .u32 (a : Int), .int .u8 (n : Int), .int .i64 v, .int .u16 m, .int .u16 s] 36)) (.cells #[.int .u32 0, .int .u8 0, .bool false, .int .u32 0, .int .u8 0, .int .i64 0, .int .u16 0, .int .u16 0, .int .u16 0, .int .u16 0] 43)
    simpa using this
  have B0 : Below w.heap.size w ((w.alloc (.cells #[.int .u32 (a : Int), .int .u8 (n : Int), .int .i64 v, .int .u16 m, .int .u16 s] 36)).alloc (.cells #[.int .u32 0, .int .u8 0, .bool false, .int .u32 0, .int .u8 0, .int .i64 0, .int .u16 0, .int .u16 0, .int .u16 0, .int .u16 0] 43)) := ((Below.refl _ _).alloc (Nat.le_refl _) _).alloc (by simp) _
  go_enter Try.func41, Try.ntmps41
  go_upto_region 1 with (fail)
  generalize (w.alloc _).alloc _ = wv at *
  have D := (Below.refl wv.heap.size wv).drew
  replace R0 := (D.block _ (Array.getElem?_eq_some_iff.1 R0).1).trans R0
  replace R1 := (D.block _ (Array.getElem?_eq_some_iff.1 R1).1).trans R1
  replace B0 := B0.trans (D.mono B0.size)
  clear D
  have HS := Lib.hid (And.intro R0 (And.intro R1 B0))
  clear R0 R1 B0
  refine wp_region_noPanic ?_
  refine wp_region_held_drew (S := fun W : World => W.heap[w.heap.size]? = some (.cells #[.int .u32 (a : Int), .int .u8 (n : Int), .int .i64 v, .int .u16 m, .int .u16 s] 36 (0, 0)) ∧ Below w.heap.size w W) (by kernel_rfl) ⟨HS.out.1, HS.out.2.2⟩ (fun hHeld => ?_)
  generalize wv.drew = wd at *
  refine wpAnyH_take (i := 0) (oi := { dst := some 3, op := Op.fieldAddr 36 (Operand.tmp 1) 0, type := 0, pos := "table.go:53", after := #[], guard := none }) (v := .pointer (some ⟨w.heap.size, 0, none⟩)) rfl (by kernel_rfl) (by kernel_rfl) (by kernel_rfl) (fun _ _ _ h => h) (Or.inl ⟨by rfl, fun w hSw => by go_simp⟩) (by assumption) ?_
  try simp only [Act.put, List.setIfInBounds_toArray, List.set_cons_zero, List.set_cons_succ]
  refine wpAnyH_take (i := 1) (oi := { dst := some 4, op := Op.load 33 (Operand.tmp 3), type := 33, pos := "table.go:53", after := #[{ on := 0, ground := Ground.data }], guard := none }) (v := .agg #[.int .u32 (a : Int), .int .u8 (n : Int)]) rfl (by kernel_rfl) (by kernel_rfl) (by kernel_rfl) (fun _ _ _ h => h) (Or.inl ⟨by rfl, fun w hSw => by obtain ⟨y0, y1, y2, y3, y4⟩ := row5 hSw.1; go_simp⟩) (by assumption) ?_
  try simp only [Act.put, List.setIfInBounds_toArray, List.set_cons_zero, List.set_cons_succ]
  refine wpAnyH_take (i := 2) (oi := { dst := some 5, op := Op.load 36 (Operand.tmp 1), type := 36, pos := "table.go:53", after := #[], guard := none }) (v := .agg #[.int .u32 (a : Int), .int .u8 (n : Int), .int .i64 v, .int .u16 m, .int .u16 s]) rfl (by kernel_rfl) (by kernel_rfl) (by kernel_rfl) (fun _ _ _ h => h) (Or.inl ⟨by rfl, fun w hSw => by obtain ⟨y0, y1, y2, y3, y4⟩ := row5 hSw.1; go_simp⟩) (by assumption) ?_
  try simp only [Act.put, List.setIfInBounds_toArray, List.set_cons_zero, List.set_cons_succ]
  refine wpAnyH_take (i := 3) (oi := { dst := some 6, op := Op.load 36 (Operand.tmp 1), type := 36, pos := "table.go:53", after := #[], guard := none }) (v := .agg #[.int .u32 (a : Int), .int .u8 (n : Int), .int .i64 v, .int .u16 m, .int .u16 s]) rfl (by kernel_rfl) (by kernel_rfl) (by kernel_rfl) (fun _ _ _ h => h) (Or.inl ⟨by rfl, fun w hSw => by obtain ⟨y0, y1, y2, y3, y4⟩ := row5 hSw.1; go_simp⟩) (by assumption) ?_
  try simp only [Act.put, List.setIfInBounds_toArray, List.set_cons_zero, List.set_cons_succ]
  refine wpAnyH_ready (rs := [4]) (by kernel_rfl) (by simp) ?_
  refine AllReadyH.cons (o := { dst := some 7, op := Op.call { callee := Callee.value (Operand.func 59), args := #[Operand.tmp 6], argTypes := #[36] }, type := 41, pos := "table.go:53", after := #[{ on := 3, ground := Ground.data }], guard := none }) rfl (fun K hK => ?_) AllReadyH.nil
  go_simp
  with_reducible refine (c59 _).mono ?_
  rintro e w3 ⟨rfl, B3⟩
  have h3 : w3.heap[w.heap.size]? = _ := (B3.block _ (Array.getElem?_eq_some_iff.1 hHeld.1).1).trans hHeld.1
  have h4 : w3.heap[w.heap.size + 1]? = _ := (B3.block _ (Array.getElem?_eq_some_iff.1 HS.out.2.1).1).trans HS.out.2.1
  have h5 := hHeld.2.trans (B3.mono hHeld.2.size)
  refine hK.out _ _ (⟨h3, h5⟩) (fun hHeld => ?_)
  clear hK K
  try simp only [Act.put, List.setIfInBounds_toArray, List.set_cons_zero, List.set_cons_succ]
  have HB3 := Lib.hid h5
  have H3 := Lib.hid h3
  clear h3 h5 B3
  refine wpAnyH_take (i := 5) (oi := { dst := some 8, op := Op.build 43 #[(0, Operand.tmp 4), (1, Operand.const (Value.bool true)), (2, Operand.tmp 5), (3, Operand.tmp 7)], type := 43, pos := "table.go:53", after := #[{ on := 1, ground := Ground.data }, { on := 2, ground := Ground.data }, { on := 4, ground := Ground.data }], guard := none }) (v := .agg #[.int .u32 (a : Int), .int .u8 (n : Int), .bool true, .int .u32 (a : Int), .int .u8 (n : Int), .int .i64 v, .int .u16 m, .int .u16 s, .int .u16 s, .int .u16 m]) rfl (by kernel_rfl) (by kernel_rfl) (by kernel_rfl) (fun _ _ _ h => h) (Or.inl ⟨by rfl, fun w hSw => by go_simp⟩) (by assumption) ?_
  try simp only [Act.put, List.setIfInBounds_toArray, List.set_cons_zero, List.set_cons_succ]
  refine wpAnyH_ready (rs := [6]) (by kernel_rfl) (by simp) ?_
  refine AllReadyH.cons (o := { dst := none, op := Op.store 43 (Operand.tmp 2) (Operand.tmp 8), type := 0, pos := "table.go:53", after := #[{ on := 5, ground := Ground.data }, { on := 4, ground := Ground.chain }, { on := 0, ground := Ground.phase }, { on := 1, ground := Ground.phase }, { on := 2, ground := Ground.phase }, { on := 3, ground := Ground.phase }, { on := 4, ground := Ground.phase }, { on := 5, ground := Ground.phase }], guard := none }) rfl (fun K hK => ?_) AllReadyH.nil
  obtain ⟨⟨k0, k1, k2, k3, k4, k5, k6, k7, k8, k9⟩, kf⟩ := row10 h4
  go_simp
  refine hK.out _ _ (⟨((sets10_below (Below.refl (w.heap.size + 1) w3) (w.heap.size + 1) (Nat.le_refl _) _ _ _ _ _ _ _ _ _ _).block _ (Nat.lt_succ_self _)).trans H3.out, sets10_below HB3.out (w.heap.size + 1) (Nat.le_succ _) _ _ _ _ _ _ _ _ _ _⟩) (fun hHeld => ?_)
  clear hK K
  try simp only [Act.put, List.setIfInBounds_toArray, List.set_cons_zero, List.set_cons_succ]
  refine wpAnyH_done (by kernel_rfl) ?_ _
  try unfold NoPanic
  go_wp2
  exact bodyPost_ret (v := .agg #[.int .u32 (a : Int), .int .u8 (n : Int), .bool true, .int .u32 (a : Int), .int .u8 (n : Int), .int .i64 v, .int .u16 m, .int .u16 s, .int .u16 s, .int .u16 m]) (by simp [results, go_sem, k0, k1, k2, k3, k4, k5, k6, k7, k8, k9]) rfl ⟨rfl, hHeld.2⟩
end Go.Proofs.Ytcgncecjbkpmkaa.Tab

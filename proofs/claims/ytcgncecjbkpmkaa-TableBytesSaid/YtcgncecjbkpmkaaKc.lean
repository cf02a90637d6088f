/- nextRow: what a change makes of a row. -/
import Derived.Test.YtcgncecjbkpmkaaKm
import Derived.StillTailTactics
namespace Go.Proofs.Ytcgncecjbkpmkaa.Tab
open Pre Ser Chg
open Go.ChangeShapes Go.WideShapes Go.ChangeAt Go.RowKit
set_option maxRecDepth 8000

theorem row8' {w : World} {b : Nat} {t : TypeId} {x0 x1 x2 x3 x4 x5 x6 x7 : Value} (h : w.heap[b]? = some (.cells #[x0, x1, x2, x3, x4, x5, x6, x7] t (0, 0))) : w.cell? ⟨b, 0, none⟩ = some x0 ∧ w.cell? ⟨b, 1, none⟩ = some x1 ∧ w.cell? ⟨b, 2, none⟩ = some x2 ∧ w.cell? ⟨b, 3, none⟩ = some x3 ∧ w.cell? ⟨b, 4, none⟩ = some x4 ∧ w.cell? ⟨b, 5, none⟩ = some x5 ∧ w.cell? ⟨b, 6, none⟩ = some x6 ∧ w.cell? ⟨b, 7, none⟩ = some x7 :=
  ⟨cell_of_row w b 0 _ t (0, 0) h, cell_of_row w b 1 _ t (0, 0) h, cell_of_row w b 2 _ t (0, 0) h, cell_of_row w b 3 _ t (0, 0) h, cell_of_row w b 4 _ t (0, 0) h, cell_of_row w b 5 _ t (0, 0) h, cell_of_row w b 6 _ t (0, 0) h, cell_of_row w b 7 _ t (0, 0) h⟩
def Z10 : Array Value := #[.int .u32 0, .int .u8 0, .bool false, .int .u32 0, .int .u8 0, .int .i64 0, .int .u16 0, .int .u16 0, .int .u16 0, .int .u16 0]
/-- The three boxes. -/
structure Nx (w W : World) (x y : Array Value) : Prop where
  r0 : W.heap[w.heap.size]? = some (.cells x 43 (0, 0))
  r1 : W.heap[w.heap.size + 1]? = some (.cells y 38 (0, 0))
  r2 : W.heap[w.heap.size + 1 + 1]? = some (.cells #[.int .u32 0, .int .u8 0, .bool false, .int .u32 0, .int .u8 0, .int .i64 0, .int .u16 0, .int .u16 0, .int .u16 0, .int .u16 0] 43 (0, 0))
  bl : Below w.heap.size w W
theorem Nx.new (w : World) (x y : Array Value) : Nx w (((w.alloc (.cells x 43)).alloc (.cells y 38)).alloc (.cells Z10 43)) x y := by
  have s1 : (w.alloc (.cells x 43)).heap.size = w.heap.size + 1 := by simp
  have s2 : ((w.alloc (.cells x 43)).alloc (.cells y 38)).heap.size = w.heap.size + 1 + 1 := by simp
  refine ⟨?_, ?_, ?_, (((Below.refl _ _).alloc (Nat.le_refl _) _).alloc (by simp) _).alloc (by simp; omega) _⟩
  · rw [heap_alloc_old _ _ (by rw [s2]; omega), heap_alloc_old _ _ (by rw [s1]; omega)]; exact heap_alloc_new w _
  · rw [heap_alloc_old _ _ (by rw [s2]; omega)]
    have := heap_alloc_new (w.alloc (.cells x 43)) (.cells y 38)
    rw [s1] at this; exact this
  · have := heap_alloc_new ((w.alloc (.cells x 43)).alloc (.cells y 38)) (.cells Z10 43)
    rw [s2] at this; exact this
theorem Nx.set {w W : World} {x y : Array Value} (h : Nx w W x y) (i : Nat) (v : Value) : Nx w (W.setCell ⟨w.heap.size, i, none⟩ v) (x.setIfInBounds i v) y :=
  ⟨heap_setCell_same W w.heap.size i x 43 v h.r0, (Below.heap_setCell W ⟨w.heap.size, i, none⟩ v _ (by show w.heap.size + 1 ≠ w.heap.size; omega)).trans h.r1, (Below.heap_setCell W ⟨w.heap.size, i, none⟩ v _ (by show w.heap.size + 1 + 1 ≠ w.heap.size; omega)).trans h.r2, h.bl.setCell (p := ⟨w.heap.size, i, none⟩) (Nat.le_refl _) v⟩
theorem Nx.step {w W W' : World} {x y : Array Value} (h : Nx w W x y) (B : Below W.heap.size W W') : Nx w W' x y :=
  ⟨(B.block _ (Array.getElem?_eq_some_iff.1 h.r0).1).trans h.r0, (B.block _ (Array.getElem?_eq_some_iff.1 h.r1).1).trans h.r1, (B.block _ (Array.getElem?_eq_some_iff.1 h.r2).1).trans h.r2, h.bl.trans (B.mono h.bl.size)⟩
set_option maxHeartbeats 4000000 in
theorem next_gone (a n v m s ms mm no tm v2 m2 s2 : Nat) (h : Bool) (w : World) :
    Calls Try.prog 42 #[.agg #[.int .u32 (a : Int), .int .u8 (n : Int), .bool h, .int .u32 (a : Int), .int .u8 (n : Int), .int .i64 (v : Int), .int .u16 (m : Int), .int .u16 (s : Int), .int .u16 (ms : Int), .int .u16 (mm : Int)], .agg #[.int .u64 (no : Int), .int .u64 (tm : Int), .bool true, .int .u32 (a : Int), .int .u8 (n : Int), .int .i64 (v2 : Int), .int .u16 (m2 : Int), .int .u16 (s2 : Int)]] w
      fun e w' => e = .returned (.agg (R.cl (R.next ⟨a, n, h, v, m, s, ms, mm⟩ ⟨no, tm, true, a, n, v2, m2, s2⟩)).toArray) ∧ Below w.heap.size w w' := by
  have N0 := Nx.new w #[.int .u32 (a : Int), .int .u8 (n : Int), .bool h, .int .u32 (a : Int), .int .u8 (n : Int), .int .i64 (v : Int), .int .u16 (m : Int), .int .u16 (s : Int), .int .u16 (ms : Int), .int .u16 (mm : Int)] #[.int .u64 (no : Int), .int .u64 (tm : Int), .bool true, .int .u32 (a : Int), .int .u8 (n : Int), .int .i64 (v2 : Int), .int .u16 (m2 : Int), .int .u16 (s2 : Int)]
  unfold Z10 at N0
  go_enter Try.func42, Try.ntmps42
  go_upto_region 1 with (fail)
  generalize ((w.alloc _).alloc _).alloc _ = w1 at *
  obtain ⟨k0, k1, k2, k3, k4, k5, k6, k7⟩ := row8' N0.r1
  obtain ⟨⟨l0, l1, l2, l3, l4, l5, l6, l7, l8, l9⟩, lf⟩ := row10 N0.r0
  have HN0 := Lib.hid N0
  have e3 : w.heap.size + 1 < w1.heap.size := (Array.getElem?_eq_some_iff.1 N0.r1).1
  have e4 : w.heap.size < w1.heap.size := (Array.getElem?_eq_some_iff.1 N0.r0).1
  clear N0
  go_upto_region 3 with (fail)
  have N1 : Nx w ((((((w1.setCell ⟨w.heap.size, 2, none⟩ (.bool false)).setCell ⟨w.heap.size, 3, none⟩ (.int .u32 (a : Int))).setCell ⟨w.heap.size, 4, none⟩ (.int .u8 (n : Int))).setCell ⟨w.heap.size, 5, none⟩ (.int .i64 (v2 : Int))).setCell ⟨w.heap.size, 6, none⟩ (.int .u16 (m2 : Int))).setCell ⟨w.heap.size, 7, none⟩ (.int .u16 (s2 : Int))) #[.int .u32 (a : Int), .int .u8 (n : Int), .bool false, .int .u32 (a : Int), .int .u8 (n : Int), .int .i64 (v2 : Int), .int .u16 (m2 : Int), .int .u16 (s2 : Int), .int .u16 (ms : Int), .int .u16 (mm : Int)] #[.int .u64 (no : Int), .int .u64 (tm : Int), .bool true, .int .u32 (a : Int), .int .u8 (n : Int), .int .i64 (v2 : Int), .int .u16 (m2 : Int), .int .u16 (s2 : Int)] := by
    have := (((((HN0.out.set 2 (.bool false)).set 3 (.int .u32 (a : Int))).set 4 (.int .u8 (n : Int))).set 5 (.int .i64 (v2 : Int))).set 6 (.int .u16 (m2 : Int))).set 7 (.int .u16 (s2 : Int))
    simpa using this
  clear k0 k1 k2 k3 k4 k5 k6 k7 l0 l1 l2 l3 l4 l5 l6 l7 l8 l9 lf HN0 e3 e4
  generalize (((((w1.setCell _ _).setCell _ _).setCell _ _).setCell _ _).setCell _ _).setCell _ _ = w2 at *
  obtain ⟨⟨l0, l1, l2, l3, l4, l5, l6, l7, l8, l9⟩, lf⟩ := row10 N1.r0
  obtain ⟨⟨m0, m1, m2', m3, m4, m5, m6, m7, m8, m9⟩, mf⟩ := row10 N1.r2
  have e3 : w.heap.size + 1 + 1 < w2.heap.size := (Array.getElem?_eq_some_iff.1 N1.r2).1
  have e4 : w.heap.size < w2.heap.size := (Array.getElem?_eq_some_iff.1 N1.r0).1
  have HN0 := Lib.hid N1
  clear N1
  go_wp2
  exact bodyPost_ret (v := .agg #[.int .u32 (a : Int), .int .u8 (n : Int), .bool false, .int .u32 (a : Int), .int .u8 (n : Int), .int .i64 (v2 : Int), .int .u16 (m2 : Int), .int .u16 (s2 : Int), .int .u16 (ms : Int), .int .u16 (mm : Int)]) (by simp [results, Try.results42, go_sem, m0, m1, m2', m3, m4, m5, m6, m7, m8, m9]) rfl ⟨by simp [R.next, R.cl], sets10_below HN0.out.bl (w.heap.size + 1 + 1) (by omega) _ _ _ _ _ _ _ _ _ _⟩
set_option maxHeartbeats 4000000 in
theorem next_yes (a n v m s ms mm no tm v2 m2 s2 : Nat) (h : Bool) (hnr : nearer (s2 : Int) m2 ms mm = true) (w : World) :
    Calls Try.prog 42 #[.agg #[.int .u32 (a : Int), .int .u8 (n : Int), .bool h, .int .u32 (a : Int), .int .u8 (n : Int), .int .i64 (v : Int), .int .u16 (m : Int), .int .u16 (s : Int), .int .u16 (ms : Int), .int .u16 (mm : Int)], .agg #[.int .u64 (no : Int), .int .u64 (tm : Int), .bool false, .int .u32 (a : Int), .int .u8 (n : Int), .int .i64 (v2 : Int), .int .u16 (m2 : Int), .int .u16 (s2 : Int)]] w
      fun e w' => e = .returned (.agg (R.cl (R.next ⟨a, n, h, v, m, s, ms, mm⟩ ⟨no, tm, false, a, n, v2, m2, s2⟩)).toArray) ∧ Below w.heap.size w w' := by
  have HNR := Lib.hid hnr
  clear hnr
  have N0 := Nx.new w #[.int .u32 (a : Int), .int .u8 (n : Int), .bool h, .int .u32 (a : Int), .int .u8 (n : Int), .int .i64 (v : Int), .int .u16 (m : Int), .int .u16 (s : Int), .int .u16 (ms : Int), .int .u16 (mm : Int)] #[.int .u64 (no : Int), .int .u64 (tm : Int), .bool false, .int .u32 (a : Int), .int .u8 (n : Int), .int .i64 (v2 : Int), .int .u16 (m2 : Int), .int .u16 (s2 : Int)]
  unfold Z10 at N0
  go_enter Try.func42, Try.ntmps42
  go_upto_region 1 with (fail)
  generalize ((w.alloc _).alloc _).alloc _ = w1 at *
  obtain ⟨k0, k1, k2, k3, k4, k5, k6, k7⟩ := row8' N0.r1
  obtain ⟨⟨l0, l1, l2, l3, l4, l5, l6, l7, l8, l9⟩, lf⟩ := row10 N0.r0
  have HN0 := Lib.hid N0
  have e3 : w.heap.size + 1 < w1.heap.size := (Array.getElem?_eq_some_iff.1 N0.r1).1
  have e4 : w.heap.size < w1.heap.size := (Array.getElem?_eq_some_iff.1 N0.r0).1
  clear N0
  go_upto_region 3 with (fail)
  have N1 : Nx w ((((((w1.setCell ⟨w.heap.size, 2, none⟩ (.bool true)).setCell ⟨w.heap.size, 3, none⟩ (.int .u32 (a : Int))).setCell ⟨w.heap.size, 4, none⟩ (.int .u8 (n : Int))).setCell ⟨w.heap.size, 5, none⟩ (.int .i64 (v2 : Int))).setCell ⟨w.heap.size, 6, none⟩ (.int .u16 (m2 : Int))).setCell ⟨w.heap.size, 7, none⟩ (.int .u16 (s2 : Int))) #[.int .u32 (a : Int), .int .u8 (n : Int), .bool true, .int .u32 (a : Int), .int .u8 (n : Int), .int .i64 (v2 : Int), .int .u16 (m2 : Int), .int .u16 (s2 : Int), .int .u16 (ms : Int), .int .u16 (mm : Int)] #[.int .u64 (no : Int), .int .u64 (tm : Int), .bool false, .int .u32 (a : Int), .int .u8 (n : Int), .int .i64 (v2 : Int), .int .u16 (m2 : Int), .int .u16 (s2 : Int)] := by
    have := (((((HN0.out.set 2 (.bool true)).set 3 (.int .u32 (a : Int))).set 4 (.int .u8 (n : Int))).set 5 (.int .i64 (v2 : Int))).set 6 (.int .u16 (m2 : Int))).set 7 (.int .u16 (s2 : Int))
    simpa using this
  clear k0 k1 k2 k3 k4 k5 k6 k7 l0 l1 l2 l3 l4 l5 l6 l7 l8 l9 lf HN0 e3 e4
  generalize (((((w1.setCell _ _).setCell _ _).setCell _ _).setCell _ _).setCell _ _).setCell _ _ = w2 at *
  obtain ⟨⟨l0, l1, l2, l3, l4, l5, l6, l7, l8, l9⟩, lf⟩ := row10 N1.r0
  clear l0 l1 l3 l4 l5 l6 l7 l8 l9 lf
  go_upto_region 4 with (fail)
  clear l2
  have NX := Lib.hid (N1.step (Below.refl _ _).drew)
  clear N1
  refine wp_region_noPanic ?_
  refine wp_region_held_drew (S := fun W : World => Below w.heap.size w W ∧ W.heap[w.heap.size + 1]? = some (.cells #[.int .u64 (no : Int), .int .u64 (tm : Int), .bool false, .int .u32 (a : Int), .int .u8 (n : Int), .int .i64 (v2 : Int), .int .u16 (m2 : Int), .int .u16 (s2 : Int)] 38 (0, 0))) (by kernel_rfl) ⟨NX.out.bl, NX.out.r1⟩ (fun hHeld => ?_)
  generalize w2.drew = wd at *
  refine wpAnyH_take (i := 0) (oi := { dst := some 14, op := Op.fieldAddr 43 (Operand.tmp 2) 3, type := 0, pos := "table.go:61", after := #[], guard := none }) (v := .pointer (some ⟨w.heap.size, 8, none⟩)) rfl (by kernel_rfl) (by kernel_rfl) (by kernel_rfl) (fun _ _ _ h => h) (Or.inl ⟨by rfl, fun w hSw => by go_simp⟩) (by assumption) ?_
  try simp only [Act.put, List.setIfInBounds_toArray, List.set_cons_zero, List.set_cons_succ]
  refine wpAnyH_take (i := 2) (oi := { dst := some 16, op := Op.fieldAddr 38 (Operand.tmp 3) 3, type := 0, pos := "table.go:61", after := #[], guard := none }) (v := .pointer (some ⟨w.heap.size + 1, 3, none⟩)) rfl (by kernel_rfl) (by kernel_rfl) (by kernel_rfl) (fun _ _ _ h => h) (Or.inl ⟨by rfl, fun w hSw => by go_simp⟩) (by assumption) ?_
  try simp only [Act.put, List.setIfInBounds_toArray, List.set_cons_zero, List.set_cons_succ]
  refine wpAnyH_take (i := 3) (oi := { dst := some 17, op := Op.load 36 (Operand.tmp 16), type := 36, pos := "table.go:61", after := #[{ on := 2, ground := Ground.data }], guard := none }) (v := .agg #[.int .u32 (a : Int), .int .u8 (n : Int), .int .i64 (v2 : Int), .int .u16 (m2 : Int), .int .u16 (s2 : Int)]) rfl (by kernel_rfl) (by kernel_rfl) (by kernel_rfl) (fun _ _ _ h => h) (Or.inl ⟨by rfl, fun w hSw => by obtain ⟨k0, k1, k2, k3, k4, k5, k6, k7⟩ := row8' hSw.2; go_simp⟩) (by assumption) ?_
  try simp only [Act.put, List.setIfInBounds_toArray, List.set_cons_zero, List.set_cons_succ]
  refine wpAnyH_ready (rs := [1, 4]) (by kernel_rfl) (by simp) ?_
  refine (AllReadyH.cons (o := { dst := some 15, op := Op.load 41 (Operand.tmp 14), type := 41, pos := "table.go:61", after := #[{ on := 0, ground := Ground.data }], guard := none }) rfl (fun K hK => ?_) (AllReadyH.cons (o := { dst := some 18, op := Op.call { callee := Callee.value (Operand.func 59), args := #[Operand.tmp 17], argTypes := #[36] }, type := 41, pos := "table.go:61", after := #[{ on := 3, ground := Ground.data }], guard := none }) rfl (fun K hK => ?_) AllReadyH.nil))
  · obtain ⟨⟨l0, l1, l2, l3, l4, l5, l6, l7, l8, l9⟩, lf⟩ := row10 NX.out.r0
    go_simp
    refine hK.out _ _ (⟨NX.out.bl, NX.out.r1⟩) (fun hHeld => ?_)
    clear hK K
    try simp only [Act.put, List.setIfInBounds_toArray, List.set_cons_zero, List.set_cons_succ]
    clear l0 l1 l2 l3 l4 l5 l6 l7 l8 l9 lf
    refine wpAnyH_ready (rs := [4]) (by kernel_rfl) (by simp) ?_
    refine AllReadyH.cons (o := { dst := some 18, op := Op.call { callee := Callee.value (Operand.func 59), args := #[Operand.tmp 17], argTypes := #[36] }, type := 41, pos := "table.go:61", after := #[{ on := 3, ground := Ground.data }], guard := none }) rfl (fun K hK => ?_) AllReadyH.nil
    go_simp
    with_reducible refine (mark_any a n (v2 : Int) (m2 : Int) (s2 : Int) _).mono ?_
    rintro e w3 ⟨rfl, B3⟩
    replace NX := Lib.hid (NX.out.step B3)
    refine hK.out _ _ (⟨NX.out.bl, NX.out.r1⟩) (fun hHeld => ?_)
    clear hK K
    try simp only [Act.put, List.setIfInBounds_toArray, List.set_cons_zero, List.set_cons_succ]
    clear B3
    refine wpAnyH_ready (rs := [5]) (by kernel_rfl) (by simp) ?_
    refine AllReadyH.cons (o := { dst := some 19, op := Op.call { callee := Callee.value (Operand.func 60), args := #[Operand.tmp 15, Operand.tmp 18], argTypes := #[41, 41] }, type := 41, pos := "table.go:61", after := #[{ on := 1, ground := Ground.data }, { on := 4, ground := Ground.data }, { on := 4, ground := Ground.chain }], guard := none }) rfl (fun K hK => ?_) AllReadyH.nil
    go_simp
    with_reducible refine (best_yes (ms : Int) (mm : Int) (s2 : Int) (m2 : Int) HNR.out _).mono ?_
    rintro e w4 ⟨rfl, B4⟩
    replace NX := Lib.hid (NX.out.step B4)
    refine hK.out _ _ (⟨NX.out.bl, NX.out.r1⟩) (fun hHeld => ?_)
    clear hK K
    try simp only [Act.put, List.setIfInBounds_toArray, List.set_cons_zero, List.set_cons_succ]
    clear B4
    refine wpAnyH_take (i := 6) (oi := { dst := some 20, op := Op.fieldAddr 43 (Operand.tmp 2) 3, type := 0, pos := "table.go:61", after := #[{ on := 0, ground := Ground.phase }, { on := 1, ground := Ground.phase }, { on := 2, ground := Ground.phase }, { on := 3, ground := Ground.phase }, { on := 4, ground := Ground.phase }, { on := 5, ground := Ground.phase }], guard := none }) (v := .pointer (some ⟨w.heap.size, 8, none⟩)) rfl (by kernel_rfl) (by kernel_rfl) (by kernel_rfl) (fun _ _ _ h => h) (Or.inl ⟨by rfl, fun w hSw => by go_simp⟩) (by assumption) ?_
    try simp only [Act.put, List.setIfInBounds_toArray, List.set_cons_zero, List.set_cons_succ]
    refine wpAnyH_ready (rs := [7]) (by kernel_rfl) (by simp) ?_
    refine AllReadyH.cons (o := { dst := none, op := Op.store 41 (Operand.tmp 20) (Operand.tmp 19), type := 0, pos := "table.go:61", after := #[{ on := 6, ground := Ground.data }, { on := 5, ground := Ground.data }, { on := 5, ground := Ground.chain }, { on := 0, ground := Ground.phase }, { on := 1, ground := Ground.phase }, { on := 2, ground := Ground.phase }, { on := 3, ground := Ground.phase }, { on := 4, ground := Ground.phase }, { on := 5, ground := Ground.phase }], guard := none }) rfl (fun K hK => ?_) AllReadyH.nil
    obtain ⟨⟨l0, l1, l2, l3, l4, l5, l6, l7, l8, l9⟩, lf⟩ := row10 NX.out.r0
    go_simp
    have N5 : Nx w ((w4.setCell ⟨w.heap.size, 8, none⟩ (.int .u16 (s2 : Int))).setCell ⟨w.heap.size, 9, none⟩ (.int .u16 (m2 : Int))) #[.int .u32 (a : Int), .int .u8 (n : Int), .bool true, .int .u32 (a : Int), .int .u8 (n : Int), .int .i64 (v2 : Int), .int .u16 (m2 : Int), .int .u16 (s2 : Int), .int .u16 (s2 : Int), .int .u16 (m2 : Int)] #[.int .u64 (no : Int), .int .u64 (tm : Int), .bool false, .int .u32 (a : Int), .int .u8 (n : Int), .int .i64 (v2 : Int), .int .u16 (m2 : Int), .int .u16 (s2 : Int)] := by
      have := (NX.out.set 8 (.int .u16 (s2 : Int))).set 9 (.int .u16 (m2 : Int))
      simpa using this
    clear l0 l1 l2 l3 l4 l5 l6 l7 l8 l9 lf
    generalize (w4.setCell _ _).setCell _ _ = w5 at *
    refine hK.out _ _ (⟨N5.bl, N5.r1⟩) (fun hHeld => ?_)
    clear hK K hHeld
    try simp only [Act.put, List.setIfInBounds_toArray, List.set_cons_zero, List.set_cons_succ]
    refine wpAnyH_done (by kernel_rfl) ?_ _
    try unfold NoPanic
    obtain ⟨⟨l0, l1, l2, l3, l4, l5, l6, l7, l8, l9⟩, lf⟩ := row10 N5.r0
    obtain ⟨⟨m0, m1, m2', m3, m4, m5, m6, m7, m8, m9⟩, mf⟩ := row10 N5.r2
    have e3 : w.heap.size + 1 + 1 < w5.heap.size := (Array.getElem?_eq_some_iff.1 N5.r2).1
    have e4 : w.heap.size < w5.heap.size := (Array.getElem?_eq_some_iff.1 N5.r0).1
    have HN0 := Lib.hid N5
    clear N5
    go_wp2
    exact bodyPost_ret (v := .agg #[.int .u32 (a : Int), .int .u8 (n : Int), .bool true, .int .u32 (a : Int), .int .u8 (n : Int), .int .i64 (v2 : Int), .int .u16 (m2 : Int), .int .u16 (s2 : Int), .int .u16 (s2 : Int), .int .u16 (m2 : Int)]) (by simp [results, Try.results42, go_sem, m0, m1, m2', m3, m4, m5, m6, m7, m8, m9]) rfl ⟨by simp [R.next, R.cl, near, HNR.out], sets10_below HN0.out.bl (w.heap.size + 1 + 1) (by omega) _ _ _ _ _ _ _ _ _ _⟩
  · go_simp
    with_reducible refine (mark_any a n (v2 : Int) (m2 : Int) (s2 : Int) _).mono ?_
    rintro e w3 ⟨rfl, B3⟩
    replace NX := Lib.hid (NX.out.step B3)
    refine hK.out _ _ (⟨NX.out.bl, NX.out.r1⟩) (fun hHeld => ?_)
    clear hK K
    try simp only [Act.put, List.setIfInBounds_toArray, List.set_cons_zero, List.set_cons_succ]
    clear B3
    refine wpAnyH_ready (rs := [1]) (by kernel_rfl) (by simp) ?_
    refine AllReadyH.cons (o := { dst := some 15, op := Op.load 41 (Operand.tmp 14), type := 41, pos := "table.go:61", after := #[{ on := 0, ground := Ground.data }], guard := none }) rfl (fun K hK => ?_) AllReadyH.nil
    obtain ⟨⟨l0, l1, l2, l3, l4, l5, l6, l7, l8, l9⟩, lf⟩ := row10 NX.out.r0
    go_simp
    refine hK.out _ _ (⟨NX.out.bl, NX.out.r1⟩) (fun hHeld => ?_)
    clear hK K
    try simp only [Act.put, List.setIfInBounds_toArray, List.set_cons_zero, List.set_cons_succ]
    clear l0 l1 l2 l3 l4 l5 l6 l7 l8 l9 lf
    refine wpAnyH_ready (rs := [5]) (by kernel_rfl) (by simp) ?_
    refine AllReadyH.cons (o := { dst := some 19, op := Op.call { callee := Callee.value (Operand.func 60), args := #[Operand.tmp 15, Operand.tmp 18], argTypes := #[41, 41] }, type := 41, pos := "table.go:61", after := #[{ on := 1, ground := Ground.data }, { on := 4, ground := Ground.data }, { on := 4, ground := Ground.chain }], guard := none }) rfl (fun K hK => ?_) AllReadyH.nil
    go_simp
    with_reducible refine (best_yes (ms : Int) (mm : Int) (s2 : Int) (m2 : Int) HNR.out _).mono ?_
    rintro e w4 ⟨rfl, B4⟩
    replace NX := Lib.hid (NX.out.step B4)
    refine hK.out _ _ (⟨NX.out.bl, NX.out.r1⟩) (fun hHeld => ?_)
    clear hK K
    try simp only [Act.put, List.setIfInBounds_toArray, List.set_cons_zero, List.set_cons_succ]
    clear B4
    refine wpAnyH_take (i := 6) (oi := { dst := some 20, op := Op.fieldAddr 43 (Operand.tmp 2) 3, type := 0, pos := "table.go:61", after := #[{ on := 0, ground := Ground.phase }, { on := 1, ground := Ground.phase }, { on := 2, ground := Ground.phase }, { on := 3, ground := Ground.phase }, { on := 4, ground := Ground.phase }, { on := 5, ground := Ground.phase }], guard := none }) (v := .pointer (some ⟨w.heap.size, 8, none⟩)) rfl (by kernel_rfl) (by kernel_rfl) (by kernel_rfl) (fun _ _ _ h => h) (Or.inl ⟨by rfl, fun w hSw => by go_simp⟩) (by assumption) ?_
    try simp only [Act.put, List.setIfInBounds_toArray, List.set_cons_zero, List.set_cons_succ]
    refine wpAnyH_ready (rs := [7]) (by kernel_rfl) (by simp) ?_
    refine AllReadyH.cons (o := { dst := none, op := Op.store 41 (Operand.tmp 20) (Operand.tmp 19), type := 0, pos := "table.go:61", after := #[{ on := 6, ground := Ground.data }, { on := 5, ground := Ground.data }, { on := 5, ground := Ground.chain }, { on := 0, ground := Ground.phase }, { on := 1, ground := Ground.phase }, { on := 2, ground := Ground.phase }, { on := 3, ground := Ground.phase }, { on := 4, ground := Ground.phase }, { on := 5, ground := Ground.phase }], guard := none }) rfl (fun K hK => ?_) AllReadyH.nil
    obtain ⟨⟨l0, l1, l2, l3, l4, l5, l6, l7, l8, l9⟩, lf⟩ := row10 NX.out.r0
    go_simp
    have N5 : Nx w ((w4.setCell ⟨w.heap.size, 8, none⟩ (.int .u16 (s2 : Int))).setCell ⟨w.heap.size, 9, none⟩ (.int .u16 (m2 : Int))) #[.int .u32 (a : Int), .int .u8 (n : Int), .bool true, .int .u32 (a : Int), .int .u8 (n : Int), .int .i64 (v2 : Int), .int .u16 (m2 : Int), .int .u16 (s2 : Int), .int .u16 (s2 : Int), .int .u16 (m2 : Int)] #[.int .u64 (no : Int), .int .u64 (tm : Int), .bool false, .int .u32 (a : Int), .int .u8 (n : Int), .int .i64 (v2 : Int), .int .u16 (m2 : Int), .int .u16 (s2 : Int)] := by
      have := (NX.out.set 8 (.int .u16 (s2 : Int))).set 9 (.int .u16 (m2 : Int))
      simpa using this
    clear l0 l1 l2 l3 l4 l5 l6 l7 l8 l9 lf
    generalize (w4.setCell _ _).setCell _ _ = w5 at *
    refine hK.out _ _ (⟨N5.bl, N5.r1⟩) (fun hHeld => ?_)
    clear hK K hHeld
    try simp only [Act.put, List.setIfInBounds_toArray, List.set_cons_zero, List.set_cons_succ]
    refine wpAnyH_done (by kernel_rfl) ?_ _
    try unfold NoPanic
    obtain ⟨⟨l0, l1, l2, l3, l4, l5, l6, l7, l8, l9⟩, lf⟩ := row10 N5.r0
    obtain ⟨⟨m0, m1, m2', m3, m4, m5, m6, m7, m8, m9⟩, mf⟩ := row10 N5.r2
    have e3 : w.heap.size + 1 + 1 < w5.heap.size := (Array.getElem?_eq_some_iff.1 N5.r2).1
    have e4 : w.heap.size < w5.heap.size := (Array.getElem?_eq_some_iff.1 N5.r0).1
    have HN0 := Lib.hid N5
    clear N5
    go_wp2
    exact bodyPost_ret (v := .agg #[.int .u32 (a : Int), .int .u8 (n : Int), .bool true, .int .u32 (a : Int), .int .u8 (n : Int), .int .i64 (v2 : Int), .int .u16 (m2 : Int), .int .u16 (s2 : Int), .int .u16 (s2 : Int), .int .u16 (m2 : Int)]) (by simp [results, Try.results42, go_sem, m0, m1, m2', m3, m4, m5, m6, m7, m8, m9]) rfl ⟨by simp [R.next, R.cl, near, HNR.out], sets10_below HN0.out.bl (w.heap.size + 1 + 1) (by omega) _ _ _ _ _ _ _ _ _ _⟩
set_option maxHeartbeats 4000000 in
theorem next_no (a n v m s ms mm no tm v2 m2 s2 : Nat) (h : Bool) (hnr : nearer (s2 : Int) m2 ms mm = false) (w : World) :
    Calls Try.prog 42 #[.agg #[.int .u32 (a : Int), .int .u8 (n : Int), .bool h, .int .u32 (a : Int), .int .u8 (n : Int), .int .i64 (v : Int), .int .u16 (m : Int), .int .u16 (s : Int), .int .u16 (ms : Int), .int .u16 (mm : Int)], .agg #[.int .u64 (no : Int), .int .u64 (tm : Int), .bool false, .int .u32 (a : Int), .int .u8 (n : Int), .int .i64 (v2 : Int), .int .u16 (m2 : Int), .int .u16 (s2 : Int)]] w
      fun e w' => e = .returned (.agg (R.cl (R.next ⟨a, n, h, v, m, s, ms, mm⟩ ⟨no, tm, false, a, n, v2, m2, s2⟩)).toArray) ∧ Below w.heap.size w w' := by
  have HNR := Lib.hid hnr
  clear hnr
  have N0 := Nx.new w #[.int .u32 (a : Int), .int .u8 (n : Int), .bool h, .int .u32 (a : Int), .int .u8 (n : Int), .int .i64 (v : Int), .int .u16 (m : Int), .int .u16 (s : Int), .int .u16 (ms : Int), .int .u16 (mm : Int)] #[.int .u64 (no : Int), .int .u64 (tm : Int), .bool false, .int .u32 (a : Int), .int .u8 (n : Int), .int .i64 (v2 : Int), .int .u16 (m2 : Int), .int .u16 (s2 : Int)]
  unfold Z10 at N0
  go_enter Try.func42, Try.ntmps42
  go_upto_region 1 with (fail)
  generalize ((w.alloc _).alloc _).alloc _ = w1 at *
  obtain ⟨k0, k1, k2, k3, k4, k5, k6, k7⟩ := row8' N0.r1
  obtain ⟨⟨l0, l1, l2, l3, l4, l5, l6, l7, l8, l9⟩, lf⟩ := row10 N0.r0
  have HN0 := Lib.hid N0
  have e3 : w.heap.size + 1 < w1.heap.size := (Array.getElem?_eq_some_iff.1 N0.r1).1
  have e4 : w.heap.size < w1.heap.size := (Array.getElem?_eq_some_iff.1 N0.r0).1
  clear N0
  go_upto_region 3 with (fail)
  have N1 : Nx w ((((((w1.setCell ⟨w.heap.size, 2, none⟩ (.bool true)).setCell ⟨w.heap.size, 3, none⟩ (.int .u32 (a : Int))).setCell ⟨w.heap.size, 4, none⟩ (.int .u8 (n : Int))).setCell ⟨w.heap.size, 5, none⟩ (.int .i64 (v2 : Int))).setCell ⟨w.heap.size, 6, none⟩ (.int .u16 (m2 : Int))).setCell ⟨w.heap.size, 7, none⟩ (.int .u16 (s2 : Int))) #[.int .u32 (a : Int), .int .u8 (n : Int), .bool true, .int .u32 (a : Int), .int .u8 (n : Int), .int .i64 (v2 : Int), .int .u16 (m2 : Int), .int .u16 (s2 : Int), .int .u16 (ms : Int), .int .u16 (mm : Int)] #[.int .u64 (no : Int), .int .u64 (tm : Int), .bool false, .int .u32 (a : Int), .int .u8 (n : Int), .int .i64 (v2 : Int), .int .u16 (m2 : Int), .int .u16 (s2 : Int)] := by
    have := (((((HN0.out.set 2 (.bool true)).set 3 (.int .u32 (a : Int))).set 4 (.int .u8 (n : Int))).set 5 (.int .i64 (v2 : Int))).set 6 (.int .u16 (m2 : Int))).set 7 (.int .u16 (s2 : Int))
    simpa using this
  clear k0 k1 k2 k3 k4 k5 k6 k7 l0 l1 l2 l3 l4 l5 l6 l7 l8 l9 lf HN0 e3 e4
  generalize (((((w1.setCell _ _).setCell _ _).setCell _ _).setCell _ _).setCell _ _).setCell _ _ = w2 at *
  obtain ⟨⟨l0, l1, l2, l3, l4, l5, l6, l7, l8, l9⟩, lf⟩ := row10 N1.r0
  clear l0 l1 l3 l4 l5 l6 l7 l8 l9 lf
  go_upto_region 4 with (fail)
  clear l2
  have NX := Lib.hid (N1.step (Below.refl _ _).drew)
  clear N1
  refine wp_region_noPanic ?_
  refine wp_region_held_drew (S := fun W : World => Below w.heap.size w W ∧ W.heap[w.heap.size + 1]? = some (.cells #[.int .u64 (no : Int), .int .u64 (tm : Int), .bool false, .int .u32 (a : Int), .int .u8 (n : Int), .int .i64 (v2 : Int), .int .u16 (m2 : Int), .int .u16 (s2 : Int)] 38 (0, 0))) (by kernel_rfl) ⟨NX.out.bl, NX.out.r1⟩ (fun hHeld => ?_)
  generalize w2.drew = wd at *
  refine wpAnyH_take (i := 0) (oi := { dst := some 14, op := Op.fieldAddr 43 (Operand.tmp 2) 3, type := 0, pos := "table.go:61", after := #[], guard := none }) (v := .pointer (some ⟨w.heap.size, 8, none⟩)) rfl (by kernel_rfl) (by kernel_rfl) (by kernel_rfl) (fun _ _ _ h => h) (Or.inl ⟨by rfl, fun w hSw => by go_simp⟩) (by assumption) ?_
  try simp only [Act.put, List.setIfInBounds_toArray, List.set_cons_zero, List.set_cons_succ]
  refine wpAnyH_take (i := 2) (oi := { dst := some 16, op := Op.fieldAddr 38 (Operand.tmp 3) 3, type := 0, pos := "table.go:61", after := #[], guard := none }) (v := .pointer (some ⟨w.heap.size + 1, 3, none⟩)) rfl (by kernel_rfl) (by kernel_rfl) (by kernel_rfl) (fun _ _ _ h => h) (Or.inl ⟨by rfl, fun w hSw => by go_simp⟩) (by assumption) ?_
  try simp only [Act.put, List.setIfInBounds_toArray, List.set_cons_zero, List.set_cons_succ]
  refine wpAnyH_take (i := 3) (oi := { dst := some 17, op := Op.load 36 (Operand.tmp 16), type := 36, pos := "table.go:61", after := #[{ on := 2, ground := Ground.data }], guard := none }) (v := .agg #[.int .u32 (a : Int), .int .u8 (n : Int), .int .i64 (v2 : Int), .int .u16 (m2 : Int), .int .u16 (s2 : Int)]) rfl (by kernel_rfl) (by kernel_rfl) (by kernel_rfl) (fun _ _ _ h => h) (Or.inl ⟨by rfl, fun w hSw => by obtain ⟨k0, k1, k2, k3, k4, k5, k6, k7⟩ := row8' hSw.2; go_simp⟩) (by assumption) ?_
  try simp only [Act.put, List.setIfInBounds_toArray, List.set_cons_zero, List.set_cons_succ]
  refine wpAnyH_ready (rs := [1, 4]) (by kernel_rfl) (by simp) ?_
  refine (AllReadyH.cons (o := { dst := some 15, op := Op.load 41 (Operand.tmp 14), type := 41, pos := "table.go:61", after := #[{ on := 0, ground := Ground.data }], guard := none }) rfl (fun K hK => ?_) (AllReadyH.cons (o := { dst := some 18, op := Op.call { callee := Callee.value (Operand.func 59), args := #[Operand.tmp 17], argTypes := #[36] }, type := 41, pos := "table.go:61", after := #[{ on := 3, ground := Ground.data }], guard := none }) rfl (fun K hK => ?_) AllReadyH.nil))
  · obtain ⟨⟨l0, l1, l2, l3, l4, l5, l6, l7, l8, l9⟩, lf⟩ := row10 NX.out.r0
    go_simp
    refine hK.out _ _ (⟨NX.out.bl, NX.out.r1⟩) (fun hHeld => ?_)
    clear hK K
    try simp only [Act.put, List.setIfInBounds_toArray, List.set_cons_zero, List.set_cons_succ]
    clear l0 l1 l2 l3 l4 l5 l6 l7 l8 l9 lf
    refine wpAnyH_ready (rs := [4]) (by kernel_rfl) (by simp) ?_
    refine AllReadyH.cons (o := { dst := some 18, op := Op.call { callee := Callee.value (Operand.func 59), args := #[Operand.tmp 17], argTypes := #[36] }, type := 41, pos := "table.go:61", after := #[{ on := 3, ground := Ground.data }], guard := none }) rfl (fun K hK => ?_) AllReadyH.nil
    go_simp
    with_reducible refine (mark_any a n (v2 : Int) (m2 : Int) (s2 : Int) _).mono ?_
    rintro e w3 ⟨rfl, B3⟩
    replace NX := Lib.hid (NX.out.step B3)
    refine hK.out _ _ (⟨NX.out.bl, NX.out.r1⟩) (fun hHeld => ?_)
    clear hK K
    try simp only [Act.put, List.setIfInBounds_toArray, List.set_cons_zero, List.set_cons_succ]
    clear B3
    refine wpAnyH_ready (rs := [5]) (by kernel_rfl) (by simp) ?_
    refine AllReadyH.cons (o := { dst := some 19, op := Op.call { callee := Callee.value (Operand.func 60), args := #[Operand.tmp 15, Operand.tmp 18], argTypes := #[41, 41] }, type := 41, pos := "table.go:61", after := #[{ on := 1, ground := Ground.data }, { on := 4, ground := Ground.data }, { on := 4, ground := Ground.chain }], guard := none }) rfl (fun K hK => ?_) AllReadyH.nil
    go_simp
    with_reducible refine (best_no (ms : Int) (mm : Int) (s2 : Int) (m2 : Int) HNR.out _).mono ?_
    rintro e w4 ⟨rfl, B4⟩
    replace NX := Lib.hid (NX.out.step B4)
    refine hK.out _ _ (⟨NX.out.bl, NX.out.r1⟩) (fun hHeld => ?_)
    clear hK K
    try simp only [Act.put, List.setIfInBounds_toArray, List.set_cons_zero, List.set_cons_succ]
    clear B4
    refine wpAnyH_take (i := 6) (oi := { dst := some 20, op := Op.fieldAddr 43 (Operand.tmp 2) 3, type := 0, pos := "table.go:61", after := #[{ on := 0, ground := Ground.phase }, { on := 1, ground := Ground.phase }, { on := 2, ground := Ground.phase }, { on := 3, ground := Ground.phase }, { on := 4, ground := Ground.phase }, { on := 5, ground := Ground.phase }], guard := none }) (v := .pointer (some ⟨w.heap.size, 8, none⟩)) rfl (by kernel_rfl) (by kernel_rfl) (by kernel_rfl) (fun _ _ _ h => h) (Or.inl ⟨by rfl, fun w hSw => by go_simp⟩) (by assumption) ?_
    try simp only [Act.put, List.setIfInBounds_toArray, List.set_cons_zero, List.set_cons_succ]
    refine wpAnyH_ready (rs := [7]) (by kernel_rfl) (by simp) ?_
    refine AllReadyH.cons (o := { dst := none, op := Op.store 41 (Operand.tmp 20) (Operand.tmp 19), type := 0, pos := "table.go:61", after := #[{ on := 6, ground := Ground.data }, { on := 5, ground := Ground.data }, { on := 5, ground := Ground.chain }, { on := 0, ground := Ground.phase }, { on := 1, ground := Ground.phase }, { on := 2, ground := Ground.phase }, { on := 3, ground := Ground.phase }, { on := 4, ground := Ground.phase }, { on := 5, ground := Ground.phase }], guard := none }) rfl (fun K hK => ?_) AllReadyH.nil
    obtain ⟨⟨l0, l1, l2, l3, l4, l5, l6, l7, l8, l9⟩, lf⟩ := row10 NX.out.r0
    go_simp
    have N5 : Nx w ((w4.setCell ⟨w.heap.size, 8, none⟩ (.int .u16 (ms : Int))).setCell ⟨w.heap.size, 9, none⟩ (.int .u16 (mm : Int))) #[.int .u32 (a : Int), .int .u8 (n : Int), .bool true, .int .u32 (a : Int), .int .u8 (n : Int), .int .i64 (v2 : Int), .int .u16 (m2 : Int), .int .u16 (s2 : Int), .int .u16 (ms : Int), .int .u16 (mm : Int)] #[.int .u64 (no : Int), .int .u64 (tm : Int), .bool false, .int .u32 (a : Int), .int .u8 (n : Int), .int .i64 (v2 : Int), .int .u16 (m2 : Int), .int .u16 (s2 : Int)] := by
      have := (NX.out.set 8 (.int .u16 (ms : Int))).set 9 (.int .u16 (mm : Int))
      simpa using this
    clear l0 l1 l2 l3 l4 l5 l6 l7 l8 l9 lf
    generalize (w4.setCell _ _).setCell _ _ = w5 at *
    refine hK.out _ _ (⟨N5.bl, N5.r1⟩) (fun hHeld => ?_)
    clear hK K hHeld
    try simp only [Act.put, List.setIfInBounds_toArray, List.set_cons_zero, List.set_cons_succ]
    refine wpAnyH_done (by kernel_rfl) ?_ _
    try unfold NoPanic
    obtain ⟨⟨l0, l1, l2, l3, l4, l5, l6, l7, l8, l9⟩, lf⟩ := row10 N5.r0
    obtain ⟨⟨m0, m1, m2', m3, m4, m5, m6, m7, m8, m9⟩, mf⟩ := row10 N5.r2
    have e3 : w.heap.size + 1 + 1 < w5.heap.size := (Array.getElem?_eq_some_iff.1 N5.r2).1
    have e4 : w.heap.size < w5.heap.size := (Array.getElem?_eq_some_iff.1 N5.r0).1
    have HN0 := Lib.hid N5
    clear N5
    go_wp2
    exact bodyPost_ret (v := .agg #[.int .u32 (a : Int), .int .u8 (n : Int), .bool true, .int .u32 (a : Int), .int .u8 (n : Int), .int .i64 (v2 : Int), .int .u16 (m2 : Int), .int .u16 (s2 : Int), .int .u16 (ms : Int), .int .u16 (mm : Int)]) (by simp [results, Try.results42, go_sem, m0, m1, m2', m3, m4, m5, m6, m7, m8, m9]) rfl ⟨by simp [R.next, R.cl, near, HNR.out], sets10_below HN0.out.bl (w.heap.size + 1 + 1) (by omega) _ _ _ _ _ _ _ _ _ _⟩
  · go_simp
    with_reducible refine (mark_any a n (v2 : Int) (m2 : Int) (s2 : Int) _).mono ?_
    rintro e w3 ⟨rfl, B3⟩
    replace NX := Lib.hid (NX.out.step B3)
    refine hK.out _ _ (⟨NX.out.bl, NX.out.r1⟩) (fun hHeld => ?_)
    clear hK K
    try simp only [Act.put, List.setIfInBounds_toArray, List.set_cons_zero, List.set_cons_succ]
    clear B3
    refine wpAnyH_ready (rs := [1]) (by kernel_rfl) (by simp) ?_
    refine AllReadyH.cons (o := { dst := some 15, op := Op.load 41 (Operand.tmp 14), type := 41, pos := "table.go:61", after := #[{ on := 0, ground := Ground.data }], guard := none }) rfl (fun K hK => ?_) AllReadyH.nil
    obtain ⟨⟨l0, l1, l2, l3, l4, l5, l6, l7, l8, l9⟩, lf⟩ := row10 NX.out.r0
    go_simp
    refine hK.out _ _ (⟨NX.out.bl, NX.out.r1⟩) (fun hHeld => ?_)
    clear hK K
    try simp only [Act.put, List.setIfInBounds_toArray, List.set_cons_zero, List.set_cons_succ]
    clear l0 l1 l2 l3 l4 l5 l6 l7 l8 l9 lf
    refine wpAnyH_ready (rs := [5]) (by kernel_rfl) (by simp) ?_
    refine AllReadyH.cons (o := { dst := some 19, op := Op.call { callee := Callee.value (Operand.func 60), args := #[Operand.tmp 15, Operand.tmp 18], argTypes := #[41, 41] }, type := 41, pos := "table.go:61", after := #[{ on := 1, ground := Ground.data }, { on := 4, ground := Ground.data }, { on := 4, ground := Ground.chain }], guard := none }) rfl (fun K hK => ?_) AllReadyH.nil
    go_simp
    with_reducible refine (best_no (ms : Int) (mm : Int) (s2 : Int) (m2 : Int) HNR.out _).mono ?_
    rintro e w4 ⟨rfl, B4⟩
    replace NX := Lib.hid (NX.out.step B4)
    refine hK.out _ _ (⟨NX.out.bl, NX.out.r1⟩) (fun hHeld => ?_)
    clear hK K
    try simp only [Act.put, List.setIfInBounds_toArray, List.set_cons_zero, List.set_cons_succ]
    clear B4
    refine wpAnyH_take (i := 6) (oi := { dst := some 20, op := Op.fieldAddr 43 (Operand.tmp 2) 3, type := 0, pos := "table.go:61", after := #[{ on := 0, ground := Ground.phase }, { on := 1, ground := Ground.phase }, { on := 2, ground := Ground.phase }, { on := 3, ground := Ground.phase }, { on := 4, ground := Ground.phase }, { on := 5, ground := Ground.phase }], guard := none }) (v := .pointer (some ⟨w.heap.size, 8, none⟩)) rfl (by kernel_rfl) (by kernel_rfl) (by kernel_rfl) (fun _ _ _ h => h) (Or.inl ⟨by rfl, fun w hSw => by go_simp⟩) (by assumption) ?_
    try simp only [Act.put, List.setIfInBounds_toArray, List.set_cons_zero, List.set_cons_succ]
    refine wpAnyH_ready (rs := [7]) (by kernel_rfl) (by simp) ?_
    refine AllReadyH.cons (o := { dst := none, op := Op.store 41 (Operand.tmp 20) (Operand.tmp 19), type := 0, pos := "table.go:61", after := #[{ on := 6, ground := Ground.data }, { on := 5, ground := Ground.data }, { on := 5, ground := Ground.chain }, { on := 0, ground := Ground.phase }, { on := 1, ground := Ground.phase }, { on := 2, ground := Ground.phase }, { on := 3, ground := Ground.phase }, { on := 4, ground := Ground.phase }, { on := 5, ground := Ground.phase }], guard := none }) rfl (fun K hK => ?_) AllReadyH.nil
    obtain ⟨⟨l0, l1, l2, l3, l4, l5, l6, l7, l8, l9⟩, lf⟩ := row10 NX.out.r0
    go_simp
    have N5 : Nx w ((w4.setCell ⟨w.heap.size, 8, none⟩ (.int .u16 (ms : Int))).setCell ⟨w.heap.size, 9, none⟩ (.int .u16 (mm : Int))) #[.int .u32 (a : Int), .int .u8 (n : Int), .bool true, .int .u32 (a : Int), .int .u8 (n : Int), .int .i64 (v2 : Int), .int .u16 (m2 : Int), .int .u16 (s2 : Int), .int .u16 (ms : Int), .int .u16 (mm : Int)] #[.int .u64 (no : Int), .int .u64 (tm : Int), .bool false, .int .u32 (a : Int), .int .u8 (n : Int), .int .i64 (v2 : Int), .int .u16 (m2 : Int), .int .u16 (s2 : Int)] := by
      have := (NX.out.set 8 (.int .u16 (ms : Int))).set 9 (.int .u16 (mm : Int))
      simpa using this
    clear l0 l1 l2 l3 l4 l5 l6 l7 l8 l9 lf
    generalize (w4.setCell _ _).setCell _ _ = w5 at *
    refine hK.out _ _ (⟨N5.bl, N5.r1⟩) (fun hHeld => ?_)
    clear hK K hHeld
    try simp only [Act.put, List.setIfInBounds_toArray, List.set_cons_zero, List.set_cons_succ]
    refine wpAnyH_done (by kernel_rfl) ?_ _
    try unfold NoPanic
    obtain ⟨⟨l0, l1, l2, l3, l4, l5, l6, l7, l8, l9⟩, lf⟩ := row10 N5.r0
    obtain ⟨⟨m0, m1, m2', m3, m4, m5, m6, m7, m8, m9⟩, mf⟩ := row10 N5.r2
    have e3 : w.heap.size + 1 + 1 < w5.heap.size := (Array.getElem?_eq_some_iff.1 N5.r2).1
    have e4 : w.heap.size < w5.heap.size := (Array.getElem?_eq_some_iff.1 N5.r0).1
    have HN0 := Lib.hid N5
    clear N5
    go_wp2
    exact bodyPost_ret (v := .agg #[.int .u32 (a : Int), .int .u8 (n : Int), .bool true, .int .u32 (a : Int), .int .u8 (n : Int), .int .i64 (v2 : Int), .int .u16 (m2 : Int), .int .u16 (s2 : Int), .int .u16 (ms : Int), .int .u16 (mm : Int)]) (by simp [results, Try.results42, go_sem, m0, m1, m2', m3, m4, m5, m6, m7, m8, m9]) rfl ⟨by simp [R.next, R.cl, near, HNR.out], sets10_below HN0.out.bl (w.heap.size + 1 + 1) (by omega) _ _ _ _ _ _ _ _ _ _⟩
theorem next_any (r : R) (c : C) (ha : c.addr = r.addr) (hl : c.len = r.len) (w : World) :
    Calls Try.prog 42 #[.agg r.cl.toArray, .agg c.cl.toArray] w fun e w' => e = .returned (.agg (r.next c).cl.toArray) ∧ Below w.heap.size w w' := by
  obtain ⟨a, n, h, v, m, s, ms, mm⟩ := r
  obtain ⟨no, tm, g, a', n', v2, m2, s2⟩ := c
  replace ha : a' = a := ha
  replace hl : n' = n := hl
  subst ha hl
  cases g
  · cases hnr : nearer (s2 : Int) m2 ms mm
    · exact next_no a' n' v m s ms mm no tm v2 m2 s2 h hnr w
    · exact next_yes a' n' v m s ms mm no tm v2 m2 s2 h hnr w
  · exact next_gone a' n' v m s ms mm no tm v2 m2 s2 h w
end Go.Proofs.Ytcgncecjbkpmkaa.Tab

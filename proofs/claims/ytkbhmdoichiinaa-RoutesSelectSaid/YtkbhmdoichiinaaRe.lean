/- The closure of the order, and the search. -/
import Derived.Test.YtkbhmdoichiinaaRd
namespace Go.Proofs.Ytkbhmdoichiinaa.Rts
open Pre Ser
open Go.Proofs.Ytkbhmdoichiinaa.Src (row1 row2)
open Go.ChangeShapes Go.WideShapes Go.ChangeAt Go.RowKit
set_option maxRecDepth 8000

theorem row7 {w : World} {b : Nat} {t : TypeId} {x0 x1 x2 x3 x4 x5 x6 : Value} (h : w.heap[b]? = some (.cells #[x0, x1, x2, x3, x4, x5, x6] t (0, 0))) : w.cell? ⟨b, 0, none⟩ = some x0 ∧ w.cell? ⟨b, 1, none⟩ = some x1 ∧ w.cell? ⟨b, 2, none⟩ = some x2 ∧ w.cell? ⟨b, 3, none⟩ = some x3 ∧ w.cell? ⟨b, 4, none⟩ = some x4 ∧ w.cell? ⟨b, 5, none⟩ = some x5 ∧ w.cell? ⟨b, 6, none⟩ = some x6 :=
  ⟨cell_of_row w b 0 _ t (0, 0) h, cell_of_row w b 1 _ t (0, 0) h, cell_of_row w b 2 _ t (0, 0) h, cell_of_row w b 3 _ t (0, 0) h, cell_of_row w b 4 _ t (0, 0) h, cell_of_row w b 5 _ t (0, 0) h, cell_of_row w b 6 _ t (0, 0) h⟩
set_option maxHeartbeats 1000000 in
theorem order_any (w : World) (e : E) (pb yb a n b : Nat) (hp : w.heap[pb]? = some (.cells #[.int .u32 (a : Int), .int .u8 (n : Int)] 39 (0, 0))) (hy : w.heap[yb]? = some (.cells #[.int .i64 (b : Int)] 3 (0, 0))) :
    Calls Try.prog 47 #[.agg #[.int .u32 (e.a : Int), .int .u8 (e.n : Int), .int .i64 (e.b : Int), .int .i64 (e.d : Int), .int .u16 (e.s : Int), .int .u16 (e.m : Int), .int .u64 (e.u : Int)], .pointer (some ⟨pb, 0, none⟩), .pointer (some ⟨yb, 0, none⟩)] w fun en w' => en = .returned (.int .i64 (ordV e a n b)) ∧ Below w.heap.size w w' := by
  have h0 := heap_alloc_new w (.cells #[.int .u32 (e.a : Int), .int .u8 (e.n : Int), .int .i64 (e.b : Int), .int .i64 (e.d : Int), .int .u16 (e.s : Int), .int .u16 (e.m : Int), .int .u64 (e.u : Int)] 43)
  have hb0 := (Below.refl w.heap.size w).alloc (Nat.le_refl _) (.cells #[.int .u32 (e.a : Int), .int .u8 (e.n : Int), .int .i64 (e.b : Int), .int .i64 (e.d : Int), .int .u16 (e.s : Int), .int .u16 (e.m : Int), .int .u64 (e.u : Int)] 43)
  go_enter Try.func47, Try.ntmps47
  go_wp2
  generalize w.alloc _ = w1 at *
  refine wp_region_noPanic ?_
  refine wp_region_held_drew (S := fun x : World => Below w.heap.size w x ∧ x.heap[w.heap.size]? = some (.cells #[.int .u32 (e.a : Int), .int .u8 (e.n : Int), .int .i64 (e.b : Int), .int .i64 (e.d : Int), .int .u16 (e.s : Int), .int .u16 (e.m : Int), .int .u64 (e.u : Int)] 43 (0, 0))) (by kernel_rfl) ⟨hb0.drew, h0⟩ (fun hHeld => ?_)
  generalize w1.drew = wd at *
  refine wpAnyH_take (i := 0) (oi := { dst := some 5, op := Op.fieldAddr 43 (Operand.tmp 3) 0, type := 0, pos := "routes.go:43", after := #[], guard := none }) (v := .pointer (some ⟨w.heap.size, 0, none⟩)) rfl (by kernel_rfl) (by kernel_rfl) (by kernel_rfl) (fun _ _ _ h => h) (Or.inl ⟨by rfl, fun w hSw => by go_simp⟩) (by assumption) ?_
  try simp only [Act.put, List.setIfInBounds_toArray, List.set_cons_zero, List.set_cons_succ]
  refine wpAnyH_take (i := 1) (oi := { dst := some 6, op := Op.load 39 (Operand.tmp 5), type := 39, pos := "routes.go:43", after := #[{ on := 0, ground := Ground.data }], guard := none }) (v := .agg #[.int .u32 (e.a : Int), .int .u8 (e.n : Int)]) rfl (by kernel_rfl) (by kernel_rfl) (by kernel_rfl) (fun _ _ _ h => h) (Or.inl ⟨by rfl, fun w hSw => by obtain ⟨p0, p1, p2, p3, p4, p5, p6⟩ := row7 hSw.2; go_simp⟩) (by assumption) ?_
  try simp only [Act.put, List.setIfInBounds_toArray, List.set_cons_zero, List.set_cons_succ]
  refine wpAnyH_take (i := 2) (oi := { dst := some 7, op := Op.load 39 (Operand.tmp 1), type := 39, pos := "routes.go:43", after := #[], guard := none }) (v := .agg #[.int .u32 (a : Int), .int .u8 (n : Int)]) rfl (by kernel_rfl) (by kernel_rfl) (by kernel_rfl) (fun _ _ _ h => h) (Or.inl ⟨by rfl, fun w hSw => by obtain ⟨p0, p1, -⟩ := row2 (brow hSw.1 hp); go_simp⟩) (by assumption) ?_
  try simp only [Act.put, List.setIfInBounds_toArray, List.set_cons_zero, List.set_cons_succ]
  refine wpAnyH_take (i := 4) (oi := { dst := some 9, op := Op.fieldAddr 43 (Operand.tmp 3) 1, type := 0, pos := "routes.go:43", after := #[], guard := none }) (v := .pointer (some ⟨w.heap.size, 2, none⟩)) rfl (by kernel_rfl) (by kernel_rfl) (by kernel_rfl) (fun _ _ _ h => h) (Or.inl ⟨by rfl, fun w hSw => by go_simp⟩) (by assumption) ?_
  try simp only [Act.put, List.setIfInBounds_toArray, List.set_cons_zero, List.set_cons_succ]
  refine wpAnyH_take (i := 5) (oi := { dst := some 10, op := Op.load 3 (Operand.tmp 9), type := 3, pos := "routes.go:43", after := #[{ on := 4, ground := Ground.data }], guard := none }) (v := .int .i64 (e.b : Int)) rfl (by kernel_rfl) (by kernel_rfl) (by kernel_rfl) (fun _ _ _ h => h) (Or.inl ⟨by rfl, fun w hSw => by obtain ⟨p0, p1, p2, p3, p4, p5, p6⟩ := row7 hSw.2; go_simp⟩) (by assumption) ?_
  try simp only [Act.put, List.setIfInBounds_toArray, List.set_cons_zero, List.set_cons_succ]
  refine wpAnyH_take (i := 6) (oi := { dst := some 11, op := Op.load 3 (Operand.tmp 2), type := 3, pos := "routes.go:43", after := #[], guard := none }) (v := .int .i64 (b : Int)) rfl (by kernel_rfl) (by kernel_rfl) (by kernel_rfl) (fun _ _ _ h => h) (Or.inl ⟨by rfl, fun w hSw => by obtain ⟨p0, -⟩ := row1 (brow hSw.1 hy); go_simp⟩) (by assumption) ?_
  try simp only [Act.put, List.setIfInBounds_toArray, List.set_cons_zero, List.set_cons_succ]
  refine wpAnyH_ready (rs := [3]) (by kernel_rfl) (by simp) ?_
  refine AllReadyH.cons (o := { dst := some 8, op := Op.call { callee := Callee.value (Operand.func 49), args := #[Operand.tmp 6, Operand.tmp 7], argTypes := #[39, 39] }, type := 3, pos := "routes.go:43", after := #[{ on := 1, ground := Ground.data }, { on := 2, ground := Ground.data }], guard := none }) rfl (fun K hK => ?_) AllReadyH.nil
  go_simp
  with_reducible refine (compare_any e.a e.n a n _).mono ?_
  rintro en w3 ⟨rfl, hB⟩
  refine hK.out _ _ (⟨hHeld.1.trans (hB.mono hHeld.1.size), brow hB hHeld.2⟩) (fun hHeld2 => ?_)
  clear hK K hHeld
  have hHeld := hHeld2
  clear hHeld2
  try simp only [Act.put, List.setIfInBounds_toArray, List.set_cons_zero, List.set_cons_succ]
  clear hB
  refine wpAnyH_ready (rs := [7]) (by kernel_rfl) (by simp) ?_
  refine AllReadyH.cons (o := { dst := some 12, op := Op.call { callee := Callee.value (Operand.func 50), args := #[Operand.tmp 10, Operand.tmp 11], argTypes := #[3, 3] }, type := 3, pos := "routes.go:43", after := #[{ on := 5, ground := Ground.data }, { on := 6, ground := Ground.data }, { on := 3, ground := Ground.chain }], guard := none }) rfl (fun K hK => ?_) AllReadyH.nil
  go_simp
  with_reducible refine (cmpi_any e.b b _).mono ?_
  rintro en w4 ⟨rfl, rfl⟩
  refine hK.out _ _ (hHeld) (fun hHeld2 => ?_)
  clear hK K hHeld
  have hHeld := hHeld2
  clear hHeld2
  try simp only [Act.put, List.setIfInBounds_toArray, List.set_cons_zero, List.set_cons_succ]
  refine wpAnyH_ready (rs := [8]) (by kernel_rfl) (by simp) ?_
  refine AllReadyH.cons (o := { dst := some 13, op := Op.buildSlice 104 2 #[(0, Operand.tmp 8), (1, Operand.tmp 12)], type := 104, pos := "routes.go:43", after := #[{ on := 3, ground := Ground.data }, { on := 7, ground := Ground.data }], guard := none }) rfl (fun K hK => ?_) AllReadyH.nil
  go_simp
  have hB := (Below.refl w3.heap.size w3).alloc (Nat.le_refl _) (.cells #[.int .i64 (cmpP e.a e.n a n), .int .i64 (cmpV e.b b)] 3)
  have HR := Lib.hid (heap_alloc_new w3 (.cells #[.int .i64 (cmpP e.a e.n a n), .int .i64 (cmpV e.b b)] 3))
  refine hK.out _ _ (⟨hHeld.1.trans (hB.mono hHeld.1.size), brow hB hHeld.2⟩) (fun hHeld2 => ?_)
  clear hK K hHeld
  have hHeld := hHeld2
  clear hHeld2
  try simp only [Act.put, List.setIfInBounds_toArray, List.set_cons_zero, List.set_cons_succ]
  clear hB
  generalize w3.alloc _ = w5 at *
  generalize w3.heap.size = z at *
  refine wpAnyH_ready (rs := [9]) (by kernel_rfl) (by simp) ?_
  refine AllReadyH.cons (o := { dst := some 14, op := Op.call { callee := Callee.value (Operand.func 48), args := #[Operand.tmp 13], argTypes := #[104] }, type := 3, pos := "routes.go:43", after := #[{ on := 8, ground := Ground.data }, { on := 7, ground := Ground.chain }], guard := none }) rfl (fun K hK => ?_) AllReadyH.nil
  obtain ⟨c0, c1, -⟩ := row2 HR.out
  go_simp
  with_reducible refine (or_any (cmpP e.a e.n a n) (cmpV e.b b) _ _ c0 c1).mono ?_
  rintro en w6 ⟨rfl, rfl⟩
  refine hK.out _ _ (hHeld) (fun hHeld2 => ?_)
  clear hK K hHeld
  have hHeld := hHeld2
  clear hHeld2
  try simp only [Act.put, List.setIfInBounds_toArray, List.set_cons_zero, List.set_cons_succ]
  refine wpAnyH_take (i := 10) (oi := { dst := some 4, op := Op.assign (Operand.tmp 14), type := 3, pos := "routes.go:43", after := #[{ on := 9, ground := Ground.data }, { on := 9, ground := Ground.chain }, { on := 0, ground := Ground.phase }, { on := 1, ground := Ground.phase }, { on := 2, ground := Ground.phase }, { on := 3, ground := Ground.phase }, { on := 4, ground := Ground.phase }, { on := 5, ground := Ground.phase }, { on := 6, ground := Ground.phase }, { on := 7, ground := Ground.phase }, { on := 8, ground := Ground.phase }, { on := 9, ground := Ground.phase }], guard := none }) (v := .int .i64 (ordV e a n b)) rfl (by kernel_rfl) (by kernel_rfl) (by kernel_rfl) (fun _ _ _ h => h) (Or.inl ⟨by rfl, fun w hSw => by go_simp; rfl⟩) (by assumption) ?_
  try simp only [Act.put, List.setIfInBounds_toArray, List.set_cons_zero, List.set_cons_succ]
  refine wpAnyH_done (by kernel_rfl) ?_ _
  try unfold NoPanic
  go_wp2
  exact bodyPost_ret (v := .int .i64 (ordV e a n b)) (by simp [results, Try.results47, go_sem]) rfl ⟨rfl, hHeld.1⟩
theorem ordV_range (e : E) (a n b : Nat) : ordV e a n b = -1 ∨ ordV e a n b = 0 ∨ ordV e a n b = 1 := by
  unfold ordV cmpP orV cmpV
  (repeat' split) <;> omega
theorem EOwn.rows {w : World} {B : Nat} {v : Value} {es : List E} (h : EOwn w B v es) (hne : 0 < es.length) : ∃ g c cur, v = .slice (some ⟨g, 0, none⟩) es.length c ∧ B ≤ g ∧ w.heap[g]? = some (.cells cur 43 (0, 0)) ∧ es.length ≤ c ∧ c ≤ maxLen ∧ cur.size = c * 7 ∧ cur.toList.take (es.length * 7) = es.flatMap E.cl ∧ ∀ k (hk : k < es.length), EAt w g (k * 7) es[k] := by
  obtain ⟨A, c', hv, hsl, hA⟩ := h.form
  rcases h.2 with ⟨-, h0⟩ | ⟨g, cap, cur, h1, h2, h3, h4, h5, h6, h7⟩
  · omega
  · refine ⟨g, cap, cur, h1, h2, h3, h4, h5, h6, h7, fun k hk => ?_⟩
    obtain ⟨b, o, e, hb, hE⟩ := hsl k hk
    have ho := (hA b o e).2.2.2
    subst ho
    rw [h1] at hv; injection hv with e1 _ _
    rw [← e1] at e; injection e with e; injection e with e _ _
    subst e
    rw [Nat.zero_add] at hE; exact hE
set_option maxHeartbeats 1000000 in
theorem find1_any (w : World) (lo q : Nat) (L : List E) (v : Value) (h : RtsAt lo w q L v) (k : Nat) (hk : k < L.length) (hlen : L.length ≤ 1000) (xo xr pb yb a n b : Nat)
    (ho : w.heap[xo]? = some (.cells #[.func (.func 47) #[] #[.pointer (some ⟨pb, 0, none⟩), .pointer (some ⟨yb, 0, none⟩)]] 97 (0, 0))) (hr : w.heap[xr]? = some (.cells #[.pointer (some ⟨q, 0, none⟩)] 24 (0, 0)))
    (hp : w.heap[pb]? = some (.cells #[.int .u32 (a : Int), .int .u8 (n : Int)] 39 (0, 0))) (hy : w.heap[yb]? = some (.cells #[.int .i64 (b : Int)] 3 (0, 0))) :
    Calls Try.prog 71 #[.int .i64 (k : Int), .pointer (some ⟨xo, 0, none⟩), .pointer (some ⟨xr, 0, none⟩)] w fun en w' => en = .returned (.int .i64 (-(ordV L[k] a n b))) ∧ Below w.heap.size w w' := by
  obtain ⟨g, c, cur, rfl, -, h3, h4, h5, -, -, hE0⟩ := h.own.rows (by omega)
  have hE := hE0 k hk
  have hg := (Array.getElem?_eq_some_iff.1 h3).1
  have hq := h.row
  have hrg := ordV_range L[k] a n b
  generalize L[k] = r at *
  clear hE0 h3 h
  have hks : (k : Int) < L.length := by omega
  have hwr : IntKind.i64.wrap (-(ordV r a n b)) = -(ordV r a n b) := by rw [IntKind.wrap_i64]; omega
  have HW := Lib.hid hwr
  clear hwr
  go_enter Try.func71, Try.ntmps71
  go_wp2
  refine wp_region_noPanic ?_
  refine wp_region_held_drew (S := fun x : World => Below w.heap.size w x) (by kernel_rfl) ((Below.refl _ _).drew) (fun hHeld => ?_)
  generalize w.drew = wd at *
  refine wpAnyH_take (i := 0) (oi := { dst := some 5, op := Op.load 97 (Operand.tmp 1), type := 97, pos := "routes.go:73", after := #[], guard := none }) (v := .func (.func 47) #[] #[.pointer (some ⟨pb, 0, none⟩), .pointer (some ⟨yb, 0, none⟩)]) rfl (by kernel_rfl) (by kernel_rfl) (by kernel_rfl) (fun _ _ _ h => h) (Or.inl ⟨by rfl, fun w hSw => by obtain ⟨p0, -⟩ := row1 (brow hSw ho); go_simp⟩) (by assumption) ?_
  try simp only [Act.put, List.setIfInBounds_toArray, List.set_cons_zero, List.set_cons_succ]
  refine wpAnyH_take (i := 1) (oi := { dst := some 6, op := Op.load 24 (Operand.tmp 2), type := 24, pos := "routes.go:73", after := #[], guard := none }) (v := .pointer (some ⟨q, 0, none⟩)) rfl (by kernel_rfl) (by kernel_rfl) (by kernel_rfl) (fun _ _ _ h => h) (Or.inl ⟨by rfl, fun w hSw => by obtain ⟨p0, -⟩ := row1 (brow hSw hr); go_simp⟩) (by assumption) ?_
  try simp only [Act.put, List.setIfInBounds_toArray, List.set_cons_zero, List.set_cons_succ]
  refine wpAnyH_take (i := 2) (oi := { dst := some 7, op := Op.nilCheck (Operand.tmp 6), type := 0, pos := "routes.go:73", after := #[{ on := 1, ground := Ground.data }], guard := none }) (v := .pointer (some ⟨q, 0, none⟩)) rfl (by kernel_rfl) (by kernel_rfl) (by kernel_rfl) (fun _ _ _ h => h) (Or.inl ⟨by rfl, fun w hSw => by go_simp⟩) (by assumption) ?_
  try simp only [Act.put, List.setIfInBounds_toArray, List.set_cons_zero, List.set_cons_succ]
  refine wpAnyH_take (i := 3) (oi := { dst := some 8, op := Op.fieldAddr 72 (Operand.tmp 7) 0, type := 0, pos := "routes.go:73", after := #[{ on := 2, ground := Ground.data }], guard := none }) (v := .pointer (some ⟨q, 0, none⟩)) rfl (by kernel_rfl) (by kernel_rfl) (by kernel_rfl) (fun _ _ _ h => h) (Or.inl ⟨by rfl, fun w hSw => by go_simp⟩) (by assumption) ?_
  try simp only [Act.put, List.setIfInBounds_toArray, List.set_cons_zero, List.set_cons_succ]
  refine wpAnyH_take (i := 4) (oi := { dst := some 9, op := Op.load 26 (Operand.tmp 8), type := 26, pos := "routes.go:73", after := #[{ on := 3, ground := Ground.data }], guard := none }) (v := .slice (some ⟨g, 0, none⟩) L.length c) rfl (by kernel_rfl) (by kernel_rfl) (by kernel_rfl) (fun _ _ _ h => h) (Or.inl ⟨by rfl, fun w hSw => by obtain ⟨p0, -⟩ := row1 (brow hSw hq); go_simp⟩) (by assumption) ?_
  try simp only [Act.put, List.setIfInBounds_toArray, List.set_cons_zero, List.set_cons_succ]
  refine wpAnyH_take (i := 5) (oi := { dst := some 10, op := Op.move (Operand.tmp 0), type := 3, pos := "routes.go:73", after := #[], guard := none }) (v := .int .i64 (k : Int)) rfl (by kernel_rfl) (by kernel_rfl) (by kernel_rfl) (fun _ _ _ h => h) (Or.inl ⟨by rfl, fun w hSw => by go_simp⟩) (by assumption) ?_
  try simp only [Act.put, List.setIfInBounds_toArray, List.set_cons_zero, List.set_cons_succ]
  refine wpAnyH_take (i := 6) (oi := { dst := some 11, op := Op.indexAddr 26 (Operand.tmp 9) (Operand.tmp 10), type := 0, pos := "routes.go:73", after := #[{ on := 4, ground := Ground.data }, { on := 5, ground := Ground.data }], guard := none }) (v := .pointer (some ⟨g, k * 7, none⟩)) rfl (by kernel_rfl) (by kernel_rfl) (by kernel_rfl) (fun _ _ _ h => h) (Or.inl ⟨by rfl, fun w hSw => by go_simp⟩) (by assumption) ?_
  try simp only [Act.put, List.setIfInBounds_toArray, List.set_cons_zero, List.set_cons_succ]
  refine wpAnyH_take (i := 7) (oi := { dst := some 12, op := Op.load 43 (Operand.tmp 11), type := 43, pos := "routes.go:73", after := #[{ on := 6, ground := Ground.data }], guard := none }) (v := .agg #[.int .u32 (r.a : Int), .int .u8 (r.n : Int), .int .i64 (r.b : Int), .int .i64 (r.d : Int), .int .u16 (r.s : Int), .int .u16 (r.m : Int), .int .u64 (r.u : Int)]) rfl (by kernel_rfl) (by kernel_rfl) (by kernel_rfl) (fun _ _ _ h => h) (Or.inl ⟨by rfl, fun w hSw => by obtain ⟨p0, p1, p2, p3, p4, p5, p6⟩ := hE.keep (hSw.block g hg); go_simp⟩) (by assumption) ?_
  try simp only [Act.put, List.setIfInBounds_toArray, List.set_cons_zero, List.set_cons_succ]
  refine wpAnyH_ready (rs := [8]) (by kernel_rfl) (by simp) ?_
  refine AllReadyH.cons (o := { dst := some 13, op := Op.call { callee := Callee.value (Operand.tmp 5), args := #[Operand.tmp 12], argTypes := #[43] }, type := 3, pos := "routes.go:73", after := #[{ on := 0, ground := Ground.data }, { on := 7, ground := Ground.data }], guard := none }) rfl (fun K hK => ?_) AllReadyH.nil
  go_simp
  with_reducible refine (order_any _ r pb yb a n b (brow hHeld hp) (brow hHeld hy)).mono ?_
  rintro en w3 ⟨rfl, hB⟩
  refine hK.out _ _ (hHeld.trans (hB.mono hHeld.size)) (fun hHeld2 => ?_)
  clear hK K hHeld
  have hHeld := hHeld2
  clear hHeld2
  try simp only [Act.put, List.setIfInBounds_toArray, List.set_cons_zero, List.set_cons_succ]
  clear hB
  refine wpAnyH_take (i := 9) (oi := { dst := some 14, op := Op.unOp UnOp.neg 3 (Operand.tmp 13), type := 3, pos := "routes.go:73", after := #[{ on := 8, ground := Ground.data }], guard := none }) (v := .int .i64 (-(ordV r a n b))) rfl (by kernel_rfl) (by kernel_rfl) (by kernel_rfl) (fun _ _ _ h => h) (Or.inl ⟨by rfl, fun w hSw => by go_simp; exact HW.out⟩) (by assumption) ?_
  try simp only [Act.put, List.setIfInBounds_toArray, List.set_cons_zero, List.set_cons_succ]
  refine wpAnyH_take (i := 10) (oi := { dst := some 4, op := Op.assign (Operand.tmp 14), type := 3, pos := "routes.go:73", after := #[{ on := 9, ground := Ground.data }, { on := 8, ground := Ground.chain }, { on := 0, ground := Ground.phase }, { on := 1, ground := Ground.phase }, { on := 2, ground := Ground.phase }, { on := 3, ground := Ground.phase }, { on := 4, ground := Ground.phase }, { on := 5, ground := Ground.phase }, { on := 6, ground := Ground.phase }, { on := 7, ground := Ground.phase }, { on := 8, ground := Ground.phase }, { on := 9, ground := Ground.phase }], guard := none }) (v := .int .i64 (-(ordV r a n b))) rfl (by kernel_rfl) (by kernel_rfl) (by kernel_rfl) (fun _ _ _ h => h) (Or.inl ⟨by rfl, fun w hSw => by go_simp⟩) (by assumption) ?_
  try simp only [Act.put, List.setIfInBounds_toArray, List.set_cons_zero, List.set_cons_succ]
  refine wpAnyH_done (by kernel_rfl) ?_ _
  try unfold NoPanic
  go_wp2
  exact bodyPost_ret (v := .int .i64 (-(ordV r a n b))) (by simp [results, Try.results71, go_sem]) rfl ⟨rfl, hHeld⟩
/-- What holds between two rounds of the search. -/
def Parted (L : List E) (x i j : Nat) : Prop := (∀ l (hl : l < L.length), l < i → L[l].key < x) ∧ (∀ l (hl : l < L.length), j ≤ l → x ≤ L[l].key)
theorem Parted.left {L : List E} {x i j h : Nat} (hr : Rising L) (H : Parted L x i j) (hl : h < L.length) (hx : L[h].key < x) : Parted L x (h + 1) j :=
  ⟨fun l hl' hlt => by
    rcases Nat.lt_or_eq_of_le (Nat.lt_succ_iff.1 hlt) with h1 | h1
    · exact Nat.lt_trans (hr.get h1 hl) hx
    · subst h1; exact hx, H.2⟩
theorem Parted.right {L : List E} {x i j h : Nat} (hr : Rising L) (H : Parted L x i j) (hl : h < L.length) (hx : ¬ L[h].key < x) : Parted L x i h :=
  ⟨H.1, fun l hl' hle => by
    rcases Nat.lt_or_eq_of_le hle with h1 | h1
    · have := hr.get h1 hl'; omega
    · subst h1; omega⟩
set_option maxHeartbeats 1000000 in
theorem sfind_any (w : World) (L : List E) (x xo xr : Nat) (c : Nat → Int) (hlen : L.length ≤ 1000) (hr : Rising L)
    (hc : ∀ W, Below w.heap.size w W → ∀ k : Nat, k < L.length → Calls Try.prog 71 #[.int .i64 (k : Int), .pointer (some ⟨xo, 0, none⟩), .pointer (some ⟨xr, 0, none⟩)] W fun en w' => en = .returned (.int .i64 (c k)) ∧ Below W.heap.size W w')
    (h1 : ∀ k (hk : k < L.length), 0 < c k ↔ L[k].key < x) (h0 : ∀ k (hk : k < L.length), c k = 0 ↔ L[k].key = x) :
    Calls Try.prog 70 #[.int .i64 (L.length : Int), .func (.func 71) #[] #[.pointer (some ⟨xo, 0, none⟩), .pointer (some ⟨xr, 0, none⟩)]] w fun en w' => en = .returned (.tuple #[.int .i64 ((pos x L : Nat) : Int), .bool (there x L)]) ∧ Below w.heap.size w w' := by
  obtain ⟨n, hn⟩ : ∃ n, n = L.length := ⟨_, rfl⟩
  have HC := Lib.hid hc
  have HR := Lib.hid (And.intro hr (And.intro h1 (And.intro h0 hn)))
  rw [← hn] at hlen ⊢
  clear hc hr h1 h0 hn
  go_enter Try.func70, Try.ntmps70
  go_wp2
  go_loopw [4, 6] (fun i j wr => ∃ i0 : Nat, i = .int .i64 i0 ∧ ∃ j0 : Nat, i0 ≤ j0 ∧ j0 ≤ n ∧ j = .int .i64 j0 ∧ Hid (Parted L x i0 j0 ∧ Below w.heap.size w wr)) (fun i j _ => (intOf j - intOf i).toNat)
  case atStart => exact ⟨0, rfl, n, by omega, by omega, rfl, ⟨fun l hl h => by omega, fun l hl h => by have := HR.out.2.2.2; omega⟩, Below.refl _ _⟩
  case round =>
    obtain ⟨i0, rfl, j0, hij, hjn, rfl, HP⟩ := hrel
    by_cases hlt : i0 < j0
    · obtain ⟨m, hm, hm1, hm2⟩ : ∃ m : Nat, m = (i0 + j0) / 2 ∧ i0 ≤ m ∧ m < j0 := ⟨(i0 + j0) / 2, rfl, by omega, by omega⟩
      have hml : m < L.length := by have := HR.out.2.2.2; omega
      have CC := Lib.hid (HC.out wr HP.out.2 m hml)
      have hk1 := HR.out.2.1 m hml
      have HL := Lib.hid (fun e => HP.out.1.left HR.out.1 hml e)
      have HG := Lib.hid (fun e => HP.out.1.right HR.out.1 hml e)
      have HK := Lib.hid hk1
      clear hk1
      obtain ⟨y, hy⟩ : ∃ y, y = c m := ⟨_, rfl⟩
      rw [← hy] at CC HK
      have e1 : IntKind.i64.wrap ((i0 : Int) + (j0 : Int)) = (i0 : Int) + j0 := by rw [IntKind.wrap_i64]; omega
      have e2 : IntKind.u64.wrap ((i0 : Int) + (j0 : Int)) = (i0 : Int) + j0 := by rw [IntKind.wrap_u64]; omega
      have e3 : ((i0 : Int) + (j0 : Int)) / 2 = (m : Int) := by omega
      have e4 : IntKind.i64.wrap (m : Int) = (m : Int) := by rw [IntKind.wrap_i64]; omega
      clear hy hm
      by_cases hpy : 0 < y
      · have HN := Lib.hid (HL.out (HK.out.1 hpy))
        clear HL HG HK
        go_wp2_with (go_at_call 71; refine CC.out.mono ?_; rintro en w3 ⟨rfl, B3⟩; have H3 := Lib.hid (HP.out.2.trans (B3.mono HP.out.2.size)); clear B3)
        go_roundw
        case rel => exact ⟨m + 1, by go_num, j0, by omega, by omega, rfl, HN.out, H3.out⟩
        case measure => simp [intOf]; omega
      · have HN := Lib.hid (HG.out (fun e => hpy (HK.out.2 e)))
        clear HL HG HK
        go_wp2_with (go_at_call 71; refine CC.out.mono ?_; rintro en w3 ⟨rfl, B3⟩; have H3 := Lib.hid (HP.out.2.trans (B3.mono HP.out.2.size)); clear B3)
        go_roundw
        case rel => exact ⟨i0, rfl, m, by omega, by omega, rfl, HN.out, H3.out⟩
        case measure => simp [intOf]; omega
    · obtain rfl : i0 = j0 := by omega
      have hp : i0 = pos x L := pos_of HR.out.1 (by have := HR.out.2.2.2; omega) HP.out.1.1 HP.out.1.2
      obtain ⟨th, hth⟩ : ∃ th, th = there x L := ⟨_, rfl⟩
      obtain ⟨p, hpp⟩ : ∃ p, p = pos x L := ⟨_, rfl⟩
      rw [← hpp] at hp
      subst hp
      by_cases hin : i0 < n
      · have hml : i0 < L.length := by have := HR.out.2.2.2; omega
        have CC := Lib.hid (HC.out wr HP.out.2 i0 hml)
        have hk0 := HR.out.2.2.1 i0 hml
        obtain ⟨y, hy⟩ : ∃ y, y = c i0 := ⟨_, rfl⟩
        rw [← hy] at CC hk0
        have HTH := Lib.hid (show th = (y == 0) by rw [hth]; unfold there; rw [← hpp, List.getElem?_eq_getElem hml]; simp only []; rw [Bool.eq_iff_iff]; simp [hk0])
        have HPP := Lib.hid (And.intro hpp hth)
        clear hth hpp hk0 hy
        go_wp2_with (go_at_call 71; refine CC.out.mono ?_; rintro en w3 ⟨rfl, B3⟩; have H3 := Lib.hid (HP.out.2.trans (B3.mono HP.out.2.size)); clear B3)
        exact bodyPost_ret (v := .tuple #[.int .i64 (i0 : Int), .bool (y == 0)]) (by simp [results, Try.results70, go_sem]) rfl ⟨by rw [← HPP.out.1, ← HPP.out.2, HTH.out], H3.out⟩
      · have HTH := Lib.hid (show th = false by rw [hth]; unfold there; rw [← hpp, List.getElem?_eq_none (by have := HR.out.2.2.2; omega)])
        have HPP := Lib.hid (And.intro hpp hth)
        clear hth hpp
        go_wp2
        exact bodyPost_ret (v := .tuple #[.int .i64 (i0 : Int), .bool false]) (by simp [results, Try.results70, go_sem]) rfl ⟨by rw [← HPP.out.1, ← HPP.out.2, HTH.out], HP.out.2⟩
end Go.Proofs.Ytkbhmdoichiinaa.Rts

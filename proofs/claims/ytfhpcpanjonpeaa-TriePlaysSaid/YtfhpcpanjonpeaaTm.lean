/- Tries of routes in memory. -/
import Derived.Test.YtfhpcpanjonpeaaTu
import Derived.Deep.DeepCutAuto
import Derived.Deep.RegionHeld3
namespace Go.Proofs.Ytfhpcpanjonpeaa.Tri
open Pre
open Go.ChangeShapes Go.WideShapes Go.ChangeAt Go.RowKit

def R.cl (r : R) : Array Value := #[.int .u32 (r.a : Int), .int .u8 (r.n : Int), .int .i64 r.via, .int .u16 r.mt, .int .u16 r.sq]
/-- A place's cells. -/
def cellsN (a n : Nat) (x : Option R) (vl vr : Value) : Array Value :=
  match x with
  | none => #[.int .u32 (a : Int), .int .u8 (n : Int), .bool false, .int .u32 0, .int .u8 0, .int .i64 0, .int .u16 0, .int .u16 0, vl, vr]
  | some r => #[.int .u32 (a : Int), .int .u8 (n : Int), .bool true, .int .u32 (r.a : Int), .int .u8 (r.n : Int), .int .i64 r.via, .int .u16 r.mt, .int .u16 r.sq, vl, vr]
/-- A trie in memory, and its blocks. -/
def At (w : World) : T → Value → List Nat → Prop
  | .nil, v, bs => v = .pointer none ∧ bs = []
  | .node a n x l r, v, bs => ∃ q vl vr bl br, v = .pointer (some ⟨q, 0, none⟩) ∧ bs = q :: (bl ++ br) ∧ w.heap[q]? = some (.cells (cellsN a n x vl vr) 64 (0, 0)) ∧ At w l vl bl ∧ At w r vr br
theorem At.lt {w : World} {t : T} {v : Value} {bs : List Nat} (h : At w t v bs) : ∀ b ∈ bs, b < w.heap.size := by
  induction t generalizing v bs with
  | nil => obtain ⟨_, rfl⟩ := h; intro b hb; cases hb
  | node a n x l r il ir =>
    obtain ⟨q, vl, vr, bl, br, _, rfl, hq, hl, hr⟩ := h
    intro b hb
    rcases List.mem_cons.1 hb with rfl | hb
    · exact (Array.getElem?_eq_some_iff.1 hq).1
    · rcases List.mem_append.1 hb with hb | hb
      · exact il hl b hb
      · exact ir hr b hb
theorem At.keep {w w' : World} {t : T} {v : Value} {bs : List Nat} (h : At w t v bs) (k : ∀ b ∈ bs, w'.heap[b]? = w.heap[b]?) : At w' t v bs := by
  induction t generalizing v bs with
  | nil => exact h
  | node a n x l r il ir =>
    obtain ⟨q, vl, vr, bl, br, hv, rfl, hq, hl, hr⟩ := h
    exact ⟨q, vl, vr, bl, br, hv, rfl, (k q (by simp)).trans hq, il hl fun b hb => k b (by simp [hb]), ir hr fun b hb => k b (by simp [hb])⟩
theorem At.below {w w' : World} {t : T} {v : Value} {bs : List Nat} (h : At w t v bs) (B : Below w.heap.size w w') : At w' t v bs := h.keep fun b hb => B.block b (h.lt b hb)
/-- All that stood is as it was, but some blocks. -/
structure Grew (w w' : World) (bs : List Nat) : Prop where
  os : w'.os = w.os
  tape : w'.tape = w.tape
  output : w'.output = w.output
  size : w.heap.size ≤ w'.heap.size
  block : ∀ k, k < w.heap.size → k ∉ bs → w'.heap[k]? = w.heap[k]?
theorem Grew.refl (w : World) (bs : List Nat) : Grew w w bs := ⟨rfl, rfl, rfl, Nat.le_refl _, fun _ _ _ => rfl⟩
theorem Grew.trans {w w1 w' : World} {bs bs' : List Nat} (h : Grew w w1 bs) (h' : Grew w1 w' bs') (k : ∀ b ∈ bs', b ∈ bs ∨ w.heap.size ≤ b) : Grew w w' bs :=
  ⟨h'.os.trans h.os, h'.tape.trans h.tape, h'.output.trans h.output, Nat.le_trans h.size h'.size, fun j hj hn => (h'.block j (Nat.lt_of_lt_of_le hj h.size) fun hb => by rcases k j hb with e | e; exact hn e; omega).trans (h.block j hj hn)⟩
theorem below_grew {w w' : World} (B : Below w.heap.size w w') (bs : List Nat) : Grew w w' bs := ⟨B.os, B.tape, B.output, B.size, fun k hk _ => B.block k hk⟩
theorem Grew.set {w w1 : World} {bs : List Nat} (h : Grew w w1 bs) (q i : Nat) (v : Value) (hq : q ∈ bs ∨ w.heap.size ≤ q) : Grew w (w1.setCell ⟨q, i, none⟩ v) bs := by
  have B := (Below.refl q w1).setCell (p := ⟨q, i, none⟩) (Nat.le_refl _) v
  exact ⟨B.os.trans h.os, B.tape.trans h.tape, B.output.trans h.output, by simpa using h.size, fun k hk hn => (Below.heap_setCell w1 ⟨q, i, none⟩ _ k (fun e => by subst e; rcases hq with e | e; exact hn e; have := show w.heap.size ≤ _ from e; omega)).trans (h.block k hk hn)⟩
theorem row2 {w : World} {b : Nat} {t : TypeId} {x0 x1 : Value} (h : w.heap[b]? = some (.cells #[x0, x1] t (0, 0))) : w.cell? ⟨b, 0, none⟩ = some x0 ∧ w.cell? ⟨b, 1, none⟩ = some x1 :=
  ⟨cell_of_row w b 0 _ t (0, 0) h, cell_of_row w b 1 _ t (0, 0) h⟩
theorem row5 {w : World} {b : Nat} {t : TypeId} {x0 x1 x2 x3 x4 : Value} (h : w.heap[b]? = some (.cells #[x0, x1, x2, x3, x4] t (0, 0))) :
    w.cell? ⟨b, 0, none⟩ = some x0 ∧ w.cell? ⟨b, 1, none⟩ = some x1 ∧ w.cell? ⟨b, 2, none⟩ = some x2 ∧ w.cell? ⟨b, 3, none⟩ = some x3 ∧ w.cell? ⟨b, 4, none⟩ = some x4 :=
  ⟨cell_of_row w b 0 _ t (0, 0) h, cell_of_row w b 1 _ t (0, 0) h, cell_of_row w b 2 _ t (0, 0) h, cell_of_row w b 3 _ t (0, 0) h, cell_of_row w b 4 _ t (0, 0) h⟩
/-- What is read of a place, whether it has a route or not. -/
theorem placeN {w : World} {q a n : Nat} {x : Option R} {vl vr : Value} (h : w.heap[q]? = some (.cells (cellsN a n x vl vr) 64 (0, 0))) :
    w.cell? ⟨q, 0, none⟩ = some (.int .u32 (a : Int)) ∧ w.cell? ⟨q, 1, none⟩ = some (.int .u8 (n : Int)) ∧ w.cell? ⟨q, 2, none⟩ = some (.bool x.isSome) ∧ w.cell? ⟨q, 8, none⟩ = some vl ∧ w.cell? ⟨q, 9, none⟩ = some vr := by
  cases x <;> exact ⟨cell_of_row w q 0 _ _ (0, 0) h, cell_of_row w q 1 _ _ (0, 0) h, cell_of_row w q 2 _ _ (0, 0) h, cell_of_row w q 8 _ _ (0, 0) h, cell_of_row w q 9 _ _ (0, 0) h⟩
theorem routeN {w : World} {q a n : Nat} {x : Option R} {vl vr : Value} (h : w.heap[q]? = some (.cells (cellsN a n x vl vr) 64 (0, 0))) :
    ∃ ra rn via mt sq, (w.cell? ⟨q, 3, none⟩ = some (.int .u32 ra) ∧ w.cell? ⟨q, 4, none⟩ = some (.int .u8 rn) ∧ w.cell? ⟨q, 5, none⟩ = some (.int .i64 via) ∧ w.cell? ⟨q, 6, none⟩ = some (.int .u16 mt) ∧ w.cell? ⟨q, 7, none⟩ = some (.int .u16 sq)) ∧
      (∀ r, x = some r → ra = r.a ∧ rn = r.n ∧ via = r.via ∧ mt = r.mt ∧ sq = r.sq) := by
  cases x with
  | none => exact ⟨_, _, _, _, _, ⟨cell_of_row w q 3 _ _ (0, 0) h, cell_of_row w q 4 _ _ (0, 0) h, cell_of_row w q 5 _ _ (0, 0) h, cell_of_row w q 6 _ _ (0, 0) h, cell_of_row w q 7 _ _ (0, 0) h⟩, fun r e => by cases e⟩
  | some y => exact ⟨_, _, _, _, _, ⟨cell_of_row w q 3 _ _ (0, 0) h, cell_of_row w q 4 _ _ (0, 0) h, cell_of_row w q 5 _ _ (0, 0) h, cell_of_row w q 6 _ _ (0, 0) h, cell_of_row w q 7 _ _ (0, 0) h⟩, fun r e => by injection e with e; subst e; exact ⟨rfl, rfl, rfl, rfl, rfl⟩⟩
theorem frozenN {w : World} {q a n : Nat} {x : Option R} {vl vr : Value} (h : w.heap[q]? = some (.cells (cellsN a n x vl vr) 64 (0, 0))) (i : Nat) : w.frozen? ⟨q, i, none⟩ = false := frozen_of_row w q i _ 64 h
/-- One of a place's ways is another one. -/
theorem wayN {w : World} {q a n : Nat} {x : Option R} {vl vr : Value} (h : w.heap[q]? = some (.cells (cellsN a n x vl vr) 64 (0, 0))) (v : Value) :
    (w.setCell ⟨q, 8, none⟩ v).heap[q]? = some (.cells (cellsN a n x v vr) 64 (0, 0)) ∧ (w.setCell ⟨q, 9, none⟩ v).heap[q]? = some (.cells (cellsN a n x vl v) 64 (0, 0)) := by
  cases x <;> exact ⟨heap_setCell_same w q 8 _ 64 v h, heap_setCell_same w q 9 _ 64 v h⟩
theorem side_any (a n b q : Nat) (x : Option R) (vl vr : Value) (hb : b < 4294967296) (hn : n ≤ 32) (w : World) (h : w.heap[q]? = some (.cells (cellsN a n x vl vr) 64 (0, 0))) :
    Calls Try.prog 25 #[.pointer (some ⟨q, 0, none⟩), .int .u32 (b : Int)] w fun e w' => e = .returned (.int .i64 (if sd b n then 1 else 0)) ∧ w = w' := by
  have c34 := fun W => bit_any b n hb (by omega) W
  obtain ⟨p0, p1, p2, p8, p9⟩ := placeN h
  rw [show (decide (n < 32) && bit b n) = sd b n from rfl] at c34
  cases hs : sd b n <;> rw [hs] at c34 <;>
  · go_enter Try.func25, Try.ntmps25
    go_wp2_with (first
      | (go_at_call 34; (with_reducible refine (c34 _).mono ?_); rintro e w1 ⟨rfl, rfl⟩))
    go_ret
    exact ⟨rfl, rfl⟩
theorem heap_new1 (w : World) (x c : Obj) : ((w.alloc x).alloc c).heap[w.heap.size + 1]? = some c := by
  have h := heap_alloc_new (w.alloc x) c
  have e : (w.alloc x).heap.size = w.heap.size + 1 := by simp
  rw [e] at h; exact h
theorem newPlace_any (r : R) (w : World) : Calls Try.prog 30 #[.agg r.cl] w fun e w' => ∃ q, e = .returned (.pointer (some ⟨q, 0, none⟩)) ∧ w.heap.size ≤ q ∧ w'.heap[q]? = some (.cells (cellsN r.a r.n (some r) (.pointer none) (.pointer none)) 64 (0, 0)) ∧ Below w.heap.size w w' := by
  obtain ⟨a, n, via, mt, sq⟩ := r
  unfold R.cl cellsN
  have R0 := heap_alloc_new w (.cells #[.int .u32 (a : Int), .int .u8 (n : Int), .int .i64 via, .int .u16 mt, .int .u16 sq] 39)
  have B0 : Below w.heap.size w (w.alloc (.cells #[.int .u32 (a : Int), .int .u8 (n : Int), .int .i64 via, .int .u16 mt, .int .u16 sq] 39)) := (Below.refl _ _).alloc (Nat.le_refl _) _
  obtain ⟨p0, p1, p2, p3, p4⟩ := row5 R0
  go_enter Try.func30, Try.ntmps30
  go_wp2
  go_ret
  exact ⟨_, rfl, by simp, heap_new1 _ _ _, B0.alloc B0.size _⟩

set_option maxRecDepth 8000 in
set_option maxHeartbeats 4000000 in
theorem ahead_at (a n b m q : Nat) (x : Option R) (vl vr : Value) (ha : a < 4294967296) (hb : b < 4294967296) (hn : n ≤ 32) (hm : m ≤ 32) (w : World) (h : w.heap[q]? = some (.cells (cellsN a n x vl vr) 64 (0, 0))) :
    Calls Try.prog 32 #[.pointer (some ⟨q, 0, none⟩), .agg #[.int .u32 (b : Int), .int .u8 (m : Int)]] w fun e w' => ∃ f, e = .returned (.pointer (some ⟨f, 0, none⟩)) ∧ w.heap.size ≤ f ∧ Below w.heap.size w w' ∧
      w'.heap[f]? = some (.cells (cellsN (top b (comm a n b m)) (comm a n b m) none (if sd a (comm a n b m) then .pointer none else .pointer (some ⟨q, 0, none⟩)) (if sd a (comm a n b m) then .pointer (some ⟨q, 0, none⟩) else .pointer none)) 64 (0, 0)) := by
  have c36 := fun W => common_any a n b m ha hn hb hm W
  have hk : comm a n b m ≤ 32 := Nat.le_trans (comm_left a n b m) hn
  generalize comm a n b m = k at *
  obtain ⟨vL, hL⟩ : ∃ v : Value, v = if sd a k then .pointer none else .pointer (some ⟨q, 0, none⟩) := ⟨_, rfl⟩
  obtain ⟨vR, hR⟩ : ∃ v : Value, v = if sd a k then .pointer (some ⟨q, 0, none⟩) else .pointer none := ⟨_, rfl⟩
  rw [← hL, ← hR]
  have HLR := Lib.hid (And.intro hL hR)
  clear hL hR
  have c35 := fun W => of_any b k hb (by omega) W
  rw [show len k = k by unfold len; omega] at c35
  generalize top b k = t at *
  have c25 := fun f W h => side_any t k a f none (.pointer none) (.pointer none) ha hk W h
  have HQ0 := Lib.hid h
  have B0 := (Below.refl w.heap.size w).alloc (Nat.le_refl _) (.cells #[.int .u32 (b : Int), .int .u8 (m : Int)] 32)
  have R0 := heap_alloc_new w (.cells #[.int .u32 (b : Int), .int .u8 (m : Int)] 32)
  have HB := Lib.hid R0
  have HQ := Lib.hid ((B0.block _ (Array.getElem?_eq_some_iff.1 h).1).trans h)
  have HLT := Lib.hid (Nat.lt_of_lt_of_le (Array.getElem?_eq_some_iff.1 h).1 B0.size)
  have HB0 := Lib.hid B0
  clear h B0 R0
  go_enter Try.func32, Try.ntmps32
  go_upto_region 1 with (fail)
  generalize w.alloc _ = wv at *
  refine wp_region_noPanic ?_
  refine wp_region_held_drew (S := fun W : World => Below wv.heap.size wv W) (by kernel_rfl) ((Below.refl _ _).drew) (fun hHeld => ?_)
  generalize wv.drew = wd at *
  refine wpAnyH_take (i := 0) (oi := { dst := some 6, op := Op.fieldAddr 32 (Operand.tmp 3) 0, type := 0, pos := "place.go:43", after := #[], guard := none }) (v := .pointer (some ⟨w.heap.size, 0, none⟩)) rfl (by kernel_rfl) (by kernel_rfl) (by kernel_rfl) (fun _ _ _ h => h) (Or.inl ⟨by rfl, fun w hSw => by go_simp⟩) (by assumption) ?_
  try simp only [Act.put, List.setIfInBounds_toArray, List.set_cons_zero, List.set_cons_succ]
  refine wpAnyH_take (i := 1) (oi := { dst := some 7, op := Op.load 30 (Operand.tmp 6), type := 30, pos := "place.go:43", after := #[{ on := 0, ground := Ground.data }], guard := none }) (v := .int .u32 (b : Int)) rfl (by kernel_rfl) (by kernel_rfl) (by kernel_rfl) (fun _ _ _ h => h) (Or.inl ⟨by rfl, fun w hSw => by obtain ⟨y0, y1⟩ := row2 ((hSw.block _ (Array.getElem?_eq_some_iff.1 HB.out).1).trans HB.out); go_simp⟩) (by assumption) ?_
  try simp only [Act.put, List.setIfInBounds_toArray, List.set_cons_zero, List.set_cons_succ]
  refine wpAnyH_take (i := 2) (oi := { dst := some 8, op := Op.move (Operand.tmp 0), type := 26, pos := "place.go:43", after := #[], guard := none }) (v := .pointer (some ⟨q, 0, none⟩)) rfl (by kernel_rfl) (by kernel_rfl) (by kernel_rfl) (fun _ _ _ h => h) (Or.inl ⟨by rfl, fun w hSw => by go_simp⟩) (by assumption) ?_
  try simp only [Act.put, List.setIfInBounds_toArray, List.set_cons_zero, List.set_cons_succ]
  refine wpAnyH_take (i := 3) (oi := { dst := some 9, op := Op.nilCheck (Operand.tmp 8), type := 0, pos := "place.go:43", after := #[{ on := 2, ground := Ground.data }], guard := none }) (v := .pointer (some ⟨q, 0, none⟩)) rfl (by kernel_rfl) (by kernel_rfl) (by kernel_rfl) (fun _ _ _ h => h) (Or.inl ⟨by rfl, fun w hSw => by go_simp⟩) (by assumption) ?_
  try simp only [Act.put, List.setIfInBounds_toArray, List.set_cons_zero, List.set_cons_succ]
  refine wpAnyH_take (i := 4) (oi := { dst := some 10, op := Op.fieldAddr 64 (Operand.tmp 9) 0, type := 0, pos := "place.go:43", after := #[{ on := 3, ground := Ground.data }], guard := none }) (v := .pointer (some ⟨q, 0, none⟩)) rfl (by kernel_rfl) (by kernel_rfl) (by kernel_rfl) (fun _ _ _ h => h) (Or.inl ⟨by rfl, fun w hSw => by go_simp⟩) (by assumption) ?_
  try simp only [Act.put, List.setIfInBounds_toArray, List.set_cons_zero, List.set_cons_succ]
  refine wpAnyH_take (i := 5) (oi := { dst := some 11, op := Op.load 32 (Operand.tmp 10), type := 32, pos := "place.go:43", after := #[{ on := 4, ground := Ground.data }], guard := none }) (v := .agg #[.int .u32 (a : Int), .int .u8 (n : Int)]) rfl (by kernel_rfl) (by kernel_rfl) (by kernel_rfl) (fun _ _ _ h => h) (Or.inl ⟨by rfl, fun w hSw => by obtain ⟨y0, y1, y2, y8, y9⟩ := placeN ((hSw.block _ (Array.getElem?_eq_some_iff.1 HQ.out).1).trans HQ.out); go_simp⟩) (by assumption) ?_
  try simp only [Act.put, List.setIfInBounds_toArray, List.set_cons_zero, List.set_cons_succ]
  refine wpAnyH_take (i := 6) (oi := { dst := some 12, op := Op.load 32 (Operand.tmp 3), type := 32, pos := "place.go:43", after := #[], guard := none }) (v := .agg #[.int .u32 (b : Int), .int .u8 (m : Int)]) rfl (by kernel_rfl) (by kernel_rfl) (by kernel_rfl) (fun _ _ _ h => h) (Or.inl ⟨by rfl, fun w hSw => by obtain ⟨y0, y1⟩ := row2 ((hSw.block _ (Array.getElem?_eq_some_iff.1 HB.out).1).trans HB.out); go_simp⟩) (by assumption) ?_
  try simp only [Act.put, List.setIfInBounds_toArray, List.set_cons_zero, List.set_cons_succ]
  refine wpAnyH_ready (rs := [7]) (by kernel_rfl) (by simp) ?_
  refine AllReadyH.cons (o := { dst := some 13, op := Op.call { callee := Callee.value (Operand.func 36), args := #[Operand.tmp 11, Operand.tmp 12], argTypes := #[32, 32] }, type := 5, pos := "place.go:43", after := #[{ on := 5, ground := Ground.data }, { on := 6, ground := Ground.data }], guard := none }) rfl (fun K hK => ?_) AllReadyH.nil
  go_simp
  with_reducible refine (c36 _).mono ?_
  rintro e w3 ⟨rfl, B3⟩
  refine hK.out _ _ (hHeld.trans (B3.mono hHeld.size)) (fun hHeld => ?_)
  clear hK K
  try simp only [Act.put, List.setIfInBounds_toArray, List.set_cons_zero, List.set_cons_succ]
  refine wpAnyH_ready (rs := [8]) (by kernel_rfl) (by simp) ?_
  refine AllReadyH.cons (o := { dst := some 14, op := Op.call { callee := Callee.value (Operand.func 35), args := #[Operand.tmp 7, Operand.tmp 13], argTypes := #[30, 5] }, type := 32, pos := "place.go:43", after := #[{ on := 1, ground := Ground.data }, { on := 7, ground := Ground.data }, { on := 7, ground := Ground.chain }], guard := none }) rfl (fun K hK => ?_) AllReadyH.nil
  go_simp
  with_reducible refine (c35 _).mono ?_
  rintro e w4 ⟨rfl, B4⟩
  refine hK.out _ _ (hHeld.trans (B4.mono hHeld.size)) (fun hHeld => ?_)
  clear hK K
  try simp only [Act.put, List.setIfInBounds_toArray, List.set_cons_zero, List.set_cons_succ]
  refine wpAnyH_take (i := 9) (oi := { dst := some 15, op := Op.build 64 #[(0, Operand.tmp 14)], type := 64, pos := "place.go:43", after := #[{ on := 8, ground := Ground.data }], guard := none }) (v := .agg #[.int .u32 (t : Int), .int .u8 (k : Int), .bool false, .int .u32 0, .int .u8 0, .int .i64 0, .int .u16 0, .int .u16 0, .pointer none, .pointer none]) rfl (by kernel_rfl) (by kernel_rfl) (by kernel_rfl) (fun _ _ _ h => h) (Or.inl ⟨by rfl, fun w hSw => by go_simp⟩) (by assumption) ?_
  try simp only [Act.put, List.setIfInBounds_toArray, List.set_cons_zero, List.set_cons_succ]
  refine wpAnyH_ready (rs := [10]) (by kernel_rfl) (by simp) ?_
  refine AllReadyH.cons (o := { dst := some 16, op := Op.box 64 (Operand.tmp 15), type := 26, pos := "place.go:43", after := #[{ on := 9, ground := Ground.data }], guard := none }) rfl (fun K hK => ?_) AllReadyH.nil
  have hfs := hHeld.size
  go_simp
  have HF0 := heap_alloc_new w4 (.cells #[.int .u32 (t : Int), .int .u8 (k : Int), .bool false, .int .u32 0, .int .u8 0, .int .i64 0, .int .u16 0, .int .u16 0, .pointer none, .pointer none] 64)
  refine hK.out _ _ (hHeld.trans (((Below.refl _ _).alloc (Nat.le_refl _) _).mono hHeld.size)) (fun hHeld => ?_)
  clear hK K
  try simp only [Act.put, List.setIfInBounds_toArray, List.set_cons_zero, List.set_cons_succ]
  refine wpAnyH_take (i := 11) (oi := { dst := some 5, op := Op.assign (Operand.tmp 16), type := 26, pos := "place.go:43", after := #[{ on := 10, ground := Ground.data }, { on := 8, ground := Ground.chain }, { on := 0, ground := Ground.phase }, { on := 1, ground := Ground.phase }, { on := 2, ground := Ground.phase }, { on := 3, ground := Ground.phase }, { on := 4, ground := Ground.phase }, { on := 5, ground := Ground.phase }, { on := 6, ground := Ground.phase }, { on := 7, ground := Ground.phase }, { on := 8, ground := Ground.phase }, { on := 9, ground := Ground.phase }, { on := 10, ground := Ground.phase }], guard := none }) (v := .pointer (some ⟨w4.heap.size, 0, none⟩)) rfl (by kernel_rfl) (by kernel_rfl) (by kernel_rfl) (fun _ _ _ h => h) (Or.inl ⟨by rfl, fun w hSw => by go_simp⟩) (by assumption) ?_
  try simp only [Act.put, List.setIfInBounds_toArray, List.set_cons_zero, List.set_cons_succ]
  refine wpAnyH_done (by kernel_rfl) ?_ _
  try unfold NoPanic
  have HL := hHeld
  clear hHeld
  generalize w4.heap.size = f at *
  go_upto_region 2 with (fail)
  generalize World.alloc w4 _ = w5 at *
  have HF : w5.heap[f]? = some (.cells (cellsN t k none (.pointer none) (.pointer none)) 64 (0, 0)) := HF0
  clear HF0
  have HQ5 := (HL.block _ (Array.getElem?_eq_some_iff.1 HQ.out).1).trans HQ.out
  have HL5 := HL.trans ((Below.refl w5.heap.size w5).drew.mono HL.size)
  replace HF := ((Below.refl w5.heap.size w5).drew.block f (Array.getElem?_eq_some_iff.1 HF).1).trans HF
  have HQ6 := ((Below.refl w5.heap.size w5).drew.block q (Array.getElem?_eq_some_iff.1 HQ5).1).trans HQ5
  have BS := HB0.out.trans (HL5.mono HB0.out.size)
  clear HL HL5 HQ5
  have hqf : q ≠ f := by have h1 := HLT.out; omega
  cases hs : sd a k <;> rw [hs] at c25 <;> simp only [Bool.false_eq_true, if_false, if_true] at c25
  · refine wp_region_noPanic ?_
    refine wp_region_held_drew (S := fun W : World => W.heap[q]? = some (.cells (cellsN a n x vl vr) 64 (0, 0))) (by kernel_rfl) HQ6 (fun hHeld => ?_)
    generalize w5.drew = wd at *
    refine wpAnyH_take (i := 0) (oi := { dst := some 17, op := Op.move (Operand.tmp 5), type := 26, pos := "place.go:44", after := #[], guard := none }) (v := .pointer (some ⟨f, 0, none⟩)) rfl (by kernel_rfl) (by kernel_rfl) (by kernel_rfl) (fun _ _ _ h => h) (Or.inl ⟨by rfl, fun w hSw => by go_simp⟩) (by assumption) ?_
    try simp only [Act.put, List.setIfInBounds_toArray, List.set_cons_zero, List.set_cons_succ]
    refine wpAnyH_take (i := 1) (oi := { dst := some 18, op := Op.move (Operand.tmp 5), type := 26, pos := "place.go:44", after := #[], guard := none }) (v := .pointer (some ⟨f, 0, none⟩)) rfl (by kernel_rfl) (by kernel_rfl) (by kernel_rfl) (fun _ _ _ h => h) (Or.inl ⟨by rfl, fun w hSw => by go_simp⟩) (by assumption) ?_
    try simp only [Act.put, List.setIfInBounds_toArray, List.set_cons_zero, List.set_cons_succ]
    refine wpAnyH_take (i := 2) (oi := { dst := some 19, op := Op.move (Operand.tmp 0), type := 26, pos := "place.go:44", after := #[], guard := none }) (v := .pointer (some ⟨q, 0, none⟩)) rfl (by kernel_rfl) (by kernel_rfl) (by kernel_rfl) (fun _ _ _ h => h) (Or.inl ⟨by rfl, fun w hSw => by go_simp⟩) (by assumption) ?_
    try simp only [Act.put, List.setIfInBounds_toArray, List.set_cons_zero, List.set_cons_succ]
    refine wpAnyH_take (i := 3) (oi := { dst := some 20, op := Op.nilCheck (Operand.tmp 19), type := 0, pos := "place.go:44", after := #[{ on := 2, ground := Ground.data }], guard := none }) (v := .pointer (some ⟨q, 0, none⟩)) rfl (by kernel_rfl) (by kernel_rfl) (by kernel_rfl) (fun _ _ _ h => h) (Or.inl ⟨by rfl, fun w hSw => by go_simp⟩) (by assumption) ?_
    try simp only [Act.put, List.setIfInBounds_toArray, List.set_cons_zero, List.set_cons_succ]
    refine wpAnyH_take (i := 4) (oi := { dst := some 21, op := Op.fieldAddr 64 (Operand.tmp 20) 0, type := 0, pos := "place.go:44", after := #[{ on := 3, ground := Ground.data }], guard := none }) (v := .pointer (some ⟨q, 0, none⟩)) rfl (by kernel_rfl) (by kernel_rfl) (by kernel_rfl) (fun _ _ _ h => h) (Or.inl ⟨by rfl, fun w hSw => by go_simp⟩) (by assumption) ?_
    try simp only [Act.put, List.setIfInBounds_toArray, List.set_cons_zero, List.set_cons_succ]
    refine wpAnyH_take (i := 5) (oi := { dst := some 22, op := Op.fieldAddr 32 (Operand.tmp 21) 0, type := 0, pos := "place.go:44", after := #[{ on := 4, ground := Ground.data }], guard := none }) (v := .pointer (some ⟨q, 0, none⟩)) rfl (by kernel_rfl) (by kernel_rfl) (by kernel_rfl) (fun _ _ _ h => h) (Or.inl ⟨by rfl, fun w hSw => by go_simp⟩) (by assumption) ?_
    try simp only [Act.put, List.setIfInBounds_toArray, List.set_cons_zero, List.set_cons_succ]
    refine wpAnyH_take (i := 6) (oi := { dst := some 23, op := Op.load 30 (Operand.tmp 22), type := 30, pos := "place.go:44", after := #[{ on := 5, ground := Ground.data }], guard := none }) (v := .int .u32 (a : Int)) rfl (by kernel_rfl) (by kernel_rfl) (by kernel_rfl) (fun _ _ _ h => h) (Or.inl ⟨by rfl, fun w hSw => by obtain ⟨y0, y1, y2, y8, y9⟩ := placeN hSw; go_simp⟩) (by assumption) ?_
    try simp only [Act.put, List.setIfInBounds_toArray, List.set_cons_zero, List.set_cons_succ]
    refine wpAnyH_take (i := 8) (oi := { dst := some 25, op := Op.move (Operand.tmp 0), type := 26, pos := "place.go:44", after := #[], guard := none }) (v := .pointer (some ⟨q, 0, none⟩)) rfl (by kernel_rfl) (by kernel_rfl) (by kernel_rfl) (fun _ _ _ h => h) (Or.inl ⟨by rfl, fun w hSw => by go_simp⟩) (by assumption) ?_
    try simp only [Act.put, List.setIfInBounds_toArray, List.set_cons_zero, List.set_cons_succ]
    refine wpAnyH_take (i := 9) (oi := { dst := some 26, op := Op.nilCheck (Operand.tmp 17), type := 0, pos := "place.go:44", after := #[{ on := 0, ground := Ground.data }], guard := none }) (v := .pointer (some ⟨f, 0, none⟩)) rfl (by kernel_rfl) (by kernel_rfl) (by kernel_rfl) (fun _ _ _ h => h) (Or.inl ⟨by rfl, fun w hSw => by go_simp⟩) (by assumption) ?_
    try simp only [Act.put, List.setIfInBounds_toArray, List.set_cons_zero, List.set_cons_succ]
    refine wpAnyH_take (i := 10) (oi := { dst := some 27, op := Op.fieldAddr 64 (Operand.tmp 26) 3, type := 0, pos := "place.go:44", after := #[{ on := 9, ground := Ground.data }], guard := none }) (v := .pointer (some ⟨f, 8, none⟩)) rfl (by kernel_rfl) (by kernel_rfl) (by kernel_rfl) (fun _ _ _ h => h) (Or.inl ⟨by rfl, fun w hSw => by go_simp⟩) (by assumption) ?_
    try simp only [Act.put, List.setIfInBounds_toArray, List.set_cons_zero, List.set_cons_succ]
    refine wpAnyH_ready (rs := [7]) (by kernel_rfl) (by simp) ?_
    refine AllReadyH.cons (o := { dst := some 24, op := Op.call { callee := Callee.value (Operand.func 25), args := #[Operand.tmp 18, Operand.tmp 23], argTypes := #[26, 30] }, type := 3, pos := "place.go:44", after := #[{ on := 1, ground := Ground.data }, { on := 6, ground := Ground.data }], guard := none }) rfl (fun K hK => ?_) AllReadyH.nil
    go_simp
    with_reducible refine (c25 f _ HF).mono ?_
    rintro e w6 ⟨rfl, hw⟩
    rw [← hw]
    clear hw w6
    refine hK.out _ _ (hHeld) (fun hHeld => ?_)
    clear hK K
    try simp only [Act.put, List.setIfInBounds_toArray, List.set_cons_zero, List.set_cons_succ]
    refine wpAnyH_take (i := 11) (oi := { dst := some 28, op := Op.indexAddr 62 (Operand.tmp 27) (Operand.tmp 24), type := 0, pos := "place.go:44", after := #[{ on := 10, ground := Ground.data }, { on := 7, ground := Ground.data }, { on := 0, ground := Ground.phase }, { on := 1, ground := Ground.phase }, { on := 2, ground := Ground.phase }, { on := 3, ground := Ground.phase }, { on := 4, ground := Ground.phase }, { on := 5, ground := Ground.phase }, { on := 6, ground := Ground.phase }, { on := 7, ground := Ground.phase }, { on := 8, ground := Ground.phase }], guard := none }) (v := .pointer (some ⟨f, 8, none⟩)) rfl (by kernel_rfl) (by kernel_rfl) (by kernel_rfl) (fun _ _ _ h => h) (Or.inl ⟨by rfl, fun w hSw => by go_simp⟩) (by assumption) ?_
    try simp only [Act.put, List.setIfInBounds_toArray, List.set_cons_zero, List.set_cons_succ]
    refine wpAnyH_ready (rs := [12]) (by kernel_rfl) (by simp) ?_
    refine AllReadyH.cons (o := { dst := none, op := Op.store 26 (Operand.tmp 28) (Operand.tmp 25), type := 0, pos := "place.go:44", after := #[{ on := 11, ground := Ground.data }, { on := 8, ground := Ground.data }, { on := 7, ground := Ground.chain }, { on := 0, ground := Ground.phase }, { on := 1, ground := Ground.phase }, { on := 2, ground := Ground.phase }, { on := 3, ground := Ground.phase }, { on := 4, ground := Ground.phase }, { on := 5, ground := Ground.phase }, { on := 6, ground := Ground.phase }, { on := 7, ground := Ground.phase }, { on := 8, ground := Ground.phase }], guard := none }) rfl (fun K hK => ?_) AllReadyH.nil
    obtain ⟨z0, z1, z2, z8, z9⟩ := placeN HF
    have zf := fun i => frozenN HF i
    go_simp
    refine hK.out _ _ ((Below.heap_setCell wd ⟨f, _, none⟩ _ q hqf).trans hHeld) (fun hHeld => ?_)
    clear hK K
    try simp only [Act.put, List.setIfInBounds_toArray, List.set_cons_zero, List.set_cons_succ]
    refine wpAnyH_done (by kernel_rfl) ?_ _
    try unfold NoPanic
    go_wp2
    go_ret
    exact ⟨f, rfl, by have := HB0.out.size; omega, BS.setCell (p := ⟨f, 8, none⟩) (by have := HB0.out.size; show w.heap.size ≤ f; omega) _, by rw [HLR.out.1, HLR.out.2, hs]; exact (wayN HF _).1⟩
  · refine wp_region_noPanic ?_
    refine wp_region_held_drew (S := fun W : World => W.heap[q]? = some (.cells (cellsN a n x vl vr) 64 (0, 0))) (by kernel_rfl) HQ6 (fun hHeld => ?_)
    generalize w5.drew = wd at *
    refine wpAnyH_take (i := 0) (oi := { dst := some 17, op := Op.move (Operand.tmp 5), type := 26, pos := "place.go:44", after := #[], guard := none }) (v := .pointer (some ⟨f, 0, none⟩)) rfl (by kernel_rfl) (by kernel_rfl) (by kernel_rfl) (fun _ _ _ h => h) (Or.inl ⟨by rfl, fun w hSw => by go_simp⟩) (by assumption) ?_
    try simp only [Act.put, List.setIfInBounds_toArray, List.set_cons_zero, List.set_cons_succ]
    refine wpAnyH_take (i := 1) (oi := { dst := some 18, op := Op.move (Operand.tmp 5), type := 26, pos := "place.go:44", after := #[], guard := none }) (v := .pointer (some ⟨f, 0, none⟩)) rfl (by kernel_rfl) (by kernel_rfl) (by kernel_rfl) (fun _ _ _ h => h) (Or.inl ⟨by rfl, fun w hSw => by go_simp⟩) (by assumption) ?_
    try simp only [Act.put, List.setIfInBounds_toArray, List.set_cons_zero, List.set_cons_succ]
    refine wpAnyH_take (i := 2) (oi := { dst := some 19, op := Op.move (Operand.tmp 0), type := 26, pos := "place.go:44", after := #[], guard := none }) (v := .pointer (some ⟨q, 0, none⟩)) rfl (by kernel_rfl) (by kernel_rfl) (by kernel_rfl) (fun _ _ _ h => h) (Or.inl ⟨by rfl, fun w hSw => by go_simp⟩) (by assumption) ?_
    try simp only [Act.put, List.setIfInBounds_toArray, List.set_cons_zero, List.set_cons_succ]
    refine wpAnyH_take (i := 3) (oi := { dst := some 20, op := Op.nilCheck (Operand.tmp 19), type := 0, pos := "place.go:44", after := #[{ on := 2, ground := Ground.data }], guard := none }) (v := .pointer (some ⟨q, 0, none⟩)) rfl (by kernel_rfl) (by kernel_rfl) (by kernel_rfl) (fun _ _ _ h => h) (Or.inl ⟨by rfl, fun w hSw => by go_simp⟩) (by assumption) ?_
    try simp only [Act.put, List.setIfInBounds_toArray, List.set_cons_zero, List.set_cons_succ]
    refine wpAnyH_take (i := 4) (oi := { dst := some 21, op := Op.fieldAddr 64 (Operand.tmp 20) 0, type := 0, pos := "place.go:44", after := #[{ on := 3, ground := Ground.data }], guard := none }) (v := .pointer (some ⟨q, 0, none⟩)) rfl (by kernel_rfl) (by kernel_rfl) (by kernel_rfl) (fun _ _ _ h => h) (Or.inl ⟨by rfl, fun w hSw => by go_simp⟩) (by assumption) ?_
    try simp only [Act.put, List.setIfInBounds_toArray, List.set_cons_zero, List.set_cons_succ]
    refine wpAnyH_take (i := 5) (oi := { dst := some 22, op := Op.fieldAddr 32 (Operand.tmp 21) 0, type := 0, pos := "place.go:44", after := #[{ on := 4, ground := Ground.data }], guard := none }) (v := .pointer (some ⟨q, 0, none⟩)) rfl (by kernel_rfl) (by kernel_rfl) (by kernel_rfl) (fun _ _ _ h => h) (Or.inl ⟨by rfl, fun w hSw => by go_simp⟩) (by assumption) ?_
    try simp only [Act.put, List.setIfInBounds_toArray, List.set_cons_zero, List.set_cons_succ]
    refine wpAnyH_take (i := 6) (oi := { dst := some 23, op := Op.load 30 (Operand.tmp 22), type := 30, pos := "place.go:44", after := #[{ on := 5, ground := Ground.data }], guard := none }) (v := .int .u32 (a : Int)) rfl (by kernel_rfl) (by kernel_rfl) (by kernel_rfl) (fun _ _ _ h => h) (Or.inl ⟨by rfl, fun w hSw => by obtain ⟨y0, y1, y2, y8, y9⟩ := placeN hSw; go_simp⟩) (by assumption) ?_
    try simp only [Act.put, List.setIfInBounds_toArray, List.set_cons_zero, List.set_cons_succ]
    refine wpAnyH_take (i := 8) (oi := { dst := some 25, op := Op.move (Operand.tmp 0), type := 26, pos := "place.go:44", after := #[], guard := none }) (v := .pointer (some ⟨q, 0, none⟩)) rfl (by kernel_rfl) (by kernel_rfl) (by kernel_rfl) (fun _ _ _ h => h) (Or.inl ⟨by rfl, fun w hSw => by go_simp⟩) (by assumption) ?_
    try simp only [Act.put, List.setIfInBounds_toArray, List.set_cons_zero, List.set_cons_succ]
    refine wpAnyH_take (i := 9) (oi := { dst := some 26, op := Op.nilCheck (Operand.tmp 17), type := 0, pos := "place.go:44", after := #[{ on := 0, ground := Ground.data }], guard := none }) (v := .pointer (some ⟨f, 0, none⟩)) rfl (by kernel_rfl) (by kernel_rfl) (by kernel_rfl) (fun _ _ _ h => h) (Or.inl ⟨by rfl, fun w hSw => by go_simp⟩) (by assumption) ?_
    try simp only [Act.put, List.setIfInBounds_toArray, List.set_cons_zero, List.set_cons_succ]
    refine wpAnyH_take (i := 10) (oi := { dst := some 27, op := Op.fieldAddr 64 (Operand.tmp 26) 3, type := 0, pos := "place.go:44", after := #[{ on := 9, ground := Ground.data }], guard := none }) (v := .pointer (some ⟨f, 8, none⟩)) rfl (by kernel_rfl) (by kernel_rfl) (by kernel_rfl) (fun _ _ _ h => h) (Or.inl ⟨by rfl, fun w hSw => by go_simp⟩) (by assumption) ?_
    try simp only [Act.put, List.setIfInBounds_toArray, List.set_cons_zero, List.set_cons_succ]
    refine wpAnyH_ready (rs := [7]) (by kernel_rfl) (by simp) ?_
    refine AllReadyH.cons (o := { dst := some 24, op := Op.call { callee := Callee.value (Operand.func 25), args := #[Operand.tmp 18, Operand.tmp 23], argTypes := #[26, 30] }, type := 3, pos := "place.go:44", after := #[{ on := 1, ground := Ground.data }, { on := 6, ground := Ground.data }], guard := none }) rfl (fun K hK => ?_) AllReadyH.nil
    go_simp
    with_reducible refine (c25 f _ HF).mono ?_
    rintro e w6 ⟨rfl, hw⟩
    rw [← hw]
    clear hw w6
    refine hK.out _ _ (hHeld) (fun hHeld => ?_)
    clear hK K
    try simp only [Act.put, List.setIfInBounds_toArray, List.set_cons_zero, List.set_cons_succ]
    refine wpAnyH_take (i := 11) (oi := { dst := some 28, op := Op.indexAddr 62 (Operand.tmp 27) (Operand.tmp 24), type := 0, pos := "place.go:44", after := #[{ on := 10, ground := Ground.data }, { on := 7, ground := Ground.data }, { on := 0, ground := Ground.phase }, { on := 1, ground := Ground.phase }, { on := 2, ground := Ground.phase }, { on := 3, ground := Ground.phase }, { on := 4, ground := Ground.phase }, { on := 5, ground := Ground.phase }, { on := 6, ground := Ground.phase }, { on := 7, ground := Ground.phase }, { on := 8, ground := Ground.phase }], guard := none }) (v := .pointer (some ⟨f, 9, none⟩)) rfl (by kernel_rfl) (by kernel_rfl) (by kernel_rfl) (fun _ _ _ h => h) (Or.inl ⟨by rfl, fun w hSw => by go_simp⟩) (by assumption) ?_
    try simp only [Act.put, List.setIfInBounds_toArray, List.set_cons_zero, List.set_cons_succ]
    refine wpAnyH_ready (rs := [12]) (by kernel_rfl) (by simp) ?_
    refine AllReadyH.cons (o := { dst := none, op := Op.store 26 (Operand.tmp 28) (Operand.tmp 25), type := 0, pos := "place.go:44", after := #[{ on := 11, ground := Ground.data }, { on := 8, ground := Ground.data }, { on := 7, ground := Ground.chain }, { on := 0, ground := Ground.phase }, { on := 1, ground := Ground.phase }, { on := 2, ground := Ground.phase }, { on := 3, ground := Ground.phase }, { on := 4, ground := Ground.phase }, { on := 5, ground := Ground.phase }, { on := 6, ground := Ground.phase }, { on := 7, ground := Ground.phase }, { on := 8, ground := Ground.phase }], guard := none }) rfl (fun K hK => ?_) AllReadyH.nil
    obtain ⟨z0, z1, z2, z8, z9⟩ := placeN HF
    have zf := fun i => frozenN HF i
    go_simp
    refine hK.out _ _ ((Below.heap_setCell wd ⟨f, _, none⟩ _ q hqf).trans hHeld) (fun hHeld => ?_)
    clear hK K
    try simp only [Act.put, List.setIfInBounds_toArray, List.set_cons_zero, List.set_cons_succ]
    refine wpAnyH_done (by kernel_rfl) ?_ _
    try unfold NoPanic
    go_wp2
    go_ret
    exact ⟨f, rfl, by have := HB0.out.size; omega, BS.setCell (p := ⟨f, 9, none⟩) (by have := HB0.out.size; show w.heap.size ≤ f; omega) _, by rw [HLR.out.1, HLR.out.2, hs]; exact (wayN HF _).2⟩
end Go.Proofs.Ytfhpcpanjonpeaa.Tri

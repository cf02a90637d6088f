/- Contracts: changes in memory; what a prefix has behind some of them. -/
import Derived.Test.YtldaggcopbnehaaCn
namespace Go.Proofs.Ytldaggcopbnehaa.Chg
open Coin
open Go.ChangeShapes Go.WideShapes Go.ChangeAt Go.RowKit

def C.cl (c : C) : List Value := [.int .u64 c.no, .int .u64 c.time, .bool c.gone, .int .u32 c.addr, .int .u8 c.len, .int .i64 c.via, .int .u16 c.metric, .int .u16 c.seq]
theorem cl_len (c : C) : c.cl.length = 8 := rfl
theorem flat_len (cs : List C) : (cs.flatMap C.cl).length = cs.length * 8 := by
  induction cs with
  | nil => rfl
  | cons c cs ih => rw [List.flatMap_cons, List.length_append, ih, cl_len, List.length_cons]; omega
theorem flat_at : ∀ (cs : List C) (k i : Nat) (hk : k < cs.length), i < 8 → (cs.flatMap C.cl)[k * 8 + i]? = (cs[k].cl)[i]?
  | c :: cs, 0, i, _, hi => by
    rw [List.flatMap_cons, List.getElem?_append_left (by rw [cl_len]; omega), Nat.zero_mul, Nat.zero_add]; rfl
  | c :: cs, k + 1, i, hk, hi => by
    rw [List.flatMap_cons, List.getElem?_append_right (by rw [cl_len]; omega), cl_len, show (k + 1) * 8 + i - 8 = k * 8 + i by omega]
    exact flat_at cs k i (by simpa using hk) hi
/-- Where a change stands. -/
structure ChAt (w : World) (b o : Nat) (c : C) : Prop where
  k0 : w.cell? ⟨b, o, none⟩ = some (.int .u64 c.no)
  k1 : w.cell? ⟨b, o + 1, none⟩ = some (.int .u64 c.time)
  k2 : w.cell? ⟨b, o + 2, none⟩ = some (.bool c.gone)
  k3 : w.cell? ⟨b, o + 3, none⟩ = some (.int .u32 c.addr)
  k4 : w.cell? ⟨b, o + 4, none⟩ = some (.int .u8 c.len)
  k5 : w.cell? ⟨b, o + 5, none⟩ = some (.int .i64 c.via)
  k6 : w.cell? ⟨b, o + 6, none⟩ = some (.int .u16 c.metric)
  k7 : w.cell? ⟨b, o + 7, none⟩ = some (.int .u16 c.seq)
theorem ChAt.keep {w w' : World} {b o : Nat} {c : C} (h : ChAt w b o c) (hb : w'.heap[b]? = w.heap[b]?) : ChAt w' b o c := by
  have k : ∀ i, w'.cell? ⟨b, i, none⟩ = w.cell? ⟨b, i, none⟩ := fun i => World.cell?_of_block (a := ⟨b, i, none⟩) hb
  exact ⟨(k _).trans h.k0, (k _).trans h.k1, (k _).trans h.k2, (k _).trans h.k3, (k _).trans h.k4, (k _).trans h.k5, (k _).trans h.k6, (k _).trans h.k7⟩
/-- A slice of changes. -/
def ChSl (w : World) (A : Option Addr) (cs : List C) : Prop := ∀ k (hk : k < cs.length), ∃ b o, A = some ⟨b, o, none⟩ ∧ b < w.heap.size ∧ ChAt w b (o + k * 8) cs[k]
theorem ChSl.keep {w w' : World} {A : Option Addr} {cs : List C} (h : ChSl w A cs) (hb : ∀ b o, A = some ⟨b, o, none⟩ → b < w.heap.size → w'.heap[b]? = w.heap[b]?) (hs : w.heap.size ≤ w'.heap.size) : ChSl w' A cs := fun k hk => by
  obtain ⟨b, o, e, hlt, hc⟩ := h k hk
  exact ⟨b, o, e, Nat.lt_of_lt_of_le hlt hs, hc.keep (hb b o e hlt)⟩
theorem ChSl.below {w w' : World} {A : Option Addr} {cs : List C} (h : ChSl w A cs) (B : Below w.heap.size w w') : ChSl w' A cs := h.keep (fun b _ _ hb => B.block b hb) B.size
/-- A slice of changes of the call's own. -/
def ChOwn (w : World) (B : Nat) (v : Value) (cs : List C) : Prop := w.ownsRow B 79 8 v cs.length (cs.flatMap C.cl)
theorem ChOwn.form {w : World} {B : Nat} {v : Value} {cs : List C} (h : ChOwn w B v cs) : ∃ A c, v = .slice A cs.length c ∧ ChSl w A cs ∧ (∀ b o, A = some ⟨b, o, none⟩ → v.ownBlock = some b ∧ B ≤ b) := by
  have hh := h
  rcases h.2 with ⟨rfl, h0⟩ | ⟨g, cap, cur, rfl, hB, h2, _⟩
  · refine ⟨none, 0, by rw [h0], fun k hk => by omega, fun b o e => by cases e⟩
  · refine ⟨_, cap, rfl, fun k hk => ?_, fun b o e => by injection e with e; injection e with e1 e2; subst e1; exact ⟨rfl, hB⟩⟩
    refine ⟨g, 0, rfl, (Array.getElem?_eq_some_iff.1 h2).1, ?_⟩
    have hc : ∀ i, i < 8 → w.cell? ⟨g, 0 + k * 8 + i, none⟩ = (cs[k].cl)[i]? := fun i hi => by
      rw [Nat.zero_add, World.ownsRow.cellAt hh (k * 8 + i) (by omega)]
      exact flat_at cs k i hk hi
    exact ⟨hc 0 (by decide), hc 1 (by decide), hc 2 (by decide), hc 3 (by decide), hc 4 (by decide), hc 5 (by decide), hc 6 (by decide), hc 7 (by decide)⟩
theorem ChOwn.kept {w w' : World} {B : Nat} {v : Value} {cs : List C} (h : ChOwn w B v cs) (hb : Below w.heap.size w w') : ChOwn w' B v cs :=
  World.ownsRow.kept (row := none) h ⟨hb.os, hb.tape, hb.output, hb.size, fun k hk _ => hb.block k hk⟩ (by cases v.ownBlock <;> simp)
/-- Ten cells, of which nobody asks but whether there is a way. -/
def RowV (a k : Nat) (h : Bool) (a1 n1 v1 m1 s1 q1 q2 : Int) : Array Value := #[.int .u32 a, .int .u8 k, .bool h, .int .u32 a1, .int .u8 n1, .int .i64 v1, .int .u16 m1, .int .u16 s1, .int .u16 q1, .int .u16 q2]
def RowSaid (w : World) (a k : Nat) (e : Ending) (w' : World) : Prop := ∃ h a1 n1 v1 m1 s1 q1 q2 b, e = .returned (.tuple #[.agg (RowV a k h a1 n1 v1 m1 s1 q1 q2), .bool b]) ∧ Below w.heap.size w w'
theorem row10 {w : World} {b : Nat} {t : TypeId} {x0 x1 x2 x3 x4 x5 x6 x7 x8 x9 : Value} (h : w.heap[b]? = some (.cells #[x0, x1, x2, x3, x4, x5, x6, x7, x8, x9] t (0, 0))) :
    w.cell? ⟨b, 0, none⟩ = some x0 ∧ w.cell? ⟨b, 1, none⟩ = some x1 ∧ w.cell? ⟨b, 2, none⟩ = some x2 ∧ w.cell? ⟨b, 3, none⟩ = some x3 ∧ w.cell? ⟨b, 4, none⟩ = some x4 ∧ w.cell? ⟨b, 5, none⟩ = some x5 ∧ w.cell? ⟨b, 6, none⟩ = some x6 ∧ w.cell? ⟨b, 7, none⟩ = some x7 ∧ w.cell? ⟨b, 8, none⟩ = some x8 ∧ w.cell? ⟨b, 9, none⟩ = some x9 :=
  ⟨cell_of_row w b 0 _ t (0, 0) h, cell_of_row w b 1 _ t (0, 0) h, cell_of_row w b 2 _ t (0, 0) h, cell_of_row w b 3 _ t (0, 0) h, cell_of_row w b 4 _ t (0, 0) h, cell_of_row w b 5 _ t (0, 0) h, cell_of_row w b 6 _ t (0, 0) h, cell_of_row w b 7 _ t (0, 0) h, cell_of_row w b 8 _ t (0, 0) h, cell_of_row w b 9 _ t (0, 0) h⟩
/-- What stands between two rounds. -/
def RowEx (w wr : World) (a k : Nat) : Prop := Below w.heap.size w wr ∧ wr.heap[w.heap.size]? = some (.cells #[.int .u32 a, .int .u8 k] 34 (0, 0)) ∧ wr.heap[w.heap.size + 1]? = some (.cells (RowV 0 0 false 0 0 0 0 0 0 0) 60 (0, 0)) ∧
  ∃ h a1 n1 v1 m1 s1 q1 q2, (0 ≤ q1 ∧ q1 ≤ 65535) ∧ wr.heap[w.heap.size + 1 + 1]? = some (.cells (RowV a k h a1 n1 v1 m1 s1 q1 q2) 60 (0, 0))
theorem RowEx.step {w wr w' : World} {a k : Nat} (h : RowEx w wr a k) (B : Below wr.heap.size wr w') : RowEx w w' a k := by
  obtain ⟨h1, h2, h3, x1, x2, x3, x4, x5, x6, x7, x8, hb, h4⟩ := h
  exact ⟨h1.trans (B.mono h1.size), (B.block _ (Array.getElem?_eq_some_iff.1 h2).1).trans h2, (B.block _ (Array.getElem?_eq_some_iff.1 h3).1).trans h3, x1, x2, x3, x4, x5, x6, x7, x8, hb, (B.block _ (Array.getElem?_eq_some_iff.1 h4).1).trans h4⟩
theorem RowEx.alloc {w wr : World} {a k : Nat} (h : RowEx w wr a k) (o : Obj) : RowEx w (wr.alloc o) a k := h.step ((Below.refl _ _).alloc (Nat.le_refl _) o)
/-- A cell that may be written. -/
def RowOk (i : Nat) (v : Value) : Prop := (i = 2 ∧ ∃ b, v = .bool b) ∨ (i = 3 ∧ ∃ x, v = .int .u32 x) ∨ (i = 4 ∧ ∃ x, v = .int .u8 x) ∨ (i = 5 ∧ ∃ x, v = .int .i64 x) ∨ (i = 6 ∧ ∃ x, v = .int .u16 x) ∨ (i = 7 ∧ ∃ x, v = .int .u16 x) ∨ (i = 8 ∧ ∃ x, v = .int .u16 x ∧ 0 ≤ x ∧ x ≤ 65535) ∨ (i = 9 ∧ ∃ x, v = .int .u16 x)
theorem RowEx.set {w wr : World} {a k i : Nat} {v : Value} (h : RowEx w wr a k) (hv : RowOk i v) : RowEx w (wr.setCell ⟨w.heap.size + 1 + 1, i, none⟩ v) a k := by
  obtain ⟨h1, h2, h3, x1, x2, x3, x4, x5, x6, x7, x8, hb, h4⟩ := h
  refine ⟨h1.setCell (p := ⟨w.heap.size + 1 + 1, i, none⟩) (by show w.heap.size ≤ w.heap.size + 1 + 1; omega) v, (Below.heap_setCell wr ⟨w.heap.size + 1 + 1, i, none⟩ v w.heap.size (by show w.heap.size ≠ w.heap.size + 1 + 1; omega)).trans h2, (Below.heap_setCell wr ⟨w.heap.size + 1 + 1, i, none⟩ v (w.heap.size + 1) (by show w.heap.size + 1 ≠ w.heap.size + 1 + 1; omega)).trans h3, ?_⟩
  rw [heap_setCell_same wr (w.heap.size + 1 + 1) i _ 60 v h4]
  rcases hv with ⟨rfl, y, rfl⟩ | ⟨rfl, y, rfl⟩ | ⟨rfl, y, rfl⟩ | ⟨rfl, y, rfl⟩ | ⟨rfl, y, rfl⟩ | ⟨rfl, y, rfl⟩ | ⟨rfl, y, rfl, hy⟩ | ⟨rfl, y, rfl⟩
  · exact ⟨y, x2, x3, x4, x5, x6, x7, x8, hb, rfl⟩
  · exact ⟨x1, y, x3, x4, x5, x6, x7, x8, hb, rfl⟩
  · exact ⟨x1, x2, y, x4, x5, x6, x7, x8, hb, rfl⟩
  · exact ⟨x1, x2, x3, y, x5, x6, x7, x8, hb, rfl⟩
  · exact ⟨x1, x2, x3, x4, y, x6, x7, x8, hb, rfl⟩
  · exact ⟨x1, x2, x3, x4, x5, y, x7, x8, hb, rfl⟩
  · exact ⟨x1, x2, x3, x4, x5, x6, y, x8, hy, rfl⟩
  · exact ⟨x1, x2, x3, x4, x5, x6, x7, y, hb, rfl⟩
theorem RowEx.cells {w wr : World} {a k : Nat} (h : RowEx w wr a k) : ∃ h a1 n1 v1 m1 s1 q1 q2, (0 ≤ q1 ∧ q1 ≤ 65535) ∧ (wr.cell? ⟨w.heap.size, 0, none⟩ = some (.int .u32 a) ∧ wr.cell? ⟨w.heap.size, 1, none⟩ = some (.int .u8 k)) ∧
    (wr.cell? ⟨w.heap.size + 1 + 1, 0, none⟩ = some (.int .u32 a) ∧ wr.cell? ⟨w.heap.size + 1 + 1, 1, none⟩ = some (.int .u8 k) ∧ wr.cell? ⟨w.heap.size + 1 + 1, 2, none⟩ = some (.bool h) ∧ wr.cell? ⟨w.heap.size + 1 + 1, 3, none⟩ = some (.int .u32 a1) ∧ wr.cell? ⟨w.heap.size + 1 + 1, 4, none⟩ = some (.int .u8 n1) ∧ wr.cell? ⟨w.heap.size + 1 + 1, 5, none⟩ = some (.int .i64 v1) ∧ wr.cell? ⟨w.heap.size + 1 + 1, 6, none⟩ = some (.int .u16 m1) ∧ wr.cell? ⟨w.heap.size + 1 + 1, 7, none⟩ = some (.int .u16 s1) ∧ wr.cell? ⟨w.heap.size + 1 + 1, 8, none⟩ = some (.int .u16 q1) ∧ wr.cell? ⟨w.heap.size + 1 + 1, 9, none⟩ = some (.int .u16 q2)) ∧
    (∀ i, wr.frozen? ⟨w.heap.size + 1 + 1, i, none⟩ = false) ∧ (∀ i, wr.frozen? ⟨w.heap.size + 1, i, none⟩ = false) ∧ (∀ i, i < 10 → ∃ u, wr.cell? ⟨w.heap.size + 1, i, none⟩ = some u) := by
  obtain ⟨h1, h2, h3, x1, x2, x3, x4, x5, x6, x7, x8, hb, h4⟩ := h
  exact ⟨x1, x2, x3, x4, x5, x6, x7, x8, hb, ⟨(cell_of_row wr _ 0 _ 34 (0, 0) h2).trans rfl, (cell_of_row wr _ 1 _ 34 (0, 0) h2).trans rfl⟩, row10 h4, fun i => frozen_of_row wr _ i _ 60 h4, fun i => frozen_of_row wr _ i _ 60 h3, fun i hi => ⟨(RowV 0 0 false 0 0 0 0 0 0 0)[i]'hi, by rw [cell_of_row wr _ i _ 60 (0, 0) h3]; exact Array.getElem?_eq_getElem hi⟩⟩
theorem RowEx.lt {w wr : World} {a k : Nat} (h : RowEx w wr a k) : w.heap.size < wr.heap.size ∧ w.heap.size + 1 < wr.heap.size ∧ w.heap.size + 1 + 1 < wr.heap.size := by
  obtain ⟨h1, h2, h3, x1, x2, x3, x4, x5, x6, x7, x8, hb, h4⟩ := h
  exact ⟨(Array.getElem?_eq_some_iff.1 h2).1, (Array.getElem?_eq_some_iff.1 h3).1, (Array.getElem?_eq_some_iff.1 h4).1⟩
theorem RowEx.new (w : World) (a k : Nat) : RowEx w (((w.alloc (.cells #[.int .u32 a, .int .u8 k] 34)).alloc (.cells (RowV 0 0 false 0 0 0 0 0 0 0) 60)).alloc (.cells (RowV a k false 0 0 0 0 0 0 0) 60)) a k := by
  have s1 : (w.alloc (.cells #[.int .u32 a, .int .u8 k] 34)).heap.size = w.heap.size + 1 := by simp
  have s2 : ((w.alloc (.cells #[.int .u32 a, .int .u8 k] 34)).alloc (.cells (RowV 0 0 false 0 0 0 0 0 0 0) 60)).heap.size = w.heap.size + 1 + 1 := by simp
  refine ⟨(((Below.refl _ _).alloc (Nat.le_refl _) _).alloc (by simp) _).alloc (by simp; omega) _, ?_, ?_, false, 0, 0, 0, 0, 0, 0, 0, by omega, ?_⟩
  · rw [heap_alloc_old _ _ (by rw [s2]; omega), heap_alloc_old _ _ (by rw [s1]; omega)]; exact heap_alloc_new w _
  · rw [heap_alloc_old _ _ (by rw [s2]; omega)]
    have := heap_alloc_new (w.alloc (.cells #[.int .u32 a, .int .u8 k] 34)) (.cells (RowV 0 0 false 0 0 0 0 0 0 0) 60)
    rw [s1] at this; exact this
  · have := heap_alloc_new ((w.alloc (.cells #[.int .u32 a, .int .u8 k] 34)).alloc (.cells (RowV 0 0 false 0 0 0 0 0 0 0) 60)) (.cells (RowV a k false 0 0 0 0 0 0 0) 60)
    rw [s2] at this; exact this
theorem info52 : (Try.prog.info? 60).map (·.size) = some 10 := by kernel_rfl
theorem isrow52 : (match (Try.prog.underlying 60) with | some (.struct _) | some (.array _ _) => true | _ => false) = true := by kernel_rfl
theorem res52_tmp {fn : Func} {p u : Tmp} (h : fn.results = #[.cell p 60, .tmp u]) (tmps : Array Value) (w : World) (g : Nat) (t : TypeId) (cs : Array Value) (fr : Nat × Nat)
    (hp : tmps.getD p undef = .pointer (some ⟨g, 0, none⟩)) (hg : w.heap[g]? = some (.cells cs t fr)) (h7 : cs.size = 10) :
    (results fn tmps).run Try.prog w = .ok (.tuple #[.agg cs, tmps.getD u undef]) w := by
  obtain ⟨d, hu, hd⟩ : ∃ d, Try.prog.underlying 60 = some d ∧ (match d with | .struct _ | .array _ _ => true | _ => false) = true := by
    have h := isrow52
    cases e : Try.prog.underlying 60 with
    | none => rw [e] at h; cases h
    | some d => rw [e] at h; exact ⟨d, rfl, by cases d <;> first | rfl | cases h⟩
  rw [results_cell_tmp h, hp]
  simp [asAddr, Result.andThen, run_loadVar_row w g t 60 cs fr d hg hu (by cases d <;> first | rfl | cases hd) (by rw [info52, h7])]
theorem put10 {w : World} {b : Nat} {t : TypeId} {x0 x1 x2 x3 x4 x5 x6 x7 x8 x9 : Value} (h : w.heap[b]? = some (.cells #[x0, x1, x2, x3, x4, x5, x6, x7, x8, x9] t (0, 0))) (y0 y1 y2 y3 y4 y5 y6 y7 y8 y9 : Value) :
    ((((((((((w.setCell ⟨b, 0, none⟩ y0).setCell ⟨b, 1, none⟩ y1).setCell ⟨b, 2, none⟩ y2).setCell ⟨b, 3, none⟩ y3).setCell ⟨b, 4, none⟩ y4).setCell ⟨b, 5, none⟩ y5).setCell ⟨b, 6, none⟩ y6).setCell ⟨b, 7, none⟩ y7).setCell ⟨b, 8, none⟩ y8).setCell ⟨b, 9, none⟩ y9).heap[b]? = some (.cells #[y0, y1, y2, y3, y4, y5, y6, y7, y8, y9] t (0, 0)) := by
  have e0 := heap_setCell_same _ b 0 _ t y0 h
  have e1 := heap_setCell_same _ b 1 _ t y1 e0
  have e2 := heap_setCell_same _ b 2 _ t y2 e1
  have e3 := heap_setCell_same _ b 3 _ t y3 e2
  have e4 := heap_setCell_same _ b 4 _ t y4 e3
  have e5 := heap_setCell_same _ b 5 _ t y5 e4
  have e6 := heap_setCell_same _ b 6 _ t y6 e5
  have e7 := heap_setCell_same _ b 7 _ t y7 e6
  have e8 := heap_setCell_same _ b 8 _ t y8 e7
  have e9 := heap_setCell_same _ b 9 _ t y9 e8
  rw [e9]
  simp
theorem below10 {B : Nat} {a w : World} (h : Below B a w) {b : Nat} (hb : B ≤ b) (y0 y1 y2 y3 y4 y5 y6 y7 y8 y9 : Value) :
    Below B a ((((((((((w.setCell ⟨b, 0, none⟩ y0).setCell ⟨b, 1, none⟩ y1).setCell ⟨b, 2, none⟩ y2).setCell ⟨b, 3, none⟩ y3).setCell ⟨b, 4, none⟩ y4).setCell ⟨b, 5, none⟩ y5).setCell ⟨b, 6, none⟩ y6).setCell ⟨b, 7, none⟩ y7).setCell ⟨b, 8, none⟩ y8).setCell ⟨b, 9, none⟩ y9) :=
  (((((((((h.setCell (p := ⟨b, 0, none⟩) hb _).setCell (p := ⟨b, 1, none⟩) hb _).setCell (p := ⟨b, 2, none⟩) hb _).setCell (p := ⟨b, 3, none⟩) hb _).setCell (p := ⟨b, 4, none⟩) hb _).setCell (p := ⟨b, 5, none⟩) hb _).setCell (p := ⟨b, 6, none⟩) hb _).setCell (p := ⟨b, 7, none⟩) hb _).setCell (p := ⟨b, 8, none⟩) hb _).setCell (p := ⟨b, 9, none⟩) hb _
set_option maxRecDepth 8000 in
set_option maxHeartbeats 4000000 in
theorem row_any (w : World) (A : Option Addr) (n cp : Nat) (cs : List C) (hn : n = cs.length) (h60 : n ≤ 60) (hc : ChSl w A cs) (hok : ∀ c ∈ cs, c.metric < 65535 ∧ c.seq < 65536) (a k : Nat) :
    Calls Try.prog 29 #[.slice A n cp, .agg #[.int .u32 a, .int .u8 k]] w (RowSaid w a k) := by
  have HN := Lib.hid hn
  have HC := Lib.hid hc
  have HO := Lib.hid hok
  have R0 := RowEx.new w a k
  clear hn hc hok
  go_enter Try.func29, Try.ntmps29
  go_wp2
  unfold RowV at R0
  generalize ((w.alloc _).alloc _).alloc _ = w1 at *
  go_loopw [7, 8] (fun b i wr => ∃ j : Nat, j ≤ n ∧ i = .int .i64 j ∧ ∃ b0, b = .bool b0 ∧ RowEx w wr a k) (fun _ i _ => n - (intOf i).toNat)
  case atStart => exact ⟨0, by omega, rfl, false, rfl, R0⟩
  case round =>
    obtain ⟨j, hj, rfl, b0, rfl, R⟩ := hrel
    clear R0
    obtain ⟨h, a1, n1, v1, m1, s1, q1, q2, hq, ⟨t0, t1⟩, ⟨p0, p1, p2, p3, p4, p5, p6, p7, p8, p9⟩, fz, fy, ye⟩ := R.cells
    obtain ⟨y0, y1, y2⟩ := R.lt
    by_cases hlt : j < n
    · obtain ⟨bb, oo, ea, hb, hca⟩ := (HC.out.below R.1) j (by rw [← HN.out]; exact hlt)
      subst ea
      have hcc := HO.out _ (List.getElem_mem (show j < cs.length by rw [← HN.out]; exact hlt))
      obtain ⟨g0, g1, g2, g3, g4, g5, g6, g7⟩ := hca
      generalize cs[j]'_ = c at *
      obtain ⟨no, time, g, ca, cn, via, mt, sq⟩ := c
      obtain ⟨hm, hs⟩ := hcc
      replace hm : mt < 65535 := hm
      replace hs : sq < 65536 := hs
      simp only at g0 g1 g2 g3 g4 g5 g6 g7
      by_cases he : ca = a ∧ cn = k
      · have he' : (((ca : Int) == (a : Int)) && ((cn : Int) == (k : Int))) = true := by simp; omega
        have hi : (ca : Int) = a ∧ (cn : Int) = k := by omega
        clear he ye
        cases g
        · cases b0
          · go_wp2
            go_roundw
            case rel =>
              refine ⟨j + 1, by omega, by go_num, true, rfl, ?_⟩
              (repeat (first | with_reducible refine RowEx.alloc ?_ _ | with_reducible refine RowEx.set ?_ (by unfold RowOk; simp <;> omega)))
              exact R
            case measure => simp [intOf]; omega
          · go_wp2_with (first
              | (go_at_call 16; (with_reducible refine (rnearer_any sq mt q1 q2 (by omega) hq _).mono ?_); rintro e w5 ⟨⟨x, rfl⟩, B5⟩; have RX : RowEx w w5 a k := RowEx.step (by (repeat (first | with_reducible refine RowEx.alloc ?_ _ | with_reducible refine RowEx.set ?_ (by unfold RowOk; simp <;> omega))); exact R) B5; have z0 : w5.cell? ⟨wr.heap.size + 1, 0, none⟩ = some (.int .u16 sq) := (by rw [B5.cell (p := ⟨wr.heap.size + 1, 0, none⟩) (by simp)]; simp [go_sem]); have z1 : w5.cell? ⟨wr.heap.size + 1, 1, none⟩ = some (.int .u16 mt) := (by rw [B5.cell (p := ⟨wr.heap.size + 1, 1, none⟩) (by simp)]; simp [go_sem]); clear p0 p1 p2 p3 p4 p5 p6 p7 p8 p9 fz fy t0 t1 B5; obtain ⟨h5, a5, n5, v5, m5, s5, r5, t5, hq5, ⟨_, _⟩, ⟨p0, p1, p2, p3, p4, p5, p6, p7, p8, p9⟩, fz, _, _⟩ := RX.cells))
            all_goals
              go_roundw
              case rel =>
                refine ⟨j + 1, by omega, by go_num, true, rfl, ?_⟩
                (repeat (first | with_reducible refine RowEx.alloc ?_ _ | with_reducible refine RowEx.set ?_ (by unfold RowOk; simp <;> omega)))
                exact RX
              case measure => simp [intOf]; omega
        · go_wp2
          go_roundw
          case rel =>
            refine ⟨j + 1, by omega, by go_num, b0, rfl, ?_⟩
            (repeat (first | with_reducible refine RowEx.alloc ?_ _ | with_reducible refine RowEx.set ?_ (by unfold RowOk; simp <;> omega)))
            exact R
          case measure => simp [intOf]; omega
      · have e3 : ¬ ((ca : Int) = a ∧ (cn : Int) = k) := by omega
        clear he ye
        go_wp2
        all_goals
          go_roundw
          case rel => exact ⟨j + 1, by omega, by go_num, b0, rfl, R.alloc _⟩
          case measure => simp [intOf]; omega
    · obtain rfl : j = n := by omega
      obtain ⟨u0, w0⟩ := ye 0 (by decide)
      obtain ⟨u1, w1⟩ := ye 1 (by decide)
      obtain ⟨u2, w2⟩ := ye 2 (by decide)
      obtain ⟨u3, w3⟩ := ye 3 (by decide)
      obtain ⟨u4, w4⟩ := ye 4 (by decide)
      obtain ⟨u5, w5⟩ := ye 5 (by decide)
      obtain ⟨u6, w6⟩ := ye 6 (by decide)
      obtain ⟨u7, w7⟩ := ye 7 (by decide)
      obtain ⟨u8, w8⟩ := ye 8 (by decide)
      obtain ⟨u9, w9⟩ := ye 9 (by decide)
      clear ye
      go_wp2
      exact bodyPost_ret (res52_tmp rfl _ _ (w.heap.size + 1) 60 _ (0, 0) rfl (put10 R.2.2.1 ..) rfl) rfl ⟨h, a1, n1, v1, m1, s1, q1, q2, b0, rfl, below10 R.1 (by omega) ..⟩
end Go.Proofs.Ytldaggcopbnehaa.Chg

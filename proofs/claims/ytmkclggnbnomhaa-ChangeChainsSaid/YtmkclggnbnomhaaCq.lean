/- Contract: a change out of a purse. -/
import Derived.Test.YtmkclggnbnomhaaCp
import Derived.Deep.DeepCutAuto
import Derived.Deep.RegionHeld3
namespace Go.Proofs.Ytmkclggnbnomhaa.Chg
open Coin
open Go.ChangeShapes Go.WideShapes Go.ChangeAt Go.RowKit

theorem sets8 (wx : World) (b : Nat) (y0 y1 y2 y3 y4 y5 y6 y7 : Value) : ∀ k, k ≠ b → ((((((((wx.setCell ⟨b, 0, none⟩ y0).setCell ⟨b, 1, none⟩ y1).setCell ⟨b, 2, none⟩ y2).setCell ⟨b, 3, none⟩ y3).setCell ⟨b, 4, none⟩ y4).setCell ⟨b, 5, none⟩ y5).setCell ⟨b, 6, none⟩ y6).setCell ⟨b, 7, none⟩ y7).heap[k]? = wx.heap[k]? := by
  intro k hk
  repeat rw [Below.heap_setCell _ ⟨b, _, none⟩ _ k hk]
theorem row8_set {w : World} {b : Nat} {t : TypeId} {x0 x1 x2 x3 x4 x5 x6 x7 : Value} (h : w.heap[b]? = some (.cells #[x0, x1, x2, x3, x4, x5, x6, x7] t (0, 0))) (y0 y1 y2 y3 y4 y5 y6 y7 : Value) :
    ((((((((w.setCell ⟨b, 0, none⟩ y0).setCell ⟨b, 1, none⟩ y1).setCell ⟨b, 2, none⟩ y2).setCell ⟨b, 3, none⟩ y3).setCell ⟨b, 4, none⟩ y4).setCell ⟨b, 5, none⟩ y5).setCell ⟨b, 6, none⟩ y6).setCell ⟨b, 7, none⟩ y7).heap[b]? = some (.cells #[y0, y1, y2, y3, y4, y5, y6, y7] t (0, 0)) := by
  have e0 := heap_setCell_same _ b 0 _ t y0 h
  have e1 := heap_setCell_same _ b 1 _ t y1 e0
  have e2 := heap_setCell_same _ b 2 _ t y2 e1
  have e3 := heap_setCell_same _ b 3 _ t y3 e2
  have e4 := heap_setCell_same _ b 4 _ t y4 e3
  have e5 := heap_setCell_same _ b 5 _ t y5 e4
  have e6 := heap_setCell_same _ b 6 _ t y6 e5
  have e7 := heap_setCell_same _ b 7 _ t y7 e6
  rw [e7]
  simp
theorem set8b (wx : World) (b : Nat) (y0 y1 y2 y3 y4 y5 y6 y7 : Value) : Below b wx ((((((((wx.setCell ⟨b, 0, none⟩ y0).setCell ⟨b, 1, none⟩ y1).setCell ⟨b, 2, none⟩ y2).setCell ⟨b, 3, none⟩ y3).setCell ⟨b, 4, none⟩ y4).setCell ⟨b, 5, none⟩ y5).setCell ⟨b, 6, none⟩ y6).setCell ⟨b, 7, none⟩ y7) :=
  (((((((((Below.refl b wx).setCell (p := ⟨b, 0, none⟩) (Nat.le_refl _) _).setCell (p := ⟨b, 1, none⟩) (Nat.le_refl _) _).setCell (p := ⟨b, 2, none⟩) (Nat.le_refl _) _).setCell (p := ⟨b, 3, none⟩) (Nat.le_refl _) _).setCell (p := ⟨b, 4, none⟩) (Nat.le_refl _) _).setCell (p := ⟨b, 5, none⟩) (Nat.le_refl _) _).setCell (p := ⟨b, 6, none⟩) (Nat.le_refl _) _).setCell (p := ⟨b, 7, none⟩) (Nat.le_refl _) _)
/-- What take has in memory, ahead of its change's box. -/
structure TB (w wx : World) (q : Nat) (x : Array Value) (l : List UInt8) : Prop where
  gq : w.grownBy wx (some q)
  pu : Pur wx q l 0
  rl : wx.heap[w.heap.size]? = some (.cells x 34 (0, 0))
  rr : wx.heap[w.heap.size + 1]? = some (.cells #[.int .u64 0, .int .u64 0, .bool false, .int .u32 0, .int .u8 0, .int .i64 0, .int .u16 0, .int .u16 0] 34 (0, 0))
  l2 : q < w.heap.size
theorem TB.call {w wx w' : World} {q : Nat} {x : Array Value} {l : List UInt8} (h : TB w wx q x l) (B : Below wx.heap.size wx w') : TB w w' q x l := by
  have h1 := (Array.getElem?_eq_some_iff.1 h.rl).1
  have h2 := (Array.getElem?_eq_some_iff.1 h.rr).1
  exact ⟨⟨B.os.trans h.gq.os, B.tape.trans h.gq.tape, B.output.trans h.gq.output, Nat.le_trans h.gq.size B.size, fun k hk hn => (B.block k (Nat.lt_of_lt_of_le hk h.gq.size)).trans (h.gq.block k hk hn)⟩, h.pu.far fun i hi => B.block i (by have := h.l2; have := h.gq.size; omega), (B.block _ h1).trans h.rl, (B.block _ h2).trans h.rr, h.l2⟩
theorem TB.bytes {w wx w' : World} {q : Nat} {x : Array Value} {l l' : List UInt8} (h : TB w wx q x l) (G : wx.grownBy w' (some q)) (P : Pur w' q l' 0) : TB w w' q x l' := by
  have l2 := h.l2
  have ne : ∀ k, k ≠ q → some k ≠ some q := fun k hk e => hk (by injection e)
  have h1 := (Array.getElem?_eq_some_iff.1 h.rl).1
  have h2 := (Array.getElem?_eq_some_iff.1 h.rr).1
  exact ⟨grown_trans h.gq G, P, (G.block _ h1 (ne _ (by omega))).trans h.rl, (G.block _ h2 (ne _ (by omega))).trans h.rr, l2⟩
/-- And with it. -/
structure TK (w wx : World) (q gc : Nat) (x y : Array Value) (l : List UInt8) : Prop where
  tb : TB w wx q x l
  rc : wx.heap[gc]? = some (.cells y 34 (0, 0))
  l1 : w.heap.size + 1 < gc
theorem TB.new {w wx : World} {q : Nat} {x : Array Value} {l : List UInt8} (h : TB w wx q x l) (y : Array Value) : TK w (wx.alloc (.cells y 34)) q wx.heap.size x y l :=
  ⟨h.call ((Below.refl _ _).alloc (Nat.le_refl _) _), heap_alloc_new _ _, (Array.getElem?_eq_some_iff.1 h.rr).1⟩
theorem TK.call {w wx w' : World} {q gc : Nat} {x y : Array Value} {l : List UInt8} (h : TK w wx q gc x y l) (B : Below wx.heap.size wx w') : TK w w' q gc x y l :=
  ⟨h.tb.call B, (B.block _ (Array.getElem?_eq_some_iff.1 h.rc).1).trans h.rc, h.l1⟩
theorem TK.bytes {w wx w' : World} {q gc : Nat} {x y : Array Value} {l l' : List UInt8} (h : TK w wx q gc x y l) (G : wx.grownBy w' (some q)) (P : Pur w' q l' 0) : TK w w' q gc x y l' := by
  have l2 := h.tb.l2
  have l1 := h.l1
  exact ⟨h.tb.bytes G P, (G.block _ (Array.getElem?_eq_some_iff.1 h.rc).1 (fun e => by injection e with e; omega)).trans h.rc, h.l1⟩
theorem TB.keep {w wx w' : World} {q gc : Nat} {x : Array Value} {l : List UInt8} (h : TB w wx q x l) (hg : w.heap.size + 1 < gc) (hs : w'.heap.size = wx.heap.size) (B : Below gc wx w') (hk : ∀ k, k ≠ gc → w'.heap[k]? = wx.heap[k]?) : TB w w' q x l := by
  have l2 := h.l2
  exact ⟨⟨B.os.trans h.gq.os, B.tape.trans h.gq.tape, B.output.trans h.gq.output, by rw [hs]; exact h.gq.size, fun k hk' hn => (hk k (by omega)).trans (h.gq.block k hk' hn)⟩, h.pu.far (fun i hi => hk i (by omega)), (hk _ (by omega)).trans h.rl, (hk _ (by omega)).trans h.rr, l2⟩
theorem TK.set {w wx : World} {q gc : Nat} {x y : Array Value} {l : List UInt8} (h : TK w wx q gc x y l) (i : Nat) (v : Value) : TK w (wx.setCell ⟨gc, i, none⟩ v) q gc x (y.setIfInBounds i v) l := by
  have l1 := h.l1
  exact ⟨h.tb.keep l1 (by simp) ((Below.refl gc wx).setCell (p := ⟨gc, i, none⟩) (Nat.le_refl _) _) fun k hk => Below.heap_setCell wx ⟨gc, i, none⟩ _ k hk, by rw [heap_setCell_same wx gc i _ 34 _ h.rc], l1⟩
theorem TK.row {w wx : World} {q gc : Nat} {x : Array Value} {x0 x1 x2 x3 x4 x5 x6 x7 : Value} {l : List UInt8} (h : TK w wx q gc x #[x0, x1, x2, x3, x4, x5, x6, x7] l) (y0 y1 y2 y3 y4 y5 y6 y7 : Value) : TK w ((((((((wx.setCell ⟨gc, 0, none⟩ y0).setCell ⟨gc, 1, none⟩ y1).setCell ⟨gc, 2, none⟩ y2).setCell ⟨gc, 3, none⟩ y3).setCell ⟨gc, 4, none⟩ y4).setCell ⟨gc, 5, none⟩ y5).setCell ⟨gc, 6, none⟩ y6).setCell ⟨gc, 7, none⟩ y7) q gc x #[y0, y1, y2, y3, y4, y5, y6, y7] l := by
  have l1 := h.l1
  exact ⟨h.tb.keep l1 (by simp) (set8b wx gc ..) (sets8 wx gc y0 y1 y2 y3 y4 y5 y6 y7), row8_set h.rc .., l1⟩
theorem TK.done {w wx : World} {q gc : Nat} {x y : Array Value} {l : List UInt8} (h : TK w wx q gc x y l) (y0 y1 y2 y3 y4 y5 y6 y7 : Value) : Pur ((((((((wx.setCell ⟨w.heap.size + 1, 0, none⟩ y0).setCell ⟨w.heap.size + 1, 1, none⟩ y1).setCell ⟨w.heap.size + 1, 2, none⟩ y2).setCell ⟨w.heap.size + 1, 3, none⟩ y3).setCell ⟨w.heap.size + 1, 4, none⟩ y4).setCell ⟨w.heap.size + 1, 5, none⟩ y5).setCell ⟨w.heap.size + 1, 6, none⟩ y6).setCell ⟨w.heap.size + 1, 7, none⟩ y7) q l 0 ∧ w.grownBy ((((((((wx.setCell ⟨w.heap.size + 1, 0, none⟩ y0).setCell ⟨w.heap.size + 1, 1, none⟩ y1).setCell ⟨w.heap.size + 1, 2, none⟩ y2).setCell ⟨w.heap.size + 1, 3, none⟩ y3).setCell ⟨w.heap.size + 1, 4, none⟩ y4).setCell ⟨w.heap.size + 1, 5, none⟩ y5).setCell ⟨w.heap.size + 1, 6, none⟩ y6).setCell ⟨w.heap.size + 1, 7, none⟩ y7) (some q) := by
  have l2 := h.tb.l2
  have hk := sets8 wx (w.heap.size + 1) y0 y1 y2 y3 y4 y5 y6 y7
  have B := set8b wx (w.heap.size + 1) y0 y1 y2 y3 y4 y5 y6 y7
  exact ⟨h.tb.pu.far (fun i hi => hk i (by omega)), ⟨B.os.trans h.tb.gq.os, B.tape.trans h.tb.gq.tape, B.output.trans h.tb.gq.output, by simpa using h.tb.gq.size, fun k hk' hn => (hk k (by omega)).trans (h.tb.gq.block k hk' hn)⟩⟩

set_option maxRecDepth 8000 in
set_option maxHeartbeats 8000000 in
theorem taken_any (l c : C) (hl : l.Ok) (hc : c.Ok) (ha : l.After c) (r : List UInt8) (w : World) (q : Nat) (h : Pur w q (l.enc c ++ r) 0) :
    Calls Try.prog 22 #[.agg l.cells, .pointer (some ⟨q, 0, none⟩)] w fun e w' => e = .returned (.agg c.cells) ∧ Pur w' q r 0 ∧ w.grownBy w' (some q) := by
  have hso := same4 l c hc.2.2.2.1
  have hhd := head_lt l c hc.2.2.2.1
  unfold C.same at hso
  unfold C.head C.same at hhd
  unfold C.enc C.tail C.head C.same at h
  unfold C.cells
  obtain ⟨no0, time0, g0, a0, n0, via0, mt0, sq0⟩ := l
  obtain ⟨no, time, g, a, n, via, mt, sq⟩ := c
  obtain ⟨l1, l2, l3, l4, l5, l6, l7, l8, l9⟩ := hl
  obtain ⟨c1, c2, c3, c4, c5, c6, c7, c8, c9⟩ := hc
  obtain ⟨e1, e2⟩ := ha
  replace e1 : no = no0 + 1 := e1
  replace l1 : no0 < 18446744073709551616 := l1
  replace l2 : time0 < 18446744073709551616 := l2
  replace c1 : no < 18446744073709551616 := c1
  replace c2 : time < 18446744073709551616 := c2
  replace e2 : time0 ≤ time := e2
  have L9 := Lib.hid l9
  have C9 := Lib.hid c9
  clear l9 c9
  try dsimp only at *
  obtain ⟨dt, hdt0⟩ : ∃ dt, dt = time - time0 := ⟨_, rfl⟩
  rw [← hdt0] at h
  have hdt : dt < 18446744073709551616 := by omega
  have hno : IntKind.u64.wrap ((no0 : Int) + 1) = no := by rw [wrap_u64]; omega
  have htm : IntKind.u64.wrap ((time0 : Int) + dt) = time := by rw [wrap_u64]; omega
  clear hdt0 e1 e2
  obtain ⟨s, hs⟩ : ∃ s, s = same (begun a0 n0) (begun a n) := ⟨_, rfl⟩
  rw [← hs] at hso hhd h
  have hq := h.lt
  have HS := Lib.hid hs
  clear hs
  have TQ0 : TB w ((w.alloc (.cells #[.int .u64 no0, .int .u64 time0, .bool g0, .int .u32 a0, .int .u8 n0, .int .i64 via0, .int .u16 mt0, .int .u16 sq0] 34)).alloc (.cells #[.int .u64 0, .int .u64 0, .bool false, .int .u32 0, .int .u8 0, .int .i64 0, .int .u16 0, .int .u16 0] 34)) q #[.int .u64 no0, .int .u64 time0, .bool g0, .int .u32 a0, .int .u8 n0, .int .i64 via0, .int .u16 mt0, .int .u16 sq0] (coin dt ++ (coin (16 * n + 2 * s + if g = true then 1 else 0) ++ ((begun a n).drop s ++ ((if g = true then [] else coin (fold ((via : Int) - via0)) ++ (coin (fold ((mt : Int) - mt0)) ++ coin ((sq + 65536 - sq0) % 65536))) ++ r)))) := by
    simp only [List.append_assoc] at h
    have BB : Below w.heap.size w ((w.alloc (.cells #[.int .u64 no0, .int .u64 time0, .bool g0, .int .u32 a0, .int .u8 n0, .int .i64 via0, .int .u16 mt0, .int .u16 sq0] 34)).alloc (.cells #[.int .u64 0, .int .u64 0, .bool false, .int .u32 0, .int .u8 0, .int .i64 0, .int .u16 0, .int .u16 0] 34)) := ((Below.refl _ _).alloc (Nat.le_refl _) _).alloc (by simp) _
    exact ⟨⟨BB.os, BB.tape, BB.output, BB.size, fun k hk _ => BB.block k hk⟩, h.below BB, heap_new0 w _ _, heap_new1 w _ _, hq⟩
  clear h
  cases g
  · simp only [Bool.false_eq_true, if_false, List.append_assoc] at TQ0 hhd
    obtain ⟨hd, hhd2⟩ : ∃ h, h = 16 * n + 2 * s + 0 := ⟨_, rfl⟩
    rw [← hhd2] at TQ0 hhd
    have c34 := fun w q r h => tprefix_any a0 n0 a n 0 s hd l3 l4 c3 c4 c8 (by omega) HS.out hhd2 r w q h
    have hb : (hd : Int) % 2 = 0 := by omega
    obtain ⟨f3, hf3⟩ : ∃ f, f = (sq + 65536 - sq0) % 65536 := ⟨_, rfl⟩
    rw [← hf3] at TQ0
    have hf3l : f3 < 65536 := by omega
    have hsq : IntKind.u16.wrap ((sq0 : Int) + f3) = sq := by rw [IntKind.wrap_u16]; omega
    clear hf3
    have HTQ := Lib.hid TQ0
    clear TQ0 hhd2
    go_enter Try.func22, Try.ntmps22
    go_upto_region 1 with (fail)
    have TQ := HTQ.out
    clear HTQ
    generalize ((w.alloc _).alloc _) = wv at *
    go_cut [5] (fun v5 wx => ∃ gc, v5 = .pointer (some ⟨gc, 0, none⟩) ∧ TK w wx q gc #[.int .u64 no0, .int .u64 time0, .bool g0, .int .u32 a0, .int .u8 n0, .int .i64 via0, .int .u16 mt0, .int .u16 sq0] #[.int .u64 (no : Int), .int .u64 (time : Int), .bool false, .int .u32 0, .int .u8 0, .int .i64 0, .int .u16 0, .int .u16 0] (coin hd ++ ((begun a n).drop s ++ (coin (fold ((via : Int) - via0)) ++ (coin (fold ((mt : Int) - mt0)) ++ (coin f3 ++ r))))))
    case first =>
      refine wp_region_noPanic ?_
      replace TQ := TQ.call (Below.refl _ _).drew
      refine wp_region_held_drew (S := fun W : World => W.heap[w.heap.size]? = some (.cells #[.int .u64 no0, .int .u64 time0, .bool g0, .int .u32 a0, .int .u8 n0, .int .i64 via0, .int .u16 mt0, .int .u16 sq0] 34 (0, 0))) (by kernel_rfl) TQ.rl (fun hHeld => ?_)
      generalize wv.drew = wd at *
      refine wpAnyH_take (i := 0) (oi := { dst := some 8, op := Op.fieldAddr 34 (Operand.tmp 2) 0, type := 0, pos := "change.go:94", after := #[], guard := none }) (v := .pointer (some ⟨w.heap.size, 0, none⟩)) rfl (by kernel_rfl) (by kernel_rfl) (by kernel_rfl) (fun _ _ _ h => h) (Or.inl ⟨by rfl, fun w hSw => by go_simp⟩) (by assumption) ?_
      try simp only [Act.put, List.setIfInBounds_toArray, List.set_cons_zero, List.set_cons_succ]
      refine wpAnyH_take (i := 1) (oi := { dst := some 9, op := Op.load 26 (Operand.tmp 8), type := 26, pos := "change.go:94", after := #[{ on := 0, ground := Ground.data }], guard := none }) (v := .int .u64 (no0 : Int)) rfl (by kernel_rfl) (by kernel_rfl) (by kernel_rfl) (fun _ _ _ h => h) (Or.inl ⟨by rfl, fun w hSw => by obtain ⟨y0, y1, y2, y3, y4, y5, y6, y7⟩ := row8 hSw; go_simp⟩) (by assumption) ?_
      try simp only [Act.put, List.setIfInBounds_toArray, List.set_cons_zero, List.set_cons_succ]
      refine wpAnyH_take (i := 2) (oi := { dst := some 10, op := Op.binOp BinOp.add 26 (Operand.tmp 9) (Operand.const (Value.int IntKind.u64 1)) 26, type := 26, pos := "change.go:94", after := #[{ on := 1, ground := Ground.data }], guard := none }) (v := .int .u64 (no : Int)) rfl (by kernel_rfl) (by kernel_rfl) (by kernel_rfl) (fun _ _ _ h => h) (Or.inl ⟨by rfl, fun w hSw => by have hz := hno; go_simp⟩) (by assumption) ?_
      try simp only [Act.put, List.setIfInBounds_toArray, List.set_cons_zero, List.set_cons_succ]
      refine wpAnyH_take (i := 3) (oi := { dst := some 11, op := Op.fieldAddr 34 (Operand.tmp 2) 1, type := 0, pos := "change.go:94", after := #[], guard := none }) (v := .pointer (some ⟨w.heap.size, 1, none⟩)) rfl (by kernel_rfl) (by kernel_rfl) (by kernel_rfl) (fun _ _ _ h => h) (Or.inl ⟨by rfl, fun w hSw => by go_simp⟩) (by assumption) ?_
      try simp only [Act.put, List.setIfInBounds_toArray, List.set_cons_zero, List.set_cons_succ]
      refine wpAnyH_take (i := 4) (oi := { dst := some 12, op := Op.load 26 (Operand.tmp 11), type := 26, pos := "change.go:94", after := #[{ on := 3, ground := Ground.data }], guard := none }) (v := .int .u64 (time0 : Int)) rfl (by kernel_rfl) (by kernel_rfl) (by kernel_rfl) (fun _ _ _ h => h) (Or.inl ⟨by rfl, fun w hSw => by obtain ⟨y0, y1, y2, y3, y4, y5, y6, y7⟩ := row8 hSw; go_simp⟩) (by assumption) ?_
      try simp only [Act.put, List.setIfInBounds_toArray, List.set_cons_zero, List.set_cons_succ]
      refine wpAnyH_take (i := 5) (oi := { dst := some 13, op := Op.move (Operand.tmp 1), type := 61, pos := "change.go:94", after := #[], guard := none }) (v := .pointer (some ⟨q, 0, none⟩)) rfl (by kernel_rfl) (by kernel_rfl) (by kernel_rfl) (fun _ _ _ h => h) (Or.inl ⟨by rfl, fun w hSw => by go_simp⟩) (by assumption) ?_
      try simp only [Act.put, List.setIfInBounds_toArray, List.set_cons_zero, List.set_cons_succ]
      refine wpAnyH_ready (rs := [6, 9]) (by kernel_rfl) (by simp) ?_
      refine (AllReadyH.cons (o := { dst := some 14, op := Op.call { callee := Callee.value (Operand.func 33), args := #[Operand.tmp 13, Operand.const (Value.int IntKind.u64 18446744073709551615)], argTypes := #[61, 26] }, type := 26, pos := "change.go:94", after := #[{ on := 5, ground := Ground.data }], guard := none }) rfl (fun K hK => ?_) (AllReadyH.cons (o := { dst := some 5, op := Op.alloc 34, type := 0, pos := "change.go:94", after := #[], guard := none }) rfl (fun K hK => ?_) AllReadyH.nil))
      · go_simp
        with_reducible refine (takeN_any dt hdt _ _ q TQ.pu).mono ?_
        rintro e w1 ⟨rfl, P1, G1⟩
        have TQ := TQ.bytes G1 P1
        refine hK.out _ _ (TQ.rl) (fun hHeld => ?_)
        clear hK K
        try simp only [Act.put, List.setIfInBounds_toArray, List.set_cons_zero, List.set_cons_succ]
        refine wpAnyH_take (i := 7) (oi := { dst := some 15, op := Op.binOp BinOp.add 26 (Operand.tmp 12) (Operand.tmp 14) 26, type := 26, pos := "change.go:94", after := #[{ on := 4, ground := Ground.data }, { on := 6, ground := Ground.data }], guard := none }) (v := .int .u64 (time : Int)) rfl (by kernel_rfl) (by kernel_rfl) (by kernel_rfl) (fun _ _ _ h => h) (Or.inl ⟨by rfl, fun w hSw => by have hz := htm; go_simp⟩) (by assumption) ?_
        try simp only [Act.put, List.setIfInBounds_toArray, List.set_cons_zero, List.set_cons_succ]
        refine wpAnyH_take (i := 8) (oi := { dst := some 16, op := Op.build 34 #[(0, Operand.tmp 10), (1, Operand.tmp 15)], type := 34, pos := "change.go:94", after := #[{ on := 2, ground := Ground.data }, { on := 7, ground := Ground.data }], guard := none }) (v := .agg #[.int .u64 (no : Int), .int .u64 (time : Int), .bool false, .int .u32 0, .int .u8 0, .int .i64 0, .int .u16 0, .int .u16 0]) rfl (by kernel_rfl) (by kernel_rfl) (by kernel_rfl) (fun _ _ _ h => h) (Or.inl ⟨by rfl, fun w hSw => by go_simp⟩) (by assumption) ?_
        try simp only [Act.put, List.setIfInBounds_toArray, List.set_cons_zero, List.set_cons_succ]
        refine wpAnyH_ready (rs := [9]) (by kernel_rfl) (by simp) ?_
        refine AllReadyH.cons (o := { dst := some 5, op := Op.alloc 34, type := 0, pos := "change.go:94", after := #[], guard := none }) rfl (fun K hK => ?_) AllReadyH.nil
        go_simp
        have TN := TQ
        have TQ := TQ.new #[.int .u64 0, .int .u64 0, .bool false, .int .u32 0, .int .u8 0, .int .i64 0, .int .u16 0, .int .u16 0]
        refine hK.out _ _ (TQ.tb.rl) (fun hHeld => ?_)
        clear hK K
        try simp only [Act.put, List.setIfInBounds_toArray, List.set_cons_zero, List.set_cons_succ]
        refine wpAnyH_ready (rs := [10]) (by kernel_rfl) (by simp) ?_
        refine AllReadyH.cons (o := { dst := none, op := Op.store 34 (Operand.tmp 5) (Operand.tmp 16), type := 0, pos := "change.go:94", after := #[{ on := 9, ground := Ground.data }, { on := 8, ground := Ground.data }, { on := 6, ground := Ground.chain }, { on := 0, ground := Ground.phase }, { on := 1, ground := Ground.phase }, { on := 2, ground := Ground.phase }, { on := 3, ground := Ground.phase }, { on := 4, ground := Ground.phase }, { on := 5, ground := Ground.phase }, { on := 6, ground := Ground.phase }, { on := 7, ground := Ground.phase }, { on := 8, ground := Ground.phase }, { on := 9, ground := Ground.phase }], guard := none }) rfl (fun K hK => ?_) AllReadyH.nil
        obtain ⟨z0, z1, z2, z3, z4, z5, z6, z7⟩ := row8 TQ.rc
        have zf := fun i => frozen_of_row _ w1.heap.size i _ 34 TQ.rc
        go_simp
        replace TQ := TN.new #[.int .u64 (no : Int), .int .u64 (time : Int), .bool false, .int .u32 0, .int .u8 0, .int .i64 0, .int .u16 0, .int .u16 0]
        refine hK.out _ _ (TQ.tb.rl) (fun hHeld => ?_)
        clear hK K
        try simp only [Act.put, List.setIfInBounds_toArray, List.set_cons_zero, List.set_cons_succ]
        refine wpAnyH_done (by kernel_rfl) ?_ _
        try unfold NoPanic
        go_wp2
        go_meet
        case rel => exact ⟨w1.heap.size, rfl, TQ⟩
      · go_simp
        have TQ := TQ.new #[.int .u64 0, .int .u64 0, .bool false, .int .u32 0, .int .u8 0, .int .i64 0, .int .u16 0, .int .u16 0]
        refine hK.out _ _ (TQ.tb.rl) (fun hHeld => ?_)
        clear hK K
        try simp only [Act.put, List.setIfInBounds_toArray, List.set_cons_zero, List.set_cons_succ]
        refine wpAnyH_ready (rs := [6]) (by kernel_rfl) (by simp) ?_
        refine AllReadyH.cons (o := { dst := some 14, op := Op.call { callee := Callee.value (Operand.func 33), args := #[Operand.tmp 13, Operand.const (Value.int IntKind.u64 18446744073709551615)], argTypes := #[61, 26] }, type := 26, pos := "change.go:94", after := #[{ on := 5, ground := Ground.data }], guard := none }) rfl (fun K hK => ?_) AllReadyH.nil
        go_simp
        with_reducible refine (takeN_any dt hdt _ _ q TQ.tb.pu).mono ?_
        rintro e w1 ⟨rfl, P1, G1⟩
        have TQ := TQ.bytes G1 P1
        refine hK.out _ _ (TQ.tb.rl) (fun hHeld => ?_)
        clear hK K
        try simp only [Act.put, List.setIfInBounds_toArray, List.set_cons_zero, List.set_cons_succ]
        refine wpAnyH_take (i := 7) (oi := { dst := some 15, op := Op.binOp BinOp.add 26 (Operand.tmp 12) (Operand.tmp 14) 26, type := 26, pos := "change.go:94", after := #[{ on := 4, ground := Ground.data }, { on := 6, ground := Ground.data }], guard := none }) (v := .int .u64 (time : Int)) rfl (by kernel_rfl) (by kernel_rfl) (by kernel_rfl) (fun _ _ _ h => h) (Or.inl ⟨by rfl, fun w hSw => by have hz := htm; go_simp⟩) (by assumption) ?_
        try simp only [Act.put, List.setIfInBounds_toArray, List.set_cons_zero, List.set_cons_succ]
        refine wpAnyH_take (i := 8) (oi := { dst := some 16, op := Op.build 34 #[(0, Operand.tmp 10), (1, Operand.tmp 15)], type := 34, pos := "change.go:94", after := #[{ on := 2, ground := Ground.data }, { on := 7, ground := Ground.data }], guard := none }) (v := .agg #[.int .u64 (no : Int), .int .u64 (time : Int), .bool false, .int .u32 0, .int .u8 0, .int .i64 0, .int .u16 0, .int .u16 0]) rfl (by kernel_rfl) (by kernel_rfl) (by kernel_rfl) (fun _ _ _ h => h) (Or.inl ⟨by rfl, fun w hSw => by go_simp⟩) (by assumption) ?_
        try simp only [Act.put, List.setIfInBounds_toArray, List.set_cons_zero, List.set_cons_succ]
        refine wpAnyH_ready (rs := [10]) (by kernel_rfl) (by simp) ?_
        refine AllReadyH.cons (o := { dst := none, op := Op.store 34 (Operand.tmp 5) (Operand.tmp 16), type := 0, pos := "change.go:94", after := #[{ on := 9, ground := Ground.data }, { on := 8, ground := Ground.data }, { on := 6, ground := Ground.chain }, { on := 0, ground := Ground.phase }, { on := 1, ground := Ground.phase }, { on := 2, ground := Ground.phase }, { on := 3, ground := Ground.phase }, { on := 4, ground := Ground.phase }, { on := 5, ground := Ground.phase }, { on := 6, ground := Ground.phase }, { on := 7, ground := Ground.phase }, { on := 8, ground := Ground.phase }, { on := 9, ground := Ground.phase }], guard := none }) rfl (fun K hK => ?_) AllReadyH.nil
        obtain ⟨z0, z1, z2, z3, z4, z5, z6, z7⟩ := row8 TQ.rc
        have zf := fun i => frozen_of_row _ wd.heap.size i _ 34 TQ.rc
        go_simp
        have TQ := TQ.row (.int .u64 (no : Int)) (.int .u64 (time : Int)) (.bool false) (.int .u32 0) (.int .u8 0) (.int .i64 0) (.int .u16 0) (.int .u16 0)
        refine hK.out _ _ (TQ.tb.rl) (fun hHeld => ?_)
        clear hK K
        try simp only [Act.put, List.setIfInBounds_toArray, List.set_cons_zero, List.set_cons_succ]
        refine wpAnyH_done (by kernel_rfl) ?_ _
        try unfold NoPanic
        go_wp2
        go_meet
        case rel => exact ⟨wd.heap.size, rfl, TQ⟩
    case rest =>
      obtain ⟨gc, rfl, TQ⟩ := hcut
      have lq := TQ.tb.l2
      have lg := TQ.l1
      have n1 : ¬ w.heap.size = gc := by omega
      have n2 : ¬ w.heap.size + 1 = gc := by omega
      have n3 : ¬ gc = w.heap.size := by omega
      have n4 : ¬ gc = w.heap.size + 1 := by omega
      go_upto_region 4 with (first
        | (go_at_call 33; (with_reducible refine (takeN_any hd (by omega) _ _ q TQ.tb.pu).mono ?_); rintro e w2 ⟨rfl, P2, G2⟩; replace TQ := TQ.bytes G2 P2; obtain ⟨z0, z1, z2, z3, z4, z5, z6, z7⟩ := row8 TQ.rc; have zf := fun i => frozen_of_row _ gc i _ 34 TQ.rc))
      replace TQ := TQ.set 2 (.bool false)
      simp only [List.setIfInBounds_toArray, List.set_cons_zero, List.set_cons_succ] at TQ
      clear z0 z1 z2 z3 z4 z5 z6 z7 zf
      generalize World.setCell _ _ _ = w3 at *
      obtain ⟨y0, y1, y2, y3, y4, y5, y6, y7⟩ := row8 TQ.tb.rl
      go_upto_region 7 with (first
        | (go_at_call 34; (with_reducible refine (c34 _ q _ TQ.tb.pu).mono ?_); rintro e w4 ⟨rfl, P4, G4⟩; clear y0 y1 y2 y3 y4 y5 y6 y7; replace TQ := TQ.bytes G4 P4; obtain ⟨z0, z1, z2, z3, z4, z5, z6, z7⟩ := row8 TQ.rc; have zf := fun i => frozen_of_row _ gc i _ 34 TQ.rc))
      replace TQ := (TQ.set 3 (.int .u32 (a : Int))).set 4 (.int .u8 (n : Int))
      simp only [List.setIfInBounds_toArray, List.set_cons_zero, List.set_cons_succ] at TQ
      clear z0 z1 z2 z3 z4 z5 z6 z7 zf
      generalize World.setCell (World.setCell w4 _ _) _ _ = w5 at *
      obtain ⟨y0, y1, y2, y3, y4, y5, y6, y7⟩ := row8 TQ.tb.rl
      go_upto_region 8 with (first
        | (go_at_call 19; (with_reducible refine (ahead_any no0 time0 a0 n0 via0 mt0 sq0 g0 L9.out _).mono ?_); rintro e w6 ⟨rfl, B6⟩; replace TQ := TQ.call B6))
      clear y0 y1 y2 y3 y4 y5 y6 y7
      have ZQ := heap_alloc_new w6 (.cells #[.int .u32 (a0 : Int), .int .u8 (n0 : Int), .int .i64 (via0 : Int), .int .u16 (mt0 : Int), .int .u16 (sq0 : Int)] 32)
      have hgz : gc < w6.heap.size := (Array.getElem?_eq_some_iff.1 TQ.rc).1
      replace TQ := TQ.call ((Below.refl _ _).alloc (Nat.le_refl _) (.cells #[.int .u32 (a0 : Int), .int .u8 (n0 : Int), .int .i64 (via0 : Int), .int .u16 (mt0 : Int), .int .u16 (sq0 : Int)] 32))
      generalize World.alloc w6 _ = w7 at *
      generalize w6.heap.size = gz at *
      have n5 : ¬ gz = gc := by omega
      have n6 : ¬ gc = gz := by omega
      obtain ⟨v0, v1, v2, v3, v4⟩ := row5 ZQ
      have ev : (via0 : Int) + ((via : Int) - via0) = via := by omega
      have em : (mt0 : Int) + ((mt : Int) - mt0) = mt := by omega
      have hmw : IntKind.u16.wrap (mt : Int) = mt := by rw [IntKind.wrap_u16]; omega
      have hf3w : IntKind.u16.wrap (f3 : Int) = f3 := by rw [IntKind.wrap_u16]; omega
      go_upto_region 9 with (first
        | (go_at_call 35; have c := tfrom_any (via0 : Int) ((via : Int) - via0) (by omega) (by omega) _ _ q TQ.tb.pu; rw [ev] at c; (with_reducible refine c.mono ?_); rintro e w8 ⟨rfl, P8, G8⟩; clear c v0 v1 v2 v3 v4; replace TQ := TQ.bytes G8 P8; replace ZQ := (G8.block gz (Array.getElem?_eq_some_iff.1 ZQ).1 (fun e => by injection e with e; omega)).trans ZQ; obtain ⟨z0, z1, z2, z3, z4, z5, z6, z7⟩ := row8 TQ.rc; have zf := fun i => frozen_of_row _ gc i _ 34 TQ.rc))
      replace TQ := TQ.set 5 (.int .i64 (via : Int))
      replace ZQ := (Below.heap_setCell w8 ⟨gc, 5, none⟩ (.int .i64 (via : Int)) gz n5).trans ZQ
      simp only [List.setIfInBounds_toArray, List.set_cons_zero, List.set_cons_succ] at TQ
      clear z0 z1 z2 z3 z4 z5 z6 z7 zf
      generalize World.setCell _ _ _ = w9 at *
      obtain ⟨v0, v1, v2, v3, v4⟩ := row5 ZQ
      go_upto_region 10 with (first
        | (go_at_call 35; have c := tfrom_any (mt0 : Int) ((mt : Int) - mt0) (by omega) (by omega) _ _ q TQ.tb.pu; rw [em] at c; (with_reducible refine c.mono ?_); rintro e w10 ⟨rfl, P10, G10⟩; clear c v0 v1 v2 v3 v4; replace TQ := TQ.bytes G10 P10; replace ZQ := (G10.block gz (Array.getElem?_eq_some_iff.1 ZQ).1 (fun e => by injection e with e; omega)).trans ZQ; obtain ⟨z0, z1, z2, z3, z4, z5, z6, z7⟩ := row8 TQ.rc; have zf := fun i => frozen_of_row _ gc i _ 34 TQ.rc))
      replace TQ := TQ.set 6 (.int .u16 (mt : Int))
      replace ZQ := (Below.heap_setCell w10 ⟨gc, 6, none⟩ (.int .u16 (mt : Int)) gz n5).trans ZQ
      simp only [List.setIfInBounds_toArray, List.set_cons_zero, List.set_cons_succ] at TQ
      clear z0 z1 z2 z3 z4 z5 z6 z7 zf
      generalize World.setCell _ _ _ = wv at *
      refine wp_region_noPanic ?_
      replace TQ := TQ.call (Below.refl _ _).drew
      replace ZQ := (Below.refl wv.heap.size wv).drew.block gz (Array.getElem?_eq_some_iff.1 ZQ).1 |>.trans ZQ
      refine wp_region_held_drew (S := fun W : World => W.heap[gz]? = some (.cells #[.int .u32 (a0 : Int), .int .u8 (n0 : Int), .int .i64 (via0 : Int), .int .u16 (mt0 : Int), .int .u16 (sq0 : Int)] 32 (0, 0))) (by kernel_rfl) ZQ (fun hHeld => ?_)
      generalize wv.drew = wd at *
      refine wpAnyH_take (i := 0) (oi := { dst := some 51, op := Op.fieldAddr 32 (Operand.tmp 7) 3, type := 0, pos := "change.go:104", after := #[], guard := none }) (v := .pointer (some ⟨gz, 4, none⟩)) rfl (by kernel_rfl) (by kernel_rfl) (by kernel_rfl) (fun _ _ _ h => h) (Or.inl ⟨by rfl, fun w hSw => by go_simp⟩) (by assumption) ?_
      try simp only [Act.put, List.setIfInBounds_toArray, List.set_cons_zero, List.set_cons_succ]
      refine wpAnyH_take (i := 1) (oi := { dst := some 52, op := Op.load 30 (Operand.tmp 51), type := 30, pos := "change.go:104", after := #[{ on := 0, ground := Ground.data }], guard := none }) (v := .int .u16 (sq0 : Int)) rfl (by kernel_rfl) (by kernel_rfl) (by kernel_rfl) (fun _ _ _ h => h) (Or.inl ⟨by rfl, fun w hSw => by obtain ⟨y0, y1, y2, y3, y4⟩ := row5 hSw; go_simp⟩) (by assumption) ?_
      try simp only [Act.put, List.setIfInBounds_toArray, List.set_cons_zero, List.set_cons_succ]
      refine wpAnyH_take (i := 2) (oi := { dst := some 53, op := Op.move (Operand.tmp 1), type := 61, pos := "change.go:104", after := #[], guard := none }) (v := .pointer (some ⟨q, 0, none⟩)) rfl (by kernel_rfl) (by kernel_rfl) (by kernel_rfl) (fun _ _ _ h => h) (Or.inl ⟨by rfl, fun w hSw => by go_simp⟩) (by assumption) ?_
      try simp only [Act.put, List.setIfInBounds_toArray, List.set_cons_zero, List.set_cons_succ]
      refine wpAnyH_ready (rs := [3]) (by kernel_rfl) (by simp) ?_
      refine AllReadyH.cons (o := { dst := some 54, op := Op.call { callee := Callee.value (Operand.func 33), args := #[Operand.tmp 53, Operand.const (Value.int IntKind.u64 18446744073709551615)], argTypes := #[61, 26] }, type := 26, pos := "change.go:104", after := #[{ on := 2, ground := Ground.data }], guard := none }) rfl (fun K hK => ?_) AllReadyH.nil
      go_simp
      with_reducible refine (takeN_any f3 (by omega) _ _ q TQ.tb.pu).mono ?_
      rintro e w1 ⟨rfl, P1, G1⟩
      have TQ := TQ.bytes G1 P1
      have ZQ := (G1.block gz (Array.getElem?_eq_some_iff.1 ZQ).1 (fun e => by injection e with e; omega)).trans ZQ
      refine hK.out _ _ (ZQ) (fun hHeld => ?_)
      clear hK K
      try simp only [Act.put, List.setIfInBounds_toArray, List.set_cons_zero, List.set_cons_succ]
      refine wpAnyH_take (i := 4) (oi := { dst := some 55, op := Op.convert 26 30 (Operand.tmp 54), type := 30, pos := "change.go:104", after := #[{ on := 3, ground := Ground.data }], guard := none }) (v := .int .u16 (f3 : Int)) rfl (by kernel_rfl) (by kernel_rfl) (by kernel_rfl) (fun _ _ _ h => h) (Or.inl ⟨by rfl, fun w hSw => by have hz := hf3w; go_simp⟩) (by assumption) ?_
      try simp only [Act.put, List.setIfInBounds_toArray, List.set_cons_zero, List.set_cons_succ]
      refine wpAnyH_take (i := 5) (oi := { dst := some 56, op := Op.binOp BinOp.add 30 (Operand.tmp 52) (Operand.tmp 55) 30, type := 30, pos := "change.go:104", after := #[{ on := 1, ground := Ground.data }, { on := 4, ground := Ground.data }], guard := none }) (v := .int .u16 (sq : Int)) rfl (by kernel_rfl) (by kernel_rfl) (by kernel_rfl) (fun _ _ _ h => h) (Or.inl ⟨by rfl, fun w hSw => by have hz := hsq; go_simp⟩) (by assumption) ?_
      try simp only [Act.put, List.setIfInBounds_toArray, List.set_cons_zero, List.set_cons_succ]
      refine wpAnyH_take (i := 6) (oi := { dst := some 57, op := Op.fieldAddr 34 (Operand.tmp 5) 3, type := 0, pos := "change.go:104", after := #[{ on := 0, ground := Ground.phase }, { on := 1, ground := Ground.phase }, { on := 2, ground := Ground.phase }, { on := 3, ground := Ground.phase }, { on := 4, ground := Ground.phase }, { on := 5, ground := Ground.phase }], guard := none }) (v := .pointer (some ⟨gc, 3, none⟩)) rfl (by kernel_rfl) (by kernel_rfl) (by kernel_rfl) (fun _ _ _ h => h) (Or.inl ⟨by rfl, fun w hSw => by go_simp⟩) (by assumption) ?_
      try simp only [Act.put, List.setIfInBounds_toArray, List.set_cons_zero, List.set_cons_succ]
      refine wpAnyH_take (i := 7) (oi := { dst := some 58, op := Op.fieldAddr 32 (Operand.tmp 57) 3, type := 0, pos := "change.go:104", after := #[{ on := 6, ground := Ground.data }, { on := 0, ground := Ground.phase }, { on := 1, ground := Ground.phase }, { on := 2, ground := Ground.phase }, { on := 3, ground := Ground.phase }, { on := 4, ground := Ground.phase }, { on := 5, ground := Ground.phase }], guard := none }) (v := .pointer (some ⟨gc, 7, none⟩)) rfl (by kernel_rfl) (by kernel_rfl) (by kernel_rfl) (fun _ _ _ h => h) (Or.inl ⟨by rfl, fun w hSw => by go_simp⟩) (by assumption) ?_
      try simp only [Act.put, List.setIfInBounds_toArray, List.set_cons_zero, List.set_cons_succ]
      refine wpAnyH_ready (rs := [8]) (by kernel_rfl) (by simp) ?_
      refine AllReadyH.cons (o := { dst := none, op := Op.store 30 (Operand.tmp 58) (Operand.tmp 56), type := 0, pos := "change.go:104", after := #[{ on := 7, ground := Ground.data }, { on := 5, ground := Ground.data }, { on := 3, ground := Ground.chain }, { on := 0, ground := Ground.phase }, { on := 1, ground := Ground.phase }, { on := 2, ground := Ground.phase }, { on := 3, ground := Ground.phase }, { on := 4, ground := Ground.phase }, { on := 5, ground := Ground.phase }], guard := none }) rfl (fun K hK => ?_) AllReadyH.nil
      obtain ⟨z0, z1, z2, z3, z4, z5, z6, z7⟩ := row8 TQ.rc
      have zf := fun i => frozen_of_row _ gc i _ 34 TQ.rc
      go_simp
      have TQ := TQ.set 7 (.int .u16 (sq : Int))
      refine hK.out _ _ ((Below.heap_setCell _ ⟨gc, _, none⟩ _ gz n5).trans ZQ) (fun hHeld => ?_)
      clear hK K
      try simp only [Act.put, List.setIfInBounds_toArray, List.set_cons_zero, List.set_cons_succ]
      refine wpAnyH_done (by kernel_rfl) ?_ _
      try unfold NoPanic
      simp only [List.setIfInBounds_toArray, List.set_cons_zero, List.set_cons_succ] at TQ
      generalize World.setCell _ _ _ = wz at *
      obtain ⟨z0, z1, z2, z3, z4, z5, z6, z7⟩ := row8 TQ.rc
      obtain ⟨h0, h1, h2, h3, h4, h5, h6, h7⟩ := row8 TQ.tb.rr
      have hf := fun i => frozen_of_row _ (w.heap.size + 1) i _ 34 TQ.tb.rr
      go_wp2
      exact bodyPost_ret (v := .agg #[.int .u64 (no : Int), .int .u64 (time : Int), .bool false, .int .u32 (a : Int), .int .u8 (n : Int), .int .i64 (via : Int), .int .u16 (mt : Int), .int .u16 (sq : Int)]) (by simp [results, Try.results22, go_sem, h0, h1, h2, h3, h4, h5, h6, h7]) rfl ⟨rfl, TQ.done ..⟩
  · obtain ⟨rfl, rfl, rfl⟩ := C9.out rfl
    simp only [if_true, List.nil_append] at TQ0 hhd
    obtain ⟨hd, hhd2⟩ : ∃ h, h = 16 * n + 2 * s + 1 := ⟨_, rfl⟩
    rw [← hhd2] at TQ0 hhd
    have c34 := fun w q r h => tprefix_any a0 n0 a n 1 s hd l3 l4 c3 c4 c8 (by omega) HS.out hhd2 r w q h
    have hb : (hd : Int) % 2 = 1 := by omega
    have HTQ := Lib.hid TQ0
    clear TQ0 hhd2
    go_enter Try.func22, Try.ntmps22
    go_upto_region 1 with (fail)
    have TQ := HTQ.out
    clear HTQ
    generalize ((w.alloc _).alloc _) = wv at *
    go_cut [5] (fun v5 wx => ∃ gc, v5 = .pointer (some ⟨gc, 0, none⟩) ∧ TK w wx q gc #[.int .u64 no0, .int .u64 time0, .bool g0, .int .u32 a0, .int .u8 n0, .int .i64 via0, .int .u16 mt0, .int .u16 sq0] #[.int .u64 (no : Int), .int .u64 (time : Int), .bool false, .int .u32 0, .int .u8 0, .int .i64 0, .int .u16 0, .int .u16 0] (coin hd ++ ((begun a n).drop s ++ r)))
    case first =>
      refine wp_region_noPanic ?_
      replace TQ := TQ.call (Below.refl _ _).drew
      refine wp_region_held_drew (S := fun W : World => W.heap[w.heap.size]? = some (.cells #[.int .u64 no0, .int .u64 time0, .bool g0, .int .u32 a0, .int .u8 n0, .int .i64 via0, .int .u16 mt0, .int .u16 sq0] 34 (0, 0))) (by kernel_rfl) TQ.rl (fun hHeld => ?_)
      generalize wv.drew = wd at *
      refine wpAnyH_take (i := 0) (oi := { dst := some 8, op := Op.fieldAddr 34 (Operand.tmp 2) 0, type := 0, pos := "change.go:94", after := #[], guard := none }) (v := .pointer (some ⟨w.heap.size, 0, none⟩)) rfl (by kernel_rfl) (by kernel_rfl) (by kernel_rfl) (fun _ _ _ h => h) (Or.inl ⟨by rfl, fun w hSw => by go_simp⟩) (by assumption) ?_
      try simp only [Act.put, List.setIfInBounds_toArray, List.set_cons_zero, List.set_cons_succ]
      refine wpAnyH_take (i := 1) (oi := { dst := some 9, op := Op.load 26 (Operand.tmp 8), type := 26, pos := "change.go:94", after := #[{ on := 0, ground := Ground.data }], guard := none }) (v := .int .u64 (no0 : Int)) rfl (by kernel_rfl) (by kernel_rfl) (by kernel_rfl) (fun _ _ _ h => h) (Or.inl ⟨by rfl, fun w hSw => by obtain ⟨y0, y1, y2, y3, y4, y5, y6, y7⟩ := row8 hSw; go_simp⟩) (by assumption) ?_
      try simp only [Act.put, List.setIfInBounds_toArray, List.set_cons_zero, List.set_cons_succ]
      refine wpAnyH_take (i := 2) (oi := { dst := some 10, op := Op.binOp BinOp.add 26 (Operand.tmp 9) (Operand.const (Value.int IntKind.u64 1)) 26, type := 26, pos := "change.go:94", after := #[{ on := 1, ground := Ground.data }], guard := none }) (v := .int .u64 (no : Int)) rfl (by kernel_rfl) (by kernel_rfl) (by kernel_rfl) (fun _ _ _ h => h) (Or.inl ⟨by rfl, fun w hSw => by have hz := hno; go_simp⟩) (by assumption) ?_
      try simp only [Act.put, List.setIfInBounds_toArray, List.set_cons_zero, List.set_cons_succ]
      refine wpAnyH_take (i := 3) (oi := { dst := some 11, op := Op.fieldAddr 34 (Operand.tmp 2) 1, type := 0, pos := "change.go:94", after := #[], guard := none }) (v := .pointer (some ⟨w.heap.size, 1, none⟩)) rfl (by kernel_rfl) (by kernel_rfl) (by kernel_rfl) (fun _ _ _ h => h) (Or.inl ⟨by rfl, fun w hSw => by go_simp⟩) (by assumption) ?_
      try simp only [Act.put, List.setIfInBounds_toArray, List.set_cons_zero, List.set_cons_succ]
      refine wpAnyH_take (i := 4) (oi := { dst := some 12, op := Op.load 26 (Operand.tmp 11), type := 26, pos := "change.go:94", after := #[{ on := 3, ground := Ground.data }], guard := none }) (v := .int .u64 (time0 : Int)) rfl (by kernel_rfl) (by kernel_rfl) (by kernel_rfl) (fun _ _ _ h => h) (Or.inl ⟨by rfl, fun w hSw => by obtain ⟨y0, y1, y2, y3, y4, y5, y6, y7⟩ := row8 hSw; go_simp⟩) (by assumption) ?_
      try simp only [Act.put, List.setIfInBounds_toArray, List.set_cons_zero, List.set_cons_succ]
      refine wpAnyH_take (i := 5) (oi := { dst := some 13, op := Op.move (Operand.tmp 1), type := 61, pos := "change.go:94", after := #[], guard := none }) (v := .pointer (some ⟨q, 0, none⟩)) rfl (by kernel_rfl) (by kernel_rfl) (by kernel_rfl) (fun _ _ _ h => h) (Or.inl ⟨by rfl, fun w hSw => by go_simp⟩) (by assumption) ?_
      try simp only [Act.put, List.setIfInBounds_toArray, List.set_cons_zero, List.set_cons_succ]
      refine wpAnyH_ready (rs := [6, 9]) (by kernel_rfl) (by simp) ?_
      refine (AllReadyH.cons (o := { dst := some 14, op := Op.call { callee := Callee.value (Operand.func 33), args := #[Operand.tmp 13, Operand.const (Value.int IntKind.u64 18446744073709551615)], argTypes := #[61, 26] }, type := 26, pos := "change.go:94", after := #[{ on := 5, ground := Ground.data }], guard := none }) rfl (fun K hK => ?_) (AllReadyH.cons (o := { dst := some 5, op := Op.alloc 34, type := 0, pos := "change.go:94", after := #[], guard := none }) rfl (fun K hK => ?_) AllReadyH.nil))
      · go_simp
        with_reducible refine (takeN_any dt hdt _ _ q TQ.pu).mono ?_
        rintro e w1 ⟨rfl, P1, G1⟩
        have TQ := TQ.bytes G1 P1
        refine hK.out _ _ (TQ.rl) (fun hHeld => ?_)
        clear hK K
        try simp only [Act.put, List.setIfInBounds_toArray, List.set_cons_zero, List.set_cons_succ]
        refine wpAnyH_take (i := 7) (oi := { dst := some 15, op := Op.binOp BinOp.add 26 (Operand.tmp 12) (Operand.tmp 14) 26, type := 26, pos := "change.go:94", after := #[{ on := 4, ground := Ground.data }, { on := 6, ground := Ground.data }], guard := none }) (v := .int .u64 (time : Int)) rfl (by kernel_rfl) (by kernel_rfl) (by kernel_rfl) (fun _ _ _ h => h) (Or.inl ⟨by rfl, fun w hSw => by have hz := htm; go_simp⟩) (by assumption) ?_
        try simp only [Act.put, List.setIfInBounds_toArray, List.set_cons_zero, List.set_cons_succ]
        refine wpAnyH_take (i := 8) (oi := { dst := some 16, op := Op.build 34 #[(0, Operand.tmp 10), (1, Operand.tmp 15)], type := 34, pos := "change.go:94", after := #[{ on := 2, ground := Ground.data }, { on := 7, ground := Ground.data }], guard := none }) (v := .agg #[.int .u64 (no : Int), .int .u64 (time : Int), .bool false, .int .u32 0, .int .u8 0, .int .i64 0, .int .u16 0, .int .u16 0]) rfl (by kernel_rfl) (by kernel_rfl) (by kernel_rfl) (fun _ _ _ h => h) (Or.inl ⟨by rfl, fun w hSw => by go_simp⟩) (by assumption) ?_
        try simp only [Act.put, List.setIfInBounds_toArray, List.set_cons_zero, List.set_cons_succ]
        refine wpAnyH_ready (rs := [9]) (by kernel_rfl) (by simp) ?_
        refine AllReadyH.cons (o := { dst := some 5, op := Op.alloc 34, type := 0, pos := "change.go:94", after := #[], guard := none }) rfl (fun K hK => ?_) AllReadyH.nil
        go_simp
        have TN := TQ
        have TQ := TQ.new #[.int .u64 0, .int .u64 0, .bool false, .int .u32 0, .int .u8 0, .int .i64 0, .int .u16 0, .int .u16 0]
        refine hK.out _ _ (TQ.tb.rl) (fun hHeld => ?_)
        clear hK K
        try simp only [Act.put, List.setIfInBounds_toArray, List.set_cons_zero, List.set_cons_succ]
        refine wpAnyH_ready (rs := [10]) (by kernel_rfl) (by simp) ?_
        refine AllReadyH.cons (o := { dst := none, op := Op.store 34 (Operand.tmp 5) (Operand.tmp 16), type := 0, pos := "change.go:94", after := #[{ on := 9, ground := Ground.data }, { on := 8, ground := Ground.data }, { on := 6, ground := Ground.chain }, { on := 0, ground := Ground.phase }, { on := 1, ground := Ground.phase }, { on := 2, ground := Ground.phase }, { on := 3, ground := Ground.phase }, { on := 4, ground := Ground.phase }, { on := 5, ground := Ground.phase }, { on := 6, ground := Ground.phase }, { on := 7, ground := Ground.phase }, { on := 8, ground := Ground.phase }, { on := 9, ground := Ground.phase }], guard := none }) rfl (fun K hK => ?_) AllReadyH.nil
        obtain ⟨z0, z1, z2, z3, z4, z5, z6, z7⟩ := row8 TQ.rc
        have zf := fun i => frozen_of_row _ w1.heap.size i _ 34 TQ.rc
        go_simp
        replace TQ := TN.new #[.int .u64 (no : Int), .int .u64 (time : Int), .bool false, .int .u32 0, .int .u8 0, .int .i64 0, .int .u16 0, .int .u16 0]
        refine hK.out _ _ (TQ.tb.rl) (fun hHeld => ?_)
        clear hK K
        try simp only [Act.put, List.setIfInBounds_toArray, List.set_cons_zero, List.set_cons_succ]
        refine wpAnyH_done (by kernel_rfl) ?_ _
        try unfold NoPanic
        go_wp2
        go_meet
        case rel => exact ⟨w1.heap.size, rfl, TQ⟩
      · go_simp
        have TQ := TQ.new #[.int .u64 0, .int .u64 0, .bool false, .int .u32 0, .int .u8 0, .int .i64 0, .int .u16 0, .int .u16 0]
        refine hK.out _ _ (TQ.tb.rl) (fun hHeld => ?_)
        clear hK K
        try simp only [Act.put, List.setIfInBounds_toArray, List.set_cons_zero, List.set_cons_succ]
        refine wpAnyH_ready (rs := [6]) (by kernel_rfl) (by simp) ?_
        refine AllReadyH.cons (o := { dst := some 14, op := Op.call { callee := Callee.value (Operand.func 33), args := #[Operand.tmp 13, Operand.const (Value.int IntKind.u64 18446744073709551615)], argTypes := #[61, 26] }, type := 26, pos := "change.go:94", after := #[{ on := 5, ground := Ground.data }], guard := none }) rfl (fun K hK => ?_) AllReadyH.nil
        go_simp
        with_reducible refine (takeN_any dt hdt _ _ q TQ.tb.pu).mono ?_
        rintro e w1 ⟨rfl, P1, G1⟩
        have TQ := TQ.bytes G1 P1
        refine hK.out _ _ (TQ.tb.rl) (fun hHeld => ?_)
        clear hK K
        try simp only [Act.put, List.setIfInBounds_toArray, List.set_cons_zero, List.set_cons_succ]
        refine wpAnyH_take (i := 7) (oi := { dst := some 15, op := Op.binOp BinOp.add 26 (Operand.tmp 12) (Operand.tmp 14) 26, type := 26, pos := "change.go:94", after := #[{ on := 4, ground := Ground.data }, { on := 6, ground := Ground.data }], guard := none }) (v := .int .u64 (time : Int)) rfl (by kernel_rfl) (by kernel_rfl) (by kernel_rfl) (fun _ _ _ h => h) (Or.inl ⟨by rfl, fun w hSw => by have hz := htm; go_simp⟩) (by assumption) ?_
        try simp only [Act.put, List.setIfInBounds_toArray, List.set_cons_zero, List.set_cons_succ]
        refine wpAnyH_take (i := 8) (oi := { dst := some 16, op := Op.build 34 #[(0, Operand.tmp 10), (1, Operand.tmp 15)], type := 34, pos := "change.go:94", after := #[{ on := 2, ground := Ground.data }, { on := 7, ground := Ground.data }], guard := none }) (v := .agg #[.int .u64 (no : Int), .int .u64 (time : Int), .bool false, .int .u32 0, .int .u8 0, .int .i64 0, .int .u16 0, .int .u16 0]) rfl (by kernel_rfl) (by kernel_rfl) (by kernel_rfl) (fun _ _ _ h => h) (Or.inl ⟨by rfl, fun w hSw => by go_simp⟩) (by assumption) ?_
        try simp only [Act.put, List.setIfInBounds_toArray, List.set_cons_zero, List.set_cons_succ]
        refine wpAnyH_ready (rs := [10]) (by kernel_rfl) (by simp) ?_
        refine AllReadyH.cons (o := { dst := none, op := Op.store 34 (Operand.tmp 5) (Operand.tmp 16), type := 0, pos := "change.go:94", after := #[{ on := 9, ground := Ground.data }, { on := 8, ground := Ground.data }, { on := 6, ground := Ground.chain }, { on := 0, ground := Ground.phase }, { on := 1, ground := Ground.phase }, { on := 2, ground := Ground.phase }, { on := 3, ground := Ground.phase }, { on := 4, ground := Ground.phase }, { on := 5, ground := Ground.phase }, { on := 6, ground := Ground.phase }, { on := 7, ground := Ground.phase }, { on := 8, ground := Ground.phase }, { on := 9, ground := Ground.phase }], guard := none }) rfl (fun K hK => ?_) AllReadyH.nil
        obtain ⟨z0, z1, z2, z3, z4, z5, z6, z7⟩ := row8 TQ.rc
        have zf := fun i => frozen_of_row _ wd.heap.size i _ 34 TQ.rc
        go_simp
        have TQ := TQ.row (.int .u64 (no : Int)) (.int .u64 (time : Int)) (.bool false) (.int .u32 0) (.int .u8 0) (.int .i64 0) (.int .u16 0) (.int .u16 0)
        refine hK.out _ _ (TQ.tb.rl) (fun hHeld => ?_)
        clear hK K
        try simp only [Act.put, List.setIfInBounds_toArray, List.set_cons_zero, List.set_cons_succ]
        refine wpAnyH_done (by kernel_rfl) ?_ _
        try unfold NoPanic
        go_wp2
        go_meet
        case rel => exact ⟨wd.heap.size, rfl, TQ⟩
    case rest =>
      obtain ⟨gc, rfl, TQ⟩ := hcut
      have lq := TQ.tb.l2
      have lg := TQ.l1
      have n1 : ¬ w.heap.size = gc := by omega
      have n2 : ¬ w.heap.size + 1 = gc := by omega
      have n3 : ¬ gc = w.heap.size := by omega
      have n4 : ¬ gc = w.heap.size + 1 := by omega
      go_upto_region 4 with (first
        | (go_at_call 33; (with_reducible refine (takeN_any hd (by omega) _ _ q TQ.tb.pu).mono ?_); rintro e w2 ⟨rfl, P2, G2⟩; replace TQ := TQ.bytes G2 P2; obtain ⟨z0, z1, z2, z3, z4, z5, z6, z7⟩ := row8 TQ.rc; have zf := fun i => frozen_of_row _ gc i _ 34 TQ.rc))
      replace TQ := TQ.set 2 (.bool true)
      simp only [List.setIfInBounds_toArray, List.set_cons_zero, List.set_cons_succ] at TQ
      clear z0 z1 z2 z3 z4 z5 z6 z7 zf
      generalize World.setCell _ _ _ = w3 at *
      obtain ⟨y0, y1, y2, y3, y4, y5, y6, y7⟩ := row8 TQ.tb.rl
      go_wp2_with (first
        | (go_at_call 34; (with_reducible refine (c34 _ q _ TQ.tb.pu).mono ?_); rintro e w4 ⟨rfl, P4, G4⟩; clear y0 y1 y2 y3 y4 y5 y6 y7; replace TQ := TQ.bytes G4 P4; obtain ⟨z0, z1, z2, z3, z4, z5, z6, z7⟩ := row8 TQ.rc; have zf := fun i => frozen_of_row _ gc i _ 34 TQ.rc; obtain ⟨h0, h1, h2, h3, h4, h5, h6, h7⟩ := row8 TQ.tb.rr; have hf := fun i => frozen_of_row _ (w.heap.size + 1) i _ 34 TQ.tb.rr))
      have TQ := (TQ.set 3 (.int .u32 (a : Int))).set 4 (.int .u8 (n : Int))
      exact bodyPost_ret (v := .agg #[.int .u64 (no : Int), .int .u64 (time : Int), .bool true, .int .u32 (a : Int), .int .u8 (n : Int), .int .i64 0, .int .u16 0, .int .u16 0]) (by simp [results, Try.results22, go_sem, h0, h1, h2, h3, h4, h5, h6, h7]) rfl ⟨rfl, TQ.done ..⟩
end Go.Proofs.Ytmkclggnbnomhaa.Chg

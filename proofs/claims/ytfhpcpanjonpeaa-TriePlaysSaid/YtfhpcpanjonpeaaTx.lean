/- Tries of routes in memory: what is dropped though it is not there. -/
import Derived.Test.YtfhpcpanjonpeaaTi
import Derived.Deep.DeepCutAuto
import Derived.Deep.RegionHeld3
namespace Go.Proofs.Ytfhpcpanjonpeaa.Tri
open Pre
open Go.ChangeShapes Go.WideShapes Go.ChangeAt Go.RowKit

theorem needed_stays (a n q : Nat) (x : Option R) (l rr : T) (w : World) (bs : List Nat) (h : At w (.node a n x l rr) (.pointer (some ⟨q, 0, none⟩)) bs) (ht : x = none → l.isNil = false ∧ rr.isNil = false) :
    Calls Try.prog 33 #[.pointer (some ⟨q, 0, none⟩)] w fun e w' => e = .returned (.pointer (some ⟨q, 0, none⟩)) ∧ w = w' := by
  obtain ⟨q', vl, vr, bl, br, hv, hbs, hq, hl, hr⟩ := h
  injection hv with hv
  injection hv with hv
  injection hv with hv
  subst hv
  obtain ⟨p0, p1, p2, p8, p9⟩ := placeN hq
  clear hbs hq
  cases x with
  | some y =>
    clear hl hr ht
    go_enter Try.func33, Try.ntmps33
    go_wp2
    go_ret
    exact ⟨rfl, rfl⟩
  | none =>
    have hE := eqw
    obtain ⟨h1, h2⟩ := ht rfl
    cases l with
    | nil => cases h1
    | node b m y c d =>
      obtain ⟨q2, _, _, _, _, rfl, _⟩ := hl
      cases rr with
      | nil => cases h2
      | node b' m' y' c' d' =>
        obtain ⟨q3, _, _, _, _, rfl, _⟩ := hr
        clear h1 h2 ht
        go_enter Try.func33, Try.ntmps33
        go_wp2
        go_ret
        exact ⟨rfl, rfl⟩
/-- Nothing there: nothing changes. -/
def NotSaid (t : T) (b m : Nat) : Prop := ∀ (w : World) (v : Value) (bs : List Nat), At w t v bs → bs.Nodup →
  Calls Try.prog 24 #[v, .agg #[.int .u32 (b : Int), .int .u8 (m : Int)]] w fun e w' => e = .returned (.tuple #[v, .bool false]) ∧ At w' t v bs ∧ Grew w w' bs
theorem not_nil (b m : Nat) : NotSaid .nil b m := by
  intro w v bs h _
  obtain ⟨rfl, rfl⟩ := h
  go_enter Try.func24, Try.ntmps24
  go_wp2
  go_ret2
  exact ⟨rfl, ⟨rfl, rfl⟩, below_grew ((Below.refl _ _).alloc (Nat.le_refl _) _) _⟩
theorem dropN0 {w : World} {q a n : Nat} {vl vr : Value} (h : w.heap[q]? = some (.cells (cellsN a n none vl vr) 64 (0, 0))) : ((((((w.setCell ⟨q, 2, none⟩ (.bool false)).setCell ⟨q, 3, none⟩ (.int .u32 0)).setCell ⟨q, 4, none⟩ (.int .u8 0)).setCell ⟨q, 5, none⟩ (.int .i64 0)).setCell ⟨q, 6, none⟩ (.int .u16 0)).setCell ⟨q, 7, none⟩ (.int .u16 0)).heap[q]? = some (.cells (cellsN a n none vl vr) 64 (0, 0)) := dropN h
set_option maxRecDepth 8000 in
set_option maxHeartbeats 8000000 in
theorem not_node (a n : Nat) (x : Option R) (l rr : T) (b m : Nat) (hb : b < 4294967296) (hn : n ≤ 32) (htt : x = none → l.isNil = false ∧ rr.isNil = false) (hno : ¬(b = a ∧ m = n) ∨ x = none) (hl : ¬(b = a ∧ m = n) → sd b n = false → NotSaid l b m) (hr : ¬(b = a ∧ m = n) → sd b n = true → NotSaid rr b m) : NotSaid (.node a n x l rr) b m := by
  intro w v bs hAt hnd
  obtain ⟨q, vl, vr, bl, br, rfl, rfl, hq, hAl, hAr⟩ := hAt
  obtain ⟨pl, rfl⟩ := hAl.ptr
  obtain ⟨pr, rfl⟩ := hAr.ptr
  have c25 := fun W h => side_any a n b q x (.pointer pl) (.pointer pr) hb hn W h
  have R0 := heap_alloc_new w (.cells #[.int .u32 (b : Int), .int .u8 (m : Int)] 32)
  have B0 : Below w.heap.size w (w.alloc (.cells #[.int .u32 (b : Int), .int .u8 (m : Int)] 32)) := (Below.refl _ _).alloc (Nat.le_refl _) _
  have hqs := (Array.getElem?_eq_some_iff.1 hq).1
  have HB := Lib.hid R0
  have HQ := Lib.hid ((B0.block _ hqs).trans hq)
  have HG := Lib.hid B0
  have HT := Lib.hid (And.intro hAl hAr)
  have HND := Lib.hid hnd
  have hwq : w.heap.size ≠ q := by omega
  clear hq B0 R0 hAl hAr hnd
  by_cases he : b = a ∧ m = n
  · obtain rfl : x = none := hno.resolve_left fun e => e he
    obtain ⟨rfl, rfl⟩ := he
    have HTT := Lib.hid htt
    clear c25 hl hr hno htt
    go_enter Try.func24, Try.ntmps24
    go_upto_region 3 with (fail)
    generalize w.alloc _ = wv at *
    refine wp_region_noPanic ?_
    refine wp_region_held_drew (S := fun W : World => Below wv.heap.size wv W) (by kernel_rfl) ((Below.refl _ _).drew) (fun hHeld => ?_)
    generalize wv.drew = wd3 at *
    refine wpAnyH_take (i := 0) (oi := { dst := some 12, op := Op.load 32 (Operand.tmp 3), type := 32, pos := "place.go:53", after := #[], guard := none }) (v := .agg #[.int .u32 (b : Int), .int .u8 (m : Int)]) rfl (by kernel_rfl) (by kernel_rfl) (by kernel_rfl) (fun _ _ _ h => h) (Or.inl ⟨by rfl, fun w hSw => by obtain ⟨y0, y1⟩ := row2 ((hSw.block _ (Array.getElem?_eq_some_iff.1 HB.out).1).trans HB.out); go_simp⟩) (by assumption) ?_
    try simp only [Act.put, List.setIfInBounds_toArray, List.set_cons_zero, List.set_cons_succ]
    refine wpAnyH_take (i := 1) (oi := { dst := some 13, op := Op.move (Operand.tmp 0), type := 26, pos := "place.go:53", after := #[], guard := none }) (v := .pointer (some ⟨q, 0, none⟩)) rfl (by kernel_rfl) (by kernel_rfl) (by kernel_rfl) (fun _ _ _ h => h) (Or.inl ⟨by rfl, fun w hSw => by go_simp⟩) (by assumption) ?_
    try simp only [Act.put, List.setIfInBounds_toArray, List.set_cons_zero, List.set_cons_succ]
    refine wpAnyH_take (i := 2) (oi := { dst := some 14, op := Op.nilCheck (Operand.tmp 13), type := 0, pos := "place.go:53", after := #[{ on := 1, ground := Ground.data }], guard := none }) (v := .pointer (some ⟨q, 0, none⟩)) rfl (by kernel_rfl) (by kernel_rfl) (by kernel_rfl) (fun _ _ _ h => h) (Or.inl ⟨by rfl, fun w hSw => by go_simp⟩) (by assumption) ?_
    try simp only [Act.put, List.setIfInBounds_toArray, List.set_cons_zero, List.set_cons_succ]
    refine wpAnyH_take (i := 3) (oi := { dst := some 15, op := Op.fieldAddr 64 (Operand.tmp 14) 0, type := 0, pos := "place.go:53", after := #[{ on := 2, ground := Ground.data }], guard := none }) (v := .pointer (some ⟨q, 0, none⟩)) rfl (by kernel_rfl) (by kernel_rfl) (by kernel_rfl) (fun _ _ _ h => h) (Or.inl ⟨by rfl, fun w hSw => by go_simp⟩) (by assumption) ?_
    try simp only [Act.put, List.setIfInBounds_toArray, List.set_cons_zero, List.set_cons_succ]
    refine wpAnyH_take (i := 4) (oi := { dst := some 16, op := Op.load 32 (Operand.tmp 15), type := 32, pos := "place.go:53", after := #[{ on := 3, ground := Ground.data }], guard := none }) (v := .agg #[.int .u32 (b : Int), .int .u8 (m : Int)]) rfl (by kernel_rfl) (by kernel_rfl) (by kernel_rfl) (fun _ _ _ h => h) (Or.inl ⟨by rfl, fun w hSw => by obtain ⟨k0, k1, k2, k8, k9⟩ := placeN ((hSw.block _ (Array.getElem?_eq_some_iff.1 HQ.out).1).trans HQ.out); go_simp⟩) (by assumption) ?_
    try simp only [Act.put, List.setIfInBounds_toArray, List.set_cons_zero, List.set_cons_succ]
    refine wpAnyH_take (i := 5) (oi := { dst := some 17, op := Op.binOp BinOp.eql 32 (Operand.tmp 12) (Operand.tmp 16) 32, type := 4, pos := "place.go:53", after := #[{ on := 0, ground := Ground.data }, { on := 4, ground := Ground.data }], guard := none }) (v := .bool true) rfl (by kernel_rfl) (by kernel_rfl) (by kernel_rfl) (fun _ _ _ h => h) (Or.inl ⟨by rfl, fun w hSw => by go_simp⟩) (by assumption) ?_
    try simp only [Act.put, List.setIfInBounds_toArray, List.set_cons_zero, List.set_cons_succ]
    refine wpAnyH_done (by kernel_rfl) ?_ _
    try unfold NoPanic
    have HB6 := Lib.hid ((hHeld.block _ (Array.getElem?_eq_some_iff.1 HB.out).1).trans HB.out)
    have HQ6 := Lib.hid ((hHeld.block _ (Array.getElem?_eq_some_iff.1 HQ.out).1).trans HQ.out)
    have HG6 := Lib.hid (HG.out.trans (hHeld.mono HG.out.size))
    clear HB HQ HG hHeld
    obtain ⟨k0, k1, k2, k8, k9⟩ := placeN HQ6.out
    obtain ⟨xa, xn, xv, xm, xs, ⟨k3, k4, k5, k6, k7⟩, -⟩ := routeN HQ6.out
    have fz := fun i => frozenN HQ6.out i
    go_upto_region 6 with (fail)
    have hfar := sets_far wd3 q (.bool false) (.int .u32 0) (.int .u8 0) (.int .i64 0) (.int .u16 0) (.int .u16 0)
    have hput := dropN HQ6.out
    have hgr := sets_grew (below_grew HG6.out (q :: (bl ++ br))) q (by simp) (.bool false) (.int .u32 0) (.int .u8 0) (.int .i64 0) (.int .u16 0) (.int .u16 0)
    have HF := Lib.hid (And.intro hfar (And.intro hput hgr))
    clear hfar hput hgr k0 k1 k2 k3 k4 k5 k6 k7 k8 k9 fz
    generalize World.setCell (World.setCell (World.setCell (World.setCell (World.setCell (World.setCell wd3 _ _) _ _) _ _) _ _) _ _) _ _ = wz at *
    have kp : ∀ k, k ∈ bl ++ br → wz.heap[k]? = w.heap[k]? := fun k hk => by
      have hbq : k ≠ q := fun e => by subst e; exact (List.nodup_cons.1 HND.out).1 hk
      have hbs : k < w.heap.size := by
        rcases List.mem_append.1 hk with e | e
        · exact HT.out.1.lt k e
        · exact HT.out.2.lt k e
      exact (HF.out.1 k hbq).trans (HG6.out.block k hbs)
    have A7 : At wz (.node b m none l rr) (.pointer (some ⟨q, 0, none⟩)) (q :: (bl ++ br)) := ⟨q, _, _, bl, br, rfl, rfl, HF.out.2.1, HT.out.1.keep fun k hk => kp k (by simp [hk]), HT.out.2.keep fun k hk => kp k (by simp [hk])⟩
    have c33 := needed_stays b m q none l rr wz _ A7 (fun _ => HTT.out trivial)
    have HA7 := Lib.hid A7
    clear kp A7
    go_wp2_with (first
      | (go_at_call 33; (with_reducible refine c33.mono ?_); rintro e w8 ⟨rfl, hw8⟩; rw [← hw8]; clear hw8 w8))
    go_ret2
    exact ⟨rfl, HA7.out, HF.out.2.2⟩
  · have HNE := Lib.hid he
    have hnl : q ∉ bl ∧ q ∉ br ∧ bl.Nodup ∧ br.Nodup := by
      have h := HND.out
      rw [List.nodup_cons, List.nodup_append] at h
      exact ⟨fun e => h.1 (by simp [e]), fun e => h.1 (by simp [e]), h.2.1, h.2.2.1⟩
    have hxl : w.heap.size ∉ bl := fun e => Nat.lt_irrefl _ (HT.out.1.lt _ e)
    have hxr : w.heap.size ∉ br := fun e => Nat.lt_irrefl _ (HT.out.2.lt _ e)
    have hlx := hl he
    have hrx := hr he
    have HTT := Lib.hid htt
    clear he hl hr htt hno
    cases hs : sd b n
    · have hIH := hlx hs
      unfold NotSaid at hIH
      rw [hs] at c25
      simp only [Bool.false_eq_true, if_false] at c25
      have hqn := hnl.1
      have hnb := hnl.2.2.1
      have hxn := hxl
      clear hnl hxl hxr hlx hrx
      go_enter Try.func24, Try.ntmps24
      go_upto_region 3 with (fail)
      generalize w.alloc _ = wv at *
      refine wp_region_noPanic ?_
      refine wp_region_held_drew (S := fun W : World => Below wv.heap.size wv W) (by kernel_rfl) ((Below.refl _ _).drew) (fun hHeld => ?_)
      generalize wv.drew = wd3 at *
      refine wpAnyH_take (i := 0) (oi := { dst := some 12, op := Op.load 32 (Operand.tmp 3), type := 32, pos := "place.go:53", after := #[], guard := none }) (v := .agg #[.int .u32 (b : Int), .int .u8 (m : Int)]) rfl (by kernel_rfl) (by kernel_rfl) (by kernel_rfl) (fun _ _ _ h => h) (Or.inl ⟨by rfl, fun w hSw => by obtain ⟨y0, y1⟩ := row2 ((hSw.block _ (Array.getElem?_eq_some_iff.1 HB.out).1).trans HB.out); go_simp⟩) (by assumption) ?_
      try simp only [Act.put, List.setIfInBounds_toArray, List.set_cons_zero, List.set_cons_succ]
      refine wpAnyH_take (i := 1) (oi := { dst := some 13, op := Op.move (Operand.tmp 0), type := 26, pos := "place.go:53", after := #[], guard := none }) (v := .pointer (some ⟨q, 0, none⟩)) rfl (by kernel_rfl) (by kernel_rfl) (by kernel_rfl) (fun _ _ _ h => h) (Or.inl ⟨by rfl, fun w hSw => by go_simp⟩) (by assumption) ?_
      try simp only [Act.put, List.setIfInBounds_toArray, List.set_cons_zero, List.set_cons_succ]
      refine wpAnyH_take (i := 2) (oi := { dst := some 14, op := Op.nilCheck (Operand.tmp 13), type := 0, pos := "place.go:53", after := #[{ on := 1, ground := Ground.data }], guard := none }) (v := .pointer (some ⟨q, 0, none⟩)) rfl (by kernel_rfl) (by kernel_rfl) (by kernel_rfl) (fun _ _ _ h => h) (Or.inl ⟨by rfl, fun w hSw => by go_simp⟩) (by assumption) ?_
      try simp only [Act.put, List.setIfInBounds_toArray, List.set_cons_zero, List.set_cons_succ]
      refine wpAnyH_take (i := 3) (oi := { dst := some 15, op := Op.fieldAddr 64 (Operand.tmp 14) 0, type := 0, pos := "place.go:53", after := #[{ on := 2, ground := Ground.data }], guard := none }) (v := .pointer (some ⟨q, 0, none⟩)) rfl (by kernel_rfl) (by kernel_rfl) (by kernel_rfl) (fun _ _ _ h => h) (Or.inl ⟨by rfl, fun w hSw => by go_simp⟩) (by assumption) ?_
      try simp only [Act.put, List.setIfInBounds_toArray, List.set_cons_zero, List.set_cons_succ]
      refine wpAnyH_take (i := 4) (oi := { dst := some 16, op := Op.load 32 (Operand.tmp 15), type := 32, pos := "place.go:53", after := #[{ on := 3, ground := Ground.data }], guard := none }) (v := .agg #[.int .u32 (a : Int), .int .u8 (n : Int)]) rfl (by kernel_rfl) (by kernel_rfl) (by kernel_rfl) (fun _ _ _ h => h) (Or.inl ⟨by rfl, fun w hSw => by obtain ⟨k0, k1, k2, k8, k9⟩ := placeN ((hSw.block _ (Array.getElem?_eq_some_iff.1 HQ.out).1).trans HQ.out); go_simp⟩) (by assumption) ?_
      try simp only [Act.put, List.setIfInBounds_toArray, List.set_cons_zero, List.set_cons_succ]
      refine wpAnyH_take (i := 5) (oi := { dst := some 17, op := Op.binOp BinOp.eql 32 (Operand.tmp 12) (Operand.tmp 16) 32, type := 4, pos := "place.go:53", after := #[{ on := 0, ground := Ground.data }, { on := 4, ground := Ground.data }], guard := none }) (v := .bool false) rfl (by kernel_rfl) (by kernel_rfl) (by kernel_rfl) (fun _ _ _ h => h) (Or.inl ⟨by rfl, fun w hSw => by have hnn := HNE.out; go_simp; intro g1 g2; exact hnn ⟨by omega, by omega⟩⟩) (by assumption) ?_
      try simp only [Act.put, List.setIfInBounds_toArray, List.set_cons_zero, List.set_cons_succ]
      refine wpAnyH_done (by kernel_rfl) ?_ _
      try unfold NoPanic
      have HB6 := Lib.hid ((hHeld.block _ (Array.getElem?_eq_some_iff.1 HB.out).1).trans HB.out)
      have HQ6 := Lib.hid ((hHeld.block _ (Array.getElem?_eq_some_iff.1 HQ.out).1).trans HQ.out)
      have HG6 := Lib.hid (HG.out.trans (hHeld.mono HG.out.size))
      clear HB HQ HG hHeld
      generalize wd3 = w9 at *
      obtain ⟨y0, y1⟩ := row2 HB6.out
      have c25' := c25 w9 HQ6.out
      go_upto_region 8 with (first
        | (go_at_call 25; (with_reducible refine c25'.mono ?_); rintro e w' ⟨rfl, hw9⟩; rw [← hw9]; clear hw9 w' c25'))
      clear y0 y1
      have HB9 := Lib.hid (((Below.refl w9.heap.size w9).drew.block _ (Array.getElem?_eq_some_iff.1 HB6.out).1).trans HB6.out)
      have HQ9 := Lib.hid (((Below.refl w9.heap.size w9).drew.block _ (Array.getElem?_eq_some_iff.1 HQ6.out).1).trans HQ6.out)
      have HG9 := Lib.hid (HG6.out.trans ((Below.refl w9.heap.size w9).drew.mono HG6.out.size))
      clear HB6 HQ6 HG6
      refine wp_region_noPanic ?_
      refine wp_region_held_drew (S := fun W : World => W.heap[w.heap.size]? = some (.cells #[.int .u32 (b : Int), .int .u8 (m : Int)] 32) ∧ W.heap[q]? = some (.cells (cellsN a n x (.pointer pl) (.pointer pr)) 64 (0, 0))) (by kernel_rfl) ⟨HB9.out, HQ9.out⟩ (fun hHeld => ?_)
      generalize w9.drew = wd9 at *
      refine wpAnyH_take (i := 0) (oi := { dst := some 37, op := Op.move (Operand.tmp 0), type := 26, pos := "place.go:59", after := #[], guard := none }) (v := .pointer (some ⟨q, 0, none⟩)) rfl (by kernel_rfl) (by kernel_rfl) (by kernel_rfl) (fun _ _ _ h => h) (Or.inl ⟨by rfl, fun w hSw => by go_simp⟩) (by assumption) ?_
      try simp only [Act.put, List.setIfInBounds_toArray, List.set_cons_zero, List.set_cons_succ]
      refine wpAnyH_take (i := 1) (oi := { dst := some 38, op := Op.move (Operand.tmp 7), type := 3, pos := "place.go:59", after := #[], guard := none }) (v := .int .i64 0) rfl (by kernel_rfl) (by kernel_rfl) (by kernel_rfl) (fun _ _ _ h => h) (Or.inl ⟨by rfl, fun w hSw => by go_simp⟩) (by assumption) ?_
      try simp only [Act.put, List.setIfInBounds_toArray, List.set_cons_zero, List.set_cons_succ]
      refine wpAnyH_take (i := 2) (oi := { dst := some 39, op := Op.nilCheck (Operand.tmp 37), type := 0, pos := "place.go:59", after := #[{ on := 0, ground := Ground.data }], guard := none }) (v := .pointer (some ⟨q, 0, none⟩)) rfl (by kernel_rfl) (by kernel_rfl) (by kernel_rfl) (fun _ _ _ h => h) (Or.inl ⟨by rfl, fun w hSw => by go_simp⟩) (by assumption) ?_
      try simp only [Act.put, List.setIfInBounds_toArray, List.set_cons_zero, List.set_cons_succ]
      refine wpAnyH_take (i := 3) (oi := { dst := some 40, op := Op.fieldAddr 64 (Operand.tmp 39) 3, type := 0, pos := "place.go:59", after := #[{ on := 2, ground := Ground.data }], guard := none }) (v := .pointer (some ⟨q, 8, none⟩)) rfl (by kernel_rfl) (by kernel_rfl) (by kernel_rfl) (fun _ _ _ h => h) (Or.inl ⟨by rfl, fun w hSw => by go_simp⟩) (by assumption) ?_
      try simp only [Act.put, List.setIfInBounds_toArray, List.set_cons_zero, List.set_cons_succ]
      refine wpAnyH_take (i := 4) (oi := { dst := some 41, op := Op.indexAddr 62 (Operand.tmp 40) (Operand.tmp 38), type := 0, pos := "place.go:59", after := #[{ on := 3, ground := Ground.data }, { on := 1, ground := Ground.data }], guard := none }) (v := .pointer (some ⟨q, 8, none⟩)) rfl (by kernel_rfl) (by kernel_rfl) (by kernel_rfl) (fun _ _ _ h => h) (Or.inl ⟨by rfl, fun w hSw => by go_simp⟩) (by assumption) ?_
      try simp only [Act.put, List.setIfInBounds_toArray, List.set_cons_zero, List.set_cons_succ]
      refine wpAnyH_take (i := 5) (oi := { dst := some 42, op := Op.load 26 (Operand.tmp 41), type := 26, pos := "place.go:59", after := #[{ on := 4, ground := Ground.data }], guard := none }) (v := .pointer pl) rfl (by kernel_rfl) (by kernel_rfl) (by kernel_rfl) (fun _ _ _ h => h) (Or.inl ⟨by rfl, fun w hSw => by obtain ⟨k0, k1, k2, k8, k9⟩ := placeN hSw.2; go_simp⟩) (by assumption) ?_
      try simp only [Act.put, List.setIfInBounds_toArray, List.set_cons_zero, List.set_cons_succ]
      refine wpAnyH_take (i := 6) (oi := { dst := some 43, op := Op.load 32 (Operand.tmp 3), type := 32, pos := "place.go:59", after := #[], guard := none }) (v := .agg #[.int .u32 (b : Int), .int .u8 (m : Int)]) rfl (by kernel_rfl) (by kernel_rfl) (by kernel_rfl) (fun _ _ _ h => h) (Or.inl ⟨by rfl, fun w hSw => by obtain ⟨y0, y1⟩ := row2 hSw.1; go_simp⟩) (by assumption) ?_
      try simp only [Act.put, List.setIfInBounds_toArray, List.set_cons_zero, List.set_cons_succ]
      refine wpAnyH_ready (rs := [7]) (by kernel_rfl) (by simp) ?_
      refine AllReadyH.cons (o := { dst := some 44, op := Op.call { callee := Callee.value (Operand.func 24), args := #[Operand.tmp 42, Operand.tmp 43], argTypes := #[26, 32] }, type := 59, pos := "place.go:59", after := #[{ on := 5, ground := Ground.data }, { on := 6, ground := Ground.data }], guard := none }) rfl (fun K hK => ?_) AllReadyH.nil
      go_simp
      with_reducible refine (hIH wd9 _ bl (HT.out.1.below HG9.out) hnb).mono ?_
      rintro e w10 ⟨rfl, A10, G10⟩
      have nd10 := hnb
      have Q10 := (G10.block q (Nat.lt_of_lt_of_le hqs HG9.out.size) hqn).trans HQ9.out
      have X10 := (G10.block _ (Array.getElem?_eq_some_iff.1 HB9.out).1 hxn).trans HB9.out
      refine hK.out _ _ (⟨X10, Q10⟩) (fun hHeld => ?_)
      clear hK K
      try simp only [Act.put, List.setIfInBounds_toArray, List.set_cons_zero, List.set_cons_succ]
      refine wpAnyH_take (i := 8) (oi := { dst := some 36, op := Op.move (Operand.tmp 44), type := 59, pos := "place.go:59", after := #[{ on := 7, ground := Ground.data }], guard := none }) (v := .tuple #[.pointer pl, .bool false]) rfl (by kernel_rfl) (by kernel_rfl) (by kernel_rfl) (fun _ _ _ h => h) (Or.inl ⟨by rfl, fun w hSw => by go_simp⟩) (by assumption) ?_
      try simp only [Act.put, List.setIfInBounds_toArray, List.set_cons_zero, List.set_cons_succ]
      refine wpAnyH_take (i := 9) (oi := { dst := some 45, op := Op.extract (Operand.tmp 36) 0, type := 26, pos := "place.go:59", after := #[{ on := 8, ground := Ground.data }], guard := none }) (v := .pointer pl) rfl (by kernel_rfl) (by kernel_rfl) (by kernel_rfl) (fun _ _ _ h => h) (Or.inl ⟨by rfl, fun w hSw => by go_simp⟩) (by assumption) ?_
      try simp only [Act.put, List.setIfInBounds_toArray, List.set_cons_zero, List.set_cons_succ]
      refine wpAnyH_take (i := 10) (oi := { dst := some 46, op := Op.extract (Operand.tmp 36) 1, type := 4, pos := "place.go:59", after := #[{ on := 8, ground := Ground.data }, { on := 11, ground := Ground.gcOnly Departure.lateStores }], guard := none }) (v := .bool false) rfl (by kernel_rfl) (by kernel_rfl) (by kernel_rfl) (fun _ _ _ h => h) (Or.inl ⟨by rfl, fun w hSw => by go_simp⟩) (by assumption) ?_
      try simp only [Act.put, List.setIfInBounds_toArray, List.set_cons_zero, List.set_cons_succ]
      refine wpAnyH_take (i := 11) (oi := { dst := some 8, op := Op.assign (Operand.tmp 45), type := 26, pos := "place.go:59", after := #[{ on := 9, ground := Ground.data }, { on := 7, ground := Ground.chain }, { on := 0, ground := Ground.phase }, { on := 1, ground := Ground.phase }, { on := 2, ground := Ground.phase }, { on := 3, ground := Ground.phase }, { on := 4, ground := Ground.phase }, { on := 5, ground := Ground.phase }, { on := 6, ground := Ground.phase }, { on := 7, ground := Ground.phase }, { on := 8, ground := Ground.phase }, { on := 9, ground := Ground.phase }, { on := 10, ground := Ground.textOnly Departure.lateStores }], guard := none }) (v := .pointer pl) rfl (by kernel_rfl) (by kernel_rfl) (by kernel_rfl) (fun _ _ _ h => h) (Or.inl ⟨by rfl, fun w hSw => by go_simp⟩) (by assumption) ?_
      try simp only [Act.put, List.setIfInBounds_toArray, List.set_cons_zero, List.set_cons_succ]
      refine wpAnyH_take (i := 12) (oi := { dst := some 9, op := Op.assign (Operand.tmp 46), type := 4, pos := "place.go:59", after := #[{ on := 10, ground := Ground.data }, { on := 11, ground := Ground.chain }, { on := 0, ground := Ground.phase }, { on := 1, ground := Ground.phase }, { on := 2, ground := Ground.phase }, { on := 3, ground := Ground.phase }, { on := 4, ground := Ground.phase }, { on := 5, ground := Ground.phase }, { on := 6, ground := Ground.phase }, { on := 7, ground := Ground.phase }, { on := 8, ground := Ground.phase }, { on := 9, ground := Ground.phase }, { on := 10, ground := Ground.phase }, { on := 11, ground := Ground.phase }], guard := none }) (v := .bool false) rfl (by kernel_rfl) (by kernel_rfl) (by kernel_rfl) (fun _ _ _ h => h) (Or.inl ⟨by rfl, fun w hSw => by go_simp⟩) (by assumption) ?_
      try simp only [Act.put, List.setIfInBounds_toArray, List.set_cons_zero, List.set_cons_succ]
      refine wpAnyH_done (by kernel_rfl) ?_ _
      try unfold NoPanic
      obtain ⟨k0, k1, k2, k8, k9⟩ := placeN hHeld.2
      have fz := fun i => frozenN hHeld.2 i
      have HJ := Lib.hid (join_l HG9.out HND.out HT.out.1 HT.out.2 hqs HQ9.out G10 A10 nd10 (fun k hk => .inl hk))
      clear hHeld
      go_upto_region 10 with (fail)
      clear k0 k1 k2 k8 k9 fz
      generalize World.setCell _ _ _ = wz at *
      have c33 := needed_stays _ _ _ _ _ _ _ _ HJ.out.1 HTT.out
      go_wp2_with (first
        | (go_at_call 33; (with_reducible refine c33.mono ?_); rintro e w12 ⟨rfl, hw12⟩; rw [← hw12]; clear hw12 w12))
      go_ret2
      exact ⟨rfl, HJ.out.1, HJ.out.2.2.2⟩
    · have hIH := hrx hs
      unfold NotSaid at hIH
      rw [hs] at c25
      simp only [if_true] at c25
      have hqn := hnl.2.1
      have hnb := hnl.2.2.2
      have hxn := hxr
      clear hnl hxl hxr hlx hrx
      go_enter Try.func24, Try.ntmps24
      go_upto_region 3 with (fail)
      generalize w.alloc _ = wv at *
      refine wp_region_noPanic ?_
      refine wp_region_held_drew (S := fun W : World => Below wv.heap.size wv W) (by kernel_rfl) ((Below.refl _ _).drew) (fun hHeld => ?_)
      generalize wv.drew = wd3 at *
      refine wpAnyH_take (i := 0) (oi := { dst := some 12, op := Op.load 32 (Operand.tmp 3), type := 32, pos := "place.go:53", after := #[], guard := none }) (v := .agg #[.int .u32 (b : Int), .int .u8 (m : Int)]) rfl (by kernel_rfl) (by kernel_rfl) (by kernel_rfl) (fun _ _ _ h => h) (Or.inl ⟨by rfl, fun w hSw => by obtain ⟨y0, y1⟩ := row2 ((hSw.block _ (Array.getElem?_eq_some_iff.1 HB.out).1).trans HB.out); go_simp⟩) (by assumption) ?_
      try simp only [Act.put, List.setIfInBounds_toArray, List.set_cons_zero, List.set_cons_succ]
      refine wpAnyH_take (i := 1) (oi := { dst := some 13, op := Op.move (Operand.tmp 0), type := 26, pos := "place.go:53", after := #[], guard := none }) (v := .pointer (some ⟨q, 0, none⟩)) rfl (by kernel_rfl) (by kernel_rfl) (by kernel_rfl) (fun _ _ _ h => h) (Or.inl ⟨by rfl, fun w hSw => by go_simp⟩) (by assumption) ?_
      try simp only [Act.put, List.setIfInBounds_toArray, List.set_cons_zero, List.set_cons_succ]
      refine wpAnyH_take (i := 2) (oi := { dst := some 14, op := Op.nilCheck (Operand.tmp 13), type := 0, pos := "place.go:53", after := #[{ on := 1, ground := Ground.data }], guard := none }) (v := .pointer (some ⟨q, 0, none⟩)) rfl (by kernel_rfl) (by kernel_rfl) (by kernel_rfl) (fun _ _ _ h => h) (Or.inl ⟨by rfl, fun w hSw => by go_simp⟩) (by assumption) ?_
      try simp only [Act.put, List.setIfInBounds_toArray, List.set_cons_zero, List.set_cons_succ]
      refine wpAnyH_take (i := 3) (oi := { dst := some 15, op := Op.fieldAddr 64 (Operand.tmp 14) 0, type := 0, pos := "place.go:53", after := #[{ on := 2, ground := Ground.data }], guard := none }) (v := .pointer (some ⟨q, 0, none⟩)) rfl (by kernel_rfl) (by kernel_rfl) (by kernel_rfl) (fun _ _ _ h => h) (Or.inl ⟨by rfl, fun w hSw => by go_simp⟩) (by assumption) ?_
      try simp only [Act.put, List.setIfInBounds_toArray, List.set_cons_zero, List.set_cons_succ]
      refine wpAnyH_take (i := 4) (oi := { dst := some 16, op := Op.load 32 (Operand.tmp 15), type := 32, pos := "place.go:53", after := #[{ on := 3, ground := Ground.data }], guard := none }) (v := .agg #[.int .u32 (a : Int), .int .u8 (n : Int)]) rfl (by kernel_rfl) (by kernel_rfl) (by kernel_rfl) (fun _ _ _ h => h) (Or.inl ⟨by rfl, fun w hSw => by obtain ⟨k0, k1, k2, k8, k9⟩ := placeN ((hSw.block _ (Array.getElem?_eq_some_iff.1 HQ.out).1).trans HQ.out); go_simp⟩) (by assumption) ?_
      try simp only [Act.put, List.setIfInBounds_toArray, List.set_cons_zero, List.set_cons_succ]
      refine wpAnyH_take (i := 5) (oi := { dst := some 17, op := Op.binOp BinOp.eql 32 (Operand.tmp 12) (Operand.tmp 16) 32, type := 4, pos := "place.go:53", after := #[{ on := 0, ground := Ground.data }, { on := 4, ground := Ground.data }], guard := none }) (v := .bool false) rfl (by kernel_rfl) (by kernel_rfl) (by kernel_rfl) (fun _ _ _ h => h) (Or.inl ⟨by rfl, fun w hSw => by have hnn := HNE.out; go_simp; intro g1 g2; exact hnn ⟨by omega, by omega⟩⟩) (by assumption) ?_
      try simp only [Act.put, List.setIfInBounds_toArray, List.set_cons_zero, List.set_cons_succ]
      refine wpAnyH_done (by kernel_rfl) ?_ _
      try unfold NoPanic
      have HB6 := Lib.hid ((hHeld.block _ (Array.getElem?_eq_some_iff.1 HB.out).1).trans HB.out)
      have HQ6 := Lib.hid ((hHeld.block _ (Array.getElem?_eq_some_iff.1 HQ.out).1).trans HQ.out)
      have HG6 := Lib.hid (HG.out.trans (hHeld.mono HG.out.size))
      clear HB HQ HG hHeld
      generalize wd3 = w9 at *
      obtain ⟨y0, y1⟩ := row2 HB6.out
      have c25' := c25 w9 HQ6.out
      go_upto_region 8 with (first
        | (go_at_call 25; (with_reducible refine c25'.mono ?_); rintro e w' ⟨rfl, hw9⟩; rw [← hw9]; clear hw9 w' c25'))
      clear y0 y1
      have HB9 := Lib.hid (((Below.refl w9.heap.size w9).drew.block _ (Array.getElem?_eq_some_iff.1 HB6.out).1).trans HB6.out)
      have HQ9 := Lib.hid (((Below.refl w9.heap.size w9).drew.block _ (Array.getElem?_eq_some_iff.1 HQ6.out).1).trans HQ6.out)
      have HG9 := Lib.hid (HG6.out.trans ((Below.refl w9.heap.size w9).drew.mono HG6.out.size))
      clear HB6 HQ6 HG6
      refine wp_region_noPanic ?_
      refine wp_region_held_drew (S := fun W : World => W.heap[w.heap.size]? = some (.cells #[.int .u32 (b : Int), .int .u8 (m : Int)] 32) ∧ W.heap[q]? = some (.cells (cellsN a n x (.pointer pl) (.pointer pr)) 64 (0, 0))) (by kernel_rfl) ⟨HB9.out, HQ9.out⟩ (fun hHeld => ?_)
      generalize w9.drew = wd9 at *
      refine wpAnyH_take (i := 0) (oi := { dst := some 37, op := Op.move (Operand.tmp 0), type := 26, pos := "place.go:59", after := #[], guard := none }) (v := .pointer (some ⟨q, 0, none⟩)) rfl (by kernel_rfl) (by kernel_rfl) (by kernel_rfl) (fun _ _ _ h => h) (Or.inl ⟨by rfl, fun w hSw => by go_simp⟩) (by assumption) ?_
      try simp only [Act.put, List.setIfInBounds_toArray, List.set_cons_zero, List.set_cons_succ]
      refine wpAnyH_take (i := 1) (oi := { dst := some 38, op := Op.move (Operand.tmp 7), type := 3, pos := "place.go:59", after := #[], guard := none }) (v := .int .i64 1) rfl (by kernel_rfl) (by kernel_rfl) (by kernel_rfl) (fun _ _ _ h => h) (Or.inl ⟨by rfl, fun w hSw => by go_simp⟩) (by assumption) ?_
      try simp only [Act.put, List.setIfInBounds_toArray, List.set_cons_zero, List.set_cons_succ]
      refine wpAnyH_take (i := 2) (oi := { dst := some 39, op := Op.nilCheck (Operand.tmp 37), type := 0, pos := "place.go:59", after := #[{ on := 0, ground := Ground.data }], guard := none }) (v := .pointer (some ⟨q, 0, none⟩)) rfl (by kernel_rfl) (by kernel_rfl) (by kernel_rfl) (fun _ _ _ h => h) (Or.inl ⟨by rfl, fun w hSw => by go_simp⟩) (by assumption) ?_
      try simp only [Act.put, List.setIfInBounds_toArray, List.set_cons_zero, List.set_cons_succ]
      refine wpAnyH_take (i := 3) (oi := { dst := some 40, op := Op.fieldAddr 64 (Operand.tmp 39) 3, type := 0, pos := "place.go:59", after := #[{ on := 2, ground := Ground.data }], guard := none }) (v := .pointer (some ⟨q, 8, none⟩)) rfl (by kernel_rfl) (by kernel_rfl) (by kernel_rfl) (fun _ _ _ h => h) (Or.inl ⟨by rfl, fun w hSw => by go_simp⟩) (by assumption) ?_
      try simp only [Act.put, List.setIfInBounds_toArray, List.set_cons_zero, List.set_cons_succ]
      refine wpAnyH_take (i := 4) (oi := { dst := some 41, op := Op.indexAddr 62 (Operand.tmp 40) (Operand.tmp 38), type := 0, pos := "place.go:59", after := #[{ on := 3, ground := Ground.data }, { on := 1, ground := Ground.data }], guard := none }) (v := .pointer (some ⟨q, 9, none⟩)) rfl (by kernel_rfl) (by kernel_rfl) (by kernel_rfl) (fun _ _ _ h => h) (Or.inl ⟨by rfl, fun w hSw => by go_simp⟩) (by assumption) ?_
      try simp only [Act.put, List.setIfInBounds_toArray, List.set_cons_zero, List.set_cons_succ]
      refine wpAnyH_take (i := 5) (oi := { dst := some 42, op := Op.load 26 (Operand.tmp 41), type := 26, pos := "place.go:59", after := #[{ on := 4, ground := Ground.data }], guard := none }) (v := .pointer pr) rfl (by kernel_rfl) (by kernel_rfl) (by kernel_rfl) (fun _ _ _ h => h) (Or.inl ⟨by rfl, fun w hSw => by obtain ⟨k0, k1, k2, k8, k9⟩ := placeN hSw.2; go_simp⟩) (by assumption) ?_
      try simp only [Act.put, List.setIfInBounds_toArray, List.set_cons_zero, List.set_cons_succ]
      refine wpAnyH_take (i := 6) (oi := { dst := some 43, op := Op.load 32 (Operand.tmp 3), type := 32, pos := "place.go:59", after := #[], guard := none }) (v := .agg #[.int .u32 (b : Int), .int .u8 (m : Int)]) rfl (by kernel_rfl) (by kernel_rfl) (by kernel_rfl) (fun _ _ _ h => h) (Or.inl ⟨by rfl, fun w hSw => by obtain ⟨y0, y1⟩ := row2 hSw.1; go_simp⟩) (by assumption) ?_
      try simp only [Act.put, List.setIfInBounds_toArray, List.set_cons_zero, List.set_cons_succ]
      refine wpAnyH_ready (rs := [7]) (by kernel_rfl) (by simp) ?_
      refine AllReadyH.cons (o := { dst := some 44, op := Op.call { callee := Callee.value (Operand.func 24), args := #[Operand.tmp 42, Operand.tmp 43], argTypes := #[26, 32] }, type := 59, pos := "place.go:59", after := #[{ on := 5, ground := Ground.data }, { on := 6, ground := Ground.data }], guard := none }) rfl (fun K hK => ?_) AllReadyH.nil
      go_simp
      with_reducible refine (hIH wd9 _ br (HT.out.2.below HG9.out) hnb).mono ?_
      rintro e w10 ⟨rfl, A10, G10⟩
      have nd10 := hnb
      have Q10 := (G10.block q (Nat.lt_of_lt_of_le hqs HG9.out.size) hqn).trans HQ9.out
      have X10 := (G10.block _ (Array.getElem?_eq_some_iff.1 HB9.out).1 hxn).trans HB9.out
      refine hK.out _ _ (⟨X10, Q10⟩) (fun hHeld => ?_)
      clear hK K
      try simp only [Act.put, List.setIfInBounds_toArray, List.set_cons_zero, List.set_cons_succ]
      refine wpAnyH_take (i := 8) (oi := { dst := some 36, op := Op.move (Operand.tmp 44), type := 59, pos := "place.go:59", after := #[{ on := 7, ground := Ground.data }], guard := none }) (v := .tuple #[.pointer pr, .bool false]) rfl (by kernel_rfl) (by kernel_rfl) (by kernel_rfl) (fun _ _ _ h => h) (Or.inl ⟨by rfl, fun w hSw => by go_simp⟩) (by assumption) ?_
      try simp only [Act.put, List.setIfInBounds_toArray, List.set_cons_zero, List.set_cons_succ]
      refine wpAnyH_take (i := 9) (oi := { dst := some 45, op := Op.extract (Operand.tmp 36) 0, type := 26, pos := "place.go:59", after := #[{ on := 8, ground := Ground.data }], guard := none }) (v := .pointer pr) rfl (by kernel_rfl) (by kernel_rfl) (by kernel_rfl) (fun _ _ _ h => h) (Or.inl ⟨by rfl, fun w hSw => by go_simp⟩) (by assumption) ?_
      try simp only [Act.put, List.setIfInBounds_toArray, List.set_cons_zero, List.set_cons_succ]
      refine wpAnyH_take (i := 10) (oi := { dst := some 46, op := Op.extract (Operand.tmp 36) 1, type := 4, pos := "place.go:59", after := #[{ on := 8, ground := Ground.data }, { on := 11, ground := Ground.gcOnly Departure.lateStores }], guard := none }) (v := .bool false) rfl (by kernel_rfl) (by kernel_rfl) (by kernel_rfl) (fun _ _ _ h => h) (Or.inl ⟨by rfl, fun w hSw => by go_simp⟩) (by assumption) ?_
      try simp only [Act.put, List.setIfInBounds_toArray, List.set_cons_zero, List.set_cons_succ]
      refine wpAnyH_take (i := 11) (oi := { dst := some 8, op := Op.assign (Operand.tmp 45), type := 26, pos := "place.go:59", after := #[{ on := 9, ground := Ground.data }, { on := 7, ground := Ground.chain }, { on := 0, ground := Ground.phase }, { on := 1, ground := Ground.phase }, { on := 2, ground := Ground.phase }, { on := 3, ground := Ground.phase }, { on := 4, ground := Ground.phase }, { on := 5, ground := Ground.phase }, { on := 6, ground := Ground.phase }, { on := 7, ground := Ground.phase }, { on := 8, ground := Ground.phase }, { on := 9, ground := Ground.phase }, { on := 10, ground := Ground.textOnly Departure.lateStores }], guard := none }) (v := .pointer pr) rfl (by kernel_rfl) (by kernel_rfl) (by kernel_rfl) (fun _ _ _ h => h) (Or.inl ⟨by rfl, fun w hSw => by go_simp⟩) (by assumption) ?_
      try simp only [Act.put, List.setIfInBounds_toArray, List.set_cons_zero, List.set_cons_succ]
      refine wpAnyH_take (i := 12) (oi := { dst := some 9, op := Op.assign (Operand.tmp 46), type := 4, pos := "place.go:59", after := #[{ on := 10, ground := Ground.data }, { on := 11, ground := Ground.chain }, { on := 0, ground := Ground.phase }, { on := 1, ground := Ground.phase }, { on := 2, ground := Ground.phase }, { on := 3, ground := Ground.phase }, { on := 4, ground := Ground.phase }, { on := 5, ground := Ground.phase }, { on := 6, ground := Ground.phase }, { on := 7, ground := Ground.phase }, { on := 8, ground := Ground.phase }, { on := 9, ground := Ground.phase }, { on := 10, ground := Ground.phase }, { on := 11, ground := Ground.phase }], guard := none }) (v := .bool false) rfl (by kernel_rfl) (by kernel_rfl) (by kernel_rfl) (fun _ _ _ h => h) (Or.inl ⟨by rfl, fun w hSw => by go_simp⟩) (by assumption) ?_
      try simp only [Act.put, List.setIfInBounds_toArray, List.set_cons_zero, List.set_cons_succ]
      refine wpAnyH_done (by kernel_rfl) ?_ _
      try unfold NoPanic
      obtain ⟨k0, k1, k2, k8, k9⟩ := placeN hHeld.2
      have fz := fun i => frozenN hHeld.2 i
      have HJ := Lib.hid (join_r HG9.out HND.out HT.out.1 HT.out.2 hqs HQ9.out G10 A10 nd10 (fun k hk => .inl hk))
      clear hHeld
      go_upto_region 10 with (fail)
      clear k0 k1 k2 k8 k9 fz
      generalize World.setCell _ _ _ = wz at *
      have c33 := needed_stays _ _ _ _ _ _ _ _ HJ.out.1 HTT.out
      go_wp2_with (first
        | (go_at_call 33; (with_reducible refine c33.mono ?_); rintro e w12 ⟨rfl, hw12⟩; rw [← hw12]; clear hw12 w12))
      go_ret2
      exact ⟨rfl, HJ.out.1, HJ.out.2.2.2⟩
theorem not_any (t : T) (b m : Nat) (h : t.WF) (ht : t.Tight) (hb : b < 4294967296) (hno : (t.drop b m).2 = false) : NotSaid t b m := by
  induction t with
  | nil => exact not_nil b m
  | node a n x l rr il ir =>
    unfold T.drop at hno
    refine not_node a n x l rr b m hb h.1.2.1 ht.1 ?_ (fun hne hs => ?_) (fun hne hs => ?_)
    · by_cases he : b = a ∧ m = n
      · rw [if_pos he] at hno
        cases x with
        | none => exact .inr rfl
        | some y => cases hno
      · exact .inl he
    · rw [if_neg hne, if_neg (by rw [hs]; decide)] at hno
      exact il h.2.2.2.2.1 ht.2.1 hno
    · rw [if_neg hne, if_pos hs] at hno
      exact ir h.2.2.2.2.2 ht.2.2 hno
end Go.Proofs.Ytfhpcpanjonpeaa.Tri

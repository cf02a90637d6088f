/- The shortest way. -/
import Derived.Test.YtkbhmdoichiinaaRv
namespace Go.Proofs.Ytkbhmdoichiinaa.Rts
open Pre Ser
open Go.Proofs.Ytkbhmdoichiinaa.Src (row1 row2)
open Go.ChangeShapes Go.WideShapes Go.ChangeAt Go.RowKit
set_option maxRecDepth 8000
set_option linter.unusedVariables false

open Go.Proofs.Ytkbhmdoichiinaa.Src (Mk SrcAt)
theorem row5' {w : World} {b : Nat} {t : TypeId} {x0 x1 x2 x3 x4 : Value} (h : w.heap[b]? = some (.cells #[x0, x1, x2, x3, x4] t (0, 0))) : w.cell? ⟨b, 0, none⟩ = some x0 ∧ w.cell? ⟨b, 1, none⟩ = some x1 ∧ w.cell? ⟨b, 2, none⟩ = some x2 ∧ w.cell? ⟨b, 3, none⟩ = some x3 ∧ w.cell? ⟨b, 4, none⟩ = some x4 ∧ ∀ i, w.frozen? ⟨b, i, none⟩ = false :=
  ⟨cell_of_row w b 0 _ t (0, 0) h, cell_of_row w b 1 _ t (0, 0) h, cell_of_row w b 2 _ t (0, 0) h, cell_of_row w b 3 _ t (0, 0) h, cell_of_row w b 4 _ t (0, 0) h, fun i => frozen_of_row w b i _ t h⟩
theorem set5 {w : World} {b : Nat} {t : TypeId} {x0 x1 x2 x3 x4 : Value} (h : w.heap[b]? = some (.cells #[x0, x1, x2, x3, x4] t (0, 0))) (y0 y1 y2 y3 y4 : Value) : (((((w.setCell ⟨b, 0, none⟩ y0).setCell ⟨b, 1, none⟩ y1).setCell ⟨b, 2, none⟩ y2).setCell ⟨b, 3, none⟩ y3).setCell ⟨b, 4, none⟩ y4).heap[b]? = some (.cells #[y0, y1, y2, y3, y4] t (0, 0)) := by
  have h0 := heap_setCell_same w b 0 _ t y0 h
  have h1 := heap_setCell_same _ b 1 _ t y1 h0
  have h2 := heap_setCell_same _ b 2 _ t y2 h1
  have h3 := heap_setCell_same _ b 3 _ t y3 h2
  have h4 := heap_setCell_same _ b 4 _ t y4 h3
  simpa using h4
theorem grown5 (w : World) (b : Nat) (y0 y1 y2 y3 y4 : Value) : w.grownBy (((((w.setCell ⟨b, 0, none⟩ y0).setCell ⟨b, 1, none⟩ y1).setCell ⟨b, 2, none⟩ y2).setCell ⟨b, 3, none⟩ y3).setCell ⟨b, 4, none⟩ y4) (some b) :=
  ((((grown_setCell w b 0 y0).trans (grown_setCell _ b 1 y1)).trans (grown_setCell _ b 2 y2)).trans (grown_setCell _ b 3 y3)).trans (grown_setCell _ b 4 y4)
theorem stp_le {cf : Nat → Nat} {f : Mk} {x : Nat × Ro} {e : E} (h : x.1 ≤ 65535) : (stp cf f x e).1 ≤ 65535 := by
  unfold stp
  split
  · rename_i h1; have := h1.1; show e.m + cf e.b ≤ 65535; omega
  · exact h
set_option maxHeartbeats 4000000 in
theorem short_any (w : World) (A : Option Addr) (n c : Nat) (G : List E) (hn : n = G.length) (hlen : n ≤ 1000) (hsl : ESl w A G) (hG : ∀ e ∈ G, e.Ok) (Ac : Option Addr) (nc cc : Nat) (cf : Nat → Nat) (hco : CostAt w Ac nc cf) (ls qs cs sb : Nat) (f : Mk) (hs : SrcAt ls w qs f cs) (hb : w.heap[sb]? = some (.cells #[.pointer (some ⟨qs, 0, none⟩)] 46 (0, 0))) :
    Calls Try.prog 35 #[.slice A n c, .func (.func 57) #[] #[.pointer (some ⟨sb, 0, none⟩)], .slice Ac nc cc] w fun en w' => en = .returned (.tuple #[.agg #[.int .u32 ((short cf f G).2.a : Int), .int .u8 ((short cf f G).2.n : Int), .int .i64 ((short cf f G).2.v : Int), .int .u16 ((short cf f G).2.m : Int), .int .u16 ((short cf f G).2.s : Int)], .bool (decide ((short cf f G).1 < 65535))]) ∧ Below w.heap.size w w' := by
  have B1 := ((Below.refl w.heap.size w).alloc (Nat.le_refl _) (.cells #[.int .u32 0, .int .u8 0, .int .i64 0, .int .u16 0, .int .u16 0] 53)).alloc (by simp) (.cells #[.int .u32 0, .int .u8 0, .int .i64 0, .int .u16 0, .int .u16 0] 53)
  have r0 : ((w.alloc (.cells #[.int .u32 0, .int .u8 0, .int .i64 0, .int .u16 0, .int .u16 0] 53)).alloc (.cells #[.int .u32 0, .int .u8 0, .int .i64 0, .int .u16 0, .int .u16 0] 53)).heap[w.heap.size]? = some (.cells #[.int .u32 0, .int .u8 0, .int .i64 0, .int .u16 0, .int .u16 0] 53 (0, 0)) := (heap_alloc_old _ (.cells #[.int .u32 0, .int .u8 0, .int .i64 0, .int .u16 0, .int .u16 0] 53) (by simp)).trans (heap_alloc_new w (.cells #[.int .u32 0, .int .u8 0, .int .i64 0, .int .u16 0, .int .u16 0] 53))
  have r1 := Src.heap_new1 w (.cells #[.int .u32 0, .int .u8 0, .int .i64 0, .int .u16 0, .int .u16 0] 53) (.cells #[.int .u32 0, .int .u8 0, .int .i64 0, .int .u16 0, .int .u16 0] 53)
  have H0 := Lib.hid (And.intro B1 (And.intro r0 r1))
  have HH := Lib.hid (And.intro hn (And.intro hsl (And.intro hG (And.intro hs hb))))
  have HCO := Lib.hid hco
  clear B1 r0 r1 hn hsl hG hs hb hco
  go_enter Try.func35, Try.ntmps35
  go_wp2
  generalize (w.alloc _).alloc _ = w1 at *
  go_loopw [8, 15] (fun xv kv wr => ∃ x : Nat, xv = .int .i64 x ∧ ∃ k : Nat, k ≤ n ∧ kv = .int .i64 k ∧ ∃ r : Ro, Hid ((G.take k).foldl (stp cf f) (65535, Ro.zero) = (x, r) ∧ x ≤ 65535) ∧ Hid (Below w.heap.size w wr ∧ wr.heap[w.heap.size]? = some (.cells #[.int .u32 0, .int .u8 0, .int .i64 0, .int .u16 0, .int .u16 0] 53 (0, 0)) ∧ wr.heap[w.heap.size + 1]? = some (.cells #[.int .u32 (r.a : Int), .int .u8 (r.n : Int), .int .i64 (r.v : Int), .int .u16 (r.m : Int), .int .u16 (r.s : Int)] 53 (0, 0)))) (fun _ kv _ => n - (intOf kv).toNat)
  case atStart => exact ⟨65535, rfl, 0, Nat.zero_le _, rfl, Ro.zero, ⟨rfl, Nat.le_refl _⟩, H0.out⟩
  case round =>
    obtain ⟨x, rfl, k, hk, rfl, r, HA, HB⟩ := hrel
    clear H0
    by_cases hlt : k < n
    · have hkl : k < G.length := by rw [← HH.out.1]; exact hlt
      obtain ⟨b, o, rfl, hb, hE⟩ := (HH.out.2.1.below HB.out.1) k hkl
      have hst : (G.take (k + 1)).foldl (stp cf f) (65535, Ro.zero) = stp cf f (x, r) G[k] := by
        rw [List.take_succ_eq_append_getElem hkl, List.foldl_append, HA.out.1]; rfl
      have HST := Lib.hid hst
      have HEO := Lib.hid (HH.out.2.2.1 _ (List.getElem_mem hkl))
      generalize G[k] = e at hE HST HEO
      clear hst
      obtain ⟨k0, k1, k2, k3, k4, k5, k6⟩ := hE
      go_upto_region 6 with (fail)
      clear k0 k1 k2 k3 k4 k5 k6
      have hbx := heap_alloc_new wr (.cells #[.int .u32 (e.a : Int), .int .u8 (e.n : Int), .int .i64 (e.b : Int), .int .i64 (e.d : Int), .int .u16 (e.s : Int), .int .u16 (e.m : Int), .int .u64 (e.u : Int)] 43)
      have hB0 := (Below.refl wr.heap.size wr).alloc (Nat.le_refl _) (.cells #[.int .u32 (e.a : Int), .int .u8 (e.n : Int), .int .i64 (e.b : Int), .int .i64 (e.d : Int), .int .u16 (e.s : Int), .int .u16 (e.m : Int), .int .u64 (e.u : Int)] 43)
      have HBX := Lib.hid hbx
      replace HB := Lib.hid (And.intro (HB.out.1.trans (hB0.mono HB.out.1.size)) (And.intro (brow hB0 HB.out.2.1) (brow hB0 HB.out.2.2)))
      clear hbx hB0
      generalize wr.alloc _ = wb at *
      generalize wr.heap.size = zb at *
      generalize wb = wr at *
      obtain ⟨cb, hcb⟩ : ∃ cb, cb = cf e.b := ⟨_, rfl⟩
      have HCC : Hid (∀ W, Below wr.heap.size wr W → Calls Try.prog 56 #[.slice Ac nc cc, .int .i64 (e.b : Int)] W fun en w' => en = .returned (.int .u16 (cb : Int)) ∧ W = w') := Lib.hid fun W hW => by rw [hcb]; exact cost_any W Ac nc cc cf ((HCO.out.below HB.out.1).below hW) e.b
      obtain ⟨sm, hsm⟩ : ∃ sm, sm = e.m + cb := ⟨_, rfl⟩
      have HSM := Lib.hid (And.intro hcb hsm)
      have hcl := HCO.out.le e.b
      have hml := HEO.out.m
      have hw1 : IntKind.i64.wrap (e.m : Int) = (e.m : Int) := by rw [IntKind.wrap_i64]; omega
      have hw2 : IntKind.i64.wrap (cb : Int) = (cb : Int) := by rw [IntKind.wrap_i64]; omega
      have hw3 : IntKind.i64.wrap ((e.m : Int) + (cb : Int)) = (sm : Int) := by rw [IntKind.wrap_i64]; omega
      have hsm2 : sm < 200000 := by omega
      clear hcb hsm hcl hml
      refine wp_region_noPanic ?_
      refine wp_region_held_drew (S := fun y : World => Below wr.heap.size wr y) (by kernel_rfl) ((Below.refl _ _).drew) (fun hHeld => ?_)
      generalize wr.drew = wd at *
      refine wpAnyH_take (i := 0) (oi := { dst := some 19, op := Op.fieldAddr 43 (Operand.tmp 11) 3, type := 0, pos := "routes.go:149", after := #[], guard := none }) (v := .pointer (some ⟨zb, 4, none⟩)) rfl (by kernel_rfl) (by kernel_rfl) (by kernel_rfl) (fun _ _ _ h => h) (Or.inl ⟨by rfl, fun w hSw => by go_simp⟩) (by assumption) ?_
      try simp only [Act.put, List.setIfInBounds_toArray, List.set_cons_zero, List.set_cons_succ]
      refine wpAnyH_take (i := 1) (oi := { dst := some 20, op := Op.fieldAddr 41 (Operand.tmp 19) 1, type := 0, pos := "routes.go:149", after := #[{ on := 0, ground := Ground.data }], guard := none }) (v := .pointer (some ⟨zb, 5, none⟩)) rfl (by kernel_rfl) (by kernel_rfl) (by kernel_rfl) (fun _ _ _ h => h) (Or.inl ⟨by rfl, fun w hSw => by go_simp⟩) (by assumption) ?_
      try simp only [Act.put, List.setIfInBounds_toArray, List.set_cons_zero, List.set_cons_succ]
      refine wpAnyH_take (i := 2) (oi := { dst := some 21, op := Op.load 32 (Operand.tmp 20), type := 32, pos := "routes.go:149", after := #[{ on := 1, ground := Ground.data }], guard := none }) (v := .int .u16 (e.m : Int)) rfl (by kernel_rfl) (by kernel_rfl) (by kernel_rfl) (fun _ _ _ h => h) (Or.inl ⟨by rfl, fun w hSw => by obtain ⟨p0, p1, p2, p3, p4, p5, p6⟩ := row7 (brow hSw HBX.out); go_simp⟩) (by assumption) ?_
      try simp only [Act.put, List.setIfInBounds_toArray, List.set_cons_zero, List.set_cons_succ]
      refine wpAnyH_take (i := 3) (oi := { dst := some 22, op := Op.convert 32 3 (Operand.tmp 21), type := 3, pos := "routes.go:149", after := #[{ on := 2, ground := Ground.data }], guard := none }) (v := .int .i64 (e.m : Int)) rfl (by kernel_rfl) (by kernel_rfl) (by kernel_rfl) (fun _ _ _ h => h) (Or.inl ⟨by rfl, fun w hSw => by go_simp⟩) (by assumption) ?_
      try simp only [Act.put, List.setIfInBounds_toArray, List.set_cons_zero, List.set_cons_succ]
      refine wpAnyH_take (i := 4) (oi := { dst := some 23, op := Op.move (Operand.tmp 2), type := 50, pos := "routes.go:149", after := #[], guard := none }) (v := .slice Ac nc cc) rfl (by kernel_rfl) (by kernel_rfl) (by kernel_rfl) (fun _ _ _ h => h) (Or.inl ⟨by rfl, fun w hSw => by go_simp⟩) (by assumption) ?_
      try simp only [Act.put, List.setIfInBounds_toArray, List.set_cons_zero, List.set_cons_succ]
      refine wpAnyH_take (i := 5) (oi := { dst := some 24, op := Op.fieldAddr 43 (Operand.tmp 11) 1, type := 0, pos := "routes.go:149", after := #[], guard := none }) (v := .pointer (some ⟨zb, 2, none⟩)) rfl (by kernel_rfl) (by kernel_rfl) (by kernel_rfl) (fun _ _ _ h => h) (Or.inl ⟨by rfl, fun w hSw => by go_simp⟩) (by assumption) ?_
      try simp only [Act.put, List.setIfInBounds_toArray, List.set_cons_zero, List.set_cons_succ]
      refine wpAnyH_take (i := 6) (oi := { dst := some 25, op := Op.load 3 (Operand.tmp 24), type := 3, pos := "routes.go:149", after := #[{ on := 5, ground := Ground.data }], guard := none }) (v := .int .i64 (e.b : Int)) rfl (by kernel_rfl) (by kernel_rfl) (by kernel_rfl) (fun _ _ _ h => h) (Or.inl ⟨by rfl, fun w hSw => by obtain ⟨p0, p1, p2, p3, p4, p5, p6⟩ := row7 (brow hSw HBX.out); go_simp⟩) (by assumption) ?_
      try simp only [Act.put, List.setIfInBounds_toArray, List.set_cons_zero, List.set_cons_succ]
      refine wpAnyH_ready (rs := [7]) (by kernel_rfl) (by simp) ?_
      refine AllReadyH.cons (o := { dst := some 26, op := Op.call { callee := Callee.value (Operand.func 56), args := #[Operand.tmp 23, Operand.tmp 25], argTypes := #[50, 3] }, type := 32, pos := "routes.go:149", after := #[{ on := 4, ground := Ground.data }, { on := 6, ground := Ground.data }], guard := none }) rfl (fun K hK => ?_) AllReadyH.nil
      go_simp
      with_reducible refine (HCC.out _ hHeld).mono ?_
      rintro en w9 ⟨rfl, rfl⟩
      refine hK.out _ _ (hHeld) (fun hHeld2 => ?_)
      clear hK K hHeld
      have hHeld := hHeld2
      clear hHeld2
      try simp only [Act.put, List.setIfInBounds_toArray, List.set_cons_zero, List.set_cons_succ]
      refine wpAnyH_take (i := 8) (oi := { dst := some 27, op := Op.convert 32 3 (Operand.tmp 26), type := 3, pos := "routes.go:149", after := #[{ on := 7, ground := Ground.data }], guard := none }) (v := .int .i64 (cb : Int)) rfl (by kernel_rfl) (by kernel_rfl) (by kernel_rfl) (fun _ _ _ h => h) (Or.inl ⟨by rfl, fun w hSw => by go_simp⟩) (by assumption) ?_
      try simp only [Act.put, List.setIfInBounds_toArray, List.set_cons_zero, List.set_cons_succ]
      refine wpAnyH_take (i := 9) (oi := { dst := some 28, op := Op.binOp BinOp.add 3 (Operand.tmp 22) (Operand.tmp 27) 3, type := 3, pos := "routes.go:149", after := #[{ on := 3, ground := Ground.data }, { on := 8, ground := Ground.data }], guard := none }) (v := .int .i64 (sm : Int)) rfl (by kernel_rfl) (by kernel_rfl) (by kernel_rfl) (fun _ _ _ h => h) (Or.inl ⟨by rfl, fun w hSw => by go_simp⟩) (by assumption) ?_
      try simp only [Act.put, List.setIfInBounds_toArray, List.set_cons_zero, List.set_cons_succ]
      refine wpAnyH_take (i := 10) (oi := { dst := some 12, op := Op.assign (Operand.tmp 28), type := 3, pos := "routes.go:149", after := #[{ on := 9, ground := Ground.data }, { on := 7, ground := Ground.chain }, { on := 0, ground := Ground.phase }, { on := 1, ground := Ground.phase }, { on := 2, ground := Ground.phase }, { on := 3, ground := Ground.phase }, { on := 4, ground := Ground.phase }, { on := 5, ground := Ground.phase }, { on := 6, ground := Ground.phase }, { on := 7, ground := Ground.phase }, { on := 8, ground := Ground.phase }, { on := 9, ground := Ground.phase }], guard := none }) (v := .int .i64 (sm : Int)) rfl (by kernel_rfl) (by kernel_rfl) (by kernel_rfl) (fun _ _ _ h => h) (Or.inl ⟨by rfl, fun w hSw => by go_simp⟩) (by assumption) ?_
      try simp only [Act.put, List.setIfInBounds_toArray, List.set_cons_zero, List.set_cons_succ]
      refine wpAnyH_done (by kernel_rfl) ?_ _
      try unfold NoPanic
      replace HB := Lib.hid (And.intro (HB.out.1.trans (hHeld.mono HB.out.1.size)) (And.intro (brow hHeld HB.out.2.1) (brow hHeld HB.out.2.2)))
      replace HBX := Lib.hid (brow hHeld HBX.out)
      clear hHeld hw1 hw2 hw3 HCC
      have HS := Lib.hid (stp_le (cf := cf) (f := f) (x := (x, r)) (e := e) HA.out.2)
      have hzb : zb < wd.heap.size := (Array.getElem?_eq_some_iff.1 HBX.out).1
      obtain ⟨p0, p1, p2, p3, p4, p5, p6⟩ := row7 HBX.out
      by_cases hlx : sm < x
      · have hlx2 : (sm : Int) < (x : Int) := by omega
        have c57 := feasp_any wd ls qs cs sb f (HH.out.2.2.2.1.below HB.out.1) (brow HB.out.1 HH.out.2.2.2.2) e HEO.out
        cases hfe : feasE f e with
        | true =>
          rw [hfe] at c57
          have HNX := Lib.hid (show stp cf f (x, r) e = (sm, ⟨e.a, e.n, e.b, sm, e.s⟩) by unfold stp; rw [if_pos ⟨by rw [← HSM.out.1, ← HSM.out.2]; exact hlx, hfe⟩, ← HSM.out.1, ← HSM.out.2])
          have hwu : IntKind.u16.wrap (sm : Int) = (sm : Int) := by rw [IntKind.wrap_u16]; have := HA.out.2; omega
          have HC := Lib.hid c57
          clear hfe c57 hlx
          go_upto_region 9 with (go_at_call 57; (with_reducible refine HC.out.mono ?_); rintro en w5 ⟨rfl, B5⟩; have HB5 := Lib.hid B5; clear B5)
          clear p0 p1 p2 p3 p4 p5 p6
          have HB6 := Lib.hid (And.intro (HB.out.1.trans (HB5.out.mono HB.out.1.size)) (And.intro (brow HB5.out HB.out.2.1) (brow HB5.out HB.out.2.2)))
          obtain ⟨p0, p1, p2, p3, p4, p5, p6⟩ := row7 (brow HB5.out HBX.out)
          obtain ⟨z0, z1, z2, z3, z4, zf⟩ := row5' HB6.out.2.2
          have hzb5 := Nat.lt_of_lt_of_le hzb HB5.out.size
          have hws5 : w.heap.size + 1 < w5.heap.size := (Array.getElem?_eq_some_iff.1 HB6.out.2.2).1
          have HFin := Lib.hid (And.intro (set5 HB6.out.2.2 (.int .u32 (e.a : Int)) (.int .u8 (e.n : Int)) (.int .i64 (e.b : Int)) (.int .u16 (sm : Int)) (.int .u16 (e.s : Int))) (grown5 w5 (w.heap.size + 1) (.int .u32 (e.a : Int)) (.int .u8 (e.n : Int)) (.int .i64 (e.b : Int)) (.int .u16 (sm : Int)) (.int .u16 (e.s : Int))))
          go_upto_region 10 with (fail)
          generalize ((((w5.setCell _ _).setCell _ _).setCell _ _).setCell _ _).setCell _ _ = w7 at *
          clear z0 z1 z2 z3 z4 zf p0 p1 p2 p3 p4 p5 p6
          go_wp2
          go_roundw
          case rel => exact ⟨sm, rfl, k + 1, by omega, by go_num, ⟨e.a, e.n, e.b, sm, e.s⟩, ⟨HST.out.trans HNX.out, by have := HS.out; rw [HNX.out] at this; exact this⟩, HB6.out.1.grown HFin.out.2 HB6.out.1.size (fun k e => by have := Option.some.inj e; omega), (HFin.out.2.block _ (by omega) (fun e => by have := Option.some.inj e; omega)).trans HB6.out.2.1, HFin.out.1⟩
          case measure => simp [intOf]; omega
        | false =>
          rw [hfe] at c57
          have HNX := Lib.hid (show stp cf f (x, r) e = (x, r) by unfold stp; rw [if_neg (by rw [hfe]; simp)])
          have HC := Lib.hid c57
          clear hfe c57 hlx
          go_wp2_with (go_at_call 57; (with_reducible refine HC.out.mono ?_); rintro en w5 ⟨rfl, B5⟩; have HB5 := Lib.hid B5; clear B5)
          go_roundw
          case rel => exact ⟨x, rfl, k + 1, by omega, by go_num, r, ⟨HST.out.trans HNX.out, HA.out.2⟩, HB.out.1.trans (HB5.out.mono HB.out.1.size), brow HB5.out HB.out.2.1, brow HB5.out HB.out.2.2⟩
          case measure => simp [intOf]; omega
      · have hlx2 : ¬ (sm : Int) < (x : Int) := by omega
        have HNX := Lib.hid (show stp cf f (x, r) e = (x, r) by unfold stp; rw [if_neg (fun h => hlx (by rw [HSM.out.2, HSM.out.1]; exact h.1))])
        clear hlx
        go_wp2
        go_roundw
        case rel => exact ⟨x, rfl, k + 1, by omega, by go_num, r, ⟨HST.out.trans HNX.out, HA.out.2⟩, HB.out⟩
        case measure => simp [intOf]; omega
    · obtain rfl : k = n := by omega
      have HSH := Lib.hid (show short cf f G = (x, r) by have := HA.out.1; rw [List.take_of_length_le (by rw [HH.out.1]; exact Nat.le_refl _)] at this; exact this)
      obtain ⟨z0, z1, z2, z3, z4, zf⟩ := row5' HB.out.2.2
      obtain ⟨y0, y1, y2, y3, y4, yf⟩ := row5' HB.out.2.1
      have hws5 : w.heap.size + 1 < wr.heap.size := (Array.getElem?_eq_some_iff.1 HB.out.2.2).1
      go_wp2
      have hde : decide ((x : Int) < 65535) = decide (x < 65535) := decide_eq_decide.2 (by omega)
      exact bodyPost_ret (Src.results_ct rfl _ _ w.heap.size 53 _ (0, 0) _ (.bool (decide ((x : Int) < 65535))) rfl rfl (set5 HB.out.2.1 _ _ _ _ _) Try.underlying53 rfl (by kernel_rfl)) rfl ⟨by rw [HSH.out, hde], HB.out.1.grown (grown5 wr w.heap.size _ _ _ _ _) HB.out.1.size (fun k e => by have := Option.some.inj e; omega)⟩
end Go.Proofs.Ytkbhmdoichiinaa.Rts

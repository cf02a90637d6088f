/- The route of a prefix. -/
import Derived.Test.YtfhpcpanjonpeaaTl
import Derived.Deep.DeepCutAuto
import Derived.Deep.RegionHeld3
namespace Go.Proofs.Ytfhpcpanjonpeaa.Tri
open Pre
open Go.ChangeShapes Go.WideShapes Go.ChangeAt Go.RowKit

/-- On the way down. -/
structure GK (w wr : World) (t : T) (b m : Nat) (v6 : Value) : Prop where
  ex : ∃ t' bs', At w t' v6 bs' ∧ t'.WF ∧ t.get b m = t'.get b m
  be : Below w.heap.size w wr
  rp : wr.heap[w.heap.size]? = some (.cells #[.int .u32 (b : Int), .int .u8 (m : Int)] 32 (0, 0))
  rr : wr.heap[w.heap.size + 1]? = some (.cells #[.int .u32 0, .int .u8 0, .int .i64 0, .int .u16 0, .int .u16 0] 39 (0, 0))
theorem oclN {w : World} {q a n : Nat} {x : Option R} {vl vr : Value} (h : w.heap[q]? = some (.cells (cellsN a n x vl vr) 64 (0, 0))) :
    ∃ xa xn xv xm xs : Int, ocl x = #[.int .u32 xa, .int .u8 xn, .int .i64 xv, .int .u16 xm, .int .u16 xs] ∧ w.cell? ⟨q, 3, none⟩ = some (.int .u32 xa) ∧ w.cell? ⟨q, 4, none⟩ = some (.int .u8 xn) ∧ w.cell? ⟨q, 5, none⟩ = some (.int .i64 xv) ∧ w.cell? ⟨q, 6, none⟩ = some (.int .u16 xm) ∧ w.cell? ⟨q, 7, none⟩ = some (.int .u16 xs) := by
  cases x <;> exact ⟨_, _, _, _, _, rfl, cell_of_row w q 3 _ _ (0, 0) h, cell_of_row w q 4 _ _ (0, 0) h, cell_of_row w q 5 _ _ (0, 0) h, cell_of_row w q 6 _ _ (0, 0) h, cell_of_row w q 7 _ _ (0, 0) h⟩
set_option maxRecDepth 8000 in
set_option maxHeartbeats 8000000 in
theorem Get_any {w : World} {g c : Nat} {t : T} {bs : List Nat} (h : TrAt w g t c bs) (hw : t.WF) (b m : Nat) (hb : b < 4294967296) :
    Calls Try.prog 13 #[.pointer (some ⟨g, 0, none⟩), .agg #[.int .u32 (b : Int), .int .u8 (m : Int)]] w fun e w' => e = .returned (.tuple #[.agg (ocl (t.get b m)), .bool (t.get b m).isSome]) ∧ Below w.heap.size w w' := by
  have hgs := h.lt
  obtain ⟨v, hv, hA⟩ := h.row
  obtain ⟨pv, rfl⟩ := hA.ptr
  have B2 := ((Below.refl w.heap.size w).alloc (Nat.le_refl _) (.cells #[.int .u32 (b : Int), .int .u8 (m : Int)] 32)).alloc (by simp) (.cells #[.int .u32 0, .int .u8 0, .int .i64 0, .int .u16 0, .int .u16 0] 39)
  have HLK : Hid (GK w ((w.alloc (.cells #[.int .u32 (b : Int), .int .u8 (m : Int)] 32)).alloc (.cells #[.int .u32 0, .int .u8 0, .int .i64 0, .int .u16 0, .int .u16 0] 39)) t b m (.pointer pv)) := Lib.hid ⟨⟨t, bs, hA, hw, rfl⟩, B2, (heap_alloc_old _ _ (by simp)).trans (heap_alloc_new w _), heap_new1 _ _ _⟩
  obtain ⟨p0, p1⟩ := row2 ((B2.block _ hgs).trans hv)
  clear h hA hv B2
  go_enter Try.func13, Try.ntmps13
  go_wp2
  go_loopw [6] (fun v6 wr => Hid (GK w wr t b m v6)) (fun v6 wr => msr v6 wr)
  case atStart => exact HLK
  case round =>
    have HR := hrel
    clear HLK hrel p0 p1
    obtain ⟨⟨t', bs', hA, hw', hlk⟩, hbe, hrp, hrr⟩ := HR.out
    have HRP := Lib.hid hrp
    have HRR := Lib.hid hrr
    have HBE := Lib.hid hbe
    have HLE := Lib.hid hlk
    clear hrp hrr hbe HR hlk
    cases t' with
    | nil =>
      obtain ⟨rfl, _⟩ := hA
      have HLO : Hid (t.get b m = none) := Lib.hid HLE.out
      go_upto_region 4 with (fail)
      refine wp_region_noPanic ?_
      refine wp_region_held_drew (S := fun W : World => Below wr.heap.size wr W) (by kernel_rfl) ((Below.refl _ _).drew) (fun hHeld => ?_)
      generalize wr.drew = wd at *
      refine wpAnyH_take (i := 0) (oi := { dst := some 14, op := Op.move (Operand.tmp 6), type := 26, pos := "trie.go:60", after := #[], guard := none }) (v := .pointer none) rfl (by kernel_rfl) (by kernel_rfl) (by kernel_rfl) (fun _ _ _ h => h) (Or.inl ⟨by rfl, fun w hSw => by go_simp⟩) (by assumption) ?_
      try simp only [Act.put, List.setIfInBounds_toArray, List.set_cons_zero, List.set_cons_succ]
      refine wpAnyH_take (i := 1) (oi := { dst := some 15, op := Op.binOp BinOp.neq 26 (Operand.tmp 14) (Operand.const (Value.pointer none)) 26, type := 4, pos := "trie.go:60", after := #[{ on := 0, ground := Ground.data }], guard := none }) (v := .bool false) rfl (by kernel_rfl) (by kernel_rfl) (by kernel_rfl) (fun _ _ _ h => h) (Or.inl ⟨by rfl, fun w hSw => by go_simp⟩) (by assumption) ?_
      try simp only [Act.put, List.setIfInBounds_toArray, List.set_cons_zero, List.set_cons_succ]
      refine wpAnyH_take (i := 2) (oi := { dst := some 16, op := Op.move (Operand.tmp 15), type := 4, pos := "trie.go:60", after := #[{ on := 1, ground := Ground.data }], guard := none }) (v := .bool false) rfl (by kernel_rfl) (by kernel_rfl) (by kernel_rfl) (fun _ _ _ h => h) (Or.inl ⟨by rfl, fun w hSw => by go_simp⟩) (by assumption) ?_
      try simp only [Act.put, List.setIfInBounds_toArray, List.set_cons_zero, List.set_cons_succ]
      refine wpAnyH_take (i := 3) (oi := { dst := some 17, op := Op.move (Operand.tmp 6), type := 26, pos := "trie.go:60", after := #[{ on := 2, ground := Ground.guard }], guard := some (2, true) }) (v := undef) rfl (by kernel_rfl) (by kernel_rfl) (by kernel_rfl) (fun _ _ _ h => h) (Or.inr ⟨by rfl, rfl⟩) (by assumption) ?_
      try simp only [Act.put, List.setIfInBounds_toArray, List.set_cons_zero, List.set_cons_succ]
      refine wpAnyH_take (i := 4) (oi := { dst := some 18, op := Op.nilCheck (Operand.tmp 17), type := 0, pos := "trie.go:60", after := #[{ on := 3, ground := Ground.data }, { on := 2, ground := Ground.guard }], guard := some (2, true) }) (v := undef) rfl (by kernel_rfl) (by kernel_rfl) (by kernel_rfl) (fun _ _ _ h => h) (Or.inr ⟨by rfl, rfl⟩) (by assumption) ?_
      try simp only [Act.put, List.setIfInBounds_toArray, List.set_cons_zero, List.set_cons_succ]
      refine wpAnyH_take (i := 5) (oi := { dst := some 19, op := Op.fieldAddr 64 (Operand.tmp 18) 0, type := 0, pos := "trie.go:60", after := #[{ on := 4, ground := Ground.data }, { on := 2, ground := Ground.guard }], guard := some (2, true) }) (v := undef) rfl (by kernel_rfl) (by kernel_rfl) (by kernel_rfl) (fun _ _ _ h => h) (Or.inr ⟨by rfl, rfl⟩) (by assumption) ?_
      try simp only [Act.put, List.setIfInBounds_toArray, List.set_cons_zero, List.set_cons_succ]
      refine wpAnyH_take (i := 6) (oi := { dst := some 20, op := Op.load 32 (Operand.tmp 19), type := 32, pos := "trie.go:60", after := #[{ on := 5, ground := Ground.data }, { on := 2, ground := Ground.guard }], guard := some (2, true) }) (v := undef) rfl (by kernel_rfl) (by kernel_rfl) (by kernel_rfl) (fun _ _ _ h => h) (Or.inr ⟨by rfl, rfl⟩) (by assumption) ?_
      try simp only [Act.put, List.setIfInBounds_toArray, List.set_cons_zero, List.set_cons_succ]
      refine wpAnyH_take (i := 7) (oi := { dst := some 21, op := Op.load 32 (Operand.tmp 3), type := 32, pos := "trie.go:60", after := #[{ on := 2, ground := Ground.guard }], guard := some (2, true) }) (v := undef) rfl (by kernel_rfl) (by kernel_rfl) (by kernel_rfl) (fun _ _ _ h => h) (Or.inr ⟨by rfl, rfl⟩) (by assumption) ?_
      try simp only [Act.put, List.setIfInBounds_toArray, List.set_cons_zero, List.set_cons_succ]
      refine wpAnyH_take (i := 8) (oi := { dst := some 22, op := Op.binOp BinOp.neq 32 (Operand.tmp 20) (Operand.tmp 21) 32, type := 4, pos := "trie.go:60", after := #[{ on := 6, ground := Ground.data }, { on := 7, ground := Ground.data }, { on := 2, ground := Ground.guard }], guard := some (2, true) }) (v := undef) rfl (by kernel_rfl) (by kernel_rfl) (by kernel_rfl) (fun _ _ _ h => h) (Or.inr ⟨by rfl, rfl⟩) (by assumption) ?_
      try simp only [Act.put, List.setIfInBounds_toArray, List.set_cons_zero, List.set_cons_succ]
      refine wpAnyH_take (i := 9) (oi := { dst := some 23, op := Op.pick (Operand.tmp 16) (Operand.tmp 22) (Operand.const (Value.bool false)), type := 4, pos := "trie.go:60", after := #[{ on := 2, ground := Ground.data }, { on := 8, ground := Ground.data }], guard := none }) (v := .bool false) rfl (by kernel_rfl) (by kernel_rfl) (by kernel_rfl) (fun _ _ _ h => h) (Or.inl ⟨by rfl, fun w hSw => by go_simp⟩) (by assumption) ?_
      try simp only [Act.put, List.setIfInBounds_toArray, List.set_cons_zero, List.set_cons_succ]
      refine wpAnyH_done (by kernel_rfl) ?_ _
      try unfold NoPanic
      have HRR2 := Lib.hid ((hHeld.block _ (Array.getElem?_eq_some_iff.1 HRR.out).1).trans HRR.out)
      have HBE2 := Lib.hid (HBE.out.trans (hHeld.mono HBE.out.size))
      clear hHeld
      obtain ⟨r0, r1, r2, r3, r4⟩ := row5 HRR2.out
      have hf := fun i => frozen_of_row _ (w.heap.size + 1) i _ 39 HRR2.out
      go_wp2
      exact bodyPost_ret (v := .tuple #[.agg (ocl none), .bool false]) (by simp [ocl, results, Try.results13, go_sem, r0, r1, r2, r3, r4]) rfl ⟨by rw [HLO.out]; rfl, HBE2.out.trans ((sets5 _ _ ..).mono (Nat.le_succ _))⟩
    | node a n x l r =>
      obtain ⟨q, vl, vr, bl, br, rfl, _, hq, hl, hr⟩ := hA
      have hqs := (Array.getElem?_eq_some_iff.1 hq).1
      have HQ := Lib.hid ((HBE.out.block q hqs).trans hq)
      obtain ⟨pl, rfl⟩ := hl.ptr
      obtain ⟨pr, rfl⟩ := hr.ptr
      have HW := Lib.hid (And.intro hw' (And.intro hl hr))
      clear hw' hl hr hq
      go_upto_region 4 with (fail)
      by_cases he : a = b ∧ n = m
      · have HLO : Hid (t.get b m = x) := Lib.hid (by rw [HLE.out, T.get, if_pos he])
        obtain ⟨he1, he2⟩ := he
        refine wp_region_noPanic ?_
        refine wp_region_held_drew (S := fun W : World => Below wr.heap.size wr W) (by kernel_rfl) ((Below.refl _ _).drew) (fun hHeld => ?_)
        generalize wr.drew = wd at *
        refine wpAnyH_take (i := 0) (oi := { dst := some 14, op := Op.move (Operand.tmp 6), type := 26, pos := "trie.go:60", after := #[], guard := none }) (v := .pointer (some ⟨q, 0, none⟩)) rfl (by kernel_rfl) (by kernel_rfl) (by kernel_rfl) (fun _ _ _ h => h) (Or.inl ⟨by rfl, fun w hSw => by go_simp⟩) (by assumption) ?_
        try simp only [Act.put, List.setIfInBounds_toArray, List.set_cons_zero, List.set_cons_succ]
        refine wpAnyH_take (i := 1) (oi := { dst := some 15, op := Op.binOp BinOp.neq 26 (Operand.tmp 14) (Operand.const (Value.pointer none)) 26, type := 4, pos := "trie.go:60", after := #[{ on := 0, ground := Ground.data }], guard := none }) (v := .bool true) rfl (by kernel_rfl) (by kernel_rfl) (by kernel_rfl) (fun _ _ _ h => h) (Or.inl ⟨by rfl, fun w hSw => by go_simp⟩) (by assumption) ?_
        try simp only [Act.put, List.setIfInBounds_toArray, List.set_cons_zero, List.set_cons_succ]
        refine wpAnyH_take (i := 2) (oi := { dst := some 16, op := Op.move (Operand.tmp 15), type := 4, pos := "trie.go:60", after := #[{ on := 1, ground := Ground.data }], guard := none }) (v := .bool true) rfl (by kernel_rfl) (by kernel_rfl) (by kernel_rfl) (fun _ _ _ h => h) (Or.inl ⟨by rfl, fun w hSw => by go_simp⟩) (by assumption) ?_
        try simp only [Act.put, List.setIfInBounds_toArray, List.set_cons_zero, List.set_cons_succ]
        refine wpAnyH_take (i := 3) (oi := { dst := some 17, op := Op.move (Operand.tmp 6), type := 26, pos := "trie.go:60", after := #[{ on := 2, ground := Ground.guard }], guard := some (2, true) }) (v := .pointer (some ⟨q, 0, none⟩)) rfl (by kernel_rfl) (by kernel_rfl) (by kernel_rfl) (fun _ _ _ h => h) (Or.inl ⟨by rfl, fun w hSw => by go_simp⟩) (by assumption) ?_
        try simp only [Act.put, List.setIfInBounds_toArray, List.set_cons_zero, List.set_cons_succ]
        refine wpAnyH_take (i := 4) (oi := { dst := some 18, op := Op.nilCheck (Operand.tmp 17), type := 0, pos := "trie.go:60", after := #[{ on := 3, ground := Ground.data }, { on := 2, ground := Ground.guard }], guard := some (2, true) }) (v := .pointer (some ⟨q, 0, none⟩)) rfl (by kernel_rfl) (by kernel_rfl) (by kernel_rfl) (fun _ _ _ h => h) (Or.inl ⟨by rfl, fun w hSw => by go_simp⟩) (by assumption) ?_
        try simp only [Act.put, List.setIfInBounds_toArray, List.set_cons_zero, List.set_cons_succ]
        refine wpAnyH_take (i := 5) (oi := { dst := some 19, op := Op.fieldAddr 64 (Operand.tmp 18) 0, type := 0, pos := "trie.go:60", after := #[{ on := 4, ground := Ground.data }, { on := 2, ground := Ground.guard }], guard := some (2, true) }) (v := .pointer (some ⟨q, 0, none⟩)) rfl (by kernel_rfl) (by kernel_rfl) (by kernel_rfl) (fun _ _ _ h => h) (Or.inl ⟨by rfl, fun w hSw => by go_simp⟩) (by assumption) ?_
        try simp only [Act.put, List.setIfInBounds_toArray, List.set_cons_zero, List.set_cons_succ]
        refine wpAnyH_take (i := 6) (oi := { dst := some 20, op := Op.load 32 (Operand.tmp 19), type := 32, pos := "trie.go:60", after := #[{ on := 5, ground := Ground.data }, { on := 2, ground := Ground.guard }], guard := some (2, true) }) (v := .agg #[.int .u32 (a : Int), .int .u8 (n : Int)]) rfl (by kernel_rfl) (by kernel_rfl) (by kernel_rfl) (fun _ _ _ h => h) (Or.inl ⟨by rfl, fun w hSw => by obtain ⟨k0, k1, k2, k8, k9⟩ := placeN ((hSw.block _ (Array.getElem?_eq_some_iff.1 HQ.out).1).trans HQ.out); go_simp⟩) (by assumption) ?_
        try simp only [Act.put, List.setIfInBounds_toArray, List.set_cons_zero, List.set_cons_succ]
        refine wpAnyH_take (i := 7) (oi := { dst := some 21, op := Op.load 32 (Operand.tmp 3), type := 32, pos := "trie.go:60", after := #[{ on := 2, ground := Ground.guard }], guard := some (2, true) }) (v := .agg #[.int .u32 (b : Int), .int .u8 (m : Int)]) rfl (by kernel_rfl) (by kernel_rfl) (by kernel_rfl) (fun _ _ _ h => h) (Or.inl ⟨by rfl, fun w hSw => by obtain ⟨y0, y1⟩ := row2 ((hSw.block _ (Array.getElem?_eq_some_iff.1 HRP.out).1).trans HRP.out); go_simp⟩) (by assumption) ?_
        try simp only [Act.put, List.setIfInBounds_toArray, List.set_cons_zero, List.set_cons_succ]
        refine wpAnyH_take (i := 8) (oi := { dst := some 22, op := Op.binOp BinOp.neq 32 (Operand.tmp 20) (Operand.tmp 21) 32, type := 4, pos := "trie.go:60", after := #[{ on := 6, ground := Ground.data }, { on := 7, ground := Ground.data }, { on := 2, ground := Ground.guard }], guard := some (2, true) }) (v := .bool false) rfl (by kernel_rfl) (by kernel_rfl) (by kernel_rfl) (fun _ _ _ h => h) (Or.inl ⟨by rfl, fun w hSw => by go_simp⟩) (by assumption) ?_
        try simp only [Act.put, List.setIfInBounds_toArray, List.set_cons_zero, List.set_cons_succ]
        refine wpAnyH_take (i := 9) (oi := { dst := some 23, op := Op.pick (Operand.tmp 16) (Operand.tmp 22) (Operand.const (Value.bool false)), type := 4, pos := "trie.go:60", after := #[{ on := 2, ground := Ground.data }, { on := 8, ground := Ground.data }], guard := none }) (v := .bool false) rfl (by kernel_rfl) (by kernel_rfl) (by kernel_rfl) (fun _ _ _ h => h) (Or.inl ⟨by rfl, fun w hSw => by go_simp⟩) (by assumption) ?_
        try simp only [Act.put, List.setIfInBounds_toArray, List.set_cons_zero, List.set_cons_succ]
        refine wpAnyH_done (by kernel_rfl) ?_ _
        try unfold NoPanic
        clear he1 he2
        have HRR2 := Lib.hid ((hHeld.block _ (Array.getElem?_eq_some_iff.1 HRR.out).1).trans HRR.out)
        have HQ2 := Lib.hid ((hHeld.block _ (Array.getElem?_eq_some_iff.1 HQ.out).1).trans HQ.out)
        have HBE2 := Lib.hid (HBE.out.trans (hHeld.mono HBE.out.size))
        clear hHeld
        go_upto_region 8 with (fail)
        have hqw : w.heap.size + 1 ≠ q := by omega
        have DD := (Below.refl wd.heap.size wd).drew
        have HQ3 := Lib.hid ((DD.block _ (Array.getElem?_eq_some_iff.1 HQ2.out).1).trans HQ2.out)
        have HRR3 := Lib.hid ((DD.block _ (Array.getElem?_eq_some_iff.1 HRR2.out).1).trans HRR2.out)
        have HBE3 := Lib.hid (HBE2.out.trans (DD.mono HBE2.out.size))
        clear DD HQ2 HRR2 HBE2
        obtain ⟨xa, xn, xv, xm, xs, hxo, k3, k4, k5, k6, k7⟩ := oclN HQ3.out
        have HXO := Lib.hid hxo
        obtain ⟨r0, r1, r2, r3, r4⟩ := row5 HRR3.out
        have hf := fun i => frozen_of_row _ (w.heap.size + 1) i _ 39 HRR3.out
        clear hxo k3 k4 k5 k6 k7
        have hS : ∀ W : World, W.heap[q]? = some (.cells (cellsN a n x (.pointer pl) (.pointer pr)) 64 (0, 0)) → (W.cell? ⟨q, 3, none⟩ = some (.int .u32 xa) ∧ W.cell? ⟨q, 4, none⟩ = some (.int .u8 xn) ∧ W.cell? ⟨q, 5, none⟩ = some (.int .i64 xv) ∧ W.cell? ⟨q, 6, none⟩ = some (.int .u16 xm) ∧ W.cell? ⟨q, 7, none⟩ = some (.int .u16 xs)) := fun W hW => by
          obtain ⟨a1, a2, a3, a4, a5, e, z3, z4, z5, z6, z7⟩ := oclN hW
          have e := HXO.out.symm.trans e
          simp only [Array.mk.injEq, List.cons.injEq, Value.int.injEq, true_and, and_true] at e
          obtain ⟨rfl, rfl, rfl, rfl, rfl⟩ := e
          exact ⟨z3, z4, z5, z6, z7⟩
        have HSS := Lib.hid hS
        clear hS
        refine wp_region_noPanic ?_
        refine wp_region_held_drew (S := fun W : World => W.heap[q]? = some (.cells (cellsN a n x (.pointer pl) (.pointer pr)) 64 (0, 0))) (by kernel_rfl) HQ3.out (fun hHeld => ?_)
        generalize wd.drew = we at *
        refine wpAnyH_take (i := 0) (oi := { dst := some 36, op := Op.move (Operand.tmp 6), type := 26, pos := "trie.go:66", after := #[], guard := none }) (v := .pointer (some ⟨q, 0, none⟩)) rfl (by kernel_rfl) (by kernel_rfl) (by kernel_rfl) (fun _ _ _ h => h) (Or.inl ⟨by rfl, fun w hSw => by go_simp⟩) (by assumption) ?_
        try simp only [Act.put, List.setIfInBounds_toArray, List.set_cons_zero, List.set_cons_succ]
        refine wpAnyH_take (i := 1) (oi := { dst := some 37, op := Op.nilCheck (Operand.tmp 36), type := 0, pos := "trie.go:66", after := #[{ on := 0, ground := Ground.data }], guard := none }) (v := .pointer (some ⟨q, 0, none⟩)) rfl (by kernel_rfl) (by kernel_rfl) (by kernel_rfl) (fun _ _ _ h => h) (Or.inl ⟨by rfl, fun w hSw => by go_simp⟩) (by assumption) ?_
        try simp only [Act.put, List.setIfInBounds_toArray, List.set_cons_zero, List.set_cons_succ]
        refine wpAnyH_take (i := 2) (oi := { dst := some 38, op := Op.fieldAddr 64 (Operand.tmp 37) 2, type := 0, pos := "trie.go:66", after := #[{ on := 1, ground := Ground.data }], guard := none }) (v := .pointer (some ⟨q, 3, none⟩)) rfl (by kernel_rfl) (by kernel_rfl) (by kernel_rfl) (fun _ _ _ h => h) (Or.inl ⟨by rfl, fun w hSw => by go_simp⟩) (by assumption) ?_
        try simp only [Act.put, List.setIfInBounds_toArray, List.set_cons_zero, List.set_cons_succ]
        refine wpAnyH_take (i := 3) (oi := { dst := some 39, op := Op.load 39 (Operand.tmp 38), type := 39, pos := "trie.go:66", after := #[{ on := 2, ground := Ground.data }], guard := none }) (v := .agg #[.int .u32 xa, .int .u8 xn, .int .i64 xv, .int .u16 xm, .int .u16 xs]) rfl (by kernel_rfl) (by kernel_rfl) (by kernel_rfl) (fun _ _ _ h => h) (Or.inl ⟨by rfl, fun w hSw => by obtain ⟨z3, z4, z5, z6, z7⟩ := HSS.out _ hSw; go_simp⟩) (by assumption) ?_
        try simp only [Act.put, List.setIfInBounds_toArray, List.set_cons_zero, List.set_cons_succ]
        refine wpAnyH_take (i := 4) (oi := { dst := some 40, op := Op.move (Operand.tmp 6), type := 26, pos := "trie.go:66", after := #[{ on := 8, ground := Ground.gcOnly Departure.lateStores }], guard := none }) (v := .pointer (some ⟨q, 0, none⟩)) rfl (by kernel_rfl) (by kernel_rfl) (by kernel_rfl) (fun _ _ _ h => h) (Or.inl ⟨by rfl, fun w hSw => by go_simp⟩) (by assumption) ?_
        try simp only [Act.put, List.setIfInBounds_toArray, List.set_cons_zero, List.set_cons_succ]
        refine wpAnyH_take (i := 5) (oi := { dst := some 41, op := Op.nilCheck (Operand.tmp 40), type := 0, pos := "trie.go:66", after := #[{ on := 4, ground := Ground.data }, { on := 8, ground := Ground.gcOnly Departure.lateStores }], guard := none }) (v := .pointer (some ⟨q, 0, none⟩)) rfl (by kernel_rfl) (by kernel_rfl) (by kernel_rfl) (fun _ _ _ h => h) (Or.inl ⟨by rfl, fun w hSw => by go_simp⟩) (by assumption) ?_
        try simp only [Act.put, List.setIfInBounds_toArray, List.set_cons_zero, List.set_cons_succ]
        refine wpAnyH_take (i := 6) (oi := { dst := some 42, op := Op.fieldAddr 64 (Operand.tmp 41) 1, type := 0, pos := "trie.go:66", after := #[{ on := 5, ground := Ground.data }, { on := 8, ground := Ground.gcOnly Departure.lateStores }], guard := none }) (v := .pointer (some ⟨q, 2, none⟩)) rfl (by kernel_rfl) (by kernel_rfl) (by kernel_rfl) (fun _ _ _ h => h) (Or.inl ⟨by rfl, fun w hSw => by go_simp⟩) (by assumption) ?_
        try simp only [Act.put, List.setIfInBounds_toArray, List.set_cons_zero, List.set_cons_succ]
        refine wpAnyH_take (i := 7) (oi := { dst := some 43, op := Op.load 4 (Operand.tmp 42), type := 4, pos := "trie.go:66", after := #[{ on := 6, ground := Ground.data }, { on := 8, ground := Ground.gcOnly Departure.lateStores }], guard := none }) (v := .bool x.isSome) rfl (by kernel_rfl) (by kernel_rfl) (by kernel_rfl) (fun _ _ _ h => h) (Or.inl ⟨by rfl, fun w hSw => by obtain ⟨k0, k1, k2, k8, k9⟩ := placeN hSw; go_simp⟩) (by assumption) ?_
        try simp only [Act.put, List.setIfInBounds_toArray, List.set_cons_zero, List.set_cons_succ]
        refine wpAnyH_ready (rs := [8]) (by kernel_rfl) (by simp) ?_
        refine AllReadyH.cons (o := { dst := none, op := Op.store 39 (Operand.tmp 4) (Operand.tmp 39), type := 0, pos := "trie.go:66", after := #[{ on := 3, ground := Ground.data }, { on := 0, ground := Ground.phase }, { on := 1, ground := Ground.phase }, { on := 2, ground := Ground.phase }, { on := 3, ground := Ground.phase }, { on := 4, ground := Ground.textOnly Departure.lateStores }, { on := 5, ground := Ground.textOnly Departure.lateStores }, { on := 6, ground := Ground.textOnly Departure.lateStores }, { on := 7, ground := Ground.textOnly Departure.lateStores }], guard := none }) rfl (fun K hK => ?_) AllReadyH.nil
        go_simp
        refine hK.out _ _ ((sets5_far _ (w.heap.size + 1) _ _ _ _ _ q (Ne.symm hqw)).trans hHeld) (fun hHeld => ?_)
        clear hK K
        try simp only [Act.put, List.setIfInBounds_toArray, List.set_cons_zero, List.set_cons_succ]
        refine wpAnyH_take (i := 9) (oi := { dst := some 5, op := Op.assign (Operand.tmp 43), type := 4, pos := "trie.go:66", after := #[{ on := 7, ground := Ground.data }, { on := 8, ground := Ground.chain }, { on := 0, ground := Ground.phase }, { on := 1, ground := Ground.phase }, { on := 2, ground := Ground.phase }, { on := 3, ground := Ground.phase }, { on := 4, ground := Ground.phase }, { on := 5, ground := Ground.phase }, { on := 6, ground := Ground.phase }, { on := 7, ground := Ground.phase }, { on := 8, ground := Ground.phase }], guard := none }) (v := .bool x.isSome) rfl (by kernel_rfl) (by kernel_rfl) (by kernel_rfl) (fun _ _ _ h => h) (Or.inl ⟨by rfl, fun w hSw => by go_simp⟩) (by assumption) ?_
        try simp only [Act.put, List.setIfInBounds_toArray, List.set_cons_zero, List.set_cons_succ]
        refine wpAnyH_done (by kernel_rfl) ?_ _
        try unfold NoPanic
        go_wp2
        exact bodyPost_ret (v := .tuple #[.agg (ocl x), .bool x.isSome]) (by rw [HXO.out]; simp [results, Try.results13, go_sem, r0, r1, r2, r3, r4]) rfl ⟨by rw [HLO.out], HBE3.out.trans ((sets5 _ _ ..).mono (Nat.le_succ _))⟩
      · have hlk := HLE.out
        rw [T.get, if_neg he] at hlk
        have HK := Lib.hid hlk
        have HNE := Lib.hid he
        clear hlk HLE he
        refine wp_region_noPanic ?_
        refine wp_region_held_drew (S := fun W : World => Below wr.heap.size wr W) (by kernel_rfl) ((Below.refl _ _).drew) (fun hHeld => ?_)
        generalize wr.drew = wd at *
        refine wpAnyH_take (i := 0) (oi := { dst := some 14, op := Op.move (Operand.tmp 6), type := 26, pos := "trie.go:60", after := #[], guard := none }) (v := .pointer (some ⟨q, 0, none⟩)) rfl (by kernel_rfl) (by kernel_rfl) (by kernel_rfl) (fun _ _ _ h => h) (Or.inl ⟨by rfl, fun w hSw => by go_simp⟩) (by assumption) ?_
        try simp only [Act.put, List.setIfInBounds_toArray, List.set_cons_zero, List.set_cons_succ]
        refine wpAnyH_take (i := 1) (oi := { dst := some 15, op := Op.binOp BinOp.neq 26 (Operand.tmp 14) (Operand.const (Value.pointer none)) 26, type := 4, pos := "trie.go:60", after := #[{ on := 0, ground := Ground.data }], guard := none }) (v := .bool true) rfl (by kernel_rfl) (by kernel_rfl) (by kernel_rfl) (fun _ _ _ h => h) (Or.inl ⟨by rfl, fun w hSw => by go_simp⟩) (by assumption) ?_
        try simp only [Act.put, List.setIfInBounds_toArray, List.set_cons_zero, List.set_cons_succ]
        refine wpAnyH_take (i := 2) (oi := { dst := some 16, op := Op.move (Operand.tmp 15), type := 4, pos := "trie.go:60", after := #[{ on := 1, ground := Ground.data }], guard := none }) (v := .bool true) rfl (by kernel_rfl) (by kernel_rfl) (by kernel_rfl) (fun _ _ _ h => h) (Or.inl ⟨by rfl, fun w hSw => by go_simp⟩) (by assumption) ?_
        try simp only [Act.put, List.setIfInBounds_toArray, List.set_cons_zero, List.set_cons_succ]
        refine wpAnyH_take (i := 3) (oi := { dst := some 17, op := Op.move (Operand.tmp 6), type := 26, pos := "trie.go:60", after := #[{ on := 2, ground := Ground.guard }], guard := some (2, true) }) (v := .pointer (some ⟨q, 0, none⟩)) rfl (by kernel_rfl) (by kernel_rfl) (by kernel_rfl) (fun _ _ _ h => h) (Or.inl ⟨by rfl, fun w hSw => by go_simp⟩) (by assumption) ?_
        try simp only [Act.put, List.setIfInBounds_toArray, List.set_cons_zero, List.set_cons_succ]
        refine wpAnyH_take (i := 4) (oi := { dst := some 18, op := Op.nilCheck (Operand.tmp 17), type := 0, pos := "trie.go:60", after := #[{ on := 3, ground := Ground.data }, { on := 2, ground := Ground.guard }], guard := some (2, true) }) (v := .pointer (some ⟨q, 0, none⟩)) rfl (by kernel_rfl) (by kernel_rfl) (by kernel_rfl) (fun _ _ _ h => h) (Or.inl ⟨by rfl, fun w hSw => by go_simp⟩) (by assumption) ?_
        try simp only [Act.put, List.setIfInBounds_toArray, List.set_cons_zero, List.set_cons_succ]
        refine wpAnyH_take (i := 5) (oi := { dst := some 19, op := Op.fieldAddr 64 (Operand.tmp 18) 0, type := 0, pos := "trie.go:60", after := #[{ on := 4, ground := Ground.data }, { on := 2, ground := Ground.guard }], guard := some (2, true) }) (v := .pointer (some ⟨q, 0, none⟩)) rfl (by kernel_rfl) (by kernel_rfl) (by kernel_rfl) (fun _ _ _ h => h) (Or.inl ⟨by rfl, fun w hSw => by go_simp⟩) (by assumption) ?_
        try simp only [Act.put, List.setIfInBounds_toArray, List.set_cons_zero, List.set_cons_succ]
        refine wpAnyH_take (i := 6) (oi := { dst := some 20, op := Op.load 32 (Operand.tmp 19), type := 32, pos := "trie.go:60", after := #[{ on := 5, ground := Ground.data }, { on := 2, ground := Ground.guard }], guard := some (2, true) }) (v := .agg #[.int .u32 (a : Int), .int .u8 (n : Int)]) rfl (by kernel_rfl) (by kernel_rfl) (by kernel_rfl) (fun _ _ _ h => h) (Or.inl ⟨by rfl, fun w hSw => by obtain ⟨k0, k1, k2, k8, k9⟩ := placeN ((hSw.block _ (Array.getElem?_eq_some_iff.1 HQ.out).1).trans HQ.out); go_simp⟩) (by assumption) ?_
        try simp only [Act.put, List.setIfInBounds_toArray, List.set_cons_zero, List.set_cons_succ]
        refine wpAnyH_take (i := 7) (oi := { dst := some 21, op := Op.load 32 (Operand.tmp 3), type := 32, pos := "trie.go:60", after := #[{ on := 2, ground := Ground.guard }], guard := some (2, true) }) (v := .agg #[.int .u32 (b : Int), .int .u8 (m : Int)]) rfl (by kernel_rfl) (by kernel_rfl) (by kernel_rfl) (fun _ _ _ h => h) (Or.inl ⟨by rfl, fun w hSw => by obtain ⟨y0, y1⟩ := row2 ((hSw.block _ (Array.getElem?_eq_some_iff.1 HRP.out).1).trans HRP.out); go_simp⟩) (by assumption) ?_
        try simp only [Act.put, List.setIfInBounds_toArray, List.set_cons_zero, List.set_cons_succ]
        refine wpAnyH_take (i := 8) (oi := { dst := some 22, op := Op.binOp BinOp.neq 32 (Operand.tmp 20) (Operand.tmp 21) 32, type := 4, pos := "trie.go:60", after := #[{ on := 6, ground := Ground.data }, { on := 7, ground := Ground.data }, { on := 2, ground := Ground.guard }], guard := some (2, true) }) (v := .bool true) rfl (by kernel_rfl) (by kernel_rfl) (by kernel_rfl) (fun _ _ _ h => h) (Or.inl ⟨by rfl, fun w hSw => by have hnn := HNE.out; go_simp; intro g1 g2; exact hnn ⟨by omega, by omega⟩⟩) (by assumption) ?_
        try simp only [Act.put, List.setIfInBounds_toArray, List.set_cons_zero, List.set_cons_succ]
        refine wpAnyH_take (i := 9) (oi := { dst := some 23, op := Op.pick (Operand.tmp 16) (Operand.tmp 22) (Operand.const (Value.bool false)), type := 4, pos := "trie.go:60", after := #[{ on := 2, ground := Ground.data }, { on := 8, ground := Ground.data }], guard := none }) (v := .bool true) rfl (by kernel_rfl) (by kernel_rfl) (by kernel_rfl) (fun _ _ _ h => h) (Or.inl ⟨by rfl, fun w hSw => by go_simp⟩) (by assumption) ?_
        try simp only [Act.put, List.setIfInBounds_toArray, List.set_cons_zero, List.set_cons_succ]
        refine wpAnyH_done (by kernel_rfl) ?_ _
        try unfold NoPanic
        have HRP2 := Lib.hid ((hHeld.block _ (Array.getElem?_eq_some_iff.1 HRP.out).1).trans HRP.out)
        have HRR2 := Lib.hid ((hHeld.block _ (Array.getElem?_eq_some_iff.1 HRR.out).1).trans HRR.out)
        have HQ2 := Lib.hid ((hHeld.block _ (Array.getElem?_eq_some_iff.1 HQ.out).1).trans HQ.out)
        have HBE2 := Lib.hid (HBE.out.trans (hHeld.mono HBE.out.size))
        clear hHeld
        go_upto_region 5 with (fail)
        cases hs : sd b n
        · have c25 := fun W hh => side_any a n b q x (.pointer pl) (.pointer pr) hb HW.out.1.1.2.1 W hh
          rw [hs] at c25
          simp only [Bool.false_eq_true, if_false] at c25
          have DD := (Below.refl wd.heap.size wd).drew
          have HRP5 := Lib.hid ((DD.block _ (Array.getElem?_eq_some_iff.1 HRP2.out).1).trans HRP2.out)
          have HRR5 := Lib.hid ((DD.block _ (Array.getElem?_eq_some_iff.1 HRR2.out).1).trans HRR2.out)
          have HQ5 := Lib.hid ((DD.block _ (Array.getElem?_eq_some_iff.1 HQ2.out).1).trans HQ2.out)
          have HBE5 := Lib.hid (HBE2.out.trans (DD.mono HBE2.out.size))
          clear DD HRP2 HRR2 HQ2 HBE2
          refine wp_region_noPanic ?_
          refine wp_region_held_drew (S := fun W : World => W.heap[q]? = some (.cells (cellsN a n x (.pointer pl) (.pointer pr)) 64 (0, 0)) ∧ W.heap[w.heap.size]? = some (.cells #[.int .u32 (b : Int), .int .u8 (m : Int)] 32 (0, 0))) (by kernel_rfl) ⟨HQ5.out, HRP5.out⟩ (fun hHeld => ?_)
          generalize wd.drew = wd4 at *
          refine wpAnyH_take (i := 0) (oi := { dst := some 24, op := Op.move (Operand.tmp 6), type := 26, pos := "trie.go:61", after := #[], guard := none }) (v := .pointer (some ⟨q, 0, none⟩)) rfl (by kernel_rfl) (by kernel_rfl) (by kernel_rfl) (fun _ _ _ h => h) (Or.inl ⟨by rfl, fun w hSw => by go_simp⟩) (by assumption) ?_
          try simp only [Act.put, List.setIfInBounds_toArray, List.set_cons_zero, List.set_cons_succ]
          refine wpAnyH_take (i := 1) (oi := { dst := some 25, op := Op.move (Operand.tmp 6), type := 26, pos := "trie.go:61", after := #[], guard := none }) (v := .pointer (some ⟨q, 0, none⟩)) rfl (by kernel_rfl) (by kernel_rfl) (by kernel_rfl) (fun _ _ _ h => h) (Or.inl ⟨by rfl, fun w hSw => by go_simp⟩) (by assumption) ?_
          try simp only [Act.put, List.setIfInBounds_toArray, List.set_cons_zero, List.set_cons_succ]
          refine wpAnyH_take (i := 2) (oi := { dst := some 26, op := Op.fieldAddr 32 (Operand.tmp 3) 0, type := 0, pos := "trie.go:61", after := #[], guard := none }) (v := .pointer (some ⟨w.heap.size, 0, none⟩)) rfl (by kernel_rfl) (by kernel_rfl) (by kernel_rfl) (fun _ _ _ h => h) (Or.inl ⟨by rfl, fun w hSw => by go_simp⟩) (by assumption) ?_
          try simp only [Act.put, List.setIfInBounds_toArray, List.set_cons_zero, List.set_cons_succ]
          refine wpAnyH_take (i := 3) (oi := { dst := some 27, op := Op.load 30 (Operand.tmp 26), type := 30, pos := "trie.go:61", after := #[{ on := 2, ground := Ground.data }], guard := none }) (v := .int .u32 (b : Int)) rfl (by kernel_rfl) (by kernel_rfl) (by kernel_rfl) (fun _ _ _ h => h) (Or.inl ⟨by rfl, fun w hSw => by obtain ⟨y0, y1⟩ := row2 hSw.2; go_simp⟩) (by assumption) ?_
          try simp only [Act.put, List.setIfInBounds_toArray, List.set_cons_zero, List.set_cons_succ]
          refine wpAnyH_take (i := 5) (oi := { dst := some 29, op := Op.nilCheck (Operand.tmp 24), type := 0, pos := "trie.go:61", after := #[{ on := 0, ground := Ground.data }], guard := none }) (v := .pointer (some ⟨q, 0, none⟩)) rfl (by kernel_rfl) (by kernel_rfl) (by kernel_rfl) (fun _ _ _ h => h) (Or.inl ⟨by rfl, fun w hSw => by go_simp⟩) (by assumption) ?_
          try simp only [Act.put, List.setIfInBounds_toArray, List.set_cons_zero, List.set_cons_succ]
          refine wpAnyH_take (i := 6) (oi := { dst := some 30, op := Op.fieldAddr 64 (Operand.tmp 29) 3, type := 0, pos := "trie.go:61", after := #[{ on := 5, ground := Ground.data }], guard := none }) (v := .pointer (some ⟨q, 8, none⟩)) rfl (by kernel_rfl) (by kernel_rfl) (by kernel_rfl) (fun _ _ _ h => h) (Or.inl ⟨by rfl, fun w hSw => by go_simp⟩) (by assumption) ?_
          try simp only [Act.put, List.setIfInBounds_toArray, List.set_cons_zero, List.set_cons_succ]
          refine wpAnyH_ready (rs := [4]) (by kernel_rfl) (by simp) ?_
          refine AllReadyH.cons (o := { dst := some 28, op := Op.call { callee := Callee.value (Operand.func 25), args := #[Operand.tmp 25, Operand.tmp 27], argTypes := #[26, 30] }, type := 3, pos := "trie.go:61", after := #[{ on := 1, ground := Ground.data }, { on := 3, ground := Ground.data }], guard := none }) rfl (fun K hK => ?_) AllReadyH.nil
          go_simp
          with_reducible refine (c25 _ hHeld.1).mono ?_
          rintro e w6 ⟨rfl, hw6⟩
          rw [← hw6]
          clear hw6 w6
          refine hK.out _ _ (hHeld) (fun hHeld => ?_)
          clear hK K
          try simp only [Act.put, List.setIfInBounds_toArray, List.set_cons_zero, List.set_cons_succ]
          refine wpAnyH_take (i := 7) (oi := { dst := some 31, op := Op.indexAddr 62 (Operand.tmp 30) (Operand.tmp 28), type := 0, pos := "trie.go:61", after := #[{ on := 6, ground := Ground.data }, { on := 4, ground := Ground.data }], guard := none }) (v := .pointer (some ⟨q, 8, none⟩)) rfl (by kernel_rfl) (by kernel_rfl) (by kernel_rfl) (fun _ _ _ h => h) (Or.inl ⟨by rfl, fun w hSw => by go_simp⟩) (by assumption) ?_
          try simp only [Act.put, List.setIfInBounds_toArray, List.set_cons_zero, List.set_cons_succ]
          refine wpAnyH_take (i := 8) (oi := { dst := some 32, op := Op.load 26 (Operand.tmp 31), type := 26, pos := "trie.go:61", after := #[{ on := 7, ground := Ground.data }], guard := none }) (v := .pointer pl) rfl (by kernel_rfl) (by kernel_rfl) (by kernel_rfl) (fun _ _ _ h => h) (Or.inl ⟨by rfl, fun w hSw => by obtain ⟨k0, k1, k2, k8, k9⟩ := placeN hSw.1; go_simp⟩) (by assumption) ?_
          try simp only [Act.put, List.setIfInBounds_toArray, List.set_cons_zero, List.set_cons_succ]
          refine wpAnyH_take (i := 9) (oi := { dst := some 6, op := Op.assign (Operand.tmp 32), type := 26, pos := "trie.go:61", after := #[{ on := 8, ground := Ground.data }, { on := 4, ground := Ground.chain }, { on := 0, ground := Ground.phase }, { on := 1, ground := Ground.phase }, { on := 2, ground := Ground.phase }, { on := 3, ground := Ground.phase }, { on := 4, ground := Ground.phase }, { on := 5, ground := Ground.phase }, { on := 6, ground := Ground.phase }, { on := 7, ground := Ground.phase }, { on := 8, ground := Ground.phase }], guard := none }) (v := .pointer pl) rfl (by kernel_rfl) (by kernel_rfl) (by kernel_rfl) (fun _ _ _ h => h) (Or.inl ⟨by rfl, fun w hSw => by go_simp⟩) (by assumption) ?_
          try simp only [Act.put, List.setIfInBounds_toArray, List.set_cons_zero, List.set_cons_succ]
          refine wpAnyH_done (by kernel_rfl) ?_ _
          try unfold NoPanic
          go_wp2
          go_roundw
          case rel => exact Lib.hid ⟨⟨l, bl, HW.out.2.1, HW.out.1.2.2.2.2.1, by rw [HK.out, if_neg (by rw [hs]; decide)]⟩, HBE5.out, HRP5.out, HRR5.out⟩
          case measure =>
            have h1 := msr_node HQ.out
            have h2 := msr_child HW.out.2.1 HBE5.out HW.out.1.2.2.2.2.1 HW.out.1.2.2.1 HW.out.1.1.2.1
            omega
        · have c25 := fun W hh => side_any a n b q x (.pointer pl) (.pointer pr) hb HW.out.1.1.2.1 W hh
          rw [hs] at c25
          simp only [if_true] at c25
          have DD := (Below.refl wd.heap.size wd).drew
          have HRP5 := Lib.hid ((DD.block _ (Array.getElem?_eq_some_iff.1 HRP2.out).1).trans HRP2.out)
          have HRR5 := Lib.hid ((DD.block _ (Array.getElem?_eq_some_iff.1 HRR2.out).1).trans HRR2.out)
          have HQ5 := Lib.hid ((DD.block _ (Array.getElem?_eq_some_iff.1 HQ2.out).1).trans HQ2.out)
          have HBE5 := Lib.hid (HBE2.out.trans (DD.mono HBE2.out.size))
          clear DD HRP2 HRR2 HQ2 HBE2
          refine wp_region_noPanic ?_
          refine wp_region_held_drew (S := fun W : World => W.heap[q]? = some (.cells (cellsN a n x (.pointer pl) (.pointer pr)) 64 (0, 0)) ∧ W.heap[w.heap.size]? = some (.cells #[.int .u32 (b : Int), .int .u8 (m : Int)] 32 (0, 0))) (by kernel_rfl) ⟨HQ5.out, HRP5.out⟩ (fun hHeld => ?_)
          generalize wd.drew = wd4 at *
          refine wpAnyH_take (i := 0) (oi := { dst := some 24, op := Op.move (Operand.tmp 6), type := 26, pos := "trie.go:61", after := #[], guard := none }) (v := .pointer (some ⟨q, 0, none⟩)) rfl (by kernel_rfl) (by kernel_rfl) (by kernel_rfl) (fun _ _ _ h => h) (Or.inl ⟨by rfl, fun w hSw => by go_simp⟩) (by assumption) ?_
          try simp only [Act.put, List.setIfInBounds_toArray, List.set_cons_zero, List.set_cons_succ]
          refine wpAnyH_take (i := 1) (oi := { dst := some 25, op := Op.move (Operand.tmp 6), type := 26, pos := "trie.go:61", after := #[], guard := none }) (v := .pointer (some ⟨q, 0, none⟩)) rfl (by kernel_rfl) (by kernel_rfl) (by kernel_rfl) (fun _ _ _ h => h) (Or.inl ⟨by rfl, fun w hSw => by go_simp⟩) (by assumption) ?_
          try simp only [Act.put, List.setIfInBounds_toArray, List.set_cons_zero, List.set_cons_succ]
          refine wpAnyH_take (i := 2) (oi := { dst := some 26, op := Op.fieldAddr 32 (Operand.tmp 3) 0, type := 0, pos := "trie.go:61", after := #[], guard := none }) (v := .pointer (some ⟨w.heap.size, 0, none⟩)) rfl (by kernel_rfl) (by kernel_rfl) (by kernel_rfl) (fun _ _ _ h => h) (Or.inl ⟨by rfl, fun w hSw => by go_simp⟩) (by assumption) ?_
          try simp only [Act.put, List.setIfInBounds_toArray, List.set_cons_zero, List.set_cons_succ]
          refine wpAnyH_take (i := 3) (oi := { dst := some 27, op := Op.load 30 (Operand.tmp 26), type := 30, pos := "trie.go:61", after := #[{ on := 2, ground := Ground.data }], guard := none }) (v := .int .u32 (b : Int)) rfl (by kernel_rfl) (by kernel_rfl) (by kernel_rfl) (fun _ _ _ h => h) (Or.inl ⟨by rfl, fun w hSw => by obtain ⟨y0, y1⟩ := row2 hSw.2; go_simp⟩) (by assumption) ?_
          try simp only [Act.put, List.setIfInBounds_toArray, List.set_cons_zero, List.set_cons_succ]
          refine wpAnyH_take (i := 5) (oi := { dst := some 29, op := Op.nilCheck (Operand.tmp 24), type := 0, pos := "trie.go:61", after := #[{ on := 0, ground := Ground.data }], guard := none }) (v := .pointer (some ⟨q, 0, none⟩)) rfl (by kernel_rfl) (by kernel_rfl) (by kernel_rfl) (fun _ _ _ h => h) (Or.inl ⟨by rfl, fun w hSw => by go_simp⟩) (by assumption) ?_
          try simp only [Act.put, List.setIfInBounds_toArray, List.set_cons_zero, List.set_cons_succ]
          refine wpAnyH_take (i := 6) (oi := { dst := some 30, op := Op.fieldAddr 64 (Operand.tmp 29) 3, type := 0, pos := "trie.go:61", after := #[{ on := 5, ground := Ground.data }], guard := none }) (v := .pointer (some ⟨q, 8, none⟩)) rfl (by kernel_rfl) (by kernel_rfl) (by kernel_rfl) (fun _ _ _ h => h) (Or.inl ⟨by rfl, fun w hSw => by go_simp⟩) (by assumption) ?_
          try simp only [Act.put, List.setIfInBounds_toArray, List.set_cons_zero, List.set_cons_succ]
          refine wpAnyH_ready (rs := [4]) (by kernel_rfl) (by simp) ?_
          refine AllReadyH.cons (o := { dst := some 28, op := Op.call { callee := Callee.value (Operand.func 25), args := #[Operand.tmp 25, Operand.tmp 27], argTypes := #[26, 30] }, type := 3, pos := "trie.go:61", after := #[{ on := 1, ground := Ground.data }, { on := 3, ground := Ground.data }], guard := none }) rfl (fun K hK => ?_) AllReadyH.nil
          go_simp
          with_reducible refine (c25 _ hHeld.1).mono ?_
          rintro e w6 ⟨rfl, hw6⟩
          rw [← hw6]
          clear hw6 w6
          refine hK.out _ _ (hHeld) (fun hHeld => ?_)
          clear hK K
          try simp only [Act.put, List.setIfInBounds_toArray, List.set_cons_zero, List.set_cons_succ]
          refine wpAnyH_take (i := 7) (oi := { dst := some 31, op := Op.indexAddr 62 (Operand.tmp 30) (Operand.tmp 28), type := 0, pos := "trie.go:61", after := #[{ on := 6, ground := Ground.data }, { on := 4, ground := Ground.data }], guard := none }) (v := .pointer (some ⟨q, 9, none⟩)) rfl (by kernel_rfl) (by kernel_rfl) (by kernel_rfl) (fun _ _ _ h => h) (Or.inl ⟨by rfl, fun w hSw => by go_simp⟩) (by assumption) ?_
          try simp only [Act.put, List.setIfInBounds_toArray, List.set_cons_zero, List.set_cons_succ]
          refine wpAnyH_take (i := 8) (oi := { dst := some 32, op := Op.load 26 (Operand.tmp 31), type := 26, pos := "trie.go:61", after := #[{ on := 7, ground := Ground.data }], guard := none }) (v := .pointer pr) rfl (by kernel_rfl) (by kernel_rfl) (by kernel_rfl) (fun _ _ _ h => h) (Or.inl ⟨by rfl, fun w hSw => by obtain ⟨k0, k1, k2, k8, k9⟩ := placeN hSw.1; go_simp⟩) (by assumption) ?_
          try simp only [Act.put, List.setIfInBounds_toArray, List.set_cons_zero, List.set_cons_succ]
          refine wpAnyH_take (i := 9) (oi := { dst := some 6, op := Op.assign (Operand.tmp 32), type := 26, pos := "trie.go:61", after := #[{ on := 8, ground := Ground.data }, { on := 4, ground := Ground.chain }, { on := 0, ground := Ground.phase }, { on := 1, ground := Ground.phase }, { on := 2, ground := Ground.phase }, { on := 3, ground := Ground.phase }, { on := 4, ground := Ground.phase }, { on := 5, ground := Ground.phase }, { on := 6, ground := Ground.phase }, { on := 7, ground := Ground.phase }, { on := 8, ground := Ground.phase }], guard := none }) (v := .pointer pr) rfl (by kernel_rfl) (by kernel_rfl) (by kernel_rfl) (fun _ _ _ h => h) (Or.inl ⟨by rfl, fun w hSw => by go_simp⟩) (by assumption) ?_
          try simp only [Act.put, List.setIfInBounds_toArray, List.set_cons_zero, List.set_cons_succ]
          refine wpAnyH_done (by kernel_rfl) ?_ _
          try unfold NoPanic
          go_wp2
          go_roundw
          case rel => exact Lib.hid ⟨⟨r, br, HW.out.2.2, HW.out.1.2.2.2.2.2, by rw [HK.out, if_pos hs]⟩, HBE5.out, HRP5.out, HRR5.out⟩
          case measure =>
            have h1 := msr_node HQ.out
            have h2 := msr_child HW.out.2.2 HBE5.out HW.out.1.2.2.2.2.2 HW.out.1.2.2.2.1 HW.out.1.1.2.1
            omega
end Go.Proofs.Ytfhpcpanjonpeaa.Tri

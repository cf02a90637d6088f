/- The longest prefix of an address. -/
import Derived.Test.YtfhpcpanjonpeaaTs
import Derived.Deep.DeepCutAuto
import Derived.Deep.RegionHeld3
namespace Go.Proofs.Ytfhpcpanjonpeaa.Tri
open Pre
open Go.ChangeShapes Go.WideShapes Go.ChangeAt Go.RowKit

def ocl (o : Option R) : Array Value :=
  match o with
  | none => #[.int .u32 0, .int .u8 0, .int .i64 0, .int .u16 0, .int .u16 0]
  | some r => r.cl
theorem ocl_form (o : Option R) : ∃ a n via mt sq : Int, ocl o = #[.int .u32 a, .int .u8 n, .int .i64 via, .int .u16 mt, .int .u16 sq] := by
  cases o <;> exact ⟨_, _, _, _, _, rfl⟩
/-- On the way down. -/
structure LK (w wr : World) (t : T) (b : Nat) (v7 v8 : Value) : Prop where
  ex : ∃ t' o bs', v7 = .bool o.isSome ∧ At w t' v8 bs' ∧ t'.WF ∧ t.look b none = t'.look b o ∧ wr.heap[w.heap.size + 1]? = some (.cells (ocl o) 39 (0, 0))
  be : Below w.heap.size w wr
  rr : wr.heap[w.heap.size]? = some (.cells #[.int .u32 0, .int .u8 0, .int .i64 0, .int .u16 0, .int .u16 0] 39 (0, 0))
/-- How far it may still go. -/
def msr (v : Value) (w : World) : Nat :=
  match v with
  | .pointer (some a) => match w.cell? ⟨a.block, 1, none⟩ with
    | some (.int _ n) => 40 - n.toNat
    | _ => 0
  | _ => 0
theorem msr_node {w : World} {q a n : Nat} {x : Option R} {vl vr : Value} (h : w.heap[q]? = some (.cells (cellsN a n x vl vr) 64 (0, 0))) : msr (.pointer (some ⟨q, 0, none⟩)) w = 40 - n := by
  obtain ⟨_, h1, _⟩ := placeN h
  simp [msr, h1]
theorem msr_child {w w' : World} {a n : Nat} {s : Bool} {t : T} {v : Value} {bs : List Nat} (h : At w t v bs) (hB : Below w.heap.size w w') (hw : t.WF) (hr : t.Root (U a n s)) (hn : n ≤ 32) : msr v w' < 40 - n := by
  cases t with
  | nil => obtain ⟨rfl, _⟩ := h; simp [msr]; omega
  | node b m x l r =>
    obtain ⟨q, vl, vr, bl, br, rfl, _, hq, _⟩ := h
    rw [msr_node ((hB.block _ (Array.getElem?_eq_some_iff.1 hq).1).trans hq)]
    have := hr.1
    have := hr.2.1
    omega
theorem sets5 (wx : World) (b : Nat) (y0 y1 y2 y3 y4 : Value) : Below b wx (((((wx.setCell ⟨b, 0, none⟩ y0).setCell ⟨b, 1, none⟩ y1).setCell ⟨b, 2, none⟩ y2).setCell ⟨b, 3, none⟩ y3).setCell ⟨b, 4, none⟩ y4) :=
  ((((((Below.refl b wx).setCell (p := ⟨b, 0, none⟩) (Nat.le_refl _) _).setCell (p := ⟨b, 1, none⟩) (Nat.le_refl _) _).setCell (p := ⟨b, 2, none⟩) (Nat.le_refl _) _).setCell (p := ⟨b, 3, none⟩) (Nat.le_refl _) _).setCell (p := ⟨b, 4, none⟩) (Nat.le_refl _) _)
theorem sets5_far (wx : World) (b : Nat) (y0 y1 y2 y3 y4 : Value) : ∀ k, k ≠ b → (((((wx.setCell ⟨b, 0, none⟩ y0).setCell ⟨b, 1, none⟩ y1).setCell ⟨b, 2, none⟩ y2).setCell ⟨b, 3, none⟩ y3).setCell ⟨b, 4, none⟩ y4).heap[k]? = wx.heap[k]? := by
  intro k hk
  repeat rw [Below.heap_setCell _ ⟨b, _, none⟩ _ k hk]
theorem sets5_row {w : World} {b : Nat} {t : TypeId} {x0 x1 x2 x3 x4 : Value} (h : w.heap[b]? = some (.cells #[x0, x1, x2, x3, x4] t (0, 0))) (y0 y1 y2 y3 y4 : Value) :
    (((((w.setCell ⟨b, 0, none⟩ y0).setCell ⟨b, 1, none⟩ y1).setCell ⟨b, 2, none⟩ y2).setCell ⟨b, 3, none⟩ y3).setCell ⟨b, 4, none⟩ y4).heap[b]? = some (.cells #[y0, y1, y2, y3, y4] t (0, 0)) := by
  have e0 := heap_setCell_same _ b 0 _ t y0 h
  have e1 := heap_setCell_same _ b 1 _ t y1 e0
  have e2 := heap_setCell_same _ b 2 _ t y2 e1
  have e3 := heap_setCell_same _ b 3 _ t y3 e2
  have e4 := heap_setCell_same _ b 4 _ t y4 e3
  rw [e4]
  simp
set_option maxRecDepth 8000 in
set_option maxHeartbeats 8000000 in
theorem Look_any {w : World} {g c : Nat} {t : T} {bs : List Nat} (h : TrAt w g t c bs) (hw : t.WF) (b : Nat) (hb : b < 4294967296) :
    Calls Try.prog 14 #[.pointer (some ⟨g, 0, none⟩), .int .u32 (b : Int)] w fun e w' => e = .returned (.tuple #[.agg (ocl (t.look b none)), .bool (t.look b none).isSome]) ∧ Below w.heap.size w w' := by
  have hgs := h.lt
  obtain ⟨v, hv, hA⟩ := h.row
  obtain ⟨pv, rfl⟩ := hA.ptr
  have B2 := ((Below.refl w.heap.size w).alloc (Nat.le_refl _) (.cells #[.int .u32 0, .int .u8 0, .int .i64 0, .int .u16 0, .int .u16 0] 39)).alloc (by simp) (.cells #[.int .u32 0, .int .u8 0, .int .i64 0, .int .u16 0, .int .u16 0] 39)
  have HLK : Hid (LK w ((w.alloc (.cells #[.int .u32 0, .int .u8 0, .int .i64 0, .int .u16 0, .int .u16 0] 39)).alloc (.cells #[.int .u32 0, .int .u8 0, .int .i64 0, .int .u16 0, .int .u16 0] 39)) t b (.bool false) (.pointer pv)) := Lib.hid ⟨⟨t, none, bs, rfl, hA, hw, rfl, heap_new1 _ _ _⟩, B2, (heap_alloc_old _ _ (by simp)).trans (heap_alloc_new w _)⟩
  obtain ⟨p0, p1⟩ := row2 ((B2.block _ hgs).trans hv)
  clear h hA hv B2
  go_enter Try.func14, Try.ntmps14
  go_wp2
  go_loopw [7, 8] (fun v7 v8 wr => Hid (LK w wr t b v7 v8)) (fun _ v8 wr => msr v8 wr)
  case atStart => exact HLK
  case round =>
    have HR := hrel
    clear HLK hrel p0 p1
    obtain ⟨⟨t', o, bs', rfl, hA, hw', hlk, hbx⟩, hbe, hrr⟩ := HR.out
    obtain ⟨oa, on, ov, om, os, ho⟩ := ocl_form o
    rw [ho] at hbx
    have HO := Lib.hid ho
    have HBX := Lib.hid hbx
    have HRR := Lib.hid hrr
    have HBE := Lib.hid hbe
    have HLE := Lib.hid hlk
    clear ho hbx hrr hbe HR hlk
    cases t' with
    | nil =>
      obtain ⟨rfl, _⟩ := hA
      obtain ⟨y0, y1, y2, y3, y4⟩ := row5 HBX.out
      obtain ⟨r0, r1, r2, r3, r4⟩ := row5 HRR.out
      have hf := fun i => frozen_of_row _ w.heap.size i _ 39 HRR.out
      have HLO : Hid (t.look b none = o) := Lib.hid HLE.out
      go_wp2
      exact bodyPost_ret (v := .tuple #[.agg (ocl o), .bool o.isSome]) (by rw [HO.out]; simp [results, Try.results14, go_sem, r0, r1, r2, r3, r4]) rfl ⟨by rw [HLO.out], HBE.out.trans (sets5 _ _ ..)⟩
    | node a n x l r =>
      obtain ⟨q, vl, vr, bl, br, rfl, _, hq, hl, hr⟩ := hA
      have hqs := (Array.getElem?_eq_some_iff.1 hq).1
      have HQ := Lib.hid ((HBE.out.block q hqs).trans hq)
      have c19 := fun W => has_any a n b hw'.1.1 (by have := hw'.1.2.1; omega) hb W
      obtain ⟨pl, rfl⟩ := hl.ptr
      obtain ⟨pr, rfl⟩ := hr.ptr
      have HW := Lib.hid (And.intro hw' (And.intro hl hr))
      clear hw' hl hr hq
      cases hal : alike a b n
      · rw [hal] at c19
        obtain ⟨k0, k1, k2, k8, k9⟩ := placeN HQ.out
        go_upto_region 10 with (first
          | (go_at_call 19; (with_reducible refine (c19 _).mono ?_); rintro e w3 ⟨rfl, B3⟩))
        have HBX3 := Lib.hid ((B3.block _ (Array.getElem?_eq_some_iff.1 HBX.out).1).trans HBX.out)
        have HRR3 := Lib.hid ((B3.block _ (Array.getElem?_eq_some_iff.1 HRR.out).1).trans HRR.out)
        have HBE3 := Lib.hid (HBE.out.trans (B3.mono HBE.out.size))
        clear HBX HRR HBE B3 k0 k1 k2 k8 k9
        obtain ⟨y0, y1, y2, y3, y4⟩ := row5 HBX3.out
        obtain ⟨r0, r1, r2, r3, r4⟩ := row5 HRR3.out
        have hf := fun i => frozen_of_row _ w.heap.size i _ 39 HRR3.out
        have HLO : Hid (t.look b none = o) := Lib.hid (by rw [HLE.out, T.look, if_neg (by rw [hal]; decide)])
        go_wp2
        exact bodyPost_ret (v := .tuple #[.agg (ocl o), .bool o.isSome]) (by rw [HO.out]; simp [results, Try.results14, go_sem, r0, r1, r2, r3, r4]) rfl ⟨by rw [HLO.out], HBE3.out.trans (sets5 _ _ ..)⟩
      · rw [hal] at c19
        have hlk := HLE.out
        rw [T.look, if_pos hal] at hlk
        have HK := Lib.hid hlk
        clear hlk HLE
        obtain ⟨k0, k1, k2, k8, k9⟩ := placeN HQ.out
        cases x with
        | none =>
          go_upto_region 7 with (first
            | (go_at_call 19; (with_reducible refine (c19 _).mono ?_); rintro e w3 ⟨rfl, B3⟩; clear k0 k1 k2 k8 k9; obtain ⟨k0, k1, k2, k8, k9⟩ := placeN ((B3.block _ (Array.getElem?_eq_some_iff.1 HQ.out).1).trans HQ.out)))
          have HBX3 := Lib.hid ((B3.block _ (Array.getElem?_eq_some_iff.1 HBX.out).1).trans HBX.out)
          have HRR3 := Lib.hid ((B3.block _ (Array.getElem?_eq_some_iff.1 HRR.out).1).trans HRR.out)
          have HBE3 := Lib.hid (HBE.out.trans (B3.mono HBE.out.size))
          have HQ3 := Lib.hid ((B3.block _ (Array.getElem?_eq_some_iff.1 HQ.out).1).trans HQ.out)
          clear HBX HRR HBE B3 k0 k1 k2 k8 k9
          have HBX4 := HBX3
          have HRR4 := HRR3
          have HBE4 := HBE3
          have HQ4 := HQ3
          clear HBX3 HRR3 HBE3 HQ3
          generalize w3 = w4 at *
          cases hs : sd b n
          · have c25 := fun W hh => side_any a n b q none (.pointer pl) (.pointer pr) hb HW.out.1.1.2.1 W hh
            rw [hs] at c25
            simp only [Bool.false_eq_true, if_false] at c25
            refine wp_region_noPanic ?_
            refine wp_region_held_drew (S := fun W : World => W.heap[q]? = some (.cells (cellsN a n none (.pointer pl) (.pointer pr)) 64 (0, 0))) (by kernel_rfl) (((Below.refl w4.heap.size w4).drew.block _ (Array.getElem?_eq_some_iff.1 HQ4.out).1).trans HQ4.out) (fun hHeld => ?_)
            have DD := (Below.refl w4.heap.size w4).drew
            have HBX5 := Lib.hid ((DD.block _ (Array.getElem?_eq_some_iff.1 HBX4.out).1).trans HBX4.out)
            have HRR5 := Lib.hid ((DD.block _ (Array.getElem?_eq_some_iff.1 HRR4.out).1).trans HRR4.out)
            have HBE5 := Lib.hid (HBE4.out.trans (DD.mono HBE4.out.size))
            clear DD HBX4 HRR4 HBE4 HQ4
            generalize w4.drew = wd4 at *
            refine wpAnyH_take (i := 0) (oi := { dst := some 26, op := Op.move (Operand.tmp 8), type := 26, pos := "trie.go:76", after := #[], guard := none }) (v := .pointer (some ⟨q, 0, none⟩)) rfl (by kernel_rfl) (by kernel_rfl) (by kernel_rfl) (fun _ _ _ h => h) (Or.inl ⟨by rfl, fun w hSw => by go_simp⟩) (by assumption) ?_
            try simp only [Act.put, List.setIfInBounds_toArray, List.set_cons_zero, List.set_cons_succ]
            refine wpAnyH_take (i := 1) (oi := { dst := some 27, op := Op.move (Operand.tmp 8), type := 26, pos := "trie.go:76", after := #[], guard := none }) (v := .pointer (some ⟨q, 0, none⟩)) rfl (by kernel_rfl) (by kernel_rfl) (by kernel_rfl) (fun _ _ _ h => h) (Or.inl ⟨by rfl, fun w hSw => by go_simp⟩) (by assumption) ?_
            try simp only [Act.put, List.setIfInBounds_toArray, List.set_cons_zero, List.set_cons_succ]
            refine wpAnyH_take (i := 2) (oi := { dst := some 28, op := Op.move (Operand.tmp 1), type := 30, pos := "trie.go:76", after := #[], guard := none }) (v := .int .u32 (b : Int)) rfl (by kernel_rfl) (by kernel_rfl) (by kernel_rfl) (fun _ _ _ h => h) (Or.inl ⟨by rfl, fun w hSw => by go_simp⟩) (by assumption) ?_
            try simp only [Act.put, List.setIfInBounds_toArray, List.set_cons_zero, List.set_cons_succ]
            refine wpAnyH_take (i := 4) (oi := { dst := some 30, op := Op.nilCheck (Operand.tmp 26), type := 0, pos := "trie.go:76", after := #[{ on := 0, ground := Ground.data }], guard := none }) (v := .pointer (some ⟨q, 0, none⟩)) rfl (by kernel_rfl) (by kernel_rfl) (by kernel_rfl) (fun _ _ _ h => h) (Or.inl ⟨by rfl, fun w hSw => by go_simp⟩) (by assumption) ?_
            try simp only [Act.put, List.setIfInBounds_toArray, List.set_cons_zero, List.set_cons_succ]
            refine wpAnyH_take (i := 5) (oi := { dst := some 31, op := Op.fieldAddr 64 (Operand.tmp 30) 3, type := 0, pos := "trie.go:76", after := #[{ on := 4, ground := Ground.data }], guard := none }) (v := .pointer (some ⟨q, 8, none⟩)) rfl (by kernel_rfl) (by kernel_rfl) (by kernel_rfl) (fun _ _ _ h => h) (Or.inl ⟨by rfl, fun w hSw => by go_simp⟩) (by assumption) ?_
            try simp only [Act.put, List.setIfInBounds_toArray, List.set_cons_zero, List.set_cons_succ]
            refine wpAnyH_ready (rs := [3]) (by kernel_rfl) (by simp) ?_
            refine AllReadyH.cons (o := { dst := some 29, op := Op.call { callee := Callee.value (Operand.func 25), args := #[Operand.tmp 27, Operand.tmp 28], argTypes := #[26, 30] }, type := 3, pos := "trie.go:76", after := #[{ on := 1, ground := Ground.data }, { on := 2, ground := Ground.data }], guard := none }) rfl (fun K hK => ?_) AllReadyH.nil
            go_simp
            with_reducible refine (c25 _ hHeld).mono ?_
            rintro e w6 ⟨rfl, hw6⟩
            rw [← hw6]
            clear hw6 w6
            refine hK.out _ _ (hHeld) (fun hHeld => ?_)
            clear hK K
            try simp only [Act.put, List.setIfInBounds_toArray, List.set_cons_zero, List.set_cons_succ]
            refine wpAnyH_take (i := 6) (oi := { dst := some 32, op := Op.indexAddr 62 (Operand.tmp 31) (Operand.tmp 29), type := 0, pos := "trie.go:76", after := #[{ on := 5, ground := Ground.data }, { on := 3, ground := Ground.data }], guard := none }) (v := .pointer (some ⟨q, 8, none⟩)) rfl (by kernel_rfl) (by kernel_rfl) (by kernel_rfl) (fun _ _ _ h => h) (Or.inl ⟨by rfl, fun w hSw => by go_simp⟩) (by assumption) ?_
            try simp only [Act.put, List.setIfInBounds_toArray, List.set_cons_zero, List.set_cons_succ]
            refine wpAnyH_take (i := 7) (oi := { dst := some 33, op := Op.load 26 (Operand.tmp 32), type := 26, pos := "trie.go:76", after := #[{ on := 6, ground := Ground.data }], guard := none }) (v := .pointer pl) rfl (by kernel_rfl) (by kernel_rfl) (by kernel_rfl) (fun _ _ _ h => h) (Or.inl ⟨by rfl, fun w hSw => by obtain ⟨k0, k1, k2, k8, k9⟩ := placeN hSw; go_simp⟩) (by assumption) ?_
            try simp only [Act.put, List.setIfInBounds_toArray, List.set_cons_zero, List.set_cons_succ]
            refine wpAnyH_take (i := 8) (oi := { dst := some 8, op := Op.assign (Operand.tmp 33), type := 26, pos := "trie.go:76", after := #[{ on := 7, ground := Ground.data }, { on := 3, ground := Ground.chain }, { on := 0, ground := Ground.phase }, { on := 1, ground := Ground.phase }, { on := 2, ground := Ground.phase }, { on := 3, ground := Ground.phase }, { on := 4, ground := Ground.phase }, { on := 5, ground := Ground.phase }, { on := 6, ground := Ground.phase }, { on := 7, ground := Ground.phase }], guard := none }) (v := .pointer pl) rfl (by kernel_rfl) (by kernel_rfl) (by kernel_rfl) (fun _ _ _ h => h) (Or.inl ⟨by rfl, fun w hSw => by go_simp⟩) (by assumption) ?_
            try simp only [Act.put, List.setIfInBounds_toArray, List.set_cons_zero, List.set_cons_succ]
            refine wpAnyH_done (by kernel_rfl) ?_ _
            try unfold NoPanic
            go_wp2
            go_roundw
            case rel => exact Lib.hid ⟨⟨l, o, bl, rfl, HW.out.2.1, HW.out.1.2.2.2.2.1, by rw [HK.out, if_neg (by rw [hs]; decide)]; rfl, by rw [HO.out]; exact HBX5.out⟩, HBE5.out, HRR5.out⟩
            case measure =>
              have h1 := msr_node HQ.out
              have h2 := msr_child HW.out.2.1 HBE5.out HW.out.1.2.2.2.2.1 HW.out.1.2.2.1 HW.out.1.1.2.1
              omega
          · have c25 := fun W hh => side_any a n b q none (.pointer pl) (.pointer pr) hb HW.out.1.1.2.1 W hh
            rw [hs] at c25
            simp only [if_true] at c25
            refine wp_region_noPanic ?_
            refine wp_region_held_drew (S := fun W : World => W.heap[q]? = some (.cells (cellsN a n none (.pointer pl) (.pointer pr)) 64 (0, 0))) (by kernel_rfl) (((Below.refl w4.heap.size w4).drew.block _ (Array.getElem?_eq_some_iff.1 HQ4.out).1).trans HQ4.out) (fun hHeld => ?_)
            have DD := (Below.refl w4.heap.size w4).drew
            have HBX5 := Lib.hid ((DD.block _ (Array.getElem?_eq_some_iff.1 HBX4.out).1).trans HBX4.out)
            have HRR5 := Lib.hid ((DD.block _ (Array.getElem?_eq_some_iff.1 HRR4.out).1).trans HRR4.out)
            have HBE5 := Lib.hid (HBE4.out.trans (DD.mono HBE4.out.size))
            clear DD HBX4 HRR4 HBE4 HQ4
            generalize w4.drew = wd4 at *
            refine wpAnyH_take (i := 0) (oi := { dst := some 26, op := Op.move (Operand.tmp 8), type := 26, pos := "trie.go:76", after := #[], guard := none }) (v := .pointer (some ⟨q, 0, none⟩)) rfl (by kernel_rfl) (by kernel_rfl) (by kernel_rfl) (fun _ _ _ h => h) (Or.inl ⟨by rfl, fun w hSw => by go_simp⟩) (by assumption) ?_
            try simp only [Act.put, List.setIfInBounds_toArray, List.set_cons_zero, List.set_cons_succ]
            refine wpAnyH_take (i := 1) (oi := { dst := some 27, op := Op.move (Operand.tmp 8), type := 26, pos := "trie.go:76", after := #[], guard := none }) (v := .pointer (some ⟨q, 0, none⟩)) rfl (by kernel_rfl) (by kernel_rfl) (by kernel_rfl) (fun _ _ _ h => h) (Or.inl ⟨by rfl, fun w hSw => by go_simp⟩) (by assumption) ?_
            try simp only [Act.put, List.setIfInBounds_toArray, List.set_cons_zero, List.set_cons_succ]
            refine wpAnyH_take (i := 2) (oi := { dst := some 28, op := Op.move (Operand.tmp 1), type := 30, pos := "trie.go:76", after := #[], guard := none }) (v := .int .u32 (b : Int)) rfl (by kernel_rfl) (by kernel_rfl) (by kernel_rfl) (fun _ _ _ h => h) (Or.inl ⟨by rfl, fun w hSw => by go_simp⟩) (by assumption) ?_
            try simp only [Act.put, List.setIfInBounds_toArray, List.set_cons_zero, List.set_cons_succ]
            refine wpAnyH_take (i := 4) (oi := { dst := some 30, op := Op.nilCheck (Operand.tmp 26), type := 0, pos := "trie.go:76", after := #[{ on := 0, ground := Ground.data }], guard := none }) (v := .pointer (some ⟨q, 0, none⟩)) rfl (by kernel_rfl) (by kernel_rfl) (by kernel_rfl) (fun _ _ _ h => h) (Or.inl ⟨by rfl, fun w hSw => by go_simp⟩) (by assumption) ?_
            try simp only [Act.put, List.setIfInBounds_toArray, List.set_cons_zero, List.set_cons_succ]
            refine wpAnyH_take (i := 5) (oi := { dst := some 31, op := Op.fieldAddr 64 (Operand.tmp 30) 3, type := 0, pos := "trie.go:76", after := #[{ on := 4, ground := Ground.data }], guard := none }) (v := .pointer (some ⟨q, 8, none⟩)) rfl (by kernel_rfl) (by kernel_rfl) (by kernel_rfl) (fun _ _ _ h => h) (Or.inl ⟨by rfl, fun w hSw => by go_simp⟩) (by assumption) ?_
            try simp only [Act.put, List.setIfInBounds_toArray, List.set_cons_zero, List.set_cons_succ]
            refine wpAnyH_ready (rs := [3]) (by kernel_rfl) (by simp) ?_
            refine AllReadyH.cons (o := { dst := some 29, op := Op.call { callee := Callee.value (Operand.func 25), args := #[Operand.tmp 27, Operand.tmp 28], argTypes := #[26, 30] }, type := 3, pos := "trie.go:76", after := #[{ on := 1, ground := Ground.data }, { on := 2, ground := Ground.data }], guard := none }) rfl (fun K hK => ?_) AllReadyH.nil
            go_simp
            with_reducible refine (c25 _ hHeld).mono ?_
            rintro e w6 ⟨rfl, hw6⟩
            rw [← hw6]
            clear hw6 w6
            refine hK.out _ _ (hHeld) (fun hHeld => ?_)
            clear hK K
            try simp only [Act.put, List.setIfInBounds_toArray, List.set_cons_zero, List.set_cons_succ]
            refine wpAnyH_take (i := 6) (oi := { dst := some 32, op := Op.indexAddr 62 (Operand.tmp 31) (Operand.tmp 29), type := 0, pos := "trie.go:76", after := #[{ on := 5, ground := Ground.data }, { on := 3, ground := Ground.data }], guard := none }) (v := .pointer (some ⟨q, 9, none⟩)) rfl (by kernel_rfl) (by kernel_rfl) (by kernel_rfl) (fun _ _ _ h => h) (Or.inl ⟨by rfl, fun w hSw => by go_simp⟩) (by assumption) ?_
            try simp only [Act.put, List.setIfInBounds_toArray, List.set_cons_zero, List.set_cons_succ]
            refine wpAnyH_take (i := 7) (oi := { dst := some 33, op := Op.load 26 (Operand.tmp 32), type := 26, pos := "trie.go:76", after := #[{ on := 6, ground := Ground.data }], guard := none }) (v := .pointer pr) rfl (by kernel_rfl) (by kernel_rfl) (by kernel_rfl) (fun _ _ _ h => h) (Or.inl ⟨by rfl, fun w hSw => by obtain ⟨k0, k1, k2, k8, k9⟩ := placeN hSw; go_simp⟩) (by assumption) ?_
            try simp only [Act.put, List.setIfInBounds_toArray, List.set_cons_zero, List.set_cons_succ]
            refine wpAnyH_take (i := 8) (oi := { dst := some 8, op := Op.assign (Operand.tmp 33), type := 26, pos := "trie.go:76", after := #[{ on := 7, ground := Ground.data }, { on := 3, ground := Ground.chain }, { on := 0, ground := Ground.phase }, { on := 1, ground := Ground.phase }, { on := 2, ground := Ground.phase }, { on := 3, ground := Ground.phase }, { on := 4, ground := Ground.phase }, { on := 5, ground := Ground.phase }, { on := 6, ground := Ground.phase }, { on := 7, ground := Ground.phase }], guard := none }) (v := .pointer pr) rfl (by kernel_rfl) (by kernel_rfl) (by kernel_rfl) (fun _ _ _ h => h) (Or.inl ⟨by rfl, fun w hSw => by go_simp⟩) (by assumption) ?_
            try simp only [Act.put, List.setIfInBounds_toArray, List.set_cons_zero, List.set_cons_succ]
            refine wpAnyH_done (by kernel_rfl) ?_ _
            try unfold NoPanic
            go_wp2
            go_roundw
            case rel => exact Lib.hid ⟨⟨r, o, br, rfl, HW.out.2.2, HW.out.1.2.2.2.2.2, by rw [HK.out, if_pos hs]; rfl, by rw [HO.out]; exact HBX5.out⟩, HBE5.out, HRR5.out⟩
            case measure =>
              have h1 := msr_node HQ.out
              have h2 := msr_child HW.out.2.2 HBE5.out HW.out.1.2.2.2.2.2 HW.out.1.2.2.2.1 HW.out.1.1.2.1
              omega
        | some y =>
          go_upto_region 7 with (first
            | (go_at_call 19; (with_reducible refine (c19 _).mono ?_); rintro e w3 ⟨rfl, B3⟩; clear k0 k1 k2 k8 k9; obtain ⟨k0, k1, k2, k8, k9⟩ := placeN ((B3.block _ (Array.getElem?_eq_some_iff.1 HQ.out).1).trans HQ.out); obtain ⟨xa, xn, xv, xm, xs, ⟨k3, k4, k5, k6, k7⟩, hxe⟩ := routeN ((B3.block _ (Array.getElem?_eq_some_iff.1 HQ.out).1).trans HQ.out); have HXE := Lib.hid (hxe y rfl); clear hxe; obtain ⟨y0, y1, y2, y3, y4⟩ := row5 ((B3.block _ (Array.getElem?_eq_some_iff.1 HBX.out).1).trans HBX.out); have fz := fun i => frozen_of_row _ (w.heap.size + 1) i _ 39 ((B3.block _ (Array.getElem?_eq_some_iff.1 HBX.out).1).trans HBX.out)))
          have HBX3 := Lib.hid ((B3.block _ (Array.getElem?_eq_some_iff.1 HBX.out).1).trans HBX.out)
          have HRR3 := Lib.hid ((B3.block _ (Array.getElem?_eq_some_iff.1 HRR.out).1).trans HRR.out)
          have HBE3 := Lib.hid (HBE.out.trans (B3.mono HBE.out.size))
          have HQ3 := Lib.hid ((B3.block _ (Array.getElem?_eq_some_iff.1 HQ.out).1).trans HQ.out)
          clear HBX HRR HBE B3 k0 k1 k2 k8 k9 k3 k4 k5 k6 k7 y0 y1 y2 y3 y4 fz
          have hqx : q ≠ w.heap.size + 1 := by omega
          have HBX4 := Lib.hid (sets5_row HBX3.out (.int .u32 xa) (.int .u8 xn) (.int .i64 xv) (.int .u16 xm) (.int .u16 xs))
          have HRR4 := Lib.hid ((sets5_far w3 (w.heap.size + 1) (.int .u32 xa) (.int .u8 xn) (.int .i64 xv) (.int .u16 xm) (.int .u16 xs) w.heap.size (by omega)).trans HRR3.out)
          have HQ4 := Lib.hid ((sets5_far w3 (w.heap.size + 1) (.int .u32 xa) (.int .u8 xn) (.int .i64 xv) (.int .u16 xm) (.int .u16 xs) q hqx).trans HQ3.out)
          have HBE4 := Lib.hid (HBE3.out.trans ((sets5 w3 (w.heap.size + 1) (.int .u32 xa) (.int .u8 xn) (.int .i64 xv) (.int .u16 xm) (.int .u16 xs)).mono (Nat.le_succ _)))
          clear HBX3 HRR3 HBE3 HQ3
          generalize World.setCell (World.setCell (World.setCell (World.setCell (World.setCell w3 _ _) _ _) _ _) _ _) _ _ = w4 at *
          cases hs : sd b n
          · have c25 := fun W hh => side_any a n b q (some y) (.pointer pl) (.pointer pr) hb HW.out.1.1.2.1 W hh
            rw [hs] at c25
            simp only [Bool.false_eq_true, if_false] at c25
            refine wp_region_noPanic ?_
            refine wp_region_held_drew (S := fun W : World => W.heap[q]? = some (.cells (cellsN a n (some y) (.pointer pl) (.pointer pr)) 64 (0, 0))) (by kernel_rfl) (((Below.refl w4.heap.size w4).drew.block _ (Array.getElem?_eq_some_iff.1 HQ4.out).1).trans HQ4.out) (fun hHeld => ?_)
            have DD := (Below.refl w4.heap.size w4).drew
            have HBX5 := Lib.hid ((DD.block _ (Array.getElem?_eq_some_iff.1 HBX4.out).1).trans HBX4.out)
            have HRR5 := Lib.hid ((DD.block _ (Array.getElem?_eq_some_iff.1 HRR4.out).1).trans HRR4.out)
            have HBE5 := Lib.hid (HBE4.out.trans (DD.mono HBE4.out.size))
            clear DD HBX4 HRR4 HBE4 HQ4
            generalize w4.drew = wd4 at *
            refine wpAnyH_take (i := 0) (oi := { dst := some 26, op := Op.move (Operand.tmp 8), type := 26, pos := "trie.go:76", after := #[], guard := none }) (v := .pointer (some ⟨q, 0, none⟩)) rfl (by kernel_rfl) (by kernel_rfl) (by kernel_rfl) (fun _ _ _ h => h) (Or.inl ⟨by rfl, fun w hSw => by go_simp⟩) (by assumption) ?_
            try simp only [Act.put, List.setIfInBounds_toArray, List.set_cons_zero, List.set_cons_succ]
            refine wpAnyH_take (i := 1) (oi := { dst := some 27, op := Op.move (Operand.tmp 8), type := 26, pos := "trie.go:76", after := #[], guard := none }) (v := .pointer (some ⟨q, 0, none⟩)) rfl (by kernel_rfl) (by kernel_rfl) (by kernel_rfl) (fun _ _ _ h => h) (Or.inl ⟨by rfl, fun w hSw => by go_simp⟩) (by assumption) ?_
            try simp only [Act.put, List.setIfInBounds_toArray, List.set_cons_zero, List.set_cons_succ]
            refine wpAnyH_take (i := 2) (oi := { dst := some 28, op := Op.move (Operand.tmp 1), type := 30, pos := "trie.go:76", after := #[], guard := none }) (v := .int .u32 (b : Int)) rfl (by kernel_rfl) (by kernel_rfl) (by kernel_rfl) (fun _ _ _ h => h) (Or.inl ⟨by rfl, fun w hSw => by go_simp⟩) (by assumption) ?_
            try simp only [Act.put, List.setIfInBounds_toArray, List.set_cons_zero, List.set_cons_succ]
            refine wpAnyH_take (i := 4) (oi := { dst := some 30, op := Op.nilCheck (Operand.tmp 26), type := 0, pos := "trie.go:76", after := #[{ on := 0, ground := Ground.data }], guard := none }) (v := .pointer (some ⟨q, 0, none⟩)) rfl (by kernel_rfl) (by kernel_rfl) (by kernel_rfl) (fun _ _ _ h => h) (Or.inl ⟨by rfl, fun w hSw => by go_simp⟩) (by assumption) ?_
            try simp only [Act.put, List.setIfInBounds_toArray, List.set_cons_zero, List.set_cons_succ]
            refine wpAnyH_take (i := 5) (oi := { dst := some 31, op := Op.fieldAddr 64 (Operand.tmp 30) 3, type := 0, pos := "trie.go:76", after := #[{ on := 4, ground := Ground.data }], guard := none }) (v := .pointer (some ⟨q, 8, none⟩)) rfl (by kernel_rfl) (by kernel_rfl) (by kernel_rfl) (fun _ _ _ h => h) (Or.inl ⟨by rfl, fun w hSw => by go_simp⟩) (by assumption) ?_
            try simp only [Act.put, List.setIfInBounds_toArray, List.set_cons_zero, List.set_cons_succ]
            refine wpAnyH_ready (rs := [3]) (by kernel_rfl) (by simp) ?_
            refine AllReadyH.cons (o := { dst := some 29, op := Op.call { callee := Callee.value (Operand.func 25), args := #[Operand.tmp 27, Operand.tmp 28], argTypes := #[26, 30] }, type := 3, pos := "trie.go:76", after := #[{ on := 1, ground := Ground.data }, { on := 2, ground := Ground.data }], guard := none }) rfl (fun K hK => ?_) AllReadyH.nil
            go_simp
            with_reducible refine (c25 _ hHeld).mono ?_
            rintro e w6 ⟨rfl, hw6⟩
            rw [← hw6]
            clear hw6 w6
            refine hK.out _ _ (hHeld) (fun hHeld => ?_)
            clear hK K
            try simp only [Act.put, List.setIfInBounds_toArray, List.set_cons_zero, List.set_cons_succ]
            refine wpAnyH_take (i := 6) (oi := { dst := some 32, op := Op.indexAddr 62 (Operand.tmp 31) (Operand.tmp 29), type := 0, pos := "trie.go:76", after := #[{ on := 5, ground := Ground.data }, { on := 3, ground := Ground.data }], guard := none }) (v := .pointer (some ⟨q, 8, none⟩)) rfl (by kernel_rfl) (by kernel_rfl) (by kernel_rfl) (fun _ _ _ h => h) (Or.inl ⟨by rfl, fun w hSw => by go_simp⟩) (by assumption) ?_
            try simp only [Act.put, List.setIfInBounds_toArray, List.set_cons_zero, List.set_cons_succ]
            refine wpAnyH_take (i := 7) (oi := { dst := some 33, op := Op.load 26 (Operand.tmp 32), type := 26, pos := "trie.go:76", after := #[{ on := 6, ground := Ground.data }], guard := none }) (v := .pointer pl) rfl (by kernel_rfl) (by kernel_rfl) (by kernel_rfl) (fun _ _ _ h => h) (Or.inl ⟨by rfl, fun w hSw => by obtain ⟨k0, k1, k2, k8, k9⟩ := placeN hSw; go_simp⟩) (by assumption) ?_
            try simp only [Act.put, List.setIfInBounds_toArray, List.set_cons_zero, List.set_cons_succ]
            refine wpAnyH_take (i := 8) (oi := { dst := some 8, op := Op.assign (Operand.tmp 33), type := 26, pos := "trie.go:76", after := #[{ on := 7, ground := Ground.data }, { on := 3, ground := Ground.chain }, { on := 0, ground := Ground.phase }, { on := 1, ground := Ground.phase }, { on := 2, ground := Ground.phase }, { on := 3, ground := Ground.phase }, { on := 4, ground := Ground.phase }, { on := 5, ground := Ground.phase }, { on := 6, ground := Ground.phase }, { on := 7, ground := Ground.phase }], guard := none }) (v := .pointer pl) rfl (by kernel_rfl) (by kernel_rfl) (by kernel_rfl) (fun _ _ _ h => h) (Or.inl ⟨by rfl, fun w hSw => by go_simp⟩) (by assumption) ?_
            try simp only [Act.put, List.setIfInBounds_toArray, List.set_cons_zero, List.set_cons_succ]
            refine wpAnyH_done (by kernel_rfl) ?_ _
            try unfold NoPanic
            go_wp2
            go_roundw
            case rel => exact Lib.hid ⟨⟨l, some y, bl, rfl, HW.out.2.1, HW.out.1.2.2.2.2.1, by rw [HK.out, if_neg (by rw [hs]; decide)]; rfl, by rw [show ocl (some y) = #[.int .u32 xa, .int .u8 xn, .int .i64 xv, .int .u16 xm, .int .u16 xs] from by rw [HXE.out.1, HXE.out.2.1, HXE.out.2.2.1, HXE.out.2.2.2.1, HXE.out.2.2.2.2]; rfl]; exact HBX5.out⟩, HBE5.out, HRR5.out⟩
            case measure =>
              have h1 := msr_node HQ.out
              have h2 := msr_child HW.out.2.1 HBE5.out HW.out.1.2.2.2.2.1 HW.out.1.2.2.1 HW.out.1.1.2.1
              omega
          · have c25 := fun W hh => side_any a n b q (some y) (.pointer pl) (.pointer pr) hb HW.out.1.1.2.1 W hh
            rw [hs] at c25
            simp only [if_true] at c25
            refine wp_region_noPanic ?_
            refine wp_region_held_drew (S := fun W : World => W.heap[q]? = some (.cells (cellsN a n (some y) (.pointer pl) (.pointer pr)) 64 (0, 0))) (by kernel_rfl) (((Below.refl w4.heap.size w4).drew.block _ (Array.getElem?_eq_some_iff.1 HQ4.out).1).trans HQ4.out) (fun hHeld => ?_)
            have DD := (Below.refl w4.heap.size w4).drew
            have HBX5 := Lib.hid ((DD.block _ (Array.getElem?_eq_some_iff.1 HBX4.out).1).trans HBX4.out)
            have HRR5 := Lib.hid ((DD.block _ (Array.getElem?_eq_some_iff.1 HRR4.out).1).trans HRR4.out)
            have HBE5 := Lib.hid (HBE4.out.trans (DD.mono HBE4.out.size))
            clear DD HBX4 HRR4 HBE4 HQ4
            generalize w4.drew = wd4 at *
            refine wpAnyH_take (i := 0) (oi := { dst := some 26, op := Op.move (Operand.tmp 8), type := 26, pos := "trie.go:76", after := #[], guard := none }) (v := .pointer (some ⟨q, 0, none⟩)) rfl (by kernel_rfl) (by kernel_rfl) (by kernel_rfl) (fun _ _ _ h => h) (Or.inl ⟨by rfl, fun w hSw => by go_simp⟩) (by assumption) ?_
            try simp only [Act.put, List.setIfInBounds_toArray, List.set_cons_zero, List.set_cons_succ]
            refine wpAnyH_take (i := 1) (oi := { dst := some 27, op := Op.move (Operand.tmp 8), type := 26, pos := "trie.go:76", after := #[], guard := none }) (v := .pointer (some ⟨q, 0, none⟩)) rfl (by kernel_rfl) (by kernel_rfl) (by kernel_rfl) (fun _ _ _ h => h) (Or.inl ⟨by rfl, fun w hSw => by go_simp⟩) (by assumption) ?_
            try simp only [Act.put, List.setIfInBounds_toArray, List.set_cons_zero, List.set_cons_succ]
            refine wpAnyH_take (i := 2) (oi := { dst := some 28, op := Op.move (Operand.tmp 1), type := 30, pos := "trie.go:76", after := #[], guard := none }) (v := .int .u32 (b : Int)) rfl (by kernel_rfl) (by kernel_rfl) (by kernel_rfl) (fun _ _ _ h => h) (Or.inl ⟨by rfl, fun w hSw => by go_simp⟩) (by assumption) ?_
            try simp only [Act.put, List.setIfInBounds_toArray, List.set_cons_zero, List.set_cons_succ]
            refine wpAnyH_take (i := 4) (oi := { dst := some 30, op := Op.nilCheck (Operand.tmp 26), type := 0, pos := "trie.go:76", after := #[{ on := 0, ground := Ground.data }], guard := none }) (v := .pointer (some ⟨q, 0, none⟩)) rfl (by kernel_rfl) (by kernel_rfl) (by kernel_rfl) (fun _ _ _ h => h) (Or.inl ⟨by rfl, fun w hSw => by go_simp⟩) (by assumption) ?_
            try simp only [Act.put, List.setIfInBounds_toArray, List.set_cons_zero, List.set_cons_succ]
            refine wpAnyH_take (i := 5) (oi := { dst := some 31, op := Op.fieldAddr 64 (Operand.tmp 30) 3, type := 0, pos := "trie.go:76", after := #[{ on := 4, ground := Ground.data }], guard := none }) (v := .pointer (some ⟨q, 8, none⟩)) rfl (by kernel_rfl) (by kernel_rfl) (by kernel_rfl) (fun _ _ _ h => h) (Or.inl ⟨by rfl, fun w hSw => by go_simp⟩) (by assumption) ?_
            try simp only [Act.put, List.setIfInBounds_toArray, List.set_cons_zero, List.set_cons_succ]
            refine wpAnyH_ready (rs := [3]) (by kernel_rfl) (by simp) ?_
            refine AllReadyH.cons (o := { dst := some 29, op := Op.call { callee := Callee.value (Operand.func 25), args := #[Operand.tmp 27, Operand.tmp 28], argTypes := #[26, 30] }, type := 3, pos := "trie.go:76", after := #[{ on := 1, ground := Ground.data }, { on := 2, ground := Ground.data }], guard := none }) rfl (fun K hK => ?_) AllReadyH.nil
            go_simp
            with_reducible refine (c25 _ hHeld).mono ?_
            rintro e w6 ⟨rfl, hw6⟩
            rw [← hw6]
            clear hw6 w6
            refine hK.out _ _ (hHeld) (fun hHeld => ?_)
            clear hK K
            try simp only [Act.put, List.setIfInBounds_toArray, List.set_cons_zero, List.set_cons_succ]
            refine wpAnyH_take (i := 6) (oi := { dst := some 32, op := Op.indexAddr 62 (Operand.tmp 31) (Operand.tmp 29), type := 0, pos := "trie.go:76", after := #[{ on := 5, ground := Ground.data }, { on := 3, ground := Ground.data }], guard := none }) (v := .pointer (some ⟨q, 9, none⟩)) rfl (by kernel_rfl) (by kernel_rfl) (by kernel_rfl) (fun _ _ _ h => h) (Or.inl ⟨by rfl, fun w hSw => by go_simp⟩) (by assumption) ?_
            try simp only [Act.put, List.setIfInBounds_toArray, List.set_cons_zero, List.set_cons_succ]
            refine wpAnyH_take (i := 7) (oi := { dst := some 33, op := Op.load 26 (Operand.tmp 32), type := 26, pos := "trie.go:76", after := #[{ on := 6, ground := Ground.data }], guard := none }) (v := .pointer pr) rfl (by kernel_rfl) (by kernel_rfl) (by kernel_rfl) (fun _ _ _ h => h) (Or.inl ⟨by rfl, fun w hSw => by obtain ⟨k0, k1, k2, k8, k9⟩ := placeN hSw; go_simp⟩) (by assumption) ?_
            try simp only [Act.put, List.setIfInBounds_toArray, List.set_cons_zero, List.set_cons_succ]
            refine wpAnyH_take (i := 8) (oi := { dst := some 8, op := Op.assign (Operand.tmp 33), type := 26, pos := "trie.go:76", after := #[{ on := 7, ground := Ground.data }, { on := 3, ground := Ground.chain }, { on := 0, ground := Ground.phase }, { on := 1, ground := Ground.phase }, { on := 2, ground := Ground.phase }, { on := 3, ground := Ground.phase }, { on := 4, ground := Ground.phase }, { on := 5, ground := Ground.phase }, { on := 6, ground := Ground.phase }, { on := 7, ground := Ground.phase }], guard := none }) (v := .pointer pr) rfl (by kernel_rfl) (by kernel_rfl) (by kernel_rfl) (fun _ _ _ h => h) (Or.inl ⟨by rfl, fun w hSw => by go_simp⟩) (by assumption) ?_
            try simp only [Act.put, List.setIfInBounds_toArray, List.set_cons_zero, List.set_cons_succ]
            refine wpAnyH_done (by kernel_rfl) ?_ _
            try unfold NoPanic
            go_wp2
            go_roundw
            case rel => exact Lib.hid ⟨⟨r, some y, br, rfl, HW.out.2.2, HW.out.1.2.2.2.2.2, by rw [HK.out, if_pos hs]; rfl, by rw [show ocl (some y) = #[.int .u32 xa, .int .u8 xn, .int .i64 xv, .int .u16 xm, .int .u16 xs] from by rw [HXE.out.1, HXE.out.2.1, HXE.out.2.2.1, HXE.out.2.2.2.1, HXE.out.2.2.2.2]; rfl]; exact HBX5.out⟩, HBE5.out, HRR5.out⟩
            case measure =>
              have h1 := msr_node HQ.out
              have h2 := msr_child HW.out.2.2 HBE5.out HW.out.1.2.2.2.2.2 HW.out.1.2.2.2.1 HW.out.1.1.2.1
              omega
end Go.Proofs.Ytfhpcpanjonpeaa.Tri

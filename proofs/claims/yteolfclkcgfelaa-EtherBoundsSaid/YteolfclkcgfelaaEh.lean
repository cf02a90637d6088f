/- Peek, Take. -/
import Derived.Test.YteolfclkcgfelaaEf
namespace Go.Proofs.Yteolfclkcgfelaa.Eth
open Go.ChangeShapes Go.WideShapes Go.ChangeAt Go.RowKit
open Coin (Rd Own b8 Row)
set_option maxRecDepth 8000
set_option linter.unusedVariables false
variable {lo : Nat} {w : World} {q : Nat} {H : Nat → Nat → Bool} {l : List Pk} {v : Value}

theorem row3f {b : Nat} {t : TypeId} {x0 x1 x2 : Value} (h : w.heap[b]? = some (.cells #[x0, x1, x2] t (0, 0))) : w.cell? ⟨b, 0, none⟩ = some x0 ∧ w.cell? ⟨b, 1, none⟩ = some x1 ∧ w.cell? ⟨b, 2, none⟩ = some x2 ∧ ∀ i, w.frozen? ⟨b, i, none⟩ = false :=
  ⟨by rw [cell_of_row w b 0 _ t _ h]; rfl, by rw [cell_of_row w b 1 _ t _ h]; rfl, by rw [cell_of_row w b 2 _ t _ h]; rfl, fun i => frozen_of_row w b i _ t h⟩
theorem put39 {g : Nat} {a b c : Value} (h : w.heap[g]? = some (.cells #[a, b, c] 39 (0, 0))) (x y z : Value) : (((w.setCell ⟨g, 0, none⟩ x).setCell ⟨g, 1, none⟩ y).setCell ⟨g, 2, none⟩ z).heap[g]? = some (.cells #[x, y, z] 39 (0, 0)) := by
  have h0 := heap_setCell_same w g 0 _ 39 x h
  have h1 := heap_setCell_same _ g 1 _ 39 y h0
  have h2 := heap_setCell_same _ g 2 _ 39 z h1
  rw [h2]
  rfl
theorem put39_2 {g : Nat} {a b c : Value} (h : w.heap[g]? = some (.cells #[a, b, c] 39 (0, 0))) (z : Value) : (w.setCell ⟨g, 2, none⟩ z).heap[g]? = some (.cells #[a, b, z] 39 (0, 0)) := by
  rw [heap_setCell_same w g 2 _ 39 z h]
  rfl
theorem put_ne {g k : Nat} (i : Nat) (u : Value) (h : k ≠ g) : (w.setCell ⟨g, i, none⟩ u).heap[k]? = w.heap[k]? := heap_setCell_other w ⟨g, i, none⟩ k u (fun e => h e)
theorem puts_ne {g k : Nat} (x y z : Value) (h : k ≠ g) : (((w.setCell ⟨g, 0, none⟩ x).setCell ⟨g, 1, none⟩ y).setCell ⟨g, 2, none⟩ z).heap[k]? = w.heap[k]? := by
  rw [put_ne _ _ h, put_ne _ _ h, put_ne _ _ h]
theorem below3 {W : World} {B g : Nat} (h : Below B w W) (hg : B ≤ g) (x y z : Value) : Below B w (((W.setCell ⟨g, 0, none⟩ x).setCell ⟨g, 1, none⟩ y).setCell ⟨g, 2, none⟩ z) := ((h.setCell (p := ⟨g, 0, none⟩) hg x).setCell (p := ⟨g, 1, none⟩) hg y).setCell (p := ⟨g, 2, none⟩) hg z
theorem results_ct {P : Program} {fn : Func} {p u : Tmp} {ty : TypeId} (h : fn.results = #[.cell p ty, .tmp u]) (tmps : Array Value) (w : World) (g : Nat) (t : TypeId) (cs : Array Value) (fr : Nat × Nat) (d : TypeDesc) (y : Value)
    (hp : tmps.getD p undef = .pointer (some ⟨g, 0, none⟩)) (hy : tmps.getD u undef = y) (hg : w.heap[g]? = some (.cells cs t fr))
    (hu : P.underlying ty = some d) (hd : (match d with | .struct _ | .array _ _ => true | _ => false) = true) (hi : (P.info? ty).map (·.size) = some cs.size) :
    (results fn tmps).run P w = .ok (.tuple #[.agg cs, y]) w := by
  rw [results_cell_tmp h, hp, hy]
  simp [asAddr, run_loadVar_row w g t ty cs fr d hg hu hd hi, Result.andThen]
def zeroP : Value := .agg #[.int .i64 0, .int .i64 0, .slice none 0 0]
theorem Peek_two (w : World) (p : Value) (i : Int) (hl : ∀ W, Below w.heap.size w W → Calls Try.prog 14 #[p] W fun e w' => e = .returned (.int .i64 0) ∧ W = w') : Calls Try.prog 11 #[p, .int .i64 i] w fun e w' => e = .returned (.tuple #[zeroP, .int .i64 2]) ∧ Below w.heap.size w w' := by
  have B0 := (Below.refl w.heap.size w).alloc (Nat.le_refl _) (.cells #[.int .i64 0, .int .i64 0, .slice none 0 0] 39)
  have R0 := heap_alloc_new w (.cells #[.int .i64 0, .int .i64 0, .slice none 0 0] 39)
  have cl := hl _ B0
  obtain ⟨p0, p1, p2, pf⟩ := row3f R0
  have HR := Lib.hid (And.intro R0 B0)
  clear hl B0 R0
  go_enter Try.func11, Try.ntmps11
  go_wp2_with (go_at_call 14; (with_reducible refine cl.mono ?_); rintro e w1 ⟨rfl, rfl⟩)
  exact bodyPost_ret (results_ct rfl _ _ w.heap.size 39 _ (0, 0) _ (.int .i64 2) rfl rfl HR.out.1 Try.underlying39 rfl (by kernel_rfl)) rfl ⟨rfl, HR.out.2⟩
theorem Peek_nil (w : World) (i : Int) : Calls Try.prog 11 #[.pointer none, .int .i64 i] w fun e w' => e = .returned (.tuple #[zeroP, .int .i64 2]) ∧ Below w.heap.size w w' := Peek_two w _ i fun W _ => len_nil W
theorem Peek_none (h : EAt lo w q H [] v) (i : Int) : Calls Try.prog 11 #[.pointer (some ⟨q, 0, none⟩), .int .i64 i] w fun e w' => e = .returned (.tuple #[zeroP, .int .i64 2]) ∧ Below w.heap.size w w' := Peek_two w _ i fun W B => len_any (h.below B)
def pkV (p : Pk) (u : Value) : Value := .agg #[.int .i64 (p.f : Int), .int .i64 (p.t : Int), u]
set_option maxHeartbeats 4000000 in
theorem Peek_any (h : EAt lo w q H l v) (hn : 0 < l.length) (hm : l.length ≤ 5000) (hd : ∀ x ∈ l, x.d.length ≤ 100000) (i : Int) : Calls Try.prog 11 #[.pointer (some ⟨q, 0, none⟩), .int .i64 i] w fun e w' => ∃ u, e = .returned (.tuple #[pkV (l[plc i l.length]'(plc_lt i hn)) u, .int .i64 0]) ∧ Own w' w.heap.size u (l[plc i l.length]'(plc_lt i hn)).d ∧ Below w.heap.size w w' := by
  obtain ⟨k, hk⟩ : ∃ k, k = plc i l.length := ⟨_, rfl⟩
  have hkl : k < l.length := hk ▸ plc_lt i hn
  obtain ⟨p, hp⟩ : ∃ p, p = l[k] := ⟨_, rfl⟩
  have hp' : l[plc i l.length]'(plc_lt i hn) = p := by rw [hp]; simp only [hk]
  rw [hp']
  have hpd : p.d.length ≤ 100000 := hd p (hp ▸ List.getElem_mem _)
  have B0 := (Below.refl w.heap.size w).alloc (Nat.le_refl _) (.cells #[.int .i64 0, .int .i64 0, .slice none 0 0] 39)
  have R0 := heap_alloc_new w (.cells #[.int .i64 0, .int .i64 0, .slice none 0 0] 39)
  have h0 := h.below B0
  have hs0 : w.heap.size < (w.alloc (.cells #[.int .i64 0, .int .i64 0, .slice none 0 0] 39)).heap.size := (Array.getElem?_eq_some_iff.1 R0).1
  obtain ⟨w0, hw0⟩ : ∃ w0, w0 = w.alloc (.cells #[.int .i64 0, .int .i64 0, .slice none 0 0] 39) := ⟨_, rfl⟩
  rw [← hw0] at B0 R0 h0 hs0
  have cl := len_any h0
  have HP : Hid (∀ W, EAt lo W q H l v → Calls Try.prog 19 #[.pointer (some ⟨q, 0, none⟩), .int .i64 i] W fun e w' => e = .returned (.int .i64 (k : Nat)) ∧ W = w') := Lib.hid fun W hW => hk ▸ place_any hW hn (by omega) i
  obtain ⟨g, c, u, rfl, _, hg, U2, U3, U4, U5⟩ := h0.sl.at' k hkl
  rw [← hp] at U2 U3 U4
  obtain ⟨n, hn'⟩ : ∃ n, n = l.length := ⟨_, rfl⟩
  rw [← hn'] at hkl hn cl h0 HP
  have hn0 : ¬ (n : Int) = 0 := by omega
  have hki : (k : Int) < n := by omega
  obtain ⟨uA, uc, rfl, U6, U7, U8⟩ := U2.form
  obtain ⟨um, hum⟩ : ∃ um, um = p.d.length := ⟨_, rfl⟩
  have HC : Hid (∀ W B, Below w0.heap.size w0 W → B ≤ W.heap.size → Calls Try.prog 17 #[.slice uA um uc] W fun e w' => ∃ v, e = .returned v ∧ Own w' B v p.d ∧ Below W.heap.size W w') := Lib.hid fun W B hW hB => by
    rw [hum]
    exact clone_any W B uA uc W.heap.size p.d (fun h => by obtain ⟨ad, e, a, b⟩ := U6.below (hW) (Nat.le_refl _) h; exact ⟨ad, e, Nat.lt_of_lt_of_le a hW.size, b⟩) U8 (fun e => by have := U8 e; exact List.eq_nil_of_length_eq_zero (by omega)) hpd hB
  rw [← hum] at U5
  have HE := Lib.hid h0
  have HG := Lib.hid (And.intro hg (And.intro h0.lt (And.intro h0.under (And.intro U3 (And.intro U4 U5)))))
  have HB0 := Lib.hid (And.intro B0 (And.intro R0 hs0))
  have HU := Lib.hid hum
  clear h hm hd hp hp' hk hn' U2 U3 U4 U5 U6 U7 U8 hum hpd h0 R0 hg hs0 B0
  go_enter Try.func11, Try.ntmps11
  go_upto_region 3 with (first | (rw [← hw0]; clear hw0; go_at_call 14; (with_reducible refine cl.mono ?_); rintro e w1 ⟨rfl, rfl⟩) | (go_at_call 14; (with_reducible refine cl.mono ?_); rintro e w1 ⟨rfl, rfl⟩))
  refine wp_region_noPanic ?_
  refine wp_region_held_drew (S := fun y9 : World => Below w0.heap.size w0 y9) (by kernel_rfl) ((Below.refl _ _).drew) (fun hHeld => ?_)
  generalize w0.drew = wd at *
  refine wpAnyH_take (i := 0) (oi := { dst := some 11, op := Op.move (Operand.tmp 0), type := 24, pos := "ether.go:116", after := #[], guard := none }) (v := .pointer (some ⟨q, 0, none⟩)) rfl (by kernel_rfl) (by kernel_rfl) (by kernel_rfl) (fun _ _ _ h => h) (Or.inl ⟨by rfl, fun w hSw => by go_simp⟩) (by assumption) ?_
  try simp only [Act.put, List.setIfInBounds_toArray, List.set_cons_zero, List.set_cons_succ]
  refine wpAnyH_take (i := 1) (oi := { dst := some 12, op := Op.nilCheck (Operand.tmp 11), type := 0, pos := "ether.go:116", after := #[{ on := 0, ground := Ground.data }], guard := none }) (v := .pointer (some ⟨q, 0, none⟩)) rfl (by kernel_rfl) (by kernel_rfl) (by kernel_rfl) (fun _ _ _ h => h) (Or.inl ⟨by rfl, fun w hSw => by go_simp⟩) (by assumption) ?_
  try simp only [Act.put, List.setIfInBounds_toArray, List.set_cons_zero, List.set_cons_succ]
  refine wpAnyH_take (i := 2) (oi := { dst := some 13, op := Op.fieldAddr 29 (Operand.tmp 12) 1, type := 0, pos := "ether.go:116", after := #[{ on := 1, ground := Ground.data }], guard := none }) (v := .pointer (some ⟨q, 256, none⟩)) rfl (by kernel_rfl) (by kernel_rfl) (by kernel_rfl) (fun _ _ _ h => h) (Or.inl ⟨by rfl, fun w hSw => by go_simp⟩) (by assumption) ?_
  try simp only [Act.put, List.setIfInBounds_toArray, List.set_cons_zero, List.set_cons_succ]
  refine wpAnyH_take (i := 3) (oi := { dst := some 14, op := Op.load 27 (Operand.tmp 13), type := 27, pos := "ether.go:116", after := #[{ on := 2, ground := Ground.data }], guard := none }) (v := .slice (some ⟨g, 0, none⟩) n c) rfl (by kernel_rfl) (by kernel_rfl) (by kernel_rfl) (fun _ _ _ h => h) (Or.inl ⟨by rfl, fun w hSw => by have c1 := (hSw.cell (p := ⟨q, 256, none⟩) HG.out.2.1).trans HG.out.2.2.1; go_simp⟩) (by assumption) ?_
  try simp only [Act.put, List.setIfInBounds_toArray, List.set_cons_zero, List.set_cons_succ]
  refine wpAnyH_take (i := 4) (oi := { dst := some 15, op := Op.move (Operand.tmp 0), type := 24, pos := "ether.go:116", after := #[], guard := none }) (v := .pointer (some ⟨q, 0, none⟩)) rfl (by kernel_rfl) (by kernel_rfl) (by kernel_rfl) (fun _ _ _ h => h) (Or.inl ⟨by rfl, fun w hSw => by go_simp⟩) (by assumption) ?_
  try simp only [Act.put, List.setIfInBounds_toArray, List.set_cons_zero, List.set_cons_succ]
  refine wpAnyH_take (i := 5) (oi := { dst := some 16, op := Op.move (Operand.tmp 1), type := 3, pos := "ether.go:116", after := #[], guard := none }) (v := .int .i64 i) rfl (by kernel_rfl) (by kernel_rfl) (by kernel_rfl) (fun _ _ _ h => h) (Or.inl ⟨by rfl, fun w hSw => by go_simp⟩) (by assumption) ?_
  try simp only [Act.put, List.setIfInBounds_toArray, List.set_cons_zero, List.set_cons_succ]
  refine wpAnyH_ready (rs := [6, 9]) (by kernel_rfl) (by simp) ?_
  refine (AllReadyH.cons (o := { dst := some 17, op := Op.call { callee := Callee.value (Operand.func 19), args := #[Operand.tmp 15, Operand.tmp 16], argTypes := #[24, 3] }, type := 3, pos := "ether.go:116", after := #[{ on := 4, ground := Ground.data }, { on := 5, ground := Ground.data }], guard := none }) rfl (fun K hK => ?_) (AllReadyH.cons (o := { dst := some 6, op := Op.alloc 39, type := 0, pos := "ether.go:116", after := #[], guard := none }) rfl (fun K hK => ?_) AllReadyH.nil))
  · go_simp
    with_reducible refine (HP.out _ (HE.out.below hHeld)).mono ?_
    rintro e w2 ⟨rfl, rfl⟩
    refine hK.out _ _ (hHeld) (fun hHeld2 => ?_)
    clear hK K hHeld
    have hHeld := hHeld2
    clear hHeld2
    try simp only [Act.put, List.setIfInBounds_toArray, List.set_cons_zero, List.set_cons_succ]
    refine wpAnyH_take (i := 7) (oi := { dst := some 18, op := Op.indexAddr 27 (Operand.tmp 14) (Operand.tmp 17), type := 0, pos := "ether.go:116", after := #[{ on := 3, ground := Ground.data }, { on := 6, ground := Ground.data }], guard := none }) (v := .pointer (some ⟨g, k * 3, none⟩)) rfl (by kernel_rfl) (by kernel_rfl) (by kernel_rfl) (fun _ _ _ h => h) (Or.inl ⟨by rfl, fun w hSw => by go_simp⟩) (by assumption) ?_
    try simp only [Act.put, List.setIfInBounds_toArray, List.set_cons_zero, List.set_cons_succ]
    refine wpAnyH_take (i := 8) (oi := { dst := some 19, op := Op.load 39 (Operand.tmp 18), type := 39, pos := "ether.go:116", after := #[{ on := 7, ground := Ground.data }], guard := none }) (v := .agg #[.int .i64 (p.f : Int), .int .i64 (p.t : Int), .slice uA um uc]) rfl (by kernel_rfl) (by kernel_rfl) (by kernel_rfl) (fun _ _ _ h => h) (Or.inl ⟨by rfl, fun w hSw => by have k0 := (hSw.cell (p := ⟨g, k * 3, none⟩) HG.out.1).trans HG.out.2.2.2.1; have k1 := (hSw.cell (p := ⟨g, k * 3 + 1, none⟩) HG.out.1).trans HG.out.2.2.2.2.1; have k2 := (hSw.cell (p := ⟨g, k * 3 + 2, none⟩) HG.out.1).trans HG.out.2.2.2.2.2; go_simp⟩) (by assumption) ?_
    try simp only [Act.put, List.setIfInBounds_toArray, List.set_cons_zero, List.set_cons_succ]
    refine wpAnyH_ready (rs := [9]) (by kernel_rfl) (by simp) ?_
    refine (AllReadyH.cons (o := { dst := some 6, op := Op.alloc 39, type := 0, pos := "ether.go:116", after := #[], guard := none }) rfl (fun K hK => ?_) AllReadyH.nil)
    have hZN := Lib.hid hHeld.size
    go_simp
    refine hK.out _ _ (hHeld.alloc hHeld.size (.cells #[.int .i64 0, .int .i64 0, .slice none 0 0] 39)) (fun hHeld2 => ?_)
    clear hK K hHeld
    have hHeld := hHeld2
    clear hHeld2
    try simp only [Act.put, List.setIfInBounds_toArray, List.set_cons_zero, List.set_cons_succ]
    have HZ := Lib.hid (heap_alloc_new wd (.cells #[.int .i64 0, .int .i64 0, .slice none 0 0] 39))
    generalize wd.alloc _ = wd3 at *
    generalize wd.heap.size = z at *
    generalize wd3 = wd at *
    refine wpAnyH_ready (rs := [10]) (by kernel_rfl) (by simp) ?_
    refine (AllReadyH.cons (o := { dst := none, op := Op.store 39 (Operand.tmp 6) (Operand.tmp 19), type := 0, pos := "ether.go:116", after := #[{ on := 9, ground := Ground.data }, { on := 8, ground := Ground.data }, { on := 6, ground := Ground.chain }, { on := 0, ground := Ground.phase }, { on := 1, ground := Ground.phase }, { on := 2, ground := Ground.phase }, { on := 3, ground := Ground.phase }, { on := 4, ground := Ground.phase }, { on := 5, ground := Ground.phase }, { on := 6, ground := Ground.phase }, { on := 7, ground := Ground.phase }, { on := 8, ground := Ground.phase }, { on := 9, ground := Ground.phase }], guard := none }) rfl (fun K hK => ?_) AllReadyH.nil)
    obtain ⟨z0, z1, z2, zf⟩ := row3f HZ.out
    go_simp
    refine hK.out _ _ (below3 hHeld hZN.out (.int .i64 (p.f : Int)) (.int .i64 (p.t : Int)) (.slice uA um uc)) (fun hHeld2 => ?_)
    clear hK K hHeld
    have hHeld := hHeld2
    clear hHeld2
    try simp only [Act.put, List.setIfInBounds_toArray, List.set_cons_zero, List.set_cons_succ]
    have HZ2 := Lib.hid (put39 HZ.out (.int .i64 (p.f : Int)) (.int .i64 (p.t : Int)) (.slice uA um uc))
    clear z0 z1 z2 zf HZ
    generalize ((wd.setCell _ _).setCell _ _).setCell _ _ = wd9 at *
    generalize wd9 = wd at *
    refine wpAnyH_done (by kernel_rfl) ?_ _
    try unfold NoPanic
    have HB := Lib.hid hHeld
    obtain ⟨z0, z1, z2, zf⟩ := row3f HZ2.out
    have cc := HC.out wd wd.heap.size HB.out (Nat.le_refl _)
    have hb0 : w.heap.size ≠ z := by have := hZN.out; have := HB0.out.2.2; omega
    clear hHeld
    go_wp2_with (first
      | (go_at_call 17; (with_reducible refine cc.mono ?_); rintro e w4 ⟨v4, rfl, O4, B4⟩; obtain ⟨A4, c4, hv4, -⟩ := O4.form; rw [← HU.out] at hv4; subst hv4; have Z4 := (B4.block _ (Array.getElem?_eq_some_iff.1 HZ2.out).1).trans HZ2.out; obtain ⟨y0, y1, y2, yf⟩ := row3f Z4; have Z5 := put39_2 Z4 (.slice A4 um c4); obtain ⟨x0, x1, x2, xf⟩ := row3f Z5; have Q4 := (B4.block _ (Nat.lt_of_lt_of_le HB0.out.2.2 HB.out.size)).trans ((HB.out.block _ HB0.out.2.2).trans HB0.out.2.1); have Q5 := (put_ne (w := w4) 2 (.slice A4 um c4) hb0).trans Q4; obtain ⟨q0, q1, q2, qf⟩ := row3f Q5; have HQ := Lib.hid Q5; have HO := Lib.hid (And.intro O4 (And.intro B4 (Array.getElem?_eq_some_iff.1 HZ2.out).1)); clear O4 B4 Q4 Q5 Z4 Z5 z0 z1 z2 zf cc))
    refine bodyPost_ret (results_ct rfl _ _ w.heap.size 39 _ (0, 0) _ (.int .i64 0) rfl rfl (put39 HQ.out _ _ _) Try.underlying39 rfl (by kernel_rfl)) rfl ⟨_, rfl, own_le (own_keep HO.out.1 fun y hy => ?_) (by have := HB0.out.1.size; have := HB.out.size; omega), ?_⟩
    · have := own_ty HO.out.1 hy
      have h7 := HB0.out.2.2
      have h8 := HB.out.size
      have h9 := HO.out.2.2
      rw [puts_ne _ _ _ (by omega), put_ne _ _ (by omega)]
    · have h7 := hZN.out
      have h6 := HB0.out.2.2
      have b1 := HB0.out.1.trans ((HB.out.mono (Nat.le_of_lt h6)).trans (HO.out.2.1.mono (by have := HB.out.size; omega)))
      exact below3 (b1.setCell (p := ⟨z, 2, none⟩) (by show w.heap.size ≤ z; omega) _) (Nat.le_refl _) _ _ _
  · have hZN := Lib.hid hHeld.size
    go_simp
    refine hK.out _ _ (hHeld.alloc hHeld.size (.cells #[.int .i64 0, .int .i64 0, .slice none 0 0] 39)) (fun hHeld2 => ?_)
    clear hK K hHeld
    have hHeld := hHeld2
    clear hHeld2
    try simp only [Act.put, List.setIfInBounds_toArray, List.set_cons_zero, List.set_cons_succ]
    have HZ := Lib.hid (heap_alloc_new wd (.cells #[.int .i64 0, .int .i64 0, .slice none 0 0] 39))
    generalize wd.alloc _ = wd3 at *
    generalize wd.heap.size = z at *
    generalize wd3 = wd at *
    refine wpAnyH_ready (rs := [6]) (by kernel_rfl) (by simp) ?_
    refine (AllReadyH.cons (o := { dst := some 17, op := Op.call { callee := Callee.value (Operand.func 19), args := #[Operand.tmp 15, Operand.tmp 16], argTypes := #[24, 3] }, type := 3, pos := "ether.go:116", after := #[{ on := 4, ground := Ground.data }, { on := 5, ground := Ground.data }], guard := none }) rfl (fun K hK => ?_) AllReadyH.nil)
    go_simp
    with_reducible refine (HP.out _ (HE.out.below hHeld)).mono ?_
    rintro e w2 ⟨rfl, rfl⟩
    refine hK.out _ _ (hHeld) (fun hHeld2 => ?_)
    clear hK K hHeld
    have hHeld := hHeld2
    clear hHeld2
    try simp only [Act.put, List.setIfInBounds_toArray, List.set_cons_zero, List.set_cons_succ]
    refine wpAnyH_take (i := 7) (oi := { dst := some 18, op := Op.indexAddr 27 (Operand.tmp 14) (Operand.tmp 17), type := 0, pos := "ether.go:116", after := #[{ on := 3, ground := Ground.data }, { on := 6, ground := Ground.data }], guard := none }) (v := .pointer (some ⟨g, k * 3, none⟩)) rfl (by kernel_rfl) (by kernel_rfl) (by kernel_rfl) (fun _ _ _ h => h) (Or.inl ⟨by rfl, fun w hSw => by go_simp⟩) (by assumption) ?_
    try simp only [Act.put, List.setIfInBounds_toArray, List.set_cons_zero, List.set_cons_succ]
    refine wpAnyH_take (i := 8) (oi := { dst := some 19, op := Op.load 39 (Operand.tmp 18), type := 39, pos := "ether.go:116", after := #[{ on := 7, ground := Ground.data }], guard := none }) (v := .agg #[.int .i64 (p.f : Int), .int .i64 (p.t : Int), .slice uA um uc]) rfl (by kernel_rfl) (by kernel_rfl) (by kernel_rfl) (fun _ _ _ h => h) (Or.inl ⟨by rfl, fun w hSw => by have k0 := (hSw.cell (p := ⟨g, k * 3, none⟩) HG.out.1).trans HG.out.2.2.2.1; have k1 := (hSw.cell (p := ⟨g, k * 3 + 1, none⟩) HG.out.1).trans HG.out.2.2.2.2.1; have k2 := (hSw.cell (p := ⟨g, k * 3 + 2, none⟩) HG.out.1).trans HG.out.2.2.2.2.2; go_simp⟩) (by assumption) ?_
    try simp only [Act.put, List.setIfInBounds_toArray, List.set_cons_zero, List.set_cons_succ]
    refine wpAnyH_ready (rs := [10]) (by kernel_rfl) (by simp) ?_
    refine (AllReadyH.cons (o := { dst := none, op := Op.store 39 (Operand.tmp 6) (Operand.tmp 19), type := 0, pos := "ether.go:116", after := #[{ on := 9, ground := Ground.data }, { on := 8, ground := Ground.data }, { on := 6, ground := Ground.chain }, { on := 0, ground := Ground.phase }, { on := 1, ground := Ground.phase }, { on := 2, ground := Ground.phase }, { on := 3, ground := Ground.phase }, { on := 4, ground := Ground.phase }, { on := 5, ground := Ground.phase }, { on := 6, ground := Ground.phase }, { on := 7, ground := Ground.phase }, { on := 8, ground := Ground.phase }, { on := 9, ground := Ground.phase }], guard := none }) rfl (fun K hK => ?_) AllReadyH.nil)
    obtain ⟨z0, z1, z2, zf⟩ := row3f HZ.out
    go_simp
    refine hK.out _ _ (below3 hHeld hZN.out (.int .i64 (p.f : Int)) (.int .i64 (p.t : Int)) (.slice uA um uc)) (fun hHeld2 => ?_)
    clear hK K hHeld
    have hHeld := hHeld2
    clear hHeld2
    try simp only [Act.put, List.setIfInBounds_toArray, List.set_cons_zero, List.set_cons_succ]
    have HZ2 := Lib.hid (put39 HZ.out (.int .i64 (p.f : Int)) (.int .i64 (p.t : Int)) (.slice uA um uc))
    clear z0 z1 z2 zf HZ
    generalize ((wd.setCell _ _).setCell _ _).setCell _ _ = wd9 at *
    generalize wd9 = wd at *
    refine wpAnyH_done (by kernel_rfl) ?_ _
    try unfold NoPanic
    have HB := Lib.hid hHeld
    obtain ⟨z0, z1, z2, zf⟩ := row3f HZ2.out
    have cc := HC.out wd wd.heap.size HB.out (Nat.le_refl _)
    have hb0 : w.heap.size ≠ z := by have := hZN.out; have := HB0.out.2.2; omega
    clear hHeld
    go_wp2_with (first
      | (go_at_call 17; (with_reducible refine cc.mono ?_); rintro e w4 ⟨v4, rfl, O4, B4⟩; obtain ⟨A4, c4, hv4, -⟩ := O4.form; rw [← HU.out] at hv4; subst hv4; have Z4 := (B4.block _ (Array.getElem?_eq_some_iff.1 HZ2.out).1).trans HZ2.out; obtain ⟨y0, y1, y2, yf⟩ := row3f Z4; have Z5 := put39_2 Z4 (.slice A4 um c4); obtain ⟨x0, x1, x2, xf⟩ := row3f Z5; have Q4 := (B4.block _ (Nat.lt_of_lt_of_le HB0.out.2.2 HB.out.size)).trans ((HB.out.block _ HB0.out.2.2).trans HB0.out.2.1); have Q5 := (put_ne (w := w4) 2 (.slice A4 um c4) hb0).trans Q4; obtain ⟨q0, q1, q2, qf⟩ := row3f Q5; have HQ := Lib.hid Q5; have HO := Lib.hid (And.intro O4 (And.intro B4 (Array.getElem?_eq_some_iff.1 HZ2.out).1)); clear O4 B4 Q4 Q5 Z4 Z5 z0 z1 z2 zf cc))
    refine bodyPost_ret (results_ct rfl _ _ w.heap.size 39 _ (0, 0) _ (.int .i64 0) rfl rfl (put39 HQ.out _ _ _) Try.underlying39 rfl (by kernel_rfl)) rfl ⟨_, rfl, own_le (own_keep HO.out.1 fun y hy => ?_) (by have := HB0.out.1.size; have := HB.out.size; omega), ?_⟩
    · have := own_ty HO.out.1 hy
      have h7 := HB0.out.2.2
      have h8 := HB.out.size
      have h9 := HO.out.2.2
      rw [puts_ne _ _ _ (by omega), put_ne _ _ (by omega)]
    · have h7 := hZN.out
      have h6 := HB0.out.2.2
      have b1 := HB0.out.1.trans ((HB.out.mono (Nat.le_of_lt h6)).trans (HO.out.2.1.mono (by have := HB.out.size; omega)))
      exact below3 (b1.setCell (p := ⟨z, 2, none⟩) (by show w.heap.size ≤ z; omega) _) (Nat.le_refl _) _ _ _
end Go.Proofs.Yteolfclkcgfelaa.Eth

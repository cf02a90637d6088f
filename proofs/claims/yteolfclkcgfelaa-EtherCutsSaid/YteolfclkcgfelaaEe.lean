/- loseEldest, remove, Lose. -/
import Derived.Test.YteolfclkcgfelaaEd
import Derived.Deep.RegionHeld3
import Derived.Deep.DeepCutAuto
namespace Go.Proofs.Yteolfclkcgfelaa.Eth
open Go.ChangeShapes Go.WideShapes Go.ChangeAt Go.RowKit
open Coin (Rd Own b8 Row)
set_option maxRecDepth 8000
set_option linter.unusedVariables false
variable {lo : Nat} {w : World} {q : Nat} {H : Nat → Nat → Bool} {l : List Pk} {v : Value}

theorem row_under {u : Value} (h : w.heap[q]? = some (.cells (hc H ++ [u]).toArray 29 (0, 0))) : w.cell? ⟨q, 256, none⟩ = some u := by
  rw [cell_of_row w q _ _ 29 (0, 0) h, List.getElem?_toArray, List.getElem?_append_right (by rw [hc_len]; exact Nat.le_refl _), hc_len]
  rfl
theorem row_put {u : Value} (h : w.heap[q]? = some (.cells (hc H ++ [u]).toArray 29 (0, 0))) (u' : Value) : (w.setCell ⟨q, 256, none⟩ u').heap[q]? = some (.cells (hc H ++ [u']).toArray 29 (0, 0)) := by
  rw [heap_setCell_same w q _ _ 29 _ h]
  have e : (hc H ++ [u]).toArray.setIfInBounds 256 u' = (hc H ++ [u']).toArray := by
    apply Array.toList_inj.1
    rw [Array.toList_setIfInBounds, List.toList_toArray, List.toList_toArray, List.set_append_right _ _ (by rw [hc_len]; exact Nat.le_refl _), hc_len]
    rfl
  rw [e]
/-- Packets that were changed in place, or elsewhere, and the slice that is put down. -/
theorem EAt.putP {w2 : World} {l' : List Pk} {v' : Value} (h : EAt lo w q H l v) (P : PSl lo w2 v' l') (G : w.grownBy w2 v.ownBlock) (O : v'.ownBlock = v.ownBlock ∨ ∃ g, v'.ownBlock = some g ∧ w.heap.size ≤ g) :
    w2.heap[q]? = some (.cells (hc H ++ [v]).toArray 29 (0, 0)) ∧ EAt lo (w2.setCell ⟨q, 256, none⟩ v') q H l' v' ∧ EF w (w2.setCell ⟨q, 256, none⟩ v') q v v' := by
  have hq : w2.heap[q]? = some (.cells (hc H ++ [v]).toArray 29 (0, 0)) := (G.block q h.lt fun e => h.sl.ne h.row (by decide) e.symm).trans h.row
  have nq : ∀ g, g ≠ q → (w2.setCell ⟨q, 256, none⟩ v').heap[g]? = w2.heap[g]? := fun g hg => heap_setCell_other w2 ⟨q, 256, none⟩ g v' (fun e => hg e)
  have ty : ∀ {g : Nat} {c : Array Value} {t : TypeId} {fr : Nat × Nat}, w2.heap[g]? = some (.cells c t fr) → t ≠ 29 → g ≠ q := fun hg ht e => by
    subst e
    rw [hg] at hq; injection hq with hq; injection hq with _ h3 _
    exact ht h3
  refine ⟨hq, ⟨row_put hq v', P.keep fun g _ _ hor => nq g ?_⟩, ⟨G.os, G.tape, G.output, by simp only [World.setCell, Array.size_modify]; exact G.size, fun k hk h1 h2 => (nq k h1).trans (G.block k hk h2), O⟩⟩
  rcases hor with hor | ⟨cur, hor⟩
  · obtain ⟨_, _, cur, hc⟩ := P.ty hor
    exact ty hc (by decide)
  · exact ty hor (by decide)
theorem lose_any (h : EAt lo w q H l v) (hm : l.length ≤ 5000) : Calls Try.prog 18 #[.pointer (some ⟨q, 0, none⟩)] w fun e w' => e = .returned (.tuple #[]) ∧ ∃ v', EAt lo w' q H (l.drop (l.length - 1024)) v' ∧ EF w w' q v v' := by
  obtain ⟨A, c, rfl, -⟩ := h.sl.len
  obtain ⟨l', hl'⟩ : ∃ l', l' = l.drop (l.length - 1024) := ⟨_, rfl⟩
  rw [← hl']
  obtain ⟨k, hk⟩ : ∃ k, k = l.length - 1024 := ⟨_, rfl⟩
  have HD : Hid (∀ W, PSl lo W (.slice A l.length c) l → Calls Try.prog 21 #[.slice A l.length c, .int .i64 0, .int .i64 (k : Int)] W (DelSaid lo W (.slice A l.length c) l')) := Lib.hid fun W hW => by
    have e : l' = l.take 0 ++ l.drop k := by rw [hl', hk]; simp
    rw [e]
    exact del_any hW 0 k (Nat.zero_le _) (by omega) (fun h => by omega)
  obtain ⟨n, hn⟩ : ∃ n, n = l.length := ⟨_, rfl⟩
  rw [← hn] at hk hm
  have HE := Lib.hid h
  rw [← hn] at HE HD ⊢
  have hw1 : IntKind.i64.wrap ((n : Int) - 1024) = (n : Int) - 1024 := by rw [IntKind.wrap_i64]; omega
  have hmx : (if (1024 : Int) < n then (n : Int) - 1024 else 0) = (k : Int) := by split <;> omega
  clear h hk hn hl'
  go_enter Try.func18, Try.ntmps18
  refine wp_region_noPanic ?_
  refine wp_region_held_drew (S := fun _ : World => True) (by kernel_rfl) trivial (fun hHeld => ?_)
  have HE := Lib.hid (HE.out.below (Below.refl w.heap.size w).drew)
  have HW := Lib.hid (Below.refl w.heap.size w).drew
  generalize w.drew = wd at *
  refine wpAnyH_take (i := 0) (oi := { dst := some 2, op := Op.move (Operand.tmp 0), type := 24, pos := "ether.go:69", after := #[], guard := none }) (v := .pointer (some ⟨q, 0, none⟩)) rfl (by kernel_rfl) (by kernel_rfl) (by kernel_rfl) (fun _ _ _ h => h) (Or.inl ⟨by rfl, fun w hSw => by go_simp⟩) (by assumption) ?_
  try simp only [Act.put, List.setIfInBounds_toArray, List.set_cons_zero, List.set_cons_succ]
  refine wpAnyH_take (i := 1) (oi := { dst := some 3, op := Op.move (Operand.tmp 0), type := 24, pos := "ether.go:69", after := #[], guard := none }) (v := .pointer (some ⟨q, 0, none⟩)) rfl (by kernel_rfl) (by kernel_rfl) (by kernel_rfl) (fun _ _ _ h => h) (Or.inl ⟨by rfl, fun w hSw => by go_simp⟩) (by assumption) ?_
  try simp only [Act.put, List.setIfInBounds_toArray, List.set_cons_zero, List.set_cons_succ]
  refine wpAnyH_take (i := 2) (oi := { dst := some 4, op := Op.nilCheck (Operand.tmp 3), type := 0, pos := "ether.go:69", after := #[{ on := 1, ground := Ground.data }], guard := none }) (v := .pointer (some ⟨q, 0, none⟩)) rfl (by kernel_rfl) (by kernel_rfl) (by kernel_rfl) (fun _ _ _ h => h) (Or.inl ⟨by rfl, fun w hSw => by go_simp⟩) (by assumption) ?_
  try simp only [Act.put, List.setIfInBounds_toArray, List.set_cons_zero, List.set_cons_succ]
  refine wpAnyH_take (i := 3) (oi := { dst := some 5, op := Op.fieldAddr 29 (Operand.tmp 4) 1, type := 0, pos := "ether.go:69", after := #[{ on := 2, ground := Ground.data }], guard := none }) (v := .pointer (some ⟨q, 256, none⟩)) rfl (by kernel_rfl) (by kernel_rfl) (by kernel_rfl) (fun _ _ _ h => h) (Or.inl ⟨by rfl, fun w hSw => by go_simp⟩) (by assumption) ?_
  try simp only [Act.put, List.setIfInBounds_toArray, List.set_cons_zero, List.set_cons_succ]
  refine wpAnyH_take (i := 5) (oi := { dst := some 7, op := Op.move (Operand.tmp 0), type := 24, pos := "ether.go:69", after := #[], guard := none }) (v := .pointer (some ⟨q, 0, none⟩)) rfl (by kernel_rfl) (by kernel_rfl) (by kernel_rfl) (fun _ _ _ h => h) (Or.inl ⟨by rfl, fun w hSw => by go_simp⟩) (by assumption) ?_
  try simp only [Act.put, List.setIfInBounds_toArray, List.set_cons_zero, List.set_cons_succ]
  refine wpAnyH_take (i := 6) (oi := { dst := some 8, op := Op.nilCheck (Operand.tmp 7), type := 0, pos := "ether.go:69", after := #[{ on := 5, ground := Ground.data }], guard := none }) (v := .pointer (some ⟨q, 0, none⟩)) rfl (by kernel_rfl) (by kernel_rfl) (by kernel_rfl) (fun _ _ _ h => h) (Or.inl ⟨by rfl, fun w hSw => by go_simp⟩) (by assumption) ?_
  try simp only [Act.put, List.setIfInBounds_toArray, List.set_cons_zero, List.set_cons_succ]
  refine wpAnyH_take (i := 7) (oi := { dst := some 9, op := Op.fieldAddr 29 (Operand.tmp 8) 1, type := 0, pos := "ether.go:69", after := #[{ on := 6, ground := Ground.data }], guard := none }) (v := .pointer (some ⟨q, 256, none⟩)) rfl (by kernel_rfl) (by kernel_rfl) (by kernel_rfl) (fun _ _ _ h => h) (Or.inl ⟨by rfl, fun w hSw => by go_simp⟩) (by assumption) ?_
  try simp only [Act.put, List.setIfInBounds_toArray, List.set_cons_zero, List.set_cons_succ]
  refine wpAnyH_ready (rs := [4, 8]) (by kernel_rfl) (by simp) ?_
  refine (AllReadyH.cons (o := { dst := some 6, op := Op.load 27 (Operand.tmp 5), type := 27, pos := "ether.go:69", after := #[{ on := 3, ground := Ground.data }], guard := none }) rfl (fun K hK => ?_) (AllReadyH.cons (o := { dst := some 10, op := Op.load 27 (Operand.tmp 9), type := 27, pos := "ether.go:69", after := #[{ on := 7, ground := Ground.data }], guard := none }) rfl (fun K hK => ?_) AllReadyH.nil))
  · have c1 := HE.out.under
    go_simp
    refine hK.out _ _ (trivial) (fun hHeld2 => ?_)
    clear hK K hHeld
    have hHeld := hHeld2
    clear hHeld2
    try simp only [Act.put, List.setIfInBounds_toArray, List.set_cons_zero, List.set_cons_succ]
    try clear c1
    refine wpAnyH_ready (rs := [8]) (by kernel_rfl) (by simp) ?_
    refine (AllReadyH.cons (o := { dst := some 10, op := Op.load 27 (Operand.tmp 9), type := 27, pos := "ether.go:69", after := #[{ on := 7, ground := Ground.data }], guard := none }) rfl (fun K hK => ?_) AllReadyH.nil)
    have c1 := HE.out.under
    go_simp
    refine hK.out _ _ (trivial) (fun hHeld2 => ?_)
    clear hK K hHeld
    have hHeld := hHeld2
    clear hHeld2
    try simp only [Act.put, List.setIfInBounds_toArray, List.set_cons_zero, List.set_cons_succ]
    try clear c1
    refine wpAnyH_take (i := 9) (oi := { dst := some 11, op := Op.call { callee := Callee.builtin Builtin.len, args := #[Operand.tmp 10], argTypes := #[27] }, type := 3, pos := "ether.go:69", after := #[{ on := 8, ground := Ground.data }], guard := none }) (v := .int .i64 (n : Nat)) rfl (by kernel_rfl) (by kernel_rfl) (by kernel_rfl) (fun _ _ _ h => h) (Or.inl ⟨by rfl, fun w hSw => by go_simp⟩) (by assumption) ?_
    try simp only [Act.put, List.setIfInBounds_toArray, List.set_cons_zero, List.set_cons_succ]
    refine wpAnyH_take (i := 10) (oi := { dst := some 12, op := Op.binOp BinOp.sub 3 (Operand.tmp 11) (Operand.const (Value.int IntKind.i64 1024)) 3, type := 3, pos := "ether.go:69", after := #[{ on := 9, ground := Ground.data }], guard := none }) (v := .int .i64 ((n : Int) - 1024)) rfl (by kernel_rfl) (by kernel_rfl) (by kernel_rfl) (fun _ _ _ h => h) (Or.inl ⟨by rfl, fun w hSw => by go_simp⟩) (by assumption) ?_
    try simp only [Act.put, List.setIfInBounds_toArray, List.set_cons_zero, List.set_cons_succ]
    refine wpAnyH_take (i := 11) (oi := { dst := some 13, op := Op.call { callee := Callee.builtin Builtin.max, args := #[Operand.const (Value.int IntKind.i64 0), Operand.tmp 12], argTypes := #[3, 3] }, type := 3, pos := "ether.go:69", after := #[{ on := 10, ground := Ground.data }], guard := none }) (v := .int .i64 (k : Int)) rfl (by kernel_rfl) (by kernel_rfl) (by kernel_rfl) (fun _ _ _ h => h) (Or.inl ⟨by rfl, fun w hSw => by go_simp⟩) (by assumption) ?_
    try simp only [Act.put, List.setIfInBounds_toArray, List.set_cons_zero, List.set_cons_succ]
    refine wpAnyH_ready (rs := [12]) (by kernel_rfl) (by simp) ?_
    refine (AllReadyH.cons (o := { dst := some 14, op := Op.call { callee := Callee.value (Operand.func 21), args := #[Operand.tmp 6, Operand.const (Value.int IntKind.i64 0), Operand.tmp 13], argTypes := #[27, 3, 3] }, type := 27, pos := "ether.go:69", after := #[{ on := 4, ground := Ground.data }, { on := 11, ground := Ground.data }], guard := none }) rfl (fun K hK => ?_) AllReadyH.nil)
    go_simp
    with_reducible refine (HD.out _ HE.out.sl).mono ?_
    rintro e w2 ⟨v2, rfl, P2, O2, G2⟩
    have H2 := Lib.hid (HE.out.putP P2 G2 (.inl O2))
    obtain ⟨A2, c2, hv2, -⟩ := P2.len
    generalize l'.length = n2 at hv2
    subst hv2
    clear P2 O2 G2
    refine hK.out _ _ (trivial) (fun hHeld2 => ?_)
    clear hK K hHeld
    have hHeld := hHeld2
    clear hHeld2
    try simp only [Act.put, List.setIfInBounds_toArray, List.set_cons_zero, List.set_cons_succ]
    refine wpAnyH_take (i := 13) (oi := { dst := some 15, op := Op.nilCheck (Operand.tmp 2), type := 0, pos := "ether.go:69", after := #[{ on := 0, ground := Ground.data }, { on := 0, ground := Ground.phase }, { on := 1, ground := Ground.phase }, { on := 2, ground := Ground.phase }, { on := 3, ground := Ground.phase }, { on := 4, ground := Ground.phase }, { on := 5, ground := Ground.phase }, { on := 6, ground := Ground.phase }, { on := 7, ground := Ground.phase }, { on := 8, ground := Ground.phase }, { on := 9, ground := Ground.phase }, { on := 10, ground := Ground.phase }, { on := 11, ground := Ground.phase }, { on := 12, ground := Ground.phase }], guard := none }) (v := .pointer (some ⟨q, 0, none⟩)) rfl (by kernel_rfl) (by kernel_rfl) (by kernel_rfl) (fun _ _ _ h => h) (Or.inl ⟨by rfl, fun w hSw => by go_simp⟩) (by assumption) ?_
    try simp only [Act.put, List.setIfInBounds_toArray, List.set_cons_zero, List.set_cons_succ]
    refine wpAnyH_take (i := 14) (oi := { dst := some 16, op := Op.fieldAddr 29 (Operand.tmp 15) 1, type := 0, pos := "ether.go:69", after := #[{ on := 13, ground := Ground.data }, { on := 0, ground := Ground.phase }, { on := 1, ground := Ground.phase }, { on := 2, ground := Ground.phase }, { on := 3, ground := Ground.phase }, { on := 4, ground := Ground.phase }, { on := 5, ground := Ground.phase }, { on := 6, ground := Ground.phase }, { on := 7, ground := Ground.phase }, { on := 8, ground := Ground.phase }, { on := 9, ground := Ground.phase }, { on := 10, ground := Ground.phase }, { on := 11, ground := Ground.phase }, { on := 12, ground := Ground.phase }], guard := none }) (v := .pointer (some ⟨q, 256, none⟩)) rfl (by kernel_rfl) (by kernel_rfl) (by kernel_rfl) (fun _ _ _ h => h) (Or.inl ⟨by rfl, fun w hSw => by go_simp⟩) (by assumption) ?_
    try simp only [Act.put, List.setIfInBounds_toArray, List.set_cons_zero, List.set_cons_succ]
    refine wpAnyH_ready (rs := [15]) (by kernel_rfl) (by simp) ?_
    refine (AllReadyH.cons (o := { dst := none, op := Op.store 27 (Operand.tmp 16) (Operand.tmp 14), type := 0, pos := "ether.go:69", after := #[{ on := 14, ground := Ground.data }, { on := 12, ground := Ground.data }, { on := 12, ground := Ground.chain }, { on := 0, ground := Ground.phase }, { on := 1, ground := Ground.phase }, { on := 2, ground := Ground.phase }, { on := 3, ground := Ground.phase }, { on := 4, ground := Ground.phase }, { on := 5, ground := Ground.phase }, { on := 6, ground := Ground.phase }, { on := 7, ground := Ground.phase }, { on := 8, ground := Ground.phase }, { on := 9, ground := Ground.phase }, { on := 10, ground := Ground.phase }, { on := 11, ground := Ground.phase }, { on := 12, ground := Ground.phase }], guard := none }) rfl (fun K hK => ?_) AllReadyH.nil)
    have c1 := row_under H2.out.1
    have f1 := frozen_of_row _ q 256 _ 29 H2.out.1
    go_simp
    refine hK.out _ _ (trivial) (fun hHeld2 => ?_)
    clear hK K hHeld
    have hHeld := hHeld2
    clear hHeld2
    try simp only [Act.put, List.setIfInBounds_toArray, List.set_cons_zero, List.set_cons_succ]
    try clear c1 f1
    refine wpAnyH_done (by kernel_rfl) ?_ _
    try unfold NoPanic
    go_wp2
    exact bodyPost_end (v := .tuple #[]) (by simp [results, Try.results18, go_sem]) rfl ⟨rfl, _, H2.out.2.1, (EF.of q _ HW.out).trans H2.out.2.2⟩
  · have c1 := HE.out.under
    go_simp
    refine hK.out _ _ (trivial) (fun hHeld2 => ?_)
    clear hK K hHeld
    have hHeld := hHeld2
    clear hHeld2
    try simp only [Act.put, List.setIfInBounds_toArray, List.set_cons_zero, List.set_cons_succ]
    try clear c1
    refine wpAnyH_take (i := 9) (oi := { dst := some 11, op := Op.call { callee := Callee.builtin Builtin.len, args := #[Operand.tmp 10], argTypes := #[27] }, type := 3, pos := "ether.go:69", after := #[{ on := 8, ground := Ground.data }], guard := none }) (v := .int .i64 (n : Nat)) rfl (by kernel_rfl) (by kernel_rfl) (by kernel_rfl) (fun _ _ _ h => h) (Or.inl ⟨by rfl, fun w hSw => by go_simp⟩) (by assumption) ?_
    try simp only [Act.put, List.setIfInBounds_toArray, List.set_cons_zero, List.set_cons_succ]
    refine wpAnyH_take (i := 10) (oi := { dst := some 12, op := Op.binOp BinOp.sub 3 (Operand.tmp 11) (Operand.const (Value.int IntKind.i64 1024)) 3, type := 3, pos := "ether.go:69", after := #[{ on := 9, ground := Ground.data }], guard := none }) (v := .int .i64 ((n : Int) - 1024)) rfl (by kernel_rfl) (by kernel_rfl) (by kernel_rfl) (fun _ _ _ h => h) (Or.inl ⟨by rfl, fun w hSw => by go_simp⟩) (by assumption) ?_
    try simp only [Act.put, List.setIfInBounds_toArray, List.set_cons_zero, List.set_cons_succ]
    refine wpAnyH_take (i := 11) (oi := { dst := some 13, op := Op.call { callee := Callee.builtin Builtin.max, args := #[Operand.const (Value.int IntKind.i64 0), Operand.tmp 12], argTypes := #[3, 3] }, type := 3, pos := "ether.go:69", after := #[{ on := 10, ground := Ground.data }], guard := none }) (v := .int .i64 (k : Int)) rfl (by kernel_rfl) (by kernel_rfl) (by kernel_rfl) (fun _ _ _ h => h) (Or.inl ⟨by rfl, fun w hSw => by go_simp⟩) (by assumption) ?_
    try simp only [Act.put, List.setIfInBounds_toArray, List.set_cons_zero, List.set_cons_succ]
    refine wpAnyH_ready (rs := [4]) (by kernel_rfl) (by simp) ?_
    refine (AllReadyH.cons (o := { dst := some 6, op := Op.load 27 (Operand.tmp 5), type := 27, pos := "ether.go:69", after := #[{ on := 3, ground := Ground.data }], guard := none }) rfl (fun K hK => ?_) AllReadyH.nil)
    have c1 := HE.out.under
    go_simp
    refine hK.out _ _ (trivial) (fun hHeld2 => ?_)
    clear hK K hHeld
    have hHeld := hHeld2
    clear hHeld2
    try simp only [Act.put, List.setIfInBounds_toArray, List.set_cons_zero, List.set_cons_succ]
    try clear c1
    refine wpAnyH_ready (rs := [12]) (by kernel_rfl) (by simp) ?_
    refine (AllReadyH.cons (o := { dst := some 14, op := Op.call { callee := Callee.value (Operand.func 21), args := #[Operand.tmp 6, Operand.const (Value.int IntKind.i64 0), Operand.tmp 13], argTypes := #[27, 3, 3] }, type := 27, pos := "ether.go:69", after := #[{ on := 4, ground := Ground.data }, { on := 11, ground := Ground.data }], guard := none }) rfl (fun K hK => ?_) AllReadyH.nil)
    go_simp
    with_reducible refine (HD.out _ HE.out.sl).mono ?_
    rintro e w2 ⟨v2, rfl, P2, O2, G2⟩
    have H2 := Lib.hid (HE.out.putP P2 G2 (.inl O2))
    obtain ⟨A2, c2, hv2, -⟩ := P2.len
    generalize l'.length = n2 at hv2
    subst hv2
    clear P2 O2 G2
    refine hK.out _ _ (trivial) (fun hHeld2 => ?_)
    clear hK K hHeld
    have hHeld := hHeld2
    clear hHeld2
    try simp only [Act.put, List.setIfInBounds_toArray, List.set_cons_zero, List.set_cons_succ]
    refine wpAnyH_take (i := 13) (oi := { dst := some 15, op := Op.nilCheck (Operand.tmp 2), type := 0, pos := "ether.go:69", after := #[{ on := 0, ground := Ground.data }, { on := 0, ground := Ground.phase }, { on := 1, ground := Ground.phase }, { on := 2, ground := Ground.phase }, { on := 3, ground := Ground.phase }, { on := 4, ground := Ground.phase }, { on := 5, ground := Ground.phase }, { on := 6, ground := Ground.phase }, { on := 7, ground := Ground.phase }, { on := 8, ground := Ground.phase }, { on := 9, ground := Ground.phase }, { on := 10, ground := Ground.phase }, { on := 11, ground := Ground.phase }, { on := 12, ground := Ground.phase }], guard := none }) (v := .pointer (some ⟨q, 0, none⟩)) rfl (by kernel_rfl) (by kernel_rfl) (by kernel_rfl) (fun _ _ _ h => h) (Or.inl ⟨by rfl, fun w hSw => by go_simp⟩) (by assumption) ?_
    try simp only [Act.put, List.setIfInBounds_toArray, List.set_cons_zero, List.set_cons_succ]
    refine wpAnyH_take (i := 14) (oi := { dst := some 16, op := Op.fieldAddr 29 (Operand.tmp 15) 1, type := 0, pos := "ether.go:69", after := #[{ on := 13, ground := Ground.data }, { on := 0, ground := Ground.phase }, { on := 1, ground := Ground.phase }, { on := 2, ground := Ground.phase }, { on := 3, ground := Ground.phase }, { on := 4, ground := Ground.phase }, { on := 5, ground := Ground.phase }, { on := 6, ground := Ground.phase }, { on := 7, ground := Ground.phase }, { on := 8, ground := Ground.phase }, { on := 9, ground := Ground.phase }, { on := 10, ground := Ground.phase }, { on := 11, ground := Ground.phase }, { on := 12, ground := Ground.phase }], guard := none }) (v := .pointer (some ⟨q, 256, none⟩)) rfl (by kernel_rfl) (by kernel_rfl) (by kernel_rfl) (fun _ _ _ h => h) (Or.inl ⟨by rfl, fun w hSw => by go_simp⟩) (by assumption) ?_
    try simp only [Act.put, List.setIfInBounds_toArray, List.set_cons_zero, List.set_cons_succ]
    refine wpAnyH_ready (rs := [15]) (by kernel_rfl) (by simp) ?_
    refine (AllReadyH.cons (o := { dst := none, op := Op.store 27 (Operand.tmp 16) (Operand.tmp 14), type := 0, pos := "ether.go:69", after := #[{ on := 14, ground := Ground.data }, { on := 12, ground := Ground.data }, { on := 12, ground := Ground.chain }, { on := 0, ground := Ground.phase }, { on := 1, ground := Ground.phase }, { on := 2, ground := Ground.phase }, { on := 3, ground := Ground.phase }, { on := 4, ground := Ground.phase }, { on := 5, ground := Ground.phase }, { on := 6, ground := Ground.phase }, { on := 7, ground := Ground.phase }, { on := 8, ground := Ground.phase }, { on := 9, ground := Ground.phase }, { on := 10, ground := Ground.phase }, { on := 11, ground := Ground.phase }, { on := 12, ground := Ground.phase }], guard := none }) rfl (fun K hK => ?_) AllReadyH.nil)
    have c1 := row_under H2.out.1
    have f1 := frozen_of_row _ q 256 _ 29 H2.out.1
    go_simp
    refine hK.out _ _ (trivial) (fun hHeld2 => ?_)
    clear hK K hHeld
    have hHeld := hHeld2
    clear hHeld2
    try simp only [Act.put, List.setIfInBounds_toArray, List.set_cons_zero, List.set_cons_succ]
    try clear c1 f1
    refine wpAnyH_done (by kernel_rfl) ?_ _
    try unfold NoPanic
    go_wp2
    exact bodyPost_end (v := .tuple #[]) (by simp [results, Try.results18, go_sem]) rfl ⟨rfl, _, H2.out.2.1, (EF.of q _ HW.out).trans H2.out.2.2⟩
end Go.Proofs.Yteolfclkcgfelaa.Eth

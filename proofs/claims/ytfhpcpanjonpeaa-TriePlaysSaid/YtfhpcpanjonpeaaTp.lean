/- Tries of routes in memory: what is put. -/
import Derived.Test.YtfhpcpanjonpeaaTm
import Derived.Deep.DeepCutAuto
import Derived.Deep.RegionHeld3
namespace Go.Proofs.Ytfhpcpanjonpeaa.Tri
open Pre
open Go.ChangeShapes Go.WideShapes Go.ChangeAt Go.RowKit

/-- What put does. -/
def PutSaid (t : T) (r : R) : Prop := ∀ (w : World) (v : Value) (bs : List Nat), At w t v bs → bs.Nodup →
  Calls Try.prog 23 #[v, .agg r.cl] w fun e w' => ∃ v' bs', e = .returned (.tuple #[v', .bool (t.put r).2]) ∧ At w' (t.put r).1 v' bs' ∧ bs'.Nodup ∧ (∀ b ∈ bs', b ∈ bs ∨ w.heap.size ≤ b) ∧ Grew w w' bs
theorem At.ptr {w : World} {t : T} {v : Value} {bs : List Nat} (h : At w t v bs) : ∃ p, v = .pointer p := by
  cases t with
  | nil => exact ⟨_, h.1⟩
  | node a n x l r => obtain ⟨q, _, _, _, _, hv, _⟩ := h; exact ⟨_, hv⟩
theorem put_nil (r : R) : PutSaid .nil r := by
  intro w v bs h _
  obtain ⟨rfl, rfl⟩ := h
  obtain ⟨ra, rn, via, mt, sq⟩ := r
  have c30 := fun W => newPlace_any ⟨ra, rn, via, mt, sq⟩ W
  unfold T.put
  unfold R.cl at c30 ⊢
  have R0 := heap_alloc_new w (.cells #[.int .u32 (ra : Int), .int .u8 (rn : Int), .int .i64 via, .int .u16 mt, .int .u16 sq] 39)
  have B0 : Below w.heap.size w (w.alloc (.cells #[.int .u32 (ra : Int), .int .u8 (rn : Int), .int .i64 via, .int .u16 mt, .int .u16 sq] 39)) := (Below.refl _ _).alloc (Nat.le_refl _) _
  obtain ⟨p0, p1, p2, p3, p4⟩ := row5 R0
  have HB := Lib.hid B0
  clear B0
  go_enter Try.func23, Try.ntmps23
  go_wp2_with (first
    | (go_at_call 30; (with_reducible refine (c30 _).mono ?_); rintro e w1 ⟨q, rfl, hq, HQ, B1⟩))
  go_ret2
  have hq2 : w.heap.size ≤ q := by have := HB.out.size; omega
  exact ⟨_, [q], rfl, ⟨q, _, _, [], [], rfl, rfl, HQ, ⟨rfl, rfl⟩, ⟨rfl, rfl⟩⟩, by simp, fun b hb => .inr (by rw [List.mem_singleton.1 hb]; exact hq2), below_grew (HB.out.trans (B1.mono HB.out.size)) _⟩
/-- A route put into its place. -/
theorem putN {w : World} {q a n : Nat} {x : Option R} {vl vr : Value} (h : w.heap[q]? = some (.cells (cellsN a n x vl vr) 64 (0, 0))) (ra rn : Nat) (via mt sq : Int) :
    ((((((w.setCell ⟨q, 2, none⟩ (.bool true)).setCell ⟨q, 3, none⟩ (.int .u32 (ra : Int))).setCell ⟨q, 4, none⟩ (.int .u8 (rn : Int))).setCell ⟨q, 5, none⟩ (.int .i64 via)).setCell ⟨q, 6, none⟩ (.int .u16 mt)).setCell ⟨q, 7, none⟩ (.int .u16 sq)).heap[q]? = some (.cells (cellsN a n (some ⟨ra, rn, via, mt, sq⟩) vl vr) 64 (0, 0)) := by
  have e2 := heap_setCell_same _ q 2 _ 64 (.bool true) h
  have e3 := heap_setCell_same _ q 3 _ 64 (.int .u32 (ra : Int)) e2
  have e4 := heap_setCell_same _ q 4 _ 64 (.int .u8 (rn : Int)) e3
  have e5 := heap_setCell_same _ q 5 _ 64 (.int .i64 via) e4
  have e6 := heap_setCell_same _ q 6 _ 64 (.int .u16 mt) e5
  have e7 := heap_setCell_same _ q 7 _ 64 (.int .u16 sq) e6
  rw [e7]
  cases x <;> simp [cellsN]
/-- Whatever is written into a block of the tree, or a new one. -/
theorem sets_grew {w w1 : World} {bs : List Nat} (h : Grew w w1 bs) (q : Nat) (hq : q ∈ bs) (v2 v3 v4 v5 v6 v7 : Value) : Grew w ((((((w1.setCell ⟨q, 2, none⟩ v2).setCell ⟨q, 3, none⟩ v3).setCell ⟨q, 4, none⟩ v4).setCell ⟨q, 5, none⟩ v5).setCell ⟨q, 6, none⟩ v6).setCell ⟨q, 7, none⟩ v7) bs :=
  (((((h.set q 2 v2 (.inl hq)).set q 3 v3 (.inl hq)).set q 4 v4 (.inl hq)).set q 5 v5 (.inl hq)).set q 6 v6 (.inl hq)).set q 7 v7 (.inl hq)
theorem sets_far (w : World) (q : Nat) (v2 v3 v4 v5 v6 v7 : Value) : ∀ k, k ≠ q → ((((((w.setCell ⟨q, 2, none⟩ v2).setCell ⟨q, 3, none⟩ v3).setCell ⟨q, 4, none⟩ v4).setCell ⟨q, 5, none⟩ v5).setCell ⟨q, 6, none⟩ v6).setCell ⟨q, 7, none⟩ v7).heap[k]? = w.heap[k]? := by
  intro k hk
  repeat rw [Below.heap_setCell _ ⟨q, _, none⟩ _ k hk]

/-- A place of which one way is another one now. -/
theorem join_r {w w9 w10 : World} {q a n : Nat} {x : Option R} {l rr rr' : T} {vl vr v' : Value} {bl br br' : List Nat} (HG : Below w.heap.size w w9) (hnd : (q :: (bl ++ br)).Nodup) (hl : At w l vl bl) (_hr : At w rr vr br) (hq : q < w.heap.size)
    (HQ : w9.heap[q]? = some (.cells (cellsN a n x vl vr) 64 (0, 0))) (G : Grew w9 w10 br) (A : At w10 rr' v' br') (nd : br'.Nodup) (fr : ∀ b ∈ br', b ∈ br ∨ w9.heap.size ≤ b) :
    At (w10.setCell ⟨q, 9, none⟩ v') (.node a n x l rr') (.pointer (some ⟨q, 0, none⟩)) (q :: (bl ++ br')) ∧ (q :: (bl ++ br')).Nodup ∧ (∀ b ∈ q :: (bl ++ br'), b ∈ q :: (bl ++ br) ∨ w.heap.size ≤ b) ∧ Grew w (w10.setCell ⟨q, 9, none⟩ v') (q :: (bl ++ br)) := by
  have hsz := HG.size
  rw [List.nodup_cons, List.nodup_append] at hnd
  obtain ⟨hq1, n1, n2, n3⟩ := hnd
  have hqb : q ∉ br := fun h => hq1 (by simp [h])
  have hql : q ∉ bl := fun h => hq1 (by simp [h])
  have hlt := hl.lt
  have fr' : ∀ b ∈ br', b ∈ br ∨ w.heap.size ≤ b := fun b hb => (fr b hb).imp id fun h => by omega
  have hq' : q ∉ br' := fun h => by rcases fr' q h with e | e; exact hqb e; omega
  have dj : ∀ b ∈ bl, b ∉ br' := fun b hb h => by rcases fr' b h with e | e; exact n3 b hb b e rfl; have := hlt b hb; omega
  have far : ∀ k, k ≠ q → (w10.setCell ⟨q, 9, none⟩ v').heap[k]? = w10.heap[k]? := fun k hk => Below.heap_setCell w10 ⟨q, 9, none⟩ _ k hk
  have HQ10 := (G.block q (Nat.lt_of_lt_of_le hq hsz) hqb).trans HQ
  have G' : Grew w w10 (q :: (bl ++ br)) := ((below_grew HG (q :: (bl ++ br))).trans G fun b hb => .inl (by simp [hb]))
  refine ⟨⟨q, vl, v', bl, br', rfl, rfl, (wayN HQ10 v').2, hl.keep fun b hb => ?_, A.keep fun b hb => far b fun e => by subst e; exact hq' hb⟩, ?_, fun b hb => ?_, G'.set q 9 v' (.inl (by simp))⟩
  · have hb9 := HG.block b (hlt b hb)
    have hb10 := G.block b (Nat.lt_of_lt_of_le (hlt b hb) hsz) fun h => n3 b hb b h rfl
    exact (far b fun e => by subst e; exact hql hb).trans (hb10.trans hb9)
  · rw [List.nodup_cons, List.nodup_append]
    exact ⟨by simp [hql, hq'], n1, nd, fun b hb c hc e => by subst e; exact dj b hb hc⟩
  · rcases List.mem_cons.1 hb with rfl | hb
    · exact .inl (by simp)
    · rcases List.mem_append.1 hb with hb | hb
      · exact .inl (by simp [hb])
      · exact (fr' b hb).imp (fun h => by simp [h]) id
theorem join_l {w w9 w10 : World} {q a n : Nat} {x : Option R} {l rr l' : T} {vl vr v' : Value} {bl br bl' : List Nat} (HG : Below w.heap.size w w9) (hnd : (q :: (bl ++ br)).Nodup) (_hl : At w l vl bl) (hr : At w rr vr br) (hq : q < w.heap.size)
    (HQ : w9.heap[q]? = some (.cells (cellsN a n x vl vr) 64 (0, 0))) (G : Grew w9 w10 bl) (A : At w10 l' v' bl') (nd : bl'.Nodup) (fr : ∀ b ∈ bl', b ∈ bl ∨ w9.heap.size ≤ b) :
    At (w10.setCell ⟨q, 8, none⟩ v') (.node a n x l' rr) (.pointer (some ⟨q, 0, none⟩)) (q :: (bl' ++ br)) ∧ (q :: (bl' ++ br)).Nodup ∧ (∀ b ∈ q :: (bl' ++ br), b ∈ q :: (bl ++ br) ∨ w.heap.size ≤ b) ∧ Grew w (w10.setCell ⟨q, 8, none⟩ v') (q :: (bl ++ br)) := by
  have hsz := HG.size
  rw [List.nodup_cons, List.nodup_append] at hnd
  obtain ⟨hq1, n1, n2, n3⟩ := hnd
  have hqb : q ∉ br := fun h => hq1 (by simp [h])
  have hql : q ∉ bl := fun h => hq1 (by simp [h])
  have hlt := hr.lt
  have fr' : ∀ b ∈ bl', b ∈ bl ∨ w.heap.size ≤ b := fun b hb => (fr b hb).imp id fun h => by omega
  have hq' : q ∉ bl' := fun h => by rcases fr' q h with e | e; exact hql e; omega
  have dj : ∀ b ∈ br, b ∉ bl' := fun b hb h => by rcases fr' b h with e | e; exact n3 b e b hb rfl; have := hlt b hb; omega
  have far : ∀ k, k ≠ q → (w10.setCell ⟨q, 8, none⟩ v').heap[k]? = w10.heap[k]? := fun k hk => Below.heap_setCell w10 ⟨q, 8, none⟩ _ k hk
  have HQ10 := (G.block q (Nat.lt_of_lt_of_le hq hsz) hql).trans HQ
  have G' : Grew w w10 (q :: (bl ++ br)) := ((below_grew HG (q :: (bl ++ br))).trans G fun b hb => .inl (by simp [hb]))
  refine ⟨⟨q, v', vr, bl', br, rfl, rfl, (wayN HQ10 v').1, A.keep fun b hb => far b fun e => by subst e; exact hq' hb, hr.keep fun b hb => ?_⟩, ?_, fun b hb => ?_, G'.set q 8 v' (.inl (by simp))⟩
  · have hb9 := HG.block b (hlt b hb)
    have hb10 := G.block b (Nat.lt_of_lt_of_le (hlt b hb) hsz) fun h => n3 b h b hb rfl
    exact (far b fun e => by subst e; exact hqb hb).trans (hb10.trans hb9)
  · rw [List.nodup_cons, List.nodup_append]
    exact ⟨by simp [hqb, hq'], nd, n2, fun b hb c hc e => by subst e; exact dj b hc hb⟩
  · rcases List.mem_cons.1 hb with rfl | hb
    · exact .inl (by simp)
    · rcases List.mem_append.1 hb with hb | hb
      · exact (fr' b hb).imp (fun h => by simp [h]) id
      · exact .inl (by simp [hb])

set_option maxRecDepth 8000 in
set_option maxHeartbeats 8000000 in
theorem put_in (a n : Nat) (x : Option R) (l rr : T) (r : R) (h : (T.node a n x l rr).WF) (hr : r.Ok) (hw : within r.a r.n a n = true) (hc : ¬(r.a = a ∧ r.n = n) → (sd r.a n = true → PutSaid rr r) ∧ (sd r.a n = false → PutSaid l r)) : PutSaid (.node a n x l rr) r := by
  intro w v bs hAt hnd
  obtain ⟨q, vl, vr, bl, br, rfl, rfl, hq, hl, hrr⟩ := hAt
  unfold T.put
  rw [if_pos hw]
  obtain ⟨ra, rn, via, mt, sq⟩ := r
  obtain ⟨h1, h2, h3, h4, h5, h6⟩ := h
  obtain ⟨r1, r2, r3⟩ := hr
  replace r1 : ra < 4294967296 := r1
  replace r2 : rn ≤ 32 := r2
  have c31 := fun W => within_any ra rn a n r1 (by omega) h1.1 (by omega) W
  rw [show within ra rn a n = true from hw] at c31
  have c25 := fun W h => side_any a n ra q x vl vr r1 h1.2.1 W h
  unfold R.cl
  dsimp only
  have R0 := heap_alloc_new w (.cells #[.int .u32 (ra : Int), .int .u8 (rn : Int), .int .i64 via, .int .u16 mt, .int .u16 sq] 39)
  have B0 : Below w.heap.size w (w.alloc (.cells #[.int .u32 (ra : Int), .int .u8 (rn : Int), .int .i64 via, .int .u16 mt, .int .u16 sq] 39)) := (Below.refl _ _).alloc (Nat.le_refl _) _
  have hqs := (Array.getElem?_eq_some_iff.1 hq).1
  have HB := Lib.hid R0
  have HQ := Lib.hid ((B0.block _ hqs).trans hq)
  have HG := Lib.hid B0
  have HC := Lib.hid hc
  have HT := Lib.hid (And.intro hl hrr)
  have hwq : w.heap.size ≠ q := by omega
  clear h2 h3 h4 h5 h6 hc hq hl hrr B0 R0
  by_cases he : ra = a ∧ rn = n
  · rw [if_pos he]
    obtain ⟨rfl, rfl⟩ := he
    clear c25 HC
    go_enter Try.func23, Try.ntmps23
    go_upto_region 3 with (fail)
    generalize w.alloc _ = wv at *
    refine wp_region_noPanic ?_
    refine wp_region_held_drew (S := fun W : World => Below wv.heap.size wv W) (by kernel_rfl) ((Below.refl _ _).drew) (fun hHeld => ?_)
    generalize wv.drew = wd at *
    refine wpAnyH_take (i := 0) (oi := { dst := some 14, op := Op.fieldAddr 39 (Operand.tmp 3) 0, type := 0, pos := "place.go:22", after := #[], guard := none }) (v := .pointer (some ⟨w.heap.size, 0, none⟩)) rfl (by kernel_rfl) (by kernel_rfl) (by kernel_rfl) (fun _ _ _ h => h) (Or.inl ⟨by rfl, fun w hSw => by go_simp⟩) (by assumption) ?_
    try simp only [Act.put, List.setIfInBounds_toArray, List.set_cons_zero, List.set_cons_succ]
    refine wpAnyH_take (i := 1) (oi := { dst := some 15, op := Op.load 32 (Operand.tmp 14), type := 32, pos := "place.go:22", after := #[{ on := 0, ground := Ground.data }], guard := none }) (v := .agg #[.int .u32 (ra : Int), .int .u8 (rn : Int)]) rfl (by kernel_rfl) (by kernel_rfl) (by kernel_rfl) (fun _ _ _ h => h) (Or.inl ⟨by rfl, fun w hSw => by obtain ⟨y0, y1, y2, y3, y4⟩ := row5 ((hSw.block _ (Array.getElem?_eq_some_iff.1 HB.out).1).trans HB.out); go_simp⟩) (by assumption) ?_
    try simp only [Act.put, List.setIfInBounds_toArray, List.set_cons_zero, List.set_cons_succ]
    refine wpAnyH_take (i := 2) (oi := { dst := some 16, op := Op.move (Operand.tmp 0), type := 26, pos := "place.go:22", after := #[], guard := none }) (v := .pointer (some ⟨q, 0, none⟩)) rfl (by kernel_rfl) (by kernel_rfl) (by kernel_rfl) (fun _ _ _ h => h) (Or.inl ⟨by rfl, fun w hSw => by go_simp⟩) (by assumption) ?_
    try simp only [Act.put, List.setIfInBounds_toArray, List.set_cons_zero, List.set_cons_succ]
    refine wpAnyH_take (i := 3) (oi := { dst := some 17, op := Op.nilCheck (Operand.tmp 16), type := 0, pos := "place.go:22", after := #[{ on := 2, ground := Ground.data }], guard := none }) (v := .pointer (some ⟨q, 0, none⟩)) rfl (by kernel_rfl) (by kernel_rfl) (by kernel_rfl) (fun _ _ _ h => h) (Or.inl ⟨by rfl, fun w hSw => by go_simp⟩) (by assumption) ?_
    try simp only [Act.put, List.setIfInBounds_toArray, List.set_cons_zero, List.set_cons_succ]
    refine wpAnyH_take (i := 4) (oi := { dst := some 18, op := Op.fieldAddr 64 (Operand.tmp 17) 0, type := 0, pos := "place.go:22", after := #[{ on := 3, ground := Ground.data }], guard := none }) (v := .pointer (some ⟨q, 0, none⟩)) rfl (by kernel_rfl) (by kernel_rfl) (by kernel_rfl) (fun _ _ _ h => h) (Or.inl ⟨by rfl, fun w hSw => by go_simp⟩) (by assumption) ?_
    try simp only [Act.put, List.setIfInBounds_toArray, List.set_cons_zero, List.set_cons_succ]
    refine wpAnyH_take (i := 5) (oi := { dst := some 19, op := Op.load 32 (Operand.tmp 18), type := 32, pos := "place.go:22", after := #[{ on := 4, ground := Ground.data }], guard := none }) (v := .agg #[.int .u32 (ra : Int), .int .u8 (rn : Int)]) rfl (by kernel_rfl) (by kernel_rfl) (by kernel_rfl) (fun _ _ _ h => h) (Or.inl ⟨by rfl, fun w hSw => by obtain ⟨k0, k1, k2, k8, k9⟩ := placeN ((hSw.block _ (Array.getElem?_eq_some_iff.1 HQ.out).1).trans HQ.out); go_simp⟩) (by assumption) ?_
    try simp only [Act.put, List.setIfInBounds_toArray, List.set_cons_zero, List.set_cons_succ]
    refine wpAnyH_ready (rs := [6]) (by kernel_rfl) (by simp) ?_
    refine AllReadyH.cons (o := { dst := some 20, op := Op.call { callee := Callee.value (Operand.func 31), args := #[Operand.tmp 15, Operand.tmp 19], argTypes := #[32, 32] }, type := 4, pos := "place.go:22", after := #[{ on := 1, ground := Ground.data }, { on := 5, ground := Ground.data }], guard := none }) rfl (fun K hK => ?_) AllReadyH.nil
    go_simp
    with_reducible refine (c31 _).mono ?_
    rintro e w3 ⟨rfl, B3⟩
    have D3 := hHeld.trans (B3.mono hHeld.size)
    refine hK.out _ _ (D3) (fun hHeld => ?_)
    clear hK K
    try simp only [Act.put, List.setIfInBounds_toArray, List.set_cons_zero, List.set_cons_succ]
    refine wpAnyH_take (i := 7) (oi := { dst := some 21, op := Op.unOp UnOp.not 4 (Operand.tmp 20), type := 4, pos := "place.go:22", after := #[{ on := 6, ground := Ground.data }], guard := none }) (v := .bool false) rfl (by kernel_rfl) (by kernel_rfl) (by kernel_rfl) (fun _ _ _ h => h) (Or.inl ⟨by rfl, fun w hSw => by go_simp⟩) (by assumption) ?_
    try simp only [Act.put, List.setIfInBounds_toArray, List.set_cons_zero, List.set_cons_succ]
    refine wpAnyH_done (by kernel_rfl) ?_ _
    try unfold NoPanic
    go_upto_region 5 with (fail)
    have HB3 := Lib.hid ((hHeld.block _ (Array.getElem?_eq_some_iff.1 HB.out).1).trans HB.out)
    have HQ3 := Lib.hid ((hHeld.block _ (Array.getElem?_eq_some_iff.1 HQ.out).1).trans HQ.out)
    have HG3 := Lib.hid (HG.out.trans (hHeld.mono HG.out.size))
    clear HB HQ HG hHeld D3
    refine wp_region_noPanic ?_
    refine wp_region_held_drew (S := fun W : World => Below w3.heap.size w3 W) (by kernel_rfl) ((Below.refl _ _).drew) (fun hHeld => ?_)
    generalize w3.drew = wd5 at *
    refine wpAnyH_take (i := 0) (oi := { dst := some 30, op := Op.fieldAddr 39 (Operand.tmp 3) 0, type := 0, pos := "place.go:25", after := #[], guard := none }) (v := .pointer (some ⟨w.heap.size, 0, none⟩)) rfl (by kernel_rfl) (by kernel_rfl) (by kernel_rfl) (fun _ _ _ h => h) (Or.inl ⟨by rfl, fun w hSw => by go_simp⟩) (by assumption) ?_
    try simp only [Act.put, List.setIfInBounds_toArray, List.set_cons_zero, List.set_cons_succ]
    refine wpAnyH_take (i := 1) (oi := { dst := some 31, op := Op.load 32 (Operand.tmp 30), type := 32, pos := "place.go:25", after := #[{ on := 0, ground := Ground.data }], guard := none }) (v := .agg #[.int .u32 (ra : Int), .int .u8 (rn : Int)]) rfl (by kernel_rfl) (by kernel_rfl) (by kernel_rfl) (fun _ _ _ h => h) (Or.inl ⟨by rfl, fun w hSw => by obtain ⟨y0, y1, y2, y3, y4⟩ := row5 ((hSw.block _ (Array.getElem?_eq_some_iff.1 HB3.out).1).trans HB3.out); go_simp⟩) (by assumption) ?_
    try simp only [Act.put, List.setIfInBounds_toArray, List.set_cons_zero, List.set_cons_succ]
    refine wpAnyH_take (i := 2) (oi := { dst := some 32, op := Op.move (Operand.tmp 0), type := 26, pos := "place.go:25", after := #[], guard := none }) (v := .pointer (some ⟨q, 0, none⟩)) rfl (by kernel_rfl) (by kernel_rfl) (by kernel_rfl) (fun _ _ _ h => h) (Or.inl ⟨by rfl, fun w hSw => by go_simp⟩) (by assumption) ?_
    try simp only [Act.put, List.setIfInBounds_toArray, List.set_cons_zero, List.set_cons_succ]
    refine wpAnyH_take (i := 3) (oi := { dst := some 33, op := Op.nilCheck (Operand.tmp 32), type := 0, pos := "place.go:25", after := #[{ on := 2, ground := Ground.data }], guard := none }) (v := .pointer (some ⟨q, 0, none⟩)) rfl (by kernel_rfl) (by kernel_rfl) (by kernel_rfl) (fun _ _ _ h => h) (Or.inl ⟨by rfl, fun w hSw => by go_simp⟩) (by assumption) ?_
    try simp only [Act.put, List.setIfInBounds_toArray, List.set_cons_zero, List.set_cons_succ]
    refine wpAnyH_take (i := 4) (oi := { dst := some 34, op := Op.fieldAddr 64 (Operand.tmp 33) 0, type := 0, pos := "place.go:25", after := #[{ on := 3, ground := Ground.data }], guard := none }) (v := .pointer (some ⟨q, 0, none⟩)) rfl (by kernel_rfl) (by kernel_rfl) (by kernel_rfl) (fun _ _ _ h => h) (Or.inl ⟨by rfl, fun w hSw => by go_simp⟩) (by assumption) ?_
    try simp only [Act.put, List.setIfInBounds_toArray, List.set_cons_zero, List.set_cons_succ]
    refine wpAnyH_take (i := 5) (oi := { dst := some 35, op := Op.load 32 (Operand.tmp 34), type := 32, pos := "place.go:25", after := #[{ on := 4, ground := Ground.data }], guard := none }) (v := .agg #[.int .u32 (ra : Int), .int .u8 (rn : Int)]) rfl (by kernel_rfl) (by kernel_rfl) (by kernel_rfl) (fun _ _ _ h => h) (Or.inl ⟨by rfl, fun w hSw => by obtain ⟨k0, k1, k2, k8, k9⟩ := placeN ((hSw.block _ (Array.getElem?_eq_some_iff.1 HQ3.out).1).trans HQ3.out); go_simp⟩) (by assumption) ?_
    try simp only [Act.put, List.setIfInBounds_toArray, List.set_cons_zero, List.set_cons_succ]
    refine wpAnyH_take (i := 6) (oi := { dst := some 36, op := Op.binOp BinOp.eql 32 (Operand.tmp 31) (Operand.tmp 35) 32, type := 4, pos := "place.go:25", after := #[{ on := 1, ground := Ground.data }, { on := 5, ground := Ground.data }], guard := none }) (v := .bool true) rfl (by kernel_rfl) (by kernel_rfl) (by kernel_rfl) (fun _ _ _ h => h) (Or.inl ⟨by rfl, fun w hSw => by go_simp⟩) (by assumption) ?_
    try simp only [Act.put, List.setIfInBounds_toArray, List.set_cons_zero, List.set_cons_succ]
    refine wpAnyH_done (by kernel_rfl) ?_ _
    try unfold NoPanic
    have HB6 := Lib.hid ((hHeld.block _ (Array.getElem?_eq_some_iff.1 HB3.out).1).trans HB3.out)
    have HQ6 := Lib.hid ((hHeld.block _ (Array.getElem?_eq_some_iff.1 HQ3.out).1).trans HQ3.out)
    have HG6 := Lib.hid (HG3.out.trans (hHeld.mono HG3.out.size))
    clear HB3 HQ3 HG3 hHeld
    generalize wd5 = w6 at *
    obtain ⟨k0, k1, k2, k8, k9⟩ := placeN HQ6.out
    go_upto_region 7 with (fail)
    clear k0 k1 k2 k8 k9
    replace HB6 := Lib.hid (((Below.refl w6.heap.size w6).drew.block _ (Array.getElem?_eq_some_iff.1 HB6.out).1).trans HB6.out)
    replace HQ6 := Lib.hid (((Below.refl w6.heap.size w6).drew.block _ (Array.getElem?_eq_some_iff.1 HQ6.out).1).trans HQ6.out)
    replace HG6 := Lib.hid (HG6.out.trans ((Below.refl w6.heap.size w6).drew.mono HG6.out.size))
    refine wp_region_noPanic ?_
    refine wp_region_held_drew (S := fun W : World => W.heap[w.heap.size]? = some (.cells #[.int .u32 (ra : Int), .int .u8 (rn : Int), .int .i64 via, .int .u16 mt, .int .u16 sq] 39)) (by kernel_rfl) HB6.out (fun hHeld => ?_)
    generalize w6.drew = wd7 at *
    obtain ⟨k0, k1, k2, k8, k9⟩ := placeN HQ6.out
    obtain ⟨xa, xn, xv, xm, xs, ⟨k3, k4, k5, k6, k7⟩, -⟩ := routeN HQ6.out
    have fz := fun i => frozenN HQ6.out i
    refine wpAnyH_take (i := 0) (oi := { dst := some 42, op := Op.move (Operand.tmp 0), type := 26, pos := "place.go:27", after := #[], guard := none }) (v := .pointer (some ⟨q, 0, none⟩)) rfl (by kernel_rfl) (by kernel_rfl) (by kernel_rfl) (fun _ _ _ h => h) (Or.inl ⟨by rfl, fun w hSw => by go_simp⟩) (by assumption) ?_
    try simp only [Act.put, List.setIfInBounds_toArray, List.set_cons_zero, List.set_cons_succ]
    refine wpAnyH_take (i := 1) (oi := { dst := some 43, op := Op.move (Operand.tmp 0), type := 26, pos := "place.go:27", after := #[{ on := 5, ground := Ground.gcOnly Departure.lateStores }], guard := none }) (v := .pointer (some ⟨q, 0, none⟩)) rfl (by kernel_rfl) (by kernel_rfl) (by kernel_rfl) (fun _ _ _ h => h) (Or.inl ⟨by rfl, fun w hSw => by go_simp⟩) (by assumption) ?_
    try simp only [Act.put, List.setIfInBounds_toArray, List.set_cons_zero, List.set_cons_succ]
    refine wpAnyH_take (i := 2) (oi := { dst := some 44, op := Op.load 39 (Operand.tmp 3), type := 39, pos := "place.go:27", after := #[{ on := 5, ground := Ground.gcOnly Departure.lateStores }], guard := none }) (v := .agg #[.int .u32 (ra : Int), .int .u8 (rn : Int), .int .i64 via, .int .u16 mt, .int .u16 sq]) rfl (by kernel_rfl) (by kernel_rfl) (by kernel_rfl) (fun _ _ _ h => h) (Or.inl ⟨by rfl, fun w hSw => by obtain ⟨y0, y1, y2, y3, y4⟩ := row5 hSw; go_simp⟩) (by assumption) ?_
    try simp only [Act.put, List.setIfInBounds_toArray, List.set_cons_zero, List.set_cons_succ]
    refine wpAnyH_take (i := 3) (oi := { dst := some 45, op := Op.nilCheck (Operand.tmp 42), type := 0, pos := "place.go:27", after := #[{ on := 0, ground := Ground.data }, { on := 0, ground := Ground.phase }, { on := 1, ground := Ground.textOnly Departure.lateStores }, { on := 2, ground := Ground.textOnly Departure.lateStores }], guard := none }) (v := .pointer (some ⟨q, 0, none⟩)) rfl (by kernel_rfl) (by kernel_rfl) (by kernel_rfl) (fun _ _ _ h => h) (Or.inl ⟨by rfl, fun w hSw => by go_simp⟩) (by assumption) ?_
    try simp only [Act.put, List.setIfInBounds_toArray, List.set_cons_zero, List.set_cons_succ]
    refine wpAnyH_take (i := 4) (oi := { dst := some 46, op := Op.fieldAddr 64 (Operand.tmp 45) 1, type := 0, pos := "place.go:27", after := #[{ on := 3, ground := Ground.data }, { on := 0, ground := Ground.phase }, { on := 1, ground := Ground.textOnly Departure.lateStores }, { on := 2, ground := Ground.textOnly Departure.lateStores }], guard := none }) (v := .pointer (some ⟨q, 2, none⟩)) rfl (by kernel_rfl) (by kernel_rfl) (by kernel_rfl) (fun _ _ _ h => h) (Or.inl ⟨by rfl, fun w hSw => by go_simp⟩) (by assumption) ?_
    try simp only [Act.put, List.setIfInBounds_toArray, List.set_cons_zero, List.set_cons_succ]
    refine wpAnyH_ready (rs := [5]) (by kernel_rfl) (by simp) ?_
    refine AllReadyH.cons (o := { dst := none, op := Op.store 4 (Operand.tmp 46) (Operand.const (Value.bool true)), type := 0, pos := "place.go:27", after := #[{ on := 4, ground := Ground.data }, { on := 0, ground := Ground.phase }, { on := 1, ground := Ground.textOnly Departure.lateStores }, { on := 2, ground := Ground.textOnly Departure.lateStores }], guard := none }) rfl (fun K hK => ?_) AllReadyH.nil
    go_simp
    refine hK.out _ _ ((Below.heap_setCell _ ⟨q, _, none⟩ _ _ hwq).trans hHeld) (fun hHeld => ?_)
    clear hK K
    try simp only [Act.put, List.setIfInBounds_toArray, List.set_cons_zero, List.set_cons_succ]
    refine wpAnyH_take (i := 6) (oi := { dst := some 47, op := Op.nilCheck (Operand.tmp 43), type := 0, pos := "place.go:27", after := #[{ on := 1, ground := Ground.data }, { on := 0, ground := Ground.phase }, { on := 1, ground := Ground.phase }, { on := 2, ground := Ground.phase }, { on := 3, ground := Ground.phase }, { on := 4, ground := Ground.phase }, { on := 5, ground := Ground.phase }], guard := none }) (v := .pointer (some ⟨q, 0, none⟩)) rfl (by kernel_rfl) (by kernel_rfl) (by kernel_rfl) (fun _ _ _ h => h) (Or.inl ⟨by rfl, fun w hSw => by go_simp⟩) (by assumption) ?_
    try simp only [Act.put, List.setIfInBounds_toArray, List.set_cons_zero, List.set_cons_succ]
    refine wpAnyH_take (i := 7) (oi := { dst := some 48, op := Op.fieldAddr 64 (Operand.tmp 47) 2, type := 0, pos := "place.go:27", after := #[{ on := 6, ground := Ground.data }, { on := 0, ground := Ground.phase }, { on := 1, ground := Ground.phase }, { on := 2, ground := Ground.phase }, { on := 3, ground := Ground.phase }, { on := 4, ground := Ground.phase }, { on := 5, ground := Ground.phase }], guard := none }) (v := .pointer (some ⟨q, 3, none⟩)) rfl (by kernel_rfl) (by kernel_rfl) (by kernel_rfl) (fun _ _ _ h => h) (Or.inl ⟨by rfl, fun w hSw => by go_simp⟩) (by assumption) ?_
    try simp only [Act.put, List.setIfInBounds_toArray, List.set_cons_zero, List.set_cons_succ]
    refine wpAnyH_ready (rs := [8]) (by kernel_rfl) (by simp) ?_
    refine AllReadyH.cons (o := { dst := none, op := Op.store 39 (Operand.tmp 48) (Operand.tmp 44), type := 0, pos := "place.go:27", after := #[{ on := 7, ground := Ground.data }, { on := 2, ground := Ground.data }, { on := 5, ground := Ground.chain }, { on := 0, ground := Ground.phase }, { on := 1, ground := Ground.phase }, { on := 2, ground := Ground.phase }, { on := 3, ground := Ground.phase }, { on := 4, ground := Ground.phase }, { on := 5, ground := Ground.phase }], guard := none }) rfl (fun K hK => ?_) AllReadyH.nil
    go_simp
    refine hK.out _ _ ((sets_far _ q _ _ _ _ _ _ _ hwq).trans HB6.out) (fun hHeld => ?_)
    clear hK K
    try simp only [Act.put, List.setIfInBounds_toArray, List.set_cons_zero, List.set_cons_succ]
    refine wpAnyH_done (by kernel_rfl) ?_ _
    try unfold NoPanic
    have hfar := sets_far wd7 q (.bool true) (.int .u32 (ra : Int)) (.int .u8 (rn : Int)) (.int .i64 via) (.int .u16 mt) (.int .u16 sq)
    have hput := putN HQ6.out ra rn via mt sq
    have hgr := sets_grew (below_grew HG6.out (q :: (bl ++ br))) q (by simp) (.bool true) (.int .u32 (ra : Int)) (.int .u8 (rn : Int)) (.int .i64 via) (.int .u16 mt) (.int .u16 sq)
    have HF := Lib.hid (And.intro hfar (And.intro hput hgr))
    clear hfar hput hgr k0 k1 k2 k3 k4 k5 k6 k7 k8 k9 fz hHeld
    generalize World.setCell (World.setCell (World.setCell (World.setCell (World.setCell (World.setCell wd7 _ _) _ _) _ _) _ _) _ _) _ _ = wz at *
    go_wp2
    go_ret2
    have kp : ∀ b, b ∈ bl ++ br → wz.heap[b]? = w.heap[b]? := fun b hb => by
      have hbq : b ≠ q := fun e => by subst e; exact (List.nodup_cons.1 hnd).1 hb
      have hbs : b < w.heap.size := by
        rcases List.mem_append.1 hb with e | e
        · exact HT.out.1.lt b e
        · exact HT.out.2.lt b e
      exact (HF.out.1 b hbq).trans (HG6.out.block b hbs)
    exact ⟨_, q :: (bl ++ br), by cases x <;> rfl, ⟨q, vl, vr, bl, br, rfl, rfl, HF.out.2.1, HT.out.1.keep fun b hb => kp b (by simp [hb]), HT.out.2.keep fun b hb => kp b (by simp [hb])⟩, hnd, fun b hb => .inl hb, HF.out.2.2⟩
  · rw [if_neg he]
    have HNE := Lib.hid he
    have hIH := HC.out he
    have hnl : q ∉ bl ∧ q ∉ br ∧ bl.Nodup ∧ br.Nodup := by
      have h := hnd
      rw [List.nodup_cons, List.nodup_append] at h
      exact ⟨fun e => h.1 (by simp [e]), fun e => h.1 (by simp [e]), h.2.1, h.2.2.1⟩
    have hxl : w.heap.size ∉ bl := fun e => Nat.lt_irrefl _ (HT.out.1.lt _ e)
    have hxr : w.heap.size ∉ br := fun e => Nat.lt_irrefl _ (HT.out.2.lt _ e)
    clear he HC
    cases hs : sd ra n
    · replace hIH := hIH.2 hs
      unfold PutSaid R.cl at hIH
      dsimp only at hIH
      rw [hs] at c25
      simp only [Bool.false_eq_true, if_false] at c25 ⊢
      have hqn := hnl.1
      have hnb := hnl.2.2.1
      have hxn := hxl
      clear hnl hxl hxr
      go_enter Try.func23, Try.ntmps23
      go_upto_region 3 with (fail)
      generalize w.alloc _ = wv at *
      refine wp_region_noPanic ?_
      refine wp_region_held_drew (S := fun W : World => Below wv.heap.size wv W) (by kernel_rfl) ((Below.refl _ _).drew) (fun hHeld => ?_)
      generalize wv.drew = wd at *
      refine wpAnyH_take (i := 0) (oi := { dst := some 14, op := Op.fieldAddr 39 (Operand.tmp 3) 0, type := 0, pos := "place.go:22", after := #[], guard := none }) (v := .pointer (some ⟨w.heap.size, 0, none⟩)) rfl (by kernel_rfl) (by kernel_rfl) (by kernel_rfl) (fun _ _ _ h => h) (Or.inl ⟨by rfl, fun w hSw => by go_simp⟩) (by assumption) ?_
      try simp only [Act.put, List.setIfInBounds_toArray, List.set_cons_zero, List.set_cons_succ]
      refine wpAnyH_take (i := 1) (oi := { dst := some 15, op := Op.load 32 (Operand.tmp 14), type := 32, pos := "place.go:22", after := #[{ on := 0, ground := Ground.data }], guard := none }) (v := .agg #[.int .u32 (ra : Int), .int .u8 (rn : Int)]) rfl (by kernel_rfl) (by kernel_rfl) (by kernel_rfl) (fun _ _ _ h => h) (Or.inl ⟨by rfl, fun w hSw => by obtain ⟨y0, y1, y2, y3, y4⟩ := row5 ((hSw.block _ (Array.getElem?_eq_some_iff.1 HB.out).1).trans HB.out); go_simp⟩) (by assumption) ?_
      try simp only [Act.put, List.setIfInBounds_toArray, List.set_cons_zero, List.set_cons_succ]
      refine wpAnyH_take (i := 2) (oi := { dst := some 16, op := Op.move (Operand.tmp 0), type := 26, pos := "place.go:22", after := #[], guard := none }) (v := .pointer (some ⟨q, 0, none⟩)) rfl (by kernel_rfl) (by kernel_rfl) (by kernel_rfl) (fun _ _ _ h => h) (Or.inl ⟨by rfl, fun w hSw => by go_simp⟩) (by assumption) ?_
      try simp only [Act.put, List.setIfInBounds_toArray, List.set_cons_zero, List.set_cons_succ]
      refine wpAnyH_take (i := 3) (oi := { dst := some 17, op := Op.nilCheck (Operand.tmp 16), type := 0, pos := "place.go:22", after := #[{ on := 2, ground := Ground.data }], guard := none }) (v := .pointer (some ⟨q, 0, none⟩)) rfl (by kernel_rfl) (by kernel_rfl) (by kernel_rfl) (fun _ _ _ h => h) (Or.inl ⟨by rfl, fun w hSw => by go_simp⟩) (by assumption) ?_
      try simp only [Act.put, List.setIfInBounds_toArray, List.set_cons_zero, List.set_cons_succ]
      refine wpAnyH_take (i := 4) (oi := { dst := some 18, op := Op.fieldAddr 64 (Operand.tmp 17) 0, type := 0, pos := "place.go:22", after := #[{ on := 3, ground := Ground.data }], guard := none }) (v := .pointer (some ⟨q, 0, none⟩)) rfl (by kernel_rfl) (by kernel_rfl) (by kernel_rfl) (fun _ _ _ h => h) (Or.inl ⟨by rfl, fun w hSw => by go_simp⟩) (by assumption) ?_
      try simp only [Act.put, List.setIfInBounds_toArray, List.set_cons_zero, List.set_cons_succ]
      refine wpAnyH_take (i := 5) (oi := { dst := some 19, op := Op.load 32 (Operand.tmp 18), type := 32, pos := "place.go:22", after := #[{ on := 4, ground := Ground.data }], guard := none }) (v := .agg #[.int .u32 (a : Int), .int .u8 (n : Int)]) rfl (by kernel_rfl) (by kernel_rfl) (by kernel_rfl) (fun _ _ _ h => h) (Or.inl ⟨by rfl, fun w hSw => by obtain ⟨k0, k1, k2, k8, k9⟩ := placeN ((hSw.block _ (Array.getElem?_eq_some_iff.1 HQ.out).1).trans HQ.out); go_simp⟩) (by assumption) ?_
      try simp only [Act.put, List.setIfInBounds_toArray, List.set_cons_zero, List.set_cons_succ]
      refine wpAnyH_ready (rs := [6]) (by kernel_rfl) (by simp) ?_
      refine AllReadyH.cons (o := { dst := some 20, op := Op.call { callee := Callee.value (Operand.func 31), args := #[Operand.tmp 15, Operand.tmp 19], argTypes := #[32, 32] }, type := 4, pos := "place.go:22", after := #[{ on := 1, ground := Ground.data }, { on := 5, ground := Ground.data }], guard := none }) rfl (fun K hK => ?_) AllReadyH.nil
      go_simp
      with_reducible refine (c31 _).mono ?_
      rintro e w3 ⟨rfl, B3⟩
      have D3 := hHeld.trans (B3.mono hHeld.size)
      refine hK.out _ _ (D3) (fun hHeld => ?_)
      clear hK K
      try simp only [Act.put, List.setIfInBounds_toArray, List.set_cons_zero, List.set_cons_succ]
      refine wpAnyH_take (i := 7) (oi := { dst := some 21, op := Op.unOp UnOp.not 4 (Operand.tmp 20), type := 4, pos := "place.go:22", after := #[{ on := 6, ground := Ground.data }], guard := none }) (v := .bool false) rfl (by kernel_rfl) (by kernel_rfl) (by kernel_rfl) (fun _ _ _ h => h) (Or.inl ⟨by rfl, fun w hSw => by go_simp⟩) (by assumption) ?_
      try simp only [Act.put, List.setIfInBounds_toArray, List.set_cons_zero, List.set_cons_succ]
      refine wpAnyH_done (by kernel_rfl) ?_ _
      try unfold NoPanic
      go_upto_region 5 with (fail)
      have HB3 := Lib.hid ((hHeld.block _ (Array.getElem?_eq_some_iff.1 HB.out).1).trans HB.out)
      have HQ3 := Lib.hid ((hHeld.block _ (Array.getElem?_eq_some_iff.1 HQ.out).1).trans HQ.out)
      have HG3 := Lib.hid (HG.out.trans (hHeld.mono HG.out.size))
      clear HB HQ HG hHeld D3
      refine wp_region_noPanic ?_
      refine wp_region_held_drew (S := fun W : World => Below w3.heap.size w3 W) (by kernel_rfl) ((Below.refl _ _).drew) (fun hHeld => ?_)
      generalize w3.drew = wd5 at *
      refine wpAnyH_take (i := 0) (oi := { dst := some 30, op := Op.fieldAddr 39 (Operand.tmp 3) 0, type := 0, pos := "place.go:25", after := #[], guard := none }) (v := .pointer (some ⟨w.heap.size, 0, none⟩)) rfl (by kernel_rfl) (by kernel_rfl) (by kernel_rfl) (fun _ _ _ h => h) (Or.inl ⟨by rfl, fun w hSw => by go_simp⟩) (by assumption) ?_
      try simp only [Act.put, List.setIfInBounds_toArray, List.set_cons_zero, List.set_cons_succ]
      refine wpAnyH_take (i := 1) (oi := { dst := some 31, op := Op.load 32 (Operand.tmp 30), type := 32, pos := "place.go:25", after := #[{ on := 0, ground := Ground.data }], guard := none }) (v := .agg #[.int .u32 (ra : Int), .int .u8 (rn : Int)]) rfl (by kernel_rfl) (by kernel_rfl) (by kernel_rfl) (fun _ _ _ h => h) (Or.inl ⟨by rfl, fun w hSw => by obtain ⟨y0, y1, y2, y3, y4⟩ := row5 ((hSw.block _ (Array.getElem?_eq_some_iff.1 HB3.out).1).trans HB3.out); go_simp⟩) (by assumption) ?_
      try simp only [Act.put, List.setIfInBounds_toArray, List.set_cons_zero, List.set_cons_succ]
      refine wpAnyH_take (i := 2) (oi := { dst := some 32, op := Op.move (Operand.tmp 0), type := 26, pos := "place.go:25", after := #[], guard := none }) (v := .pointer (some ⟨q, 0, none⟩)) rfl (by kernel_rfl) (by kernel_rfl) (by kernel_rfl) (fun _ _ _ h => h) (Or.inl ⟨by rfl, fun w hSw => by go_simp⟩) (by assumption) ?_
      try simp only [Act.put, List.setIfInBounds_toArray, List.set_cons_zero, List.set_cons_succ]
      refine wpAnyH_take (i := 3) (oi := { dst := some 33, op := Op.nilCheck (Operand.tmp 32), type := 0, pos := "place.go:25", after := #[{ on := 2, ground := Ground.data }], guard := none }) (v := .pointer (some ⟨q, 0, none⟩)) rfl (by kernel_rfl) (by kernel_rfl) (by kernel_rfl) (fun _ _ _ h => h) (Or.inl ⟨by rfl, fun w hSw => by go_simp⟩) (by assumption) ?_
      try simp only [Act.put, List.setIfInBounds_toArray, List.set_cons_zero, List.set_cons_succ]
      refine wpAnyH_take (i := 4) (oi := { dst := some 34, op := Op.fieldAddr 64 (Operand.tmp 33) 0, type := 0, pos := "place.go:25", after := #[{ on := 3, ground := Ground.data }], guard := none }) (v := .pointer (some ⟨q, 0, none⟩)) rfl (by kernel_rfl) (by kernel_rfl) (by kernel_rfl) (fun _ _ _ h => h) (Or.inl ⟨by rfl, fun w hSw => by go_simp⟩) (by assumption) ?_
      try simp only [Act.put, List.setIfInBounds_toArray, List.set_cons_zero, List.set_cons_succ]
      refine wpAnyH_take (i := 5) (oi := { dst := some 35, op := Op.load 32 (Operand.tmp 34), type := 32, pos := "place.go:25", after := #[{ on := 4, ground := Ground.data }], guard := none }) (v := .agg #[.int .u32 (a : Int), .int .u8 (n : Int)]) rfl (by kernel_rfl) (by kernel_rfl) (by kernel_rfl) (fun _ _ _ h => h) (Or.inl ⟨by rfl, fun w hSw => by obtain ⟨k0, k1, k2, k8, k9⟩ := placeN ((hSw.block _ (Array.getElem?_eq_some_iff.1 HQ3.out).1).trans HQ3.out); go_simp⟩) (by assumption) ?_
      try simp only [Act.put, List.setIfInBounds_toArray, List.set_cons_zero, List.set_cons_succ]
      refine wpAnyH_take (i := 6) (oi := { dst := some 36, op := Op.binOp BinOp.eql 32 (Operand.tmp 31) (Operand.tmp 35) 32, type := 4, pos := "place.go:25", after := #[{ on := 1, ground := Ground.data }, { on := 5, ground := Ground.data }], guard := none }) (v := .bool false) rfl (by kernel_rfl) (by kernel_rfl) (by kernel_rfl) (fun _ _ _ h => h) (Or.inl ⟨by rfl, fun w hSw => by have hnn := HNE.out; go_simp; intro g1 g2; exact hnn ⟨by omega, by omega⟩⟩) (by assumption) ?_
      try simp only [Act.put, List.setIfInBounds_toArray, List.set_cons_zero, List.set_cons_succ]
      refine wpAnyH_done (by kernel_rfl) ?_ _
      try unfold NoPanic
      have HB6 := Lib.hid ((hHeld.block _ (Array.getElem?_eq_some_iff.1 HB3.out).1).trans HB3.out)
      have HQ6 := Lib.hid ((hHeld.block _ (Array.getElem?_eq_some_iff.1 HQ3.out).1).trans HQ3.out)
      have HG6 := Lib.hid (HG3.out.trans (hHeld.mono HG3.out.size))
      clear HB3 HQ3 HG3 hHeld
      generalize wd5 = w9 at *
      obtain ⟨y0, y1, y2, y3, y4⟩ := row5 HB6.out
      have c25' := c25 w9 HQ6.out
      go_upto_region 10 with (first
        | (go_at_call 25; (with_reducible refine c25'.mono ?_); rintro e w' ⟨rfl, hw9⟩; rw [← hw9]; clear hw9 w' c25'))
      clear y0 y1 y2 y3 y4
      have HB9 := Lib.hid (((Below.refl w9.heap.size w9).drew.block _ (Array.getElem?_eq_some_iff.1 HB6.out).1).trans HB6.out)
      have HQ9 := Lib.hid (((Below.refl w9.heap.size w9).drew.block _ (Array.getElem?_eq_some_iff.1 HQ6.out).1).trans HQ6.out)
      have HG9 := Lib.hid (HG6.out.trans ((Below.refl w9.heap.size w9).drew.mono HG6.out.size))
      clear HB6 HQ6 HG6
      refine wp_region_noPanic ?_
      refine wp_region_held_drew (S := fun W : World => W.heap[w.heap.size]? = some (.cells #[.int .u32 (ra : Int), .int .u8 (rn : Int), .int .i64 via, .int .u16 mt, .int .u16 sq] 39) ∧ W.heap[q]? = some (.cells (cellsN a n x vl vr) 64 (0, 0))) (by kernel_rfl) ⟨HB9.out, HQ9.out⟩ (fun hHeld => ?_)
      generalize w9.drew = wd9 at *
      refine wpAnyH_take (i := 0) (oi := { dst := some 57, op := Op.move (Operand.tmp 0), type := 26, pos := "place.go:31", after := #[], guard := none }) (v := .pointer (some ⟨q, 0, none⟩)) rfl (by kernel_rfl) (by kernel_rfl) (by kernel_rfl) (fun _ _ _ h => h) (Or.inl ⟨by rfl, fun w hSw => by go_simp⟩) (by assumption) ?_
      try simp only [Act.put, List.setIfInBounds_toArray, List.set_cons_zero, List.set_cons_succ]
      refine wpAnyH_take (i := 1) (oi := { dst := some 58, op := Op.move (Operand.tmp 7), type := 3, pos := "place.go:31", after := #[], guard := none }) (v := .int .i64 0) rfl (by kernel_rfl) (by kernel_rfl) (by kernel_rfl) (fun _ _ _ h => h) (Or.inl ⟨by rfl, fun w hSw => by go_simp⟩) (by assumption) ?_
      try simp only [Act.put, List.setIfInBounds_toArray, List.set_cons_zero, List.set_cons_succ]
      refine wpAnyH_take (i := 2) (oi := { dst := some 59, op := Op.nilCheck (Operand.tmp 57), type := 0, pos := "place.go:31", after := #[{ on := 0, ground := Ground.data }], guard := none }) (v := .pointer (some ⟨q, 0, none⟩)) rfl (by kernel_rfl) (by kernel_rfl) (by kernel_rfl) (fun _ _ _ h => h) (Or.inl ⟨by rfl, fun w hSw => by go_simp⟩) (by assumption) ?_
      try simp only [Act.put, List.setIfInBounds_toArray, List.set_cons_zero, List.set_cons_succ]
      refine wpAnyH_take (i := 3) (oi := { dst := some 60, op := Op.fieldAddr 64 (Operand.tmp 59) 3, type := 0, pos := "place.go:31", after := #[{ on := 2, ground := Ground.data }], guard := none }) (v := .pointer (some ⟨q, 8, none⟩)) rfl (by kernel_rfl) (by kernel_rfl) (by kernel_rfl) (fun _ _ _ h => h) (Or.inl ⟨by rfl, fun w hSw => by go_simp⟩) (by assumption) ?_
      try simp only [Act.put, List.setIfInBounds_toArray, List.set_cons_zero, List.set_cons_succ]
      refine wpAnyH_take (i := 4) (oi := { dst := some 61, op := Op.indexAddr 62 (Operand.tmp 60) (Operand.tmp 58), type := 0, pos := "place.go:31", after := #[{ on := 3, ground := Ground.data }, { on := 1, ground := Ground.data }], guard := none }) (v := .pointer (some ⟨q, 8, none⟩)) rfl (by kernel_rfl) (by kernel_rfl) (by kernel_rfl) (fun _ _ _ h => h) (Or.inl ⟨by rfl, fun w hSw => by go_simp⟩) (by assumption) ?_
      try simp only [Act.put, List.setIfInBounds_toArray, List.set_cons_zero, List.set_cons_succ]
      refine wpAnyH_take (i := 5) (oi := { dst := some 62, op := Op.load 26 (Operand.tmp 61), type := 26, pos := "place.go:31", after := #[{ on := 4, ground := Ground.data }], guard := none }) (v := vl) rfl (by kernel_rfl) (by kernel_rfl) (by kernel_rfl) (fun _ _ _ h => h) (Or.inl ⟨by rfl, fun w hSw => by obtain ⟨k0, k1, k2, k8, k9⟩ := placeN hSw.2; go_simp⟩) (by assumption) ?_
      try simp only [Act.put, List.setIfInBounds_toArray, List.set_cons_zero, List.set_cons_succ]
      refine wpAnyH_take (i := 6) (oi := { dst := some 63, op := Op.load 39 (Operand.tmp 3), type := 39, pos := "place.go:31", after := #[], guard := none }) (v := .agg #[.int .u32 (ra : Int), .int .u8 (rn : Int), .int .i64 via, .int .u16 mt, .int .u16 sq]) rfl (by kernel_rfl) (by kernel_rfl) (by kernel_rfl) (fun _ _ _ h => h) (Or.inl ⟨by rfl, fun w hSw => by obtain ⟨y0, y1, y2, y3, y4⟩ := row5 hSw.1; go_simp⟩) (by assumption) ?_
      try simp only [Act.put, List.setIfInBounds_toArray, List.set_cons_zero, List.set_cons_succ]
      refine wpAnyH_ready (rs := [7]) (by kernel_rfl) (by simp) ?_
      refine AllReadyH.cons (o := { dst := some 64, op := Op.call { callee := Callee.value (Operand.func 23), args := #[Operand.tmp 62, Operand.tmp 63], argTypes := #[26, 39] }, type := 59, pos := "place.go:31", after := #[{ on := 5, ground := Ground.data }, { on := 6, ground := Ground.data }], guard := none }) rfl (fun K hK => ?_) AllReadyH.nil
      go_simp
      with_reducible refine (hIH wd9 vl bl (HT.out.1.below HG9.out) hnb).mono ?_
      rintro e w10 ⟨v', bs', rfl, A10, nd10, fr10, G10⟩
      obtain ⟨p', rfl⟩ := A10.ptr
      have Q10 := (G10.block q (Nat.lt_of_lt_of_le hqs HG9.out.size) hqn).trans HQ9.out
      have X10 := (G10.block _ (Array.getElem?_eq_some_iff.1 HB9.out).1 hxn).trans HB9.out
      refine hK.out _ _ (⟨X10, Q10⟩) (fun hHeld => ?_)
      clear hK K
      try simp only [Act.put, List.setIfInBounds_toArray, List.set_cons_zero, List.set_cons_succ]
      refine wpAnyH_take (i := 8) (oi := { dst := some 56, op := Op.move (Operand.tmp 64), type := 59, pos := "place.go:31", after := #[{ on := 7, ground := Ground.data }], guard := none }) (v := .tuple #[.pointer p', .bool (T.put l ⟨ra, rn, via, mt, sq⟩).2]) rfl (by kernel_rfl) (by kernel_rfl) (by kernel_rfl) (fun _ _ _ h => h) (Or.inl ⟨by rfl, fun w hSw => by go_simp⟩) (by assumption) ?_
      try simp only [Act.put, List.setIfInBounds_toArray, List.set_cons_zero, List.set_cons_succ]
      refine wpAnyH_take (i := 9) (oi := { dst := some 65, op := Op.extract (Operand.tmp 56) 0, type := 26, pos := "place.go:31", after := #[{ on := 8, ground := Ground.data }], guard := none }) (v := .pointer p') rfl (by kernel_rfl) (by kernel_rfl) (by kernel_rfl) (fun _ _ _ h => h) (Or.inl ⟨by rfl, fun w hSw => by go_simp⟩) (by assumption) ?_
      try simp only [Act.put, List.setIfInBounds_toArray, List.set_cons_zero, List.set_cons_succ]
      refine wpAnyH_take (i := 10) (oi := { dst := some 66, op := Op.extract (Operand.tmp 56) 1, type := 4, pos := "place.go:31", after := #[{ on := 8, ground := Ground.data }, { on := 11, ground := Ground.gcOnly Departure.lateStores }], guard := none }) (v := .bool (T.put l ⟨ra, rn, via, mt, sq⟩).2) rfl (by kernel_rfl) (by kernel_rfl) (by kernel_rfl) (fun _ _ _ h => h) (Or.inl ⟨by rfl, fun w hSw => by go_simp⟩) (by assumption) ?_
      try simp only [Act.put, List.setIfInBounds_toArray, List.set_cons_zero, List.set_cons_succ]
      refine wpAnyH_take (i := 11) (oi := { dst := some 8, op := Op.assign (Operand.tmp 65), type := 26, pos := "place.go:31", after := #[{ on := 9, ground := Ground.data }, { on := 7, ground := Ground.chain }, { on := 0, ground := Ground.phase }, { on := 1, ground := Ground.phase }, { on := 2, ground := Ground.phase }, { on := 3, ground := Ground.phase }, { on := 4, ground := Ground.phase }, { on := 5, ground := Ground.phase }, { on := 6, ground := Ground.phase }, { on := 7, ground := Ground.phase }, { on := 8, ground := Ground.phase }, { on := 9, ground := Ground.phase }, { on := 10, ground := Ground.textOnly Departure.lateStores }], guard := none }) (v := .pointer p') rfl (by kernel_rfl) (by kernel_rfl) (by kernel_rfl) (fun _ _ _ h => h) (Or.inl ⟨by rfl, fun w hSw => by go_simp⟩) (by assumption) ?_
      try simp only [Act.put, List.setIfInBounds_toArray, List.set_cons_zero, List.set_cons_succ]
      refine wpAnyH_take (i := 12) (oi := { dst := some 9, op := Op.assign (Operand.tmp 66), type := 4, pos := "place.go:31", after := #[{ on := 10, ground := Ground.data }, { on := 11, ground := Ground.chain }, { on := 0, ground := Ground.phase }, { on := 1, ground := Ground.phase }, { on := 2, ground := Ground.phase }, { on := 3, ground := Ground.phase }, { on := 4, ground := Ground.phase }, { on := 5, ground := Ground.phase }, { on := 6, ground := Ground.phase }, { on := 7, ground := Ground.phase }, { on := 8, ground := Ground.phase }, { on := 9, ground := Ground.phase }, { on := 10, ground := Ground.phase }, { on := 11, ground := Ground.phase }], guard := none }) (v := .bool (T.put l ⟨ra, rn, via, mt, sq⟩).2) rfl (by kernel_rfl) (by kernel_rfl) (by kernel_rfl) (fun _ _ _ h => h) (Or.inl ⟨by rfl, fun w hSw => by go_simp⟩) (by assumption) ?_
      try simp only [Act.put, List.setIfInBounds_toArray, List.set_cons_zero, List.set_cons_succ]
      refine wpAnyH_done (by kernel_rfl) ?_ _
      try unfold NoPanic
      obtain ⟨k0, k1, k2, k8, k9⟩ := placeN hHeld.2
      have fz := fun i => frozenN hHeld.2 i
      have HJ := Lib.hid (join_l HG9.out hnd HT.out.1 HT.out.2 hqs HQ9.out G10 A10 nd10 fr10)
      clear hHeld
      go_wp2
      go_ret2
      exact ⟨_, _, rfl, HJ.out⟩
    · replace hIH := hIH.1 hs
      unfold PutSaid R.cl at hIH
      dsimp only at hIH
      rw [hs] at c25
      simp only [if_true] at c25 ⊢
      have hqn := hnl.2.1
      have hnb := hnl.2.2.2
      have hxn := hxr
      clear hnl hxl hxr
      go_enter Try.func23, Try.ntmps23
      go_upto_region 3 with (fail)
      generalize w.alloc _ = wv at *
      refine wp_region_noPanic ?_
      refine wp_region_held_drew (S := fun W : World => Below wv.heap.size wv W) (by kernel_rfl) ((Below.refl _ _).drew) (fun hHeld => ?_)
      generalize wv.drew = wd at *
      refine wpAnyH_take (i := 0) (oi := { dst := some 14, op := Op.fieldAddr 39 (Operand.tmp 3) 0, type := 0, pos := "place.go:22", after := #[], guard := none }) (v := .pointer (some ⟨w.heap.size, 0, none⟩)) rfl (by kernel_rfl) (by kernel_rfl) (by kernel_rfl) (fun _ _ _ h => h) (Or.inl ⟨by rfl, fun w hSw => by go_simp⟩) (by assumption) ?_
      try simp only [Act.put, List.setIfInBounds_toArray, List.set_cons_zero, List.set_cons_succ]
      refine wpAnyH_take (i := 1) (oi := { dst := some 15, op := Op.load 32 (Operand.tmp 14), type := 32, pos := "place.go:22", after := #[{ on := 0, ground := Ground.data }], guard := none }) (v := .agg #[.int .u32 (ra : Int), .int .u8 (rn : Int)]) rfl (by kernel_rfl) (by kernel_rfl) (by kernel_rfl) (fun _ _ _ h => h) (Or.inl ⟨by rfl, fun w hSw => by obtain ⟨y0, y1, y2, y3, y4⟩ := row5 ((hSw.block _ (Array.getElem?_eq_some_iff.1 HB.out).1).trans HB.out); go_simp⟩) (by assumption) ?_
      try simp only [Act.put, List.setIfInBounds_toArray, List.set_cons_zero, List.set_cons_succ]
      refine wpAnyH_take (i := 2) (oi := { dst := some 16, op := Op.move (Operand.tmp 0), type := 26, pos := "place.go:22", after := #[], guard := none }) (v := .pointer (some ⟨q, 0, none⟩)) rfl (by kernel_rfl) (by kernel_rfl) (by kernel_rfl) (fun _ _ _ h => h) (Or.inl ⟨by rfl, fun w hSw => by go_simp⟩) (by assumption) ?_
      try simp only [Act.put, List.setIfInBounds_toArray, List.set_cons_zero, List.set_cons_succ]
      refine wpAnyH_take (i := 3) (oi := { dst := some 17, op := Op.nilCheck (Operand.tmp 16), type := 0, pos := "place.go:22", after := #[{ on := 2, ground := Ground.data }], guard := none }) (v := .pointer (some ⟨q, 0, none⟩)) rfl (by kernel_rfl) (by kernel_rfl) (by kernel_rfl) (fun _ _ _ h => h) (Or.inl ⟨by rfl, fun w hSw => by go_simp⟩) (by assumption) ?_
      try simp only [Act.put, List.setIfInBounds_toArray, List.set_cons_zero, List.set_cons_succ]
      refine wpAnyH_take (i := 4) (oi := { dst := some 18, op := Op.fieldAddr 64 (Operand.tmp 17) 0, type := 0, pos := "place.go:22", after := #[{ on := 3, ground := Ground.data }], guard := none }) (v := .pointer (some ⟨q, 0, none⟩)) rfl (by kernel_rfl) (by kernel_rfl) (by kernel_rfl) (fun _ _ _ h => h) (Or.inl ⟨by rfl, fun w hSw => by go_simp⟩) (by assumption) ?_
      try simp only [Act.put, List.setIfInBounds_toArray, List.set_cons_zero, List.set_cons_succ]
      refine wpAnyH_take (i := 5) (oi := { dst := some 19, op := Op.load 32 (Operand.tmp 18), type := 32, pos := "place.go:22", after := #[{ on := 4, ground := Ground.data }], guard := none }) (v := .agg #[.int .u32 (a : Int), .int .u8 (n : Int)]) rfl (by kernel_rfl) (by kernel_rfl) (by kernel_rfl) (fun _ _ _ h => h) (Or.inl ⟨by rfl, fun w hSw => by obtain ⟨k0, k1, k2, k8, k9⟩ := placeN ((hSw.block _ (Array.getElem?_eq_some_iff.1 HQ.out).1).trans HQ.out); go_simp⟩) (by assumption) ?_
      try simp only [Act.put, List.setIfInBounds_toArray, List.set_cons_zero, List.set_cons_succ]
      refine wpAnyH_ready (rs := [6]) (by kernel_rfl) (by simp) ?_
      refine AllReadyH.cons (o := { dst := some 20, op := Op.call { callee := Callee.value (Operand.func 31), args := #[Operand.tmp 15, Operand.tmp 19], argTypes := #[32, 32] }, type := 4, pos := "place.go:22", after := #[{ on := 1, ground := Ground.data }, { on := 5, ground := Ground.data }], guard := none }) rfl (fun K hK => ?_) AllReadyH.nil
      go_simp
      with_reducible refine (c31 _).mono ?_
      rintro e w3 ⟨rfl, B3⟩
      have D3 := hHeld.trans (B3.mono hHeld.size)
      refine hK.out _ _ (D3) (fun hHeld => ?_)
      clear hK K
      try simp only [Act.put, List.setIfInBounds_toArray, List.set_cons_zero, List.set_cons_succ]
      refine wpAnyH_take (i := 7) (oi := { dst := some 21, op := Op.unOp UnOp.not 4 (Operand.tmp 20), type := 4, pos := "place.go:22", after := #[{ on := 6, ground := Ground.data }], guard := none }) (v := .bool false) rfl (by kernel_rfl) (by kernel_rfl) (by kernel_rfl) (fun _ _ _ h => h) (Or.inl ⟨by rfl, fun w hSw => by go_simp⟩) (by assumption) ?_
      try simp only [Act.put, List.setIfInBounds_toArray, List.set_cons_zero, List.set_cons_succ]
      refine wpAnyH_done (by kernel_rfl) ?_ _
      try unfold NoPanic
      go_upto_region 5 with (fail)
      have HB3 := Lib.hid ((hHeld.block _ (Array.getElem?_eq_some_iff.1 HB.out).1).trans HB.out)
      have HQ3 := Lib.hid ((hHeld.block _ (Array.getElem?_eq_some_iff.1 HQ.out).1).trans HQ.out)
      have HG3 := Lib.hid (HG.out.trans (hHeld.mono HG.out.size))
      clear HB HQ HG hHeld D3
      refine wp_region_noPanic ?_
      refine wp_region_held_drew (S := fun W : World => Below w3.heap.size w3 W) (by kernel_rfl) ((Below.refl _ _).drew) (fun hHeld => ?_)
      generalize w3.drew = wd5 at *
      refine wpAnyH_take (i := 0) (oi := { dst := some 30, op := Op.fieldAddr 39 (Operand.tmp 3) 0, type := 0, pos := "place.go:25", after := #[], guard := none }) (v := .pointer (some ⟨w.heap.size, 0, none⟩)) rfl (by kernel_rfl) (by kernel_rfl) (by kernel_rfl) (fun _ _ _ h => h) (Or.inl ⟨by rfl, fun w hSw => by go_simp⟩) (by assumption) ?_
      try simp only [Act.put, List.setIfInBounds_toArray, List.set_cons_zero, List.set_cons_succ]
      refine wpAnyH_take (i := 1) (oi := { dst := some 31, op := Op.load 32 (Operand.tmp 30), type := 32, pos := "place.go:25", after := #[{ on := 0, ground := Ground.data }], guard := none }) (v := .agg #[.int .u32 (ra : Int), .int .u8 (rn : Int)]) rfl (by kernel_rfl) (by kernel_rfl) (by kernel_rfl) (fun _ _ _ h => h) (Or.inl ⟨by rfl, fun w hSw => by obtain ⟨y0, y1, y2, y3, y4⟩ := row5 ((hSw.block _ (Array.getElem?_eq_some_iff.1 HB3.out).1).trans HB3.out); go_simp⟩) (by assumption) ?_
      try simp only [Act.put, List.setIfInBounds_toArray, List.set_cons_zero, List.set_cons_succ]
      refine wpAnyH_take (i := 2) (oi := { dst := some 32, op := Op.move (Operand.tmp 0), type := 26, pos := "place.go:25", after := #[], guard := none }) (v := .pointer (some ⟨q, 0, none⟩)) rfl (by kernel_rfl) (by kernel_rfl) (by kernel_rfl) (fun _ _ _ h => h) (Or.inl ⟨by rfl, fun w hSw => by go_simp⟩) (by assumption) ?_
      try simp only [Act.put, List.setIfInBounds_toArray, List.set_cons_zero, List.set_cons_succ]
      refine wpAnyH_take (i := 3) (oi := { dst := some 33, op := Op.nilCheck (Operand.tmp 32), type := 0, pos := "place.go:25", after := #[{ on := 2, ground := Ground.data }], guard := none }) (v := .pointer (some ⟨q, 0, none⟩)) rfl (by kernel_rfl) (by kernel_rfl) (by kernel_rfl) (fun _ _ _ h => h) (Or.inl ⟨by rfl, fun w hSw => by go_simp⟩) (by assumption) ?_
      try simp only [Act.put, List.setIfInBounds_toArray, List.set_cons_zero, List.set_cons_succ]
      refine wpAnyH_take (i := 4) (oi := { dst := some 34, op := Op.fieldAddr 64 (Operand.tmp 33) 0, type := 0, pos := "place.go:25", after := #[{ on := 3, ground := Ground.data }], guard := none }) (v := .pointer (some ⟨q, 0, none⟩)) rfl (by kernel_rfl) (by kernel_rfl) (by kernel_rfl) (fun _ _ _ h => h) (Or.inl ⟨by rfl, fun w hSw => by go_simp⟩) (by assumption) ?_
      try simp only [Act.put, List.setIfInBounds_toArray, List.set_cons_zero, List.set_cons_succ]
      refine wpAnyH_take (i := 5) (oi := { dst := some 35, op := Op.load 32 (Operand.tmp 34), type := 32, pos := "place.go:25", after := #[{ on := 4, ground := Ground.data }], guard := none }) (v := .agg #[.int .u32 (a : Int), .int .u8 (n : Int)]) rfl (by kernel_rfl) (by kernel_rfl) (by kernel_rfl) (fun _ _ _ h => h) (Or.inl ⟨by rfl, fun w hSw => by obtain ⟨k0, k1, k2, k8, k9⟩ := placeN ((hSw.block _ (Array.getElem?_eq_some_iff.1 HQ3.out).1).trans HQ3.out); go_simp⟩) (by assumption) ?_
      try simp only [Act.put, List.setIfInBounds_toArray, List.set_cons_zero, List.set_cons_succ]
      refine wpAnyH_take (i := 6) (oi := { dst := some 36, op := Op.binOp BinOp.eql 32 (Operand.tmp 31) (Operand.tmp 35) 32, type := 4, pos := "place.go:25", after := #[{ on := 1, ground := Ground.data }, { on := 5, ground := Ground.data }], guard := none }) (v := .bool false) rfl (by kernel_rfl) (by kernel_rfl) (by kernel_rfl) (fun _ _ _ h => h) (Or.inl ⟨by rfl, fun w hSw => by have hnn := HNE.out; go_simp; intro g1 g2; exact hnn ⟨by omega, by omega⟩⟩) (by assumption) ?_
      try simp only [Act.put, List.setIfInBounds_toArray, List.set_cons_zero, List.set_cons_succ]
      refine wpAnyH_done (by kernel_rfl) ?_ _
      try unfold NoPanic
      have HB6 := Lib.hid ((hHeld.block _ (Array.getElem?_eq_some_iff.1 HB3.out).1).trans HB3.out)
      have HQ6 := Lib.hid ((hHeld.block _ (Array.getElem?_eq_some_iff.1 HQ3.out).1).trans HQ3.out)
      have HG6 := Lib.hid (HG3.out.trans (hHeld.mono HG3.out.size))
      clear HB3 HQ3 HG3 hHeld
      generalize wd5 = w9 at *
      obtain ⟨y0, y1, y2, y3, y4⟩ := row5 HB6.out
      have c25' := c25 w9 HQ6.out
      go_upto_region 10 with (first
        | (go_at_call 25; (with_reducible refine c25'.mono ?_); rintro e w' ⟨rfl, hw9⟩; rw [← hw9]; clear hw9 w' c25'))
      clear y0 y1 y2 y3 y4
      have HB9 := Lib.hid (((Below.refl w9.heap.size w9).drew.block _ (Array.getElem?_eq_some_iff.1 HB6.out).1).trans HB6.out)
      have HQ9 := Lib.hid (((Below.refl w9.heap.size w9).drew.block _ (Array.getElem?_eq_some_iff.1 HQ6.out).1).trans HQ6.out)
      have HG9 := Lib.hid (HG6.out.trans ((Below.refl w9.heap.size w9).drew.mono HG6.out.size))
      clear HB6 HQ6 HG6
      refine wp_region_noPanic ?_
      refine wp_region_held_drew (S := fun W : World => W.heap[w.heap.size]? = some (.cells #[.int .u32 (ra : Int), .int .u8 (rn : Int), .int .i64 via, .int .u16 mt, .int .u16 sq] 39) ∧ W.heap[q]? = some (.cells (cellsN a n x vl vr) 64 (0, 0))) (by kernel_rfl) ⟨HB9.out, HQ9.out⟩ (fun hHeld => ?_)
      generalize w9.drew = wd9 at *
      refine wpAnyH_take (i := 0) (oi := { dst := some 57, op := Op.move (Operand.tmp 0), type := 26, pos := "place.go:31", after := #[], guard := none }) (v := .pointer (some ⟨q, 0, none⟩)) rfl (by kernel_rfl) (by kernel_rfl) (by kernel_rfl) (fun _ _ _ h => h) (Or.inl ⟨by rfl, fun w hSw => by go_simp⟩) (by assumption) ?_
      try simp only [Act.put, List.setIfInBounds_toArray, List.set_cons_zero, List.set_cons_succ]
      refine wpAnyH_take (i := 1) (oi := { dst := some 58, op := Op.move (Operand.tmp 7), type := 3, pos := "place.go:31", after := #[], guard := none }) (v := .int .i64 1) rfl (by kernel_rfl) (by kernel_rfl) (by kernel_rfl) (fun _ _ _ h => h) (Or.inl ⟨by rfl, fun w hSw => by go_simp⟩) (by assumption) ?_
      try simp only [Act.put, List.setIfInBounds_toArray, List.set_cons_zero, List.set_cons_succ]
      refine wpAnyH_take (i := 2) (oi := { dst := some 59, op := Op.nilCheck (Operand.tmp 57), type := 0, pos := "place.go:31", after := #[{ on := 0, ground := Ground.data }], guard := none }) (v := .pointer (some ⟨q, 0, none⟩)) rfl (by kernel_rfl) (by kernel_rfl) (by kernel_rfl) (fun _ _ _ h => h) (Or.inl ⟨by rfl, fun w hSw => by go_simp⟩) (by assumption) ?_
      try simp only [Act.put, List.setIfInBounds_toArray, List.set_cons_zero, List.set_cons_succ]
      refine wpAnyH_take (i := 3) (oi := { dst := some 60, op := Op.fieldAddr 64 (Operand.tmp 59) 3, type := 0, pos := "place.go:31", after := #[{ on := 2, ground := Ground.data }], guard := none }) (v := .pointer (some ⟨q, 8, none⟩)) rfl (by kernel_rfl) (by kernel_rfl) (by kernel_rfl) (fun _ _ _ h => h) (Or.inl ⟨by rfl, fun w hSw => by go_simp⟩) (by assumption) ?_
      try simp only [Act.put, List.setIfInBounds_toArray, List.set_cons_zero, List.set_cons_succ]
      refine wpAnyH_take (i := 4) (oi := { dst := some 61, op := Op.indexAddr 62 (Operand.tmp 60) (Operand.tmp 58), type := 0, pos := "place.go:31", after := #[{ on := 3, ground := Ground.data }, { on := 1, ground := Ground.data }], guard := none }) (v := .pointer (some ⟨q, 9, none⟩)) rfl (by kernel_rfl) (by kernel_rfl) (by kernel_rfl) (fun _ _ _ h => h) (Or.inl ⟨by rfl, fun w hSw => by go_simp⟩) (by assumption) ?_
      try simp only [Act.put, List.setIfInBounds_toArray, List.set_cons_zero, List.set_cons_succ]
      refine wpAnyH_take (i := 5) (oi := { dst := some 62, op := Op.load 26 (Operand.tmp 61), type := 26, pos := "place.go:31", after := #[{ on := 4, ground := Ground.data }], guard := none }) (v := vr) rfl (by kernel_rfl) (by kernel_rfl) (by kernel_rfl) (fun _ _ _ h => h) (Or.inl ⟨by rfl, fun w hSw => by obtain ⟨k0, k1, k2, k8, k9⟩ := placeN hSw.2; go_simp⟩) (by assumption) ?_
      try simp only [Act.put, List.setIfInBounds_toArray, List.set_cons_zero, List.set_cons_succ]
      refine wpAnyH_take (i := 6) (oi := { dst := some 63, op := Op.load 39 (Operand.tmp 3), type := 39, pos := "place.go:31", after := #[], guard := none }) (v := .agg #[.int .u32 (ra : Int), .int .u8 (rn : Int), .int .i64 via, .int .u16 mt, .int .u16 sq]) rfl (by kernel_rfl) (by kernel_rfl) (by kernel_rfl) (fun _ _ _ h => h) (Or.inl ⟨by rfl, fun w hSw => by obtain ⟨y0, y1, y2, y3, y4⟩ := row5 hSw.1; go_simp⟩) (by assumption) ?_
      try simp only [Act.put, List.setIfInBounds_toArray, List.set_cons_zero, List.set_cons_succ]
      refine wpAnyH_ready (rs := [7]) (by kernel_rfl) (by simp) ?_
      refine AllReadyH.cons (o := { dst := some 64, op := Op.call { callee := Callee.value (Operand.func 23), args := #[Operand.tmp 62, Operand.tmp 63], argTypes := #[26, 39] }, type := 59, pos := "place.go:31", after := #[{ on := 5, ground := Ground.data }, { on := 6, ground := Ground.data }], guard := none }) rfl (fun K hK => ?_) AllReadyH.nil
      go_simp
      with_reducible refine (hIH wd9 vr br (HT.out.2.below HG9.out) hnb).mono ?_
      rintro e w10 ⟨v', bs', rfl, A10, nd10, fr10, G10⟩
      obtain ⟨p', rfl⟩ := A10.ptr
      have Q10 := (G10.block q (Nat.lt_of_lt_of_le hqs HG9.out.size) hqn).trans HQ9.out
      have X10 := (G10.block _ (Array.getElem?_eq_some_iff.1 HB9.out).1 hxn).trans HB9.out
      refine hK.out _ _ (⟨X10, Q10⟩) (fun hHeld => ?_)
      clear hK K
      try simp only [Act.put, List.setIfInBounds_toArray, List.set_cons_zero, List.set_cons_succ]
      refine wpAnyH_take (i := 8) (oi := { dst := some 56, op := Op.move (Operand.tmp 64), type := 59, pos := "place.go:31", after := #[{ on := 7, ground := Ground.data }], guard := none }) (v := .tuple #[.pointer p', .bool (T.put rr ⟨ra, rn, via, mt, sq⟩).2]) rfl (by kernel_rfl) (by kernel_rfl) (by kernel_rfl) (fun _ _ _ h => h) (Or.inl ⟨by rfl, fun w hSw => by go_simp⟩) (by assumption) ?_
      try simp only [Act.put, List.setIfInBounds_toArray, List.set_cons_zero, List.set_cons_succ]
      refine wpAnyH_take (i := 9) (oi := { dst := some 65, op := Op.extract (Operand.tmp 56) 0, type := 26, pos := "place.go:31", after := #[{ on := 8, ground := Ground.data }], guard := none }) (v := .pointer p') rfl (by kernel_rfl) (by kernel_rfl) (by kernel_rfl) (fun _ _ _ h => h) (Or.inl ⟨by rfl, fun w hSw => by go_simp⟩) (by assumption) ?_
      try simp only [Act.put, List.setIfInBounds_toArray, List.set_cons_zero, List.set_cons_succ]
      refine wpAnyH_take (i := 10) (oi := { dst := some 66, op := Op.extract (Operand.tmp 56) 1, type := 4, pos := "place.go:31", after := #[{ on := 8, ground := Ground.data }, { on := 11, ground := Ground.gcOnly Departure.lateStores }], guard := none }) (v := .bool (T.put rr ⟨ra, rn, via, mt, sq⟩).2) rfl (by kernel_rfl) (by kernel_rfl) (by kernel_rfl) (fun _ _ _ h => h) (Or.inl ⟨by rfl, fun w hSw => by go_simp⟩) (by assumption) ?_
      try simp only [Act.put, List.setIfInBounds_toArray, List.set_cons_zero, List.set_cons_succ]
      refine wpAnyH_take (i := 11) (oi := { dst := some 8, op := Op.assign (Operand.tmp 65), type := 26, pos := "place.go:31", after := #[{ on := 9, ground := Ground.data }, { on := 7, ground := Ground.chain }, { on := 0, ground := Ground.phase }, { on := 1, ground := Ground.phase }, { on := 2, ground := Ground.phase }, { on := 3, ground := Ground.phase }, { on := 4, ground := Ground.phase }, { on := 5, ground := Ground.phase }, { on := 6, ground := Ground.phase }, { on := 7, ground := Ground.phase }, { on := 8, ground := Ground.phase }, { on := 9, ground := Ground.phase }, { on := 10, ground := Ground.textOnly Departure.lateStores }], guard := none }) (v := .pointer p') rfl (by kernel_rfl) (by kernel_rfl) (by kernel_rfl) (fun _ _ _ h => h) (Or.inl ⟨by rfl, fun w hSw => by go_simp⟩) (by assumption) ?_
      try simp only [Act.put, List.setIfInBounds_toArray, List.set_cons_zero, List.set_cons_succ]
      refine wpAnyH_take (i := 12) (oi := { dst := some 9, op := Op.assign (Operand.tmp 66), type := 4, pos := "place.go:31", after := #[{ on := 10, ground := Ground.data }, { on := 11, ground := Ground.chain }, { on := 0, ground := Ground.phase }, { on := 1, ground := Ground.phase }, { on := 2, ground := Ground.phase }, { on := 3, ground := Ground.phase }, { on := 4, ground := Ground.phase }, { on := 5, ground := Ground.phase }, { on := 6, ground := Ground.phase }, { on := 7, ground := Ground.phase }, { on := 8, ground := Ground.phase }, { on := 9, ground := Ground.phase }, { on := 10, ground := Ground.phase }, { on := 11, ground := Ground.phase }], guard := none }) (v := .bool (T.put rr ⟨ra, rn, via, mt, sq⟩).2) rfl (by kernel_rfl) (by kernel_rfl) (by kernel_rfl) (fun _ _ _ h => h) (Or.inl ⟨by rfl, fun w hSw => by go_simp⟩) (by assumption) ?_
      try simp only [Act.put, List.setIfInBounds_toArray, List.set_cons_zero, List.set_cons_succ]
      refine wpAnyH_done (by kernel_rfl) ?_ _
      try unfold NoPanic
      obtain ⟨k0, k1, k2, k8, k9⟩ := placeN hHeld.2
      have fz := fun i => frozenN hHeld.2 i
      have HJ := Lib.hid (join_r HG9.out hnd HT.out.1 HT.out.2 hqs HQ9.out G10 A10 nd10 fr10)
      clear hHeld
      go_wp2
      go_ret2
      exact ⟨_, _, rfl, HJ.out⟩
end Go.Proofs.Ytfhpcpanjonpeaa.Tri

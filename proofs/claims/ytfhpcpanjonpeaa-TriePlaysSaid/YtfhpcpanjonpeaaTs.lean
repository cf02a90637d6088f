/- The trie's own: Put, Drop, Len. -/
import Derived.Test.YtfhpcpanjonpeaaTq
import Derived.Test.YtfhpcpanjonpeaaTr
import Derived.Deep.DeepCutAuto
import Derived.Deep.RegionHeld3
namespace Go.Proofs.Ytfhpcpanjonpeaa.Tri
open Pre
open Go.ChangeShapes Go.WideShapes Go.ChangeAt Go.RowKit

/-- A trie: its top, how many there are, and its places. -/
structure TrAt (w : World) (g : Nat) (t : T) (c : Nat) (bs : List Nat) : Prop where
  row : ∃ v, w.heap[g]? = some (.cells #[v, .int .i64 (c : Int)] 28 (0, 0)) ∧ At w t v bs
  nd : (g :: bs).Nodup
theorem TrAt.lt {w : World} {g c : Nat} {t : T} {bs : List Nat} (h : TrAt w g t c bs) : g < w.heap.size := by
  obtain ⟨v, hv, _⟩ := h.row
  exact (Array.getElem?_eq_some_iff.1 hv).1
theorem TrAt.ins {w : World} {g c : Nat} {t : T} {bs : List Nat} (h : TrAt w g t c bs) : ∀ b ∈ g :: bs, b < w.heap.size := by
  intro b hb
  rcases List.mem_cons.1 hb with rfl | hb
  · exact h.lt
  · obtain ⟨v, _, hA⟩ := h.row
    exact hA.lt b hb
theorem TrAt.keep {w w' : World} {g c : Nat} {t : T} {bs : List Nat} (h : TrAt w g t c bs) (k : ∀ b ∈ g :: bs, w'.heap[b]? = w.heap[b]?) : TrAt w' g t c bs := by
  obtain ⟨v, hv, hA⟩ := h.row
  exact ⟨⟨v, (k g (by simp)).trans hv, hA.keep fun b hb => k b (by simp [hb])⟩, h.nd⟩
theorem TrAt.below {w w' : World} {g c : Nat} {t : T} {bs : List Nat} (h : TrAt w g t c bs) (B : Below w.heap.size w w') : TrAt w' g t c bs := h.keep fun b hb => B.block b (h.ins b hb)
theorem tr_join {w w9 w10 wz : World} {g c : Nat} {t' : T} {v' : Value} {bs bs' : List Nat} (HG : Below w.heap.size w w9) (hnd : (g :: bs).Nodup) (hg : g < w.heap.size) (G : Grew w9 w10 bs) (A : At w10 t' v' bs') (nd : bs'.Nodup) (fr : ∀ b ∈ bs', b ∈ bs ∨ w9.heap.size ≤ b)
    (GZ : Grew w10 wz [g]) (rz : wz.heap[g]? = some (.cells #[v', .int .i64 (c : Int)] 28 (0, 0))) : TrAt wz g t' c bs' ∧ (∀ b ∈ bs', b ∈ bs ∨ w.heap.size ≤ b) ∧ Grew w wz (g :: bs) := by
  have hsz := HG.size
  have hgb := (List.nodup_cons.1 hnd).1
  have fr' : ∀ b ∈ bs', b ∈ bs ∨ w.heap.size ≤ b := fun b hb => (fr b hb).imp id fun h => by omega
  have hg' : g ∉ bs' := fun h => by rcases fr' g h with e | e; exact hgb e; omega
  refine ⟨⟨⟨v', rz, A.keep fun b hb => GZ.block b (A.lt b hb) fun e => hg' ?_⟩, List.nodup_cons.2 ⟨hg', nd⟩⟩, fr', ?_⟩
  · rw [List.mem_singleton.1 e] at hb; exact hb
  · exact ((below_grew HG (g :: bs)).trans G fun b hb => .inl (by simp [hb])).trans GZ fun b hb => .inl (by rw [List.mem_singleton.1 hb]; simp)
theorem rowset0 {w : World} {g : Nat} {v : Value} {c : Int} (h : w.heap[g]? = some (.cells #[v, .int .i64 c] 28 (0, 0))) (v' : Value) : (w.setCell ⟨g, 0, none⟩ v').heap[g]? = some (.cells #[v', .int .i64 c] 28 (0, 0)) := by
  rw [heap_setCell_same w g 0 _ 28 v' h]; rfl
theorem rowset1 {w : World} {g : Nat} {v : Value} {c : Int} (h : w.heap[g]? = some (.cells #[v, .int .i64 c] 28 (0, 0))) (c' : Int) : (w.setCell ⟨g, 1, none⟩ (.int .i64 c')).heap[g]? = some (.cells #[v, .int .i64 c'] 28 (0, 0)) := by
  rw [heap_setCell_same w g 1 _ 28 _ h]; rfl
theorem len_any {w : World} {g c : Nat} {t : T} {bs : List Nat} (h : TrAt w g t c bs) : Calls Try.prog 12 #[.pointer (some ⟨g, 0, none⟩)] w fun e w' => e = .returned (.int .i64 (c : Int)) ∧ w = w' := by
  obtain ⟨v, hv, _⟩ := h.row
  obtain ⟨p0, p1⟩ := row2 hv
  clear h hv
  go_enter Try.func12, Try.ntmps12
  go_wp2
  go_ret
  exact ⟨rfl, rfl⟩
set_option maxRecDepth 8000 in
set_option maxHeartbeats 8000000 in
theorem Put_any {w : World} {g c : Nat} {t : T} {bs : List Nat} (h : TrAt w g t c bs) (hw : t.WF) (r : R) (hr : r.Ok) (hc : c < 1000000) :
    Calls Try.prog 10 #[.pointer (some ⟨g, 0, none⟩), .agg r.cl] w fun e w' => e = .returned (.int .i64 0) ∧ ∃ bs', TrAt w' g (t.put r).1 (if (t.put r).2 then c + 1 else c) bs' ∧ (∀ b ∈ bs', b ∈ bs ∨ w.heap.size ≤ b) ∧ Grew w w' (g :: bs) := by
  have hgs := h.lt
  have HND := Lib.hid h.nd
  obtain ⟨v, hv, hA⟩ := h.row
  clear h
  obtain ⟨pv, rfl⟩ := hA.ptr
  have hP := put_any t r hw hr
  have hgb := (List.nodup_cons.1 HND.out).1
  have hxb : w.heap.size ∉ bs := fun e => Nat.lt_irrefl _ (hA.lt _ e)
  have c22 := fun W => right_any r.a r.n hr.1 (by have := hr.2.1; omega) W
  rw [hr.2.2] at c22
  obtain ⟨ra, rn, via, mt, sq⟩ := r
  unfold PutSaid R.cl at hP
  unfold R.cl
  dsimp only at *
  clear hw hr
  have hcw : IntKind.i64.wrap ((c : Int) + 1) = ((c + 1 : Nat) : Int) := by rw [IntKind.wrap_i64]; omega
  have R0 := heap_alloc_new w (.cells #[.int .u32 (ra : Int), .int .u8 (rn : Int), .int .i64 via, .int .u16 mt, .int .u16 sq] 39)
  have B0 : Below w.heap.size w (w.alloc (.cells #[.int .u32 (ra : Int), .int .u8 (rn : Int), .int .i64 via, .int .u16 mt, .int .u16 sq] 39)) := (Below.refl _ _).alloc (Nat.le_refl _) _
  have HB := Lib.hid R0
  have HQ := Lib.hid ((B0.block _ hgs).trans hv)
  have HG := Lib.hid B0
  have HT := Lib.hid hA
  have hwg : w.heap.size ≠ g := by omega
  obtain ⟨y0, y1, y2, y3, y4⟩ := row5 R0
  clear hv hA B0 R0
  cases hn : (T.put t ⟨ra, rn, via, mt, sq⟩).2
  · rw [hn] at hP
    simp only [Bool.false_eq_true, if_false]
    go_enter Try.func10, Try.ntmps10
    go_upto_region 5 with (first
      | (go_at_call 22; (with_reducible refine (c22 _).mono ?_); rintro e w3 ⟨rfl, B3⟩))
    replace B3 := B3.trans ((Below.refl w3.heap.size w3).drew.mono B3.size)
    have HB5 := Lib.hid ((B3.block _ (Array.getElem?_eq_some_iff.1 HB.out).1).trans HB.out)
    have HQ5 := Lib.hid ((B3.block _ (Array.getElem?_eq_some_iff.1 HQ.out).1).trans HQ.out)
    have HG5 := Lib.hid (HG.out.trans (B3.mono HG.out.size))
    clear HB HQ HG B3 y0 y1 y2 y3 y4
    refine wp_region_noPanic ?_
    refine wp_region_held_drew (S := fun W : World => W.heap[w.heap.size]? = some (.cells #[.int .u32 (ra : Int), .int .u8 (rn : Int), .int .i64 via, .int .u16 mt, .int .u16 sq] 39) ∧ W.heap[g]? = some (.cells #[.pointer pv, .int .i64 (c : Int)] 28 (0, 0))) (by kernel_rfl) ⟨HB5.out, HQ5.out⟩ (fun hHeld => ?_)
    generalize w3.drew = wd5 at *
    refine wpAnyH_take (i := 0) (oi := { dst := some 14, op := Op.move (Operand.tmp 0), type := 25, pos := "trie.go:32", after := #[], guard := none }) (v := .pointer (some ⟨g, 0, none⟩)) rfl (by kernel_rfl) (by kernel_rfl) (by kernel_rfl) (fun _ _ _ h => h) (Or.inl ⟨by rfl, fun w hSw => by go_simp⟩) (by assumption) ?_
    try simp only [Act.put, List.setIfInBounds_toArray, List.set_cons_zero, List.set_cons_succ]
    refine wpAnyH_take (i := 1) (oi := { dst := some 15, op := Op.nilCheck (Operand.tmp 14), type := 0, pos := "trie.go:32", after := #[{ on := 0, ground := Ground.data }], guard := none }) (v := .pointer (some ⟨g, 0, none⟩)) rfl (by kernel_rfl) (by kernel_rfl) (by kernel_rfl) (fun _ _ _ h => h) (Or.inl ⟨by rfl, fun w hSw => by go_simp⟩) (by assumption) ?_
    try simp only [Act.put, List.setIfInBounds_toArray, List.set_cons_zero, List.set_cons_succ]
    refine wpAnyH_take (i := 2) (oi := { dst := some 16, op := Op.fieldAddr 28 (Operand.tmp 15) 0, type := 0, pos := "trie.go:32", after := #[{ on := 1, ground := Ground.data }], guard := none }) (v := .pointer (some ⟨g, 0, none⟩)) rfl (by kernel_rfl) (by kernel_rfl) (by kernel_rfl) (fun _ _ _ h => h) (Or.inl ⟨by rfl, fun w hSw => by go_simp⟩) (by assumption) ?_
    try simp only [Act.put, List.setIfInBounds_toArray, List.set_cons_zero, List.set_cons_succ]
    refine wpAnyH_take (i := 3) (oi := { dst := some 17, op := Op.load 26 (Operand.tmp 16), type := 26, pos := "trie.go:32", after := #[{ on := 2, ground := Ground.data }], guard := none }) (v := .pointer pv) rfl (by kernel_rfl) (by kernel_rfl) (by kernel_rfl) (fun _ _ _ h => h) (Or.inl ⟨by rfl, fun w hSw => by obtain ⟨k0, k1⟩ := row2 hSw.2; go_simp⟩) (by assumption) ?_
    try simp only [Act.put, List.setIfInBounds_toArray, List.set_cons_zero, List.set_cons_succ]
    refine wpAnyH_take (i := 4) (oi := { dst := some 18, op := Op.load 39 (Operand.tmp 3), type := 39, pos := "trie.go:32", after := #[], guard := none }) (v := .agg #[.int .u32 (ra : Int), .int .u8 (rn : Int), .int .i64 via, .int .u16 mt, .int .u16 sq]) rfl (by kernel_rfl) (by kernel_rfl) (by kernel_rfl) (fun _ _ _ h => h) (Or.inl ⟨by rfl, fun w hSw => by obtain ⟨y0, y1, y2, y3, y4⟩ := row5 hSw.1; go_simp⟩) (by assumption) ?_
    try simp only [Act.put, List.setIfInBounds_toArray, List.set_cons_zero, List.set_cons_succ]
    refine wpAnyH_ready (rs := [5]) (by kernel_rfl) (by simp) ?_
    refine AllReadyH.cons (o := { dst := some 19, op := Op.call { callee := Callee.value (Operand.func 23), args := #[Operand.tmp 17, Operand.tmp 18], argTypes := #[26, 39] }, type := 59, pos := "trie.go:32", after := #[{ on := 3, ground := Ground.data }, { on := 4, ground := Ground.data }], guard := none }) rfl (fun K hK => ?_) AllReadyH.nil
    go_simp
    with_reducible refine (hP wd5 _ bs (HT.out.below HG5.out) (List.nodup_cons.1 HND.out).2).mono ?_
    rintro e w10 ⟨v', bs', rfl, A10, nd10, fr10, G10⟩
    obtain ⟨p', rfl⟩ := A10.ptr
    have HQ10 := (G10.block g (Nat.lt_of_lt_of_le hgs HG5.out.size) hgb).trans HQ5.out
    have HB10 := (G10.block _ (Array.getElem?_eq_some_iff.1 HB5.out).1 hxb).trans HB5.out
    refine hK.out _ _ (⟨HB10, HQ10⟩) (fun hHeld => ?_)
    clear hK K
    try simp only [Act.put, List.setIfInBounds_toArray, List.set_cons_zero, List.set_cons_succ]
    refine wpAnyH_take (i := 6) (oi := { dst := some 13, op := Op.move (Operand.tmp 19), type := 59, pos := "trie.go:32", after := #[{ on := 5, ground := Ground.data }], guard := none }) (v := .tuple #[.pointer p', .bool false]) rfl (by kernel_rfl) (by kernel_rfl) (by kernel_rfl) (fun _ _ _ h => h) (Or.inl ⟨by rfl, fun w hSw => by go_simp⟩) (by assumption) ?_
    try simp only [Act.put, List.setIfInBounds_toArray, List.set_cons_zero, List.set_cons_succ]
    refine wpAnyH_take (i := 7) (oi := { dst := some 20, op := Op.extract (Operand.tmp 13) 0, type := 26, pos := "trie.go:32", after := #[{ on := 6, ground := Ground.data }], guard := none }) (v := .pointer p') rfl (by kernel_rfl) (by kernel_rfl) (by kernel_rfl) (fun _ _ _ h => h) (Or.inl ⟨by rfl, fun w hSw => by go_simp⟩) (by assumption) ?_
    try simp only [Act.put, List.setIfInBounds_toArray, List.set_cons_zero, List.set_cons_succ]
    refine wpAnyH_take (i := 8) (oi := { dst := some 21, op := Op.extract (Operand.tmp 13) 1, type := 4, pos := "trie.go:32", after := #[{ on := 6, ground := Ground.data }, { on := 9, ground := Ground.gcOnly Departure.lateStores }], guard := none }) (v := .bool false) rfl (by kernel_rfl) (by kernel_rfl) (by kernel_rfl) (fun _ _ _ h => h) (Or.inl ⟨by rfl, fun w hSw => by go_simp⟩) (by assumption) ?_
    try simp only [Act.put, List.setIfInBounds_toArray, List.set_cons_zero, List.set_cons_succ]
    refine wpAnyH_take (i := 9) (oi := { dst := some 5, op := Op.assign (Operand.tmp 20), type := 26, pos := "trie.go:32", after := #[{ on := 7, ground := Ground.data }, { on := 5, ground := Ground.chain }, { on := 0, ground := Ground.phase }, { on := 1, ground := Ground.phase }, { on := 2, ground := Ground.phase }, { on := 3, ground := Ground.phase }, { on := 4, ground := Ground.phase }, { on := 5, ground := Ground.phase }, { on := 6, ground := Ground.phase }, { on := 7, ground := Ground.phase }, { on := 8, ground := Ground.textOnly Departure.lateStores }], guard := none }) (v := .pointer p') rfl (by kernel_rfl) (by kernel_rfl) (by kernel_rfl) (fun _ _ _ h => h) (Or.inl ⟨by rfl, fun w hSw => by go_simp⟩) (by assumption) ?_
    try simp only [Act.put, List.setIfInBounds_toArray, List.set_cons_zero, List.set_cons_succ]
    refine wpAnyH_take (i := 10) (oi := { dst := some 6, op := Op.assign (Operand.tmp 21), type := 4, pos := "trie.go:32", after := #[{ on := 8, ground := Ground.data }, { on := 9, ground := Ground.chain }, { on := 0, ground := Ground.phase }, { on := 1, ground := Ground.phase }, { on := 2, ground := Ground.phase }, { on := 3, ground := Ground.phase }, { on := 4, ground := Ground.phase }, { on := 5, ground := Ground.phase }, { on := 6, ground := Ground.phase }, { on := 7, ground := Ground.phase }, { on := 8, ground := Ground.phase }, { on := 9, ground := Ground.phase }], guard := none }) (v := .bool false) rfl (by kernel_rfl) (by kernel_rfl) (by kernel_rfl) (fun _ _ _ h => h) (Or.inl ⟨by rfl, fun w hSw => by go_simp⟩) (by assumption) ?_
    try simp only [Act.put, List.setIfInBounds_toArray, List.set_cons_zero, List.set_cons_succ]
    refine wpAnyH_done (by kernel_rfl) ?_ _
    try unfold NoPanic
    have H0 := rowset0 HQ10 (.pointer p')
    obtain ⟨p0, p1⟩ := row2 HQ10
    have fz := fun i => frozen_of_row _ g i _ 28 HQ10
    have HJ := Lib.hid (tr_join HG5.out HND.out hgs G10 A10 nd10 fr10 ((Grew.refl w10 [g]).set g 0 (.pointer p') (.inl (by simp))) H0)
    clear H0 HQ10 hHeld
    go_wp2
    go_ret
    exact ⟨rfl, _, HJ.out⟩
  · rw [hn] at hP
    simp only [if_true]
    go_enter Try.func10, Try.ntmps10
    go_upto_region 5 with (first
      | (go_at_call 22; (with_reducible refine (c22 _).mono ?_); rintro e w3 ⟨rfl, B3⟩))
    replace B3 := B3.trans ((Below.refl w3.heap.size w3).drew.mono B3.size)
    have HB5 := Lib.hid ((B3.block _ (Array.getElem?_eq_some_iff.1 HB.out).1).trans HB.out)
    have HQ5 := Lib.hid ((B3.block _ (Array.getElem?_eq_some_iff.1 HQ.out).1).trans HQ.out)
    have HG5 := Lib.hid (HG.out.trans (B3.mono HG.out.size))
    clear HB HQ HG B3 y0 y1 y2 y3 y4
    refine wp_region_noPanic ?_
    refine wp_region_held_drew (S := fun W : World => W.heap[w.heap.size]? = some (.cells #[.int .u32 (ra : Int), .int .u8 (rn : Int), .int .i64 via, .int .u16 mt, .int .u16 sq] 39) ∧ W.heap[g]? = some (.cells #[.pointer pv, .int .i64 (c : Int)] 28 (0, 0))) (by kernel_rfl) ⟨HB5.out, HQ5.out⟩ (fun hHeld => ?_)
    generalize w3.drew = wd5 at *
    refine wpAnyH_take (i := 0) (oi := { dst := some 14, op := Op.move (Operand.tmp 0), type := 25, pos := "trie.go:32", after := #[], guard := none }) (v := .pointer (some ⟨g, 0, none⟩)) rfl (by kernel_rfl) (by kernel_rfl) (by kernel_rfl) (fun _ _ _ h => h) (Or.inl ⟨by rfl, fun w hSw => by go_simp⟩) (by assumption) ?_
    try simp only [Act.put, List.setIfInBounds_toArray, List.set_cons_zero, List.set_cons_succ]
    refine wpAnyH_take (i := 1) (oi := { dst := some 15, op := Op.nilCheck (Operand.tmp 14), type := 0, pos := "trie.go:32", after := #[{ on := 0, ground := Ground.data }], guard := none }) (v := .pointer (some ⟨g, 0, none⟩)) rfl (by kernel_rfl) (by kernel_rfl) (by kernel_rfl) (fun _ _ _ h => h) (Or.inl ⟨by rfl, fun w hSw => by go_simp⟩) (by assumption) ?_
    try simp only [Act.put, List.setIfInBounds_toArray, List.set_cons_zero, List.set_cons_succ]
    refine wpAnyH_take (i := 2) (oi := { dst := some 16, op := Op.fieldAddr 28 (Operand.tmp 15) 0, type := 0, pos := "trie.go:32", after := #[{ on := 1, ground := Ground.data }], guard := none }) (v := .pointer (some ⟨g, 0, none⟩)) rfl (by kernel_rfl) (by kernel_rfl) (by kernel_rfl) (fun _ _ _ h => h) (Or.inl ⟨by rfl, fun w hSw => by go_simp⟩) (by assumption) ?_
    try simp only [Act.put, List.setIfInBounds_toArray, List.set_cons_zero, List.set_cons_succ]
    refine wpAnyH_take (i := 3) (oi := { dst := some 17, op := Op.load 26 (Operand.tmp 16), type := 26, pos := "trie.go:32", after := #[{ on := 2, ground := Ground.data }], guard := none }) (v := .pointer pv) rfl (by kernel_rfl) (by kernel_rfl) (by kernel_rfl) (fun _ _ _ h => h) (Or.inl ⟨by rfl, fun w hSw => by obtain ⟨k0, k1⟩ := row2 hSw.2; go_simp⟩) (by assumption) ?_
    try simp only [Act.put, List.setIfInBounds_toArray, List.set_cons_zero, List.set_cons_succ]
    refine wpAnyH_take (i := 4) (oi := { dst := some 18, op := Op.load 39 (Operand.tmp 3), type := 39, pos := "trie.go:32", after := #[], guard := none }) (v := .agg #[.int .u32 (ra : Int), .int .u8 (rn : Int), .int .i64 via, .int .u16 mt, .int .u16 sq]) rfl (by kernel_rfl) (by kernel_rfl) (by kernel_rfl) (fun _ _ _ h => h) (Or.inl ⟨by rfl, fun w hSw => by obtain ⟨y0, y1, y2, y3, y4⟩ := row5 hSw.1; go_simp⟩) (by assumption) ?_
    try simp only [Act.put, List.setIfInBounds_toArray, List.set_cons_zero, List.set_cons_succ]
    refine wpAnyH_ready (rs := [5]) (by kernel_rfl) (by simp) ?_
    refine AllReadyH.cons (o := { dst := some 19, op := Op.call { callee := Callee.value (Operand.func 23), args := #[Operand.tmp 17, Operand.tmp 18], argTypes := #[26, 39] }, type := 59, pos := "trie.go:32", after := #[{ on := 3, ground := Ground.data }, { on := 4, ground := Ground.data }], guard := none }) rfl (fun K hK => ?_) AllReadyH.nil
    go_simp
    with_reducible refine (hP wd5 _ bs (HT.out.below HG5.out) (List.nodup_cons.1 HND.out).2).mono ?_
    rintro e w10 ⟨v', bs', rfl, A10, nd10, fr10, G10⟩
    obtain ⟨p', rfl⟩ := A10.ptr
    have HQ10 := (G10.block g (Nat.lt_of_lt_of_le hgs HG5.out.size) hgb).trans HQ5.out
    have HB10 := (G10.block _ (Array.getElem?_eq_some_iff.1 HB5.out).1 hxb).trans HB5.out
    refine hK.out _ _ (⟨HB10, HQ10⟩) (fun hHeld => ?_)
    clear hK K
    try simp only [Act.put, List.setIfInBounds_toArray, List.set_cons_zero, List.set_cons_succ]
    refine wpAnyH_take (i := 6) (oi := { dst := some 13, op := Op.move (Operand.tmp 19), type := 59, pos := "trie.go:32", after := #[{ on := 5, ground := Ground.data }], guard := none }) (v := .tuple #[.pointer p', .bool true]) rfl (by kernel_rfl) (by kernel_rfl) (by kernel_rfl) (fun _ _ _ h => h) (Or.inl ⟨by rfl, fun w hSw => by go_simp⟩) (by assumption) ?_
    try simp only [Act.put, List.setIfInBounds_toArray, List.set_cons_zero, List.set_cons_succ]
    refine wpAnyH_take (i := 7) (oi := { dst := some 20, op := Op.extract (Operand.tmp 13) 0, type := 26, pos := "trie.go:32", after := #[{ on := 6, ground := Ground.data }], guard := none }) (v := .pointer p') rfl (by kernel_rfl) (by kernel_rfl) (by kernel_rfl) (fun _ _ _ h => h) (Or.inl ⟨by rfl, fun w hSw => by go_simp⟩) (by assumption) ?_
    try simp only [Act.put, List.setIfInBounds_toArray, List.set_cons_zero, List.set_cons_succ]
    refine wpAnyH_take (i := 8) (oi := { dst := some 21, op := Op.extract (Operand.tmp 13) 1, type := 4, pos := "trie.go:32", after := #[{ on := 6, ground := Ground.data }, { on := 9, ground := Ground.gcOnly Departure.lateStores }], guard := none }) (v := .bool true) rfl (by kernel_rfl) (by kernel_rfl) (by kernel_rfl) (fun _ _ _ h => h) (Or.inl ⟨by rfl, fun w hSw => by go_simp⟩) (by assumption) ?_
    try simp only [Act.put, List.setIfInBounds_toArray, List.set_cons_zero, List.set_cons_succ]
    refine wpAnyH_take (i := 9) (oi := { dst := some 5, op := Op.assign (Operand.tmp 20), type := 26, pos := "trie.go:32", after := #[{ on := 7, ground := Ground.data }, { on := 5, ground := Ground.chain }, { on := 0, ground := Ground.phase }, { on := 1, ground := Ground.phase }, { on := 2, ground := Ground.phase }, { on := 3, ground := Ground.phase }, { on := 4, ground := Ground.phase }, { on := 5, ground := Ground.phase }, { on := 6, ground := Ground.phase }, { on := 7, ground := Ground.phase }, { on := 8, ground := Ground.textOnly Departure.lateStores }], guard := none }) (v := .pointer p') rfl (by kernel_rfl) (by kernel_rfl) (by kernel_rfl) (fun _ _ _ h => h) (Or.inl ⟨by rfl, fun w hSw => by go_simp⟩) (by assumption) ?_
    try simp only [Act.put, List.setIfInBounds_toArray, List.set_cons_zero, List.set_cons_succ]
    refine wpAnyH_take (i := 10) (oi := { dst := some 6, op := Op.assign (Operand.tmp 21), type := 4, pos := "trie.go:32", after := #[{ on := 8, ground := Ground.data }, { on := 9, ground := Ground.chain }, { on := 0, ground := Ground.phase }, { on := 1, ground := Ground.phase }, { on := 2, ground := Ground.phase }, { on := 3, ground := Ground.phase }, { on := 4, ground := Ground.phase }, { on := 5, ground := Ground.phase }, { on := 6, ground := Ground.phase }, { on := 7, ground := Ground.phase }, { on := 8, ground := Ground.phase }, { on := 9, ground := Ground.phase }], guard := none }) (v := .bool true) rfl (by kernel_rfl) (by kernel_rfl) (by kernel_rfl) (fun _ _ _ h => h) (Or.inl ⟨by rfl, fun w hSw => by go_simp⟩) (by assumption) ?_
    try simp only [Act.put, List.setIfInBounds_toArray, List.set_cons_zero, List.set_cons_succ]
    refine wpAnyH_done (by kernel_rfl) ?_ _
    try unfold NoPanic
    have H0 := rowset0 HQ10 (.pointer p')
    obtain ⟨p0, p1⟩ := row2 HQ10
    have fz := fun i => frozen_of_row _ g i _ 28 HQ10
    have HJ := Lib.hid (tr_join HG5.out HND.out hgs G10 A10 nd10 fr10 (((Grew.refl w10 [g]).set g 0 (.pointer p') (.inl (by simp))).set g 1 (.int .i64 ((c + 1 : Nat) : Int)) (.inl (by simp))) (rowset1 H0 _))
    clear H0 HQ10 hHeld
    go_wp2
    go_ret
    exact ⟨rfl, _, HJ.out⟩
set_option maxRecDepth 8000 in
set_option maxHeartbeats 8000000 in
theorem Drop_there {w : World} {g c : Nat} {t : T} {bs : List Nat} (h : TrAt w g t c bs) (hw : t.WF) (b m : Nat) (hb : b < 4294967296) (hwas : (t.drop b m).2 = true) (hc : 0 < c ∧ c < 1000000) :
    Calls Try.prog 11 #[.pointer (some ⟨g, 0, none⟩), .agg #[.int .u32 (b : Int), .int .u8 (m : Int)]] w fun e w' => e = .returned (.int .i64 0) ∧ ∃ bs', TrAt w' g (t.drop b m).1 (c - 1) bs' ∧ (∀ b ∈ bs', b ∈ bs) ∧ Grew w w' (g :: bs) := by
  have hgs := h.lt
  have HND := Lib.hid h.nd
  obtain ⟨v, hv, hA⟩ := h.row
  clear h
  obtain ⟨pv, rfl⟩ := hA.ptr
  have hP := drop_any t b m hw hb
  have hgb := (List.nodup_cons.1 HND.out).1
  have hxb : w.heap.size ∉ bs := fun e => Nat.lt_irrefl _ (hA.lt _ e)
  unfold DropSaid at hP
  rw [hwas] at hP
  clear hw hwas
  have R0 := heap_alloc_new w (.cells #[.int .u32 (b : Int), .int .u8 (m : Int)] 32)
  have B0 : Below w.heap.size w (w.alloc (.cells #[.int .u32 (b : Int), .int .u8 (m : Int)] 32)) := (Below.refl _ _).alloc (Nat.le_refl _) _
  have HB := Lib.hid R0
  have HQ := Lib.hid ((B0.block _ hgs).trans hv)
  have HG := Lib.hid B0
  have HT := Lib.hid hA
  have hwg : w.heap.size ≠ g := by omega
  clear hv hA B0 R0
  go_enter Try.func11, Try.ntmps11
  go_upto_region 3 with (fail)
  generalize w.alloc _ = w3 at *
  have B3 := (Below.refl w3.heap.size w3).drew
  have HB5 := Lib.hid ((B3.block _ (Array.getElem?_eq_some_iff.1 HB.out).1).trans HB.out)
  have HQ5 := Lib.hid ((B3.block _ (Array.getElem?_eq_some_iff.1 HQ.out).1).trans HQ.out)
  have HG5 := Lib.hid (HG.out.trans (B3.mono HG.out.size))
  clear HB HQ HG B3
  refine wp_region_noPanic ?_
  refine wp_region_held_drew (S := fun W : World => W.heap[w.heap.size]? = some (.cells #[.int .u32 (b : Int), .int .u8 (m : Int)] 32) ∧ W.heap[g]? = some (.cells #[.pointer pv, .int .i64 (c : Int)] 28 (0, 0))) (by kernel_rfl) ⟨HB5.out, HQ5.out⟩ (fun hHeld => ?_)
  generalize w3.drew = wd5 at *
  refine wpAnyH_take (i := 0) (oi := { dst := some 10, op := Op.move (Operand.tmp 0), type := 25, pos := "trie.go:45", after := #[], guard := none }) (v := .pointer (some ⟨g, 0, none⟩)) rfl (by kernel_rfl) (by kernel_rfl) (by kernel_rfl) (fun _ _ _ h => h) (Or.inl ⟨by rfl, fun w hSw => by go_simp⟩) (by assumption) ?_
  try simp only [Act.put, List.setIfInBounds_toArray, List.set_cons_zero, List.set_cons_succ]
  refine wpAnyH_take (i := 1) (oi := { dst := some 11, op := Op.nilCheck (Operand.tmp 10), type := 0, pos := "trie.go:45", after := #[{ on := 0, ground := Ground.data }], guard := none }) (v := .pointer (some ⟨g, 0, none⟩)) rfl (by kernel_rfl) (by kernel_rfl) (by kernel_rfl) (fun _ _ _ h => h) (Or.inl ⟨by rfl, fun w hSw => by go_simp⟩) (by assumption) ?_
  try simp only [Act.put, List.setIfInBounds_toArray, List.set_cons_zero, List.set_cons_succ]
  refine wpAnyH_take (i := 2) (oi := { dst := some 12, op := Op.fieldAddr 28 (Operand.tmp 11) 0, type := 0, pos := "trie.go:45", after := #[{ on := 1, ground := Ground.data }], guard := none }) (v := .pointer (some ⟨g, 0, none⟩)) rfl (by kernel_rfl) (by kernel_rfl) (by kernel_rfl) (fun _ _ _ h => h) (Or.inl ⟨by rfl, fun w hSw => by go_simp⟩) (by assumption) ?_
  try simp only [Act.put, List.setIfInBounds_toArray, List.set_cons_zero, List.set_cons_succ]
  refine wpAnyH_take (i := 3) (oi := { dst := some 13, op := Op.load 26 (Operand.tmp 12), type := 26, pos := "trie.go:45", after := #[{ on := 2, ground := Ground.data }], guard := none }) (v := .pointer pv) rfl (by kernel_rfl) (by kernel_rfl) (by kernel_rfl) (fun _ _ _ h => h) (Or.inl ⟨by rfl, fun w hSw => by obtain ⟨k0, k1⟩ := row2 hSw.2; go_simp⟩) (by assumption) ?_
  try simp only [Act.put, List.setIfInBounds_toArray, List.set_cons_zero, List.set_cons_succ]
  refine wpAnyH_take (i := 4) (oi := { dst := some 14, op := Op.load 32 (Operand.tmp 3), type := 32, pos := "trie.go:45", after := #[], guard := none }) (v := .agg #[.int .u32 (b : Int), .int .u8 (m : Int)]) rfl (by kernel_rfl) (by kernel_rfl) (by kernel_rfl) (fun _ _ _ h => h) (Or.inl ⟨by rfl, fun w hSw => by obtain ⟨y0, y1⟩ := row2 hSw.1; go_simp⟩) (by assumption) ?_
  try simp only [Act.put, List.setIfInBounds_toArray, List.set_cons_zero, List.set_cons_succ]
  refine wpAnyH_ready (rs := [5]) (by kernel_rfl) (by simp) ?_
  refine AllReadyH.cons (o := { dst := some 15, op := Op.call { callee := Callee.value (Operand.func 24), args := #[Operand.tmp 13, Operand.tmp 14], argTypes := #[26, 32] }, type := 59, pos := "trie.go:45", after := #[{ on := 3, ground := Ground.data }, { on := 4, ground := Ground.data }], guard := none }) rfl (fun K hK => ?_) AllReadyH.nil
  go_simp
  with_reducible refine (hP wd5 _ bs (HT.out.below HG5.out) (List.nodup_cons.1 HND.out).2).mono ?_
  rintro e w10 ⟨p', bs', rfl, A10, nd10, fr10, G10⟩
  have HQ10 := (G10.block g (Nat.lt_of_lt_of_le hgs HG5.out.size) hgb).trans HQ5.out
  have HB10 := (G10.block _ (Array.getElem?_eq_some_iff.1 HB5.out).1 hxb).trans HB5.out
  refine hK.out _ _ (⟨HB10, HQ10⟩) (fun hHeld => ?_)
  clear hK K
  try simp only [Act.put, List.setIfInBounds_toArray, List.set_cons_zero, List.set_cons_succ]
  refine wpAnyH_take (i := 6) (oi := { dst := some 9, op := Op.move (Operand.tmp 15), type := 59, pos := "trie.go:45", after := #[{ on := 5, ground := Ground.data }], guard := none }) (v := .tuple #[.pointer p', .bool true]) rfl (by kernel_rfl) (by kernel_rfl) (by kernel_rfl) (fun _ _ _ h => h) (Or.inl ⟨by rfl, fun w hSw => by go_simp⟩) (by assumption) ?_
  try simp only [Act.put, List.setIfInBounds_toArray, List.set_cons_zero, List.set_cons_succ]
  refine wpAnyH_take (i := 7) (oi := { dst := some 16, op := Op.extract (Operand.tmp 9) 0, type := 26, pos := "trie.go:45", after := #[{ on := 6, ground := Ground.data }], guard := none }) (v := .pointer p') rfl (by kernel_rfl) (by kernel_rfl) (by kernel_rfl) (fun _ _ _ h => h) (Or.inl ⟨by rfl, fun w hSw => by go_simp⟩) (by assumption) ?_
  try simp only [Act.put, List.setIfInBounds_toArray, List.set_cons_zero, List.set_cons_succ]
  refine wpAnyH_take (i := 8) (oi := { dst := some 17, op := Op.extract (Operand.tmp 9) 1, type := 4, pos := "trie.go:45", after := #[{ on := 6, ground := Ground.data }, { on := 9, ground := Ground.gcOnly Departure.lateStores }], guard := none }) (v := .bool true) rfl (by kernel_rfl) (by kernel_rfl) (by kernel_rfl) (fun _ _ _ h => h) (Or.inl ⟨by rfl, fun w hSw => by go_simp⟩) (by assumption) ?_
  try simp only [Act.put, List.setIfInBounds_toArray, List.set_cons_zero, List.set_cons_succ]
  refine wpAnyH_take (i := 9) (oi := { dst := some 5, op := Op.assign (Operand.tmp 16), type := 26, pos := "trie.go:45", after := #[{ on := 7, ground := Ground.data }, { on := 5, ground := Ground.chain }, { on := 0, ground := Ground.phase }, { on := 1, ground := Ground.phase }, { on := 2, ground := Ground.phase }, { on := 3, ground := Ground.phase }, { on := 4, ground := Ground.phase }, { on := 5, ground := Ground.phase }, { on := 6, ground := Ground.phase }, { on := 7, ground := Ground.phase }, { on := 8, ground := Ground.textOnly Departure.lateStores }], guard := none }) (v := .pointer p') rfl (by kernel_rfl) (by kernel_rfl) (by kernel_rfl) (fun _ _ _ h => h) (Or.inl ⟨by rfl, fun w hSw => by go_simp⟩) (by assumption) ?_
  try simp only [Act.put, List.setIfInBounds_toArray, List.set_cons_zero, List.set_cons_succ]
  refine wpAnyH_take (i := 10) (oi := { dst := some 6, op := Op.assign (Operand.tmp 17), type := 4, pos := "trie.go:45", after := #[{ on := 8, ground := Ground.data }, { on := 9, ground := Ground.chain }, { on := 0, ground := Ground.phase }, { on := 1, ground := Ground.phase }, { on := 2, ground := Ground.phase }, { on := 3, ground := Ground.phase }, { on := 4, ground := Ground.phase }, { on := 5, ground := Ground.phase }, { on := 6, ground := Ground.phase }, { on := 7, ground := Ground.phase }, { on := 8, ground := Ground.phase }, { on := 9, ground := Ground.phase }], guard := none }) (v := .bool true) rfl (by kernel_rfl) (by kernel_rfl) (by kernel_rfl) (fun _ _ _ h => h) (Or.inl ⟨by rfl, fun w hSw => by go_simp⟩) (by assumption) ?_
  try simp only [Act.put, List.setIfInBounds_toArray, List.set_cons_zero, List.set_cons_succ]
  refine wpAnyH_done (by kernel_rfl) ?_ _
  try unfold NoPanic
  have H0 := rowset0 HQ10 (.pointer p')
  obtain ⟨p0, p1⟩ := row2 HQ10
  have fz := fun i => frozen_of_row _ g i _ 28 HQ10
  have hcw : IntKind.i64.wrap ((c : Int) - 1) = ((c - 1 : Nat) : Int) := by rw [IntKind.wrap_i64]; omega
  have HJ := Lib.hid (tr_join HG5.out HND.out hgs G10 A10 nd10 (fun k hk => .inl (fr10 k hk)) (((Grew.refl w10 [g]).set g 0 (.pointer p') (.inl (by simp))).set g 1 (.int .i64 ((c - 1 : Nat) : Int)) (.inl (by simp))) (rowset1 H0 _))
  clear H0 HQ10 hHeld
  go_wp2
  go_ret
  exact ⟨rfl, _, HJ.out.1, fr10, HJ.out.2.2⟩
end Go.Proofs.Ytfhpcpanjonpeaa.Tri

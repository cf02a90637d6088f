/- Contracts of package source's functions. -/
import Derived.Test.YtkbhmdoichiinaaSb
import Derived.Lib.Hide
import Derived.Deep.QuietTactic
import Derived.Deep.RegionHeld3
import Derived.StillTailTactics
import Derived.Deep.DeepCutAuto
import Derived.Laws.ResultCell
namespace Go.Proofs.Ytkbhmdoichiinaa.Src
open Pre Ser
open Go.ChangeShapes Go.WideShapes Go.ChangeAt Go.RowKit
set_option maxRecDepth 8000
variable {lo : Nat}

theorem heap_new1 (w : World) (x c : Obj) : ((w.alloc x).alloc c).heap[w.heap.size + 1]? = some c := by
  have h := heap_alloc_new (w.alloc x) c
  have e : (w.alloc x).heap.size = w.heap.size + 1 := by simp
  rw [e] at h; exact h
theorem row2 {w : World} {b : Nat} {t : TypeId} {x0 x1 : Value} (h : w.heap[b]? = some (.cells #[x0, x1] t (0, 0))) : w.cell? ⟨b, 0, none⟩ = some x0 ∧ w.cell? ⟨b, 1, none⟩ = some x1 ∧ ∀ i, w.frozen? ⟨b, i, none⟩ = false :=
  ⟨cell_of_row w b 0 _ t (0, 0) h, cell_of_row w b 1 _ t (0, 0) h, fun i => frozen_of_row w b i _ t h⟩
theorem row1 {w : World} {b : Nat} {t : TypeId} {x0 : Value} (h : w.heap[b]? = some (.cells #[x0] t (0, 0))) : w.cell? ⟨b, 0, none⟩ = some x0 ∧ ∀ i, w.frozen? ⟨b, i, none⟩ = false :=
  ⟨cell_of_row w b 0 _ t (0, 0) h, fun i => frozen_of_row w b i _ t h⟩
theorem Tab_set2 {w : World} {b : Nat} {t : TypeId} {x0 x1 : Value} (h : w.heap[b]? = some (.cells #[x0, x1] t (0, 0))) (y0 y1 : Value) : ((w.setCell ⟨b, 0, none⟩ y0).setCell ⟨b, 1, none⟩ y1).heap[b]? = some (.cells #[y0, y1] t (0, 0)) := by
  have := heap_setCell_same (w.setCell ⟨b, 0, none⟩ y0) b 1 _ t y1 (heap_setCell_same w b 0 _ t y0 h)
  simpa using this
theorem set2_other {b i : Nat} (w : World) (h : i ≠ b) (y0 y1 : Value) : ((w.setCell ⟨b, 0, none⟩ y0).setCell ⟨b, 1, none⟩ y1).heap[i]? = w.heap[i]? :=
  (Below.heap_setCell _ ⟨b, 1, none⟩ y1 i h).trans (Below.heap_setCell w ⟨b, 0, none⟩ y0 i h)
theorem results_ct {P : Program} {fn : Func} {p u : Tmp} {ty : TypeId} (h : fn.results = #[.cell p ty, .tmp u]) (tmps : Array Value) (w : World) (g : Nat) (t : TypeId) (cs : Array Value) (fr : Nat × Nat) (d : TypeDesc) (y : Value)
    (hp : tmps.getD p undef = .pointer (some ⟨g, 0, none⟩)) (hy : tmps.getD u undef = y) (hg : w.heap[g]? = some (.cells cs t fr))
    (hu : P.underlying ty = some d) (hd : (match d with | .struct _ | .array _ _ => true | _ => false) = true) (hi : (P.info? ty).map (·.size) = some cs.size) :
    (results fn tmps).run P w = .ok (.tuple #[.agg cs, y]) w := by
  rw [results_cell_tmp h, hp, hy]
  simp [asAddr, run_loadVar_row w g t ty cs fr d hg hu hd hi, Result.andThen]
theorem MV.look {w : World} {v : Value} {f : Mk} {c : Nat} (h : MV lo w v f c) {a n : Nat} (ha : a < 4294967296) (hn : n < 256) :
    (Instr.lookup 89 v (pv a n) true).run Try.prog w = .ok (.tuple #[lookV (f a n), .bool (f a n).isSome]) w := by
  rcases h with ⟨rfl, rfl, -⟩ | ⟨b, rfl, -, h⟩
  · exact look_nil w ha hn
  · exact h.look ha hn
theorem New_any (w : World) : Calls Try.prog 28 #[] w fun e w' => e = .returned (.pointer (some ⟨w.heap.size, 0, none⟩)) ∧ SrcAt w.heap.size w' w.heap.size (fun _ _ => none) 0 ∧ Below w.heap.size w w' := by
  go_enter Try.func28, Try.ntmps28
  go_wp2
  go_ret
  exact ⟨rfl, ⟨Nat.le_refl _, .map none, heap_alloc_new w _, Or.inl ⟨rfl, rfl, rfl⟩⟩, (Below.refl _ _).alloc (Nat.le_refl _) _⟩
theorem Len_any (w : World) (q : Nat) (f : Mk) (c : Nat) (h : SrcAt lo w q f c) : Calls Try.prog 42 #[.pointer (some ⟨q, 0, none⟩)] w fun e w' => e = .returned (.int .i64 (c : Int)) ∧ w = w' := by
  have hq := h.lt
  obtain ⟨hl, v, hr, hv⟩ := h
  obtain ⟨p0, pf⟩ := row1 hr
  rcases hv with ⟨rfl, rfl, rfl⟩ | ⟨b, rfl, -, hm⟩
  · go_enter Try.func42, Try.ntmps42
    go_wp2
    go_ret
    exact ⟨rfl, rfl⟩
  · have hln := fun ty => hm.len ty
    go_enter Try.func42, Try.ntmps42
    go_wp2
    go_ret
    exact ⟨rfl, rfl⟩
set_option maxHeartbeats 1000000 in
theorem Mark_any (u : World) (q : Nat) (f : Mk) (c : Nat) (h : SrcAt lo u q f c) (a n : Nat) (ha : a < 4294967296) (hn : n < 256) :
    Calls Try.prog 23 #[.pointer (some ⟨q, 0, none⟩), pv a n] u fun e w' => e = .returned (.tuple #[lookV (f a n), .bool (f a n).isSome]) ∧ Below u.heap.size u w' := by
  have hq := h.lt
  obtain ⟨hl, v, hr, hv⟩ := h
  obtain ⟨x, hx⟩ : ∃ x, x = (f a n).getD (0, 0) := ⟨_, rfl⟩
  obtain ⟨hs, hhs⟩ : ∃ b, b = (f a n).isSome := ⟨_, rfl⟩
  rw [← hhs]
  have HQ : Hid (q < u.heap.size ∧ u.heap[q]? = some (.cells #[v] 91 (0, 0)) ∧ ∀ W, Below u.heap.size u W → (Instr.lookup 89 v (.agg #[.int .u32 (a : Int), .int .u8 (n : Int)]) true).run Try.prog W = .ok (.tuple #[.agg #[.int .u16 (x.1 : Int), .int .u16 (x.2 : Int)], .bool hs]) W) := by
    refine Lib.hid ⟨hq, hr, fun W hW => ?_⟩
    have := (hv.below hW).look ha hn
    unfold lookV mv pv at this
    rw [← hx, ← hhs] at this
    exact this
  have B0 := ((Below.refl u.heap.size u).alloc (Nat.le_refl _) (.cells #[.int .u32 (a : Int), .int .u8 (n : Int)] 39)).alloc (by simp) (.cells #[.int .u16 0, .int .u16 0] 41)
  have HB := Lib.hid (And.intro B0 (And.intro ((heap_alloc_old _ (.cells #[.int .u16 0, .int .u16 0] 41) (by simp)).trans (heap_alloc_new u (.cells #[.int .u32 (a : Int), .int .u8 (n : Int)] 39))) (heap_new1 u (.cells #[.int .u32 (a : Int), .int .u8 (n : Int)] 39) (.cells #[.int .u16 0, .int .u16 0] 41))))
  have hlv : lookV (f a n) = .agg #[.int .u16 (x.1 : Int), .int .u16 (x.2 : Int)] := by unfold lookV mv; rw [← hx]
  rw [hlv]
  clear B0 hv hr hx hhs hlv hl
  unfold pv
  go_enter Try.func23, Try.ntmps23
  go_upto_region 3 with (fail)
  generalize (u.alloc (.cells #[.int .u32 (a : Int), .int .u8 (n : Int)] 39)).alloc (.cells #[.int .u16 0, .int .u16 0] 41) = w1 at *
  refine wp_region_noPanic ?_
  refine wp_region_held_drew (S := fun x : World => Below u.heap.size u x ∧ x.heap[u.heap.size]? = some (.cells #[.int .u32 (a : Int), .int .u8 (n : Int)] 39 (0, 0)) ∧ x.heap[u.heap.size + 1]? = some (.cells #[.int .u16 0, .int .u16 0] 41 (0, 0))) (by kernel_rfl) ⟨HB.out.1.drew, HB.out.2.1, HB.out.2.2⟩ (fun hHeld => ?_)
  generalize w1.drew = wd at *
  refine wpAnyH_take (i := 0) (oi := { dst := some 12, op := Op.move (Operand.tmp 0), type := 46, pos := "source.go:34", after := #[], guard := none }) (v := .pointer (some ⟨q, 0, none⟩)) rfl (by kernel_rfl) (by kernel_rfl) (by kernel_rfl) (fun _ _ _ h => h) (Or.inl ⟨by rfl, fun w hSw => by go_simp⟩) (by assumption) ?_
  try simp only [Act.put, List.setIfInBounds_toArray, List.set_cons_zero, List.set_cons_succ]
  refine wpAnyH_take (i := 1) (oi := { dst := some 13, op := Op.nilCheck (Operand.tmp 12), type := 0, pos := "source.go:34", after := #[{ on := 0, ground := Ground.data }], guard := none }) (v := .pointer (some ⟨q, 0, none⟩)) rfl (by kernel_rfl) (by kernel_rfl) (by kernel_rfl) (fun _ _ _ h => h) (Or.inl ⟨by rfl, fun w hSw => by go_simp⟩) (by assumption) ?_
  try simp only [Act.put, List.setIfInBounds_toArray, List.set_cons_zero, List.set_cons_succ]
  refine wpAnyH_take (i := 2) (oi := { dst := some 14, op := Op.fieldAddr 91 (Operand.tmp 13) 0, type := 0, pos := "source.go:34", after := #[{ on := 1, ground := Ground.data }], guard := none }) (v := .pointer (some ⟨q, 0, none⟩)) rfl (by kernel_rfl) (by kernel_rfl) (by kernel_rfl) (fun _ _ _ h => h) (Or.inl ⟨by rfl, fun w hSw => by go_simp⟩) (by assumption) ?_
  try simp only [Act.put, List.setIfInBounds_toArray, List.set_cons_zero, List.set_cons_succ]
  refine wpAnyH_take (i := 3) (oi := { dst := some 15, op := Op.load 89 (Operand.tmp 14), type := 89, pos := "source.go:34", after := #[{ on := 2, ground := Ground.data }], guard := none }) (v := v) rfl (by kernel_rfl) (by kernel_rfl) (by kernel_rfl) (fun _ _ _ h => h) (Or.inl ⟨by rfl, fun w hSw => by obtain ⟨p0, -⟩ := row1 ((hSw.1.block _ HQ.out.1).trans HQ.out.2.1); go_simp⟩) (by assumption) ?_
  try simp only [Act.put, List.setIfInBounds_toArray, List.set_cons_zero, List.set_cons_succ]
  refine wpAnyH_take (i := 4) (oi := { dst := some 16, op := Op.load 39 (Operand.tmp 3), type := 39, pos := "source.go:34", after := #[], guard := none }) (v := .agg #[.int .u32 (a : Int), .int .u8 (n : Int)]) rfl (by kernel_rfl) (by kernel_rfl) (by kernel_rfl) (fun _ _ _ h => h) (Or.inl ⟨by rfl, fun w hSw => by obtain ⟨u0, u1, -⟩ := row2 hSw.2.1; go_simp⟩) (by assumption) ?_
  try simp only [Act.put, List.setIfInBounds_toArray, List.set_cons_zero, List.set_cons_succ]
  refine wpAnyH_take (i := 5) (oi := { dst := some 17, op := Op.lookup 89 (Operand.tmp 15) (Operand.tmp 16) true, type := 63, pos := "source.go:34", after := #[{ on := 3, ground := Ground.data }, { on := 4, ground := Ground.data }], guard := none }) (v := .tuple #[.agg #[.int .u16 (x.1 : Int), .int .u16 (x.2 : Int)], .bool hs]) rfl (by kernel_rfl) (by kernel_rfl) (by kernel_rfl) (fun _ _ _ h => h) (Or.inl ⟨by rfl, fun w hSw => by have hl := HQ.out.2.2 w hSw.1; go_simp⟩) (by assumption) ?_
  try simp only [Act.put, List.setIfInBounds_toArray, List.set_cons_zero, List.set_cons_succ]
  refine wpAnyH_take (i := 6) (oi := { dst := some 11, op := Op.move (Operand.tmp 17), type := 63, pos := "source.go:34", after := #[{ on := 5, ground := Ground.data }], guard := none }) (v := .tuple #[.agg #[.int .u16 (x.1 : Int), .int .u16 (x.2 : Int)], .bool hs]) rfl (by kernel_rfl) (by kernel_rfl) (by kernel_rfl) (fun _ _ _ h => h) (Or.inl ⟨by rfl, fun w hSw => by go_simp⟩) (by assumption) ?_
  try simp only [Act.put, List.setIfInBounds_toArray, List.set_cons_zero, List.set_cons_succ]
  refine wpAnyH_take (i := 7) (oi := { dst := some 18, op := Op.extract (Operand.tmp 11) 0, type := 41, pos := "source.go:34", after := #[{ on := 6, ground := Ground.data }], guard := none }) (v := .agg #[.int .u16 (x.1 : Int), .int .u16 (x.2 : Int)]) rfl (by kernel_rfl) (by kernel_rfl) (by kernel_rfl) (fun _ _ _ h => h) (Or.inl ⟨by rfl, fun w hSw => by go_simp⟩) (by assumption) ?_
  try simp only [Act.put, List.setIfInBounds_toArray, List.set_cons_zero, List.set_cons_succ]
  refine wpAnyH_take (i := 8) (oi := { dst := some 19, op := Op.extract (Operand.tmp 11) 1, type := 4, pos := "source.go:34", after := #[{ on := 6, ground := Ground.data }, { on := 10, ground := Ground.gcOnly Departure.lateStores }], guard := none }) (v := .bool hs) rfl (by kernel_rfl) (by kernel_rfl) (by kernel_rfl) (fun _ _ _ h => h) (Or.inl ⟨by rfl, fun w hSw => by go_simp⟩) (by assumption) ?_
  try simp only [Act.put, List.setIfInBounds_toArray, List.set_cons_zero, List.set_cons_succ]
  refine wpAnyH_ready (rs := [9]) (by kernel_rfl) (by simp) ?_
  refine AllReadyH.cons (o := { dst := some 6, op := Op.alloc 41, type := 0, pos := "source.go:34", after := #[], guard := none }) rfl (fun K hK => ?_) AllReadyH.nil
  go_simp
  refine hK.out _ _ (⟨hHeld.1.alloc hHeld.1.size _, (heap_alloc_old _ _ (Array.getElem?_eq_some_iff.1 hHeld.2.1).1).trans hHeld.2.1, (heap_alloc_old _ _ (Array.getElem?_eq_some_iff.1 hHeld.2.2).1).trans hHeld.2.2⟩) (fun hHeld2 => ?_)
  clear hK K
  have hH0 := hHeld
  clear hHeld
  have hHeld := hHeld2
  obtain ⟨n0, n1, nf⟩ := row2 (heap_alloc_new wd (.cells #[.int .u16 0, .int .u16 0] 41))
  have hsz : u.heap.size + 1 < wd.heap.size := (Array.getElem?_eq_some_iff.1 hH0.2.2).1
  try simp only [Act.put, List.setIfInBounds_toArray, List.set_cons_zero, List.set_cons_succ]
  refine wpAnyH_ready (rs := [10]) (by kernel_rfl) (by simp) ?_
  refine AllReadyH.cons (o := { dst := none, op := Op.store 41 (Operand.tmp 6) (Operand.tmp 18), type := 0, pos := "source.go:34", after := #[{ on := 9, ground := Ground.data }, { on := 7, ground := Ground.data }, { on := 0, ground := Ground.phase }, { on := 1, ground := Ground.phase }, { on := 2, ground := Ground.phase }, { on := 3, ground := Ground.phase }, { on := 4, ground := Ground.phase }, { on := 5, ground := Ground.phase }, { on := 6, ground := Ground.phase }, { on := 7, ground := Ground.phase }, { on := 8, ground := Ground.textOnly Departure.lateStores }, { on := 9, ground := Ground.phase }], guard := none }) rfl (fun K hK => ?_) AllReadyH.nil
  go_simp
  refine hK.out _ _ (⟨hH0.1.alloc hH0.1.size _, (heap_alloc_old _ _ (Array.getElem?_eq_some_iff.1 hH0.2.1).1).trans hH0.2.1, (heap_alloc_old _ _ (Array.getElem?_eq_some_iff.1 hH0.2.2).1).trans hH0.2.2⟩) (fun hHeld3 => ?_)
  clear hK K hHeld2 hHeld n0 n1 nf
  have hHeld := hHeld3
  clear hHeld3
  try simp only [Act.put, List.setIfInBounds_toArray, List.set_cons_zero, List.set_cons_succ]
  refine wpAnyH_take (i := 11) (oi := { dst := some 7, op := Op.assign (Operand.tmp 19), type := 4, pos := "source.go:34", after := #[{ on := 8, ground := Ground.data }, { on := 10, ground := Ground.chain }, { on := 0, ground := Ground.phase }, { on := 1, ground := Ground.phase }, { on := 2, ground := Ground.phase }, { on := 3, ground := Ground.phase }, { on := 4, ground := Ground.phase }, { on := 5, ground := Ground.phase }, { on := 6, ground := Ground.phase }, { on := 7, ground := Ground.phase }, { on := 8, ground := Ground.phase }, { on := 9, ground := Ground.phase }, { on := 10, ground := Ground.phase }], guard := none }) (v := .bool hs) rfl (by kernel_rfl) (by kernel_rfl) (by kernel_rfl) (fun _ _ _ h => h) (Or.inl ⟨by rfl, fun w hSw => by go_simp⟩) (by assumption) ?_
  try simp only [Act.put, List.setIfInBounds_toArray, List.set_cons_zero, List.set_cons_succ]
  refine wpAnyH_done (by kernel_rfl) ?_ _
  try unfold NoPanic

  obtain ⟨n0, n1, nf⟩ := row2 (heap_alloc_new wd (.cells #[.int .u16 (x.1 : Int), .int .u16 (x.2 : Int)] 41))
  obtain ⟨r0, r1, rf⟩ := row2 hHeld.2.2
  have hl2 := (Array.getElem?_eq_some_iff.1 hHeld.2.2).1
  have hss : wd.heap.size < (wd.alloc (.cells #[.int .u16 (x.1 : Int), .int .u16 (x.2 : Int)] 41)).heap.size := by simp
  generalize wd.alloc (.cells #[.int .u16 (x.1 : Int), .int .u16 (x.2 : Int)] 41) = we at *
  go_wp2
  refine bodyPost_ret (results_ct rfl _ _ (u.heap.size + 1) 41 #[.int .u16 (x.1 : Int), .int .u16 (x.2 : Int)] (0, 0) _ (.bool hs) rfl rfl (Tab_set2 hHeld.2.2 _ _) Try.underlying41 rfl (by kernel_rfl)) rfl ⟨rfl, (hHeld.1.setCell (p := ⟨u.heap.size + 1, 0, none⟩) (by show u.heap.size ≤ u.heap.size + 1; omega) _).setCell (p := ⟨u.heap.size + 1, 1, none⟩) (by show u.heap.size ≤ u.heap.size + 1; omega) _⟩
theorem K.grown {u w1 w2 : World} {b c : Nat} {f : Mk} (h : K lo u w1) (hl : lo ≤ u.heap.size) (g : w1.grownBy w2 (some b)) (hb : lo ≤ b) (hm : MapAt w1 b f c) : K lo u w2 :=
  ⟨below_grown h.below hl g hb, fun i x t fr e ht => by
    have e1 := h.cells i x t fr e ht
    refine (g.block i (Array.getElem?_eq_some_iff.1 e1).1 ?_).trans e1
    intro e2; injection e2 with e2; subst e2
    obtain ⟨es, cl, e3⟩ := hm.isMap
    rw [e1] at e3; cases e3⟩
theorem K.src {u w1 w2 : World} {q c : Nat} {f : Mk} (h : K lo u w1) (hl : lo ≤ u.heap.size) (g : w1.grownBy w2 (some q)) (hm : SrcAt lo w1 q f c) : K lo u w2 := by
  obtain ⟨hq, v, hr, -⟩ := hm
  exact ⟨below_grown h.below hl g hq, fun i x t fr e ht => by
    have e1 := h.cells i x t fr e ht
    refine (g.block i (Array.getElem?_eq_some_iff.1 e1).1 ?_).trans e1
    intro e2; injection e2 with e2; subst e2
    rw [hr] at e1; injection e1 with e1; injection e1 with _ e3 _; exact absurd e3.symm ht⟩
theorem drew_grown (w : World) (row : Option Nat) : w.grownBy w.drew row := ⟨rfl, rfl, rfl, Nat.le_refl _, fun _ _ _ => rfl⟩
theorem set_grown (w : World) (a : Addr) (v : Value) : w.grownBy (w.setCell a v) (some a.block) := by
  refine ⟨rfl, rfl, rfl, by simp, fun k _ h => Below.heap_setCell w a v k (by intro e; exact h (by rw [e]))⟩
theorem run_eq_map_nil' (W : World) (r : Option Nat) : (binOp .eql 89 (.map r) (.map none)).run Try.prog W = .ok (.bool r.isNone) W := by
  cases r <;> kernel_rfl
/-- What stands ahead of the update. -/
structure SetP (lo : Nat) (u w : World) (q b a n : Nat) (m : Nat × Nat) (f : Mk) (c : Nat) : Prop where
  k : K lo u w
  qr : w.heap[q]? = some (.cells #[.map (some b)] 91 (0, 0))
  lb : lo ≤ b
  mp : MapAt w b f c
  r0 : w.heap[u.heap.size]? = some (.cells #[.int .u32 (a : Int), .int .u8 (n : Int)] 39 (0, 0))
  r1 : w.heap[u.heap.size + 1]? = some (.cells #[.int .u16 (m.1 : Int), .int .u16 (m.2 : Int)] 41 (0, 0))
set_option maxHeartbeats 1000000 in
theorem set_any (u : World) (q : Nat) (f : Mk) (c : Nat) (h : SrcAt lo u q f c) (hlu : lo ≤ u.heap.size) (a n : Nat) (ha : a < 4294967296) (hn : n < 256) (m : Nat × Nat) (hc : c < 100000) :
    Calls Try.prog 44 #[.pointer (some ⟨q, 0, none⟩), pv a n, mv m] u fun e w' => e = .returned (.tuple #[]) ∧ SrcAt lo w' q (f.put a n m) (if (f a n).isSome then c else c + 1) ∧ K lo u w' := by
  obtain ⟨c', hc'⟩ : ∃ c', c' = if (f a n).isSome then c else c + 1 := ⟨_, rfl⟩
  rw [← hc']
  have HC' := Lib.hid hc'
  clear hc'
  have hq := h.lt
  have hlq := h.1
  have B1 := ((Below.refl u.heap.size u).alloc (Nat.le_refl _) (.cells #[.int .u32 (a : Int), .int .u8 (n : Int)] 39)).alloc (by simp) (.cells #[.int .u16 (m.1 : Int), .int .u16 (m.2 : Int)] 41)
  have hS1 := h.below B1
  have k1 : K lo u ((u.alloc (.cells #[.int .u32 (a : Int), .int .u8 (n : Int)] 39)).alloc (.cells #[.int .u16 (m.1 : Int), .int .u16 (m.2 : Int)] 41)) := K.of B1 hlu
  have r0 : ((u.alloc (.cells #[.int .u32 (a : Int), .int .u8 (n : Int)] 39)).alloc (.cells #[.int .u16 (m.1 : Int), .int .u16 (m.2 : Int)] 41)).heap[u.heap.size]? = some (.cells #[.int .u32 (a : Int), .int .u8 (n : Int)] 39 (0, 0)) := (heap_alloc_old _ (.cells #[.int .u16 (m.1 : Int), .int .u16 (m.2 : Int)] 41) (by simp)).trans (heap_alloc_new u (.cells #[.int .u32 (a : Int), .int .u8 (n : Int)] 39))
  have r1 : ((u.alloc (.cells #[.int .u32 (a : Int), .int .u8 (n : Int)] 39)).alloc (.cells #[.int .u16 (m.1 : Int), .int .u16 (m.2 : Int)] 41)).heap[u.heap.size + 1]? = some (.cells #[.int .u16 (m.1 : Int), .int .u16 (m.2 : Int)] 41 (0, 0)) := heap_new1 u (.cells #[.int .u32 (a : Int), .int .u8 (n : Int)] 39) (.cells #[.int .u16 (m.1 : Int), .int .u16 (m.2 : Int)] 41)
  have hz2 : ((u.alloc (.cells #[.int .u32 (a : Int), .int .u8 (n : Int)] 39)).alloc (.cells #[.int .u16 (m.1 : Int), .int .u16 (m.2 : Int)] 41)).heap.size = u.heap.size + 1 + 1 := by simp
  obtain ⟨-, v, hr, hv⟩ := hS1
  have hq1 := (Array.getElem?_eq_some_iff.1 hr).1
  have hq2 : q ≠ u.heap.size + 1 + 1 := by omega
  unfold pv mv
  rcases hv with ⟨rfl, hf, hc0⟩ | ⟨b, rfl, hb, hm⟩
  · have hS2 : SrcAt lo (((u.alloc (.cells #[.int .u32 (a : Int), .int .u8 (n : Int)] 39)).alloc (.cells #[.int .u16 (m.1 : Int), .int .u16 (m.2 : Int)] 41)).alloc (.map #[] 0)) q f c := ⟨hlq, .map none, (heap_alloc_old _ _ hq1).trans hr, Or.inl ⟨rfl, hf, hc0⟩⟩
    have hG2 := set_grown (((u.alloc (.cells #[.int .u32 (a : Int), .int .u8 (n : Int)] 39)).alloc (.cells #[.int .u16 (m.1 : Int), .int .u16 (m.2 : Int)] 41)).alloc (.map #[] 0)) ⟨q, 0, none⟩ (.map (some (u.heap.size + 1 + 1)))
    obtain ⟨b, HP⟩ : ∃ b, Hid (SetP lo u ((((u.alloc (.cells #[.int .u32 (a : Int), .int .u8 (n : Int)] 39)).alloc (.cells #[.int .u16 (m.1 : Int), .int .u16 (m.2 : Int)] 41)).alloc (.map #[] 0)).setCell ⟨q, 0, none⟩ (.map (some (u.heap.size + 1 + 1)))) q b a n m f c) := by
      refine ⟨u.heap.size + 1 + 1, ?_⟩
      have hM := MapAt.made ((u.alloc (.cells #[.int .u32 (a : Int), .int .u8 (n : Int)] 39)).alloc (.cells #[.int .u16 (m.1 : Int), .int .u16 (m.2 : Int)] 41))
      rw [hz2] at hM
      have hM : MapAt (((u.alloc (.cells #[.int .u32 (a : Int), .int .u8 (n : Int)] 39)).alloc (.cells #[.int .u16 (m.1 : Int), .int .u16 (m.2 : Int)] 41)).alloc (.map #[] 0)) (u.heap.size + 1 + 1) f c := by rw [hf, hc0]; exact hM
      refine Lib.hid ⟨(k1.trans (K.of ((Below.refl _ _).alloc (Nat.le_refl _) _) (Nat.le_trans hlu k1.below.size))).src hlu hG2 hS2, ?_, by omega, hM.kept hG2 (fun e => hq2 (Option.some.inj e).symm), ?_, ?_⟩
      · have := heap_setCell_same _ q 0 _ 91 (.map (some (u.heap.size + 1 + 1))) ((heap_alloc_old ((u.alloc (.cells #[.int .u32 (a : Int), .int .u8 (n : Int)] 39)).alloc (.cells #[.int .u16 (m.1 : Int), .int .u16 (m.2 : Int)] 41)) (.map #[] 0) hq1).trans hr)
        simpa using this
      · exact (hG2.block _ (by simp; try omega) (by intro e; injection e with e; change u.heap.size = q at e; omega)).trans ((heap_alloc_old _ _ (by simp; omega)).trans r0)
      · exact (hG2.block _ (by simp; try omega) (by intro e; injection e with e; change u.heap.size + 1 = q at e; omega)).trans ((heap_alloc_old _ _ (by simp)).trans r1)
    obtain ⟨p0, pf⟩ := row1 ((B1.block q hq).symm.trans hr)
    obtain ⟨p02, pf2⟩ := row1 ((heap_alloc_old ((u.alloc (.cells #[.int .u32 (a : Int), .int .u8 (n : Int)] 39)).alloc (.cells #[.int .u16 (m.1 : Int), .int .u16 (m.2 : Int)] 41)) (.map #[] 0) hq1).trans hr)
    clear hr
    clear hS2 hG2 B1 k1 r0 r1 hz2
    have hmn := fun W => run_eq_map_nil' W none
    have hmm := @run_makeMap Try.prog
    go_enter Try.func44, Try.ntmps44
    clear hf hc0
    go_upto_region 3 with (fail)
    generalize hw9 : World.setCell _ _ _ = w9 at HP ⊢
    clear hw9
    have hMP : MapAt w9.drew b f c := HP.out.mp.kept (drew_grown _ none) (by simp)
    have hK9 : K lo u w9.drew := ⟨HP.out.k.below.drew, HP.out.k.cells⟩
    refine wp_region_noPanic ?_
    refine wp_region_held_drew (S := fun x : World => x.heap[q]? = some (.cells #[.map (some b)] 91 (0, 0)) ∧ x.heap[u.heap.size]? = some (.cells #[.int .u32 (a : Int), .int .u8 (n : Int)] 39 (0, 0)) ∧ x.heap[u.heap.size + 1]? = some (.cells #[.int .u16 (m.1 : Int), .int .u16 (m.2 : Int)] 41 (0, 0))) (by kernel_rfl) ⟨HP.out.qr, HP.out.r0, HP.out.r1⟩ (fun hHeld => ?_)
    generalize w9.drew = wd at *
    obtain ⟨w', hu, hM', hG'⟩ := hMP.put ha hn hc m
    have hne1 : u.heap.size ≠ b := fun e => by obtain ⟨es, cl, e3⟩ := hMP.isMap; rw [← e, hHeld.2.1] at e3; cases e3
    have hne2 : u.heap.size + 1 ≠ b := fun e => by obtain ⟨es, cl, e3⟩ := hMP.isMap; rw [← e, hHeld.2.2] at e3; cases e3
    have hne3 : q ≠ b := fun e => by obtain ⟨es, cl, e3⟩ := hMP.isMap; rw [← e, hHeld.1] at e3; cases e3
    have hHx : w'.heap[q]? = some (.cells #[.map (some b)] 91 (0, 0)) := (hG'.block q (Array.getElem?_eq_some_iff.1 hHeld.1).1 (by intro e; injection e with e; exact hne3 e)).trans hHeld.1
    have hHy : w'.heap[u.heap.size]? = some (.cells #[.int .u32 (a : Int), .int .u8 (n : Int)] 39 (0, 0)) := (hG'.block _ (Array.getElem?_eq_some_iff.1 hHeld.2.1).1 (by intro e; injection e with e; exact hne1 e)).trans hHeld.2.1
    have hHz : w'.heap[u.heap.size + 1]? = some (.cells #[.int .u16 (m.1 : Int), .int .u16 (m.2 : Int)] 41 (0, 0)) := (hG'.block _ (Array.getElem?_eq_some_iff.1 hHeld.2.2).1 (by intro e; injection e with e; exact hne2 e)).trans hHeld.2.2
    have HF := Lib.hid (And.intro (show SrcAt lo w' q (f.put a n m) c' from ⟨hlq, _, hHx, Or.inr ⟨b, rfl, HP.out.lb, HC'.out ▸ hM'⟩⟩) (hK9.grown hlu hG' HP.out.lb hMP))
    have HH := Lib.hid (And.intro hHx (And.intro hHy hHz))
    unfold pv mv at hu
    clear hHx hHy hHz hne1 hne2 hne3 hM' hG' hMP hK9 HP
    refine wpAnyH_take (i := 0) (oi := { dst := some 15, op := Op.move (Operand.tmp 0), type := 46, pos := "source.go:68", after := #[], guard := none }) (v := .pointer (some ⟨q, 0, none⟩)) rfl (by kernel_rfl) (by kernel_rfl) (by kernel_rfl) (fun _ _ _ h => h) (Or.inl ⟨by rfl, fun w hSw => by go_simp⟩) (by assumption) ?_
    try simp only [Act.put, List.setIfInBounds_toArray, List.set_cons_zero, List.set_cons_succ]
    refine wpAnyH_take (i := 1) (oi := { dst := some 16, op := Op.nilCheck (Operand.tmp 15), type := 0, pos := "source.go:68", after := #[{ on := 0, ground := Ground.data }], guard := none }) (v := .pointer (some ⟨q, 0, none⟩)) rfl (by kernel_rfl) (by kernel_rfl) (by kernel_rfl) (fun _ _ _ h => h) (Or.inl ⟨by rfl, fun w hSw => by go_simp⟩) (by assumption) ?_
    try simp only [Act.put, List.setIfInBounds_toArray, List.set_cons_zero, List.set_cons_succ]
    refine wpAnyH_take (i := 2) (oi := { dst := some 17, op := Op.fieldAddr 91 (Operand.tmp 16) 0, type := 0, pos := "source.go:68", after := #[{ on := 1, ground := Ground.data }], guard := none }) (v := .pointer (some ⟨q, 0, none⟩)) rfl (by kernel_rfl) (by kernel_rfl) (by kernel_rfl) (fun _ _ _ h => h) (Or.inl ⟨by rfl, fun w hSw => by go_simp⟩) (by assumption) ?_
    try simp only [Act.put, List.setIfInBounds_toArray, List.set_cons_zero, List.set_cons_succ]
    refine wpAnyH_take (i := 3) (oi := { dst := some 18, op := Op.load 89 (Operand.tmp 17), type := 89, pos := "source.go:68", after := #[{ on := 2, ground := Ground.data }], guard := none }) (v := .map (some b)) rfl (by kernel_rfl) (by kernel_rfl) (by kernel_rfl) (fun _ _ _ h => h) (Or.inl ⟨by rfl, fun w hSw => by obtain ⟨p0, -⟩ := row1 hSw.1; go_simp⟩) (by assumption) ?_
    try simp only [Act.put, List.setIfInBounds_toArray, List.set_cons_zero, List.set_cons_succ]
    refine wpAnyH_take (i := 4) (oi := { dst := some 19, op := Op.load 39 (Operand.tmp 4), type := 39, pos := "source.go:68", after := #[], guard := none }) (v := .agg #[.int .u32 (a : Int), .int .u8 (n : Int)]) rfl (by kernel_rfl) (by kernel_rfl) (by kernel_rfl) (fun _ _ _ h => h) (Or.inl ⟨by rfl, fun w hSw => by obtain ⟨u0, u1, -⟩ := row2 hSw.2.1; go_simp⟩) (by assumption) ?_
    try simp only [Act.put, List.setIfInBounds_toArray, List.set_cons_zero, List.set_cons_succ]
    refine wpAnyH_take (i := 5) (oi := { dst := some 20, op := Op.load 41 (Operand.tmp 5), type := 41, pos := "source.go:68", after := #[], guard := none }) (v := .agg #[.int .u16 (m.1 : Int), .int .u16 (m.2 : Int)]) rfl (by kernel_rfl) (by kernel_rfl) (by kernel_rfl) (fun _ _ _ h => h) (Or.inl ⟨by rfl, fun w hSw => by obtain ⟨u0, u1, -⟩ := row2 hSw.2.2; go_simp⟩) (by assumption) ?_
    try simp only [Act.put, List.setIfInBounds_toArray, List.set_cons_zero, List.set_cons_succ]
    refine wpAnyH_ready (rs := [6]) (by kernel_rfl) (by simp) ?_
    refine AllReadyH.cons (o := { dst := none, op := Op.mapUpdate 89 (Operand.tmp 18) (Operand.tmp 19) (Operand.tmp 20), type := 0, pos := "source.go:68", after := #[{ on := 3, ground := Ground.data }, { on := 4, ground := Ground.data }, { on := 5, ground := Ground.data }, { on := 0, ground := Ground.phase }, { on := 1, ground := Ground.phase }, { on := 2, ground := Ground.phase }, { on := 3, ground := Ground.phase }, { on := 4, ground := Ground.phase }, { on := 5, ground := Ground.phase }], guard := none }) rfl (fun K hK => ?_) AllReadyH.nil
    go_simp
    refine hK.out _ _ HH.out (fun hHeld2 => ?_)
    clear hK K hHeld2 hHeld
    try simp only [Act.put, List.setIfInBounds_toArray, List.set_cons_zero, List.set_cons_succ]
    refine wpAnyH_done (by kernel_rfl) ?_ _
    try unfold NoPanic
    go_wp2
    exact bodyPost_end (v := .tuple #[]) (by simp [results, Try.results44]) rfl ⟨rfl, HF.out.1, HF.out.2⟩
  · have HP : Hid (SetP lo u ((u.alloc (.cells #[.int .u32 (a : Int), .int .u8 (n : Int)] 39)).alloc (.cells #[.int .u16 (m.1 : Int), .int .u16 (m.2 : Int)] 41)) q b a n m f c) := Lib.hid ⟨k1, hr, hb, hm, r0, r1⟩
    obtain ⟨p0, pf⟩ := row1 ((B1.block q hq).symm.trans hr)
    clear hr B1 k1 r0 r1 hz2 hm hb
    have hmn := fun W => run_eq_map_nil' W (some b)
    go_enter Try.func44, Try.ntmps44
    go_upto_region 3 with (fail)
    generalize hw9 : World.alloc _ _ = w9 at HP ⊢
    clear hw9
    have hMP : MapAt w9.drew b f c := HP.out.mp.kept (drew_grown _ none) (by simp)
    have hK9 : K lo u w9.drew := ⟨HP.out.k.below.drew, HP.out.k.cells⟩
    refine wp_region_noPanic ?_
    refine wp_region_held_drew (S := fun x : World => x.heap[q]? = some (.cells #[.map (some b)] 91 (0, 0)) ∧ x.heap[u.heap.size]? = some (.cells #[.int .u32 (a : Int), .int .u8 (n : Int)] 39 (0, 0)) ∧ x.heap[u.heap.size + 1]? = some (.cells #[.int .u16 (m.1 : Int), .int .u16 (m.2 : Int)] 41 (0, 0))) (by kernel_rfl) ⟨HP.out.qr, HP.out.r0, HP.out.r1⟩ (fun hHeld => ?_)
    generalize w9.drew = wd at *
    obtain ⟨w', hu, hM', hG'⟩ := hMP.put ha hn hc m
    have hne1 : u.heap.size ≠ b := fun e => by obtain ⟨es, cl, e3⟩ := hMP.isMap; rw [← e, hHeld.2.1] at e3; cases e3
    have hne2 : u.heap.size + 1 ≠ b := fun e => by obtain ⟨es, cl, e3⟩ := hMP.isMap; rw [← e, hHeld.2.2] at e3; cases e3
    have hne3 : q ≠ b := fun e => by obtain ⟨es, cl, e3⟩ := hMP.isMap; rw [← e, hHeld.1] at e3; cases e3
    have hHx : w'.heap[q]? = some (.cells #[.map (some b)] 91 (0, 0)) := (hG'.block q (Array.getElem?_eq_some_iff.1 hHeld.1).1 (by intro e; injection e with e; exact hne3 e)).trans hHeld.1
    have hHy : w'.heap[u.heap.size]? = some (.cells #[.int .u32 (a : Int), .int .u8 (n : Int)] 39 (0, 0)) := (hG'.block _ (Array.getElem?_eq_some_iff.1 hHeld.2.1).1 (by intro e; injection e with e; exact hne1 e)).trans hHeld.2.1
    have hHz : w'.heap[u.heap.size + 1]? = some (.cells #[.int .u16 (m.1 : Int), .int .u16 (m.2 : Int)] 41 (0, 0)) := (hG'.block _ (Array.getElem?_eq_some_iff.1 hHeld.2.2).1 (by intro e; injection e with e; exact hne2 e)).trans hHeld.2.2
    have HF := Lib.hid (And.intro (show SrcAt lo w' q (f.put a n m) c' from ⟨hlq, _, hHx, Or.inr ⟨b, rfl, HP.out.lb, HC'.out ▸ hM'⟩⟩) (hK9.grown hlu hG' HP.out.lb hMP))
    have HH := Lib.hid (And.intro hHx (And.intro hHy hHz))
    unfold pv mv at hu
    clear hHx hHy hHz hne1 hne2 hne3 hM' hG' hMP hK9 HP
    refine wpAnyH_take (i := 0) (oi := { dst := some 15, op := Op.move (Operand.tmp 0), type := 46, pos := "source.go:68", after := #[], guard := none }) (v := .pointer (some ⟨q, 0, none⟩)) rfl (by kernel_rfl) (by kernel_rfl) (by kernel_rfl) (fun _ _ _ h => h) (Or.inl ⟨by rfl, fun w hSw => by go_simp⟩) (by assumption) ?_
    try simp only [Act.put, List.setIfInBounds_toArray, List.set_cons_zero, List.set_cons_succ]
    refine wpAnyH_take (i := 1) (oi := { dst := some 16, op := Op.nilCheck (Operand.tmp 15), type := 0, pos := "source.go:68", after := #[{ on := 0, ground := Ground.data }], guard := none }) (v := .pointer (some ⟨q, 0, none⟩)) rfl (by kernel_rfl) (by kernel_rfl) (by kernel_rfl) (fun _ _ _ h => h) (Or.inl ⟨by rfl, fun w hSw => by go_simp⟩) (by assumption) ?_
    try simp only [Act.put, List.setIfInBounds_toArray, List.set_cons_zero, List.set_cons_succ]
    refine wpAnyH_take (i := 2) (oi := { dst := some 17, op := Op.fieldAddr 91 (Operand.tmp 16) 0, type := 0, pos := "source.go:68", after := #[{ on := 1, ground := Ground.data }], guard := none }) (v := .pointer (some ⟨q, 0, none⟩)) rfl (by kernel_rfl) (by kernel_rfl) (by kernel_rfl) (fun _ _ _ h => h) (Or.inl ⟨by rfl, fun w hSw => by go_simp⟩) (by assumption) ?_
    try simp only [Act.put, List.setIfInBounds_toArray, List.set_cons_zero, List.set_cons_succ]
    refine wpAnyH_take (i := 3) (oi := { dst := some 18, op := Op.load 89 (Operand.tmp 17), type := 89, pos := "source.go:68", after := #[{ on := 2, ground := Ground.data }], guard := none }) (v := .map (some b)) rfl (by kernel_rfl) (by kernel_rfl) (by kernel_rfl) (fun _ _ _ h => h) (Or.inl ⟨by rfl, fun w hSw => by obtain ⟨p0, -⟩ := row1 hSw.1; go_simp⟩) (by assumption) ?_
    try simp only [Act.put, List.setIfInBounds_toArray, List.set_cons_zero, List.set_cons_succ]
    refine wpAnyH_take (i := 4) (oi := { dst := some 19, op := Op.load 39 (Operand.tmp 4), type := 39, pos := "source.go:68", after := #[], guard := none }) (v := .agg #[.int .u32 (a : Int), .int .u8 (n : Int)]) rfl (by kernel_rfl) (by kernel_rfl) (by kernel_rfl) (fun _ _ _ h => h) (Or.inl ⟨by rfl, fun w hSw => by obtain ⟨u0, u1, -⟩ := row2 hSw.2.1; go_simp⟩) (by assumption) ?_
    try simp only [Act.put, List.setIfInBounds_toArray, List.set_cons_zero, List.set_cons_succ]
    refine wpAnyH_take (i := 5) (oi := { dst := some 20, op := Op.load 41 (Operand.tmp 5), type := 41, pos := "source.go:68", after := #[], guard := none }) (v := .agg #[.int .u16 (m.1 : Int), .int .u16 (m.2 : Int)]) rfl (by kernel_rfl) (by kernel_rfl) (by kernel_rfl) (fun _ _ _ h => h) (Or.inl ⟨by rfl, fun w hSw => by obtain ⟨u0, u1, -⟩ := row2 hSw.2.2; go_simp⟩) (by assumption) ?_
    try simp only [Act.put, List.setIfInBounds_toArray, List.set_cons_zero, List.set_cons_succ]
    refine wpAnyH_ready (rs := [6]) (by kernel_rfl) (by simp) ?_
    refine AllReadyH.cons (o := { dst := none, op := Op.mapUpdate 89 (Operand.tmp 18) (Operand.tmp 19) (Operand.tmp 20), type := 0, pos := "source.go:68", after := #[{ on := 3, ground := Ground.data }, { on := 4, ground := Ground.data }, { on := 5, ground := Ground.data }, { on := 0, ground := Ground.phase }, { on := 1, ground := Ground.phase }, { on := 2, ground := Ground.phase }, { on := 3, ground := Ground.phase }, { on := 4, ground := Ground.phase }, { on := 5, ground := Ground.phase }], guard := none }) rfl (fun K hK => ?_) AllReadyH.nil
    go_simp
    refine hK.out _ _ HH.out (fun hHeld2 => ?_)
    clear hK K hHeld2 hHeld
    try simp only [Act.put, List.setIfInBounds_toArray, List.set_cons_zero, List.set_cons_succ]
    refine wpAnyH_done (by kernel_rfl) ?_ _
    try unfold NoPanic
    go_wp2
    exact bodyPost_end (v := .tuple #[]) (by simp [results, Try.results44]) rfl ⟨rfl, HF.out.1, HF.out.2⟩
end Go.Proofs.Ytkbhmdoichiinaa.Src

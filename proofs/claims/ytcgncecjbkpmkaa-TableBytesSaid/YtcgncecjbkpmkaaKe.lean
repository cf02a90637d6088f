/- The small methods of a table. -/
import Derived.Test.YtcgncecjbkpmkaaKd
namespace Go.Proofs.Ytcgncecjbkpmkaa.Tab
open Pre Ser Chg
open Go.ChangeShapes Go.WideShapes Go.ChangeAt Go.RowKit
set_option maxRecDepth 8000

theorem T.Ok.lens {t : T} (h : t.Ok) : ∀ r ∈ t.rows, r.len ≤ 32 := fun r hr => (h.ok r hr).2.1
theorem new_any (w : World) : Calls Try.prog 23 #[] w fun e w' => e = .returned (.pointer (some ⟨w.heap.size, 0, none⟩)) ∧ w' = w.alloc (.cells #[.slice none 0 0, .int .u64 0, .int .u64 0] 70) := by
  go_enter Try.func23, Try.ntmps23
  go_wp2
  go_ret
  exact ⟨rfl, rfl⟩
theorem TabAt.new (w : World) : TabAt (w.alloc (.cells #[.slice none 0 0, .int .u64 0, .int .u64 0] 70)) w.heap.size w.heap.size T.new (.slice none 0 0) :=
  ⟨heap_alloc_new w _, ROwn.nil _ _, (by intro e; cases e), Nat.le_refl _⟩
theorem last_any (w : World) (B q : Nat) (t : T) (v : Value) (h : TabAt w B q t v) : Calls Try.prog 9 #[.pointer (some ⟨q, 0, none⟩)] w fun e w' => e = .returned (.tuple #[.int .u64 (t.no : Int), .int .u64 (t.time : Int)]) ∧ Below w.heap.size w w' := by
  obtain ⟨k0, k1, k2⟩ := row3 h.row
  clear h
  go_enter Try.func9, Try.ntmps9
  go_wp2
  go_region
  go_wp2
  exact bodyPost_ret (v := .tuple #[.int .u64 (t.no : Int), .int .u64 (t.time : Int)]) (by simp [results, Try.results9, go_sem]) rfl ⟨rfl, (Below.refl _ _).drew⟩
theorem find_any (w : World) (B q : Nat) (t : T) (v : Value) (h : TabAt w B q t v) (ht : t.Ok) (hm : t.rows.length ≤ 1000000) (b k : Nat) (hk : k ≤ 32) :
    Calls Try.prog 25 #[.pointer (some ⟨q, 0, none⟩), .agg #[.int .u32 (b : Int), .int .u8 (k : Int)]] w fun e w' => e = .returned (.tuple #[.int .i64 ((pos (key b k) t.rows : Nat) : Int), .bool (thereB (key b k) t.rows)]) ∧ Below w.heap.size w w' := by
  obtain ⟨A, cp, hv, hsl, _⟩ := h.own.form
  have HT := Lib.hid h
  have HR := Lib.hid (And.intro ht hsl)
  have R0 := heap_alloc_new w (.cells #[.int .u32 (b : Int), .int .u8 (k : Int)] 33)
  have B0 : Below w.heap.size w (w.alloc (.cells #[.int .u32 (b : Int), .int .u8 (k : Int)] 33)) := (Below.refl _ _).alloc (Nat.le_refl _) _
  have HB0 := Lib.hid B0
  have hq := h.lt
  clear hsl h ht
  subst hv
  go_enter Try.func25, Try.ntmps25
  go_upto_region 1 with (fail)
  generalize w.alloc _ = w1 at *
  refine wp_region_noPanic ?_
  refine wp_region_held_drew (S := fun W : World => Below w.heap.size w W ∧ W.heap[w.heap.size]? = some (.cells #[.int .u32 (b : Int), .int .u8 (k : Int)] 33 (0, 0))) (by kernel_rfl) ⟨B0.drew, R0⟩ (fun hHeld => ?_)
  generalize w1.drew = wd at *
  refine wpAnyH_take (i := 0) (oi := { dst := some 6, op := Op.move (Operand.tmp 0), type := 26, pos := "table.go:73", after := #[], guard := none }) (v := .pointer (some ⟨q, 0, none⟩)) rfl (by kernel_rfl) (by kernel_rfl) (by kernel_rfl) (fun _ _ _ h => h) (Or.inl ⟨by rfl, fun w hSw => by go_simp⟩) (by assumption) ?_
  try simp only [Act.put, List.setIfInBounds_toArray, List.set_cons_zero, List.set_cons_succ]
  refine wpAnyH_take (i := 1) (oi := { dst := some 7, op := Op.nilCheck (Operand.tmp 6), type := 0, pos := "table.go:73", after := #[{ on := 0, ground := Ground.data }], guard := none }) (v := .pointer (some ⟨q, 0, none⟩)) rfl (by kernel_rfl) (by kernel_rfl) (by kernel_rfl) (fun _ _ _ h => h) (Or.inl ⟨by rfl, fun w hSw => by go_simp⟩) (by assumption) ?_
  try simp only [Act.put, List.setIfInBounds_toArray, List.set_cons_zero, List.set_cons_succ]
  refine wpAnyH_take (i := 2) (oi := { dst := some 8, op := Op.fieldAddr 70 (Operand.tmp 7) 0, type := 0, pos := "table.go:73", after := #[{ on := 1, ground := Ground.data }], guard := none }) (v := .pointer (some ⟨q, 0, none⟩)) rfl (by kernel_rfl) (by kernel_rfl) (by kernel_rfl) (fun _ _ _ h => h) (Or.inl ⟨by rfl, fun w hSw => by go_simp⟩) (by assumption) ?_
  try simp only [Act.put, List.setIfInBounds_toArray, List.set_cons_zero, List.set_cons_succ]
  refine wpAnyH_take (i := 3) (oi := { dst := some 9, op := Op.load 48 (Operand.tmp 8), type := 48, pos := "table.go:73", after := #[{ on := 2, ground := Ground.data }], guard := none }) (v := .slice A t.rows.length cp) rfl (by kernel_rfl) (by kernel_rfl) (by kernel_rfl) (fun _ _ _ h => h) (Or.inl ⟨by rfl, fun w hSw => by obtain ⟨k0, k1, k2⟩ := row3 (HT.out.kept hSw.1).row; go_simp⟩) (by assumption) ?_
  try simp only [Act.put, List.setIfInBounds_toArray, List.set_cons_zero, List.set_cons_succ]
  refine wpAnyH_take (i := 4) (oi := { dst := some 10, op := Op.load 33 (Operand.tmp 3), type := 33, pos := "table.go:73", after := #[], guard := none }) (v := .agg #[.int .u32 (b : Int), .int .u8 (k : Int)]) rfl (by kernel_rfl) (by kernel_rfl) (by kernel_rfl) (fun _ _ _ h => h) (Or.inl ⟨by rfl, fun w hSw => by obtain ⟨k0, k1⟩ := row2 hSw.2; go_simp⟩) (by assumption) ?_
  try simp only [Act.put, List.setIfInBounds_toArray, List.set_cons_zero, List.set_cons_succ]
  refine wpAnyH_ready (rs := [5]) (by kernel_rfl) (by simp) ?_
  refine AllReadyH.cons (o := { dst := some 11, op := Op.call { callee := Callee.value (Operand.func 44), args := #[Operand.tmp 9, Operand.tmp 10, Operand.func 45], argTypes := #[48, 33, 95] }, type := 73, pos := "table.go:73", after := #[{ on := 3, ground := Ground.data }, { on := 4, ground := Ground.data }], guard := none }) rfl (fun K hK => ?_) AllReadyH.nil
  go_simp
  with_reducible refine (bsf_any _ A t.rows.length cp t.rows rfl hm (HR.out.2.below hHeld.1) HR.out.1.up HR.out.1.lens b k hk).mono ?_
  rintro e w3 ⟨rfl, B3⟩
  have h3 := hHeld.1.trans (B3.mono hHeld.1.size)
  have h4 : w3.heap[w.heap.size]? = _ := (B3.block _ (Array.getElem?_eq_some_iff.1 hHeld.2).1).trans hHeld.2
  refine hK.out _ _ (⟨h3, h4⟩) (fun hHeld => ?_)
  clear hK K
  try simp only [Act.put, List.setIfInBounds_toArray, List.set_cons_zero, List.set_cons_succ]
  refine wpAnyH_take (i := 6) (oi := { dst := some 12, op := Op.extract (Operand.tmp 11) 0, type := 3, pos := "table.go:73", after := #[{ on := 5, ground := Ground.data }], guard := none }) (v := .int .i64 ((pos (key b k) t.rows : Nat) : Int)) rfl (by kernel_rfl) (by kernel_rfl) (by kernel_rfl) (fun _ _ _ h => h) (Or.inl ⟨by rfl, fun w hSw => by go_simp⟩) (by assumption) ?_
  try simp only [Act.put, List.setIfInBounds_toArray, List.set_cons_zero, List.set_cons_succ]
  refine wpAnyH_take (i := 7) (oi := { dst := some 13, op := Op.extract (Operand.tmp 11) 1, type := 4, pos := "table.go:73", after := #[{ on := 5, ground := Ground.data }], guard := none }) (v := .bool (thereB (key b k) t.rows)) rfl (by kernel_rfl) (by kernel_rfl) (by kernel_rfl) (fun _ _ _ h => h) (Or.inl ⟨by rfl, fun w hSw => by go_simp⟩) (by assumption) ?_
  try simp only [Act.put, List.setIfInBounds_toArray, List.set_cons_zero, List.set_cons_succ]
  refine wpAnyH_take (i := 8) (oi := { dst := some 4, op := Op.assign (Operand.tmp 12), type := 3, pos := "table.go:73", after := #[{ on := 6, ground := Ground.data }, { on := 5, ground := Ground.chain }, { on := 0, ground := Ground.phase }, { on := 1, ground := Ground.phase }, { on := 2, ground := Ground.phase }, { on := 3, ground := Ground.phase }, { on := 4, ground := Ground.phase }, { on := 5, ground := Ground.phase }, { on := 6, ground := Ground.phase }, { on := 7, ground := Ground.phase }], guard := none }) (v := .int .i64 ((pos (key b k) t.rows : Nat) : Int)) rfl (by kernel_rfl) (by kernel_rfl) (by kernel_rfl) (fun _ _ _ h => h) (Or.inl ⟨by rfl, fun w hSw => by go_simp⟩) (by assumption) ?_
  try simp only [Act.put, List.setIfInBounds_toArray, List.set_cons_zero, List.set_cons_succ]
  refine wpAnyH_take (i := 9) (oi := { dst := some 5, op := Op.assign (Operand.tmp 13), type := 4, pos := "table.go:73", after := #[{ on := 7, ground := Ground.data }, { on := 8, ground := Ground.chain }, { on := 0, ground := Ground.phase }, { on := 1, ground := Ground.phase }, { on := 2, ground := Ground.phase }, { on := 3, ground := Ground.phase }, { on := 4, ground := Ground.phase }, { on := 5, ground := Ground.phase }, { on := 6, ground := Ground.phase }, { on := 7, ground := Ground.phase }, { on := 8, ground := Ground.phase }], guard := none }) (v := .bool (thereB (key b k) t.rows)) rfl (by kernel_rfl) (by kernel_rfl) (by kernel_rfl) (fun _ _ _ h => h) (Or.inl ⟨by rfl, fun w hSw => by go_simp⟩) (by assumption) ?_
  try simp only [Act.put, List.setIfInBounds_toArray, List.set_cons_zero, List.set_cons_succ]
  refine wpAnyH_done (by kernel_rfl) ?_ _
  try unfold NoPanic
  go_wp2
  exact bodyPost_ret (v := .tuple #[.int .i64 ((pos (key b k) t.rows : Nat) : Int), .bool (thereB (key b k) t.rows)]) (by simp [results, Try.results25, go_sem]) rfl ⟨rfl, hHeld.1⟩
end Go.Proofs.Ytcgncecjbkpmkaa.Tab

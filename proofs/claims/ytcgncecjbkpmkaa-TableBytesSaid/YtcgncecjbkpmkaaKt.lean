/- A table's Row. -/
import Derived.Test.YtcgncecjbkpmkaaKs
namespace Go.Proofs.Ytcgncecjbkpmkaa.Tab
open Pre Ser Chg
open Go.ChangeShapes Go.WideShapes Go.ChangeAt Go.RowKit
set_option maxRecDepth 8000

theorem look_none {x : Nat} {rs : List R} (h : look x rs = none) : thereB x rs = false := by
  cases ht : thereB x rs
  · rfl
  · obtain ⟨hp, he⟩ := there_yes ht
    have := List.find?_eq_none.1 h _ (List.getElem_mem hp)
    simp [he] at this
theorem trow_no (w : World) (B q : Nat) (t : T) (v : Value) (h : TabAt w B q t v) (ht : t.Ok) (hlen : t.rows.length ≤ 1000) (b k : Nat) (hk : k ≤ 32) (hl : look (key b k) t.rows = none) :
    Calls Try.prog 11 #[.pointer (some ⟨q, 0, none⟩), .agg #[.int .u32 (b : Int), .int .u8 (k : Int)]] w fun e w' => e = .returned (.tuple #[.agg #[.int .u32 0, .int .u8 0, .bool false, .int .u32 0, .int .u8 0, .int .i64 0, .int .u16 0, .int .u16 0, .int .u16 0, .int .u16 0], .bool false]) ∧ Below w.heap.size w w' := by
  have hth := look_none hl
  have R0 : ((w.alloc (.cells #[.int .u32 (b : Int), .int .u8 (k : Int)] 33)).alloc (.cells #[.int .u32 0, .int .u8 0, .bool false, .int .u32 0, .int .u8 0, .int .i64 0, .int .u16 0, .int .u16 0, .int .u16 0, .int .u16 0] 43)).heap[w.heap.size]? = some (.cells #[.int .u32 (b : Int), .int .u8 (k : Int)] 33 (0, 0)) := heap_new0 ..
  have R1 : ((w.alloc (.cells #[.int .u32 (b : Int), .int .u8 (k : Int)] 33)).alloc (.cells #[.int .u32 0, .int .u8 0, .bool false, .int .u32 0, .int .u8 0, .int .i64 0, .int .u16 0, .int .u16 0, .int .u16 0, .int .u16 0] 43)).heap[w.heap.size + 1]? = some (.cells #[.int .u32 0, .int .u8 0, .bool false, .int .u32 0, .int .u8 0, .int .i64 0, .int .u16 0, .int .u16 0, .int .u16 0, .int .u16 0] 43 (0, 0)) := heap_new1 ..
  have B0 : Below w.heap.size w ((w.alloc (.cells #[.int .u32 (b : Int), .int .u8 (k : Int)] 33)).alloc (.cells #[.int .u32 0, .int .u8 0, .bool false, .int .u32 0, .int .u8 0, .int .i64 0, .int .u16 0, .int .u16 0, .int .u16 0, .int .u16 0] 43)) := ((Below.refl _ _).alloc (Nat.le_refl _) _).alloc (by simp) _
  obtain ⟨k0, k1⟩ := row2 R0
  have HT := Lib.hid (And.intro (h.kept B0) (And.intro ht (And.intro R1 B0)))
  clear h ht hl R0 R1 B0
  go_enter Try.func11, Try.ntmps11
  go_upto_region 3 with (fail)
  generalize (w.alloc _).alloc _ = w1 at *
  go_wp2_with (go_at_call 25; (with_reducible refine (find_any _ B q t v HT.out.1 HT.out.2.1 (by omega) b k hk).mono ?_); rintro e w2 ⟨rfl, B2⟩; have R2 := (B2.block _ (Array.getElem?_eq_some_iff.1 HT.out.2.2.1).1).trans HT.out.2.2.1; obtain ⟨⟨l0, l1, l2, l3, l4, l5, l6, l7, l8, l9⟩, lf⟩ := row10 R2; have HB := Lib.hid (And.intro R2 (HT.out.2.2.2.trans (B2.mono HT.out.2.2.2.size))); clear B2 R2 k0 k1)
  exact bodyPost_ret (res52_tmp rfl _ _ (w.heap.size + 1) 43 _ (0, 0) rfl (Chg.put10 HB.out.1 ..) rfl) rfl ⟨rfl, below10 HB.out.2 (by omega) ..⟩
theorem trow_yes (w : World) (B q : Nat) (t : T) (v : Value) (h : TabAt w B q t v) (ht : t.Ok) (hlen : t.rows.length ≤ 1000) (b k : Nat) (hk : k ≤ 32) (r : R) (hl : look (key b k) t.rows = some r) :
    Calls Try.prog 11 #[.pointer (some ⟨q, 0, none⟩), .agg #[.int .u32 (b : Int), .int .u8 (k : Int)]] w fun e w' => e = .returned (.tuple #[.agg #[.int .u32 (r.addr : Int), .int .u8 (r.len : Int), .bool r.has, .int .u32 (r.addr : Int), .int .u8 (r.len : Int), .int .i64 (r.via : Int), .int .u16 (r.metric : Int), .int .u16 (r.seq : Int), .int .u16 (r.ms : Int), .int .u16 (r.mm : Int)], .bool true]) ∧ Below w.heap.size w w' := by
  obtain ⟨hth, hp, hr⟩ := look_there ht.up hl
  have R0 : ((w.alloc (.cells #[.int .u32 (b : Int), .int .u8 (k : Int)] 33)).alloc (.cells #[.int .u32 0, .int .u8 0, .bool false, .int .u32 0, .int .u8 0, .int .i64 0, .int .u16 0, .int .u16 0, .int .u16 0, .int .u16 0] 43)).heap[w.heap.size]? = some (.cells #[.int .u32 (b : Int), .int .u8 (k : Int)] 33 (0, 0)) := heap_new0 ..
  have R1 : ((w.alloc (.cells #[.int .u32 (b : Int), .int .u8 (k : Int)] 33)).alloc (.cells #[.int .u32 0, .int .u8 0, .bool false, .int .u32 0, .int .u8 0, .int .i64 0, .int .u16 0, .int .u16 0, .int .u16 0, .int .u16 0] 43)).heap[w.heap.size + 1]? = some (.cells #[.int .u32 0, .int .u8 0, .bool false, .int .u32 0, .int .u8 0, .int .i64 0, .int .u16 0, .int .u16 0, .int .u16 0, .int .u16 0] 43 (0, 0)) := heap_new1 ..
  have B0 : Below w.heap.size w ((w.alloc (.cells #[.int .u32 (b : Int), .int .u8 (k : Int)] 33)).alloc (.cells #[.int .u32 0, .int .u8 0, .bool false, .int .u32 0, .int .u8 0, .int .i64 0, .int .u16 0, .int .u16 0, .int .u16 0, .int .u16 0] 43)) := ((Below.refl _ _).alloc (Nat.le_refl _) _).alloc (by simp) _
  obtain ⟨k0, k1⟩ := row2 R0
  obtain ⟨A, cp, hv, hsl, -⟩ := h.own.form
  obtain ⟨bb, oo, ea, hb, hca⟩ := hsl _ hp
  rw [hr] at hca
  obtain ⟨p, hpp⟩ : ∃ p, p = pos (key b k) t.rows := ⟨_, rfl⟩
  have hf := fun W hW => find_any W B q t v hW ht (by omega) b k hk
  rw [← hpp] at hp hf hca
  rw [hth] at hf
  have HF := Lib.hid hf
  subst hv ea
  have hqw := h.lt
  have HT := Lib.hid (And.intro (h.kept B0) (And.intro hca (And.intro R1 B0)))
  clear h ht hl R0 R1 B0 hth hr hpp hf hca hsl
  go_enter Try.func11, Try.ntmps11
  go_upto_region 3 with (fail)
  generalize (w.alloc _).alloc _ = w1 at *
  go_wp2_with (go_at_call 25; (with_reducible refine (HF.out _ HT.out.1).mono ?_); rintro e w2 ⟨rfl, B2⟩; have R2 := (B2.block _ (Array.getElem?_eq_some_iff.1 HT.out.2.2.1).1).trans HT.out.2.2.1; obtain ⟨⟨l0, l1, l2, l3, l4, l5, l6, l7, l8, l9⟩, lf⟩ := row10 R2; have HB := Lib.hid (And.intro R2 (HT.out.2.2.2.trans (B2.mono HT.out.2.2.2.size))); obtain ⟨t0, t1, t2⟩ := row3 (HT.out.1.kept B2).row; obtain ⟨r0, r1, r2, r3, r4, r5, r6, r7, r8, r9⟩ := HT.out.2.1.keep (HB.out.2.block bb hb); clear B2 R2 k0 k1)
  exact bodyPost_ret (res52_tmp rfl _ _ (w.heap.size + 1) 43 _ (0, 0) rfl (Chg.put10 HB.out.1 ..) rfl) rfl ⟨rfl, below10 HB.out.2 (by omega) ..⟩
end Go.Proofs.Ytcgncecjbkpmkaa.Tab

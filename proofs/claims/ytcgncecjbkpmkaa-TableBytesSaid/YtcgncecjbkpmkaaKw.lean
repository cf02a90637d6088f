/- The document's example of tables. -/
import Derived.Test.YtcgncecjbkpmkaaKs
namespace Go.Proofs.Ytcgncecjbkpmkaa.Tab
open Pre Ser Chg
open Go.ChangeShapes Go.WideShapes Go.ChangeAt Go.RowKit
set_option maxRecDepth 8000

def a1 : C := ⟨1, 0, false, 167772160, 8, 0, 0, 0⟩
def a2 : C := ⟨2, 0, true, 167772160, 8, 0, 0, 0⟩
theorem a1_ok : a1.Ok := ⟨by decide, by decide, by decide, by decide, by decide, by decide, by decide, by decide, fun h => by cases h⟩
theorem a2_ok : a2.Ok := ⟨by decide, by decide, by decide, by decide, by decide, by decide, by decide, by decide, fun _ => ⟨rfl, rfl, rfl⟩⟩
theorem t1_ok : (T.new.put a1).Ok := T.Ok.new.put a1_ok
theorem t2_ok : ((T.new.put a1).put a2).Ok := t1_ok.put a2_ok
theorem ap1 (W : World) (B q : Nat) (v : Value) (h : TabAt W B q T.new v) :
    Calls Try.prog 22 #[.pointer (some ⟨q, 0, none⟩), .agg #[.int .u64 1, .int .u64 0, .bool false, .int .u32 167772160, .int .u8 8, .int .i64 0, .int .u16 0, .int .u16 0]] W (PutSaid W B q v.ownBlock (T.new.put a1)) :=
  apply_any W B q T.new v a1 h T.Ok.new a1_ok rfl (Nat.le_refl _) (fun h => by cases h) (by decide)
theorem ap2 (W : World) (B q : Nat) (v : Value) (h : TabAt W B q (T.new.put a1) v) :
    Calls Try.prog 22 #[.pointer (some ⟨q, 0, none⟩), .agg #[.int .u64 2, .int .u64 0, .bool true, .int .u32 167772160, .int .u8 8, .int .i64 0, .int .u16 0, .int .u16 0]] W (PutSaid W B q v.ownBlock ((T.new.put a1).put a2)) :=
  apply_any W B q _ v a2 h t1_ok a2_ok rfl (Nat.le_refl _) (fun _ => ⟨R.first a1, rfl, rfl⟩) (by decide)
theorem t2_rows : ((T.new.put a1).put a2).rows = [(R.first a1).next a2] := rfl
theorem awake_any (w : World) : Calls Try.prog 6 #[] w fun e w' => e = .returned (.bool true) ∧ Below w.heap.size w w' := by
  have T0 := TabAt.new w
  have HT := Lib.hid T0
  have B0 : Below w.heap.size w (w.alloc (.cells #[.slice none 0 0, .int .u64 0, .int .u64 0] 70)) := (Below.refl _ _).alloc (Nat.le_refl _) _
  have HB := Lib.hid B0
  have s0 : (w.alloc (.cells #[.slice none 0 0, .int .u64 0, .int .u64 0] 70)).heap.size = w.heap.size + 1 := by simp
  clear T0 B0
  have HX : Hid (∀ (W w' : World), (∀ k : Nat, k < W.heap.size → k ≠ w.heap.size → (none : Option Nat) ≠ some k → w'.heap[k]? = W.heap[k]?) → ∀ o, W.heap[w.heap.size + 1]? = some o → w'.heap[w.heap.size + 1]? = some o) :=
    fun W w' h o ho => (h _ (Array.getElem?_eq_some_iff.1 ho).1 (by omega) (by intro e; cases e)).trans ho
  go_enter Try.func6, Try.ntmps6
  go_wp2_with (first
    | (go_at_call 23; (with_reducible refine (new_any _).mono ?_); rintro e w1 ⟨rfl, rfl⟩; generalize w.alloc _ = w1 at *)
    | (go_at_call 22; (with_reducible refine (ap1 (w1.alloc (.cells #[.int .u32 167772160, .int .u8 8] 33)) w.heap.size w.heap.size (.slice none 0 0) (HT.out.kept ((Below.refl _ _).alloc (Nat.le_refl _) _))).mono ?_); rintro e w2 ⟨v2, rfl, T2, B2, O2⟩; have P2 : w2.heap[w.heap.size + 1]? = some (.cells #[.int .u32 167772160, .int .u8 8] 33 (0, 0)) := (HX.out _ _ O2 _ (by have := heap_alloc_new w1 (.cells #[.int .u32 167772160, .int .u8 8] 33); rwa [s0] at this)); have HZ2 := Lib.hid (And.intro T2 ((HB.out.alloc HB.out.size _).trans B2)); obtain ⟨p0, p1⟩ := row2 P2; clear T2 B2 O2 P2)
    | (go_at_call 22; (with_reducible refine (ap2 _ w.heap.size w.heap.size v2 HZ2.out.1).mono ?_); rintro e w3 ⟨v3, rfl, T3, B3, -⟩; have HZ3 := Lib.hid (And.intro T3 (HZ2.out.2.trans B3)); clear T3 B3 p0 p1)
    | (go_at_call 17; (with_reducible refine (routes_any _ w.heap.size w.heap.size _ v3 HZ3.out.1 (by decide)).mono ?_); rintro e w4 ⟨v4, rfl, O4, B4⟩; obtain ⟨A4, c4, hv4⟩ := O4.form; have e4 : ((T.new.put a1).put a2).rows.filter (·.has) = [] := rfl; rw [e4] at hv4; subst hv4; have HZ4 := Lib.hid (And.intro (HZ3.out.1.kept B4) (HZ3.out.2.trans (B4.mono HZ3.out.2.size))); clear O4 B4 e4)
    | (go_at_call 14; (with_reducible refine (rows_any _ w.heap.size w.heap.size _ v3 HZ4.out.1 (by decide)).mono ?_); rintro e w5 ⟨v5, rfl, O5, B5⟩; obtain ⟨A5, c5, hv5, -, -⟩ := O5.form; have e5 : ((T.new.put a1).put a2).rows.length = 1 := rfl; rw [e5] at hv5; subst hv5; have HZ5 := Lib.hid (HZ4.out.2.trans (B5.mono HZ4.out.2.size)); clear O5 B5 e5))
  go_ret
  exact ⟨rfl, HZ5.out⟩
end Go.Proofs.Ytcgncecjbkpmkaa.Tab

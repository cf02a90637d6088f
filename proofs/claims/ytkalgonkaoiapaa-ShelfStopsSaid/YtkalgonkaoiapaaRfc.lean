/- The document's own shelf: an act more. -/
import Derived.Test.YtkalgonkaoiapaaRfb
import Derived.Laws.ResultCell
import Derived.Laws.Rows
namespace Go.Proofs.Ytkalgonkaoiapaa.Shf
open Go.ChangeShapes Go.WideShapes Go.ChangeAt Go.RowKit

def isSl (v : Value) : Prop := ∃ A n c, v = .slice A n c
def RfV (lv nv wv : Value) (room left : Int) (off : Bool) (done : Int) : Value := .agg #[lv, nv, wv, .int .i64 room, .int .i64 left, .bool off, .int .i64 done]
theorem below2 (w : World) (x y : Obj) : Below w.heap.size w ((w.alloc x).alloc y) := ((Below.refl _ w).alloc (Nat.le_refl _) _).alloc (by simp) _
theorem info35 : (Try.prog.info? 35).map (·.size) = some 7 := by kernel_rfl
theorem isrow35 : (match (Try.prog.underlying 35) with | some (.struct _) | some (.array _ _) => true | _ => false) = true := by kernel_rfl
theorem res35_tmp {fn : Func} {p u : Tmp} (h : fn.results = #[.cell p 35, .tmp u]) (tmps : Array Value) (w : World) (g : Nat) (t : TypeId) (cs : Array Value) (fr : Nat × Nat)
    (hp : tmps.getD p undef = .pointer (some ⟨g, 0, none⟩)) (hg : w.heap[g]? = some (.cells cs t fr)) (h7 : cs.size = 7) :
    (results fn tmps).run Try.prog w = .ok (.tuple #[.agg cs, tmps.getD u undef]) w := by
  obtain ⟨d, hu, hd⟩ : ∃ d, Try.prog.underlying 35 = some d ∧ (match d with | .struct _ | .array _ _ => true | _ => false) = true := by
    have h := isrow35
    cases e : Try.prog.underlying 35 with
    | none => rw [e] at h; cases h
    | some d => rw [e] at h; exact ⟨d, rfl, by cases d <;> first | rfl | cases h⟩
  rw [results_cell_tmp h, hp]
  simp [asAddr, Result.andThen, run_loadVar_row w g t 35 cs fr d hg hu (by cases d <;> first | rfl | cases hd) (by rw [info35, h7])]
theorem res35 {fn : Func} {p : Tmp} (h : fn.results = #[.cell p 35]) (tmps : Array Value) (w : World) (g : Nat) (t : TypeId) (cs : Array Value) (fr : Nat × Nat)
    (hp : tmps.getD p undef = .pointer (some ⟨g, 0, none⟩)) (hg : w.heap[g]? = some (.cells cs t fr)) (h7 : cs.size = 7) :
    (results fn tmps).run Try.prog w = .ok (.agg cs) w := by
  obtain ⟨d, hu, hd⟩ : ∃ d, Try.prog.underlying 35 = some d ∧ (match d with | .struct _ | .array _ _ => true | _ => false) = true := by
    have h := isrow35
    cases e : Try.prog.underlying 35 with
    | none => rw [e] at h; cases h
    | some d => rw [e] at h; exact ⟨d, rfl, by cases d <;> first | rfl | cases h⟩
  exact results_cell_row h tmps w g t cs fr d hp hg hu (by cases d <;> first | rfl | cases hd) (by rw [info35, h7])
set_option maxRecDepth 4000 in
theorem xact_any (w : World) (lv nv wv : Value) (room left : Int) (off : Bool) (done : Int) (h1 : isSl lv) (h2 : isSl nv) (h3 : isSl wv) (hd : 0 ≤ done ∧ done < 1000000000) (hl : -1 ≤ left ∧ left ≤ 1000) :
    Calls Try.prog 55 #[RfV lv nv wv room left off done] w fun e w' =>
      e = .returned (.tuple #[if off = true ∨ left = 0 then RfV lv nv wv room left true done else RfV lv nv wv room (if 0 < left then left - 1 else left) off (done + 1), .bool (!decide (off = true ∨ left = 0))]) ∧ Below w.heap.size w w' := by
  obtain ⟨A1, n1, c1, rfl⟩ := h1
  obtain ⟨A2, n2, c2, rfl⟩ := h2
  obtain ⟨A3, n3, c3, rfl⟩ := h3
  unfold RfV
  have hw1 : IntKind.i64.wrap (left - 1) = left - 1 := by rw [IntKind.wrap_i64] <;> omega
  have hw2 : IntKind.i64.wrap (done + 1) = done + 1 := by rw [IntKind.wrap_i64] <;> omega
  by_cases hf : off = true ∨ left = 0
  · rw [if_pos hf, decide_eq_true hf]
    rcases hf with rfl | rfl
    · go_enter Try.func55, Try.ntmps55
      go_wp2
      (try simp only [Exit.inBlock, Exit.then]); refine bodyPost_ret (res35_tmp rfl _ _ (w.heap.size + 1) 35 _ (0, 0) rfl (heap_alloc2_new w _ _) rfl) rfl ?_
      exact ⟨rfl, below2 ..⟩
    · clear hl hw1 hw2
      cases off
      · go_enter Try.func55, Try.ntmps55
        go_wp2
        (try simp only [Exit.inBlock, Exit.then]); refine bodyPost_ret (res35_tmp rfl _ _ (w.heap.size + 1) 35 _ (0, 0) rfl (heap_alloc2_new w _ _) rfl) rfl ?_
        exact ⟨rfl, below2 ..⟩
      · go_enter Try.func55, Try.ntmps55
        go_wp2
        (try simp only [Exit.inBlock, Exit.then]); refine bodyPost_ret (res35_tmp rfl _ _ (w.heap.size + 1) 35 _ (0, 0) rfl (heap_alloc2_new w _ _) rfl) rfl ?_
        exact ⟨rfl, below2 ..⟩
  · rw [if_neg hf, decide_eq_false hf]
    have ho : off = false := by cases off with | true => exact absurd (Or.inl rfl) hf | false => rfl
    have hl0 : ¬ left = 0 := fun e => hf (Or.inr e)
    have hb : (left == 0) = false := by simpa using hl0
    subst ho
    clear hf
    by_cases hp : 0 < left
    · rw [if_pos hp]
      go_enter Try.func55, Try.ntmps55
      go_wp2
      (try simp only [Exit.inBlock, Exit.then]); refine bodyPost_ret (res35_tmp rfl _ _ (w.heap.size + 1) 35 _ (0, 0) rfl (heap_alloc2_new w _ _) rfl) rfl ?_
      exact ⟨rfl, below2 ..⟩
    · rw [if_neg hp]
      go_enter Try.func55, Try.ntmps55
      go_wp2
      (try simp only [Exit.inBlock, Exit.then]); refine bodyPost_ret (res35_tmp rfl _ _ (w.heap.size + 1) 35 _ (0, 0) rfl (heap_alloc2_new w _ _) rfl) rfl ?_
      exact ⟨rfl, below2 ..⟩
end Go.Proofs.Ytkalgonkaoiapaa.Shf

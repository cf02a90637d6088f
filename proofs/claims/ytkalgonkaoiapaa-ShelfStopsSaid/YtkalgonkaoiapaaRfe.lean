/- The document's own shelf: a file changed. -/
import Derived.Test.YtkalgonkaoiapaaRfd
namespace Go.Proofs.Ytkalgonkaoiapaa.Shf
open Go.ChangeShapes Go.WideShapes Go.ChangeAt Go.RowKit

def filP (p : Value × Int) : List Value := [p.1, .int .i64 p.2]
theorem filL_len (l : List (Value × Int)) : (l.flatMap filP).length = l.length * 2 := by
  induction l with
  | nil => rfl
  | cons p l ih => simp [ih, filP]; omega
theorem filL_at (l : List (Value × Int)) (k : Nat) (hk : k < l.length) : (l.flatMap filP)[k * 2]? = some l[k].1 ∧ (l.flatMap filP)[k * 2 + 1]? = some (.int .i64 l[k].2) := by
  induction l generalizing k with
  | nil => simp at hk
  | cons p l ih =>
    cases k with
    | zero => simp [filP]
    | succ k =>
      have h := ih k (by simpa using hk)
      rw [List.flatMap_cons, List.getElem?_append_right (by simp [filP]; omega), List.getElem?_append_right (by simp [filP]; omega), show (filP p).length = 2 from rfl, show (k + 1) * 2 - 2 = k * 2 by omega, show (k + 1) * 2 + 1 - 2 = k * 2 + 1 by omega]
      exact h
theorem filL_set (l : List (Value × Int)) (k : Nat) (hk : k < l.length) (v : Value) (z : Int) : ((l.flatMap filP).set (k * 2) v).set (k * 2 + 1) (.int .i64 z) = (l.set k (v, z)).flatMap filP := by
  induction l generalizing k with
  | nil => simp at hk
  | cons p l ih =>
    cases k with
    | zero => simp [filP]
    | succ k =>
      have h := ih k (by simpa using hk)
      rw [List.flatMap_cons, List.set_append_right _ _ (by simp [filP]; omega), List.set_append_right _ _ (by simp [filP]; omega), show (filP p).length = 2 from rfl, show (k + 1) * 2 - 2 = k * 2 by omega, show (k + 1) * 2 + 1 - 2 = k * 2 + 1 by omega, h]
      rfl
theorem fil_one {l : List (Value × Int)} (h : ∀ p ∈ l, isSl p.1) : ∀ u ∈ l.flatMap filP, u.oneCell' = true := by
  intro u hu
  obtain ⟨p, hp, hu⟩ := List.mem_flatMap.1 hu
  simp [filP] at hu
  rcases hu with rfl | rfl
  · obtain ⟨_, _, _, e⟩ := h p hp; rw [e]; rfl
  · rfl
theorem below3 (w : World) (x y z : Obj) : Below w.heap.size w (((w.alloc x).alloc y).alloc z) := (below2 w x y).alloc (by simp; omega) _
theorem boxed3 {w w1 : World} {X Y Z : Obj} (g1 : (((w.alloc X).alloc Y).alloc Z).grownBy w1 none) :
    w1.heap[w.heap.size]? = some X ∧ w1.heap[w.heap.size + 1]? = some Y ∧ w1.heap[w.heap.size + 1 + 1]? = some Z ∧ Below w.heap.size w w1 := by
  have e : ((w.alloc X).alloc Y).heap.size = w.heap.size + 1 + 1 := by simp
  refine ⟨?_, ?_, ?_, (below3 w X Y Z).grown g1 (by simp; omega) (fun k h => by cases h)⟩
  · rw [g1.block _ (by simp; omega) (by simp), heap_alloc_old _ _ (by simp; omega), heap_alloc2_old]
  · rw [g1.block _ (by simp <;> omega) (by simp), heap_alloc_old _ _ (by simp), heap_alloc2_new]
  · rw [g1.block _ (by simp) (by simp), ← e, heap_alloc_new]
theorem row2 {w : World} {b : Nat} {t : TypeId} {x0 x1 : Value} (h : w.heap[b]? = some (.cells #[x0, x1] t)) : w.cell? ⟨b, 0, none⟩ = some x0 ∧ w.cell? ⟨b, 1, none⟩ = some x1 ∧ ∀ i, w.frozen? ⟨b, i, none⟩ = false :=
  ⟨cell_of_row w b 0 _ t (0, 0) h, cell_of_row w b 1 _ t (0, 0) h, fun i => frozen_of_row w b i _ t h⟩
set_option maxRecDepth 4000 in
theorem changed_any (w : World) (T : Nat → Tag) (lv nv wv pv : Value) (room left : Int) (off : Bool) (done : Int) (f : Nat) (z : Int) (fs : List (Value × Int)) (h1 : isSl pv) (h2 : isSl nv) (h3 : isSl wv) (R : RSl w T lv 2 fs.length (fs.flatMap filP)) (hfs : ∀ p ∈ fs, isSl p.1) (hf : f < fs.length) (hn : fs.length ≤ 1000000) (hT : ∀ b, T b ≠ .none → b < w.heap.size) :
    Calls Try.prog 58 #[RfV lv nv wv room left off done, .int .i64 (f : Int), .agg #[pv, .int .i64 z]] w fun e w' =>
      ∃ lv', e = .returned (RfV lv' nv wv room left off done) ∧ w'.ownsRow w.heap.size 83 2 lv' fs.length ((fs.set f (pv, z)).flatMap filP) ∧ Below w.heap.size w w' := by
  obtain ⟨A1, n1, c1, rfl⟩ := h1
  obtain ⟨A2, n2, c2, rfl⟩ := h2
  obtain ⟨A4, n4, c4, rfl⟩ := h3
  obtain ⟨A3, c3, rfl, -⟩ := id R
  obtain ⟨i0, hi, hz0, hz1, hz2⟩ := info_parts info83
  have HI := Lib.hid (And.intro hi (And.intro hz0 (And.intro hz1 hz2)))
  have HR := Lib.hid R
  have HW := Lib.hid (fil_one hfs)
  have HF := Lib.hid hf
  have HT := Lib.hid (fun b (hb : w.heap.size ≤ b) => show T b = .none by
    cases e : T b with
    | none => rfl
    | _ => exact absurd (hT b (by rw [e]; intro h; cases h)) (by omega))
  obtain ⟨n, hnn⟩ : ∃ n, n = fs.length := ⟨_, rfl⟩
  rw [← hnn] at HR hn hf ⊢
  have HN := Lib.hid hnn
  have hn0 : Hid (0 < n) := (by omega : 0 < n)
  clear hi hz0 hz1 hz2 R hfs hT hnn
  unfold RfV
  have hfi : (f : Int) < (n : Int) := by omega
  have hf0 : 0 ≤ (f : Int) := by omega
  have HF2 := Lib.hid hf
  clear hf
  go_enter Try.func58, Try.ntmps58
  go_wp2_with (first
    | (at_builtin; refine wpList_app T rfl _ _ 31 rfl (w.heap.size + 3) 83 i0 _ 2 32 Try.underlying31 HI.out.1 HI.out.2.1 HI.out.2.2.1 HI.out.2.2.2 rfl (by decide) (.slice none 0 0) 0 [] rfl ⟨rfl, Or.inl ⟨rfl, rfl⟩⟩ _ n _ rfl (HR.out.keep (Shf.Below.keep (below3 ..) T)) HW.out (by unfold maxLen; omega) (by omega) (by simp) ?_; intro v1 w1 own1 grow1; rw [Nat.zero_add, List.nil_append] at own1; obtain ⟨D1, D2, D3, D4⟩ := boxed3 grow1; obtain ⟨g, cap, rfl, hg1, hg2⟩ := own1.form hn0.out; have HO := Lib.hid (And.intro own1 (And.intro D1 (And.intro D2 (And.intro D3 D4)))); have e1 := own1.cellAt (f * 2) (by have := HF2.out; omega); have e2 := own1.cellAt (f * 2 + 1) (by have := HF2.out; omega); rw [(filL_at _ _ HF.out).1] at e1; rw [(filL_at _ _ HF.out).2] at e2; have ef := own1.frozenAt; clear own1 grow1 D4; obtain ⟨p0, p1, p2, p3, p4, p5, p6, pf⟩ := row7 D1; obtain ⟨r0, r1, rf⟩ := row2 D2; obtain ⟨q0, q1, q2, q3, q4, q5, q6, qf⟩ := row7 D3; clear D1 D2 D3; have m1 : ¬ w.heap.size = g := (by omega); have m2 : ¬ w.heap.size + 1 = g := (by omega); have m3 : ¬ w.heap.size + 1 + 1 = g := (by omega); have m4 : ¬ g = w.heap.size := (by omega); have m5 : ¬ g = w.heap.size + 1 := (by omega); have m6 : ¬ g = w.heap.size + 1 + 1 := (by omega); have HG := Lib.hid hg1; clear hg1 hg2)
    | go_in)
  (try simp only [Exit.inBlock, Exit.then])
  have o1 := (HO.out.1.stored (f * 2) (.slice A1 n1 c1)).1
  have o2 := (o1.stored (f * 2 + 1) (.int .i64 z)).1
  rw [filL_set _ _ HF.out] at o2
  have K2 : (((w1.setCell ⟨g, f * 2, none⟩ (.slice A1 n1 c1)).setCell ⟨g, f * 2 + 1, none⟩ (.int .i64 z)).setCell ⟨w.heap.size, 0, none⟩ (.slice (some ⟨g, 0, none⟩) n cap)).heap[w.heap.size + 1 + 1]? = w1.heap[w.heap.size + 1 + 1]? :=
    (Below.heap_setCell _ _ _ _ (by simp; omega)).trans ((Below.heap_setCell _ _ _ _ m3).trans (Below.heap_setCell _ _ _ _ m3))
  refine bodyPost_ret (res35 rfl _ _ (w.heap.size + 1 + 1) 35 _ (0, 0) rfl (put7 (K2.trans HO.out.2.2.2.1) ..) rfl) rfl ?_
  exact ⟨_, rfl, own_low (set7_own (ownsRow_setCell_below o2 (by simp) _) (by omega) ..) (by omega), set7_below (((HO.out.2.2.2.2.setCell (by have := HG.out; simp; omega) _).setCell (by have := HG.out; simp; omega) _).setCell (Nat.le_refl _) _) (by omega) ..⟩
end Go.Proofs.Ytkalgonkaoiapaa.Shf

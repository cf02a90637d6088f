/- What becomes of names and of files: keep, on, lose. -/
import Derived.Test.YtkalgonkaoiapaaSha
import Derived.Shelf.SlMaps.Clone
namespace Go.Proofs.Ytkalgonkaoiapaa.Shf
open Go.ChangeShapes Go.WideShapes Go.ChangeAt Go.RowKit

theorem nm_put {w : World} {ops : Array Oper} {rest : List Oper} {o : Oper} {a : Act} {Q : Exit → Act → World → Prop} (hg : o.guard = none) (mo x v : Operand) (hop : o.op = Op.mapUpdate 58 mo x v) (b n : Nat) (l : List (S × Nat))
    (hm : a.eval mo = .map (some b)) (h : NM w b n l) (hn : n < maxLen) (s : S) (c : Nat) (hx : a.eval x = .string (str s)) (hv : a.eval v = .pointer (some ⟨c, 0, none⟩)) (hs : s.length ≤ 1000000)
    (hK : ∀ w', NM w' b (n + 1) (wi l s c) → w.grownBy w' (some b) → wpList Try.prog ops Q rest (a.put o.dst undef) w') : wpList Try.prog ops Q (o :: rest) a w := by
  refine wpList_plain hg fun K' hK' => ?_
  obtain ⟨w', hrun, r1, r2⟩ := h.put hs c hn
  unfold Oper.wp
  simp [execOp, hop, hm, hx, hv, hrun, Result.andThen]
  exact hK' _ _ (hK w' r1 r2)
theorem nm_del {w : World} {ops : Array Oper} {rest : List Oper} {o : Oper} {a : Act} {Q : Exit → Act → World → Prop} (hg : o.guard = none) (mo x : Operand) (hop : o.op = Op.call { callee := Callee.builtin Builtin.delete, args := #[mo, x], argTypes := #[58, 9] }) (b n : Nat) (l : List (S × Nat))
    (hm : a.eval mo = .map (some b)) (h : NM w b n l) (s : S) (hx : a.eval x = .string (str s)) (hs : s.length ≤ 1000000)
    (hK : ∀ w', NM w' b n (wo l s) → w.grownBy w' (some b) → wpList Try.prog ops Q rest (a.put o.dst (.tuple #[])) w') : wpList Try.prog ops Q (o :: rest) a w := by
  refine wpList_plain hg fun K' hK' => ?_
  obtain ⟨w', hrun, r1, r2⟩ := h.del hs o.type
  unfold Oper.wp
  simp [execOp, hop, hm, hx, hrun, Result.andThen, resolve, invoke, builtin]
  exact hK' _ _ (hK w' r1 r2)

theorem NM.mono {w : World} {b n n' : Nat} {l : List (S × Nat)} (h : NM w b n l) (hn : n ≤ n') : NM w b n' l := by obtain ⟨D, h1, h2⟩ := h; exact ⟨D, h1.mono hn, h2⟩
/-- A file's block. -/
def FlAt (w : World) (b : Nat) (v : Value) (s : Nat) : Prop := w.heap[b]? = some (.cells #[v, .int .i64 (s : Int)] 65 (0, 0))
theorem FlAt.kept {w w' : World} {b : Nat} {v : Value} {s : Nat} {row : Option Nat} (h : FlAt w b v s) (hg : w.grownBy w' row) (hne : some b ≠ row) : FlAt w' b v s := (hg.block b (Array.getElem?_eq_some_iff.1 h).1 hne).trans h
theorem FlAt.lt {w : World} {b : Nat} {v : Value} {s : Nat} (h : FlAt w b v s) : b < w.heap.size := (Array.getElem?_eq_some_iff.1 h).1
theorem FlAt.cell0 {w : World} {b : Nat} {v : Value} {s : Nat} (h : FlAt w b v s) : w.cell? ⟨b, 0, none⟩ = some v := (cell_of_row w b 0 _ 65 (0, 0) h).trans rfl
theorem FlAt.cell1 {w : World} {b : Nat} {v : Value} {s : Nat} (h : FlAt w b v s) : w.cell? ⟨b, 1, none⟩ = some (.int .i64 (s : Int)) := (cell_of_row w b 1 _ 65 (0, 0) h).trans rfl
theorem FlAt.fz {w : World} {b : Nat} {v : Value} {s : Nat} (h : FlAt w b v s) (i : Nat) : w.frozen? ⟨b, i, none⟩ = false := frozen_of_row w b i _ 65 h
theorem FlAt.set0 {w : World} {b : Nat} {v : Value} {s : Nat} (h : FlAt w b v s) (v' : Value) : FlAt (w.setCell ⟨b, 0, none⟩ v') b v' s := by
  unfold FlAt; rw [heap_setCell_same w b 0 _ 65 _ h]; rfl
theorem FlAt.set1 {w : World} {b : Nat} {v : Value} {s : Nat} (h : FlAt w b v s) (s' : Nat) : FlAt (w.setCell ⟨b, 1, none⟩ (.int .i64 (s' : Int))) b v s' := by
  unfold FlAt; rw [heap_setCell_same w b 1 _ 65 _ h]; rfl

theorem keep_any (w : World) (b : Nat) (v : Value) (s : Nat) (l : List UInt8) (n : Nat) (h : FlAt w b v s) (ho : Own w v l) (hne : v.ownBlock ≠ some b) (hn : n ≤ l.length) :
    Calls Try.prog 46 #[.pointer (some ⟨b, 0, none⟩), .int .i64 (n : Int)] w fun e w' => e = .returned (.tuple #[]) ∧ ∃ v', FlAt w' b v' n ∧ Own w' v' (l.take n) ∧ v'.ownBlock = v.ownBlock ∧ w.grownBy w' (some b) := by
  have h0 := h.cell0
  have h1 := h.cell1
  have f0 := h.fz 0
  have f1 := h.fz 1
  have HF := Lib.hid (fun v' => (h.set0 v').set1 n)
  have HG := Lib.hid (fun v' => (grown_set w b 0 v').trans (grown_set _ b 1 (.int .i64 (n : Int))))
  have HO := Lib.hid (fun v' => ho.kept (row := some b) ((grown_set w b 0 v').trans (grown_set _ b 1 (.int .i64 (n : Int)))) (fun c hc e => hne (by rw [hc, e])))
  clear h
  rcases ho with ⟨rfl, rfl⟩ | ⟨g, cap, cur, rfl, hb, k1, k2, k3, k4⟩
  · obtain rfl : n = 0 := by simpa using hn
    go_enter Try.func46, Try.ntmps46
    go_wp2
    go_returns
    exact ⟨rfl, _, HF.out _, Or.inl ⟨rfl, by simp⟩, rfl, HG.out _⟩
  · have HB := Lib.hid hb
    have HB := Lib.hid (fun v' => (((grown_set w b 0 v').trans (grown_set _ b 1 (.int .i64 (n : Int)))).block g (Array.getElem?_eq_some_iff.1 hb).1 (fun e => hne (by injection e with e; rw [← e]; rfl))).trans hb)
    have HL := Lib.hid k4
    clear hb k4 hne
    have hnc : (n : Int) ≤ (cap : Int) := by omega
    generalize hm : l.length = m at *
    go_enter Try.func46, Try.ntmps46
    go_wp2
    go_returns
    refine ⟨rfl, _, HF.out _, ?_, ?_, HG.out _⟩
    · refine Or.inr ⟨g, n, cur, by simp; omega, HB.out _, by simp; omega, by omega, by omega, ?_⟩
      have := HL.out
      rw [List.length_take, Nat.min_eq_left (by omega), List.map_take, ← this, List.take_take, Nat.min_eq_left (by omega)]
    · rfl

theorem box_cells {V w1 : World} {g r : Nat} {x y z : Value} (hV : V.heap[g]? = some (.cells #[x, y, z] 67 (0, 0))) (hg : V.grownBy w1 (some r)) (hr : g ≠ r) : w1.heap[g]? = some (.cells #[x, y, z] 67 (0, 0)) ∧ w1.cell? ⟨g, 1, none⟩ = some y ∧ w1.cell? ⟨g, 2, none⟩ = some z := by
  have h := (hg.block g (Array.getElem?_eq_some_iff.1 hV).1 (by intro e; injection e with e; exact hr e)).trans hV
  exact ⟨h, (cell_of_row w1 g 1 _ 67 (0, 0) h).trans rfl, (cell_of_row w1 g 2 _ 67 (0, 0) h).trans rfl⟩
theorem alloc2 (w : World) (o o' : Obj) : ((w.alloc o).alloc o').heap[w.heap.size]? = some o := by
  rw [Below.heap_alloc (w.alloc o) o' w.heap.size (by simp)]
  show (w.heap.push o)[w.heap.size]? = some o
  simp
theorem alloc1 (w : World) (o : Obj) : (w.alloc o).heap[w.heap.size]? = some o := by
  show (w.heap.push o)[w.heap.size]? = some o
  simp
def mvV (v : Mv) : Value := .agg #[.string (str v.fr), .string (str v.to), ptrV v.f]
set_option maxRecDepth 4000 in
theorem on_mv (w : World) (v : Mv) (nv : Value) (n : Nat) (l : List (S × Nat)) (h : NMv w nv n l) (hn : n < 1000000000000) (h1 : v.fr.length ≤ 1000000) (h2 : v.to.length ≤ 1000000) :
    Calls Try.prog 54 #[mvV v, nv] w fun e w' => ∃ b, e = .returned (.map (some b)) ∧ NM w' b (n + 1) (v.on l) ∧ w.grownBy w' (mapBlock nv) ∧ (mapBlock nv = some b ∨ w.heap.size ≤ b) := by
  obtain ⟨fr, to, f⟩ := v
  simp only at h1 h2
  have hx : n < maxLen := by unfold maxLen; omega
  have hmm := @run_makeMap Try.prog
  have hq0 := fun w => run_eql_map_nil_sl (P := Try.prog) w 58 _ _ none Try.underlying58
  have made : ∀ o, NM ((w.alloc o).alloc (.map #[] 0)) (w.heap.size + 1) 0 [] := fun o => by
    have := NM.made (w.alloc o)
    rwa [show (w.alloc o).heap.size = w.heap.size + 1 by simp] at this
  have G0 : ∀ o, w.grownBy ((w.alloc o).alloc (.map #[] 0)) none := fun o => (World.grownBy_alloc w o none).trans (World.grownBy_alloc _ (.map #[] 0) none)
  have back : ∀ (w1 : World) (o : Obj), ((w.alloc o).alloc (.map #[] 0)).grownBy w1 (some (w.heap.size + 1)) → w.grownBy w1 none := fun w1 o h =>
    ⟨h.os.trans (G0 o).os, h.tape.trans (G0 o).tape, h.output.trans (G0 o).output, Nat.le_trans (G0 o).size h.size, fun k hk hne => (h.block k (Nat.lt_of_lt_of_le hk (G0 o).size) (by intro e; injection e with e; omega)).trans ((G0 o).block k hk hne)⟩
  have HM := Lib.hid made
  have HK := Lib.hid back
  clear made G0 back
  rcases h with ⟨rfl, rfl⟩ | ⟨b, rfl, h⟩
  · cases f with
    | none =>
      simp only [mvV, ptrV]
      go_enter Try.func54, Try.ntmps54
      go_wp2_with (first | (at_delete; refine nm_del rfl _ _ rfl _ _ _ rfl (HM.out _) fr rfl h1 ?_; intro w1 hn1 hg1; obtain ⟨_, x1, x2⟩ := box_cells (alloc2 w _ _) hg1 (by omega)) | go_in)
      go_ret
      exact ⟨_, rfl, hn1.mono (by omega), HK.out _ _ hg1, Or.inr (by omega)⟩
    | some c =>
      simp only [mvV, ptrV]
      go_enter Try.func54, Try.ntmps54
      go_wp2_with (first
        | (at_delete; refine nm_del rfl _ _ rfl _ _ _ rfl (HM.out _) fr rfl h1 ?_; intro w1 hn1 hg1; obtain ⟨_, x1, x2⟩ := box_cells (alloc2 w _ _) hg1 (by omega))
        | (at_mapUpdate; refine nm_put rfl _ _ _ rfl _ _ _ rfl hn1 (by unfold maxLen; omega) to c rfl rfl h2 ?_; intro w2 hn2 hg2)
        | go_in)
      go_ret
      exact ⟨_, rfl, hn2.mono (by omega), HK.out _ _ (hg1.trans hg2), Or.inr (by omega)⟩
  · have hq1 := fun w => run_eql_map_nil_sl (P := Try.prog) w 58 _ _ (some b) Try.underlying58
    have hbl := h.lt
    cases f with
    | none =>
      simp only [mvV, ptrV]
      go_enter Try.func54, Try.ntmps54
      go_wp2_with (first | (at_delete; refine nm_del rfl _ _ rfl _ _ _ rfl (h.kept (World.grownBy_alloc _ _ none) (by simp)) fr rfl h1 ?_; intro w1 hn1 hg1; obtain ⟨_, x1, x2⟩ := box_cells (alloc1 w _) hg1 (by omega)) | go_in)
      go_ret
      exact ⟨_, rfl, hn1.mono (by omega), (World.grownBy_alloc _ _ _).trans hg1, Or.inl rfl⟩
    | some c =>
      simp only [mvV, ptrV]
      go_enter Try.func54, Try.ntmps54
      go_wp2_with (first
        | (at_delete; refine nm_del rfl _ _ rfl _ _ _ rfl (h.kept (World.grownBy_alloc _ _ none) (by simp)) fr rfl h1 ?_; intro w1 hn1 hg1; obtain ⟨_, x1, x2⟩ := box_cells (alloc1 w _) hg1 (by omega))
        | (at_mapUpdate; refine nm_put rfl _ _ _ rfl _ _ _ rfl hn1 hx to c rfl rfl h2 ?_; intro w2 hn2 hg2)
        | go_in)
      go_ret
      exact ⟨_, rfl, hn2, (World.grownBy_alloc _ _ _).trans (hg1.trans hg2), Or.inl rfl⟩
end Go.Proofs.Ytkalgonkaoiapaa.Shf

/- Links: the law's own list of what came, beside the link. -/
import Derived.Test.YtmpcfnlddpofgaaDoorLg
import Derived.Test.YtmpcfnlddpofgaaDoorLh
import Derived.Deep.OwnRows
namespace Go.Proofs.YtmpcfnlddpofgaaDoor.Lk
open Go.ChangeShapes Go.WideShapes Go.ChangeAt Go.RowKit
set_option linter.unusedVariables false

structure Me (w0 w : World) (q : Nat) (l : L) (g cap : Nat) (f : Nat → Bool) : Prop where
  in' : In w0 w q l
  ok : l.Ok
  own : w.ownsRow w0.heap.size 4 1 (.slice (some ⟨g, 0, none⟩) 16 cap) 16 (bm f 16)
theorem In.alloc {w0 w : World} {q : Nat} {l : L} (h : In w0 w q l) (o : Obj) : In w0 (w.alloc o) q l :=
  ⟨h.at'.keep (heap_alloc_old w o h.at'.lt), h.below.alloc h.below.size o, h.le, h.tab⟩
theorem In.other {w0 w w' : World} {q g : Nat} {l : L} (h : In w0 w q l) (hg : w.grownBy w' (some g)) (hgq : g ≠ q) (hgl : w0.heap.size ≤ g) : In w0 w' q l :=
  ⟨h.at'.keep (hg.block q h.at'.lt (by simp; omega)), below_grown h.below hg hgl, h.le, h.tab⟩
theorem Me.ge {w0 w : World} {q g cap : Nat} {l : L} {f : Nat → Bool} (h : Me w0 w q l g cap f) : w0.heap.size ≤ g ∧ g < w.heap.size := h.own.lt g rfl
theorem Me.ne {w0 w : World} {q g cap : Nat} {l : L} {f : Nat → Bool} (h : Me w0 w q l g cap f) : g ≠ q := fun e => own_apart h.in'.at' h.own (by rw [← e]; rfl)
theorem Me.capLe {w0 w : World} {q g cap : Nat} {l : L} {f : Nat → Bool} (h : Me w0 w q l g cap f) : 16 ≤ cap ∧ cap ≤ maxLen := by
  rcases h.own.2 with ⟨h', _⟩ | ⟨g', cap', cur, h', _, _, h1, h2, _⟩
  · cases h'
  · cases h'; exact ⟨h1, h2⟩
theorem Me.alloc {w0 w : World} {q g cap : Nat} {l : L} {f : Nat → Bool} (h : Me w0 w q l g cap f) (o : Obj) : Me w0 (w.alloc o) q l g cap f := ⟨h.in'.alloc o, h.ok, h.own.alloc o⟩
theorem Me.cell {w0 w : World} {q g cap : Nat} {l : L} {f : Nat → Bool} (h : Me w0 w q l g cap f) (p : Nat) (hp : p < 16) : w.cell? ⟨g, p, none⟩ = some (.bool (f p)) := by
  rw [h.own.cellAt p (by omega), bm_at f 16 p hp]
theorem Me.frozen {w0 w : World} {q g cap : Nat} {l : L} {f : Nat → Bool} (h : Me w0 w q l g cap f) (p : Nat) : w.frozen? ⟨g, p, none⟩ = false := h.own.frozenAt p
theorem Me.set {w0 w : World} {q g cap : Nat} {l : L} {f : Nat → Bool} (h : Me w0 w q l g cap f) (p : Nat) (b : Bool) : Me w0 (w.setCell ⟨g, p, none⟩ (.bool b)) q l g cap (fun j => if j = p then b else f j) := by
  obtain ⟨h1, h2⟩ := h.own.stored p (.bool b)
  rw [bm_set] at h1
  exact ⟨h.in'.other h2 h.ne h.ge.1, h.ok, h1⟩
theorem Me.as {w0 w : World} {q g cap : Nat} {l : L} {f f' : Nat → Bool} (h : Me w0 w q l g cap f) (e : bm f 16 = bm f' 16) : Me w0 w q l g cap f' := ⟨h.in', h.ok, by rw [← e]; exact h.own⟩
theorem Me.link {w0 w w' : World} {q g cap : Nat} {l l' : L} {f : Nat → Bool} (h : Me w0 w q l g cap f) (hl : LkAt w' q l') (hg : w.grownBy w' (some q)) (hok : l'.Ok) : Me w0 w' q l' g cap f :=
  ⟨h.in'.grown hl hg, hok, h.own.kept hg (.inr (own_apart h.in'.at' h.own))⟩
theorem Me.hello {w0 w : World} {q g cap : Nat} {l : L} {f : Nat → Bool} (h : Me w0 w q l g cap f) (n now : Nat) (hn : n ≤ 4611686018427387904) (hnow : now ≤ 4611686018427387000) :
    Calls Tryd.prog 10 #[.pointer (some ⟨q, 0, none⟩), .int .u64 n, .int .u64 now] w fun e w' => e = .returned (.tuple #[]) ∧ Hid (Me w0 w' q (l.hello n now) g cap f) :=
  (hello_any w q l n now h.in'.at' h.ok h.in'.tabw hn hnow).mono fun _ _ k => ⟨k.1, Lib.hid (h.link k.2.1 k.2.2 (hello_ok l n now h.ok hn hnow))⟩
theorem Me.heard {w0 w : World} {q g cap : Nat} {l : L} {f : Nat → Bool} (h : Me w0 w q l g cap f) (c now : Nat) (hc : c < 65536) (hnow : now ≤ 4611686018427387000) :
    Calls Tryd.prog 11 #[.pointer (some ⟨q, 0, none⟩), .int .u16 c, .int .u64 now] w fun e w' => e = .returned (.tuple #[]) ∧ Hid (Me w0 w' q (l.heard c now) g cap f) :=
  (heard_any w q l c now h.in'.at' hc hnow).mono fun _ _ k => ⟨k.1, Lib.hid (h.link k.2.1 k.2.2 (heard_ok l c now h.ok hc hnow))⟩
theorem Me.tick {w0 w : World} {q g cap : Nat} {l : L} {f : Nat → Bool} (h : Me w0 w q l g cap f) (now : Nat) (hnow : now ≤ 4611686018427387000) :
    Calls Tryd.prog 12 #[.pointer (some ⟨q, 0, none⟩), .int .u64 now] w fun e w' => e = .returned (.tuple #[]) ∧ ∃ k, Hid (Ticked l now k) ∧ Hid (Me w0 w' q (l.after k now) g cap f) :=
  (tick_any w q l now h.in'.at' h.ok hnow).mono fun _ _ ⟨e, k, ht, ha, hg⟩ => ⟨e, k, Lib.hid ht, Lib.hid (h.link ha hg (after_ok l now k h.ok ht hnow))⟩
theorem Me.drew {w0 w : World} {q g cap : Nat} {l : L} {f : Nat → Bool} (h : Me w0 w q l g cap f) (n : Nat) : Me w0 (w.drewN n) q l g cap f := ⟨h.in'.drew n, h.ok, h.own⟩
theorem Me.receives {w0 w : World} {q g cap : Nat} {l : L} {f : Nat → Bool} (h : Me w0 w q l g cap f) (r : Nat) (hr : r = recv l.c) :
    Calls Tryd.prog 13 #[.pointer (some ⟨q, 0, none⟩)] w fun e w' => e = .returned (.int .u16 (r : Nat)) ∧ Hid (Me w0 w' q l g cap f) :=
  (receives_any w q l h.in'.at' h.ok.c).mono fun _ _ ⟨e, m, hm⟩ => ⟨by rw [hr]; exact e, Lib.hid (by rw [hm]; exact h.drew m)⟩
theorem Me.cost {w0 w : World} {q g cap : Nat} {l : L} {f : Nat → Bool} (h : Me w0 w q l g cap f) (r : Nat) (hr : r = l.cost) :
    Calls Tryd.prog 14 #[.pointer (some ⟨q, 0, none⟩)] w fun e w' => e = .returned (.int .u16 (r : Nat)) ∧ Hid (Me w0 w' q l g cap f) :=
  (cost_any w q l h.in'.at' h.ok.c).mono fun _ _ ⟨e, m, hm⟩ => ⟨by rw [hr]; exact e, Lib.hid (by rw [hm]; exact h.drew m)⟩
theorem Me.alive {w0 w : World} {q g cap : Nat} {l : L} {f : Nat → Bool} (h : Me w0 w q l g cap f) (b : Bool) (hb : b = decide (l.c ≠ 0)) :
    Calls Tryd.prog 15 #[.pointer (some ⟨q, 0, none⟩)] w fun e w' => e = .returned (.bool b) ∧ w = w' := alive_any w q l h.in'.at' b hb

theorem info4 : (Tryd.prog.info? 4).map (fun i => (i.zero, i.size, i.bytes)) = some (some (.bool false), 1, 1) := by kernel_rfl
theorem make16 : ∀ w : World, (Instr.makeSlice 27 (.int .i64 16) (.int .i64 16)).run Tryd.prog w = .ok (.slice (some ⟨w.heap.size, 0, none⟩) 16 16) (w.alloc (.cells (madeCells #[.bool false] 16) 4)) :=
  fun w => run_make_row' (P := Tryd.prog) 27 4 (.bool false) 1 Tryd.underlying27 info4 rfl .i64 .i64 16 (by omega) (by omega) w
theorem made_row (w : World) (B : Nat) (hB : B ≤ w.heap.size) : (w.alloc (.cells (madeCells #[.bool false] 16) 4)).ownsRow B 4 1 (.slice (some ⟨w.heap.size, 0, none⟩) 16 16) 16 (bm (fun _ => false) 16) := by
  have := World.ownsRow_lit (e := 4) (size := 1) (base := B) w (madeCells #[.bool false] 16) 16 hB (by unfold maxLen; omega) (by rw [← Array.length_toList, toList_madeCells_one]; simp)
  have e : (madeCells #[.bool false] 16).toList = bm (fun _ => false) 16 := by rw [toList_madeCells_one]; rfl
  rw [e] at this
  exact this
theorem Me.made {w0 w : World} {q : Nat} {l : L} (h : In w0 w q l) (hok : l.Ok) : Me w0 (w.alloc (.cells (madeCells #[.bool false] 16) 4)) q l w.heap.size 16 (fun _ => false) :=
  ⟨h.alloc _, hok, made_row w _ h.below.size⟩
/-- Two lists: what came, and the new one. -/
structure Two (w0 w : World) (q : Nat) (l : L) (g cap : Nat) (f : Nat → Bool) (g1 : Nat) (f1 : Nat → Bool) : Prop where
  a : Me w0 w q l g cap f
  b : Me w0 w q l g1 16 f1
  ne : g ≠ g1
theorem Me.two {w0 w : World} {q g cap : Nat} {l : L} {f : Nat → Bool} (h : Me w0 w q l g cap f) : Two w0 (w.alloc (.cells (madeCells #[.bool false] 16) 4)) q l g cap f w.heap.size (fun _ => false) :=
  ⟨h.alloc _, Me.made h.in' h.ok, by have := h.ge.2; omega⟩
theorem Two.set {w0 w : World} {q g cap g1 : Nat} {l : L} {f f1 : Nat → Bool} (h : Two w0 w q l g cap f g1 f1) (p : Nat) (b : Bool) : Two w0 (w.setCell ⟨g1, p, none⟩ (.bool b)) q l g cap f g1 (fun j => if j = p then b else f1 j) :=
  ⟨⟨(h.b.set p b).in', h.a.ok, h.a.own.kept (h.b.own.stored p (.bool b)).2 (.inr (by simp [Value.ownBlock]; exact h.ne))⟩, h.b.set p b, h.ne⟩
theorem Two.as {w0 w : World} {q g cap g1 : Nat} {l : L} {f f1 f2 : Nat → Bool} (h : Two w0 w q l g cap f g1 f1) (e : bm f1 16 = bm f2 16) : Two w0 w q l g cap f g1 f2 := ⟨h.a, h.b.as e, h.ne⟩
theorem Me.push {w0 w : World} {q g cap : Nat} {l : L} {f : Nat → Bool} (h : Me w0 w q l g cap f) :
    ∃ g' cap' w', (Builtin.append_ #[27, 27] 27 #[.slice (some ⟨w.heap.size, 0, none⟩) 1 1, .slice (some ⟨g, 0, none⟩) 15 cap]).run Tryd.prog (w.alloc (.cells #[.bool false] 4)) = .ok (.slice (some ⟨g', 0, none⟩) 16 cap') w' ∧
      Me w0 w' q l g' cap' (fun j => if j = 0 then false else f (j - 1)) := by
  obtain ⟨i0, hi0, hz0, hz1, hz2⟩ := infoB
  have hsz := h.in'.below.size
  have hA := h.alloc (.cells #[.bool false] 4)
  have hown : (w.alloc (.cells #[.bool false] 4)).ownsRow w0.heap.size 4 1 (.slice (some ⟨w.heap.size, 0, none⟩) 1 1) 1 [.bool false] := World.ownsRow_lit (e := 4) (size := 1) w #[.bool false] 1 hsz (by unfold maxLen; omega) rfl
  obtain ⟨v', w', h1, h2, h3, h4, h5⟩ := run_append_own_at (P := Tryd.prog) (w.alloc (.cells #[.bool false] 4)) w0.heap.size 27 27 4 i0 (.bool false) 1 1 Tryd.underlying27 hi0 hz0 hz1 hz2 rfl (by decide) (.slice (some ⟨w.heap.size, 0, none⟩) 1 1) 1 [.bool false] hown ⟨g, 0, none⟩ 15 cap (bm f 15) (by rw [bm_len]) (fun j u hj => by
    have hlt : j < 15 := by
      have := (List.getElem?_eq_some_iff.1 hj).1
      rwa [bm_len] at this
    rw [bm_at f 15 j hlt] at hj
    have hc := hA.cell j (by omega)
    rw [hj] at hc
    unfold Addr.add
    split
    · rename_i e; subst e; exact hc
    · simpa using hc) (fun u hu => by
      unfold bm at hu
      obtain ⟨j, _, rfl⟩ := List.mem_map.1 hu
      rfl) (by unfold maxLen; omega) (by omega) (by simp; omega)
  obtain ⟨g', cap', rfl⟩ := Joins.ownsRow_form h2 (by omega)
  refine ⟨g', cap', w', h1, ?_, h.ok, ?_⟩
  · have hlt := h.in'.at'.lt
    exact hA.in'.other (g := w.heap.size) h3 (by omega) hsz
  · have e : [.bool false] ++ bm f 15 = bm (fun j => if j = 0 then false else f (j - 1)) 16 := bm_cons f false 15
    rw [e] at h2
    exact h2
end Go.Proofs.YtmpcfnlddpofgaaDoor.Lk

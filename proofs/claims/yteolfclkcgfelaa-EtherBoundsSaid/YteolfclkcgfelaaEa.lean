/- The ether in memory: who hears whom, packets under way. -/
import Derived.Test.YteolfclkcgfelaaApp
import Derived.Maps.AppendAt
import Derived.Deep.RegionLaw
import Derived.Deep.MidRow
import Derived.Deep.RegionHeld3
import Derived.Laws.IdiomCopy
import Derived.Laws.ResultCell
import Derived.Laws.Rows
import Derived.Lib.SmallJoins
namespace Go.Proofs.Yteolfclkcgfelaa.Eth
open Go.ChangeShapes Go.WideShapes Go.ChangeAt Go.RowKit
open Coin (Rd Own b8 Row)
set_option maxRecDepth 8000
set_option linter.unusedVariables false

/-- A packet. -/
structure Pk where
  f : Nat
  t : Nat
  d : List UInt8
/-- Its cells; where its bytes lie is told beside. -/
def Pk.cl (x : Pk × Value) : List Value := [.int .i64 (x.1.f : Int), .int .i64 (x.1.t : Int), x.2]
theorem Pk.cl_len (x : Pk × Value) : (Pk.cl x).length = 3 := rfl
/-- Who hears whom, as cells. -/
def hc (H : Nat → Nat → Bool) : List Value := (List.range 256).map fun k => .bool (H (k / 16) (k % 16))
theorem hc_len (H : Nat → Nat → Bool) : (hc H).length = 256 := by simp [hc]
/-- Packets in a slice of the call's own, none of whose blocks lies below lo. -/
def PSl (lo : Nat) (w : World) (v : Value) (l : List Pk) : Prop := ∃ vs : List (Pk × Value), vs.map (·.1) = l ∧ w.ownsRow lo 39 3 v vs.length (vs.flatMap Pk.cl) ∧ ∀ x ∈ vs, Own w lo x.2 x.1.d
/-- An Ether: block q, who hears whom, what is under way, and the slice of it. -/
structure EAt (lo : Nat) (w : World) (q : Nat) (H : Nat → Nat → Bool) (l : List Pk) (v : Value) : Prop where
  row : w.heap[q]? = some (.cells (hc H ++ [v]).toArray 29 (0, 0))
  sl : PSl lo w v l

/-- What a row of one's own is hangs on its block alone. -/
theorem own_keep {w w' : World} {B : Nat} {e : TypeId} {k : Nat} {v : Value} {n : Nat} {xs : List Value} (h : w.ownsRow B e k v n xs) (hk : ∀ g, v.ownBlock = some g → w'.heap[g]? = w.heap[g]?) : w'.ownsRow B e k v n xs := by
  obtain ⟨h1, h2⟩ := h
  refine ⟨h1, ?_⟩
  rcases h2 with h2 | ⟨g, cap, cur, rfl, a, b, c⟩
  · exact .inl h2
  · exact .inr ⟨g, cap, cur, rfl, a, (hk g rfl).trans b, c⟩
theorem own_ty {w : World} {B : Nat} {e : TypeId} {k : Nat} {v : Value} {n : Nat} {xs : List Value} (h : w.ownsRow B e k v n xs) {g : Nat} (hg : v.ownBlock = some g) : B ≤ g ∧ g < w.heap.size ∧ ∃ cur, w.heap[g]? = some (.cells cur e (0, 0)) := by
  obtain ⟨h1, h2⟩ := h
  rcases h2 with ⟨rfl, _⟩ | ⟨g', cap, cur, rfl, a, b, c⟩
  · cases hg
  · cases hg
    exact ⟨a, (Array.getElem?_eq_some_iff.1 b).1, cur, b⟩
theorem PSl.keep {lo : Nat} {w w' : World} {v : Value} {l : List Pk} (h : PSl lo w v l) (hk : ∀ g, lo ≤ g → g < w.heap.size → (v.ownBlock = some g ∨ ∃ cur, w.heap[g]? = some (.cells cur 5 (0, 0))) → w'.heap[g]? = w.heap[g]?) : PSl lo w' v l := by
  obtain ⟨vs, h1, h2, h3⟩ := h
  refine ⟨vs, h1, own_keep h2 fun g hg => ?_, fun x hx => own_keep (h3 x hx) fun g hg => ?_⟩
  · have := own_ty h2 hg
    exact hk g this.1 this.2.1 (.inl hg)
  · have := own_ty (h3 x hx) hg
    exact hk g this.1 this.2.1 (.inr this.2.2)
theorem PSl.below {lo : Nat} {w w' : World} {v : Value} {l : List Pk} (h : PSl lo w v l) (hb : Below w.heap.size w w') : PSl lo w' v l := h.keep fun g _ hg _ => hb.block g hg
theorem PSl.nil (lo : Nat) (w : World) : PSl lo w (.slice none 0 0) [] := ⟨[], rfl, World.ownsRow_nil w lo 39 3, fun x hx => by cases hx⟩
theorem PSl.ty {lo : Nat} {w : World} {v : Value} {l : List Pk} (h : PSl lo w v l) {g : Nat} (hg : v.ownBlock = some g) : lo ≤ g ∧ g < w.heap.size ∧ ∃ cur, w.heap[g]? = some (.cells cur 39 (0, 0)) := by
  obtain ⟨vs, h1, h2, h3⟩ := h
  exact own_ty h2 hg
/-- A block of another type is not the packets'. -/
theorem PSl.ne {lo : Nat} {w : World} {v : Value} {l : List Pk} (h : PSl lo w v l) {g : Nat} {x : Array Value} {u : TypeId} {fr : Nat × Nat} (hr : w.heap[g]? = some (.cells x u fr)) (ht : u ≠ 39) : v.ownBlock ≠ some g := fun e => by
  obtain ⟨_, _, cur, hg⟩ := h.ty e
  rw [hg] at hr; injection hr with hr; injection hr with _ h2 _
  exact ht h2.symm
theorem PSl.len {lo : Nat} {w : World} {v : Value} {l : List Pk} (h : PSl lo w v l) : ∃ A c, v = .slice A l.length c ∧ l.length ≤ c ∧ c ≤ maxLen ∧ (A = none → c = 0 ∧ l = []) := by
  obtain ⟨vs, h1, ⟨_, h2⟩, h3⟩ := h
  have hl : vs.length = l.length := by rw [← h1, List.length_map]
  rcases h2 with ⟨rfl, h0⟩ | ⟨g, cap, cur, rfl, _, _, h4, h5, _⟩
  · have e : l.length = 0 := by omega
    exact ⟨none, 0, by rw [e], by omega, by unfold maxLen; omega, fun _ => ⟨rfl, List.eq_nil_of_length_eq_zero e⟩⟩
  · exact ⟨_, cap, by rw [hl], by omega, h5, fun h => by cases h⟩
theorem flat3 : ∀ (vs : List (Pk × Value)) (j i : Nat) (hj : j < vs.length), i < 3 → (vs.flatMap Pk.cl)[j * 3 + i]? = (Pk.cl vs[j])[i]?
  | x :: l, 0, i, _, hi => by
    simp only [List.flatMap_cons, Nat.zero_mul, Nat.zero_add, List.getElem_cons_zero]
    rw [List.getElem?_append_left (by rw [Pk.cl_len]; exact hi)]
  | x :: l, j + 1, i, hj, hi => by
    simp only [List.flatMap_cons, List.getElem_cons_succ]
    have e : (j + 1) * 3 + i = 3 + (j * 3 + i) := by rw [Nat.succ_mul]; omega
    rw [e, List.getElem?_append_right (by rw [Pk.cl_len]; omega), Pk.cl_len, show 3 + (j * 3 + i) - 3 = j * 3 + i by omega]
    exact flat3 l j i (by simpa using hj) hi
theorem flat_take (vs : List (Pk × Value)) : ∀ k, (vs.flatMap Pk.cl).take (k * 3) = (vs.take k).flatMap Pk.cl := by
  induction vs with
  | nil => intro k; simp
  | cons x vs ih =>
    intro k
    cases k with
    | zero => simp
    | succ k =>
      rw [List.flatMap_cons, List.take_succ_cons, List.flatMap_cons, ← ih k]
      rw [show (k + 1) * 3 = (Pk.cl x).length + k * 3 by rw [Pk.cl_len]; omega, List.take_length_add_append]
theorem flat_drop (vs : List (Pk × Value)) : ∀ k, (vs.flatMap Pk.cl).drop (k * 3) = (vs.drop k).flatMap Pk.cl := by
  induction vs with
  | nil => intro k; simp
  | cons x vs ih =>
    intro k
    cases k with
    | zero => simp
    | succ k =>
      rw [List.flatMap_cons, List.drop_succ_cons, ← ih k]
      rw [show (k + 1) * 3 = (Pk.cl x).length + k * 3 by rw [Pk.cl_len]; omega, List.drop_append, List.drop_of_length_le (by omega), Nat.add_sub_cancel_left, List.nil_append]
theorem flat_len (vs : List (Pk × Value)) : (vs.flatMap Pk.cl).length = vs.length * 3 := by
  induction vs with
  | nil => rfl
  | cons x vs ih => rw [List.flatMap_cons, List.length_append, ih, Pk.cl_len, List.length_cons]; omega
theorem own_one {w : World} {B : Nat} {v : Value} {d : List UInt8} (h : Own w B v d) : v.oneCell' = true := by
  obtain ⟨A, c, rfl, _⟩ := h.form
  rfl
theorem one_cl {w : World} {lo : Nat} {vs : List (Pk × Value)} (h : ∀ x ∈ vs, Own w lo x.2 x.1.d) : ∀ u ∈ vs.flatMap Pk.cl, u.oneCell' = true := fun u hu => by
  obtain ⟨x, hx, hu⟩ := List.mem_flatMap.1 hu
  simp only [Pk.cl, List.mem_cons, List.not_mem_nil, or_false] at hu
  rcases hu with rfl | rfl | rfl
  · rfl
  · rfl
  · exact own_one (h x hx)
/-- One packet of a slice: where it stands, its cells, its bytes. -/
theorem PSl.at' {lo : Nat} {w : World} {v : Value} {l : List Pk} (h : PSl lo w v l) (k : Nat) (hk : k < l.length) : ∃ g c u, v = .slice (some ⟨g, 0, none⟩) l.length c ∧ lo ≤ g ∧ g < w.heap.size ∧ Own w lo u l[k].d ∧
    w.cell? ⟨g, k * 3, none⟩ = some (.int .i64 (l[k].f : Int)) ∧ w.cell? ⟨g, k * 3 + 1, none⟩ = some (.int .i64 (l[k].t : Int)) ∧ w.cell? ⟨g, k * 3 + 2, none⟩ = some u := by
  obtain ⟨vs, rfl, h2, h3⟩ := h
  have hl : (vs.map (·.1)).length = vs.length := List.length_map ..
  have hk' : k < vs.length := by rw [← hl]; exact hk
  have hh := h2
  rcases h2.2 with ⟨rfl, h0⟩ | ⟨g, cap, cur, rfl, hB, hg, _⟩
  · omega
  · have hc : ∀ i, i < 3 → w.cell? ⟨g, k * 3 + i, none⟩ = (Pk.cl vs[k])[i]? := fun i hi => by
      rw [World.ownsRow.cellAt hh (k * 3 + i) (by omega)]
      exact flat3 vs k i hk' hi
    refine ⟨g, cap, vs[k].2, by rw [hl], hB, (Array.getElem?_eq_some_iff.1 hg).1, ?_, ?_, ?_, ?_⟩
    · rw [List.getElem_map]; exact h3 _ (List.getElem_mem _)
    · rw [List.getElem_map]; exact hc 0 (by decide)
    · rw [List.getElem_map]; exact hc 1 (by decide)
    · exact hc 2 (by decide)
theorem info39 : (Try.prog.info? 39).map (fun i => (i.zero, i.size, i.bytes)) = some (some (.agg #[.int .i64 0, .int .i64 0, .slice none 0 0]), 3, 40) := by kernel_rfl
/-- A packet more. -/
theorem app_pk {w : World} {ops : Array Oper} {rest : List Oper} {o : Oper} {a : Act} {Q : Exit → Act → World → Prop} (hgd : o.guard = none) (s x : Operand)
    (ho : o.op = .call { callee := .builtin .append, args := #[s, x], argTypes := #[27, 27] }) (lo : Nat) (v : Value) (l : List Pk) (p : Pk) (u : Value) (b : Nat)
    (hs : a.eval s = v) (hx : a.eval x = .slice (some ⟨b, 0, none⟩) 1 1) (hown : PSl lo w v l) (hp : Own w lo u p.d) (hc : w.heap[b]? = some (.cells #[.int .i64 (p.f : Int), .int .i64 (p.t : Int), u] 39 (0, 0))) (hlen : l.length ≤ 100000) (hB : lo ≤ w.heap.size)
    (h : ∀ v' w', PSl lo w' v' (l ++ [p]) → w.grownBy w' v.ownBlock → (v'.ownBlock = v.ownBlock ∨ v'.ownBlock = some w.heap.size) → wpList Try.prog ops Q rest (a.put o.dst v') w') : wpList Try.prog ops Q (o :: rest) a w := by
  obtain ⟨vs, rfl, h2, h3⟩ := hown
  obtain ⟨i0, hi, hz0, hz1, hz2⟩ := info_parts info39
  rw [List.length_map] at hlen
  refine wpList_append_own_at w hgd s x 27 ho lo 39 i0 _ 3 40 Try.underlying27 hi hz0 hz1 hz2 rfl (by decide) v vs.length (vs.flatMap Pk.cl) hs h2 ⟨b, 0, none⟩ 1 1 (Pk.cl (p, u)) hx rfl ?_ (fun y hy => ?_) (by unfold maxLen; omega) (by omega) hB ?_
  · intro j y hj
    rw [Coin.zero_add', cell_of_row w b j _ 39 (0, 0) hc]
    simpa [Pk.cl] using hj
  · simp only [Pk.cl, List.mem_cons, List.not_mem_nil, or_false] at hy
    rcases hy with rfl | rfl | rfl
    · rfl
    · rfl
    · exact own_one hp
  · intro v' w' h1' h2' _ h4'
    have hd : ∀ y d, Own w lo y d → Own w' lo y d := fun y d hy => own_keep hy fun g hg => by
      obtain ⟨_, hlt, cur, hgc⟩ := own_ty hy hg
      refine h2'.block g hlt fun e => ?_
      obtain ⟨_, _, cur', hg'⟩ := own_ty h2 e.symm
      rw [hgc] at hg'; injection hg' with hg'; injection hg' with _ h5 _; cases h5
    refine h v' w' ⟨vs ++ [(p, u)], by simp, ?_, fun y hy => ?_⟩ h2' h4'
    · rw [List.length_append, List.flatMap_append]
      simpa using h1'
    · rcases List.mem_append.1 hy with hy | hy
      · exact hd _ _ (h3 y hy)
      · rw [List.mem_singleton] at hy; subst hy
        exact hd _ _ hp
theorem EAt.below {lo : Nat} {w w' : World} {q : Nat} {H : Nat → Nat → Bool} {l : List Pk} {v : Value} (h : EAt lo w q H l v) (hb : Below w.heap.size w w') : EAt lo w' q H l v :=
  ⟨(hb.block q (Array.getElem?_eq_some_iff.1 h.row).1).trans h.row, h.sl.below hb⟩
theorem EAt.lt {lo : Nat} {w : World} {q : Nat} {H : Nat → Nat → Bool} {l : List Pk} {v : Value} (h : EAt lo w q H l v) : q < w.heap.size := (Array.getElem?_eq_some_iff.1 h.row).1
theorem EAt.hears {lo : Nat} {w : World} {q : Nat} {H : Nat → Nat → Bool} {l : List Pk} {v : Value} (h : EAt lo w q H l v) {a b : Nat} (ha : a < 16) (hb : b < 16) : w.cell? ⟨q, a * 16 + b, none⟩ = some (.bool (H a b)) := by
  rw [cell_of_row w q _ _ 29 (0, 0) h.row]
  have h1 : a * 16 + b < 256 := by omega
  rw [List.getElem?_toArray, List.getElem?_append_left (by rw [hc_len]; exact h1)]
  unfold hc
  rw [List.getElem?_map, List.getElem?_range h1]
  simp only [Option.map_some]
  rw [show (a * 16 + b) / 16 = a by omega, show (a * 16 + b) % 16 = b by omega]
theorem EAt.under {lo : Nat} {w : World} {q : Nat} {H : Nat → Nat → Bool} {l : List Pk} {v : Value} (h : EAt lo w q H l v) : w.cell? ⟨q, 256, none⟩ = some v := by
  rw [cell_of_row w q _ _ 29 (0, 0) h.row, List.getElem?_toArray, List.getElem?_append_right (by rw [hc_len]; exact Nat.le_refl _), hc_len]
  rfl
theorem EAt.fz {lo : Nat} {w : World} {q : Nat} {H : Nat → Nat → Bool} {l : List Pk} {v : Value} (h : EAt lo w q H l v) (i : Nat) : w.frozen? ⟨q, i, none⟩ = false := frozen_of_row w q i _ 29 h.row
theorem EAt.line {lo : Nat} {w : World} {q : Nat} {H : Nat → Nat → Bool} {l : List Pk} {v : Value} (h : EAt lo w q H l v) {a : Nat} (ha : a < 16) : w.rangeAt q (a * 16) ((List.range 16).map fun b => .bool (H a b)) := fun j u hj => by
  obtain ⟨hlt, rfl⟩ := List.getElem?_eq_some_iff.1 hj
  rw [List.length_map, List.length_range] at hlt
  rw [h.hears ha hlt, List.getElem_map, List.getElem_range]
/-- What a call on an ether leaves alone: all but its block and that of its packets. -/
structure EF (w w' : World) (q : Nat) (v v' : Value) : Prop where
  os : w'.os = w.os
  tape : w'.tape = w.tape
  output : w'.output = w.output
  size : w.heap.size ≤ w'.heap.size
  block : ∀ k, k < w.heap.size → k ≠ q → some k ≠ v.ownBlock → w'.heap[k]? = w.heap[k]?
  own : v'.ownBlock = v.ownBlock ∨ ∃ g, v'.ownBlock = some g ∧ w.heap.size ≤ g
theorem EF.of {w w' : World} (q : Nat) (v : Value) (h : Below w.heap.size w w') : EF w w' q v v := ⟨h.os, h.tape, h.output, h.size, fun k hk _ _ => h.block k hk, .inl rfl⟩
theorem EF.trans {w w' w'' : World} {q : Nat} {v v' v'' : Value} (h : EF w w' q v v') (k : EF w' w'' q v' v'') : EF w w'' q v v'' := by
  refine ⟨k.os.trans h.os, k.tape.trans h.tape, k.output.trans h.output, Nat.le_trans h.size k.size, fun i hi hq hv => ?_, ?_⟩
  · refine (k.block i (Nat.lt_of_lt_of_le hi h.size) hq fun e => ?_).trans (h.block i hi hq hv)
    rcases h.own with h1 | ⟨g, h1, h2⟩
    · exact hv (e.trans h1)
    · rw [h1] at e; cases e; omega
  · have := h.size
    rcases k.own with k1 | ⟨g, k1, k2⟩
    · rw [k1]; exact h.own
    · exact .inr ⟨g, k1, by omega⟩
theorem EF.below {w w' : World} {q : Nat} {v v' : Value} (h : EF w w' q v v') {B : Nat} (hB : B ≤ w.heap.size) (hq : B ≤ q) (hv : ∀ g, v.ownBlock = some g → B ≤ g) : Below B w w' :=
  ⟨h.os, h.tape, h.output, h.size, fun k hk => h.block k (Nat.lt_of_lt_of_le hk hB) (by omega) fun e => by have := hv k e.symm; omega⟩
/-- A block of a kind of its own stays. -/
theorem EF.kept {w w' : World} {q lo : Nat} {H : Nat → Nat → Bool} {l : List Pk} {v v' : Value} (h : EF w w' q v v') (e : EAt lo w q H l v) {k : Nat} {c : Array Value} {t : TypeId} {fr : Nat × Nat} (hk : w.heap[k]? = some (.cells c t fr)) (h1 : t ≠ 29) (h2 : t ≠ 39) : w'.heap[k]? = some (.cells c t fr) := by
  refine (h.block k (Array.getElem?_eq_some_iff.1 hk).1 (fun hq => ?_) fun hv => e.sl.ne hk h2 hv.symm).trans hk
  subst hq
  rw [e.row] at hk; injection hk with hk; injection hk with _ h3 _
  exact h1 h3.symm
/-- Packets elsewhere stay. -/
theorem EF.keptP {w w' : World} {q lo lo' : Nat} {H : Nat → Nat → Bool} {l l' : List Pk} {v v' u : Value} (h : EF w w' q v v') (e : EAt lo w q H l v) (hp : PSl lo' w u l') (hne : u.ownBlock = none ∨ u.ownBlock ≠ v.ownBlock) : PSl lo' w' u l' := by
  refine hp.keep fun g _ hg hor => ?_
  rcases hor with hor | ⟨cur, hor⟩
  · obtain ⟨_, _, cur, hc⟩ := hp.ty hor
    refine h.block g hg (fun hq => ?_) fun hv => ?_
    · subst hq
      rw [e.row] at hc; injection hc with hc; injection hc with _ h3 _
      cases h3
    · rcases hne with hne | hne
      · rw [hne] at hor; cases hor
      · exact hne (hor.trans hv)
  · exact (h.kept e hor (by decide) (by decide)).trans hor.symm
end Go.Proofs.Yteolfclkcgfelaa.Eth

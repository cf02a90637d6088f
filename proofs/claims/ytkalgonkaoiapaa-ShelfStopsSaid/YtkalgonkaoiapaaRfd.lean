/- The document's own shelf: slices in memory, copied; names moved. -/
import Derived.Test.YtkalgonkaoiapaaRfc
namespace Go.Proofs.Ytkalgonkaoiapaa.Shf
open Go.ChangeShapes Go.WideShapes Go.ChangeAt Go.RowKit

/-- A slice of so many elements, and the cells that these have. -/
def RSl (w : World) (T : Nat → Tag) (v : Value) (sz n : Nat) (us : List Value) : Prop :=
  ∃ A c, v = .slice A n c ∧ n ≤ c ∧ (A = none → c = 0) ∧ us.length = n * sz ∧ (0 < us.length → ∃ g, A = some ⟨g, 0, none⟩ ∧ g < w.heap.size ∧ T g = .none ∧ ∀ j u, us[j]? = some u → w.cell? ⟨g, j, none⟩ = some u)
theorem RSl.keep {w w' : World} {T T' : Nat → Tag} {v : Value} {sz n : Nat} {us : List Value} (h : RSl w T v sz n us) (K : Keep w T w' T') : RSl w' T' v sz n us := by
  obtain ⟨A, c, e, h1, h2, h3, h4⟩ := h
  refine ⟨A, c, e, h1, h2, h3, fun h0 => ?_⟩
  obtain ⟨g, e, i1, i2, i3⟩ := h4 h0
  obtain ⟨k1, k2⟩ := K.block g i1 i2
  exact ⟨g, e, Nat.lt_of_lt_of_le i1 K.size, k2, fun j u hj => (World.cell?_of_block (a := ⟨g, j, none⟩) k1).trans (i3 j u hj)⟩
theorem RSl.sl {w : World} {T : Nat → Tag} {v : Value} {sz n : Nat} {us : List Value} (h : RSl w T v sz n us) : isSl v := by
  obtain ⟨A, c, e, _⟩ := h; exact ⟨A, n, c, e⟩
theorem RSl.nil (w : World) (T : Nat → Tag) (sz : Nat) : RSl w T (.slice none 0 0) sz 0 [] := ⟨none, 0, rfl, Nat.le_refl _, fun _ => rfl, by simp, fun h => by simp at h⟩
theorem RNm.sl {w : World} {T : Nat → Tag} {v : Value} {l : List (S × Nat)} (h : RNm w T v l) : RSl w T v 2 l.length (l.flatMap nmP) := by
  obtain ⟨A, c, e, h1, h2, h3⟩ := h
  refine ⟨A, c, e, h1, h2, nmL_len l, fun h0 => ?_⟩
  rw [nmL_len] at h0
  obtain ⟨g, i0, i1, i2, i3⟩ := h3 h0
  refine ⟨g, i0, i1, i2, fun j u hj => ?_⟩
  have hjl : j < l.length * 2 := by
    have := (List.getElem?_eq_some_iff.1 hj).1
    rwa [nmL_len] at this
  rw [i3 j hjl]
  rw [nmL_get l j hjl] at hj
  exact hj
theorem own_sl {w : World} {B : Nat} {v : Value} {e : TypeId} {sz n : Nat} {us : List Value} {T : Nat → Tag} (h : w.ownsRow B e sz v n us) (hT : ∀ b, B ≤ b → T b = .none) : RSl w T v sz n us := by
  obtain ⟨hl, h⟩ := h
  rcases h with ⟨rfl, h0⟩ | ⟨g, cap, cur, rfl, hB, hg, h1, h2, h3, h4⟩
  · subst h0
    have hu : us = [] := List.eq_nil_of_length_eq_zero (by simpa using hl)
    rw [hu]
    exact RSl.nil w T sz
  · refine ⟨_, cap, rfl, h1, (fun h => by cases h), hl, fun _ => ⟨g, rfl, (Array.getElem?_eq_some_iff.1 hg).1, hT g hB, fun j u hj => ?_⟩⟩
    have hjl : j < n * sz := by
      have := (List.getElem?_eq_some_iff.1 hj).1
      rwa [hl] at this
    rw [cell_of_row w g j _ e (0, 0) hg, ← hj, ← h4, List.getElem?_take_of_lt hjl]
    simp
/-- 'append' of a slice, nil or not. -/
theorem wpList_app {ops : Array Oper} {rest : List Oper} {o : Oper} {a : Act} {w : World} {Q : Exit → Act → World → Prop} (T : Nat → Tag) (hgd : o.guard = none) (s x : Operand) (t : TypeId)
    (ho : o.op = .call { callee := .builtin .append, args := #[s, x], argTypes := #[t, t] })
    (base : Nat) (e : TypeId) (i : TypeInfo) (z : Value) (size bytes : Nat) (ht : Try.prog.underlying t = some (.slice e)) (hi : Try.prog.info? e = some i) (hz : i.zero = some z)
    (hsize : i.size = size) (hby : i.bytes = bytes) (hzs : z.cells.size = size) (hsz : 0 < size)
    (v : Value) (n : Nat) (xs : List Value) (hs : a.eval s = v) (hown : w.ownsRow base e size v n xs)
    (sv : Value) (m : Nat) (news : List Value) (hx : a.eval x = sv) (R : RSl w T sv size m news) (h1 : ∀ u ∈ news, u.oneCell' = true)
    (h63 : n + m ≤ maxLen) (hbytes : (n + m) * bytes ≤ 140737488355328) (hbase : base ≤ w.heap.size)
    (h : ∀ v' w', w'.ownsRow base e size v' (n + m) (xs ++ news) → w.grownBy w' v.ownBlock → wpList Try.prog ops Q rest (a.put o.dst v') w') :
    wpList Try.prog ops Q (o :: rest) a w := by
  obtain ⟨A, c, rfl, r1, r2, r3, r4⟩ := R
  cases A with
  | none =>
    obtain rfl := r2 rfl
    obtain rfl : m = 0 := by omega
    obtain rfl : news = [] := List.eq_nil_of_length_eq_zero (by simpa using r3)
    refine wpList_append_own_none hgd s x t ho base e i size ht hi v n xs hs hown hx (h v w (by simpa using hown) ?_)
    exact ⟨rfl, rfl, rfl, Nat.le_refl _, fun _ _ _ => rfl⟩
  | some ad =>
    refine wpList_append_own_at w hgd s x t ho base e i z size bytes ht hi hz hsize hby hzs hsz v n xs hs hown ad m c news hx r3 ?_ h1 h63 hbytes hbase fun v' w' o1 o2 _ _ => h v' w' o1 o2
    intro j u hj
    obtain ⟨g, e1, _, _, i3⟩ := r4 (by have := (List.getElem?_eq_some_iff.1 hj).1; omega)
    obtain rfl : ad = ⟨g, 0, none⟩ := by injection e1
    rw [zero_add']
    exact i3 j u hj
theorem info32 : (Try.prog.info? 32).map (fun i => (i.zero, i.size, i.bytes)) = some (some (.slice none 0 0), 1, 24) := by kernel_rfl
theorem info83 : (Try.prog.info? 83).map (fun i => (i.zero, i.size, i.bytes)) = some (some (.agg #[.slice none 0 0, .int .i64 0]), 2, 32) := by kernel_rfl
theorem own_low {w : World} {B B1 : Nat} {e : TypeId} {sz n : Nat} {v : Value} {us : List Value} (h : w.ownsRow B e sz v n us) (hb : B1 ≤ B) : w.ownsRow B1 e sz v n us :=
  ⟨h.1, h.2.imp id fun ⟨g, cap, cur, h1, h2, h3⟩ => ⟨g, cap, cur, h1, Nat.le_trans hb h2, h3⟩⟩
theorem row7 {w : World} {b : Nat} {t : TypeId} {x0 x1 x2 x3 x4 x5 x6 : Value} (h : w.heap[b]? = some (.cells #[x0, x1, x2, x3, x4, x5, x6] t)) :
    w.cell? ⟨b, 0, none⟩ = some x0 ∧ w.cell? ⟨b, 1, none⟩ = some x1 ∧ w.cell? ⟨b, 2, none⟩ = some x2 ∧ w.cell? ⟨b, 3, none⟩ = some x3 ∧ w.cell? ⟨b, 4, none⟩ = some x4 ∧ w.cell? ⟨b, 5, none⟩ = some x5 ∧ w.cell? ⟨b, 6, none⟩ = some x6 ∧ ∀ i, w.frozen? ⟨b, i, none⟩ = false :=
  ⟨cell_of_row w b 0 _ t (0, 0) h, cell_of_row w b 1 _ t (0, 0) h, cell_of_row w b 2 _ t (0, 0) h, cell_of_row w b 3 _ t (0, 0) h, cell_of_row w b 4 _ t (0, 0) h, cell_of_row w b 5 _ t (0, 0) h, cell_of_row w b 6 _ t (0, 0) h, fun i => frozen_of_row w b i _ t h⟩
theorem put7 {w : World} {b : Nat} {t : TypeId} {x0 x1 x2 x3 x4 x5 x6 : Value} (h : w.heap[b]? = some (.cells #[x0, x1, x2, x3, x4, x5, x6] t)) (y0 y1 y2 y3 y4 y5 y6 : Value) :
    (((((((w.setCell ⟨b, 0, none⟩ y0).setCell ⟨b, 1, none⟩ y1).setCell ⟨b, 2, none⟩ y2).setCell ⟨b, 3, none⟩ y3).setCell ⟨b, 4, none⟩ y4).setCell ⟨b, 5, none⟩ y5).setCell ⟨b, 6, none⟩ y6).heap[b]? = some (.cells #[y0, y1, y2, y3, y4, y5, y6] t) := by
  have e := heap_setCell_same _ b 6 _ t y6 (heap_setCell_same _ b 5 _ t y5 (heap_setCell_same _ b 4 _ t y4 (heap_setCell_same _ b 3 _ t y3 (heap_setCell_same _ b 2 _ t y2 (heap_setCell_same _ b 1 _ t y1 (heap_setCell_same _ b 0 _ t y0 h))))))
  rw [e]
  congr 2
theorem set7_below {B : Nat} {a w : World} (h : Below B a w) {b : Nat} (hb : B ≤ b) (y0 y1 y2 y3 y4 y5 y6 : Value) :
    Below B a (((((((w.setCell ⟨b, 0, none⟩ y0).setCell ⟨b, 1, none⟩ y1).setCell ⟨b, 2, none⟩ y2).setCell ⟨b, 3, none⟩ y3).setCell ⟨b, 4, none⟩ y4).setCell ⟨b, 5, none⟩ y5).setCell ⟨b, 6, none⟩ y6) :=
  ((((((h.setCell hb _).setCell hb _).setCell hb _).setCell hb _).setCell hb _).setCell hb _).setCell hb _
theorem set7_own {w : World} {B : Nat} {e : TypeId} {sz n : Nat} {v : Value} {us : List Value} (h : w.ownsRow B e sz v n us) {b : Nat} (hb : b < B) (y0 y1 y2 y3 y4 y5 y6 : Value) :
    (((((((w.setCell ⟨b, 0, none⟩ y0).setCell ⟨b, 1, none⟩ y1).setCell ⟨b, 2, none⟩ y2).setCell ⟨b, 3, none⟩ y3).setCell ⟨b, 4, none⟩ y4).setCell ⟨b, 5, none⟩ y5).setCell ⟨b, 6, none⟩ y6).ownsRow B e sz v n us :=
  ownsRow_setCell_below (ownsRow_setCell_below (ownsRow_setCell_below (ownsRow_setCell_below (ownsRow_setCell_below (ownsRow_setCell_below (ownsRow_setCell_below h hb _) hb _) hb _) hb _) hb _) hb _) hb _
theorem boxed2 {w w1 w2 : World} {X Y Z : Obj} {e : TypeId} {sz n : Nat} {v1 : Value} {us : List Value} (h : w1.ownsRow (w.heap.size + 2) e sz v1 n us) (g1 : ((w.alloc X).alloc Y).grownBy w1 none) (g2 : (w1.alloc Z).grownBy w2 v1.ownBlock) :
    w2.heap[w.heap.size]? = some X ∧ w2.heap[w.heap.size + 1]? = some Y ∧ Below w.heap.size w w2 := by
  have hs : w.heap.size + 2 ≤ w1.heap.size := by have := g1.size; simpa using this
  have hs2 : w1.heap.size + 1 ≤ w2.heap.size := by have := g2.size; simpa using this
  have hlt : ∀ k, v1.ownBlock = some k → w.heap.size + 2 ≤ k := fun k hk => (World.ownsRow.lt h k hk).1
  have hne : ∀ k, k < w.heap.size + 2 → some k ≠ v1.ownBlock := fun k hk e => by have := hlt k e.symm; omega
  refine ⟨?_, ?_, ?_⟩
  · rw [g2.block _ (by simp; omega) (hne _ (by omega)), heap_alloc_old w1 _ (by omega), g1.block _ (by simp; omega) (by simp), heap_alloc2_old]
  · rw [g2.block _ (by simp; omega) (hne _ (by omega)), heap_alloc_old w1 _ (by omega), g1.block _ (by simp) (by simp), heap_alloc2_new]
  · exact (((below2 w X Y).grown g1 (by simp; omega) (fun k h => by cases h)).alloc (by omega) _).grown g2 (by simp; omega) (fun k hk => by have := hlt k hk; omega)
set_option maxRecDepth 4000 in
theorem moved_any (w : World) (T : Nat → Tag) (lv nv wv l : Value) (room left : Int) (off : Bool) (done : Int) (n : Nat) (ws : List Value) (h1 : isSl lv) (h2 : isSl nv) (h4 : isSl l) (R : RSl w T wv 1 n ws) (hws : ∀ u ∈ ws, isSl u) (hn : n ≤ 1000000) (hT : ∀ b, T b ≠ .none → b < w.heap.size) :
    Calls Try.prog 56 #[RfV lv nv wv room left off done, l] w fun e w' =>
      ∃ wv', e = .returned (RfV lv l wv' room left off done) ∧ w'.ownsRow w.heap.size 32 1 wv' (n + 1) (ws ++ [l]) ∧ Below w.heap.size w w' := by
  obtain ⟨A1, n1, c1, rfl⟩ := h1
  obtain ⟨A2, n2, c2, rfl⟩ := h2
  obtain ⟨A4, n4, c4, rfl⟩ := h4
  obtain ⟨A3, c3, rfl, -⟩ := id R
  obtain ⟨i0, hi, hz0, hz1, hz2⟩ := info_parts info32
  have HI := Lib.hid (And.intro hi (And.intro hz0 (And.intro hz1 hz2)))
  have HR := Lib.hid R
  have HW := Lib.hid hws
  have HT := Lib.hid (fun b (hb : w.heap.size ≤ b) => show T b = .none by
    cases e : T b with
    | none => rfl
    | _ => exact absurd (hT b (by rw [e]; intro h; cases h)) (by omega))
  clear hi hz0 hz1 hz2 R hws hT
  unfold RfV
  go_enter Try.func56, Try.ntmps56
  go_wp2_with (first
    | (at_builtin; refine wpList_app T rfl _ _ 33 rfl (w.heap.size + 2) 32 i0 _ 1 24 Try.underlying33 HI.out.1 HI.out.2.1 HI.out.2.2.1 HI.out.2.2.2 rfl (by decide) (.slice none 0 0) 0 [] rfl ⟨rfl, Or.inl ⟨rfl, rfl⟩⟩ _ n ws rfl (HR.out.keep (Shf.Below.keep (below2 ..) T)) (fun u hu => by obtain ⟨_, _, _, rfl⟩ := HW.out u hu; rfl) (by unfold maxLen; omega) (by omega) (by simp) ?_; intro v1 w1 own1 grow1; rw [Nat.zero_add, List.nil_append] at own1; have HO := Lib.hid (And.intro own1 grow1); obtain ⟨A5, c5, rfl, -⟩ := own_sl (T := fun _ => .none) own1 (fun _ _ => rfl); clear own1 grow1)
    | (at_builtin; refine wpList_append_own_at _ rfl _ _ 33 rfl (w.heap.size + 2) 32 i0 _ 1 24 Try.underlying33 HI.out.1 HI.out.2.1 HI.out.2.2.1 HI.out.2.2.2 rfl (by decide) (.slice A5 n c5) _ _ rfl (HO.out.1.alloc _) ⟨w1.heap.size, 0, none⟩ 1 1 [.slice A4 n4 c4] rfl rfl (cell_one_new _ _ _) (by intro u hu; simp at hu; rcases hu with rfl; rfl) (by unfold maxLen; omega) (by omega) (by have := HO.out.2.size; simp at this; simp; omega) ?_; intro v2 w2 own2 grow2 nil2 at2; obtain ⟨D1, D2, D3⟩ := boxed2 HO.out.1 HO.out.2 grow2; obtain ⟨A6, c6, rfl, -⟩ := own_sl (T := fun _ => .none) own2 (fun _ _ => rfl); have HZ := Lib.hid (And.intro own2 (And.intro D1 (And.intro D2 D3))); clear own2 grow2 nil2 at2 D3; obtain ⟨p0, p1, p2, p3, p4, p5, p6, pf⟩ := row7 D1; obtain ⟨q0, q1, q2, q3, q4, q5, q6, qf⟩ := row7 D2; clear D1 D2)
    | go_in)
  (try simp only [Exit.inBlock, Exit.then])
  have K2 : (w2.setCell ⟨w.heap.size, 2, none⟩ (.slice A6 (n + 1) c6)).heap[w.heap.size + 1]? = w2.heap[w.heap.size + 1]? := Below.heap_setCell _ _ _ _ (by simp)
  refine bodyPost_ret (res35 rfl _ _ (w.heap.size + 1) 35 _ (0, 0) rfl (put7 (K2.trans HZ.out.2.2.1) ..) rfl) rfl ?_
  exact ⟨_, rfl, own_low (set7_own (ownsRow_setCell_below HZ.out.1 (by simp) _) (by omega) ..) (by omega), set7_below (HZ.out.2.2.2.setCell (Nat.le_refl _) _) (by omega) ..⟩
end Go.Proofs.Ytkalgonkaoiapaa.Shf

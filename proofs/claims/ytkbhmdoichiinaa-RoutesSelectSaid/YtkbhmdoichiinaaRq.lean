/- Routes and the law's list, side by side. -/
import Derived.Test.YtkbhmdoichiinaaRo
namespace Go.Proofs.Ytkbhmdoichiinaa.Rts
open Pre Ser
open Go.Proofs.Ytkbhmdoichiinaa.Src (row1 row2)
open Go.ChangeShapes Go.WideShapes Go.ChangeAt Go.RowKit
set_option maxRecDepth 8000
set_option linter.unusedVariables false

/-- Routes, and a list of what was told beside them, in blocks of its own. -/
structure PL (lo : Nat) (w : World) (q : Nat) (L : List E) (v vl : Value) (l : List E) : Prop where
  r : RtsAt lo w q L v
  sl : ∃ A c, vl = .slice A l.length c ∧ ESl w A l ∧ (A = none → c = 0) ∧ ∀ b o, A = some ⟨b, o, none⟩ → (∃ cur, w.heap[b]? = some (.cells cur 43 (0, 0))) ∧ v.ownBlock ≠ some b
theorem row_ne {w : World} {i k : Nat} {x y : Array Value} {t u : TypeId} {fr fs : Nat × Nat} (h : w.heap[i]? = some (.cells x t fr)) (h' : w.heap[k]? = some (.cells y u fs)) (ht : t ≠ u) : i ≠ k := fun e => by
  subst e
  rw [h] at h'; injection h' with h'; injection h' with _ h2 _; exact ht h2
theorem PL.fr {lo : Nat} {w w' : World} {q : Nat} {L : List E} {v vl : Value} {l : List E} {X : Nat → Prop} (h : PL lo w q L v vl l) (F : Fr X w w') (hq : ¬ X q) (hx : ∀ b, v.ownBlock = some b → ¬ X b) (hl : ∀ b cur, w.heap[b]? = some (.cells cur 43 (0, 0)) → v.ownBlock ≠ some b → ¬ X b) : PL lo w' q L v vl l := by
  obtain ⟨hr, A, c, e, h1, h0, h2⟩ := h
  refine ⟨hr.fr F hq hx, A, c, e, h1.keep (fun b o e hb => ?_) F.size, h0, fun b o e => ?_⟩
  · obtain ⟨⟨cur, h3⟩, h4⟩ := h2 b o e
    exact F.block b hb (hl b cur h3 h4)
  · obtain ⟨⟨cur, h3⟩, h4⟩ := h2 b o e
    exact ⟨⟨cur, F.row h3 (hl b cur h3 h4)⟩, h4⟩
theorem PL.step {lo : Nat} {w w' : World} {q : Nat} {L : List E} {v vl : Value} {l : List E} (h : PL lo w q L v vl l) (B : Below w.heap.size w w') : PL lo w' q L v vl l :=
  h.fr (X := fun _ => False) (Fr.of B) (fun h => h) (fun _ _ h => h) (fun _ _ _ _ h => h)
theorem PL.box {lo : Nat} {w w' : World} {q : Nat} {L : List E} {v vl : Value} {l : List E} {k : Nat} {x : Array Value} {t : TypeId} (h : PL lo w q L v vl l) (hr : w.heap[k]? = some (.cells x t (0, 0))) (h1 : t ≠ 43) (h2 : t ≠ 72) (F : Fr (fun i => i = k) w w') : PL lo w' q L v vl l :=
  h.fr F (fun e => row_ne h.r.row hr h2.symm e) (fun b e0 e1 => own_ne h.r.own hr h1 (e1 ▸ e0)) (fun b cur e _ e1 => row_ne e hr h1.symm e1)
theorem PL.mv {lo : Nat} {w w' : World} {q : Nat} {L L' : List E} {v vl : Value} {l : List E} {ans e : Ending} (h : PL lo w q L v vl l) (M : MvSaid lo w q v L' ans e w') : ∃ v', PL lo w' q L' v' vl l ∧ Fr (Xr q v) w w' ∧ Later w v v' := by
  obtain ⟨-, v', h1, h2, h3⟩ := M
  obtain ⟨hr, A, c, e, h4, h0, h5⟩ := h
  have hb : ∀ b o, A = some ⟨b, o, none⟩ → ¬ Xr q v b := fun b o e hx => by
    obtain ⟨⟨cur, h6⟩, h7⟩ := h5 b o e
    rcases hx with hx | hx
    · exact row_ne h6 hr.row (by decide) hx
    · exact h7 hx
  refine ⟨v', ⟨h1, A, c, e, h4.keep (fun b o e hlt => h2.block b hlt (hb b o e)) h2.size, h0, fun b o e => ?_⟩, h2, h3⟩
  obtain ⟨⟨cur, h6⟩, h7⟩ := h5 b o e
  refine ⟨⟨cur, h2.row h6 (hb b o e)⟩, fun e2 => ?_⟩
  rcases h3 with h3 | h3
  · exact h7 (h3 ▸ e2)
  · have := h3 b e2
    have := (Array.getElem?_eq_some_iff.1 h6).1
    omega
theorem PL.lst {lo : Nat} {w w' : World} {q : Nat} {L : List E} {v vl v2 : Value} {l l2 : List E} (h : PL lo w q L v vl l) (B : Below w.heap.size w w') (O : EOwn w' w.heap.size v2 l2) : PL lo w' q L v v2 l2 := by
  obtain ⟨A, c, e, h1, h2⟩ := O.form
  refine ⟨h.r.kept B, A, c, e, h1, fun hA => ?_, fun b o e2 => ?_⟩
  · rcases O.2 with ⟨hv, -⟩ | ⟨g, cap, cur, hv, -⟩
    · rw [hv] at e; injection e with _ _ e3; exact e3.symm
    · rw [hv, hA] at e; injection e with e1; cases e1
  obtain ⟨h3, h4, h5, -⟩ := h2 b o e2
  refine ⟨?_, fun e3 => ?_⟩
  · rcases O.2 with ⟨hv, -⟩ | ⟨g, cap, cur, hv, -, hg, -⟩
    · rw [hv] at h3; cases h3
    · rw [hv] at h3
      have h3 : some g = some b := h3
      injection h3 with h3; subst h3
      exact ⟨cur, hg⟩
  · have := (own_lt h.r.own e3).2; omega
theorem Fr.mv {w W W' : World} {q : Nat} {v0 v : Value} (h : Fr (Xr q v0) w W) (lt : Later w v0 v) (h' : Fr (Xr q v) W W') : Fr (Xr q v0) w W' :=
  ⟨h'.os.trans h.os, h'.tape.trans h.tape, h'.output.trans h.output, Nat.le_trans h.size h'.size, fun k hk hx => (h'.block k (Nat.lt_of_lt_of_le hk h.size) (fun e => by
    rcases e with e | e
    · exact hx (Or.inl e)
    · rcases lt with lt | lt
      · exact hx (Or.inr (lt ▸ e))
      · have := lt k e; omega)).trans (h.block k hk hx)⟩
theorem Fr.later {X Y : Nat → Prop} {w W W' : World} (h : Fr X w W) (h' : Fr Y W W') (hy : ∀ k, k < w.heap.size → ¬ Y k) : Fr X w W' :=
  ⟨h'.os.trans h.os, h'.tape.trans h.tape, h'.output.trans h.output, Nat.le_trans h.size h'.size, fun k hk hx => (h'.block k (Nat.lt_of_lt_of_le hk h.size) (hy k hk)).trans (h.block k hk hx)⟩
theorem Later.trans {w W : World} {v0 v v' : Value} (h : Later w v0 v) (hs : w.heap.size ≤ W.heap.size) (h' : Later W v v') : Later w v0 v' := by
  rcases h' with h' | h'
  · rcases h with h | h
    · exact Or.inl (h'.trans h)
    · exact Or.inr fun b e => h b (h' ▸ e)
  · exact Or.inr fun b e => Nat.le_trans hs (h' b e)
/-- What stands beside a law's box of its list: routes, list, rows of other kinds. -/
structure DX (lo : Nat) (w W : World) (q : Nat) (v0 : Value) (L : List E) (v vl : Value) (l : List E) (now : Nat) (R : List (Nat × Array Value × TypeId)) : Prop where
  p : PL lo W q L v vl l
  f : Fr (Xr q v0) w W
  lt : Later w v0 v
  r0 : W.heap[w.heap.size]? = some (.cells #[vl, .int .u64 (now : Int)] 29 (0, 0))
  rows : ∀ y ∈ R, W.heap[y.1]? = some (.cells y.2.1 y.2.2 (0, 0)) ∧ y.2.2 ≠ 43 ∧ y.2.2 ≠ 72 ∧ y.1 ≠ w.heap.size
variable {lo : Nat} {w W W' : World} {q now : Nat} {v0 v vl : Value} {L l : List E} {R : List (Nat × Array Value × TypeId)}
theorem DX.step (h : DX lo w W q v0 L v vl l now R) (B : Below W.heap.size W W') : DX lo w W' q v0 L v vl l now R :=
  ⟨h.p.step B, h.f.step B, h.lt, brow B h.r0, fun y hy => ⟨brow B (h.rows y hy).1, (h.rows y hy).2⟩⟩
theorem DX.mv {L' : List E} {ans e : Ending} (h : DX lo w W q v0 L v vl l now R) (M : MvSaid lo W q v L' ans e W') : ∃ v', DX lo w W' q v0 L' v' vl l now R := by
  obtain ⟨v', h1, h2, h3⟩ := h.p.mv M
  have hx : ∀ (k : Nat) (x : Array Value) (t : TypeId), W.heap[k]? = some (.cells x t (0, 0)) → t ≠ 43 → t ≠ 72 → ¬ Xr q v k := fun k x t hr ht1 ht2 e => by
    rcases e with e | e
    · exact row_ne hr h.p.r.row ht2 e
    · exact own_ne h.p.r.own hr ht1 e
  exact ⟨v', h1, h.f.mv h.lt h2, h.lt.trans h.f.size h3, h2.row h.r0 (hx _ _ _ h.r0 (by decide) (by decide)), fun y hy => by
    obtain ⟨a, b, c, d⟩ := h.rows y hy
    exact ⟨h2.row a (hx _ _ _ a b c), b, c, d⟩⟩
theorem DX.set {now' : Nat} {v2 : Value} {l2 : List E} (h : DX lo w W q v0 L v vl l now R) (F : Fr (fun k => k = w.heap.size) W W') (hr : W'.heap[w.heap.size]? = some (.cells #[v2, .int .u64 (now' : Int)] 29 (0, 0))) (hp : PL lo W' q L v v2 l2) : DX lo w W' q v0 L v v2 l2 now' R :=
  ⟨hp, h.f.later F (fun k hk e => by omega), h.lt, hr, fun y hy => by
    obtain ⟨a, b, c, d⟩ := h.rows y hy
    exact ⟨F.row a d, b, c, d⟩⟩
theorem DX.add (h : DX lo w W q v0 L v vl l now R) {k : Nat} {x : Array Value} {t : TypeId} (hr : W.heap[k]? = some (.cells x t (0, 0))) (h1 : t ≠ 43) (h2 : t ≠ 72) (h3 : k ≠ w.heap.size) : DX lo w W q v0 L v vl l now ((k, x, t) :: R) :=
  ⟨h.p, h.f, h.lt, h.r0, fun y hy => by
    rcases List.mem_cons.1 hy with rfl | hy
    · exact ⟨hr, h1, h2, h3⟩
    · exact h.rows y hy⟩
theorem DX.row (h : DX lo w W q v0 L v vl l now R) {k : Nat} {x : Array Value} {t : TypeId} (hm : (k, x, t) ∈ R) : W.heap[k]? = some (.cells x t (0, 0)) := (h.rows _ hm).1
theorem DX.put2 {v2 : Value} {l2 : List E} (h : DX lo w W q v0 L v vl l now R) (B : Below W.heap.size W W') (O : EOwn W' W.heap.size v2 l2) (now' : Nat) : DX lo w ((W'.setCell ⟨w.heap.size, 0, none⟩ v2).setCell ⟨w.heap.size, 1, none⟩ (.int .u64 (now' : Int))) q v0 L v v2 l2 now' R :=
  have F : Fr (fun k => k = w.heap.size) W' ((W'.setCell ⟨w.heap.size, 0, none⟩ v2).setCell ⟨w.heap.size, 1, none⟩ (.int .u64 (now' : Int))) := (Fr.grown (Src.set_grown W' ⟨w.heap.size, 0, none⟩ v2) (fun k e => (Option.some.inj e).symm)).trans (Fr.grown (Src.set_grown _ ⟨w.heap.size, 1, none⟩ _) (fun k e => (Option.some.inj e).symm))
  (h.step B).set F (Src.Tab_set2 (brow B h.r0) _ _) ((h.p.lst B O).box (brow B h.r0) (by decide) (by decide) F)
theorem DX.put1 {v2 : Value} {l2 : List E} (h : DX lo w W q v0 L v vl l now R) (B : Below W.heap.size W W') (O : EOwn W' W.heap.size v2 l2) : DX lo w (W'.setCell ⟨w.heap.size, 0, none⟩ v2) q v0 L v v2 l2 now R :=
  have F : Fr (fun k => k = w.heap.size) W' (W'.setCell ⟨w.heap.size, 0, none⟩ v2) := Fr.grown (Src.set_grown W' ⟨w.heap.size, 0, none⟩ v2) (fun k e => (Option.some.inj e).symm)
  (h.step B).set F (by have := heap_setCell_same W' w.heap.size 0 _ 29 v2 (brow B h.r0); simpa using this) ((h.p.lst B O).box (brow B h.r0) (by decide) (by decide) F)
theorem DX.time (h : DX lo w W q v0 L v vl l now R) (now' : Nat) : DX lo w (W.setCell ⟨w.heap.size, 1, none⟩ (.int .u64 (now' : Int))) q v0 L v vl l now' R :=
  have F : Fr (fun k => k = w.heap.size) W (W.setCell ⟨w.heap.size, 1, none⟩ (.int .u64 (now' : Int))) := Fr.grown (Src.set_grown W ⟨w.heap.size, 1, none⟩ _) (fun k e => (Option.some.inj e).symm)
  h.set F (by have := heap_setCell_same W w.heap.size 1 _ 29 (.int .u64 (now' : Int)) h.r0; simpa using this) (h.p.box h.r0 (by decide) (by decide) F)
def actC (d : ActD) : Array Value := #[.int .u8 (d.K : Int), .int .u8 (d.B : Int), .int .u8 (d.P : Int), .int .u8 (d.Q : Int), .int .u16 (d.M : Int)]
theorem DX.start (h : PL lo w q L v vl l) (x : Array Value) : DX lo w (((w.alloc (.cells #[vl, .int .u64 (now : Int)] 29)).alloc (.cells x 34)).alloc (.cells #[.slice none 0 0, .int .u64 0] 29)) q v L v vl l now [(w.heap.size + 1, x, 34), (w.heap.size + 2, #[.slice none 0 0, .int .u64 0], 29)] := by
  have B1 := (((Below.refl w.heap.size w).alloc (Nat.le_refl _) (.cells #[vl, .int .u64 (now : Int)] 29)).alloc (by simp) (.cells x 34)).alloc (by simp; omega) (.cells #[.slice none 0 0, .int .u64 0] 29)
  have e1 : (w.alloc (.cells #[vl, .int .u64 (now : Int)] 29)).heap.size = w.heap.size + 1 := by simp
  have e2 : ((w.alloc (.cells #[vl, .int .u64 (now : Int)] 29)).alloc (.cells x 34)).heap.size = w.heap.size + 2 := by simp
  refine ⟨h.step B1, Fr.of B1, Or.inl rfl, ?_, fun y hy => ?_⟩
  · exact (heap_alloc_old _ _ (by rw [e2]; omega)).trans ((heap_alloc_old _ _ (by rw [e1]; omega)).trans (heap_alloc_new w _))
  · simp only [List.mem_cons, List.not_mem_nil, or_false] at hy
    rcases hy with rfl | rfl
    · refine ⟨?_, (show (34 : TypeId) ≠ 43 by decide), (show (34 : TypeId) ≠ 72 by decide), by show w.heap.size + 1 ≠ _; omega⟩
      have := heap_alloc_new (w.alloc (.cells #[vl, .int .u64 (now : Int)] 29)) (.cells x 34)
      rw [e1] at this
      exact (heap_alloc_old _ _ (by rw [e2]; show w.heap.size + 1 < _; omega)).trans this
    · refine ⟨?_, (show (29 : TypeId) ≠ 43 by decide), (show (29 : TypeId) ≠ 72 by decide), by show w.heap.size + 2 ≠ _; omega⟩
      have := heap_alloc_new ((w.alloc (.cells #[vl, .int .u64 (now : Int)] 29)).alloc (.cells x 34)) (.cells #[.slice none 0 0, .int .u64 0] 29)
      rw [e2] at this
      exact this
def DoSaid (lo : Nat) (w : World) (q : Nat) (v0 : Value) (L' l' : List E) (now' : Nat) (e : Ending) (w' : World) : Prop :=
  ∃ v' A' c', e = .returned (.tuple #[.agg #[.slice A' l'.length c', .int .u64 (now' : Int)], .bool true]) ∧ PL lo w' q L' v' (.slice A' l'.length c') l' ∧ Fr (Xr q v0) w w' ∧ Later w v0 v'
/-- The end: the box of the answer is written. -/
theorem DX.fin {A : Option Addr} {c : Nat} (h : DX lo w W q v0 L v (.slice A l.length c) l now R) (hm : (w.heap.size + 2, #[.slice none 0 0, .int .u64 0], 29) ∈ R) : DoSaid lo w q v0 L l now (.returned (.tuple #[.agg #[.slice A l.length c, .int .u64 (now : Int)], .bool true])) ((W.setCell ⟨w.heap.size + 2, 0, none⟩ (.slice A l.length c)).setCell ⟨w.heap.size + 2, 1, none⟩ (.int .u64 (now : Int))) := by
  have F : Fr (fun k => k = w.heap.size + 2) W ((W.setCell ⟨w.heap.size + 2, 0, none⟩ (.slice A l.length c)).setCell ⟨w.heap.size + 2, 1, none⟩ (.int .u64 (now : Int))) := (Fr.grown (Src.set_grown W ⟨w.heap.size + 2, 0, none⟩ _) (fun k e => (Option.some.inj e).symm)).trans (Fr.grown (Src.set_grown _ ⟨w.heap.size + 2, 1, none⟩ _) (fun k e => (Option.some.inj e).symm))
  exact ⟨v, A, c, rfl, h.p.box (h.row hm) (by decide) (by decide) F, h.f.later F (fun k hk e => by omega), h.lt⟩
/-- So far from behind thrown away. -/
def dn (p : E → Bool) (l : List E) (j : Nat) : List E := l.take j ++ (l.drop j).filter fun e => !p e
theorem dn_zero (p : E → Bool) (l : List E) : dn p l 0 = l.filter fun e => !p e := by unfold dn; simp
theorem dn_all (p : E → Bool) (l : List E) : dn p l l.length = l := by unfold dn; simp
theorem dn_at {p : E → Bool} {l : List E} {k : Nat} (hk : k < l.length) : ∃ h : k < (dn p l (k + 1)).length, (dn p l (k + 1))[k] = l[k] := by
  have h1 : k < (l.take (k + 1)).length := by rw [List.length_take]; omega
  refine ⟨by unfold dn; rw [List.length_append]; omega, ?_⟩
  unfold dn
  rw [List.getElem_append_left h1, List.getElem_take]
theorem dn_gone {p : E → Bool} {l : List E} {k : Nat} (hk : k < l.length) (hp : p l[k] = true) : (dn p l (k + 1)).eraseIdx k = dn p l k := by
  unfold dn
  rw [List.eraseIdx_append_of_lt_length (by rw [List.length_take]; omega), List.take_succ_eq_append_getElem hk, List.eraseIdx_append_of_length_le (by rw [List.length_take]; omega), List.length_take, Nat.min_eq_left (Nat.le_of_lt hk), Nat.sub_self, List.eraseIdx_cons_zero, List.append_nil, List.drop_eq_getElem_cons hk, List.filter_cons_of_neg (by simp [hp])]
theorem dn_stays {p : E → Bool} {l : List E} {k : Nat} (hk : k < l.length) (hp : p l[k] = false) : dn p l (k + 1) = dn p l k := by
  unfold dn
  rw [List.take_succ_eq_append_getElem hk, List.drop_eq_getElem_cons hk, List.filter_cons_of_pos (by simp [hp]), List.append_assoc]
  rfl
theorem dn_length (p : E → Bool) (l : List E) (j : Nat) : (dn p l j).length ≤ l.length := by
  unfold dn
  have := List.length_filter_le (fun e => !p e) (l.drop j)
  rw [List.length_append, List.length_take]
  rw [List.length_drop] at this
  omega
end Go.Proofs.Ytkbhmdoichiinaa.Rts

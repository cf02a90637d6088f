/- What is selected is nearer than the mark; the same again. -/
import Derived.Test.YtkbhmdoichiinaaSF
namespace Go.Proofs.Ytkbhmdoichiinaa.Rts
open Pre Ser
open Go.Proofs.Ytkbhmdoichiinaa.Src (row1 row2 Mk SrcAt pA pN)
open Go.ChangeShapes Go.WideShapes Go.ChangeAt Go.RowKit
set_option maxRecDepth 8000
set_option linter.unusedVariables false

def ro (cf : Nat → Nat) (e : E) : Ro := ⟨e.a, e.n, e.b, e.m + cf e.b, e.s⟩
theorem fold_le {cf : Nat → Nat} {f : Mk} : ∀ (G : List E) (x : Nat × Ro), G.foldl (stp cf f) x = x ∨ (G.foldl (stp cf f) x).1 < x.1 ∧ ∃ e ∈ G, G.foldl (stp cf f) x = (e.m + cf e.b, ro cf e) ∧ feasE f e = true
  | [], x => Or.inl rfl
  | e :: G, x => by
    have ih := fold_le (cf := cf) (f := f) G (stp cf f x e)
    show G.foldl (stp cf f) (stp cf f x e) = x ∨ _
    by_cases h : e.m + cf e.b < x.1 ∧ feasE f e = true
    · have hs : stp cf f x e = (e.m + cf e.b, ro cf e) := by unfold stp; rw [if_pos h]; rfl
      rw [List.foldl_cons]
      rcases ih with ih | ⟨h1, e', he', h2, h3⟩
      · right
        rw [ih, hs]
        exact ⟨h.1, e, List.mem_cons_self .., rfl, h.2⟩
      · right
        rw [hs] at h1
        refine ⟨Nat.lt_trans (by rw [hs]; exact h1) h.1, e', List.mem_cons_of_mem _ he', h2, h3⟩
    · have hs : stp cf f x e = x := by unfold stp; rw [if_neg h]
      rw [List.foldl_cons]
      rw [hs] at ih ⊢
      rcases ih with ih | ⟨h1, e', he', h2, h3⟩
      · exact Or.inl ih
      · exact Or.inr ⟨h1, e', List.mem_cons_of_mem _ he', h2, h3⟩
theorem fold_same {cf : Nat → Nat} {f f' : Mk} : ∀ (G : List E) (x x' : Nat × Ro), x.1 ≤ x'.1 → (∀ e ∈ G, feasE f' e = true → feasE f e = true) → (∀ e ∈ G, feasE f e = true → G.foldl (stp cf f) x = (e.m + cf e.b, ro cf e) → feasE f' e = true) →
    ((G.foldl (stp cf f) x).1 < x.1 ∨ x' = x) → G.foldl (stp cf f') x' = G.foldl (stp cf f) x
  | [], x, x', _, _, _, h => by
    rcases h with h | h
    · exact absurd h (Nat.lt_irrefl _)
    · exact h
  | e :: G, x, x', hx, hs, hc, h => by
    rw [List.foldl_cons, List.foldl_cons]
    rw [List.foldl_cons] at h hc
    have hs' := fun e' he' => hs e' (List.mem_cons_of_mem _ he')
    by_cases hi : e.m + cf e.b < x.1 ∧ feasE f e = true
    · have e1 : stp cf f x e = (e.m + cf e.b, ro cf e) := by unfold stp; rw [if_pos hi]; rfl
      have hle := fold_le (cf := cf) (f := f) G (stp cf f x e)
      rw [e1] at hle h hc ⊢
      by_cases hf' : feasE f' e = true
      · have e2 : stp cf f' x' e = (e.m + cf e.b, ro cf e) := by unfold stp; rw [if_pos ⟨Nat.lt_of_lt_of_le hi.1 hx, hf'⟩]; rfl
        rw [e2]
        refine fold_same G _ _ (Nat.le_refl _) hs' (fun e' he' hf he => hc e' (List.mem_cons_of_mem _ he') hf he) (Or.inr rfl)
      · have e2 : stp cf f' x' e = x' := by unfold stp; rw [if_neg (fun h => hf' h.2)]
        rw [e2]
        refine fold_same G _ _ (Nat.le_of_lt (Nat.lt_of_lt_of_le hi.1 hx)) hs' (fun e' he' hf he => hc e' (List.mem_cons_of_mem _ he') hf he) (Or.inl ?_)
        rcases hle with hle | hle
        · exact absurd (hc e (List.mem_cons_self ..) hi.2 hle) hf'
        · exact hle.1
    · have e1 : stp cf f x e = x := by unfold stp; rw [if_neg hi]
      rw [e1] at h hc ⊢
      by_cases hi' : e.m + cf e.b < x'.1 ∧ feasE f' e = true
      · have hge : x.1 ≤ e.m + cf e.b := by
          rcases Nat.lt_or_ge (e.m + cf e.b) x.1 with h2 | h2
          · exact absurd ⟨h2, hs e (List.mem_cons_self ..) hi'.2⟩ hi
          · exact h2
        have e2 : stp cf f' x' e = (e.m + cf e.b, ro cf e) := by unfold stp; rw [if_pos hi']; rfl
        rw [e2]
        refine fold_same G _ _ hge hs' (fun e' he' hf he => hc e' (List.mem_cons_of_mem _ he') hf he) (Or.inl ?_)
        rcases h with h | h
        · exact h
        · rw [h] at hi'; omega
      · have e2 : stp cf f' x' e = x' := by unfold stp; rw [if_neg hi']
        rw [e2]
        exact fold_same G _ _ hx hs' (fun e' he' hf he => hc e' (List.mem_cons_of_mem _ he') hf he) h
/-- Whence it is that is selected. -/
theorem sel_from {cf : Nat → Nat} {f : Mk} {M : List E} {a n : Nat} {r : Ro} (h : selP cf f M a n = some r) : ∃ e ∈ M, e.a = a ∧ e.n = n ∧ r = ro cf e ∧ feasE f e = true ∧ e.m + cf e.b < 65535 := by
  unfold selP at h
  split at h
  · rename_i hs
    rcases fold_le (cf := cf) (f := f) (M.filter (ofp a n)) (65535, Ro.zero) with h1 | ⟨h1, e, he, h2, h3⟩
    · unfold short at hs; rw [h1] at hs; exact absurd hs (Nat.lt_irrefl _)
    · obtain ⟨he1, he2⟩ := List.mem_filter.1 he
      have h4 := of_decide_eq_true he2
      unfold short at h hs
      rw [h2] at h hs
      exact ⟨e, he1, h4.1, h4.2, (Option.some.inj h).symm, h3, hs⟩
  · cases h
/-- The marks behind the first so many that are selected are lowered. -/
def fN (f : Mk) (rs : List Ro) (k : Nat) : Mk := fun a n => match (rs.take k).find? (fun r => decide (r.a = a ∧ r.n = n)) with
  | some r => some (f.best a n (r.s, r.m))
  | none => f a n
theorem fN_zero (f : Mk) (rs : List Ro) : fN f rs 0 = f := by funext a n; unfold fN; simp
theorem fN_at {f : Mk} {rs : List Ro} {k : Nat} (hup : rs.Pairwise fun x y => x.pk < y.pk) (hk : k < rs.length) : fN f rs k rs[k].a rs[k].n = f rs[k].a rs[k].n := by
  unfold fN
  have : (rs.take k).find? (fun r => decide (r.a = rs[k].a ∧ r.n = rs[k].n)) = none := by
    rw [List.find?_eq_none]
    intro r hr h
    obtain ⟨j, hj, rfl⟩ := List.getElem_of_mem hr
    rw [List.length_take] at hj
    rw [List.getElem_take] at h
    have h := of_decide_eq_true h
    have := List.pairwise_iff_getElem.1 hup j k (by omega) hk (by omega)
    unfold Ro.pk at this
    rw [h.1, h.2] at this
    omega
  rw [this]
theorem fN_succ {f : Mk} {rs : List Ro} {k : Nat} (hup : rs.Pairwise fun x y => x.pk < y.pk) (hk : k < rs.length) : fN f rs (k + 1) = (fN f rs k).put rs[k].a rs[k].n ((fN f rs k).best rs[k].a rs[k].n (rs[k].s, rs[k].m)) := by
  have h0 := fN_at (f := f) hup hk
  funext a n
  unfold Mk.put Mk.best
  rw [h0]
  unfold fN
  rw [List.take_succ_eq_append_getElem hk, List.find?_append]
  by_cases h : a = rs[k].a ∧ n = rs[k].n
  · rw [if_pos h]
    have hn : (rs.take k).find? (fun r => decide (r.a = a ∧ r.n = n)) = none := by
      rw [List.find?_eq_none]
      intro r hr h2
      obtain ⟨j, hj, rfl⟩ := List.getElem_of_mem hr
      rw [List.length_take] at hj
      rw [List.getElem_take] at h2
      have h2 := of_decide_eq_true h2
      have := List.pairwise_iff_getElem.1 hup j k (by omega) hk (by omega)
      unfold Ro.pk at this
      rw [h2.1, h2.2, h.1, h.2] at this
      omega
    rw [hn]
    have hf : [rs[k]].find? (fun r => decide (r.a = a ∧ r.n = n)) = some rs[k] := by simp [h.1, h.2]
    rw [hf]
    simp only [Option.none_or]
    unfold Mk.best
    rw [h.1, h.2]
  · rw [if_neg h]
    have hf : [rs[k]].find? (fun r => decide (r.a = a ∧ r.n = n)) = none := by
      rw [List.find?_eq_none]
      intro r hr h2
      rw [List.mem_singleton] at hr
      subst hr
      have h2 := of_decide_eq_true h2
      exact h ⟨h2.1.symm, h2.2.symm⟩
    rw [hf, Option.or_none]
theorem fN_of {f : Mk} {rs : List Ro} (hup : rs.Pairwise fun x y => x.pk < y.pk) {r : Ro} (hr : r ∈ rs) : fN f rs rs.length r.a r.n = some (f.best r.a r.n (r.s, r.m)) := by
  unfold fN
  rw [List.take_length]
  cases hf : rs.find? (fun r' => decide (r'.a = r.a ∧ r'.n = r.n)) with
  | none =>
    rw [List.find?_eq_none] at hf
    exact absurd (decide_eq_true ⟨rfl, rfl⟩) (hf r hr)
  | some r' =>
    have h1 : r'.a = r.a ∧ r'.n = r.n := by have := List.find?_some hf; simpa using this
    have h2 := List.mem_of_find?_eq_some hf
    obtain ⟨i, hi, rfl⟩ := List.getElem_of_mem hr
    obtain ⟨j, hj, rfl⟩ := List.getElem_of_mem h2
    have : i = j := by
      rcases Nat.lt_trichotomy i j with h | h | h
      · have := List.pairwise_iff_getElem.1 hup i j hi hj h
        unfold Ro.pk at this; rw [h1.1, h1.2] at this; omega
      · exact h
      · have := List.pairwise_iff_getElem.1 hup j i hj hi h
        unfold Ro.pk at this; rw [h1.1, h1.2] at this; omega
    subst this
    rfl
theorem fN_not {f : Mk} {rs : List Ro} {a n : Nat} (h : ∀ r ∈ rs, ¬ (r.a = a ∧ r.n = n)) : fN f rs rs.length a n = f a n := by
  unfold fN
  have : (rs.take rs.length).find? (fun r => decide (r.a = a ∧ r.n = n)) = none := by
    rw [List.find?_eq_none]
    intro r hr h2
    exact h r (List.mem_of_mem_take hr) (of_decide_eq_true h2)
  rw [this]
theorem near4 {i m j n k o : Nat} (hi : i < 4) (hj : j < 4) (hk : k < 4) (h1 : nearer (i : Int) m (j : Int) n = true) (h2 : nearer (j : Int) n (k : Int) o = true) : nearer (i : Int) m (k : Int) o = true := by
  unfold nearer newer at *
  simp only [Bool.or_eq_true, Bool.and_eq_true, decide_eq_true_eq, beq_iff_eq] at *
  omega
theorem cfL_pos (k : Nat) : 1 ≤ cfL k := by
  unfold cfL
  by_cases h7 : k < 7
  · have h : k = 0 ∨ k = 1 ∨ k = 2 ∨ k = 3 ∨ k = 4 ∨ k = 5 ∨ k = 6 := by omega
    rcases h with rfl | rfl | rfl | rfl | rfl | rfl | rfl <;> decide
  · rw [List.getD_eq_getElem?_getD, List.getElem?_eq_none (by simp; omega)]
    decide
/-- What told of it is nearer than the mark that comes of going by it. -/
theorem near_best {f : Mk} {e : E} (hf : feasE f e = true) (hm : e.m < 65535) : nearer (e.s : Int) (e.m : Int) ((f.best e.a e.n (e.s, e.m + cfL e.b)).1 : Int) ((f.best e.a e.n (e.s, e.m + cfL e.b)).2 : Int) = true := by
  have hp := cfL_pos e.b
  have h0 : nearer (e.s : Int) (e.m : Int) (e.s : Int) ((e.m + cfL e.b : Nat) : Int) = true := by
    unfold nearer
    simp
    right
    omega
  unfold Mk.best
  unfold feasE Mk.feas at hf
  cases hx : f e.a e.n with
  | none => exact h0
  | some x =>
    rw [hx] at hf
    simp only [Bool.or_eq_true, decide_eq_true_eq] at hf
    simp only
    split
    · exact h0
    · rcases hf with hf | hf
      · omega
      · exact hf
theorem feas_best {f g : Mk} {e : E} {y : Nat × Nat} (hg : g e.a e.n = some y) (hn : nearer (e.s : Int) (e.m : Int) (y.1 : Int) (y.2 : Int) = true) : feasE g e = true := by
  unfold feasE Mk.feas
  rw [hg]
  simp [hn]
/-- Selected again: the same. -/
theorem sel_again {f : Mk} {L : List E} {rs : List Ro} (h : SelOK cfL f L rs) (hL : ∀ e ∈ L, e.Ok) (hs4 : ∀ e ∈ L, e.s < 4) (hf4 : ∀ a n y, f a n = some y → y.1 < 4) : SelOK cfL (fN f rs rs.length) L rs := by
  refine ⟨h.up, fun r => ?_⟩
  rw [h.mem r]
  suffices hs : short cfL (fN f rs rs.length) (L.filter (ofp r.a r.n)) = short cfL f (L.filter (ofp r.a r.n)) by
    unfold selP
    rw [hs]
  by_cases hex : ∃ r' ∈ rs, r'.a = r.a ∧ r'.n = r.n
  · obtain ⟨r', hr', ha, hn⟩ := hex
    have hsel := (h.mem r').1 hr'
    have hfn := fN_of (f := f) h.up hr'
    rw [ha, hn] at hfn hsel
    obtain ⟨e0, he0, h1, h2, h3, h4, h5⟩ := sel_from hsel
    have hr's : (r'.s, r'.m) = (e0.s, e0.m + cfL e0.b) := by rw [h3]; rfl
    rw [hr's] at hfn
    have hm0 : e0.m < 65535 := by omega
    have hnb := near_best h4 hm0
    rw [h1, h2] at hnb
    have hshort : short cfL f (L.filter (ofp r.a r.n)) = (e0.m + cfL e0.b, ro cfL e0) ∨ True := Or.inr trivial
    unfold short
    refine fold_same _ _ _ (Nat.le_refl _) (fun e he hfe => ?_) (fun e he hfe hch => ?_) (Or.inr rfl)
    · obtain ⟨he1, he2⟩ := List.mem_filter.1 he
      have he3 := of_decide_eq_true he2
      unfold feasE Mk.feas at hfe ⊢
      rw [he3.1, he3.2, hfn] at hfe
      rw [he3.1, he3.2]
      simp only [Bool.or_eq_true, decide_eq_true_eq] at hfe ⊢
      rcases hfe with hfe | hfe
      · exact Or.inl hfe
      · right
        cases hx : f r.a r.n with
        | none => rfl
        | some x =>
          unfold Mk.best at hfe
          rw [hx] at hfe
          simp only at hfe ⊢
          split at hfe
          · rename_i hb
            exact near4 (hs4 e he1) (hs4 e0 he0) (hf4 _ _ _ hx) hfe hb
          · exact hfe
    · obtain ⟨he1, he2⟩ := List.mem_filter.1 he
      have he3 := of_decide_eq_true he2
      -- the chosen one is e0's like
      have hro : ro cfL e = r' := by
        unfold selP short at hsel
        rw [hch] at hsel
        split at hsel
        · exact Option.some.inj hsel
        · cases hsel
      rw [h3] at hro
      unfold ro at hro
      injection hro with g1 g2 g3 g4 g5
      have gm : e.m = e0.m := by rw [g3] at g4; omega
      refine feas_best (f := f) (y := f.best r.a r.n (e0.s, e0.m + cfL e0.b)) (by rw [he3.1, he3.2]; exact hfn) ?_
      rw [g5, gm]; exact hnb
  · have hfn := fN_not (f := f) (rs := rs) (a := r.a) (n := r.n) (fun r' hr' h => hex ⟨r', hr', h⟩)
    have hsf : ∀ e ∈ L.filter (ofp r.a r.n), feasE (fN f rs rs.length) e = feasE f e := fun e he => by
      have he3 := of_decide_eq_true (List.mem_filter.1 he).2
      unfold feasE Mk.feas
      rw [he3.1, he3.2, hfn]
    unfold short
    exact fold_same _ _ _ (Nat.le_refl _) (fun e he hfe => by rw [← hsf e he]; exact hfe) (fun e he hfe _ => by rw [hsf e he]; exact hfe) (Or.inr rfl)
end Go.Proofs.Ytkbhmdoichiinaa.Rts

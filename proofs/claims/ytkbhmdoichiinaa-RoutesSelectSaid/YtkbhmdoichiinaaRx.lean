/- What is selected, what is blocked: plainly; lists of rows of any kind in memory of the call's own. -/
import Derived.Test.YtkbhmdoichiinaaRw
namespace Go.Proofs.Ytkbhmdoichiinaa.Rts
open Pre Ser
open Go.Proofs.Ytkbhmdoichiinaa.Src (row1 row2 Mk)
open Go.ChangeShapes Go.WideShapes Go.ChangeAt Go.RowKit
set_option maxRecDepth 8000
set_option linter.unusedVariables false

/-- Which prefix it is of, as a number. -/
def E.pk (e : E) : Nat := e.a * 256 + e.n
def ofp (a n : Nat) (e : E) : Bool := decide (e.a = a ∧ e.n = n)
theorem pk_le {x y : E} (h : x.key < y.key) (hx : x.Ok) (hy : y.Ok) : x.pk ≤ y.pk := by
  have h1 := hx.b; have h2 := hy.b
  unfold E.key Rts.key at h; unfold E.pk; omega
theorem pk_lt {x y : E} (h : x.pk ≤ y.pk) (hx : x.Ok) (hy : y.Ok) (hn : ¬ samep x y) : x.pk < y.pk := by
  have h1 := hx.n; have h2 := hy.n
  rcases Nat.lt_or_eq_of_le h with h | h
  · exact h
  · exact absurd ⟨by unfold E.pk at h; omega, by unfold E.pk at h; omega⟩ hn
theorem same_pk {x y : E} (hx : x.Ok) (hy : y.Ok) : samep x y ↔ x.pk = y.pk := by
  have h1 := hx.n; have h2 := hy.n
  unfold samep E.pk
  constructor
  · rintro ⟨a, b⟩; rw [a, b]
  · intro h; omega
theorem Grp.ahead {L : List E} {i j : Nat} (g : Grp L i j) (hr : Rising L) (hL : ∀ e ∈ L, e.Ok) {k : Nat} (hk : k < i) : ∃ h : k < L.length, L[k].pk < (L[i]'(Nat.lt_of_lt_of_le g.lt g.le)).pk := by
  have hil : i < L.length := Nat.lt_of_lt_of_le g.lt g.le
  have hkl : k < L.length := by omega
  refine ⟨hkl, ?_⟩
  rcases g.fst with h | ⟨h, hne⟩
  · omega
  · have h1 : L[k].pk ≤ L[i - 1].pk := by
      rcases Nat.lt_or_eq_of_le (show k ≤ i - 1 by omega) with h2 | h2
      · exact pk_le (hr.get h2 h) (hL _ (List.getElem_mem _)) (hL _ (List.getElem_mem _))
      · subst h2; exact Nat.le_refl _
    have h2 := pk_lt (pk_le (hr.get (show i - 1 < i by omega) hil) (hL _ (List.getElem_mem _)) (hL _ (List.getElem_mem _))) (hL _ (List.getElem_mem _)) (hL _ (List.getElem_mem _)) hne
    omega
/-- What one has of a prefix behind a group more. -/
theorem Grp.filter {L : List E} {i j : Nat} (g : Grp L i j) (hr : Rising L) (hL : ∀ e ∈ L, e.Ok) (a n : Nat) :
    (L.take j).filter (ofp a n) = if ofp a n (L[i]'(Nat.lt_of_lt_of_le g.lt g.le)) then (L.drop i).take (j - i) else (L.take i).filter (ofp a n) := by
  have hil : i < L.length := Nat.lt_of_lt_of_le g.lt g.le
  have hsp : L.take j = L.take i ++ (L.drop i).take (j - i) := by
    have := g.lt
    rw [← List.take_add]; congr 1; omega
  have hin : ∀ e ∈ (L.drop i).take (j - i), samep e L[i] := fun e he => by
    obtain ⟨k, hk, rfl⟩ := List.getElem_of_mem he
    rw [List.length_take, List.length_drop] at hk
    rw [List.getElem_take, List.getElem_drop]
    exact g.all _ (by omega) (by omega) (by omega)
  rw [hsp, List.filter_append]
  split
  · rename_i h
    have hp := of_decide_eq_true h
    have e1 : (L.take i).filter (ofp a n) = [] := List.filter_eq_nil_iff.2 fun e he => by
      obtain ⟨k, hk, rfl⟩ := List.getElem_of_mem he
      rw [List.length_take] at hk
      rw [List.getElem_take]
      obtain ⟨hkl, hlt⟩ := g.ahead hr hL (show k < i by omega)
      intro h2
      have h2 := of_decide_eq_true h2
      unfold E.pk at hlt
      rw [h2.1, h2.2, hp.1, hp.2] at hlt
      omega
    rw [e1, List.nil_append]
    exact List.filter_eq_self.2 fun e he => by
      have := hin e he
      exact decide_eq_true ⟨this.1.trans hp.1, this.2.trans hp.2⟩
  · rename_i h
    have e1 : ((L.drop i).take (j - i)).filter (ofp a n) = [] := List.filter_eq_nil_iff.2 fun e he => by
      have := hin e he
      intro h2
      have h2 := of_decide_eq_true h2
      exact h (decide_eq_true ⟨this.1.symm.trans h2.1, this.2.symm.trans h2.2⟩)
    rw [e1, List.append_nil]
/-- The way of a prefix that is selected, if there is one. -/
def selP (cf : Nat → Nat) (f : Mk) (M : List E) (a n : Nat) : Option Ro := if (short cf f (M.filter (ofp a n))).1 < 65535 then some (short cf f (M.filter (ofp a n))).2 else none
def Ro.pk (r : Ro) : Nat := r.a * 256 + r.n
/-- It is what is selected of what is told. -/
structure SelOK (cf : Nat → Nat) (f : Mk) (M : List E) (rs : List Ro) : Prop where
  up : rs.Pairwise fun x y => x.pk < y.pk
  mem : ∀ r, r ∈ rs ↔ selP cf f M r.a r.n = some r
theorem SelOK.nil (cf : Nat → Nat) (f : Mk) : SelOK cf f [] [] := ⟨List.Pairwise.nil, fun r => by simp [selP, short]⟩
theorem fold_of (cf : Nat → Nat) (f : Mk) (a n : Nat) : ∀ (G : List E) (x : Nat × Ro), (∀ e ∈ G, e.a = a ∧ e.n = n) → (x.1 < 65535 → x.2.a = a ∧ x.2.n = n) → x.1 ≤ 65535 → ((G.foldl (stp cf f) x).1 < 65535 → (G.foldl (stp cf f) x).2.a = a ∧ (G.foldl (stp cf f) x).2.n = n)
  | [], x, _, h, _ => h
  | e :: G, x, hG, h, hx => by
    refine fold_of cf f a n G (stp cf f x e) (fun e' he => hG e' (List.mem_cons_of_mem _ he)) (fun h1 => ?_) (stp_le hx)
    have := hG e (List.mem_cons_self ..)
    unfold stp at h1 ⊢
    split at h1
    · rename_i hc
      rw [if_pos hc]
      exact this
    · rename_i hc
      rw [if_neg hc]
      exact h h1
theorem short_of {cf : Nat → Nat} {f : Mk} {G : List E} {a n : Nat} (hG : ∀ e ∈ G, e.a = a ∧ e.n = n) (h : (short cf f G).1 < 65535) : (short cf f G).2.a = a ∧ (short cf f G).2.n = n :=
  fold_of cf f a n G (65535, Ro.zero) hG (fun h => absurd h (Nat.lt_irrefl _)) (Nat.le_refl _) h
theorem SelOK.grp {cf : Nat → Nat} {f : Mk} {L : List E} {i j : Nat} {rs : List Ro} (h : SelOK cf f (L.take i) rs) (g : Grp L i j) (hr : Rising L) (hL : ∀ e ∈ L, e.Ok) :
    SelOK cf f (L.take j) (rs ++ if (short cf f ((L.drop i).take (j - i))).1 < 65535 then [(short cf f ((L.drop i).take (j - i))).2] else []) := by
  have hil : i < L.length := Nat.lt_of_lt_of_le g.lt g.le
  have hin : ∀ e ∈ (L.drop i).take (j - i), e.a = L[i].a ∧ e.n = L[i].n := fun e he => by
    obtain ⟨k, hk, rfl⟩ := List.getElem_of_mem he
    rw [List.length_take, List.length_drop] at hk
    rw [List.getElem_take, List.getElem_drop]
    exact g.all _ (by omega) (by omega) (by omega)
  have hof : ∀ hs : (short cf f ((L.drop i).take (j - i))).1 < 65535, (short cf f ((L.drop i).take (j - i))).2.a = L[i].a ∧ (short cf f ((L.drop i).take (j - i))).2.n = L[i].n := fun hs => short_of hin hs
  -- what is selected so far lies ahead
  have hah : ∀ r ∈ rs, r.pk < L[i].pk := fun r hr2 => by
    have hm := (h.mem r).1 hr2
    unfold selP at hm
    split at hm
    · rename_i hs
      have hne : (L.take i).filter (ofp r.a r.n) ≠ [] := fun e => by rw [e] at hs; exact Nat.lt_irrefl _ hs
      obtain ⟨e, he⟩ := List.exists_mem_of_ne_nil _ hne
      obtain ⟨he1, he2⟩ := List.mem_filter.1 he
      obtain ⟨k, hk, rfl⟩ := List.getElem_of_mem he1
      rw [List.length_take] at hk
      rw [List.getElem_take] at he2
      obtain ⟨hkl, hlt⟩ := g.ahead hr hL (show k < i by omega)
      have h2 := of_decide_eq_true he2
      unfold E.pk at hlt ⊢
      unfold Ro.pk
      rw [← h2.1, ← h2.2]; exact hlt
    · cases hm
  refine ⟨?_, fun r => ?_⟩
  · rw [List.pairwise_append]
    refine ⟨h.up, ?_, fun x hx y hy => ?_⟩
    · split
      · exact List.pairwise_singleton _ _
      · exact List.Pairwise.nil
    · split at hy
      · rename_i hs
        rw [List.mem_singleton] at hy
        subst hy
        have := hah x hx
        unfold Ro.pk at this ⊢
        rw [(hof hs).1, (hof hs).2]
        exact this
      · simp at hy
  · rw [List.mem_append, h.mem r]
    have hf := g.filter hr hL r.a r.n
    unfold selP
    rw [hf]
    by_cases hp : ofp r.a r.n L[i] = true
    · rw [if_pos hp]
      have hp2 := of_decide_eq_true hp
      have e0 : (L.take i).filter (ofp r.a r.n) = [] := List.filter_eq_nil_iff.2 fun e he => by
        obtain ⟨k, hk, rfl⟩ := List.getElem_of_mem he
        rw [List.length_take] at hk
        rw [List.getElem_take]
        obtain ⟨hkl, hlt⟩ := g.ahead hr hL (show k < i by omega)
        intro h2
        have h2 := of_decide_eq_true h2
        unfold E.pk at hlt
        rw [h2.1, h2.2, hp2.1, hp2.2] at hlt
        omega
      rw [e0]
      have en : ¬ (short cf f []).1 < 65535 := Nat.lt_irrefl _
      rw [if_neg en]
      by_cases hs : (short cf f ((L.drop i).take (j - i))).1 < 65535
      · rw [if_pos hs, if_pos hs, List.mem_singleton]
        constructor
        · rintro (h | h)
          · cases h
          · rw [h]
        · intro h; exact Or.inr (Option.some.inj h).symm
      · rw [if_neg hs, if_neg hs]; simp
    · rw [if_neg hp]
      constructor
      · rintro (h | h)
        · exact h
        · exfalso
          split at h
          · rename_i hs
            rw [List.mem_singleton] at h
            subst h
            exact hp (decide_eq_true ⟨(hof hs).1.symm, (hof hs).2.symm⟩)
          · simp at h
      · exact Or.inl
/-- A list of rows of k cells, in a slice of the call's own. -/
def GOwn {α : Type} (t : TypeId) (k : Nat) (cl : α → List Value) (w : World) (B : Nat) (v : Value) (l : List α) : Prop := w.ownsRow B t k v l.length (l.flatMap cl)
theorem gflat_at {α : Type} {cl : α → List Value} {k : Nat} (hk : ∀ x, (cl x).length = k) : ∀ (l : List α) (j i : Nat) (hj : j < l.length), i < k → (l.flatMap cl)[j * k + i]? = (cl l[j])[i]?
  | x :: l, 0, i, _, hi => by
    simp only [List.flatMap_cons, Nat.zero_mul, Nat.zero_add, List.getElem_cons_zero]
    rw [List.getElem?_append_left (by rw [hk]; exact hi)]
  | x :: l, j + 1, i, hj, hi => by
    simp only [List.flatMap_cons, List.getElem_cons_succ]
    have e : (j + 1) * k + i = k + (j * k + i) := by rw [Nat.succ_mul]; omega
    rw [e, List.getElem?_append_right (by rw [hk]; omega), hk, show k + (j * k + i) - k = j * k + i by omega]
    exact gflat_at hk l j i (by simpa using hj) hi
theorem GOwn.form {α : Type} {t : TypeId} {k : Nat} {cl : α → List Value} {w : World} {B : Nat} {v : Value} {l : List α} (h : GOwn t k cl w B v l) (hk : ∀ x, (cl x).length = k) : ∃ A c, v = .slice A l.length c ∧ l.length ≤ c ∧ ∀ j (hj : j < l.length), ∃ b, A = some ⟨b, 0, none⟩ ∧ B ≤ b ∧ b < w.heap.size ∧ ∀ i, i < k → w.cell? ⟨b, j * k + i, none⟩ = (cl l[j])[i]? := by
  rcases h.2 with ⟨hv, hn⟩ | ⟨g, cap, cur, hv, hB, hg, h1, h2, h3, h4⟩
  · have e : l.length = 0 := hn
    exact ⟨none, 0, by rw [hv, e], by omega, fun j hj => absurd hj (by omega)⟩
  · refine ⟨some ⟨g, 0, none⟩, cap, hv, h1, fun j hj => ⟨g, rfl, hB, (Array.getElem?_eq_some_iff.1 hg).1, fun i hi => ?_⟩⟩
    rw [cell_of_row w g _ cur t (0, 0) hg, ← gflat_at hk l j i hj hi, ← h4, List.getElem?_take, if_pos]
    · simp
    · have : (j + 1) * k ≤ l.length * k := Nat.mul_le_mul_right k hj
      rw [Nat.succ_mul] at this
      omega
theorem GOwn.nil {α : Type} (t : TypeId) (k : Nat) (cl : α → List Value) (w : World) (B : Nat) : GOwn t k cl w B (.slice none 0 0) ([] : List α) := World.ownsRow_nil w B t k
theorem GOwn.kept {α : Type} {t : TypeId} {k : Nat} {cl : α → List Value} {w w' : World} {B : Nat} {v : Value} {l : List α} (h : GOwn t k cl w B v l) (hb : Below w.heap.size w w') : GOwn t k cl w' B v l :=
  World.ownsRow.kept (row := none) h ⟨hb.os, hb.tape, hb.output, hb.size, fun k hk _ => hb.block k hk⟩ (by cases v.ownBlock <;> simp)
theorem GOwn.lt {α : Type} {t : TypeId} {k : Nat} {cl : α → List Value} {w : World} {B : Nat} {v : Value} {l : List α} (h : GOwn t k cl w B v l) {b : Nat} (e : v.ownBlock = some b) : B ≤ b ∧ ∃ cur, w.heap[b]? = some (.cells cur t (0, 0)) := by
  rcases h.2 with ⟨hv, -⟩ | ⟨g, cap, cur, hv, hB, hg, -⟩
  · rw [hv] at e; cases e
  · rw [hv] at e
    have e : some g = some b := e
    injection e with e; subst e
    exact ⟨hB, cur, hg⟩
theorem GOwn.ne {α : Type} {t : TypeId} {k : Nat} {cl : α → List Value} {w : World} {B : Nat} {v : Value} {l : List α} (h : GOwn t k cl w B v l) {b : Nat} {x : Array Value} {u : TypeId} {fr : Nat × Nat} (hr : w.heap[b]? = some (.cells x u fr)) (ht : u ≠ t) : v.ownBlock ≠ some b := fun e => by
  obtain ⟨-, cur, hg⟩ := h.lt e
  rw [hg] at hr; injection hr with hr; injection hr with _ h2 _
  exact ht h2.symm
theorem gapp_run {α : Type} {t st : TypeId} {k by_ : Nat} {cl : α → List Value} {i0 : TypeInfo} {z : Value} (hu : Try.prog.underlying st = some (.slice t)) (hi : Try.prog.info? t = some i0) (hz0 : i0.zero = some z) (hz1 : i0.size = k) (hz2 : i0.bytes = by_) (hzc : z.cells.size = k) (hk0 : 0 < k) (hk : ∀ x, (cl x).length = k) (h1 : ∀ x, ∀ u ∈ cl x, u.oneCell' = true) (hby : by_ ≤ 100)
    (w : World) (B : Nat) (v : Value) (l : List α) (x : α) (b : Nat) (hown : GOwn t k cl w B v l) (hc : ∀ j u, (cl x)[j]? = some u → w.cell? ((⟨b, 0, none⟩ : Addr).add j) = some u) (hlen : l.length ≤ 1000) (hB : B ≤ w.heap.size) :
    ∃ v' w', (Builtin.append_ #[st, st] st #[v, .slice (some ⟨b, 0, none⟩) 1 1]).run Try.prog w = .ok v' w' ∧ GOwn t k cl w' B v' (l ++ [x]) ∧ w.grownBy w' v.ownBlock := by
  have hby2 : (l.length + 1) * by_ ≤ 140737488355328 := Nat.le_trans (Nat.mul_le_mul (show l.length + 1 ≤ 1001 by omega) hby) (by decide)
  obtain ⟨v', w', hrun, h2, h3, -⟩ := run_append_own_at (P := Try.prog) w B st st t i0 z k by_ hu hi hz0 hz1 hz2 hzc hk0 v l.length (l.flatMap cl) hown ⟨b, 0, none⟩ 1 1 (cl x) (by rw [hk, Nat.one_mul]) hc (h1 x) (by unfold maxLen; omega) hby2 hB
  refine ⟨v', w', hrun, ?_, h3⟩
  unfold GOwn
  rw [List.length_append, List.flatMap_append]
  simpa using h2
end Go.Proofs.Ytkbhmdoichiinaa.Rts

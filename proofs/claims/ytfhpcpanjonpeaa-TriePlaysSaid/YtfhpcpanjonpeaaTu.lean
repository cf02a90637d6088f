/- Tries of routes, without Go: dropping, getting, looking, and all of them. -/
import Derived.Test.YtfhpcpanjonpeaaTt
namespace Go.Proofs.Ytfhpcpanjonpeaa.Tri
open Pre

def needed (a n : Nat) (x : Option R) (l r : T) : T :=
  match x with
  | some y => .node a n (some y) l r
  | none =>
    match l, r with
    | .nil, .nil => .nil
    | .nil, .node b m y c d => .node b m y c d
    | .node b m y c d, .nil => .node b m y c d
    | .node b m y c d, .node b' m' y' c' d' => .node a n none (.node b m y c d) (.node b' m' y' c' d')
theorem needed_mem {a n : Nat} {x : Option R} {l r : T} {y : R} : (needed a n x l r).Mem y ↔ x = some y ∨ l.Mem y ∨ r.Mem y := by
  cases x with
  | some z => rfl
  | none => cases l <;> cases r <;> simp [needed, T.Mem]
theorem needed_wf {a n : Nat} {x : Option R} {l r : T} (h : (T.node a n x l r).WF) : (needed a n x l r).WF := by
  obtain ⟨h1, h2, h3, h4, h5, h6⟩ := h
  cases x with
  | some z => exact ⟨h1, h2, h3, h4, h5, h6⟩
  | none =>
    cases l <;> cases r
    · trivial
    · exact h6
    · exact h5
    · exact ⟨h1, h2, h3, h4, h5, h6⟩
theorem needed_root {a n a0 n0 : Nat} {s : Bool} {x : Option R} {l r : T} (h : (T.node a n x l r).WF) (hu : U a0 n0 s a n) : (needed a n x l r).Root (U a0 n0 s) := by
  obtain ⟨_, _, h3, h4, _, _⟩ := h
  cases x with
  | some z => exact hu
  | none =>
    cases l <;> cases r
    · trivial
    · exact hu.trans h4
    · exact hu.trans h3
    · exact hu
def T.drop : T → Nat → Nat → T × Bool
  | .nil, _, _ => (.nil, false)
  | .node a n x l r, b, m =>
    if b = a ∧ m = n then (needed a n none l r, x.isSome)
    else if sd b n then (needed a n x l (r.drop b m).1, (r.drop b m).2) else (needed a n x (l.drop b m).1 r, (l.drop b m).2)
theorem drop_both {t : T} (b m : Nat) (h : t.WF) : (t.drop b m).1.WF ∧ ∀ a0 n0 s, t.Root (U a0 n0 s) → (t.drop b m).1.Root (U a0 n0 s) := by
  induction t with
  | nil => exact ⟨trivial, fun _ _ _ _ => trivial⟩
  | node a n x l r il ir =>
    obtain ⟨h1, h2, h3, h4, h5, h6⟩ := h
    unfold T.drop
    split
    · have hw : (T.node a n none l r).WF := ⟨h1, (fun y e => by cases e), h3, h4, h5, h6⟩
      exact ⟨needed_wf hw, fun _ _ _ hu => needed_root hw hu⟩
    · split
      · have hw : (T.node a n x l (r.drop b m).1).WF := ⟨h1, h2, h3, (ir h6).2 _ _ _ h4, h5, (ir h6).1⟩
        exact ⟨needed_wf hw, fun _ _ _ hu => needed_root hw hu⟩
      · have hw : (T.node a n x (l.drop b m).1 r).WF := ⟨h1, h2, (il h5).2 _ _ _ h3, h4, (il h5).1, h6⟩
        exact ⟨needed_wf hw, fun _ _ _ hu => needed_root hw hu⟩
theorem drop_wf {t : T} (b m : Nat) (h : t.WF) : (t.drop b m).1.WF := (drop_both b m h).1
theorem left_sd {t : T} {a n b m : Nat} {s : Bool} {y : R} (h : t.WF) (hr : t.Root (U a n s)) (hy : t.Mem y) (hs : sd b n ≠ s) : ¬(y.a = b ∧ y.n = m) := fun e => by
  have hu := mem_side h hr hy
  have h32 : n < 32 := by have := hu.1; have := hu.2.1; omega
  apply hs
  rw [sd_bit h32, ← e.1]
  exact hu.2.2.2
theorem drop_mem {t : T} (b m : Nat) (h : t.WF) (y : R) : (t.drop b m).1.Mem y ↔ t.Mem y ∧ ¬(y.a = b ∧ y.n = m) := by
  induction t with
  | nil => simp [T.drop, T.Mem]
  | node a n x l r il ir =>
    obtain ⟨h1, h2, h3, h4, h5, h6⟩ := h
    unfold T.drop
    split
    · rename_i he
      rw [needed_mem]
      simp only [T.Mem]
      constructor
      · rintro (e | e | e)
        · cases e
        · exact ⟨.inr (.inl e), fun h => apart (mem_side h5 h3 e) ⟨h.1.trans he.1, h.2.trans he.2⟩⟩
        · exact ⟨.inr (.inr e), fun h => apart (mem_side h6 h4 e) ⟨h.1.trans he.1, h.2.trans he.2⟩⟩
      · rintro ⟨e | e | e, hn⟩
        · exact absurd ⟨(h2 y e).1.trans he.1.symm, (h2 y e).2.trans he.2.symm⟩ hn
        · exact .inr (.inl e)
        · exact .inr (.inr e)
    · rename_i hne
      have hx : ∀ {y}, x = some y → ¬(y.a = b ∧ y.n = m) := fun e h => hne ⟨h.1.symm.trans (h2 _ e).1, h.2.symm.trans (h2 _ e).2⟩
      split
      · rename_i hs
        rw [needed_mem, ir h6]
        simp only [T.Mem]
        constructor
        · rintro (e | e | e)
          · exact ⟨.inl e, hx e⟩
          · exact ⟨.inr (.inl e), left_sd h5 h3 e (by rw [hs]; decide)⟩
          · exact ⟨.inr (.inr e.1), e.2⟩
        · rintro ⟨e | e | e, hn⟩
          · exact .inl e
          · exact .inr (.inl e)
          · exact .inr (.inr ⟨e, hn⟩)
      · rename_i hs
        rw [needed_mem, il h5]
        simp only [T.Mem]
        constructor
        · rintro (e | e | e)
          · exact ⟨.inl e, hx e⟩
          · exact ⟨.inr (.inl e.1), e.2⟩
          · exact ⟨.inr (.inr e), left_sd h6 h4 e hs⟩
        · rintro ⟨e | e | e, hn⟩
          · exact .inl e
          · exact .inr (.inl ⟨e, hn⟩)
          · exact .inr (.inr e)
theorem drop_was {t : T} (b m : Nat) (h : t.WF) : (t.drop b m).2 = true ↔ ∃ y, t.Mem y ∧ y.a = b ∧ y.n = m := by
  induction t with
  | nil => simp [T.drop, T.Mem]
  | node a n x l r il ir =>
    obtain ⟨h1, h2, h3, h4, h5, h6⟩ := h
    unfold T.drop
    split
    · rename_i he
      simp only [T.Mem]
      constructor
      · intro hx
        cases x with
        | none => cases hx
        | some y => exact ⟨y, .inl rfl, (h2 y rfl).1.trans he.1.symm, (h2 y rfl).2.trans he.2.symm⟩
      · rintro ⟨y, e | e | e, hy⟩
        · rw [e]; rfl
        · exact absurd ⟨hy.1.trans he.1, hy.2.trans he.2⟩ (apart (mem_side h5 h3 e))
        · exact absurd ⟨hy.1.trans he.1, hy.2.trans he.2⟩ (apart (mem_side h6 h4 e))
    · rename_i hne
      have hx : ∀ {y}, x = some y → ¬(y.a = b ∧ y.n = m) := fun e h => hne ⟨h.1.symm.trans (h2 _ e).1, h.2.symm.trans (h2 _ e).2⟩
      split
      · rename_i hs
        rw [show (needed a n x l (r.drop b m).1, (r.drop b m).2).2 = (r.drop b m).2 from rfl, ir h6]
        simp only [T.Mem]
        constructor
        · rintro ⟨y, e, hy⟩; exact ⟨y, .inr (.inr e), hy⟩
        · rintro ⟨y, e | e | e, hy⟩
          · exact absurd hy (hx e)
          · exact absurd hy (left_sd h5 h3 e (by rw [hs]; decide))
          · exact ⟨y, e, hy⟩
      · rename_i hs
        rw [show (needed a n x (l.drop b m).1 r, (l.drop b m).2).2 = (l.drop b m).2 from rfl, il h5]
        simp only [T.Mem]
        constructor
        · rintro ⟨y, e, hy⟩; exact ⟨y, .inr (.inl e), hy⟩
        · rintro ⟨y, e | e | e, hy⟩
          · exact absurd hy (hx e)
          · exact ⟨y, e, hy⟩
          · exact absurd hy (left_sd h6 h4 e hs)
def T.get : T → Nat → Nat → Option R
  | .nil, _, _ => none
  | .node a n x l r, b, m => if a = b ∧ n = m then x else if sd b n then r.get b m else l.get b m
theorem get_iff {t : T} (b m : Nat) (h : t.WF) (y : R) : t.get b m = some y ↔ t.Mem y ∧ y.a = b ∧ y.n = m := by
  induction t with
  | nil => simp [T.get, T.Mem]
  | node a n x l r il ir =>
    obtain ⟨h1, h2, h3, h4, h5, h6⟩ := h
    unfold T.get
    simp only [T.Mem]
    split
    · rename_i he
      constructor
      · intro e; exact ⟨.inl e, (h2 y e).1.trans he.1, (h2 y e).2.trans he.2⟩
      · rintro ⟨e | e | e, hy⟩
        · exact e
        · exact absurd ⟨hy.1.trans he.1.symm, hy.2.trans he.2.symm⟩ (apart (mem_side h5 h3 e))
        · exact absurd ⟨hy.1.trans he.1.symm, hy.2.trans he.2.symm⟩ (apart (mem_side h6 h4 e))
    · rename_i hne
      have hx : x = some y → ¬(y.a = b ∧ y.n = m) := fun e h => hne ⟨(h2 _ e).1.symm.trans h.1, (h2 _ e).2.symm.trans h.2⟩
      split
      · rename_i hs
        rw [ir h6]
        constructor
        · rintro ⟨e, hy⟩; exact ⟨.inr (.inr e), hy⟩
        · rintro ⟨e | e | e, hy⟩
          · exact absurd hy (hx e)
          · exact absurd hy (left_sd h5 h3 e (by rw [hs]; decide))
          · exact ⟨e, hy⟩
      · rename_i hs
        rw [il h5]
        constructor
        · rintro ⟨e, hy⟩; exact ⟨.inr (.inl e), hy⟩
        · rintro ⟨e | e | e, hy⟩
          · exact absurd hy (hx e)
          · exact ⟨e, hy⟩
          · exact absurd hy (left_sd h6 h4 e hs)
/-- The route of the longest prefix: what was found ahead, or a longer one. -/
def T.look : T → Nat → Option R → Option R
  | .nil, _, o => o
  | .node a n x l r, b, o => if alike a b n then (if sd b n then r.look b (x.or o) else l.look b (x.or o)) else o
/-- o is the longest of those that have b, or (there is none) o0. -/
def Longest (M : R → Prop) (b : Nat) (o0 o : Option R) : Prop :=
  ((∀ y, M y → ¬ alike y.a b y.n = true) ∧ o = o0) ∨ ∃ y, o = some y ∧ M y ∧ alike y.a b y.n = true ∧ ∀ z, M z → alike z.a b z.n = true → z.n ≤ y.n
theorem look_longest {t : T} (b : Nat) (h : t.WF) : ∀ o, Longest t.Mem b o (t.look b o) := by
  induction t with
  | nil => exact fun o => .inl ⟨fun y m => m.elim, rfl⟩
  | node a n x l r il ir =>
    intro o
    have hh := h
    obtain ⟨h1, h2, h3, h4, h5, h6⟩ := h
    unfold T.look
    have key : ∀ (s : Bool) (t u : T), t.WF → u.WF → t.Root (U a n s) → u.Root (U a n (!s)) → sd b n = s → alike a b n = true → (∀ y, (T.node a n x l r).Mem y ↔ x = some y ∨ t.Mem y ∨ u.Mem y) → (∀ o, Longest t.Mem b o (t.look b o)) → Longest (T.node a n x l r).Mem b o (t.look b (x.or o)) := by
      intro s t u ht hu hrt hru hs hal hm hl
      have nou : ∀ y, u.Mem y → ¬ alike y.a b y.n = true := fun y m e => by
        have hy := mem_side hu hru m
        have hb := alike_bits e hy.1 hy.2.1
        rw [← sd_bit (b := b) (by have := hy.1; have := hy.2.1; omega), hs, hy.2.2.2] at hb
        cases s <;> simp at hb
      rcases hl (x.or o) with ⟨k1, k2⟩ | ⟨y, k1, k2, k3, k4⟩
      · cases x with
        | none =>
          refine .inl ⟨fun y m => ?_, k2⟩
          rcases (hm y).1 m with e | e | e
          · cases e
          · exact k1 y e
          · exact nou y e
        | some z =>
          have hz := h2 z rfl
          refine .inr ⟨z, k2, (hm z).2 (.inl rfl), by rw [hz.1, hz.2]; exact hal, fun v m e => ?_⟩
          rcases (hm v).1 m with e' | e' | e'
          · injection e' with e'; rw [e']; exact Nat.le_refl _
          · exact absurd e (k1 v e')
          · exact absurd e (nou v e')
      · refine .inr ⟨y, k1, (hm y).2 (.inr (.inl k2)), k3, fun v m e => ?_⟩
        rcases (hm v).1 m with e' | e' | e'
        · have hv := h2 v e'
          rw [hv.2]
          exact Nat.le_of_lt (mem_side ht hrt k2).1
        · exact k4 v e' e
        · exact absurd e (nou v e')
    split
    · rename_i hal
      split
      · rename_i hs
        exact key true r l h6 h5 h4 h3 hs hal (fun y => ⟨fun e => e.imp id Or.symm, fun e => e.imp id Or.symm⟩) (ir h6)
      · rename_i hs
        exact key false l r h5 h6 h3 h4 (Bool.eq_false_iff.2 hs) hal (fun y => Iff.rfl) (il h5)
    · rename_i hal
      refine .inl ⟨fun y m e => hal ?_, rfl⟩
      have hi : n ≤ y.n ∧ y.n ≤ 32 ∧ alike a y.a n = true := mem_in hh m
      exact alike_trans hi.2.2 (alike_less e hi.1 hi.2.1)
/-- All routes, in their order. -/
def T.list : T → List R
  | .nil => []
  | .node _ _ x l r => x.toList ++ (l.list ++ r.list)
theorem list_mem {t : T} {y : R} : y ∈ t.list ↔ t.Mem y := by
  induction t with
  | nil => simp [T.list, T.Mem]
  | node a n x l r il ir => simp [T.list, T.Mem, il, ir]
/-- Ahead: by addresses, then the shorter one first. -/
def Lt (x y : R) : Prop := x.a < y.a ∨ (x.a = y.a ∧ x.n < y.n)
theorem list_rises {t : T} (h : t.WF) : t.list.Pairwise Lt := by
  induction t with
  | nil => exact List.Pairwise.nil
  | node a n x l r il ir =>
    obtain ⟨h1, h2, h3, h4, h5, h6⟩ := h
    unfold T.list
    have hlr : (l.list ++ r.list).Pairwise Lt := List.pairwise_append.2 ⟨il h5, ir h6, fun y my z mz => by
      have uy := mem_side h5 h3 (list_mem.1 my)
      have uz := mem_side h6 h4 (list_mem.1 mz)
      have h32 : n < 32 := by have := uy.1; have := uy.2.1; omega
      exact .inl (bit_lt h32 (alike_trans (alike_symm uy.2.2.1) uz.2.2.1) uy.2.2.2 uz.2.2.2)⟩
    refine List.pairwise_append.2 ⟨by cases x <;> simp [Option.toList], hlr, fun y my z mz => ?_⟩
    have hy : x = some y := by simpa using my
    have e := h2 y hy
    have uz : ∃ s, U a n s z.a z.n := by
      rcases List.mem_append.1 mz with m | m
      · exact ⟨_, mem_side h5 h3 (list_mem.1 m)⟩
      · exact ⟨_, mem_side h6 h4 (list_mem.1 m)⟩
    obtain ⟨s, uz⟩ := uz
    have hge := in_ge h1.2.2 uz.2.2.1
    unfold Lt
    rw [e.1, e.2]
    have := uz.1
    omega
end Go.Proofs.Ytfhpcpanjonpeaa.Tri

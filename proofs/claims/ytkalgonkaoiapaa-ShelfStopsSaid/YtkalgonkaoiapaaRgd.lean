/- How much is used, act by act. Nothing of the program. -/
import Derived.Test.YtkalgonkaoiapaaRgc
namespace Go.Proofs.Ytkalgonkaoiapaa.Shf
open Go.ChangeShapes Go.WideShapes Go.ChangeAt Go.RowKit

/-- Nobody armed it, and it stands. -/
def Live (m : M) : Prop := m.armed = false ∧ m.fallen = false
theorem Live.act {m : M} (h : Live m) : m.act = {m with done := m.done + 1} ∧ m.actE = 0 := by
  unfold M.act M.actE
  rw [h.1, h.2]
  simp
theorem on_len (l : List (S × Nat)) (v : Mv) : (v.on l).length ≤ l.length + 1 := by
  obtain ⟨fr, tt, f⟩ := v
  unfold Mv.on
  cases f with
  | none => exact Nat.le_succ_of_le (List.length_filter_le _ _)
  | some b =>
    show (wi (wo l fr) tt b).length ≤ _
    unfold wi
    have h1 : (wo (wo l fr) tt).length ≤ (wo l fr).length := List.length_filter_le _ _
    have h2 : (wo l fr).length ≤ l.length := List.length_filter_le _ _
    rw [List.length_append]
    simp only [List.length_cons, List.length_nil]
    omega
theorem ages_len (v : List Mv) : ∀ l : List (S × Nat), (ages l v).length ≤ l.length + v.length := by
  induction v with
  | nil => intro l; show l.length ≤ _; omega
  | cons x v ih =>
    intro l
    have h1 := ih (x.on l)
    have h2 := on_len l x
    show (ages (x.on l) v).length ≤ _
    rw [List.length_cons]
    omega
/-- How many names and moves there are. -/
def M.many (m : M) : Nat := m.safe.length + m.moves.length
theorem DoM.used {T : Nat → Tag} {m m' : M} {K A B : Nat} {N : Int} {r : S} (h : DoM T m K A B N r m') (h9 : K % 12 ≠ 9) (h10 : K % 12 ≠ 10) (F : Fine m) (hr : ((m.named + m.gone : Nat) : Int) ≤ m.room) (hl : Live m) :
    ((m'.named + m'.gone : Nat) : Int) ≤ m.room ∧ Live m' ∧ m'.many ≤ m.many + 1 := by
  obtain ⟨a, e⟩ := hl.act
  have hne : ¬ m.actE = 7 := by omega
  have lo : ∀ s : S, (({m with done := m.done + 1} : M).lose s).named + (({m with done := m.done + 1} : M).lose s).gone = m.named + m.gone ∧ Live (({m with done := m.done + 1} : M).lose s) ∧ (({m with done := m.done + 1} : M).lose s).many = m.many := fun s => by
    unfold M.lose
    split
    · exact ⟨rfl, hl, rfl⟩
    · rename_i b hb
      have hb : get m.now s = some b := hb
      have := tot_le (fl := m.fl) (mem_get hb)
      have h2 := F.named
      refine ⟨?_, hl, rfl⟩
      show m.named - (m.fl b).1.length + (m.gone + (m.fl b).1.length) = _
      omega
  rcases h with ⟨_, c, _, rfl⟩ | ⟨_, rfl⟩ | ⟨_, rfl⟩ | ⟨_, rfl⟩ | ⟨_, rfl⟩ | ⟨_, rfl⟩ | ⟨_, rfl⟩ | ⟨h, _⟩ | ⟨h, _⟩ | ⟨_, rfl⟩
  · unfold M.create
    rw [a, if_neg hne]
    split
    · exact ⟨hr, hl, by omega⟩
    · split
      · exact ⟨hr, hl, Nat.le_succ _⟩
      · refine ⟨hr, hl, ?_⟩
        show m.safe.length + (m.moves ++ [_]).length ≤ _
        rw [List.length_append]
        exact Nat.le_refl _
  · unfold M.append
    rw [a]
    split
    · exact ⟨hr, hl, Nat.le_succ _⟩
    · split
      · exact ⟨hr, hl, Nat.le_succ _⟩
      · rename_i b _ hb
        refine ⟨?_, hl, Nat.le_succ _⟩
        show ((m.named + r.length + m.gone : Nat) : Int) ≤ _
        omega
  · unfold M.sync
    rw [a]
    split
    · exact ⟨hr, hl, Nat.le_succ _⟩
    · exact ⟨hr, hl, Nat.le_succ _⟩
  · unfold M.names
    rw [a, if_neg hne]
    refine ⟨?_, hl, ?_⟩
    · show ((m.named + 0 : Nat) : Int) ≤ _
      omega
    · have := ages_len m.moves m.safe
      show (ages m.safe m.moves).length + 0 ≤ m.safe.length + m.moves.length + 1
      omega
  · unfold M.rename
    rw [a]
    split
    · exact ⟨hr, hl, by omega⟩
    · split
      · exact ⟨hr, hl, Nat.le_succ _⟩
      · split
        · exact ⟨hr, hl, Nat.le_succ _⟩
        · obtain ⟨l1, l2, l3⟩ := lo (nameOf B)
          refine ⟨?_, l2, ?_⟩
          · show (((({m with done := m.done + 1} : M).lose (nameOf B)).named + (({m with done := m.done + 1} : M).lose (nameOf B)).gone : Nat) : Int) ≤ _
            rw [l1]; exact hr
          · unfold M.many at l3 ⊢
            show (({m with done := m.done + 1} : M).lose (nameOf B)).safe.length + ((({m with done := m.done + 1} : M).lose (nameOf B)).moves ++ [_]).length ≤ _
            rw [List.length_append, ← Nat.add_assoc, l3]
            exact Nat.le_refl _
  · unfold M.delete
    rw [a]
    split
    · exact ⟨hr, hl, Nat.le_succ _⟩
    · obtain ⟨l1, l2, l3⟩ := lo (nameOf A)
      refine ⟨?_, l2, ?_⟩
      · show (((({m with done := m.done + 1} : M).lose (nameOf A)).named + (({m with done := m.done + 1} : M).lose (nameOf A)).gone : Nat) : Int) ≤ _
        rw [l1]; exact hr
      · unfold M.many at l3 ⊢
        show (({m with done := m.done + 1} : M).lose (nameOf A)).safe.length + ((({m with done := m.done + 1} : M).lose (nameOf A)).moves ++ [_]).length ≤ _
        rw [List.length_append, ← Nat.add_assoc, l3]
        exact Nat.le_refl _
  · unfold M.cut
    rw [a]
    split
    · exact ⟨hr, hl, Nat.le_succ _⟩
    · split
      · exact ⟨hr, hl, Nat.le_succ _⟩
      · rename_i b _ _
        refine ⟨?_, hl, Nat.le_succ _⟩
        show ((m.named - ((m.fl b).1.length - N.toNat) + m.gone : Nat) : Int) ≤ _
        omega
  · exact absurd h h9
  · exact absurd h h10
  · have hk : min N.toNat m.moves.length ≤ m.moves.length := Nat.min_le_right _ _
    have h1 := F.bound _ hk
    have h2 := tot_fall_le m.fl (ages m.safe (m.moves.take (min N.toNat m.moves.length))) (ages m.safe (m.moves.take (min N.toNat m.moves.length))) (B : Int)
    refine ⟨?_, ⟨rfl, rfl⟩, ?_⟩
    · show ((tot (fallF m.fl (ages m.safe (m.moves.take (min N.toNat m.moves.length))) (B : Int)) (ages m.safe (m.moves.take (min N.toNat m.moves.length))) + 0 : Nat) : Int) ≤ _
      omega
    · have := ages_len (m.moves.take (min N.toNat m.moves.length)) m.safe
      rw [List.length_take] at this
      show (ages m.safe (m.moves.take (min N.toNat m.moves.length))).length + 0 ≤ m.safe.length + m.moves.length + 1
      omega
/-- Of all names those from the k-th on are left. -/
def LeftOf (m : M) (L : List S) (k : Nat) : Prop := ∀ p ∈ m.now, p.1 ∈ L.drop k
theorem LeftOf.delete {m : M} {L : List S} {k : Nat} (h : LeftOf m L k) (hk : k < L.length) (hl : Live m) : LeftOf (m.delete L[k]) L (k + 1) ∧ Live (m.delete L[k]) ∧ (m.delete L[k]).done ≤ m.done + 1 := by
  obtain ⟨a, e⟩ := hl.act
  have hne : ¬ m.actE = 7 := by omega
  have hd : L.drop k = L[k] :: L.drop (k + 1) := List.drop_eq_getElem_cons hk
  unfold M.delete M.onF
  rw [if_neg hne, a]
  split
  · rename_i hg
    refine ⟨fun p hp => ?_, hl, Nat.le_refl _⟩
    have h1 := h p hp
    rw [hd] at h1
    rcases List.mem_cons.1 h1 with h2 | h2
    · exact absurd (show (L[k], p.2) ∈ m.now by rw [← h2]; exact hp) (get_none.1 hg p.2)
    · exact h2
  · have lo : ∀ s : S, (({m with done := m.done + 1} : M).lose s).now = m.now ∧ Live (({m with done := m.done + 1} : M).lose s) ∧ (({m with done := m.done + 1} : M).lose s).done = m.done + 1 := fun s => by
      unfold M.lose
      split
      · exact ⟨rfl, hl, rfl⟩
      · exact ⟨rfl, hl, rfl⟩
    obtain ⟨l1, l2, l3⟩ := lo L[k]
    refine ⟨fun p hp => ?_, l2, ?_⟩
    · have hp : p ∈ wo (({m with done := m.done + 1} : M).lose L[k]).now L[k] := hp
      rw [l1] at hp
      obtain ⟨h1, h2⟩ := mem_wo.1 hp
      have h3 := h p h1
      rw [hd] at h3
      rcases List.mem_cons.1 h3 with h4 | h4
      · exact absurd h4 h2
      · exact h4
    · show (({m with done := m.done + 1} : M).lose L[k]).done ≤ _
      rw [l3]; exact Nat.le_refl _
theorem LeftOf.all (m : M) (hl : Live m) : LeftOf m m.list 0 := fun p hp => by
  unfold M.list
  rw [hl.2]
  simp only [Bool.false_eq_true, if_false, List.drop_zero]
  exact (List.mergeSort_perm _ _).symm.mem_iff.1 (List.mem_map.2 ⟨p, hp, rfl⟩)
theorem list_len (m : M) : m.list.length ≤ m.now.length := by
  unfold M.list
  split
  · simp
  · rw [(List.mergeSort_perm _ _).length_eq, List.length_map]; exact Nat.le_refl _
theorem LeftOf.none {m : M} {L : List S} (h : LeftOf m L L.length) (F : Fine m) (hl : Live m) : m.names.named + m.names.gone = 0 ∧ m.names.moves = [] ∧ m.actE = 0 := by
  obtain ⟨a, e⟩ := hl.act
  have hn : m.now = [] := by
    cases hm : m.now with
    | nil => rfl
    | cons p l =>
      have := h p (by rw [hm]; exact List.mem_cons_self)
      rw [List.drop_length] at this
      cases this
  have h0 := F.named
  rw [hn] at h0
  unfold M.names
  rw [if_neg (by omega), a]
  refine ⟨?_, rfl, e⟩
  show m.named + 0 = 0
  rw [h0]; rfl
theorem now_len {m : M} (F : Fine m) : m.now.length ≤ m.many := by
  rw [F.now]
  exact ages_len _ _
/-- All names are short. -/
def ShortM (m : M) : Prop := (∀ p ∈ m.safe, p.1.length ≤ 3) ∧ ∀ v ∈ m.moves, v.to.length ≤ 3
theorem on_small {l : List (S × Nat)} (h : ∀ p ∈ l, p.1.length ≤ 3) {v : Mv} (hv : v.to.length ≤ 3) : ∀ p ∈ v.on l, p.1.length ≤ 3 := by
  obtain ⟨fr, tt, f⟩ := v
  have hw : ∀ p ∈ wo l fr, p.1.length ≤ 3 := fun p hp => h p (mem_wo.1 hp).1
  unfold Mv.on
  cases f with
  | none => exact hw
  | some b =>
    intro p hp
    have hp : p ∈ wo (wo l fr) tt ++ [(tt, b)] := hp
    rcases List.mem_append.1 hp with h1 | h1
    · exact hw p (mem_wo.1 h1).1
    · rw [List.mem_singleton.1 h1]; exact hv
theorem ages_small (vs : List Mv) : ∀ l : List (S × Nat), (∀ p ∈ l, p.1.length ≤ 3) → (∀ v ∈ vs, v.to.length ≤ 3) → ∀ p ∈ ages l vs, p.1.length ≤ 3 := by
  induction vs with
  | nil => intro l h _; exact h
  | cons v vs ih => intro l h hv; exact ih (v.on l) (on_small h (hv v List.mem_cons_self)) fun u hu => hv u (List.mem_cons_of_mem _ hu)
theorem nameOf_small (n : Nat) : (nameOf n).length ≤ 3 := by unfold nameOf; split <;> decide
theorem ShortM.now {m : M} (h : ShortM m) (F : Fine m) : ∀ p ∈ m.now, p.1.length ≤ 3 := by rw [F.now]; exact ages_small _ _ h.1 h.2
theorem ShortM.list {m : M} (h : ShortM m) (F : Fine m) : ∀ s ∈ m.list, s.length ≤ 3 := by
  intro s hs
  unfold M.list at hs
  split at hs
  · cases hs
  · obtain ⟨p, hp, rfl⟩ := List.mem_map.1 ((List.mergeSort_perm _ _).mem_iff.1 hs)
    exact h.now F p hp
theorem DoM.short {T : Nat → Tag} {m m' : M} {K A B : Nat} {N : Int} {r : S} (h : DoM T m K A B N r m') (hs : ShortM m) : ShortM m' := by
  obtain ⟨_, a1, a2, _, _, _, _⟩ := act_now m
  have hsa : ShortM m.act := ⟨by rw [a1]; exact hs.1, by rw [a2]; exact hs.2⟩
  have lo : ∀ (x : M) s, (x.lose s).safe = x.safe ∧ (x.lose s).moves = x.moves := fun x s => by unfold M.lose; split <;> exact ⟨rfl, rfl⟩
  have mvs : ∀ (x : M) (v : Mv), ShortM x → v.to.length ≤ 3 → ShortM (x.mv v) := fun x v hx hv => ⟨hx.1, fun u hu => by
    have hu : u ∈ x.moves ++ [v] := hu
    rcases List.mem_append.1 hu with h1 | h1
    · exact hx.2 u h1
    · rw [List.mem_singleton.1 h1]; exact hv⟩
  have los : ∀ (x : M) s, ShortM x → ShortM (x.lose s) := fun x s hx => ⟨by rw [(lo x s).1]; exact hx.1, by rw [(lo x s).2]; exact hx.2⟩
  rcases h with ⟨_, c, _, rfl⟩ | ⟨_, rfl⟩ | ⟨_, rfl⟩ | ⟨_, rfl⟩ | ⟨_, rfl⟩ | ⟨_, rfl⟩ | ⟨_, rfl⟩ | ⟨_, rfl⟩ | ⟨_, rfl⟩ | ⟨_, rfl⟩
  · unfold M.create
    split
    · exact hs
    · split
      · exact hsa
      · split
        · exact hsa
        · exact mvs _ _ hsa (nameOf_small _)
  · unfold M.append
    split
    · exact hsa
    · split
      · exact hsa
      · exact hsa
  · unfold M.sync
    split
    · exact hsa
    · exact hsa
  · unfold M.names
    split
    · exact hsa
    · exact ⟨ages_small _ _ hs.1 hs.2, fun v hv => by cases hv⟩
  · unfold M.rename
    split
    · exact hs
    · split
      · exact hsa
      · split
        · exact hsa
        · exact mvs _ _ (los _ _ hsa) (nameOf_small _)
  · unfold M.delete
    split
    · exact hsa
    · exact mvs _ _ (los _ _ hsa) (Nat.zero_le _)
  · unfold M.cut
    split
    · exact hsa
    · split
      · exact hsa
      · exact hsa
  · exact hs
  · exact hs
  · exact ⟨ages_small _ _ hs.1 fun v hv => hs.2 v (List.mem_of_mem_take hv), fun v hv => by cases hv⟩
theorem Both.drewN {w wr : World} {T : Nat → Tag} {q g : Nat} {m : M} {cs : Array Value} {x : X} (h : Both w wr T q g m cs x) (n : Nat) : Both w (wr.drewN n) T q g m cs x := by
  have B : Below wr.heap.size wr (wr.drewN n) := ⟨rfl, rfl, rfl, Nat.le_refl _, fun _ _ => rfl⟩
  exact ⟨h.be.trans (B.mono h.be.size), h.lo, h.rp.below B, h.rx.keep (Shf.Below.keep B _), h.tg, h.gl, h.gr, h.bx⟩
theorem used_rep (w : World) (T : Nat → Tag) (q : Nat) (m : M) (R : Rep w T q m) : Calls Try.prog 30 #[.pointer (some ⟨q, 0, none⟩)] w fun e w' => e = .returned (.int .i64 ((m.named + m.gone : Nat) : Int)) ∧ ∃ k, w' = w.drewN k := by
  obtain ⟨⟨nv, sv, mv, nn, ns, RV⟩, F⟩ := R
  exact used_any w q m nv sv mv RV.sh (by have := F.bytes; omega)
theorem moves_rep (w : World) (T : Nat → Tag) (q : Nat) (m : M) (R : Rep w T q m) : Calls Try.prog 31 #[.pointer (some ⟨q, 0, none⟩)] w fun e w' => e = .returned (.int .i64 (m.moves.length : Int)) ∧ w = w' := by
  obtain ⟨⟨nv, sv, mv, nn, ns, RV⟩, F⟩ := R
  obtain ⟨A, c, hv⟩ : ∃ A c, mv = .slice A m.moves.length c := by
    rcases RV.mo.2 with ⟨h, h0⟩ | ⟨g, cap, cur, h, _⟩
    · exact ⟨none, 0, by rw [h, h0]⟩
    · exact ⟨_, cap, h⟩
  subst hv
  exact moves_any w q m nv sv A m.moves.length c RV.sh
/-- A slice of strings that a call made, where it stands. -/
theorem strs_at {w : World} {B : Nat} {v : Value} {L : List S} (h : Strs w B v L) : ∃ A c, v = .slice A L.length c ∧ ∀ j (hj : j < L.length), ∃ b, A = some ⟨b, 0, none⟩ ∧ B ≤ b ∧ b < w.heap.size ∧ w.cell? ⟨b, j, none⟩ = some (.string (str L[j])) := by
  have hh := h
  rcases h.2 with ⟨rfl, h0⟩ | ⟨b, cap, cur, rfl, hB, h2, _⟩
  · exact ⟨none, 0, by rw [h0], fun j hj => by omega⟩
  · refine ⟨_, cap, rfl, fun j hj => ⟨b, rfl, hB, (Array.getElem?_eq_some_iff.1 h2).1, ?_⟩⟩
    rw [World.ownsRow.cellAt hh j (by omega)]
    simp [hj, strV]
end Go.Proofs.Ytkalgonkaoiapaa.Shf

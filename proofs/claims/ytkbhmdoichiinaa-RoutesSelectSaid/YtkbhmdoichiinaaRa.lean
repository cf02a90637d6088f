/- What neighbors have told: plain lists, in order by prefixes, then by who tells it: no Go in sight. -/
import Derived.Test.YtkbhmdoichiinaaPFns
namespace Go.Proofs.Ytkbhmdoichiinaa.Rts
open Go.ChangeShapes Go.WideShapes Go.ChangeAt Go.RowKit

/-- What one has told: whose it is, by whom, which node's, its mark, until when. -/
structure E where
  a : Nat
  n : Nat
  b : Nat
  d : Nat
  s : Nat
  m : Nat
  u : Nat
deriving DecidableEq
instance : Inhabited E := ⟨⟨0, 0, 0, 0, 0, 0, 0⟩⟩
def key (a n b : Nat) : Nat := (a * 256 + n) * 16 + b
def E.key (e : E) : Nat := Rts.key e.a e.n e.b
structure E.Ok (e : E) : Prop where
  a : e.a < 4294967296
  n : e.n < 256
  b : e.b < 16
  d : e.d < 16
  s : e.s < 65536
  m : e.m < 65535
  u : e.u < 4611686018427387904
theorem key_eq {a n b x k y : Nat} (hn : n < 256) (hb : b < 16) (hk : k < 256) (hy : y < 16) : key a n b = key x k y ↔ a = x ∧ n = k ∧ b = y := by
  unfold key; omega
theorem key_lt {a n b x k y : Nat} (hn : n < 256) (hb : b < 16) (hk : k < 256) (hy : y < 16) : key a n b < key x k y ↔ a < x ∨ a = x ∧ (n < k ∨ n = k ∧ b < y) := by
  unfold key; omega
def Rising (L : List E) : Prop := L.Pairwise fun x y => x.key < y.key
theorem Rising.get {L : List E} (h : Rising L) {i j : Nat} (hij : i < j) (hj : j < L.length) : L[i].key < L[j].key := List.pairwise_iff_getElem.1 h i j (by omega) hj hij
/-- How many stand ahead of a key. -/
def pos (x : Nat) : List E → Nat
  | [] => 0
  | e :: L => if e.key < x then pos x L + 1 else 0
theorem pos_le (x : Nat) : ∀ L : List E, pos x L ≤ L.length
  | [] => Nat.le_refl _
  | e :: L => by
    have := pos_le x L
    unfold pos
    rw [List.length_cons]
    split <;> omega
theorem pos_lt {x : Nat} : ∀ {L : List E} {l : Nat} (hl : l < L.length), l < pos x L → L[l].key < x
  | [], l, hl, _ => absurd hl (by simp)
  | e :: L, l, hl, hp => by
    unfold pos at hp
    split at hp
    · rcases l with _ | l
      · assumption
      · exact pos_lt (L := L) (by simpa using hl) (by omega)
    · omega
theorem pos_ge {x : Nat} : ∀ {L : List E}, Rising L → ∀ {l : Nat} (hl : l < L.length), pos x L ≤ l → x ≤ L[l].key
  | [], _, l, hl, _ => absurd hl (by simp)
  | e :: L, hr, l, hl, hp => by
    have hr2 := List.pairwise_cons.1 hr
    unfold pos at hp
    split at hp
    · rcases l with _ | l
      · omega
      · exact pos_ge (L := L) hr2.2 (by simpa using hl) (by omega)
    · rcases l with _ | l
      · show x ≤ e.key; omega
      · have hl' : l < L.length := by simpa using hl
        have := hr2.1 _ (List.getElem_mem hl')
        show x ≤ L[l].key
        omega
theorem pos_of {L : List E} {x i : Nat} (hr : Rising L) (hi : i ≤ L.length) (h1 : ∀ l (hl : l < L.length), l < i → L[l].key < x) (h2 : ∀ l (hl : l < L.length), i ≤ l → x ≤ L[l].key) : i = pos x L := by
  have hp := pos_le x L
  rcases Nat.lt_trichotomy i (pos x L) with h | h | h
  · have := pos_lt (L := L) (x := x) (l := i) (by omega) h
    have := h2 i (by omega) (Nat.le_refl _)
    omega
  · exact h
  · have := h1 (pos x L) (by omega) h
    have := pos_ge hr (x := x) (l := pos x L) (by omega) (Nat.le_refl _)
    omega
/-- Does one of that key stand there? -/
def there (x : Nat) (L : List E) : Bool := match L[pos x L]? with | some e => e.key == x | none => false
/-- Put at its place: in the place of what stands there by that key. -/
def putE (L : List E) (e : E) : List E := L.take (pos e.key L) ++ e :: L.drop (if there e.key L then pos e.key L + 1 else pos e.key L)
theorem there_iff {L : List E} (hr : Rising L) (x : Nat) : there x L = true ↔ ∃ e ∈ L, e.key = x := by
  unfold there
  constructor
  · intro h
    split at h
    · rename_i e he
      exact ⟨e, List.mem_of_getElem? he, by simpa using h⟩
    · cases h
  · rintro ⟨e, he, hk⟩
    obtain ⟨l, hl, rfl⟩ := List.getElem_of_mem he
    have h1 : pos x L ≤ l := by
      rcases Nat.lt_or_ge l (pos x L) with h | h
      · have := pos_lt hl h; omega
      · exact h
    have hpl : pos x L < L.length := by omega
    have h2 := pos_ge hr hpl (Nat.le_refl _)
    have h3 : pos x L = l := by
      rcases Nat.lt_or_eq_of_le h1 with h | h
      · have := hr.get h hl; omega
      · exact h
    rw [List.getElem?_eq_getElem hpl]
    have : L[pos x L].key = x := by simp only [h3]; exact hk
    simpa using this
theorem mem_take_lt {L : List E} (x : Nat) {e : E} (h : e ∈ L.take (pos x L)) : e ∈ L ∧ e.key < x := by
  obtain ⟨l, hl, rfl⟩ := List.getElem_of_mem h
  rw [List.length_take] at hl
  rw [List.getElem_take]
  exact ⟨List.getElem_mem _, pos_lt (by omega) (by omega)⟩
theorem mem_drop_gt {L : List E} (hr : Rising L) (x : Nat) {e : E} (h : e ∈ L.drop (if there x L then pos x L + 1 else pos x L)) : e ∈ L ∧ x < e.key := by
  obtain ⟨k, hk⟩ : ∃ k, k = if there x L then pos x L + 1 else pos x L := ⟨_, rfl⟩
  rw [← hk] at h
  obtain ⟨l, hl, rfl⟩ := List.getElem_of_mem h
  rw [List.length_drop] at hl
  rw [List.getElem_drop]
  refine ⟨List.getElem_mem _, ?_⟩
  cases ht : there x L with
  | true =>
    rw [ht] at hk
    have hk : k = pos x L + 1 := hk
    have hpl : pos x L < L.length := by omega
    have h2 := pos_ge hr hpl (Nat.le_refl _)
    have := hr.get (i := pos x L) (j := k + l) (by omega) (by omega)
    omega
  | false =>
    rw [ht] at hk
    have hk : k = pos x L := hk
    have h2 := pos_ge hr (x := x) (l := k + l) (by omega) (by omega)
    rcases Nat.lt_or_eq_of_le h2 with h | h
    · exact h
    · have := (there_iff hr x).2 ⟨_, List.getElem_mem (by omega), h.symm⟩
      rw [ht] at this; cases this
theorem mem_cases {L : List E} (x : Nat) {e : E} (h : e ∈ L) (hne : e.key ≠ x) : e ∈ L.take (pos x L) ∨ e ∈ L.drop (if there x L then pos x L + 1 else pos x L) := by
  obtain ⟨l, hl, rfl⟩ := List.getElem_of_mem h
  rcases Nat.lt_or_ge l (pos x L) with h1 | h1
  · left
    have : l < (L.take (pos x L)).length := by rw [List.length_take]; omega
    have h2 := List.getElem_mem this
    rw [List.getElem_take] at h2
    exact h2
  · right
    have h3 : (if there x L then pos x L + 1 else pos x L) ≤ l := by
      split
      · rename_i ht
        rcases Nat.lt_or_eq_of_le h1 with h2 | h2
        · exact h2
        · exfalso
          unfold there at ht
          rw [h2, List.getElem?_eq_getElem hl] at ht
          exact hne (by simpa using ht)
      · exact h1
    have : l - (if there x L then pos x L + 1 else pos x L) < (L.drop (if there x L then pos x L + 1 else pos x L)).length := by rw [List.length_drop]; omega
    have h2 := List.getElem_mem this
    rw [List.getElem_drop] at h2
    have e : (if there x L then pos x L + 1 else pos x L) + (l - (if there x L then pos x L + 1 else pos x L)) = l := by omega
    simp only [e] at h2
    exact h2
theorem putE_mem {L : List E} (hr : Rising L) (e x : E) : x ∈ putE L e ↔ x = e ∨ x ∈ L ∧ x.key ≠ e.key := by
  unfold putE
  rw [List.mem_append, List.mem_cons]
  constructor
  · rintro (h | h | h)
    · have := mem_take_lt _ h; exact Or.inr ⟨this.1, by omega⟩
    · exact Or.inl h
    · have := mem_drop_gt hr _ h; exact Or.inr ⟨this.1, by omega⟩
  · rintro (h | ⟨h1, h2⟩)
    · exact Or.inr (Or.inl h)
    · rcases mem_cases e.key h1 h2 with h | h
      · exact Or.inl h
      · exact Or.inr (Or.inr h)
theorem putE_rising {L : List E} (hr : Rising L) (e : E) : Rising (putE L e) := by
  unfold putE Rising
  rw [List.pairwise_append]
  refine ⟨List.Pairwise.sublist (List.take_sublist _ _) hr, ?_, fun x hx y hy => ?_⟩
  · rw [List.pairwise_cons]
    exact ⟨fun y hy => (mem_drop_gt hr _ hy).2, List.Pairwise.sublist (List.drop_sublist _ _) hr⟩
  · have h1 := (mem_take_lt _ hx).2
    rw [List.mem_cons] at hy
    rcases hy with rfl | hy
    · exact h1
    · have := (mem_drop_gt hr _ hy).2; omega
theorem filter_rising {L : List E} (hr : Rising L) (p : E → Bool) : Rising (L.filter p) := List.Pairwise.sublist List.filter_sublist hr
theorem putE_length (L : List E) (e : E) : (putE L e).length = if there e.key L then L.length else L.length + 1 := by
  have h1 := pos_le e.key L
  unfold putE
  rw [List.length_append, List.length_cons, List.length_take, List.length_drop]
  split
  · rename_i ht
    have : pos e.key L < L.length := by
      unfold there at ht
      split at ht
      · rename_i h; exact (List.getElem?_eq_some_iff.1 h).1
      · cases ht
    omega
  · omega
end Go.Proofs.Ytkbhmdoichiinaa.Rts

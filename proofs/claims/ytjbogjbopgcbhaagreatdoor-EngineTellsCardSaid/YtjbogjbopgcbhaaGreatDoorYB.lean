/- What neighbors have told: plain lists, in order by prefixes, then by who tells it: no Go in sight. What is told, in memory. slices.Insert of one row into rows of the call's own. Frames; routes in memory; the order, and the search by it. The closure of the order, and the search. -/
import Derived.Test.YtjbogjbopgcbhaaGreatDoorYA
import Derived.Deep.OwnRows
import Derived.Maps.AppendAt
import Derived.Shelf.Spec.SlicesInsertGrow
import Derived.Deep.RegionLaw
import Derived.Laws.CopyOwn
import Derived.Lib.Hide
import Derived.Deep.DeepCutAuto
import Derived.Deep.RegionHeld3
namespace Go.Proofs.YtjbogjbopgcbhaaGreatDoor.Rts
open Go.ChangeShapes Go.WideShapes Go.ChangeAt Go.RowKit
structure E where
  a : Nat
  n : Nat
  b : Nat
  d : Nat
  s : Nat
  m : Nat
  u : Nat
deriving DecidableEq
instance : Inhabited E := ⟨⟨0, 0, 0, 0, 0, 0, 0⟩⟩
def key (a n b : Nat) : Nat := (a * 256 + n) * 16 + b
def E.key (e : E) : Nat := Rts.key e.a e.n e.b
structure E.Ok (e : E) : Prop where
  a : e.a < 4294967296
  n : e.n < 256
  b : e.b < 16
  d : e.d < 16
  s : e.s < 65536
  m : e.m < 65535
  u : e.u < 4611686018427387904
theorem key_eq {a n b x k y : Nat} (hn : n < 256) (hb : b < 16) (hk : k < 256) (hy : y < 16) : key a n b = key x k y ↔ a = x ∧ n = k ∧ b = y := by
  unfold key; omega
theorem key_lt {a n b x k y : Nat} (hn : n < 256) (hb : b < 16) (hk : k < 256) (hy : y < 16) : key a n b < key x k y ↔ a < x ∨ a = x ∧ (n < k ∨ n = k ∧ b < y) := by
  unfold key; omega
def Rising (L : List E) : Prop := L.Pairwise fun x y => x.key < y.key
theorem Rising.get {L : List E} (h : Rising L) {i j : Nat} (hij : i < j) (hj : j < L.length) : L[i].key < L[j].key := List.pairwise_iff_getElem.1 h i j (by omega) hj hij
def pos (x : Nat) : List E → Nat
  | [] => 0
  | e :: L => if e.key < x then pos x L + 1 else 0
theorem pos_le (x : Nat) : ∀ L : List E, pos x L ≤ L.length
  | [] => Nat.le_refl _
  | e :: L => by
    have := pos_le x L
    unfold pos
    rw [List.length_cons]
    split <;> omega
theorem pos_lt {x : Nat} : ∀ {L : List E} {l : Nat} (hl : l < L.length), l < pos x L → L[l].key < x
  | [], l, hl, _ => absurd hl (by simp)
  | e :: L, l, hl, hp => by
    unfold pos at hp
    split at hp
    · rcases l with _ | l
      · assumption
      · exact pos_lt (L := L) (by simpa using hl) (by omega)
    · omega
theorem pos_ge {x : Nat} : ∀ {L : List E}, Rising L → ∀ {l : Nat} (hl : l < L.length), pos x L ≤ l → x ≤ L[l].key
  | [], _, l, hl, _ => absurd hl (by simp)
  | e :: L, hr, l, hl, hp => by
    have hr2 := List.pairwise_cons.1 hr
    unfold pos at hp
    split at hp
    · rcases l with _ | l
      · omega
      · exact pos_ge (L := L) hr2.2 (by simpa using hl) (by omega)
    · rcases l with _ | l
      · show x ≤ e.key; omega
      · have hl' : l < L.length := by simpa using hl
        have := hr2.1 _ (List.getElem_mem hl')
        show x ≤ L[l].key
        omega
theorem pos_of {L : List E} {x i : Nat} (hr : Rising L) (hi : i ≤ L.length) (h1 : ∀ l (hl : l < L.length), l < i → L[l].key < x) (h2 : ∀ l (hl : l < L.length), i ≤ l → x ≤ L[l].key) : i = pos x L := by
  have hp := pos_le x L
  rcases Nat.lt_trichotomy i (pos x L) with h | h | h
  · have := pos_lt (L := L) (x := x) (l := i) (by omega) h
    have := h2 i (by omega) (Nat.le_refl _)
    omega
  · exact h
  · have := h1 (pos x L) (by omega) h
    have := pos_ge hr (x := x) (l := pos x L) (by omega) (Nat.le_refl _)
    omega
def there (x : Nat) (L : List E) : Bool := match L[pos x L]? with | some e => e.key == x | none => false
def putE (L : List E) (e : E) : List E := L.take (pos e.key L) ++ e :: L.drop (if there e.key L then pos e.key L + 1 else pos e.key L)
theorem there_iff {L : List E} (hr : Rising L) (x : Nat) : there x L = true ↔ ∃ e ∈ L, e.key = x := by
  unfold there
  constructor
  · intro h
    split at h
    · rename_i e he
      exact ⟨e, List.mem_of_getElem? he, by simpa using h⟩
    · cases h
  · rintro ⟨e, he, hk⟩
    obtain ⟨l, hl, rfl⟩ := List.getElem_of_mem he
    have h1 : pos x L ≤ l := by
      rcases Nat.lt_or_ge l (pos x L) with h | h
      · have := pos_lt hl h; omega
      · exact h
    have hpl : pos x L < L.length := by omega
    have h2 := pos_ge hr hpl (Nat.le_refl _)
    have h3 : pos x L = l := by
      rcases Nat.lt_or_eq_of_le h1 with h | h
      · have := hr.get h hl; omega
      · exact h
    rw [List.getElem?_eq_getElem hpl]
    have : L[pos x L].key = x := by simp only [h3]; exact hk
    simpa using this
theorem mem_take_lt {L : List E} (x : Nat) {e : E} (h : e ∈ L.take (pos x L)) : e ∈ L ∧ e.key < x := by
  obtain ⟨l, hl, rfl⟩ := List.getElem_of_mem h
  rw [List.length_take] at hl
  rw [List.getElem_take]
  exact ⟨List.getElem_mem _, pos_lt (by omega) (by omega)⟩
theorem mem_drop_gt {L : List E} (hr : Rising L) (x : Nat) {e : E} (h : e ∈ L.drop (if there x L then pos x L + 1 else pos x L)) : e ∈ L ∧ x < e.key := by
  obtain ⟨k, hk⟩ : ∃ k, k = if there x L then pos x L + 1 else pos x L := ⟨_, rfl⟩
  rw [← hk] at h
  obtain ⟨l, hl, rfl⟩ := List.getElem_of_mem h
  rw [List.length_drop] at hl
  rw [List.getElem_drop]
  refine ⟨List.getElem_mem _, ?_⟩
  cases ht : there x L with
  | true =>
    rw [ht] at hk
    have hk : k = pos x L + 1 := hk
    have hpl : pos x L < L.length := by omega
    have h2 := pos_ge hr hpl (Nat.le_refl _)
    have := hr.get (i := pos x L) (j := k + l) (by omega) (by omega)
    omega
  | false =>
    rw [ht] at hk
    have hk : k = pos x L := hk
    have h2 := pos_ge hr (x := x) (l := k + l) (by omega) (by omega)
    rcases Nat.lt_or_eq_of_le h2 with h | h
    · exact h
    · have := (there_iff hr x).2 ⟨_, List.getElem_mem (by omega), h.symm⟩
      rw [ht] at this; cases this
theorem mem_cases {L : List E} (x : Nat) {e : E} (h : e ∈ L) (hne : e.key ≠ x) : e ∈ L.take (pos x L) ∨ e ∈ L.drop (if there x L then pos x L + 1 else pos x L) := by
  obtain ⟨l, hl, rfl⟩ := List.getElem_of_mem h
  rcases Nat.lt_or_ge l (pos x L) with h1 | h1
  · left
    have : l < (L.take (pos x L)).length := by rw [List.length_take]; omega
    have h2 := List.getElem_mem this
    rw [List.getElem_take] at h2
    exact h2
  · right
    have h3 : (if there x L then pos x L + 1 else pos x L) ≤ l := by
      split
      · rename_i ht
        rcases Nat.lt_or_eq_of_le h1 with h2 | h2
        · exact h2
        · exfalso
          unfold there at ht
          rw [h2, List.getElem?_eq_getElem hl] at ht
          exact hne (by simpa using ht)
      · exact h1
    have : l - (if there x L then pos x L + 1 else pos x L) < (L.drop (if there x L then pos x L + 1 else pos x L)).length := by rw [List.length_drop]; omega
    have h2 := List.getElem_mem this
    rw [List.getElem_drop] at h2
    have e : (if there x L then pos x L + 1 else pos x L) + (l - (if there x L then pos x L + 1 else pos x L)) = l := by omega
    simp only [e] at h2
    exact h2
theorem putE_mem {L : List E} (hr : Rising L) (e x : E) : x ∈ putE L e ↔ x = e ∨ x ∈ L ∧ x.key ≠ e.key := by
  unfold putE
  rw [List.mem_append, List.mem_cons]
  constructor
  · rintro (h | h | h)
    · have := mem_take_lt _ h; exact Or.inr ⟨this.1, by omega⟩
    · exact Or.inl h
    · have := mem_drop_gt hr _ h; exact Or.inr ⟨this.1, by omega⟩
  · rintro (h | ⟨h1, h2⟩)
    · exact Or.inr (Or.inl h)
    · rcases mem_cases e.key h1 h2 with h | h
      · exact Or.inl h
      · exact Or.inr (Or.inr h)
theorem putE_rising {L : List E} (hr : Rising L) (e : E) : Rising (putE L e) := by
  unfold putE Rising
  rw [List.pairwise_append]
  refine ⟨List.Pairwise.sublist (List.take_sublist _ _) hr, ?_, fun x hx y hy => ?_⟩
  · rw [List.pairwise_cons]
    exact ⟨fun y hy => (mem_drop_gt hr _ hy).2, List.Pairwise.sublist (List.drop_sublist _ _) hr⟩
  · have h1 := (mem_take_lt _ hx).2
    rw [List.mem_cons] at hy
    rcases hy with rfl | hy
    · exact h1
    · have := (mem_drop_gt hr _ hy).2; omega
theorem filter_rising {L : List E} (hr : Rising L) (p : E → Bool) : Rising (L.filter p) := List.Pairwise.sublist List.filter_sublist hr
theorem putE_length (L : List E) (e : E) : (putE L e).length = if there e.key L then L.length else L.length + 1 := by
  have h1 := pos_le e.key L
  unfold putE
  rw [List.length_append, List.length_cons, List.length_take, List.length_drop]
  split
  · rename_i ht
    have : pos e.key L < L.length := by
      unfold there at ht
      split at ht
      · rename_i h; exact (List.getElem?_eq_some_iff.1 h).1
      · cases ht
    omega
  · omega
end Go.Proofs.YtjbogjbopgcbhaaGreatDoor.Rts
namespace Go.Proofs.YtjbogjbopgcbhaaGreatDoor.Rts
open Pre Ser
open Go.ChangeShapes Go.WideShapes Go.ChangeAt Go.RowKit
set_option maxRecDepth 4000
def E.cl (e : E) : List Value := [.int .u32 (e.a : Int), .int .u8 (e.n : Int), .int .i64 (e.b : Int), .int .i64 (e.d : Int), .int .u16 (e.s : Int), .int .u16 (e.m : Int), .int .u64 (e.u : Int)]
theorem rcl_len (r : E) : r.cl.length = 7 := rfl
theorem rflat_len (rs : List E) : (rs.flatMap E.cl).length = rs.length * 7 := by
  induction rs with
  | nil => rfl
  | cons r rs ih => simp only [List.flatMap_cons, List.length_append, rcl_len, ih, List.length_cons]; omega
theorem rflat_at : ∀ (rs : List E) (k i : Nat) (hk : k < rs.length), i < 7 → (rs.flatMap E.cl)[k * 7 + i]? = (rs[k].cl)[i]?
  | r :: rs, 0, i, _, hi => by
    simp only [List.flatMap_cons, Nat.zero_mul, Nat.zero_add, List.getElem_cons_zero]
    rw [List.getElem?_append_left (by rw [rcl_len]; exact hi)]
  | r :: rs, k + 1, i, hk, hi => by
    simp only [List.flatMap_cons, List.getElem_cons_succ]
    rw [List.getElem?_append_right (by rw [rcl_len]; omega), rcl_len, show (k + 1) * 7 + i - 7 = k * 7 + i by omega]
    exact rflat_at rs k i (by simpa using hk) hi
theorem rflat_take (rs : List E) (k : Nat) : (rs.flatMap E.cl).take (k * 7) = (rs.take k).flatMap E.cl := by
  induction rs generalizing k with
  | nil => simp
  | cons r rs ih =>
    cases k with
    | zero => simp
    | succ k =>
      simp only [List.flatMap_cons, List.take_succ_cons]
      rw [List.take_append, rcl_len, show (k + 1) * 7 - 7 = k * 7 by omega, ih, List.take_of_length_le (by rw [rcl_len]; omega)]
theorem rflat_drop (rs : List E) (k : Nat) : (rs.flatMap E.cl).drop (k * 7) = (rs.drop k).flatMap E.cl := by
  induction rs generalizing k with
  | nil => simp
  | cons r rs ih =>
    cases k with
    | zero => simp
    | succ k =>
      simp only [List.flatMap_cons, List.drop_succ_cons]
      rw [List.drop_append, rcl_len, show (k + 1) * 7 - 7 = k * 7 by omega, ih, List.drop_of_length_le (by rw [rcl_len]; omega)]
      rfl
theorem rcl_one (rs : List E) : ∀ u ∈ rs.flatMap E.cl, u.oneCell' = true := by
  intro u hu
  obtain ⟨r, _, hr⟩ := List.mem_flatMap.1 hu
  simp [E.cl] at hr
  rcases hr with rfl | rfl | rfl | rfl | rfl | rfl | rfl | rfl | rfl | rfl <;> rfl
structure EAt (w : World) (b o : Nat) (r : E) : Prop where
  k0 : w.cell? ⟨b, o, none⟩ = some (.int .u32 (r.a : Int))
  k1 : w.cell? ⟨b, o + 1, none⟩ = some (.int .u8 (r.n : Int))
  k2 : w.cell? ⟨b, o + 2, none⟩ = some (.int .i64 (r.b : Int))
  k3 : w.cell? ⟨b, o + 3, none⟩ = some (.int .i64 (r.d : Int))
  k4 : w.cell? ⟨b, o + 4, none⟩ = some (.int .u16 (r.s : Int))
  k5 : w.cell? ⟨b, o + 5, none⟩ = some (.int .u16 (r.m : Int))
  k6 : w.cell? ⟨b, o + 6, none⟩ = some (.int .u64 (r.u : Int))
theorem EAt.keep {w w' : World} {b o : Nat} {r : E} (h : EAt w b o r) (hb : w'.heap[b]? = w.heap[b]?) : EAt w' b o r := by
  have k : ∀ i, w'.cell? ⟨b, i, none⟩ = w.cell? ⟨b, i, none⟩ := fun i => World.cell?_of_block (a := ⟨b, i, none⟩) hb
  exact ⟨(k _).trans h.k0, (k _).trans h.k1, (k _).trans h.k2, (k _).trans h.k3, (k _).trans h.k4, (k _).trans h.k5, (k _).trans h.k6⟩
def ESl (w : World) (A : Option Addr) (rs : List E) : Prop := ∀ k (hk : k < rs.length), ∃ b o, A = some ⟨b, o, none⟩ ∧ b < w.heap.size ∧ EAt w b (o + k * 7) rs[k]
theorem ESl.keep {w w' : World} {A : Option Addr} {rs : List E} (h : ESl w A rs) (hb : ∀ b o, A = some ⟨b, o, none⟩ → b < w.heap.size → w'.heap[b]? = w.heap[b]?) (hs : w.heap.size ≤ w'.heap.size) : ESl w' A rs := fun k hk => by
  obtain ⟨b, o, e, hlt, hc⟩ := h k hk
  exact ⟨b, o, e, Nat.lt_of_lt_of_le hlt hs, hc.keep (hb b o e hlt)⟩
theorem ESl.below {w w' : World} {A : Option Addr} {rs : List E} (h : ESl w A rs) (B : Below w.heap.size w w') : ESl w' A rs := h.keep (fun b _ _ hb => B.block b hb) B.size
def EOwn (w : World) (B : Nat) (v : Value) (rs : List E) : Prop := w.ownsRow B 173 7 v rs.length (rs.flatMap E.cl)
theorem EOwn.form {w : World} {B : Nat} {v : Value} {rs : List E} (h : EOwn w B v rs) : ∃ A c, v = .slice A rs.length c ∧ ESl w A rs ∧ (∀ b o, A = some ⟨b, o, none⟩ → v.ownBlock = some b ∧ B ≤ b ∧ b < w.heap.size ∧ o = 0) := by
  rcases h.2 with ⟨hv, hn⟩ | ⟨g, cap, cur, hv, hB, hg, h1, h2, h3, h4⟩
  · have e : rs.length = 0 := hn
    exact ⟨none, 0, by rw [hv, e], fun k hk => absurd hk (by omega), fun _ _ e => (by cases e)⟩
  · refine ⟨some ⟨g, 0, none⟩, cap, hv, fun k hk => ⟨g, 0, rfl, (Array.getElem?_eq_some_iff.1 hg).1, ?_⟩, fun b o e => ?_⟩
    · have hc : ∀ i u, i < 7 → (rs[k].cl)[i]? = some u → w.cell? ⟨g, 0 + k * 7 + i, none⟩ = some u := fun i u hi hu => by
        rw [cell_of_row w g _ cur 173 (0, 0) hg, Nat.zero_add]
        have hx := rflat_at rs k i hk hi
        rw [← h4, List.getElem?_take, if_pos (by omega), hu] at hx
        simpa using hx
      exact ⟨hc 0 _ (by decide) rfl, hc 1 _ (by decide) rfl, hc 2 _ (by decide) rfl, hc 3 _ (by decide) rfl, hc 4 _ (by decide) rfl, hc 5 _ (by decide) rfl, hc 6 _ (by decide) rfl⟩
    · injection e with e; injection e with e1 e2 e3
      subst e1 e2 hv
      exact ⟨rfl, hB, (Array.getElem?_eq_some_iff.1 hg).1, rfl⟩
theorem EOwn.kept {w w' : World} {B : Nat} {v : Value} {rs : List E} (h : EOwn w B v rs) (hb : Below w.heap.size w w') : EOwn w' B v rs :=
  World.ownsRow.kept (row := none) h ⟨hb.os, hb.tape, hb.output, hb.size, fun k hk _ => hb.block k hk⟩ (by cases v.ownBlock <;> simp)
theorem EOwn.nil (w : World) (B : Nat) : EOwn w B (.slice none 0 0) [] := World.ownsRow_nil w B 173 7
end Go.Proofs.YtjbogjbopgcbhaaGreatDoor.Rts
namespace Go.Proofs.YtjbogjbopgcbhaaGreatDoor.Rts
open Pre Ser
open Go.ChangeShapes Go.WideShapes Go.ChangeAt Go.RowKit
set_option maxRecDepth 8000
theorem shift_list {α : Type} (X Y D L : List α) (hL : L.take (X.length + D.length) = X ++ D) (hlen : X.length + Y.length + D.length ≤ L.length) :
    (splice (splice L (X.length + Y.length) D) X.length Y).take (X.length + Y.length + D.length) = X ++ Y ++ D ∧ (splice (splice L (X.length + Y.length) D) X.length Y).length = L.length := by
  constructor
  · obtain ⟨L', rfl⟩ : ∃ L', L = X ++ (D ++ L') := ⟨L.drop (X.length + D.length), by rw [← List.append_assoc, ← hL, List.take_append_drop]⟩
    have e1 : (X ++ (D ++ L')).take (X.length + Y.length) = X ++ (D ++ L').take Y.length := by
      rw [List.take_append, List.take_of_length_le (by omega), show X.length + Y.length - X.length = Y.length by omega]
    have l1 : ((D ++ L').take Y.length).length = Y.length := by
      simp only [List.length_take, List.length_append] at hlen ⊢; omega
    unfold splice
    rw [e1]
    generalize (D ++ L').take Y.length = T at l1
    generalize (X ++ (D ++ L')).drop (X.length + Y.length + D.length) = R
    rw [List.append_assoc, List.take_left' rfl, ← List.append_assoc X T (D ++ R), List.drop_left' (by rw [List.length_append]; omega)]
    rw [← List.append_assoc X, ← List.append_assoc, List.take_left' (by simp only [List.length_append])]
  · rw [length_splice _ _ _ (by rw [length_splice _ _ _ (by omega)]; omega), length_splice _ _ _ (by omega)]
theorem grow_list {α : Type} (X Y D Z : List α) (hlen : Y.length + D.length ≤ Z.length) :
    (splice (splice (X ++ Z) X.length Y) (X.length + Y.length) D).take (X.length + Y.length + D.length) = X ++ Y ++ D ∧ (splice (splice (X ++ Z) X.length Y) (X.length + Y.length) D).length = (X ++ Z).length := by
  constructor
  · unfold splice
    rw [List.take_left' rfl]
    generalize (X ++ Z).drop (X.length + Y.length) = R
    have e : (X ++ Y ++ R).take (X.length + Y.length) = X ++ Y := List.take_left' (by rw [List.length_append])
    rw [← List.append_assoc X Y R, e]
    rw [← List.append_assoc (X ++ Y), List.take_left' (by simp only [List.length_append])]
  · have h1 : X.length + Y.length ≤ (X ++ Z).length := by rw [List.length_append]; omega
    have h2 := length_splice (X ++ Z) X.length Y h1
    have h3 : X.length + Y.length + D.length ≤ (splice (X ++ Z) X.length Y).length := by rw [h2, List.length_append]; omega
    rw [length_splice _ _ _ h3, h2]
theorem run_copy_rowk {P : Program} (w : World) (dT sT ty elem : TypeId) (k g o dLen dCap : Nat) (a : Addr) (sLen sCap : Nat) (cur : List Value) (t : TypeId) (cs : List Value) (m : Nat)
    (hu : P.underlying dT = some (.slice elem)) (hs : (P.info? elem).map (·.size) = some k)
    (hg : w.heap[g]? = some (.cells cur.toArray t (0, 0))) (hm : Nat.min sLen dLen = m) (hn : cs.length = m * k)
    (hsrc : ∀ j v, cs[j]? = some v → w.cell? (a.add j) = some v) (hfit : o + cs.length ≤ cur.length) (h1 : ∀ v ∈ cs, v.oneCell' = true) :
    (Builtin.copy_ #[dT, sT] ty #[.slice (some ⟨g, o, none⟩) dLen dCap, .slice (some a) sLen sCap]).run P w =
      .ok (goInt m) (w.setRow g (splice cur o cs).toArray) := by
  have hl := run_firstCells_some (P := P) w k m a sLen sCap cs hn hsrc
  have hst := run_storeCells_at P g o t cs 0 cur.toArray w hg (by simpa using hfit) h1
  cases hq : P.info? elem with
  | none => simp [hq] at hs
  | some i =>
    have hi : i.size = k := by simpa [hq] using hs
    simp [Builtin.copy_, run_underlying hu, Builtin.lenOf, sizeOf, typeInfo, hq, hi, hm, hl, hst, splice]
theorem info43 : (Tryz.prog.info? 173).map (fun i => (i.zero, i.size, i.bytes)) = some (some (.agg #[.int .u32 0, .int .u8 0, .int .i64 0, .int .i64 0, .int .u16 0, .int .u16 0, .int .u64 0]), 7, 40) := by kernel_rfl
theorem rcl_one1 (r : E) : ∀ u ∈ r.cl, u.oneCell' = true := by
  intro u hu
  simp [E.cl] at hu
  rcases hu with rfl | rfl | rfl | rfl | rfl | rfl | rfl <;> rfl
def InsSaid (w : World) (B : Nat) (v : Value) (rs : List E) (e : Ending) (w' : World) : Prop := ∃ v', e = .returned v' ∧ EOwn w' B v' rs ∧ w.grownBy w' v.ownBlock ∧ (v'.ownBlock = v.ownBlock ∨ v'.ownBlock = some w.heap.size)
theorem grown_setRow (w : World) (g : Nat) (cs : Array Value) : w.grownBy (w.setRow g cs) (some g) :=
  ⟨rfl, rfl, rfl, by simp, fun k _ hne => setRow_other w g k cs (fun e => hne (by rw [e]))⟩
theorem flat_ins (rs : List E) (r : E) (i : Nat) : (rs.take i ++ r :: rs.drop i).flatMap E.cl = (rs.take i).flatMap E.cl ++ r.cl ++ (rs.drop i).flatMap E.cl := by
  simp only [List.flatMap_append, List.flatMap_cons, List.append_assoc]
theorem len_ins (rs : List E) (r : E) (i : Nat) (hi : i ≤ rs.length) : (rs.take i ++ r :: rs.drop i).length = rs.length + 1 := by
  simp only [List.length_append, List.length_cons, List.length_take, List.length_drop]; omega
theorem ins_end (w : World) (B : Nat) (v : Value) (rs : List E) (r : E) (vb : Nat) (hown : EOwn w B v rs) (hvb : w.heap[vb]? = some (.cells r.cl.toArray 173 (0, 0))) (hlen : rs.length ≤ 1000) (hB : B ≤ w.heap.size) :
    Calls Tryz.prog 156 #[v, .int .i64 (rs.length : Int), .slice (some ⟨vb, 0, none⟩) 1 1] w (InsSaid w B v (rs ++ [r])) := by
  obtain ⟨i0, hi, hz0, hz1, hz2⟩ := info_parts info43
  obtain ⟨A, c, hv, _, _⟩ := hown.form
  have HO := Lib.hid hown
  have HI := Lib.hid (And.intro hi (And.intro hz0 (And.intro hz1 hz2)))
  have hn : ∀ j u, r.cl[j]? = some u → w.cell? ((⟨vb, 0, none⟩ : Addr).add j) = some u := fun j u hj => by
    rw [show (⟨vb, 0, none⟩ : Addr).add j = ⟨vb, j, none⟩ by unfold Addr.add; split <;> simp_all, cell_of_row _ _ j _ 173 (0, 0) hvb, ← hj]
    simp
  have HN := Lib.hid hn
  clear hi hz0 hz1 hz2 hown hvb hn
  obtain ⟨n, hn⟩ : ∃ n, n = rs.length := ⟨_, rfl⟩
  rw [← hn] at hv hlen ⊢
  have HL := Lib.hid hn
  clear hn
  have hc : n ≤ c := by
    rcases HO.out.2 with ⟨h1, h2⟩ | ⟨g, cap, cur, h1, _, _, h2, _⟩
    · rw [HL.out]; omega
    · rw [hv] at h1; injection h1 with _ _ h3; rw [HL.out, h3]; exact h2
  subst hv
  by_cases hcn : c = n
  · subst c
    go_enter Tryz.func156, Tryz.ntmps156
    go_wp2_with (at_builtin; refine wpList_append_own_at _ rfl _ _ 149 rfl B 173 i0 _ 7 40 Tryz.underlying149 HI.out.1 HI.out.2.1 HI.out.2.2.1 HI.out.2.2.2 rfl (by decide) (.slice A n n) rs.length (rs.flatMap E.cl) rfl HO.out ⟨vb, 0, none⟩ 1 1 r.cl rfl rfl HN.out (rcl_one1 r) (by have := HL.out; unfold maxLen; omega) (by have := HL.out; omega) hB ?_; intro v' w' h1 h2 _ h4; have HZ := Lib.hid (And.intro h1 (And.intro h2 h4)); clear h1 h2 h4)
    go_ret
    refine ⟨v', rfl, ?_, HZ.out.2.1, HZ.out.2.2⟩
    have := HZ.out.1
    unfold EOwn
    rw [List.length_append, List.flatMap_append]
    simpa using this
  · go_enter Tryz.func156, Tryz.ntmps156
    go_wp2_with (at_builtin; refine wpList_append_own_at _ rfl _ _ 149 rfl B 173 i0 _ 7 40 Tryz.underlying149 HI.out.1 HI.out.2.1 HI.out.2.2.1 HI.out.2.2.2 rfl (by decide) (.slice A n c) rs.length (rs.flatMap E.cl) rfl HO.out ⟨vb, 0, none⟩ 1 1 r.cl rfl rfl HN.out (rcl_one1 r) (by have := HL.out; unfold maxLen; omega) (by have := HL.out; omega) hB ?_; intro v' w' h1 h2 _ h4; have HZ := Lib.hid (And.intro h1 (And.intro h2 h4)); clear h1 h2 h4)
    go_ret
    refine ⟨v', rfl, ?_, HZ.out.2.1, HZ.out.2.2⟩
    have := HZ.out.1
    unfold EOwn
    rw [List.length_append, List.flatMap_append]
    simpa using this
theorem ins_room (w : World) (B g cap i : Nat) (cur : List Value) (rs : List E) (r : E) (vb : Nat) (hg : w.heap[g]? = some (.cells cur.toArray 173 (0, 0))) (hBg : B ≤ g) (hcap : cap ≤ maxLen) (hsz : cur.length = cap * 7) (htk : cur.take (rs.length * 7) = rs.flatMap E.cl)
    (hvb : w.heap[vb]? = some (.cells r.cl.toArray 173 (0, 0))) (hne : vb ≠ g) (hi : i < rs.length) (hlen : rs.length ≤ 1000) (hroom : rs.length + 1 ≤ cap) :
    Calls Tryz.prog 156 #[.slice (some ⟨g, 0, none⟩) rs.length cap, .int .i64 (i : Int), .slice (some ⟨vb, 0, none⟩) 1 1] w (InsSaid w B (.slice (some ⟨g, 0, none⟩) rs.length cap) (rs.take i ++ r :: rs.drop i)) := by
  have hsize : (Tryz.prog.info? 173).map (·.size) = some 7 := by kernel_rfl
  obtain ⟨n, hn⟩ : ∃ n, rs.length = n := ⟨_, rfl⟩
  have hX : ((rs.take i).flatMap E.cl).length = i * 7 := by rw [rflat_len, List.length_take]; omega
  have hD : ((rs.drop i).flatMap E.cl).length = (n - i) * 7 := by rw [rflat_len, List.length_drop, hn]
  have hXD : (rs.take i).flatMap E.cl ++ (rs.drop i).flatMap E.cl = rs.flatMap E.cl := by rw [← List.flatMap_append, List.take_append_drop]
  have hsl := shift_list ((rs.take i).flatMap E.cl) r.cl ((rs.drop i).flatMap E.cl) cur (by rw [hX, hD, hXD, ← htk]; congr 1; omega) (by rw [hX, hD, rcl_len, hsz]; omega)
  have hins := flat_ins rs r i
  have hlins := len_ins rs r i (Nat.le_of_lt hi)
  have h1D := rcl_one (rs.drop i)
  have h1r := rcl_one1 r
  have hDt : ∀ j u, ((rs.drop i).flatMap E.cl)[j]? = some u → w.cell? ((⟨g, i * 7, none⟩ : Addr).add j) = some u := fun j u hj => by
    rw [Addr.add_lit, cell_of_row _ _ _ _ 173 (0, 0) hg]
    rw [← rflat_drop, List.getElem?_drop, ← htk, List.getElem?_take] at hj
    split at hj
    · simpa using hj
    · cases hj
  have hrt : ∀ j u, r.cl[j]? = some u → w.cell? ((⟨vb, 0, none⟩ : Addr).add j) = some u := fun j u hj => by
    rw [Addr.add_lit, Nat.zero_add, cell_of_row _ _ j _ 173 (0, 0) hvb, ← hj]
    simp
  rw [hX, hD, rcl_len, show i * 7 + 7 = (i + 1) * 7 by omega] at hsl
  generalize hDD : (rs.drop i).flatMap E.cl = D at *
  rw [hn] at htk hi hlen hroom hlins ⊢
  have hsB : w.shape? g = some (173, cap * 7) := by unfold World.shape?; rw [hg]; simp [hsz]
  have hsA : w.shape? vb = some (173, 7) := by unfold World.shape?; rw [hvb]; rfl
  have hov : ∀ lb cb, (callFunc 170 #[.slice (some ⟨vb, 0, none⟩) 1 1, .slice (some ⟨g, (i + 1) * 7, none⟩) lb cb]).run Tryz.prog w = .ok (.value (.bool false)) w := fun lb cb => by
    rw [run_callFunc_extern Tryz.func170 (by kernel_rfl) (by kernel_rfl) (by kernel_rfl) (e := Extern.SlicesOverlaps.overlaps #[149, 149] #[4]) (by kernel_rfl),
      Lib.run_overlaps_apart w 149 4 173 Tryz.underlying149 7 Tryz.sizeOf173 ⟨vb, 0, none⟩ ⟨g, (i + 1) * 7, none⟩ 1 1 lb cb hne 173 173 7 (cap * 7) hsA hsB (by omega) (frozen_of_row w vb 0 _ 173 hvb) (frozen_of_row w vb 7 _ 173 hvb)]
    rfl
  have hcp1 : ∀ ty dc sc, (Builtin.copy_ #[149, 149] ty #[.slice (some ⟨g, (i + 1) * 7, none⟩) (n + 1 - (i + 1)) dc, .slice (some ⟨g, i * 7, none⟩) (n + 1 - i) sc]).run Tryz.prog w.drew = .ok (goInt (n - i : Nat)) (w.drew.setRow g (splice cur ((i + 1) * 7) D).toArray) := fun ty dc sc =>
    run_copy_rowk w.drew 149 149 ty 173 7 g ((i + 1) * 7) (n + 1 - (i + 1)) dc ⟨g, i * 7, none⟩ (n + 1 - i) sc cur 173 D (n - i) Tryz.underlying149 hsize hg (by simp only [Nat.min_def]; split <;> omega) hD hDt (by rw [hD, hsz]; omega) h1D
  obtain ⟨W1, hW1⟩ : ∃ W1, W1 = w.drew.setRow g (splice cur ((i + 1) * 7) D).toArray := ⟨_, rfl⟩
  have hg1 : W1.heap[g]? = some (.cells (splice cur ((i + 1) * 7) D).toArray 173 (0, 0)) := by rw [hW1]; exact setRow_heap w.drew g _ _ 173 (0, 0) hg
  have hr1 : ∀ j u, r.cl[j]? = some u → W1.cell? ((⟨vb, 0, none⟩ : Addr).add j) = some u := fun j u hj => by
    rw [hW1, cell_setRow_other _ _ _ _ (by rw [Addr.add_lit]; exact hne)]
    exact hrt j u hj
  have hcp2 : ∀ ty dc, (Builtin.copy_ #[149, 149] ty #[.slice (some ⟨g, i * 7, none⟩) (n + 1 - i) dc, .slice (some ⟨vb, 0, none⟩) 1 1]).run Tryz.prog W1 = .ok (goInt (1 : Nat)) (W1.setRow g (splice (splice cur ((i + 1) * 7) D) (i * 7) r.cl).toArray) := fun ty dc =>
    run_copy_rowk W1 149 149 ty 173 7 g (i * 7) (n + 1 - i) dc ⟨vb, 0, none⟩ 1 1 _ 173 r.cl 1 Tryz.underlying149 hsize hg1 (by simp only [Nat.min_def]; split <;> omega) rfl hr1 (by rw [length_splice _ _ _ (by rw [hD, hsz]; omega), rcl_len, hsz]; omega) h1r
  rw [← hW1] at hcp1
  have hG : w.grownBy W1 (some g) := by rw [hW1]; exact ⟨rfl, rfl, rfl, (by rw [setRow_size]; exact Nat.le_refl _), fun k hk hne => setRow_other w.drew g k _ (fun e => hne (by rw [e]))⟩
  have hfin := setRow_heap W1 g _ (splice (splice cur ((i + 1) * 7) D) (i * 7) r.cl).toArray 173 (0, 0) hg1
  have hG2 := hG.trans (grown_setRow W1 g (splice (splice cur ((i + 1) * 7) D) (i * 7) r.cl).toArray)
  have HZ := Lib.hid (And.intro hsl (And.intro hins (And.intro hlins (And.intro hfin (And.intro hG2 (And.intro hcap (And.intro hBg hn)))))))
  have hin : i < n := hi
  have hin2 : ¬ ((i : Int) = (n : Int)) := by omega
  have hroom2 : ¬ ((cap : Int) < (n : Int) + 1) := by omega
  have hw1 : IntKind.i64.wrap ((i : Int) + 1) = (i : Int) + 1 := by rw [IntKind.wrap_i64]; omega
  have hw2 : IntKind.i64.wrap ((n : Int) + 1) = (n : Int) + 1 := by rw [IntKind.wrap_i64]; omega
  have mixed : Tryz.prog.follows Departure.mixedOrders = true := by kernel_rfl
  have hb1 : (0 : Int) ≤ (i : Int) + 1 := by omega
  have hle : i ≤ n := by omega
  have htn : ((i : Int) + 1).toNat = i + 1 := by omega
  have hb2 : ¬ (cap = i + 1) := by omega
  have hb4 : ¬ (cap = i) := by omega
  have hb3 : (i : Int) ≤ (n : Int) + 1 := by omega
  have hHS := Lib.hid (And.intro hsz (And.intro htk (And.intro hg (And.intro hvb (And.intro hX (And.intro hD (And.intro hXD (And.intro hDt hrt))))))))
  clear hsl hins hlins hfin hG2 hBg hsz htk hg hvb hX hD hXD hDt hrt hG hr1 hg1 hW1 h1D h1r hsA hsB hsize hDD
  obtain ⟨HD1, HD2⟩ := hHS.out.2.2.2.2
  clear HD1 HD2
  go_enter Tryz.func156, Tryz.ntmps156
  go_wp2_with (simp only [hov])
  go_region_law_o (refine step_copy_runI rfl _ _ 149 149 rfl (.slice (some ⟨g, (i + 1) * 7, none⟩) (n + 1 - (i + 1)) (cap - (i + 1))) (.slice (some ⟨g, i * 7, none⟩) (n + 1 - i) (cap - i)) (by simp [Act.eval, Act.put]) (by simp [Act.eval, Act.put]) (hcp1 _ _ _) ?_)
  go_wp2_with (at_builtin; refine wpList_copy_runI _ rfl _ _ 149 149 rfl (.slice (some ⟨g, i * 7, none⟩) (n + 1 - i) (cap - i)) (.slice (some ⟨vb, 0, none⟩) 1 1) rfl rfl (hcp2 _ _) ?_)
  go_ret
  refine ⟨.slice (some ⟨g, 0, none⟩) (n + 1) cap, rfl, ⟨?_, .inr ⟨g, cap, _, ?_, HZ.out.2.2.2.2.2.2.1, HZ.out.2.2.2.1, ?_, HZ.out.2.2.2.2.2.1, ?_, ?_⟩⟩, HZ.out.2.2.2.2.1, Or.inl rfl⟩
  · rw [rflat_len]
  · rw [HZ.out.2.2.1]
  · rw [HZ.out.2.2.1]; exact hroom
  · rw [List.size_toArray, HZ.out.1.2, hHS.out.1]
  · rw [HZ.out.2.2.1, HZ.out.2.1, ← HZ.out.1.1]
    congr 1
    have := HZ.out.2.2.2.2.2.2.2
    omega
theorem alloc_size (W : World) (o : Obj) : (W.alloc o).heap.size = W.heap.size + 1 := by simp
theorem ins_grow (w : World) (B g cap i : Nat) (cur : List Value) (rs : List E) (r : E) (vb : Nat) (hg : w.heap[g]? = some (.cells cur.toArray 173 (0, 0))) (hB : B ≤ w.heap.size) (htk : cur.take (rs.length * 7) = rs.flatMap E.cl)
    (hvb : w.heap[vb]? = some (.cells r.cl.toArray 173 (0, 0))) (hi : i < rs.length) (hlen : rs.length ≤ 1000) (hcap : rs.length ≤ cap) (hroom : cap < rs.length + 1) :
    Calls Tryz.prog 156 #[.slice (some ⟨g, 0, none⟩) rs.length cap, .int .i64 (i : Int), .slice (some ⟨vb, 0, none⟩) 1 1] w (InsSaid w B (.slice (some ⟨g, 0, none⟩) rs.length cap) (rs.take i ++ r :: rs.drop i)) := by
  obtain ⟨i0, hi0, hz0, hz1, hz2⟩ := info_parts info43
  have hsize : (Tryz.prog.info? 173).map (·.size) = some 7 := by kernel_rfl
  obtain ⟨n, hn⟩ : ∃ n, rs.length = n := ⟨_, rfl⟩
  have hX : ((rs.take i).flatMap E.cl).length = i * 7 := by rw [rflat_len, List.length_take]; omega
  have hD : ((rs.drop i).flatMap E.cl).length = (n - i) * 7 := by rw [rflat_len, List.length_drop, hn]
  have hins := flat_ins rs r i
  have hlins := len_ins rs r i (Nat.le_of_lt hi)
  have h1D := rcl_one (rs.drop i)
  have h1r := rcl_one1 r
  have hgw : g < w.heap.size := (Array.getElem?_eq_some_iff.1 hg).1
  have hvw : vb < w.heap.size := (Array.getElem?_eq_some_iff.1 hvb).1
  have hXt : ∀ j u, ((rs.take i).flatMap E.cl)[j]? = some u → w.cell? ((⟨g, 0, none⟩ : Addr).add j) = some u := fun j u hj => by
    rw [Addr.add_lit, Nat.zero_add, cell_of_row _ _ _ _ 173 (0, 0) hg]
    rw [← rflat_take, List.getElem?_take, ← htk, List.getElem?_take] at hj
    split at hj
    · split at hj
      · simpa using hj
      · cases hj
    · cases hj
  have hDt : ∀ j u, ((rs.drop i).flatMap E.cl)[j]? = some u → w.cell? ⟨g, i * 7 + j, none⟩ = some u := fun j u hj => by
    rw [cell_of_row _ _ _ _ 173 (0, 0) hg]
    rw [← rflat_drop, List.getElem?_drop, ← htk, List.getElem?_take] at hj
    split at hj
    · simpa using hj
    · cases hj
  have hrt : ∀ j u, r.cl[j]? = some u → w.cell? ⟨vb, j, none⟩ = some u := fun j u hj => by
    rw [cell_of_row _ _ j _ 173 (0, 0) hvb, ← hj]
    simp
  rw [hn] at htk hi hlen hroom hlins hcap ⊢
  generalize hXX : (rs.take i).flatMap E.cl = X at *
  generalize hDD : (rs.drop i).flatMap E.cl = D at *
  have hold : (Builtin.firstCells i0.size i (.slice (some ⟨g, 0, none⟩) i cap)).run Tryz.prog w.drew = .ok X.toArray w.drew := by
    rw [hz1]
    exact run_firstCells_some w.drew 7 i ⟨g, 0, none⟩ i cap X hX hXt
  have hik : i + (n + 1 - i) = n + 1 := by omega
  obtain ⟨z, hz⟩ : ∃ z : Value, z = .agg #[.int .u32 0, .int .u8 0, .int .i64 0, .int .i64 0, .int .u16 0, .int .u16 0, .int .u64 0] := ⟨_, rfl⟩
  have hzc : z.cells.size = 7 := by rw [hz]; rfl
  rw [← hz] at hz0
  have hkk : (n : Int) + 1 - (i : Int) = ((n + 1 - i : Nat) : Int) := by omega
  have hrz : ∀ ty, (Builtin.append_ #[149, 3] ty #[.slice (some ⟨g, 0, none⟩) i cap, .int .i64 ((n : Int) + 1 - (i : Int))]).run Tryz.prog w =
      .ok (.slice (some ⟨w.heap.size, 0, none⟩) (n + 1) (grownCap w (n + 1) cap 173)) (w.drew.alloc (.cells (X.toArray ++ Builtin.zeroCells z.cells (n + 1 - i) ++ Builtin.zeroCells z.cells (grownCap w (n + 1) cap 173 - (n + 1))) 173)) := fun ty => by
    have h := Lib.run_append_grow_zeros w 149 3 ty 173 i0 _ .i64 .i64 Tryz.underlying149 Tryz.underlying3 hi0 hz0 (some ⟨g, 0, none⟩) i cap X hold (n + 1 - i) (by omega) (by omega) (by omega) (by omega) (by rw [hz2]; omega) (by rw [hz2, hik]; exact growslice_fits (by omega) (by omega))
    rw [hik] at h
    rw [hkk]
    exact h
  obtain ⟨G, hG⟩ : ∃ G, G = grownCap w (n + 1) cap 173 := ⟨_, rfl⟩
  obtain ⟨Z, hZZ⟩ : ∃ Z : List Value, Z = (Builtin.zeroCells z.cells (n + 1 - i)).toList ++ (Builtin.zeroCells z.cells (G - (n + 1))).toList := ⟨_, rfl⟩
  have hGn : n + 1 ≤ G := by rw [hG]; exact grownCap_ge w _ _ _
  have hGm : G ≤ maxLen := by rw [hG]; exact grownCap_le_maxLen w (n + 1) cap 173 (by unfold maxLen; omega)
  have hG63 : G ≤ 9223372036854775807 := by unfold maxLen at hGm; omega
  have hZl : Z.length = (G - i) * 7 := by
    rw [hZZ, List.length_append, Array.length_toList, Array.length_toList, size_zeroCells, size_zeroCells, hzc]; omega
  have hrow : X.toArray ++ Builtin.zeroCells z.cells (n + 1 - i) ++ Builtin.zeroCells z.cells (G - (n + 1)) = (X ++ Z).toArray := by
    rw [hZZ]
    apply Array.ext'
    simp
  rw [← hG, hrow] at hrz
  have hgl := grow_list X r.cl D Z (by rw [hD, hZl, rcl_len]; omega)
  rw [hX, hD, rcl_len, show i * 7 + 7 = (i + 1) * 7 by omega] at hgl
  obtain ⟨W1, hW1⟩ : ∃ W1, W1 = w.drew.alloc (.cells (X ++ Z).toArray 173) := ⟨_, rfl⟩
  rw [← hW1] at hrz
  have hN1 : W1.heap[w.heap.size]? = some (.cells (X ++ Z).toArray 173 (0, 0)) := by rw [hW1]; exact heap_alloc_new w.drew _
  have hold1 : ∀ k, k < w.heap.size → W1.heap[k]? = w.heap[k]? := fun k hk => by rw [hW1]; exact heap_alloc_old w.drew _ hk
  have hs1 : W1.heap.size = w.heap.size + 1 := by rw [hW1]; exact alloc_size _ _
  have hcpA : ∀ ty dc, (Builtin.copy_ #[149, 149] ty #[.slice (some ⟨w.heap.size, i * 7, none⟩) (n + 1 - i) dc, .slice (some ⟨vb, 0, none⟩) 1 1]).run Tryz.prog W1 = .ok (goInt (1 : Nat)) (W1.setRow w.heap.size (splice (X ++ Z) (i * 7) r.cl).toArray) := fun ty dc =>
    run_copy_rowk W1 149 149 ty 173 7 w.heap.size (i * 7) (n + 1 - i) dc ⟨vb, 0, none⟩ 1 1 _ 173 r.cl 1 Tryz.underlying149 hsize hN1 (by simp only [Nat.min_def]; split <;> omega) rfl
      (fun j u hj => by rw [Addr.add_lit, Nat.zero_add, World.cell?_of_block (hold1 vb hvw)]; exact hrt j u hj) (by rw [List.length_append, hX, hZl, rcl_len]; omega) h1r
  obtain ⟨W2, hW2⟩ : ∃ W2, W2 = W1.setRow w.heap.size (splice (X ++ Z) (i * 7) r.cl).toArray := ⟨_, rfl⟩
  rw [← hW2] at hcpA
  have hN2 : W2.heap[w.heap.size]? = some (.cells (splice (X ++ Z) (i * 7) r.cl).toArray 173 (0, 0)) := by rw [hW2]; exact setRow_heap W1 _ _ _ 173 (0, 0) hN1
  have hold2 : ∀ k, k < w.heap.size → W2.heap[k]? = w.heap[k]? := fun k hk => by rw [hW2, setRow_other _ _ _ _ (by omega)]; exact hold1 k hk
  have hl2 : (splice (X ++ Z) (i * 7) r.cl).length = G * 7 := by rw [length_splice _ _ _ (by rw [List.length_append, hX, hZl, rcl_len]; omega), List.length_append, hX, hZl]; omega
  have hcpB : ∀ ty dc sc, (Builtin.copy_ #[149, 149] ty #[.slice (some ⟨w.heap.size, (i + 1) * 7, none⟩) (n + 1 - (i + 1)) dc, .slice (some ⟨g, i * 7, none⟩) (n - i) sc]).run Tryz.prog W2.drew = .ok (goInt (n - i : Nat)) (W2.drew.setRow w.heap.size (splice (splice (X ++ Z) (i * 7) r.cl) ((i + 1) * 7) D).toArray) := fun ty dc sc =>
    run_copy_rowk W2.drew 149 149 ty 173 7 w.heap.size ((i + 1) * 7) (n + 1 - (i + 1)) dc ⟨g, i * 7, none⟩ (n - i) sc _ 173 D (n - i) Tryz.underlying149 hsize hN2 (by simp only [Nat.min_def]; split <;> omega) hD
      (fun j u hj => by rw [Addr.add_lit]; exact (World.cell?_of_block (a := ⟨g, i * 7 + j, none⟩) (hold2 g hgw)).trans (hDt j u hj)) (by rw [hl2, hD]; omega) h1D
  have hN3 := setRow_heap W2.drew w.heap.size _ (splice (splice (X ++ Z) (i * 7) r.cl) ((i + 1) * 7) D).toArray 173 (0, 0) hN2
  have hGB : w.grownBy (W2.drew.setRow w.heap.size (splice (splice (X ++ Z) (i * 7) r.cl) ((i + 1) * 7) D).toArray) (some g) := by
    refine ⟨by rw [hW2, hW1]; rfl, by rw [hW2, hW1]; rfl, by rw [hW2, hW1]; rfl, ?_, fun k hk _ => ?_⟩
    · rw [setRow_size]
      have : W2.heap.size = w.heap.size + 1 := by rw [hW2, setRow_size]; exact hs1
      show w.heap.size ≤ W2.heap.size
      omega
    · rw [setRow_other _ _ _ _ (by omega)]
      exact hold2 k hk
  have hcapn : cap = n := by omega
  have HZ := Lib.hid (And.intro hgl (And.intro hins (And.intro hlins (And.intro hN3 (And.intro hGB (And.intro hGm (And.intro hB (And.intro hX (And.intro hZl (And.intro hGn hD))))))))))
  clear hgl hins hlins hN3 hGB hGm hB hX hZl hold hik hz hzc hz0 hz1 hz2 hi0 hkk hG hZZ hrow hN1 hold1 hs1 hN2 hold2 hl2 hXX hDD hW1 hW2 hXt hDt hrt h1D h1r htk hg hvb hsize hD
  subst hcapn
  have hin2 : ¬ ((i : Int) = (cap : Int)) := by omega
  have hw1 : IntKind.i64.wrap ((i : Int) + 1) = (i : Int) + 1 := by rw [IntKind.wrap_i64]; omega
  have hw2 : IntKind.i64.wrap ((cap : Int) + 1) = (cap : Int) + 1 := by rw [IntKind.wrap_i64]; omega
  have mixed : Tryz.prog.follows Departure.mixedOrders = true := by kernel_rfl
  have hb1 : (0 : Int) ≤ (i : Int) + 1 := by omega
  have hle : i ≤ cap := by omega
  have htn : ((i : Int) + 1).toNat = i + 1 := by omega
  have hb2 : ¬ (G = i + 1) := by omega
  have hb4 : ¬ (cap = i) := by omega
  have hb5 : ¬ (G = i) := by omega
  have hb3 : (i : Int) ≤ (cap : Int) + 1 := by omega
  go_enter Tryz.func156, Tryz.ntmps156
  go_wp2_with (first
    | (at_builtin; refine Lib.wpList_append_run _ rfl _ _ _ _ rfl _ _ rfl rfl _ _ (hrz _) ?_)
    | (at_builtin; refine wpList_copy_runI _ rfl _ _ 149 149 rfl (.slice (some ⟨w.heap.size, i * 7, none⟩) (cap + 1 - i) (G - i)) (.slice (some ⟨vb, 0, none⟩) 1 1) rfl rfl (hcpA _ _) ?_))
  go_region_law_o (refine step_copy_runI rfl _ _ 149 149 rfl (.slice (some ⟨w.heap.size, (i + 1) * 7, none⟩) (cap + 1 - (i + 1)) (G - (i + 1))) (.slice (some ⟨g, i * 7, none⟩) (cap - i) (cap - i)) (by simp [Act.eval, Act.put]) (by simp [Act.eval, Act.put]) (hcpB _ _ _) ?_)
  go_wp2
  go_ret
  refine ⟨.slice (some ⟨w.heap.size, 0, none⟩) (cap + 1) G, rfl, ⟨?_, .inr ⟨w.heap.size, G, _, ?_, HZ.out.2.2.2.2.2.2.1, HZ.out.2.2.2.1, ?_, HZ.out.2.2.2.2.2.1, ?_, ?_⟩⟩, HZ.out.2.2.2.2.1, Or.inr rfl⟩
  · rw [rflat_len]
  · rw [HZ.out.2.2.1]
  · rw [HZ.out.2.2.1]; exact HZ.out.2.2.2.2.2.2.2.2.2.1
  · have h1 := HZ.out.2.2.2.2.2.2.2.1
    have h2 := HZ.out.2.2.2.2.2.2.2.2.1
    rw [List.size_toArray, HZ.out.1.2, List.length_append, h1, h2]
    omega
  · rw [HZ.out.2.2.1, HZ.out.2.1, ← HZ.out.1.1]
    congr 1
    omega
end Go.Proofs.YtjbogjbopgcbhaaGreatDoor.Rts
namespace Go.Proofs.YtjbogjbopgcbhaaGreatDoor.Rts
open Pre Ser
open Go.Proofs.YtjbogjbopgcbhaaGreatDoor.Src (row1 row2)
open Go.ChangeShapes Go.WideShapes Go.ChangeAt Go.RowKit
set_option maxRecDepth 8000
structure Fr (X : Nat → Prop) (w w' : World) : Prop where
  os : w'.os = w.os
  tape : w'.tape = w.tape
  output : w'.output = w.output
  size : w.heap.size ≤ w'.heap.size
  block : ∀ k, k < w.heap.size → ¬ X k → w'.heap[k]? = w.heap[k]?
theorem Fr.refl (X : Nat → Prop) (w : World) : Fr X w w := ⟨rfl, rfl, rfl, Nat.le_refl _, fun _ _ _ => rfl⟩
theorem Fr.of {X : Nat → Prop} {w w' : World} (B : Below w.heap.size w w') : Fr X w w' := ⟨B.os, B.tape, B.output, B.size, fun k hk _ => B.block k hk⟩
theorem Fr.trans {X : Nat → Prop} {w u z : World} (h : Fr X w u) (h' : Fr X u z) : Fr X w z :=
  ⟨h'.os.trans h.os, h'.tape.trans h.tape, h'.output.trans h.output, Nat.le_trans h.size h'.size, fun k hk hx => (h'.block k (Nat.lt_of_lt_of_le hk h.size) hx).trans (h.block k hk hx)⟩
theorem Fr.mono {X Y : Nat → Prop} {w w' : World} (h : Fr X w w') (hx : ∀ k, k < w.heap.size → X k → Y k) : Fr Y w w' := ⟨h.os, h.tape, h.output, h.size, fun k hk hy => h.block k hk fun e => hy (hx k hk e)⟩
theorem Fr.step {X : Nat → Prop} {w u z : World} (h : Fr X w u) (B : Below u.heap.size u z) : Fr X w z := h.trans (Fr.of B)
theorem Fr.below {X : Nat → Prop} {w w' : World} {B : Nat} (h : Fr X w w') (hB : B ≤ w.heap.size) (hx : ∀ k, X k → B ≤ k) : Below B w w' :=
  ⟨h.os, h.tape, h.output, h.size, fun k hk => h.block k (Nat.lt_of_lt_of_le hk hB) fun e => absurd (hx k e) (by omega)⟩
theorem Fr.grown {X : Nat → Prop} {w w' : World} {b : Option Nat} (g : w.grownBy w' b) (hb : ∀ k, b = some k → X k) : Fr X w w' :=
  ⟨g.os, g.tape, g.output, g.size, fun k hk hx => g.block k hk fun e => hx (hb k e.symm)⟩
theorem Fr.row {X : Nat → Prop} {w w' : World} {k : Nat} {o : Obj} (h : Fr X w w') (hr : w.heap[k]? = some o) (hx : ¬ X k) : w'.heap[k]? = some o :=
  (h.block k (Array.getElem?_eq_some_iff.1 hr).1 hx).trans hr
theorem brow {w w' : World} {k : Nat} {o : Obj} (h : Below w.heap.size w w') (hr : w.heap[k]? = some o) : w'.heap[k]? = some o :=
  (h.block k (Array.getElem?_eq_some_iff.1 hr).1).trans hr
structure RtsAt (lo : Nat) (w : World) (q : Nat) (L : List E) (v : Value) : Prop where
  row : w.heap[q]? = some (.cells #[v] 177 (0, 0))
  own : EOwn w lo v L
  ne : v.ownBlock ≠ some q
  le : lo ≤ q
theorem RtsAt.lt {lo : Nat} {w : World} {q : Nat} {L : List E} {v : Value} (h : RtsAt lo w q L v) : q < w.heap.size := (Array.getElem?_eq_some_iff.1 h.row).1
theorem EOwn.fr {w w' : World} {B : Nat} {v : Value} {es : List E} {X : Nat → Prop} (h : EOwn w B v es) (f : Fr X w w') (hx : ∀ b, v.ownBlock = some b → ¬ X b) : EOwn w' B v es := by
  rcases h with ⟨h0, h1 | ⟨g, cap, cur, hv, hB, hg, h2⟩⟩
  · exact ⟨h0, Or.inl h1⟩
  · exact ⟨h0, Or.inr ⟨g, cap, cur, hv, hB, f.row hg (hx g (by rw [hv]; rfl)), h2⟩⟩
theorem RtsAt.fr {lo : Nat} {w w' : World} {q : Nat} {L : List E} {v : Value} {X : Nat → Prop} (h : RtsAt lo w q L v) (f : Fr X w w') (hq : ¬ X q) (hx : ∀ b, v.ownBlock = some b → ¬ X b) : RtsAt lo w' q L v :=
  ⟨f.row h.row hq, h.own.fr f hx, h.ne, h.le⟩
theorem RtsAt.kept {lo : Nat} {w w' : World} {q : Nat} {L : List E} {v : Value} (h : RtsAt lo w q L v) (B : Below w.heap.size w w') : RtsAt lo w' q L v :=
  h.fr (X := fun _ => False) (Fr.of B) (fun h => h) (fun _ _ h => h)
def Xr (q : Nat) (v : Value) : Nat → Prop := fun k => k = q ∨ v.ownBlock = some k
def Later (w : World) (v v' : Value) : Prop := v'.ownBlock = v.ownBlock ∨ ∀ b, v'.ownBlock = some b → w.heap.size ≤ b
theorem nan_any (x : Int) (w : World) : Calls Tryz.prog 153 #[.int .i64 x] w fun e w' => e = .returned (.bool false) ∧ w = w' := by
  go_enter Tryz.func153, Tryz.ntmps153
  go_wp2
  go_ret
  exact ⟨Ser.ret_bool (by simp), rfl⟩
theorem cmpi_any (x y : Nat) (w : World) : Calls Tryz.prog 117 #[.int .i64 x, .int .i64 y] w fun e w' => e = .returned (.int .i64 (cmpV x y)) ∧ w = w' := by
  rcases Nat.lt_trichotomy x y with h | h | h
  · go_enter Tryz.func117, Tryz.ntmps117
    go_wp2_with (go_at_call 153; (with_reducible refine (nan_any _ _).mono ?_); rintro e w1 ⟨rfl, rfl⟩)
    go_ret
    exact ⟨Ser.ret_int (by simp [cmpV, h]), rfl⟩
  · subst h
    go_enter Tryz.func117, Tryz.ntmps117
    go_wp2_with (go_at_call 153; (with_reducible refine (nan_any _ _).mono ?_); rintro e w1 ⟨rfl, rfl⟩)
    go_ret
    exact ⟨Ser.ret_int (by simp [cmpV]), rfl⟩
  · have h2 : ¬ x < y := by omega
    go_enter Tryz.func117, Tryz.ntmps117
    go_wp2_with (go_at_call 153; (with_reducible refine (nan_any _ _).mono ?_); rintro e w1 ⟨rfl, rfl⟩)
    go_ret
    exact ⟨Ser.ret_int (by simp [cmpV, h, h2]), rfl⟩
def ordV (e : E) (a n b : Nat) : Int := orV (cmpP e.a e.n a n) (cmpV e.b b)
theorem ordV_lt {e : E} {a n b : Nat} (h1 : e.n < 256) (h2 : e.b < 16) (h3 : n < 256) (h4 : b < 16) : ordV e a n b < 0 ↔ e.key < key a n b := by
  unfold ordV cmpP orV cmpV E.key
  rw [key_lt h1 h2 h3 h4]
  constructor <;> intro h <;> (repeat' split at h) <;> (try (repeat' split)) <;> omega
theorem ordV_eq {e : E} {a n b : Nat} (h1 : e.n < 256) (h2 : e.b < 16) (h3 : n < 256) (h4 : b < 16) : ordV e a n b = 0 ↔ e.key = key a n b := by
  unfold ordV cmpP orV cmpV E.key
  rw [key_eq h1 h2 h3 h4]
  constructor <;> intro h <;> (repeat' split at h) <;> (try (repeat' split)) <;> omega
end Go.Proofs.YtjbogjbopgcbhaaGreatDoor.Rts
namespace Go.Proofs.YtjbogjbopgcbhaaGreatDoor.Rts
open Pre Ser
open Go.Proofs.YtjbogjbopgcbhaaGreatDoor.Src (row1 row2)
open Go.ChangeShapes Go.WideShapes Go.ChangeAt Go.RowKit
set_option maxRecDepth 8000
theorem row7 {w : World} {b : Nat} {t : TypeId} {x0 x1 x2 x3 x4 x5 x6 : Value} (h : w.heap[b]? = some (.cells #[x0, x1, x2, x3, x4, x5, x6] t (0, 0))) : w.cell? ⟨b, 0, none⟩ = some x0 ∧ w.cell? ⟨b, 1, none⟩ = some x1 ∧ w.cell? ⟨b, 2, none⟩ = some x2 ∧ w.cell? ⟨b, 3, none⟩ = some x3 ∧ w.cell? ⟨b, 4, none⟩ = some x4 ∧ w.cell? ⟨b, 5, none⟩ = some x5 ∧ w.cell? ⟨b, 6, none⟩ = some x6 :=
  ⟨cell_of_row w b 0 _ t (0, 0) h, cell_of_row w b 1 _ t (0, 0) h, cell_of_row w b 2 _ t (0, 0) h, cell_of_row w b 3 _ t (0, 0) h, cell_of_row w b 4 _ t (0, 0) h, cell_of_row w b 5 _ t (0, 0) h, cell_of_row w b 6 _ t (0, 0) h⟩
set_option maxHeartbeats 1000000 in
theorem order_any (w : World) (e : E) (pb yb a n b : Nat) (hp : w.heap[pb]? = some (.cells #[.int .u32 (a : Int), .int .u8 (n : Int)] 30 (0, 0))) (hy : w.heap[yb]? = some (.cells #[.int .i64 (b : Int)] 3 (0, 0))) :
    Calls Tryz.prog 122 #[.agg #[.int .u32 (e.a : Int), .int .u8 (e.n : Int), .int .i64 (e.b : Int), .int .i64 (e.d : Int), .int .u16 (e.s : Int), .int .u16 (e.m : Int), .int .u64 (e.u : Int)], .pointer (some ⟨pb, 0, none⟩), .pointer (some ⟨yb, 0, none⟩)] w fun en w' => en = .returned (.int .i64 (ordV e a n b)) ∧ Below w.heap.size w w' := by
  have h0 := heap_alloc_new w (.cells #[.int .u32 (e.a : Int), .int .u8 (e.n : Int), .int .i64 (e.b : Int), .int .i64 (e.d : Int), .int .u16 (e.s : Int), .int .u16 (e.m : Int), .int .u64 (e.u : Int)] 173)
  have hb0 := (Below.refl w.heap.size w).alloc (Nat.le_refl _) (.cells #[.int .u32 (e.a : Int), .int .u8 (e.n : Int), .int .i64 (e.b : Int), .int .i64 (e.d : Int), .int .u16 (e.s : Int), .int .u16 (e.m : Int), .int .u64 (e.u : Int)] 173)
  go_enter Tryz.func122, Tryz.ntmps122
  go_wp2
  generalize w.alloc _ = w1 at *
  refine wp_region_noPanic ?_
  refine wp_region_held_drew (S := fun x : World => Below w.heap.size w x ∧ x.heap[w.heap.size]? = some (.cells #[.int .u32 (e.a : Int), .int .u8 (e.n : Int), .int .i64 (e.b : Int), .int .i64 (e.d : Int), .int .u16 (e.s : Int), .int .u16 (e.m : Int), .int .u64 (e.u : Int)] 173 (0, 0))) (by kernel_rfl) ⟨hb0.drew, h0⟩ (fun hHeld => ?_)
  generalize w1.drew = wd at *
  refine wpAnyH_take (i := 0) (oi := ⟨some 5, .fieldAddr 173 (.tmp 3) 0, 0, "routes.go:43", #[], none⟩) (v := .pointer (some ⟨w.heap.size, 0, none⟩)) rfl (by kernel_rfl) (by kernel_rfl) (by kernel_rfl) (fun _ _ _ h => h) (Or.inl ⟨by rfl, fun w hSw => by go_simp⟩) (by assumption) ?_
  try simp only [Act.put, List.setIfInBounds_toArray, List.set_cons_zero, List.set_cons_succ]
  refine wpAnyH_take (i := 1) (oi := ⟨some 6, .load 30 (.tmp 5), 30, "routes.go:43", #[⟨0, .data⟩], none⟩) (v := .agg #[.int .u32 (e.a : Int), .int .u8 (e.n : Int)]) rfl (by kernel_rfl) (by kernel_rfl) (by kernel_rfl) (fun _ _ _ h => h) (Or.inl ⟨by rfl, fun w hSw => by obtain ⟨p0, p1, p2, p3, p4, p5, p6⟩ := row7 hSw.2; go_simp⟩) (by assumption) ?_
  try simp only [Act.put, List.setIfInBounds_toArray, List.set_cons_zero, List.set_cons_succ]
  refine wpAnyH_take (i := 2) (oi := ⟨some 7, .load 30 (.tmp 1), 30, "routes.go:43", #[], none⟩) (v := .agg #[.int .u32 (a : Int), .int .u8 (n : Int)]) rfl (by kernel_rfl) (by kernel_rfl) (by kernel_rfl) (fun _ _ _ h => h) (Or.inl ⟨by rfl, fun w hSw => by obtain ⟨p0, p1, -⟩ := row2 (brow hSw.1 hp); go_simp⟩) (by assumption) ?_
  try simp only [Act.put, List.setIfInBounds_toArray, List.set_cons_zero, List.set_cons_succ]
  refine wpAnyH_take (i := 4) (oi := ⟨some 9, .fieldAddr 173 (.tmp 3) 1, 0, "routes.go:43", #[], none⟩) (v := .pointer (some ⟨w.heap.size, 2, none⟩)) rfl (by kernel_rfl) (by kernel_rfl) (by kernel_rfl) (fun _ _ _ h => h) (Or.inl ⟨by rfl, fun w hSw => by go_simp⟩) (by assumption) ?_
  try simp only [Act.put, List.setIfInBounds_toArray, List.set_cons_zero, List.set_cons_succ]
  refine wpAnyH_take (i := 5) (oi := ⟨some 10, .load 3 (.tmp 9), 3, "routes.go:43", #[⟨4, .data⟩], none⟩) (v := .int .i64 (e.b : Int)) rfl (by kernel_rfl) (by kernel_rfl) (by kernel_rfl) (fun _ _ _ h => h) (Or.inl ⟨by rfl, fun w hSw => by obtain ⟨p0, p1, p2, p3, p4, p5, p6⟩ := row7 hSw.2; go_simp⟩) (by assumption) ?_
  try simp only [Act.put, List.setIfInBounds_toArray, List.set_cons_zero, List.set_cons_succ]
  refine wpAnyH_take (i := 6) (oi := ⟨some 11, .load 3 (.tmp 2), 3, "routes.go:43", #[], none⟩) (v := .int .i64 (b : Int)) rfl (by kernel_rfl) (by kernel_rfl) (by kernel_rfl) (fun _ _ _ h => h) (Or.inl ⟨by rfl, fun w hSw => by obtain ⟨p0, -⟩ := row1 (brow hSw.1 hy); go_simp⟩) (by assumption) ?_
  try simp only [Act.put, List.setIfInBounds_toArray, List.set_cons_zero, List.set_cons_succ]
  refine wpAnyH_ready (rs := [3]) (by kernel_rfl) (by simp) ?_
  refine AllReadyH.cons (o := ⟨some 8, .call ⟨.value (.func 50), #[.tmp 6, .tmp 7], #[30, 30]⟩, 3, "routes.go:43", #[⟨1, .data⟩, ⟨2, .data⟩], none⟩) rfl (fun K hK => ?_) AllReadyH.nil
  go_simp
  with_reducible refine (compare_any e.a e.n a n _).mono ?_
  rintro en w3 ⟨rfl, hB⟩
  refine hK.out _ _ (⟨hHeld.1.trans (hB.mono hHeld.1.size), brow hB hHeld.2⟩) (fun hHeld2 => ?_)
  clear hK K hHeld
  have hHeld := hHeld2
  clear hHeld2
  try simp only [Act.put, List.setIfInBounds_toArray, List.set_cons_zero, List.set_cons_succ]
  clear hB
  refine wpAnyH_ready (rs := [7]) (by kernel_rfl) (by simp) ?_
  refine AllReadyH.cons (o := ⟨some 12, .call ⟨.value (.func 117), #[.tmp 10, .tmp 11], #[3, 3]⟩, 3, "routes.go:43", #[⟨5, .data⟩, ⟨6, .data⟩, ⟨3, .chain⟩], none⟩) rfl (fun K hK => ?_) AllReadyH.nil
  go_simp
  with_reducible refine (cmpi_any e.b b _).mono ?_
  rintro en w4 ⟨rfl, rfl⟩
  refine hK.out _ _ (hHeld) (fun hHeld2 => ?_)
  clear hK K hHeld
  have hHeld := hHeld2
  clear hHeld2
  try simp only [Act.put, List.setIfInBounds_toArray, List.set_cons_zero, List.set_cons_succ]
  refine wpAnyH_ready (rs := [8]) (by kernel_rfl) (by simp) ?_
  refine AllReadyH.cons (o := ⟨some 13, .buildSlice 204 2 #[(0, .tmp 8), (1, .tmp 12)], 204, "routes.go:43", #[⟨3, .data⟩, ⟨7, .data⟩], none⟩) rfl (fun K hK => ?_) AllReadyH.nil
  go_simp
  have hB := (Below.refl w3.heap.size w3).alloc (Nat.le_refl _) (.cells #[.int .i64 (cmpP e.a e.n a n), .int .i64 (cmpV e.b b)] 3)
  have HR := Lib.hid (heap_alloc_new w3 (.cells #[.int .i64 (cmpP e.a e.n a n), .int .i64 (cmpV e.b b)] 3))
  refine hK.out _ _ (⟨hHeld.1.trans (hB.mono hHeld.1.size), brow hB hHeld.2⟩) (fun hHeld2 => ?_)
  clear hK K hHeld
  have hHeld := hHeld2
  clear hHeld2
  try simp only [Act.put, List.setIfInBounds_toArray, List.set_cons_zero, List.set_cons_succ]
  clear hB
  generalize w3.alloc _ = w5 at *
  generalize w3.heap.size = z at *
  refine wpAnyH_ready (rs := [9]) (by kernel_rfl) (by simp) ?_
  refine AllReadyH.cons (o := ⟨some 14, .call ⟨.value (.func 96), #[.tmp 13], #[204]⟩, 3, "routes.go:43", #[⟨8, .data⟩, ⟨7, .chain⟩], none⟩) rfl (fun K hK => ?_) AllReadyH.nil
  obtain ⟨c0, c1, -⟩ := row2 HR.out
  go_simp
  with_reducible refine (or_any (cmpP e.a e.n a n) (cmpV e.b b) _ _ c0 c1).mono ?_
  rintro en w6 ⟨rfl, rfl⟩
  refine hK.out _ _ (hHeld) (fun hHeld2 => ?_)
  clear hK K hHeld
  have hHeld := hHeld2
  clear hHeld2
  try simp only [Act.put, List.setIfInBounds_toArray, List.set_cons_zero, List.set_cons_succ]
  refine wpAnyH_take (i := 10) (oi := ⟨some 4, .assign (.tmp 14), 3, "routes.go:43", #[⟨9, .data⟩, ⟨9, .chain⟩, ⟨0, .phase⟩, ⟨1, .phase⟩, ⟨2, .phase⟩, ⟨3, .phase⟩, ⟨4, .phase⟩, ⟨5, .phase⟩, ⟨6, .phase⟩, ⟨7, .phase⟩, ⟨8, .phase⟩, ⟨9, .phase⟩], none⟩) (v := .int .i64 (ordV e a n b)) rfl (by kernel_rfl) (by kernel_rfl) (by kernel_rfl) (fun _ _ _ h => h) (Or.inl ⟨by rfl, fun w hSw => by go_simp; rfl⟩) (by assumption) ?_
  try simp only [Act.put, List.setIfInBounds_toArray, List.set_cons_zero, List.set_cons_succ]
  refine wpAnyH_done (by kernel_rfl) ?_ _
  try unfold NoPanic
  go_wp2
  exact bodyPost_ret (v := .int .i64 (ordV e a n b)) (by simp [results, Tryz.results122, go_sem]) rfl ⟨rfl, hHeld.1⟩
theorem ordV_range (e : E) (a n b : Nat) : ordV e a n b = -1 ∨ ordV e a n b = 0 ∨ ordV e a n b = 1 := by
  unfold ordV cmpP orV cmpV
  (repeat' split) <;> omega
theorem EOwn.rows {w : World} {B : Nat} {v : Value} {es : List E} (h : EOwn w B v es) (hne : 0 < es.length) : ∃ g c cur, v = .slice (some ⟨g, 0, none⟩) es.length c ∧ B ≤ g ∧ w.heap[g]? = some (.cells cur 173 (0, 0)) ∧ es.length ≤ c ∧ c ≤ maxLen ∧ cur.size = c * 7 ∧ cur.toList.take (es.length * 7) = es.flatMap E.cl ∧ ∀ k (hk : k < es.length), EAt w g (k * 7) es[k] := by
  obtain ⟨A, c', hv, hsl, hA⟩ := h.form
  rcases h.2 with ⟨-, h0⟩ | ⟨g, cap, cur, h1, h2, h3, h4, h5, h6, h7⟩
  · omega
  · refine ⟨g, cap, cur, h1, h2, h3, h4, h5, h6, h7, fun k hk => ?_⟩
    obtain ⟨b, o, e, hb, hE⟩ := hsl k hk
    have ho := (hA b o e).2.2.2
    subst ho
    rw [h1] at hv; injection hv with e1 _ _
    rw [← e1] at e; injection e with e; injection e with e _ _
    subst e
    rw [Nat.zero_add] at hE; exact hE
set_option maxHeartbeats 1000000 in
theorem find1_any (w : World) (lo q : Nat) (L : List E) (v : Value) (h : RtsAt lo w q L v) (k : Nat) (hk : k < L.length) (hlen : L.length ≤ 1000) (xo xr pb yb a n b : Nat)
    (ho : w.heap[xo]? = some (.cells #[.func (.func 122) #[] #[.pointer (some ⟨pb, 0, none⟩), .pointer (some ⟨yb, 0, none⟩)]] 187 (0, 0))) (hr : w.heap[xr]? = some (.cells #[.pointer (some ⟨q, 0, none⟩)] 90 (0, 0)))
    (hp : w.heap[pb]? = some (.cells #[.int .u32 (a : Int), .int .u8 (n : Int)] 30 (0, 0))) (hy : w.heap[yb]? = some (.cells #[.int .i64 (b : Int)] 3 (0, 0))) :
    Calls Tryz.prog 169 #[.int .i64 (k : Int), .pointer (some ⟨xo, 0, none⟩), .pointer (some ⟨xr, 0, none⟩)] w fun en w' => en = .returned (.int .i64 (-(ordV L[k] a n b))) ∧ Below w.heap.size w w' := by
  obtain ⟨g, c, cur, rfl, -, h3, h4, h5, -, -, hE0⟩ := h.own.rows (by omega)
  have hE := hE0 k hk
  have hg := (Array.getElem?_eq_some_iff.1 h3).1
  have hq := h.row
  have hrg := ordV_range L[k] a n b
  generalize L[k] = r at *
  clear hE0 h3 h
  have hks : (k : Int) < L.length := by omega
  have hwr : IntKind.i64.wrap (-(ordV r a n b)) = -(ordV r a n b) := by rw [IntKind.wrap_i64]; omega
  have HW := Lib.hid hwr
  clear hwr
  go_enter Tryz.func169, Tryz.ntmps169
  go_wp2
  refine wp_region_noPanic ?_
  refine wp_region_held_drew (S := fun x : World => Below w.heap.size w x) (by kernel_rfl) ((Below.refl _ _).drew) (fun hHeld => ?_)
  generalize w.drew = wd at *
  refine wpAnyH_take (i := 0) (oi := ⟨some 5, .load 187 (.tmp 1), 187, "routes.go:73", #[], none⟩) (v := .func (.func 122) #[] #[.pointer (some ⟨pb, 0, none⟩), .pointer (some ⟨yb, 0, none⟩)]) rfl (by kernel_rfl) (by kernel_rfl) (by kernel_rfl) (fun _ _ _ h => h) (Or.inl ⟨by rfl, fun w hSw => by obtain ⟨p0, -⟩ := row1 (brow hSw ho); go_simp⟩) (by assumption) ?_
  try simp only [Act.put, List.setIfInBounds_toArray, List.set_cons_zero, List.set_cons_succ]
  refine wpAnyH_take (i := 1) (oi := ⟨some 6, .load 90 (.tmp 2), 90, "routes.go:73", #[], none⟩) (v := .pointer (some ⟨q, 0, none⟩)) rfl (by kernel_rfl) (by kernel_rfl) (by kernel_rfl) (fun _ _ _ h => h) (Or.inl ⟨by rfl, fun w hSw => by obtain ⟨p0, -⟩ := row1 (brow hSw hr); go_simp⟩) (by assumption) ?_
  try simp only [Act.put, List.setIfInBounds_toArray, List.set_cons_zero, List.set_cons_succ]
  refine wpAnyH_take (i := 2) (oi := ⟨some 7, .nilCheck (.tmp 6), 0, "routes.go:73", #[⟨1, .data⟩], none⟩) (v := .pointer (some ⟨q, 0, none⟩)) rfl (by kernel_rfl) (by kernel_rfl) (by kernel_rfl) (fun _ _ _ h => h) (Or.inl ⟨by rfl, fun w hSw => by go_simp⟩) (by assumption) ?_
  try simp only [Act.put, List.setIfInBounds_toArray, List.set_cons_zero, List.set_cons_succ]
  refine wpAnyH_take (i := 3) (oi := ⟨some 8, .fieldAddr 177 (.tmp 7) 0, 0, "routes.go:73", #[⟨2, .data⟩], none⟩) (v := .pointer (some ⟨q, 0, none⟩)) rfl (by kernel_rfl) (by kernel_rfl) (by kernel_rfl) (fun _ _ _ h => h) (Or.inl ⟨by rfl, fun w hSw => by go_simp⟩) (by assumption) ?_
  try simp only [Act.put, List.setIfInBounds_toArray, List.set_cons_zero, List.set_cons_succ]
  refine wpAnyH_take (i := 4) (oi := ⟨some 9, .load 149 (.tmp 8), 149, "routes.go:73", #[⟨3, .data⟩], none⟩) (v := .slice (some ⟨g, 0, none⟩) L.length c) rfl (by kernel_rfl) (by kernel_rfl) (by kernel_rfl) (fun _ _ _ h => h) (Or.inl ⟨by rfl, fun w hSw => by obtain ⟨p0, -⟩ := row1 (brow hSw hq); go_simp⟩) (by assumption) ?_
  try simp only [Act.put, List.setIfInBounds_toArray, List.set_cons_zero, List.set_cons_succ]
  refine wpAnyH_take (i := 5) (oi := ⟨some 10, .move (.tmp 0), 3, "routes.go:73", #[], none⟩) (v := .int .i64 (k : Int)) rfl (by kernel_rfl) (by kernel_rfl) (by kernel_rfl) (fun _ _ _ h => h) (Or.inl ⟨by rfl, fun w hSw => by go_simp⟩) (by assumption) ?_
  try simp only [Act.put, List.setIfInBounds_toArray, List.set_cons_zero, List.set_cons_succ]
  refine wpAnyH_take (i := 6) (oi := ⟨some 11, .indexAddr 149 (.tmp 9) (.tmp 10), 0, "routes.go:73", #[⟨4, .data⟩, ⟨5, .data⟩], none⟩) (v := .pointer (some ⟨g, k * 7, none⟩)) rfl (by kernel_rfl) (by kernel_rfl) (by kernel_rfl) (fun _ _ _ h => h) (Or.inl ⟨by rfl, fun w hSw => by go_simp⟩) (by assumption) ?_
  try simp only [Act.put, List.setIfInBounds_toArray, List.set_cons_zero, List.set_cons_succ]
  refine wpAnyH_take (i := 7) (oi := ⟨some 12, .load 173 (.tmp 11), 173, "routes.go:73", #[⟨6, .data⟩], none⟩) (v := .agg #[.int .u32 (r.a : Int), .int .u8 (r.n : Int), .int .i64 (r.b : Int), .int .i64 (r.d : Int), .int .u16 (r.s : Int), .int .u16 (r.m : Int), .int .u64 (r.u : Int)]) rfl (by kernel_rfl) (by kernel_rfl) (by kernel_rfl) (fun _ _ _ h => h) (Or.inl ⟨by rfl, fun w hSw => by obtain ⟨p0, p1, p2, p3, p4, p5, p6⟩ := hE.keep (hSw.block g hg); go_simp⟩) (by assumption) ?_
  try simp only [Act.put, List.setIfInBounds_toArray, List.set_cons_zero, List.set_cons_succ]
  refine wpAnyH_ready (rs := [8]) (by kernel_rfl) (by simp) ?_
  refine AllReadyH.cons (o := ⟨some 13, .call ⟨.value (.tmp 5), #[.tmp 12], #[173]⟩, 3, "routes.go:73", #[⟨0, .data⟩, ⟨7, .data⟩], none⟩) rfl (fun K hK => ?_) AllReadyH.nil
  go_simp
  with_reducible refine (order_any _ r pb yb a n b (brow hHeld hp) (brow hHeld hy)).mono ?_
  rintro en w3 ⟨rfl, hB⟩
  refine hK.out _ _ (hHeld.trans (hB.mono hHeld.size)) (fun hHeld2 => ?_)
  clear hK K hHeld
  have hHeld := hHeld2
  clear hHeld2
  try simp only [Act.put, List.setIfInBounds_toArray, List.set_cons_zero, List.set_cons_succ]
  clear hB
  refine wpAnyH_take (i := 9) (oi := ⟨some 14, .unOp .neg 3 (.tmp 13), 3, "routes.go:73", #[⟨8, .data⟩], none⟩) (v := .int .i64 (-(ordV r a n b))) rfl (by kernel_rfl) (by kernel_rfl) (by kernel_rfl) (fun _ _ _ h => h) (Or.inl ⟨by rfl, fun w hSw => by go_simp; exact HW.out⟩) (by assumption) ?_
  try simp only [Act.put, List.setIfInBounds_toArray, List.set_cons_zero, List.set_cons_succ]
  refine wpAnyH_take (i := 10) (oi := ⟨some 4, .assign (.tmp 14), 3, "routes.go:73", #[⟨9, .data⟩, ⟨8, .chain⟩, ⟨0, .phase⟩, ⟨1, .phase⟩, ⟨2, .phase⟩, ⟨3, .phase⟩, ⟨4, .phase⟩, ⟨5, .phase⟩, ⟨6, .phase⟩, ⟨7, .phase⟩, ⟨8, .phase⟩, ⟨9, .phase⟩], none⟩) (v := .int .i64 (-(ordV r a n b))) rfl (by kernel_rfl) (by kernel_rfl) (by kernel_rfl) (fun _ _ _ h => h) (Or.inl ⟨by rfl, fun w hSw => by go_simp⟩) (by assumption) ?_
  try simp only [Act.put, List.setIfInBounds_toArray, List.set_cons_zero, List.set_cons_succ]
  refine wpAnyH_done (by kernel_rfl) ?_ _
  try unfold NoPanic
  go_wp2
  exact bodyPost_ret (v := .int .i64 (-(ordV r a n b))) (by simp [results, Tryz.results169, go_sem]) rfl ⟨rfl, hHeld⟩
def Parted (L : List E) (x i j : Nat) : Prop := (∀ l (hl : l < L.length), l < i → L[l].key < x) ∧ (∀ l (hl : l < L.length), j ≤ l → x ≤ L[l].key)
theorem Parted.left {L : List E} {x i j h : Nat} (hr : Rising L) (H : Parted L x i j) (hl : h < L.length) (hx : L[h].key < x) : Parted L x (h + 1) j :=
  ⟨fun l hl' hlt => by
    rcases Nat.lt_or_eq_of_le (Nat.lt_succ_iff.1 hlt) with h1 | h1
    · exact Nat.lt_trans (hr.get h1 hl) hx
    · subst h1; exact hx, H.2⟩
theorem Parted.right {L : List E} {x i j h : Nat} (hr : Rising L) (H : Parted L x i j) (hl : h < L.length) (hx : ¬ L[h].key < x) : Parted L x i h :=
  ⟨H.1, fun l hl' hle => by
    rcases Nat.lt_or_eq_of_le hle with h1 | h1
    · have := hr.get h1 hl'; omega
    · subst h1; omega⟩
set_option maxHeartbeats 1000000 in
theorem sfind_any (w : World) (L : List E) (x xo xr : Nat) (c : Nat → Int) (hlen : L.length ≤ 1000) (hr : Rising L)
    (hc : ∀ W, Below w.heap.size w W → ∀ k : Nat, k < L.length → Calls Tryz.prog 169 #[.int .i64 (k : Int), .pointer (some ⟨xo, 0, none⟩), .pointer (some ⟨xr, 0, none⟩)] W fun en w' => en = .returned (.int .i64 (c k)) ∧ Below W.heap.size W w')
    (h1 : ∀ k (hk : k < L.length), 0 < c k ↔ L[k].key < x) (h0 : ∀ k (hk : k < L.length), c k = 0 ↔ L[k].key = x) :
    Calls Tryz.prog 168 #[.int .i64 (L.length : Int), .func (.func 169) #[] #[.pointer (some ⟨xo, 0, none⟩), .pointer (some ⟨xr, 0, none⟩)]] w fun en w' => en = .returned (.tuple #[.int .i64 ((pos x L : Nat) : Int), .bool (there x L)]) ∧ Below w.heap.size w w' := by
  obtain ⟨n, hn⟩ : ∃ n, n = L.length := ⟨_, rfl⟩
  have HC := Lib.hid hc
  have HR := Lib.hid (And.intro hr (And.intro h1 (And.intro h0 hn)))
  rw [← hn] at hlen ⊢
  clear hc hr h1 h0 hn
  go_enter Tryz.func168, Tryz.ntmps168
  go_wp2
  go_loopw [4, 6] (fun i j wr => ∃ i0 : Nat, i = .int .i64 i0 ∧ ∃ j0 : Nat, i0 ≤ j0 ∧ j0 ≤ n ∧ j = .int .i64 j0 ∧ Hid (Parted L x i0 j0 ∧ Below w.heap.size w wr)) (fun i j _ => (intOf j - intOf i).toNat)
  case atStart => exact ⟨0, rfl, n, by omega, by omega, rfl, ⟨fun l hl h => by omega, fun l hl h => by have := HR.out.2.2.2; omega⟩, Below.refl _ _⟩
  case round =>
    obtain ⟨i0, rfl, j0, hij, hjn, rfl, HP⟩ := hrel
    by_cases hlt : i0 < j0
    · obtain ⟨m, hm, hm1, hm2⟩ : ∃ m : Nat, m = (i0 + j0) / 2 ∧ i0 ≤ m ∧ m < j0 := ⟨(i0 + j0) / 2, rfl, by omega, by omega⟩
      have hml : m < L.length := by have := HR.out.2.2.2; omega
      have CC := Lib.hid (HC.out wr HP.out.2 m hml)
      have hk1 := HR.out.2.1 m hml
      have HL := Lib.hid (fun e => HP.out.1.left HR.out.1 hml e)
      have HG := Lib.hid (fun e => HP.out.1.right HR.out.1 hml e)
      have HK := Lib.hid hk1
      clear hk1
      obtain ⟨y, hy⟩ : ∃ y, y = c m := ⟨_, rfl⟩
      rw [← hy] at CC HK
      have e1 : IntKind.i64.wrap ((i0 : Int) + (j0 : Int)) = (i0 : Int) + j0 := by rw [IntKind.wrap_i64]; omega
      have e2 : IntKind.u64.wrap ((i0 : Int) + (j0 : Int)) = (i0 : Int) + j0 := by rw [IntKind.wrap_u64]; omega
      have e3 : ((i0 : Int) + (j0 : Int)) / 2 = (m : Int) := by omega
      have e4 : IntKind.i64.wrap (m : Int) = (m : Int) := by rw [IntKind.wrap_i64]; omega
      clear hy hm
      by_cases hpy : 0 < y
      · have HN := Lib.hid (HL.out (HK.out.1 hpy))
        clear HL HG HK
        go_wp2_with (go_at_call 169; refine CC.out.mono ?_; rintro en w3 ⟨rfl, B3⟩; have H3 := Lib.hid (HP.out.2.trans (B3.mono HP.out.2.size)); clear B3)
        go_roundw
        case rel => exact ⟨m + 1, by go_num, j0, by omega, by omega, rfl, HN.out, H3.out⟩
        case measure => simp [intOf]; omega
      · have HN := Lib.hid (HG.out (fun e => hpy (HK.out.2 e)))
        clear HL HG HK
        go_wp2_with (go_at_call 169; refine CC.out.mono ?_; rintro en w3 ⟨rfl, B3⟩; have H3 := Lib.hid (HP.out.2.trans (B3.mono HP.out.2.size)); clear B3)
        go_roundw
        case rel => exact ⟨i0, rfl, m, by omega, by omega, rfl, HN.out, H3.out⟩
        case measure => simp [intOf]; omega
    · obtain rfl : i0 = j0 := by omega
      have hp : i0 = pos x L := pos_of HR.out.1 (by have := HR.out.2.2.2; omega) HP.out.1.1 HP.out.1.2
      obtain ⟨th, hth⟩ : ∃ th, th = there x L := ⟨_, rfl⟩
      obtain ⟨p, hpp⟩ : ∃ p, p = pos x L := ⟨_, rfl⟩
      rw [← hpp] at hp
      subst hp
      by_cases hin : i0 < n
      · have hml : i0 < L.length := by have := HR.out.2.2.2; omega
        have CC := Lib.hid (HC.out wr HP.out.2 i0 hml)
        have hk0 := HR.out.2.2.1 i0 hml
        obtain ⟨y, hy⟩ : ∃ y, y = c i0 := ⟨_, rfl⟩
        rw [← hy] at CC hk0
        have HTH := Lib.hid (show th = (y == 0) by rw [hth]; unfold there; rw [← hpp, List.getElem?_eq_getElem hml]; simp only []; rw [Bool.eq_iff_iff]; simp [hk0])
        have HPP := Lib.hid (And.intro hpp hth)
        clear hth hpp hk0 hy
        go_wp2_with (go_at_call 169; refine CC.out.mono ?_; rintro en w3 ⟨rfl, B3⟩; have H3 := Lib.hid (HP.out.2.trans (B3.mono HP.out.2.size)); clear B3)
        exact bodyPost_ret (v := .tuple #[.int .i64 (i0 : Int), .bool (y == 0)]) (by simp [results, Tryz.results168, go_sem]) rfl ⟨by rw [← HPP.out.1, ← HPP.out.2, HTH.out], H3.out⟩
      · have HTH := Lib.hid (show th = false by rw [hth]; unfold there; rw [← hpp, List.getElem?_eq_none (by have := HR.out.2.2.2; omega)])
        have HPP := Lib.hid (And.intro hpp hth)
        clear hth hpp
        go_wp2
        exact bodyPost_ret (v := .tuple #[.int .i64 (i0 : Int), .bool false]) (by simp [results, Tryz.results168, go_sem]) rfl ⟨by rw [← HPP.out.1, ← HPP.out.2, HTH.out], HP.out.2⟩
end Go.Proofs.YtjbogjbopgcbhaaGreatDoor.Rts

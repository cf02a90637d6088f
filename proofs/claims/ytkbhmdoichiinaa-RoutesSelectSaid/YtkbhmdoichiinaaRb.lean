/- What is told, in memory. -/
import Derived.Test.YtkbhmdoichiinaaRa
import Derived.Test.YtkbhmdoichiinaaSe
import Derived.Test.YtkbhmdoichiinaaBc
import Derived.Deep.OwnRows
import Derived.Maps.AppendAt
namespace Go.Proofs.Ytkbhmdoichiinaa.Rts
open Pre Ser
open Go.ChangeShapes Go.WideShapes Go.ChangeAt Go.RowKit
set_option maxRecDepth 4000

def E.cl (e : E) : List Value := [.int .u32 (e.a : Int), .int .u8 (e.n : Int), .int .i64 (e.b : Int), .int .i64 (e.d : Int), .int .u16 (e.s : Int), .int .u16 (e.m : Int), .int .u64 (e.u : Int)]
theorem rcl_len (r : E) : r.cl.length = 7 := rfl
theorem rflat_len (rs : List E) : (rs.flatMap E.cl).length = rs.length * 7 := by
  induction rs with
  | nil => rfl
  | cons r rs ih => simp only [List.flatMap_cons, List.length_append, rcl_len, ih, List.length_cons]; omega
theorem rflat_at : ∀ (rs : List E) (k i : Nat) (hk : k < rs.length), i < 7 → (rs.flatMap E.cl)[k * 7 + i]? = (rs[k].cl)[i]?
  | r :: rs, 0, i, _, hi => by
    simp only [List.flatMap_cons, Nat.zero_mul, Nat.zero_add, List.getElem_cons_zero]
    rw [List.getElem?_append_left (by rw [rcl_len]; exact hi)]
  | r :: rs, k + 1, i, hk, hi => by
    simp only [List.flatMap_cons, List.getElem_cons_succ]
    rw [List.getElem?_append_right (by rw [rcl_len]; omega), rcl_len, show (k + 1) * 7 + i - 7 = k * 7 + i by omega]
    exact rflat_at rs k i (by simpa using hk) hi
theorem rflat_take (rs : List E) (k : Nat) : (rs.flatMap E.cl).take (k * 7) = (rs.take k).flatMap E.cl := by
  induction rs generalizing k with
  | nil => simp
  | cons r rs ih =>
    cases k with
    | zero => simp
    | succ k =>
      simp only [List.flatMap_cons, List.take_succ_cons]
      rw [List.take_append, rcl_len, show (k + 1) * 7 - 7 = k * 7 by omega, ih, List.take_of_length_le (by rw [rcl_len]; omega)]
theorem rflat_drop (rs : List E) (k : Nat) : (rs.flatMap E.cl).drop (k * 7) = (rs.drop k).flatMap E.cl := by
  induction rs generalizing k with
  | nil => simp
  | cons r rs ih =>
    cases k with
    | zero => simp
    | succ k =>
      simp only [List.flatMap_cons, List.drop_succ_cons]
      rw [List.drop_append, rcl_len, show (k + 1) * 7 - 7 = k * 7 by omega, ih, List.drop_of_length_le (by rw [rcl_len]; omega)]
      rfl
theorem rcl_one (rs : List E) : ∀ u ∈ rs.flatMap E.cl, u.oneCell' = true := by
  intro u hu
  obtain ⟨r, _, hr⟩ := List.mem_flatMap.1 hu
  simp [E.cl] at hr
  rcases hr with rfl | rfl | rfl | rfl | rfl | rfl | rfl | rfl | rfl | rfl <;> rfl

structure EAt (w : World) (b o : Nat) (r : E) : Prop where
  k0 : w.cell? ⟨b, o, none⟩ = some (.int .u32 (r.a : Int))
  k1 : w.cell? ⟨b, o + 1, none⟩ = some (.int .u8 (r.n : Int))
  k2 : w.cell? ⟨b, o + 2, none⟩ = some (.int .i64 (r.b : Int))
  k3 : w.cell? ⟨b, o + 3, none⟩ = some (.int .i64 (r.d : Int))
  k4 : w.cell? ⟨b, o + 4, none⟩ = some (.int .u16 (r.s : Int))
  k5 : w.cell? ⟨b, o + 5, none⟩ = some (.int .u16 (r.m : Int))
  k6 : w.cell? ⟨b, o + 6, none⟩ = some (.int .u64 (r.u : Int))
theorem EAt.keep {w w' : World} {b o : Nat} {r : E} (h : EAt w b o r) (hb : w'.heap[b]? = w.heap[b]?) : EAt w' b o r := by
  have k : ∀ i, w'.cell? ⟨b, i, none⟩ = w.cell? ⟨b, i, none⟩ := fun i => World.cell?_of_block (a := ⟨b, i, none⟩) hb
  exact ⟨(k _).trans h.k0, (k _).trans h.k1, (k _).trans h.k2, (k _).trans h.k3, (k _).trans h.k4, (k _).trans h.k5, (k _).trans h.k6⟩
def ESl (w : World) (A : Option Addr) (rs : List E) : Prop := ∀ k (hk : k < rs.length), ∃ b o, A = some ⟨b, o, none⟩ ∧ b < w.heap.size ∧ EAt w b (o + k * 7) rs[k]
theorem ESl.keep {w w' : World} {A : Option Addr} {rs : List E} (h : ESl w A rs) (hb : ∀ b o, A = some ⟨b, o, none⟩ → b < w.heap.size → w'.heap[b]? = w.heap[b]?) (hs : w.heap.size ≤ w'.heap.size) : ESl w' A rs := fun k hk => by
  obtain ⟨b, o, e, hlt, hc⟩ := h k hk
  exact ⟨b, o, e, Nat.lt_of_lt_of_le hlt hs, hc.keep (hb b o e hlt)⟩
theorem ESl.below {w w' : World} {A : Option Addr} {rs : List E} (h : ESl w A rs) (B : Below w.heap.size w w') : ESl w' A rs := h.keep (fun b _ _ hb => B.block b hb) B.size
/-- Rows in a slice of the call's own. -/
def EOwn (w : World) (B : Nat) (v : Value) (rs : List E) : Prop := w.ownsRow B 43 7 v rs.length (rs.flatMap E.cl)
theorem EOwn.form {w : World} {B : Nat} {v : Value} {rs : List E} (h : EOwn w B v rs) : ∃ A c, v = .slice A rs.length c ∧ ESl w A rs ∧ (∀ b o, A = some ⟨b, o, none⟩ → v.ownBlock = some b ∧ B ≤ b ∧ b < w.heap.size ∧ o = 0) := by
  rcases h.2 with ⟨hv, hn⟩ | ⟨g, cap, cur, hv, hB, hg, h1, h2, h3, h4⟩
  · have e : rs.length = 0 := hn
    exact ⟨none, 0, by rw [hv, e], fun k hk => absurd hk (by omega), fun _ _ e => (by cases e)⟩
  · refine ⟨some ⟨g, 0, none⟩, cap, hv, fun k hk => ⟨g, 0, rfl, (Array.getElem?_eq_some_iff.1 hg).1, ?_⟩, fun b o e => ?_⟩
    · have hc : ∀ i u, i < 7 → (rs[k].cl)[i]? = some u → w.cell? ⟨g, 0 + k * 7 + i, none⟩ = some u := fun i u hi hu => by
        rw [cell_of_row w g _ cur 43 (0, 0) hg, Nat.zero_add]
        have hx := rflat_at rs k i hk hi
        rw [← h4, List.getElem?_take, if_pos (by omega), hu] at hx
        simpa using hx
      exact ⟨hc 0 _ (by decide) rfl, hc 1 _ (by decide) rfl, hc 2 _ (by decide) rfl, hc 3 _ (by decide) rfl, hc 4 _ (by decide) rfl, hc 5 _ (by decide) rfl, hc 6 _ (by decide) rfl⟩
    · injection e with e; injection e with e1 e2 e3
      subst e1 e2 hv
      exact ⟨rfl, hB, (Array.getElem?_eq_some_iff.1 hg).1, rfl⟩
theorem EOwn.kept {w w' : World} {B : Nat} {v : Value} {rs : List E} (h : EOwn w B v rs) (hb : Below w.heap.size w w') : EOwn w' B v rs :=
  World.ownsRow.kept (row := none) h ⟨hb.os, hb.tape, hb.output, hb.size, fun k hk _ => hb.block k hk⟩ (by cases v.ownBlock <;> simp)
theorem EOwn.keptBut {w w' : World} {B q : Nat} {v : Value} {rs : List E} (h : EOwn w B v rs) (hg : w.grownBy w' (some q)) (hq : v.ownBlock ≠ some q) : EOwn w' B v rs :=
  World.ownsRow.kept (row := some q) h hg (Or.inr hq)
theorem EOwn.nil (w : World) (B : Nat) : EOwn w B (.slice none 0 0) [] := World.ownsRow_nil w B 43 7
end Go.Proofs.Ytkbhmdoichiinaa.Rts

/- Rows of tables in memory. -/
import Derived.Test.YtldaggcopbnehaaKa
import Derived.Test.YtldaggcopbnehaaBu
import Derived.Test.YtldaggcopbnehaaCh
namespace Go.Proofs.Ytldaggcopbnehaa.Tab
open Pre Ser Chg
open Go.ChangeShapes Go.WideShapes Go.ChangeAt Go.RowKit
set_option maxRecDepth 4000

structure RAt (w : World) (b o : Nat) (r : R) : Prop where
  k0 : w.cell? ⟨b, o, none⟩ = some (.int .u32 (r.addr : Int))
  k1 : w.cell? ⟨b, o + 1, none⟩ = some (.int .u8 (r.len : Int))
  k2 : w.cell? ⟨b, o + 2, none⟩ = some (.bool r.has)
  k3 : w.cell? ⟨b, o + 3, none⟩ = some (.int .u32 (r.addr : Int))
  k4 : w.cell? ⟨b, o + 4, none⟩ = some (.int .u8 (r.len : Int))
  k5 : w.cell? ⟨b, o + 5, none⟩ = some (.int .i64 (r.via : Int))
  k6 : w.cell? ⟨b, o + 6, none⟩ = some (.int .u16 (r.metric : Int))
  k7 : w.cell? ⟨b, o + 7, none⟩ = some (.int .u16 (r.seq : Int))
  k8 : w.cell? ⟨b, o + 8, none⟩ = some (.int .u16 (r.ms : Int))
  k9 : w.cell? ⟨b, o + 9, none⟩ = some (.int .u16 (r.mm : Int))
theorem RAt.keep {w w' : World} {b o : Nat} {r : R} (h : RAt w b o r) (hb : w'.heap[b]? = w.heap[b]?) : RAt w' b o r := by
  have k : ∀ i, w'.cell? ⟨b, i, none⟩ = w.cell? ⟨b, i, none⟩ := fun i => World.cell?_of_block (a := ⟨b, i, none⟩) hb
  exact ⟨(k _).trans h.k0, (k _).trans h.k1, (k _).trans h.k2, (k _).trans h.k3, (k _).trans h.k4, (k _).trans h.k5, (k _).trans h.k6, (k _).trans h.k7, (k _).trans h.k8, (k _).trans h.k9⟩
def RSl (w : World) (A : Option Addr) (rs : List R) : Prop := ∀ k (hk : k < rs.length), ∃ b o, A = some ⟨b, o, none⟩ ∧ b < w.heap.size ∧ RAt w b (o + k * 10) rs[k]
theorem RSl.keep {w w' : World} {A : Option Addr} {rs : List R} (h : RSl w A rs) (hb : ∀ b o, A = some ⟨b, o, none⟩ → b < w.heap.size → w'.heap[b]? = w.heap[b]?) (hs : w.heap.size ≤ w'.heap.size) : RSl w' A rs := fun k hk => by
  obtain ⟨b, o, e, hlt, hc⟩ := h k hk
  exact ⟨b, o, e, Nat.lt_of_lt_of_le hlt hs, hc.keep (hb b o e hlt)⟩
theorem RSl.below {w w' : World} {A : Option Addr} {rs : List R} (h : RSl w A rs) (B : Below w.heap.size w w') : RSl w' A rs := h.keep (fun b _ _ hb => B.block b hb) B.size
/-- Rows in a slice of the call's own. -/
def ROwn (w : World) (B : Nat) (v : Value) (rs : List R) : Prop := w.ownsRow B 60 10 v rs.length (rs.flatMap R.cl)
theorem ROwn.form {w : World} {B : Nat} {v : Value} {rs : List R} (h : ROwn w B v rs) : ∃ A c, v = .slice A rs.length c ∧ RSl w A rs ∧ (∀ b o, A = some ⟨b, o, none⟩ → v.ownBlock = some b ∧ B ≤ b ∧ b < w.heap.size ∧ o = 0) := by
  rcases h.2 with ⟨hv, hn⟩ | ⟨g, cap, cur, hv, hB, hg, h1, h2, h3, h4⟩
  · have e : rs.length = 0 := hn
    exact ⟨none, 0, by rw [hv, e], fun k hk => absurd hk (by omega), fun _ _ e => (by cases e)⟩
  · refine ⟨some ⟨g, 0, none⟩, cap, hv, fun k hk => ⟨g, 0, rfl, (Array.getElem?_eq_some_iff.1 hg).1, ?_⟩, fun b o e => ?_⟩
    · have hc : ∀ i u, i < 10 → (rs[k].cl)[i]? = some u → w.cell? ⟨g, 0 + k * 10 + i, none⟩ = some u := fun i u hi hu => by
        rw [cell_of_row w g _ cur 60 (0, 0) hg, Nat.zero_add]
        have hx := rflat_at rs k i hk hi
        rw [← h4, List.getElem?_take, if_pos (by omega), hu] at hx
        simpa using hx
      exact ⟨hc 0 _ (by decide) rfl, hc 1 _ (by decide) rfl, hc 2 _ (by decide) rfl, hc 3 _ (by decide) rfl, hc 4 _ (by decide) rfl, hc 5 _ (by decide) rfl, hc 6 _ (by decide) rfl, hc 7 _ (by decide) rfl, hc 8 _ (by decide) rfl, hc 9 _ (by decide) rfl⟩
    · injection e with e; injection e with e1 e2 e3
      subst e1 e2 hv
      exact ⟨rfl, hB, (Array.getElem?_eq_some_iff.1 hg).1, rfl⟩
theorem ROwn.kept {w w' : World} {B : Nat} {v : Value} {rs : List R} (h : ROwn w B v rs) (hb : Below w.heap.size w w') : ROwn w' B v rs :=
  World.ownsRow.kept (row := none) h ⟨hb.os, hb.tape, hb.output, hb.size, fun k hk _ => hb.block k hk⟩ (by cases v.ownBlock <;> simp)
theorem ROwn.keptBut {w w' : World} {B q : Nat} {v : Value} {rs : List R} (h : ROwn w B v rs) (hg : w.grownBy w' (some q)) (hq : v.ownBlock ≠ some q) : ROwn w' B v rs :=
  World.ownsRow.kept (row := some q) h hg (Or.inr hq)
theorem ROwn.nil (w : World) (B : Nat) : ROwn w B (.slice none 0 0) [] := World.ownsRow_nil w B 60 10
/-- A table in memory. -/
structure TabAt (w : World) (B q : Nat) (t : T) (v : Value) : Prop where
  row : w.heap[q]? = some (.cells #[v, .int .u64 (t.no : Int), .int .u64 (t.time : Int)] 70 (0, 0))
  own : ROwn w B v t.rows
  ne : v.ownBlock ≠ some q
  le : B ≤ q
theorem TabAt.lt {w : World} {B q : Nat} {t : T} {v : Value} (h : TabAt w B q t v) : q < w.heap.size := (Array.getElem?_eq_some_iff.1 h.row).1
theorem TabAt.kept {w w' : World} {B q : Nat} {t : T} {v : Value} (h : TabAt w B q t v) (hb : Below w.heap.size w w') : TabAt w' B q t v :=
  ⟨(hb.block q h.lt).trans h.row, h.own.kept hb, h.ne, h.le⟩
theorem row3 {w : World} {b : Nat} {t : TypeId} {x0 x1 x2 : Value} (h : w.heap[b]? = some (.cells #[x0, x1, x2] t (0, 0))) : w.cell? ⟨b, 0, none⟩ = some x0 ∧ w.cell? ⟨b, 1, none⟩ = some x1 ∧ w.cell? ⟨b, 2, none⟩ = some x2 :=
  ⟨cell_of_row w b 0 _ t (0, 0) h, cell_of_row w b 1 _ t (0, 0) h, cell_of_row w b 2 _ t (0, 0) h⟩
end Go.Proofs.Ytldaggcopbnehaa.Tab

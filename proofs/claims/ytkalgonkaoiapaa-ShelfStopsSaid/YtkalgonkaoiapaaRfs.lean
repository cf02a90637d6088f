/- A shelf and the document's own one, act by act: what both have behind one. -/
import Derived.Test.YtkalgonkaoiapaaRfq
import Derived.Test.YtkalgonkaoiapaaRfr
namespace Go.Proofs.Ytkalgonkaoiapaa.Shf
open Go.ChangeShapes Go.WideShapes Go.ChangeAt Go.RowKit

/-- Three blocks that nobody reads any more. -/
def mark (T : Nat → Tag) (a : Nat) : Nat → Tag := fun b => if a ≤ b ∧ b < a + 3 then .shelf else T b
theorem mark_out {T : Nat → Tag} {a b : Nat} (h : b < a) : mark T a b = T b := by unfold mark; rw [if_neg (by omega)]
theorem mark_none {T : Nat → Tag} {a b : Nat} (h : mark T a b = .none) : ¬ (a ≤ b ∧ b < a + 3) ∧ T b = .none := by
  unfold mark at h
  split at h
  · cases h
  · exact ⟨by assumption, h⟩
theorem mark_some {T : Nat → Tag} {a b : Nat} (h0 : ∀ b, a ≤ b → b < a + 3 → T b = .none) (h : T b ≠ .none) : mark T a b = T b := by
  unfold mark
  split
  · rename_i h1; exact absurd (h0 b h1.1 h1.2) h
  · rfl
theorem mark_file {T : Nat → Tag} {a b : Nat} (h : mark T a b = .file) : T b = .file := by
  unfold mark at h
  split at h
  · cases h
  · exact h
theorem Rep.mark {w : World} {T : Nat → Tag} {q a : Nat} {m : M} (R : Rep w T q m) (h0 : ∀ b, a ≤ b → b < a + 3 → T b = .none) (hs : a + 3 ≤ w.heap.size) : Rep w (mark T a) q m := by
  obtain ⟨⟨nv, sv, mv, nn, ns, R⟩, F⟩ := R
  have k : ∀ {b t}, T b = t → t ≠ .none → Shf.mark T a b = t := fun h hn => (mark_some h0 (by rw [h]; exact hn)).trans h
  refine ⟨⟨nv, sv, mv, nn, ns, R.sh, k R.tq (by intro h; cases h), R.nm, fun b hb => k (R.tn b hb) (by intro h; cases h), R.sf, fun b hb => k (R.ts b hb) (by intro h; cases h), R.mo, fun b hb => k (R.tm b hb) (by intro h; cases h), fun b hb => ?_, fun b hb => ?_,
    fun p hp => k (R.lnow p hp) (by intro h; cases h), fun p hp => k (R.lsafe p hp) (by intro h; cases h), fun v hv => ⟨fun b hb => k ((R.lmov v hv).1 b hb) (by intro h; cases h), (R.lmov v hv).2⟩, R.bnn, R.bns⟩, F⟩
  · obtain ⟨v, h1, h2, h3, h4⟩ := R.fl b (mark_file hb)
    exact ⟨v, h1, h2, fun g hg => k (h3 g hg) (by intro h; cases h), h4⟩
  · unfold Shf.mark at hb
    split at hb
    · omega
    · exact R.old b hb
theorem RXE.keep {w w' : World} {T T' : Nat → Tag} {v : Value} {x : X} (h : RXE w T v x) (K : Keep w T w' T') : RXE w' T' v x := by
  obtain ⟨lv, nv, wv, fs, ws, R⟩ := h
  exact ⟨lv, nv, wv, fs, ws, R.keep K⟩
/-- One block more that the other shelf's data don't lie in. -/
def mkg (T : Nat → Tag) (g : Nat) : Nat → Tag := fun b => if b = g then .shelf else T b
theorem mkg_none {T : Nat → Tag} {g b : Nat} (h : mkg T g b = .none) : b ≠ g ∧ T b = .none := by
  unfold mkg at h
  split at h
  · cases h
  · exact ⟨by assumption, h⟩
theorem mkg_of {T : Nat → Tag} {g b : Nat} (h : b ≠ g) : mkg T g b = T b := if_neg h
theorem keep_weak {w w' : World} {T T' : Nat → Tag} {g : Nat} (K : Keep w T w' T') : Keep w (mkg T g) w' T' := ⟨K.size, fun b h hn => K.block b h (mkg_none hn).2⟩
theorem both_keep {w w1 w2 : World} {T T' : Nat → Tag} {g : Nat} (B1 : Below w.heap.size w w1) (X2 : Ext w1 T w2 T') : Keep w (mkg T g) w2 (mark (mkg T' g) w.heap.size) := by
  have s1 := B1.size
  have s2 := X2.size
  refine ⟨by omega, fun b h hm => ?_⟩
  obtain ⟨h1, hn⟩ := mkg_none hm
  exact ⟨(X2.block b (by omega) hn).trans (B1.block b h), by rw [mark_out h, mkg_of h1, X2.tags b (by omega)]; exact hn⟩
/-- Between the shelf's part and the other's. -/
theorem both_mid {w w1 w2 : World} {T T' : Nat → Tag} {q g : Nat} {m' : M} {xv : Value} {x : X} (RX : RXE w (mkg T g) xv x) (hg : g < w.heap.size) (hT : ∀ b, w.heap.size ≤ b → T b = .none) (B1 : Below w.heap.size w w1) (h1 : w.heap.size + 3 ≤ w1.heap.size) (X2 : Ext w1 T w2 T') (R2 : Rep w2 T' q m') :
    RXE w2 (mark (mkg T' g) w.heap.size) xv x ∧ (∀ b, mark (mkg T' g) w.heap.size b ≠ .none → b < w2.heap.size) ∧ ∀ b, w.heap.size ≤ b → b < w1.heap.size → w2.heap[b]? = w1.heap[b]? ∧ T' b = .none := by
  have s1 := B1.size
  have s2 := X2.size
  have hb : ∀ b, w.heap.size ≤ b → b < w1.heap.size → w2.heap[b]? = w1.heap[b]? ∧ T' b = .none := fun b h h2 => ⟨X2.block b h2 (hT b h), (X2.tags b h2).trans (hT b h)⟩
  refine ⟨RX.keep (both_keep B1 X2), fun b h => ?_, hb⟩
  obtain ⟨⟨nv, sv, mv, nn, ns, RV⟩, F⟩ := R2
  unfold mark mkg at h
  split at h
  · omega
  · split at h
    · omega
    · exact RV.old b h
/-- At the end. -/
theorem both_end {w w1 w2 w3 w4 w5 : World} {T T' : Nat → Tag} {q g : Nat} {m' : M} {xv' : Value} {x' : X} (hT : ∀ b, w.heap.size ≤ b → T b = .none) (B1 : Below w.heap.size w w1) (h1 : w.heap.size + 3 ≤ w1.heap.size) (X2 : Ext w1 T w2 T') (R2 : Rep w2 T' q m')
    (B3 : Below w2.heap.size w2 w3) (RX3 : RXE w3 (mark (mkg T' g) w.heap.size) xv' x') (G4 : w3.grownBy w4 (some w.heap.size)) (G5 : w4.grownBy w5 (some (w.heap.size + 1 + 1))) :
    Rep w5 (mark T' w.heap.size) q m' ∧ RXE w5 (mkg (mark T' w.heap.size) g) xv' x' ∧ Ext w T w5 (mark T' w.heap.size) := by
  have s1 := B1.size
  have s2 := X2.size
  have s3 := B3.size
  have s4 := G4.size
  have s5 := G5.size
  have hn : ∀ b, w.heap.size ≤ b → b < w1.heap.size → T' b = .none := fun b h h2 => (X2.tags b h2).trans (hT b h)
  have R3 := R2.below B3
  have R4 := R3.far (grown_chg G4) (fun b hb h => hb (by rw [h]; exact hn _ (Nat.le_refl _) (by omega)))
  have R5 := R4.far (grown_chg G5) (fun b hb h => hb (by rw [h]; exact hn _ (by omega) (by omega)))
  refine ⟨R5.mark (fun b h h2 => hn b h (by omega)) (by omega), RX3.keep ⟨by omega, fun b h hm => ?_⟩, ?_⟩
  · obtain ⟨h3, _⟩ := mark_none hm
    obtain ⟨h6, h7⟩ := mkg_none (mark_none hm).2
    refine ⟨(G5.block b (by omega) (fun h => by injection h with h; omega)).trans (G4.block b h (fun h => by injection h with h; omega)), ?_⟩
    rw [mkg_of h6]
    unfold mark
    rw [if_neg h3]
    exact h7
  · refine ⟨G5.os.trans (G4.os.trans (B3.os.trans (X2.os.trans B1.os))), G5.tape.trans (G4.tape.trans (B3.tape.trans (X2.tape.trans B1.tape))), G5.output.trans (G4.output.trans (B3.output.trans (X2.output.trans B1.output))), by omega, fun b h => ?_, fun b h h0 => ?_⟩
    · rw [mark_out h, X2.tags b (by omega)]
    · exact (G5.block b (by omega) (fun h => by injection h with h; omega)).trans ((G4.block b (by omega) (fun h => by injection h with h; omega)).trans ((B3.block b (by omega)).trans ((X2.block b (by omega) h0).trans (B1.block b h))))
theorem row5 {w : World} {b : Nat} {t : TypeId} {x0 x1 x2 x3 x4 : Value} (h : w.heap[b]? = some (.cells #[x0, x1, x2, x3, x4] t)) :
    w.cell? ⟨b, 0, none⟩ = some x0 ∧ w.cell? ⟨b, 1, none⟩ = some x1 ∧ w.cell? ⟨b, 2, none⟩ = some x2 ∧ w.cell? ⟨b, 3, none⟩ = some x3 ∧ w.cell? ⟨b, 4, none⟩ = some x4 :=
  ⟨cell_of_row w b 0 _ t (0, 0) h, cell_of_row w b 1 _ t (0, 0) h, cell_of_row w b 2 _ t (0, 0) h, cell_of_row w b 3 _ t (0, 0) h, cell_of_row w b 4 _ t (0, 0) h⟩
end Go.Proofs.Ytkalgonkaoiapaa.Shf

/- What is written over, and nil shelves. -/
import Derived.Test.YtkalgonkaoiapaaRnm
namespace Go.Proofs.Ytkalgonkaoiapaa.Shf
open Go.ChangeShapes Go.WideShapes Go.ChangeAt Go.RowKit

theorem names_nil (w : World) : Calls Try.prog 14 #[.pointer none] w fun e w' => e = .returned (.int .i64 7) ∧ w = w' := by
  go_enter Try.func14, Try.ntmps14
  go_wp2_with (first | (go_at_call 32; refine (act_nil _).mono ?_; rintro e w' ⟨rfl, rfl⟩))
  go_ret
  exact ⟨rfl, rfl⟩
theorem own_ne {w : World} {A : Option Addr} {k c : Nat} {l : List UInt8} (h : Own w (.slice A k c) l) (h0 : 0 < l.length) : ∃ g x, A = some ⟨g, 0, none⟩ ∧ k = l.length ∧ w.cell? ⟨g, 0, none⟩ = some (.int .u8 x) ∧ w.frozen? ⟨g, 0, none⟩ = false ∧ g < w.heap.size := by
  have hf := h.form
  rcases h with ⟨_, rfl⟩ | ⟨g, cap, cur, e, hb, h1, _⟩
  · simp at h0
  · injection e with e1 e2 e3
    subst e1
    obtain ⟨A', c', e', r, _⟩ := hf
    injection e' with e1' e2' e3'
    obtain ⟨ad, e4, hc⟩ := r h0
    rw [← e1'] at e4
    injection e4 with e4
    have h2 := hc 0 h0
    rw [← e4, zero_add'] at h2
    exact ⟨g, _, rfl, e2, h2, frozen_of_row w g 0 _ 5 hb, (Array.getElem?_eq_some_iff.1 hb).1⟩
theorem own_rd {w : World} {A : Option Addr} {k c : Nat} {l : List UInt8} (h : Own w (.slice A k c) l) : Rd w A l := by
  obtain ⟨A', c', e, r, _⟩ := h.form
  injection e with e1 e2 e3
  rw [e1]; exact r
theorem below_of_grown {w w' : World} (h : w.grownBy w' none) : Below w.heap.size w w' := ⟨h.os, h.tape, h.output, h.size, fun k hk => h.block k hk (by simp)⟩
theorem own_new {w : World} {g k c : Nat} (h : (Value.slice (some ⟨g, 0, none⟩) k c).ownBlock = (Value.slice none 0 0).ownBlock ∨ (Value.slice (some ⟨g, 0, none⟩) k c).ownBlock = some w.heap.size) : g = w.heap.size := by
  rcases h with h | h
  · simp [Value.ownBlock] at h
  · simpa [Value.ownBlock] using h
theorem createE_arg (m : M) (name : S) : (m.createE name = 1) ↔ nameOk name = false := by
  unfold M.createE
  cases h : nameOk name
  · simp
  · simp
    split
    · decide
    · split <;> decide
theorem Rep.noneAt {w : World} {T : Nat → Tag} {q : Nat} {m : M} (R : Rep w T q m) {k : Nat} (h : w.heap.size ≤ k) : T k = .none := by
  obtain ⟨⟨nv, sv, mv, nn, ns, RV⟩, _⟩ := R
  cases e : T k with
  | none => rfl
  | _ => exact absurd (RV.old k (by rw [e]; intro h; cases h)) (by omega)
theorem k2read (r : Int) (b : Nat) (p : S) : (K2 r b p).readE [97] = 0 ∧ (K2 r b p).readP [97] = p := by
  have h := st_read r [([97], b)] [] [⟨[], [97], some b⟩] (upd (F1 b) b (p, 0)) p.length 0 2 (name := [97]) (b := b) rfl
  refine ⟨h.1, h.2.trans ?_⟩
  simp [upd]
theorem read_k2 (w : World) (T : Nat → Tag) (q : Nat) (r : Int) (b : Nat) (p : S) (R : Rep w T q (K2 r b p)) : Calls Try.prog 18 #[.pointer (some ⟨q, 0, none⟩), .string ⟨#[97]⟩] w fun e w' =>
    ∃ A k c, e = .returned (.tuple #[.slice A k c, .int .i64 0]) ∧ Hid (k = p.length) ∧ Fresh w' w.heap.size (.slice A k c) p ∧ Below w.heap.size w w' := by
  refine (read_rep w T q _ [97] R (by decide)).mono ?_
  rintro e w' ⟨v, rfl, F, B⟩
  rw [(k2read r b p).1]
  rw [(k2read r b p).2] at F
  obtain ⟨A, c, e, _⟩ := F.1.form
  subst e
  exact ⟨A, p.length, c, rfl, rfl, F, B⟩
theorem below_set {w w' : World} {B g i : Nat} {v : Value} (h : Below B w w') (hg : B ≤ g) : Below B w (w'.setCell ⟨g, i, none⟩ v) :=
  ⟨h.os, h.tape, h.output, Nat.le_trans h.size (chg_set w' g i v).size, fun k hk => (heap_setCell_other w' ⟨g, i, none⟩ k v (by show k ≠ g; omega)).trans (h.block k hk)⟩
theorem size_set (w : World) (g i : Nat) (v : Value) : (w.setCell ⟨g, i, none⟩ v).heap.size = w.heap.size := by simp [World.setCell]
end Go.Proofs.Ytkalgonkaoiapaa.Shf

/- The document's own shelf: a file changed: what is told of it then. -/
import Derived.Test.YtkalgonkaoiapaaRfg
namespace Go.Proofs.Ytkalgonkaoiapaa.Shf
open Go.ChangeShapes Go.WideShapes Go.ChangeAt Go.RowKit

theorem RSl.fil {w : World} {T : Nat → Tag} {A : Option Addr} {n c : Nat} {fs : List (Value × Int)} (h : RSl w T (.slice A n c) 2 fs.length (fs.flatMap filP)) (f : Nat) (hf : f < fs.length) :
    ∃ g, A = some ⟨g, 0, none⟩ ∧ n = fs.length ∧ n ≤ c ∧ g < w.heap.size ∧ ∀ W, Below w.heap.size w W → W.cell? ⟨g, f * 2, none⟩ = some fs[f].1 ∧ W.cell? ⟨g, f * 2 + 1, none⟩ = some (.int .i64 fs[f].2) := by
  obtain ⟨A', c', e, h1, h2, h3, h4⟩ := h
  injection e with e1 e2 e3
  subst e1 e2 e3
  obtain ⟨g, e, i1, i2, i3⟩ := h4 (by rw [filL_len]; omega)
  refine ⟨g, e, rfl, h1, i1, fun W hW => ?_⟩
  obtain ⟨j1, j2⟩ := filL_at fs f hf
  exact ⟨(hW.cell i1).trans (i3 _ _ j1), (hW.cell i1).trans (i3 _ _ j2)⟩
theorem RBy.form {w : World} {T : Nat → Tag} {v : Value} {q : S} (h : RBy w T v q) : ∃ A c, v = .slice A q.length c ∧ q.length ≤ c ∧ (A = none → c = 0) := by
  obtain ⟨A, c, e, h1, h2, _⟩ := h
  exact ⟨A, c, e, h1, h2⟩
theorem RX.change {w w7 w8 : World} {T : Nat → Tag} {v : Value} {x : X} {lv nv wv : Value} {fs : List (Value × Int)} {ws : List Value} (R : RX w T v x lv nv wv fs ws) {lv' pv : Value} {q : S} {z : Int} {f b6 : Nat}
    (hT : ∀ b, w.heap.size ≤ b → T b = .none) (O7 : w7.ownsRow b6 83 2 lv' fs.length ((fs.set f (pv, z)).flatMap filP)) (hb6 : w.heap.size ≤ b6)
    (B8 : Below w.heap.size w w8) (h8 : ∀ b, b6 ≤ b → b < w7.heap.size → w8.heap[b]? = w7.heap[b]?) (hp : RBy w8 T pv q) (room left : Int) (off : Bool) (done : Int) :
    RX w8 T (RfV lv' nv wv room left off done) ⟨x.L.set f (q, z), x.now, x.was, room, left, off, done⟩ lv' nv wv (fs.set f (pv, z)) ws := by
  have R8 := R.keep (Shf.Below.keep B8 T)
  have n2 : RSl w8 T lv' 2 (fs.set f (pv, z)).length ((fs.set f (pv, z)).flatMap filP) := by
    rw [List.length_set]
    exact own_sl (own_move O7 h8) (fun b hb => hT b (Nat.le_trans hb6 hb))
  exact ⟨rfl, n2, R8.by_.set ⟨hp, rfl⟩ f, R8.nm, R8.wa, R8.ol⟩
/-- Each name's file is there. -/
structure X.Good (x : X) : Prop where
  now : ∀ p ∈ x.now, p.2 < x.L.length
  was : ∀ l ∈ x.was, ∀ p ∈ l, p.2 < x.L.length
  some : x.was ≠ []
theorem got_mem {l : List (S × Nat)} {s : S} {f : Nat} (h : get l s = some f) : (s, f) ∈ l := by
  induction l with
  | nil => simp [get] at h
  | cons p l ih =>
    obtain ⟨a, b⟩ := p
    unfold get at h
    split at h
    · rename_i e
      injection h with h
      subst h e
      exact List.mem_cons_self ..
    · exact List.mem_cons_of_mem _ (ih h)
end Go.Proofs.Ytkalgonkaoiapaa.Shf

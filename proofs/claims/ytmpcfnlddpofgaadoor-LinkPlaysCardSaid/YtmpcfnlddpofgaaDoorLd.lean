/- Links: a link of the law's own; the document's example. -/
import Derived.Test.YtmpcfnlddpofgaaDoorLc
namespace Go.Proofs.YtmpcfnlddpofgaaDoor.Lk
open Go.ChangeShapes Go.WideShapes Go.ChangeAt Go.RowKit
set_option linter.unusedVariables false

/-- A link that was made since w0. -/
structure In (w0 w : World) (q : Nat) (l : L) : Prop where
  at' : LkAt w q l
  below : Below w0.heap.size w0 w
  le : w0.heap.size ≤ q
  tab : Tab w0
theorem In.tabw {w0 w : World} {q : Nat} {l : L} (h : In w0 w q l) : Tab w := tab_below h.tab h.below (tab_size h.tab)
theorem In.grown {w0 w w' : World} {q : Nat} {l l' : L} (h : In w0 w q l) (ha : LkAt w' q l') (hg : w.grownBy w' (some q)) : In w0 w' q l' := ⟨ha, below_grown h.below hg h.le, h.le, h.tab⟩
theorem In.drew {w0 w : World} {q : Nat} {l : L} (h : In w0 w q l) (n : Nat) : In w0 (w.drewN n) q l := ⟨h.at', below_grown h.below (grown_drewN w n (some q)) h.le, h.le, h.tab⟩
theorem in_new {w0 w : World} (hb : Below w0.heap.size w0 w) (hT : Tab w0) (now : Nat) (hnow : now ≤ 4611686018427387000) :
    Calls Tryd.prog 9 #[.int .u64 now] w fun e w' => e = .returned (.pointer (some ⟨w.heap.size, 0, none⟩)) ∧ In w0 w' w.heap.size (L.new now) :=
  (new_any now hnow w).mono fun _ _ h => ⟨h.1, h.2.1, bstep hb h.2.2, hb.size, hT⟩
theorem in_hello {w0 w : World} {q : Nat} {l : L} (h : In w0 w q l) (hok : l.Ok) (n now : Nat) (hn : n ≤ 4611686018427387904) (hnow : now ≤ 4611686018427387000) :
    Calls Tryd.prog 10 #[.pointer (some ⟨q, 0, none⟩), .int .u64 n, .int .u64 now] w fun e w' => e = .returned (.tuple #[]) ∧ In w0 w' q (l.hello n now) :=
  (hello_any w q l n now h.at' hok h.tabw hn hnow).mono fun _ _ k => ⟨k.1, h.grown k.2.1 k.2.2⟩
theorem in_heard {w0 w : World} {q : Nat} {l : L} (h : In w0 w q l) (cost now : Nat) (hc : cost < 65536) (hnow : now ≤ 4611686018427387000) :
    Calls Tryd.prog 11 #[.pointer (some ⟨q, 0, none⟩), .int .u16 cost, .int .u64 now] w fun e w' => e = .returned (.tuple #[]) ∧ In w0 w' q (l.heard cost now) :=
  (heard_any w q l cost now h.at' hc hnow).mono fun _ _ k => ⟨k.1, h.grown k.2.1 k.2.2⟩
theorem in_tick {w0 w : World} {q : Nat} {l : L} (h : In w0 w q l) (hok : l.Ok) (now : Nat) (hnow : now ≤ 4611686018427387000) :
    Calls Tryd.prog 12 #[.pointer (some ⟨q, 0, none⟩), .int .u64 now] w fun e w' => e = .returned (.tuple #[]) ∧ ∃ k, Hid (Ticked l now k ∧ In w0 w' q (l.after k now)) :=
  (tick_any w q l now h.at' hok hnow).mono fun _ _ ⟨e, k, ht, ha, hg⟩ => ⟨e, k, Lib.hid ⟨ht, h.grown ha hg⟩⟩
theorem in_receives {w0 w : World} {q : Nat} {l : L} (h : In w0 w q l) (hok : l.Ok) (r : Nat) (hr : r = recv l.c) :
    Calls Tryd.prog 13 #[.pointer (some ⟨q, 0, none⟩)] w fun e w' => e = .returned (.int .u16 (r : Nat)) ∧ In w0 w' q l :=
  (receives_any w q l h.at' hok.c).mono fun _ _ ⟨e, n, hn⟩ => ⟨by rw [hr]; exact e, by rw [hn]; exact h.drew n⟩
theorem in_cost {w0 w : World} {q : Nat} {l : L} (h : In w0 w q l) (hok : l.Ok) (r : Nat) (hr : r = l.cost) :
    Calls Tryd.prog 14 #[.pointer (some ⟨q, 0, none⟩)] w fun e w' => e = .returned (.int .u16 (r : Nat)) ∧ In w0 w' q l :=
  (cost_any w q l h.at' hok.c).mono fun _ _ ⟨e, n, hn⟩ => ⟨by rw [hr]; exact e, by rw [hn]; exact h.drew n⟩
theorem in_alive {w0 w : World} {q : Nat} {l : L} (h : In w0 w q l) (b : Bool) (hb : b = decide (l.c ≠ 0)) :
    Calls Tryd.prog 15 #[.pointer (some ⟨q, 0, none⟩)] w fun e w' => e = .returned (.bool b) ∧ In w0 w' q l :=
  (alive_any w q l h.at' b hb).mono fun _ _ ⟨e, hn⟩ => ⟨e, hn ▸ h⟩

theorem tz_0 : tz 0 = 16 := by decide
theorem tz_1 : tz 1 = 0 := by decide
theorem awake_any (w : World) (hT : Tab w) : Calls Tryd.prog 8 #[] w fun e w' => e = .returned (.bool true) ∧ Below w.heap.size w w' := by
  have c9 := in_new (w0 := w) (Below.refl _ w) hT 0 (by omega)
  have e1 : (L.new 0).hello 0 1 = ⟨1, 0, 7, 65535, 0⟩ := by
    unfold L.hello L.steps L.new; rw [tz_0]; rfl
  have e2 : L.hello ⟨1, 0, 7, 65535, 0⟩ 1 3 = ⟨3, 1, 9, 65535, 0⟩ := by
    unfold L.hello L.steps; simp only [tz_1]; rfl
  have e3 : L.heard ⟨3, 1, 9, 65535, 0⟩ 96 3 = ⟨3, 1, 9, 96, 23⟩ := rfl
  have c10 := fun w' (h : In w w' w.heap.size (L.new 0)) => in_hello h (by constructor <;> decide) 0 1 (by omega) (by omega)
  have c10b := fun w' (h : In w w' w.heap.size ⟨1, 0, 7, 65535, 0⟩) => in_hello h (by constructor <;> decide) 1 3 (by omega) (by omega)
  have c13 := fun w' (h : In w w' w.heap.size ⟨3, 1, 9, 65535, 0⟩) => in_receives h (by constructor <;> decide) 96 (by decide)
  have c11 := fun w' (h : In w w' w.heap.size ⟨3, 1, 9, 65535, 0⟩) => in_heard h 96 3 (by omega) (by omega)
  have c14 := fun w' (h : In w w' w.heap.size ⟨3, 1, 9, 96, 23⟩) => in_cost h (by constructor <;> decide) 96 (by decide)
  rw [e1] at c10
  rw [e2] at c10b
  rw [e3] at c11
  have C10 := Lib.hid c10
  have C10b := Lib.hid c10b
  have C13 := Lib.hid c13
  have C11 := Lib.hid c11
  have C14 := Lib.hid c14
  clear e1 e2 e3 c10 c10b c13 c11 c14
  go_enter Tryd.func8, Tryd.ntmps8
  go_wp2_with fail
  refine c9.mono ?_
  rintro e w1 ⟨rfl, h1⟩
  have H1 := Lib.hid h1
  clear h1
  go_wp2_with fail
  refine (C10.out _ H1.out).mono ?_
  rintro e w2 ⟨rfl, h1⟩
  have H2 := Lib.hid h1
  clear h1
  go_wp2_with fail
  refine (C10b.out _ H2.out).mono ?_
  rintro e w3 ⟨rfl, h1⟩
  have H3 := Lib.hid h1
  clear h1
  go_wp2_with fail
  refine (C13.out _ H3.out).mono ?_
  rintro e w4 ⟨rfl, h1⟩
  have H4 := Lib.hid h1
  clear h1
  go_wp2_with fail
  refine (C11.out _ H4.out).mono ?_
  rintro e w5 ⟨rfl, h1⟩
  have H5 := Lib.hid h1
  clear h1
  go_wp2_with fail
  refine (C14.out _ H5.out).mono ?_
  rintro e w6 ⟨rfl, h1⟩
  have H6 := Lib.hid h1
  clear h1
  go_wp2
  go_ret
  exact ⟨rfl, H6.out.below⟩
end Go.Proofs.YtmpcfnlddpofgaaDoor.Lk

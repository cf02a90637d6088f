/- What becomes of a shelf's names: lose, do. -/
import Derived.Test.YtkalgonkaoiapaaShb
namespace Go.Proofs.Ytkalgonkaoiapaa.Shf
open Go.ChangeShapes Go.WideShapes Go.ChangeAt Go.RowKit

/-- All that stood is as it was, but for some blocks. -/
structure Chg (w w' : World) (R : Nat → Prop) : Prop where
  os : w'.os = w.os
  tape : w'.tape = w.tape
  output : w'.output = w.output
  size : w.heap.size ≤ w'.heap.size
  block : ∀ k, k < w.heap.size → ¬ R k → w'.heap[k]? = w.heap[k]?
theorem Chg.refl (w : World) (R : Nat → Prop) : Chg w w R := ⟨rfl, rfl, rfl, Nat.le_refl _, fun _ _ _ => rfl⟩
theorem Chg.trans {a b c : World} {R : Nat → Prop} (h : Chg a b R) (k : Chg b c R) : Chg a c R :=
  ⟨k.os.trans h.os, k.tape.trans h.tape, k.output.trans h.output, Nat.le_trans h.size k.size, fun i hi hn => (k.block i (Nat.lt_of_lt_of_le hi h.size) hn).trans (h.block i hi hn)⟩
/-- Behind a step that may also write what is new since. -/
theorem Chg.andThen {a b c : World} {R R' : Nat → Prop} (h : Chg a b R) (k : Chg b c R') (hr : ∀ i, i < a.heap.size → R' i → R i) : Chg a c R :=
  ⟨k.os.trans h.os, k.tape.trans h.tape, k.output.trans h.output, Nat.le_trans h.size k.size, fun i hi hn => (k.block i (Nat.lt_of_lt_of_le hi h.size) (fun hr' => hn (hr i hi hr'))).trans (h.block i hi hn)⟩
theorem Chg.wide {a b : World} {R R' : Nat → Prop} (h : Chg a b R) (hr : ∀ i, i < a.heap.size → R i → R' i) : Chg a b R' := ⟨h.os, h.tape, h.output, h.size, fun i hi hn => h.block i hi (fun h' => hn (hr i hi h'))⟩
theorem Chg.drew {a b : World} {R : Nat → Prop} (h : Chg a b R) : Chg a b.drew R := ⟨h.os, h.tape, h.output, h.size, h.block⟩
theorem chg_grown {a b : World} {row : Option Nat} (h : a.grownBy b row) : Chg a b (fun k => row = some k) := ⟨h.os, h.tape, h.output, h.size, fun i hi hn => h.block i hi (fun e => hn e.symm)⟩
theorem chg_alloc (w : World) (o : Obj) (R : Nat → Prop) : Chg w (w.alloc o) R := ⟨rfl, rfl, rfl, by simp, fun i hi _ => Below.heap_alloc w o i hi⟩
theorem chg_set (w : World) (q i : Nat) (v : Value) : Chg w (w.setCell ⟨q, i, none⟩ v) (fun k => k = q) := (chg_grown (grown_set w q i v)).wide (fun i _ h => by injection h with h; exact h.symm)
theorem Chg.below {a b : World} {R : Nat → Prop} {B : Nat} (h : Chg a b R) (hB : B ≤ a.heap.size) (hr : ∀ k, R k → B ≤ k) : Below B a b := ⟨h.os, h.tape, h.output, h.size, fun k hk => h.block k (Nat.lt_of_lt_of_le hk hB) (fun h' => Nat.lt_irrefl _ (Nat.lt_of_lt_of_le hk (hr k h')))⟩

theorem NM.at {w w' : World} {b n : Nat} {l : List (S × Nat)} (h : NM w b n l) (e : w'.heap[b]? = w.heap[b]?) : NM w' b n l := by
  obtain ⟨D, ⟨es, clock, hb, h1⟩, h2⟩ := h
  exact ⟨D, ⟨es, clock, e.trans hb, h1⟩, h2⟩
theorem NMv.at {w w' : World} {v : Value} {n : Nat} {l : List (S × Nat)} {R : Nat → Prop} (h : NMv w v n l) (hc : Chg w w' R) (hn : ∀ b, mapBlock v = some b → ¬ R b) : NMv w' v n l := by
  rcases h with h | ⟨b, rfl, h⟩
  · exact Or.inl h
  · exact Or.inr ⟨b, rfl, h.at (hc.block b h.lt (hn b rfl))⟩
theorem NMv.mono {w : World} {v : Value} {n n' : Nat} {l : List (S × Nat)} (h : NMv w v n l) (hn : n ≤ n') : NMv w v n' l := by
  rcases h with h | ⟨b, rfl, h⟩
  · exact Or.inl h
  · exact Or.inr ⟨b, rfl, h.mono hn⟩
theorem Own.at {w w' : World} {v : Value} {l : List UInt8} {R : Nat → Prop} (h : Own w v l) (hc : Chg w w' R) (hn : ∀ b, v.ownBlock = some b → ¬ R b) : Own w' v l := by
  rcases h with h | ⟨g, cap, cur, rfl, hb, h⟩
  · exact Or.inl h
  · exact Or.inr ⟨g, cap, cur, rfl, (hc.block g (Array.getElem?_eq_some_iff.1 hb).1 (hn g rfl)).trans hb, h⟩
theorem FlAt.at {w w' : World} {b : Nat} {v : Value} {s : Nat} {R : Nat → Prop} (h : FlAt w b v s) (hc : Chg w w' R) (hn : ¬ R b) : FlAt w' b v s := (hc.block b h.lt hn).trans h
theorem ShAt.at {w w' : World} {q : Nat} {m : M} {nv sv mv : Value} {R : Nat → Prop} (h : ShAt w q m nv sv mv) (hc : Chg w w' R) (hn : ¬ R q) : ShAt w' q m nv sv mv := (hc.block q h.lt hn).trans h

def mvC (v : Mv) : List Value := [.string (str v.fr), .string (str v.to), ptrV v.f]
/-- What was done to names, in memory. -/
def MvAt (w : World) (mv : Value) (l : List Mv) : Prop := w.ownsRow 0 67 3 mv l.length (l.flatMap mvC)
theorem MvAt.at {w w' : World} {v : Value} {l : List Mv} {R : Nat → Prop} (h : MvAt w v l) (hc : Chg w w' R) (hn : ∀ b, v.ownBlock = some b → ¬ R b) : MvAt w' v l := by
  obtain ⟨h1, h2⟩ := h
  refine ⟨h1, ?_⟩
  rcases h2 with h2 | ⟨g, cap, cur, rfl, hb, hg, h3⟩
  · exact Or.inl h2
  · exact Or.inr ⟨g, cap, cur, rfl, hb, (hc.block g (Array.getElem?_eq_some_iff.1 hg).1 (hn g rfl)).trans hg, h3⟩
theorem MvAt.lt {w : World} {v : Value} {l : List Mv} (h : MvAt w v l) : ∀ b, v.ownBlock = some b → b < w.heap.size := fun b hb => (World.ownsRow.lt h b hb).2

theorem grown_dset (w : World) (q i : Nat) (v : Value) : w.grownBy (w.drew.setCell ⟨q, i, none⟩ v) (some q) :=
  ⟨rfl, rfl, rfl, (grown_set w.drew q i v).size, fun k _ hne => (heap_setCell_other w.drew ⟨q, i, none⟩ k v (fun e => hne (by rw [e]))).trans rfl⟩
theorem chg_dset (w : World) (q i : Nat) (v : Value) : Chg w (w.drew.setCell ⟨q, i, none⟩ v) (fun k => k = q) := (chg_grown (grown_dset w q i v)).wide (fun i _ h => by injection h with h; exact h.symm)
def M.lose (m : M) (name : S) : M := match get m.now name with
  | none => m
  | some b => {m with named := m.named - (m.fl b).1.length, gone := m.gone + (m.fl b).1.length}
set_option maxRecDepth 4000 in
theorem lose_any (w : World) (q : Nat) (m : M) (nv sv mv : Value) (n : Nat) (name : S) (h : ShAt w q m nv sv mv) (hn : NMv w nv n m.now) (hl : name.length ≤ 1000000)
    (hf : ∀ b, get m.now name = some b → b ≠ q ∧ (∃ v, FlAt w b v (m.fl b).2 ∧ Own w v (m.fl b).1) ∧ (m.fl b).1.length ≤ m.named) (hb : m.named + m.gone ≤ 1000000000000) :
    Calls Try.prog 50 #[.pointer (some ⟨q, 0, none⟩), .string (str name)] w fun e w' => e = .returned (.tuple #[]) ∧ ShAt w' q (m.lose name) nv sv mv ∧ w.grownBy w' (some q) := by
  have hk := hn.look hl
  have h1 : w.cell? ⟨q, 1, none⟩ = some nv := h.cell 1
  have h4 : w.cell? ⟨q, 4, none⟩ = some (.int .i64 (m.named : Int)) := h.cell 4
  have h5 : w.cell? ⟨q, 5, none⟩ = some (.int .i64 (m.gone : Int)) := h.cell 5
  have f4 := h.fz 4
  have f5 := h.fz 5
  have HH := Lib.hid h
  clear hn h
  obtain ⟨nm, hnm⟩ : ∃ nm, nm = str name := ⟨_, rfl⟩
  rw [← hnm] at hk ⊢
  cases hg : get m.now name with
  | none =>
    rw [hg] at hk
    rw [show m.lose name = m by simp [M.lose, hg]]
    simp only [ptrV] at hk
    clear hg hf hnm
    go_enter Try.func50, Try.ntmps50
    go_wp2
    go_returns
    exact ⟨rfl, HH.out, World.grownBy.refl _ _⟩
  | some b =>
    rw [hg] at hk
    simp only [ptrV] at hk
    obtain ⟨hbq, ⟨v, hF, hO⟩, hle⟩ := hf b hg
    have hL : m.lose name = {m with named := m.named - (m.fl b).1.length, gone := m.gone + (m.fl b).1.length} := by simp [M.lose, hg]
    rw [hL]
    obtain ⟨A, c, rfl, _, _, _, _⟩ := hO.form
    have d0 := hF.cell0
    generalize hlen : (m.fl b).1.length = k at *
    have hw1 : IntKind.i64.wrap ((m.named : Int) - (k : Int)) = ((m.named - k : Nat) : Int) := by rw [IntKind.wrap_i64] <;> omega
    have hw2 : IntKind.i64.wrap ((m.gone : Int) + (k : Int)) = ((m.gone + k : Nat) : Int) := by rw [IntKind.wrap_i64] <;> omega
    have HS := Lib.hid ((HH.out.set (m' := {m with named := m.named - k}) (nv' := nv) (sv' := sv) (mv' := mv) 4 (.int .i64 ((m.named - k : Nat) : Int)) rfl).set (m' := {m with named := m.named - k, gone := m.gone + k}) (nv' := nv) (sv' := sv) (mv' := mv) 5 (.int .i64 ((m.gone + k : Nat) : Int)) rfl)
    have HG := Lib.hid ((grown_set w q 4 (.int .i64 ((m.named - k : Nat) : Int))).trans (grown_set _ q 5 (.int .i64 ((m.gone + k : Nat) : Int))))
    clear hg hf hnm hF hO hL hlen
    go_enter Try.func50, Try.ntmps50
    go_wp2
    refine wp_region_still_tail 12 (by kernel_rfl) (by kernel_rfl) ?_
    simp only [List.take_succ_cons, List.take_zero, List.drop_succ_cons, List.drop_zero]
    change wpStill _ _ w.drew (fun a' => wpList _ _ _ _ a' w.drew) _ _
    have h4 : w.drew.cell? ⟨q, 4, none⟩ = some (.int .i64 (m.named : Int)) := h4
    have h5 : w.drew.cell? ⟨q, 5, none⟩ = some (.int .i64 (m.gone : Int)) := h5
    have d0 : w.drew.cell? ⟨b, 0, none⟩ = _ := d0
    have f4 : w.drew.frozen? ⟨q, 4, none⟩ = false := f4
    have f5 : w.drew.frozen? ⟨q, 5, none⟩ = false := f5
    have G1 : w.grownBy (w.drew.setCell ⟨q, 4, none⟩ (.int .i64 ((m.named - k : Nat) : Int))) (some q) := grown_dset w q 4 _
    have S1 : ShAt (w.drew.setCell ⟨q, 4, none⟩ (.int .i64 ((m.named - k : Nat) : Int))) q {m with named := m.named - k} nv sv mv := (show ShAt w.drew q m nv sv mv from HH.out).set 4 _ rfl
    have c5 : (w.drew.setCell ⟨q, 4, none⟩ (.int .i64 ((m.named - k : Nat) : Int))).drew.cell? ⟨q, 5, none⟩ = some (.int .i64 (m.gone : Int)) := S1.cell 5
    have e5 : (w.drew.setCell ⟨q, 4, none⟩ (.int .i64 ((m.named - k : Nat) : Int))).drew.frozen? ⟨q, 5, none⟩ = false := S1.fz 5
    have e0 : (w.drew.setCell ⟨q, 4, none⟩ (.int .i64 ((m.named - k : Nat) : Int))).drew.cell? ⟨b, 0, none⟩ = some (.slice A k c) := (World.cell?_of_block (heap_setCell_other _ _ b _ hbq)).trans d0
    have G2 : w.grownBy ((w.drew.setCell ⟨q, 4, none⟩ (.int .i64 ((m.named - k : Nat) : Int))).drew.setCell ⟨q, 5, none⟩ (.int .i64 ((m.gone + k : Nat) : Int))) (some q) := G1.trans (grown_dset _ q 5 _)
    have S2 : ShAt ((w.drew.setCell ⟨q, 4, none⟩ (.int .i64 ((m.named - k : Nat) : Int))).drew.setCell ⟨q, 5, none⟩ (.int .i64 ((m.gone + k : Nat) : Int))) q {m with named := m.named - k, gone := m.gone + k} nv sv mv := (show ShAt (w.drew.setCell ⟨q, 4, none⟩ (.int .i64 ((m.named - k : Nat) : Int))).drew q _ nv sv mv from S1).set 5 _ rfl
    have G2 := Lib.hid G2
    have S2 := Lib.hid S2
    clear G1 S1
    generalize w.drew = wd at *
    generalize ((m.named - k : Nat) : Int) = x1 at *
    generalize ((m.gone + k : Nat) : Int) = x2 at *
    repeat still_step
    refine wpStill_nil ?_
    go_wp2
    refine wp_region_still_tail 12 (by kernel_rfl) (by kernel_rfl) ?_
    simp only [List.take_succ_cons, List.take_zero, List.drop_succ_cons, List.drop_zero]
    change wpStill _ _ (wd.setCell ⟨q, 4, none⟩ (.int .i64 x1)).drew (fun a' => wpList _ _ _ _ a' (wd.setCell ⟨q, 4, none⟩ (.int .i64 x1)).drew) _ _
    generalize (wd.setCell ⟨q, 4, none⟩ (.int .i64 x1)).drew = we at *
    repeat still_step
    refine wpStill_nil ?_
    go_wp2
    go_returns
    exact ⟨rfl, S2.out, G2.out⟩
end Go.Proofs.Ytkalgonkaoiapaa.Shf

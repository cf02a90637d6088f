/- A packet's box, its parts, and bytes beside it, while both grow. -/
import Derived.Test.YtecfblkagbdjlaaMt
namespace Go.Proofs.Ytecfblkagbdjlaa.Msg
open Go.ChangeShapes Go.WideShapes Go.ChangeAt Go.RowKit
open Coin (Own Rd CoinOwn)
set_option maxRecDepth 8000

theorem pt_own_ne {w : World} {B B' : Nat} {v v' : Value} {l : List UInt8} {xs : List Pt} (h : Own w B v l) (h' : PtOwn w B' v' xs) : v.ownBlock = none ∨ v.ownBlock ≠ v'.ownBlock := by
  obtain ⟨_, ⟨rfl, h0⟩ | ⟨g, cap, cur, rfl, _, hg, _⟩⟩ := h
  · exact .inl rfl
  · obtain ⟨_, ⟨rfl, h0⟩ | ⟨g', cap', cur', rfl, _, hg', _⟩⟩ := h'
    · exact .inr (by simp [Value.ownBlock])
    · refine .inr fun e => ?_
      simp only [Value.ownBlock, Option.some.injEq] at e
      subst e
      rw [hg] at hg'
      simp at hg'
theorem PtOwn.keptG {w w' : World} {B : Nat} {v : Value} {l : List Pt} {row : Option Nat} (h : PtOwn w B v l) (g : w.grownBy w' row) (hne : v.ownBlock = none ∨ v.ownBlock ≠ row) : PtOwn w' B v l := World.ownsRow.kept h g hne
/-- A packet in a box, and bytes of the call's own. -/
structure Ms (f : Nat) (w1 wx : World) (vp vr : Value) (xs : List Pt) (rb : List UInt8) : Prop where
  bl : Below w1.heap.size w1 wx
  row : wx.heap[w1.heap.size]? = some (.cells #[.int .i64 (f : Int), vp] 34 (0, 0))
  po : PtOwn wx (w1.heap.size + 1) vp xs
  ro : Own wx (w1.heap.size + 1) vr rb
theorem Ms.lt {f : Nat} {w1 wx : World} {vp vr : Value} {xs : List Pt} {rb : List UInt8} (h : Ms f w1 wx vp vr xs rb) : w1.heap.size < wx.heap.size := (Array.getElem?_eq_some_iff.1 h.row).1
theorem Ms.le {f : Nat} {w1 wx : World} {vp vr : Value} {xs : List Pt} {rb : List UInt8} (h : Ms f w1 wx vp vr xs rb) : w1.heap.size + 1 ≤ wx.heap.size := h.lt
theorem Ms.step {f : Nat} {w1 wx w' : World} {vp vr : Value} {xs : List Pt} {rb : List UInt8} (h : Ms f w1 wx vp vr xs rb) (B : Below wx.heap.size wx w') : Ms f w1 w' vp vr xs rb :=
  ⟨h.bl.trans (B.mono h.bl.size), (B.block _ h.lt).trans h.row, h.po.kept B, h.ro.kept B⟩
theorem Ms.part {f : Nat} {w1 wx w' : World} {vp vr vp' : Value} {xs xs' : List Pt} {rb : List UInt8} (h : Ms f w1 wx vp vr xs rb) (O : PtOwn w' (w1.heap.size + 1) vp' xs') (G : wx.grownBy w' vp.ownBlock) :
    Ms f w1 (w'.setCell ⟨w1.heap.size, 1, none⟩ vp') vp' vr xs' rb := by
  have hne : some w1.heap.size ≠ vp.ownBlock := fun e => by have := (h.po.lt _ e.symm).1; omega
  have hrow := (G.block _ h.lt hne).trans h.row
  have gs := Coin.grown_set w' w1.heap.size 1 vp'
  exact ⟨(h.bl.grown G h.bl.size (fun k e => by have := (h.po.lt k e).1; omega)).setCell (p := ⟨w1.heap.size, 1, none⟩) (Nat.le_refl _) vp', heap_setCell_same w' w1.heap.size 1 _ 34 vp' hrow, O.keptBut gs (Nat.lt_succ_self _),
    (h.ro.keptG G (pt_own_ne h.ro h.po)).keptG gs (.inr fun e => by have := ((h.ro.keptG G (pt_own_ne h.ro h.po)).lt _ e).1; omega)⟩
theorem Ms.more {f : Nat} {w1 wx w' : World} {vp vr vr' : Value} {xs : List Pt} {rb rb' : List UInt8} (h : Ms f w1 wx vp vr xs rb) (O : Own w' (w1.heap.size + 1) vr' rb') (G : wx.grownBy w' vr.ownBlock) : Ms f w1 w' vp vr' xs rb' := by
  have hne : some w1.heap.size ≠ vr.ownBlock := fun e => by have := (h.ro.lt _ e.symm).1; omega
  refine ⟨h.bl.grown G h.bl.size (fun k e => by have := (h.ro.lt k e).1; omega), (G.block _ h.lt hne).trans h.row, h.po.keptG G ?_, O⟩
  rcases pt_own_ne h.ro h.po with e | e
  · cases e2 : vp.ownBlock with
    | none => exact .inl rfl
    | some k => exact .inr (by rw [e]; simp)
  · exact .inr fun e2 => e e2.symm
/-- Its beginning: no parts, these bytes. -/
theorem Ms.start (f : Nat) (w1 : World) (l : List UInt8) (hl : l.length ≤ 1000) (xs : Array Value) (hx : xs = (l.map Coin.b8).toArray) : Ms f w1 ((w1.alloc (.cells #[.int .i64 (f : Int), .slice none 0 0] 34)).alloc (.cells xs 5)) (.slice none 0 0) (.slice (some ⟨w1.heap.size + 1, 0, none⟩) l.length l.length) [] l := by
  subst hx
  have e : (w1.alloc (.cells #[.int .i64 (f : Int), .slice none 0 0] 34)).heap.size = w1.heap.size + 1 := by simp
  have R := Coin.Row.lit (w1.alloc (.cells #[.int .i64 (f : Int), .slice none 0 0] 34)) l
  have O := R.own (B := w1.heap.size + 1) (by rw [e]; exact Nat.le_refl _) (by omega)
  rw [e] at O
  exact ⟨((Below.refl _ _).alloc (Nat.le_refl _) _).alloc (by simp) _, (heap_alloc_old _ _ (by simp)).trans (heap_alloc_new w1 _), PtOwn.nil _ _, O⟩
theorem row2b {w : World} {g : Nat} {v0 v1 : Value} {t : Nat} (h : w.heap[g]? = some (.cells #[v0, v1] t (0, 0))) : (w.cell? ⟨g, 0, none⟩ = some v0 ∧ w.cell? ⟨g, 1, none⟩ = some v1) ∧ w.frozen? ⟨g, 0, none⟩ = false ∧ w.frozen? ⟨g, 1, none⟩ = false :=
  ⟨(row2p h).1, (row2p h).2 0, (row2p h).2 1⟩
theorem app_pt_run {w : World} (B : Nat) (v : Value) (l : List Pt) (r : Pt) (b : Nat) (hown : PtOwn w B v l) (hc : ∀ j u, r.cl[j]? = some u → w.cell? ((⟨b, 0, none⟩ : Addr).add j) = some u) (hlen : l.length ≤ 100000) (hB : B ≤ w.heap.size) :
    ∃ v' w', (Builtin.append_ #[32, 32] 32 #[v, .slice (some ⟨b, 0, none⟩) 1 1]).run Try.prog w = .ok v' w' ∧ PtOwn w' B v' (l ++ [r]) ∧ w.grownBy w' v.ownBlock := by
  obtain ⟨i0, hi, hz0, hz1, hz2⟩ := info_parts info28
  obtain ⟨v', w', hrun, h1, h2, -⟩ := run_append_own_at (P := Try.prog) w B 32 32 28 i0 _ 7 40 Try.underlying32 hi hz0 hz1 hz2 rfl (by decide) v l.length (l.flatMap Pt.cl) hown ⟨b, 0, none⟩ 1 1 r.cl rfl hc (pt_one r) (by unfold maxLen; omega) (by omega) hB
  refine ⟨v', w', hrun, ?_, h2⟩
  unfold PtOwn
  rw [List.length_append, List.flatMap_append]
  simpa using h1
end Go.Proofs.Ytecfblkagbdjlaa.Msg

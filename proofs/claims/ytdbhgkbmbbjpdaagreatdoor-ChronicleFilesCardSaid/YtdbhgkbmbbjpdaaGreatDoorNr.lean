/- A record goes into the last volume. -/
import Derived.Test.YtdbhgkbmbbjpdaaGreatDoorNq
import Derived.Lib.SliceRun
namespace Go.Proofs.YtdbhgkbmbbjpdaaGreatDoor.Chr
variable {lo : Nat}
open Go.ChangeShapes Go.WideShapes Go.ChangeAt Go.RowKit
open Shf (S str)
open Coin (Rd Row Own sz coin got Pur takeV endV CoinSaid)
open Frm (pack err size kind cnt body noItem itemV OneSaid)
set_option maxRecDepth 8000
set_option linter.unusedVariables false
open Shf (Tag Ext Rep M RdN)
open Coin (CoinOwn)
theorem pat_own {w : World} {T : Nat → Tag} {B n c : Nat} {A : Option Addr} {l : S} (h : Own w B (.slice A n c) l) (hT : ∀ b, B ≤ b → T b = .none) (hn : n = l.length) : PAt w T A c l := by
  obtain ⟨h0, ⟨e, h1⟩ | ⟨g, cap, cur, e, hb, hg, h2, h3, h4, h5⟩⟩ := h
  · injection e with e1 e2 e3
    subst e1 e3
    have hl : l.length = 0 := by omega
    exact ⟨fun _ => rfl, by omega, fun h => by omega⟩
  · injection e with e1 e2 e3
    subst e1 e3
    refine ⟨fun h => (by cases h), by omega, fun h => ⟨g, 0, cur, rfl, hg, hT g hb, fun j hj => ?_⟩⟩
    have e6 : (cur.toList.take (l.length * 1))[j]? = some (Coin.b8 l[j]) := by rw [h5, List.getElem?_map, List.getElem?_eq_getElem hj]; rfl
    rw [List.getElem?_take_of_lt (by omega)] at e6
    rw [Nat.zero_add]
    simpa using e6
theorem clone_any (w : World) (A : Option Addr) (n c : Nat) (l : S) (hn : n = l.length) (hl : l.length ≤ 1300000) (hr : Rd w w.heap.size A l) (hA : A = none → c = 0) :
    Calls Tryz.prog 54 #[.slice A n c] w fun e w' => ∃ A' c', e = .returned (.slice A' n c') ∧ Own w' w.heap.size (.slice A' n c') l ∧ Below w.heap.size w w' := by
  have q30 : ∀ (w : World) (a : Option Addr) (n c n' c' : Nat), (binOp .eql 30 (.slice a n c) (.slice none n' c')).run Tryz.prog w = .ok (.bool a.isNone) w := fun w a n c n' c' => Lib.run_eql_slice_nil w _ _ a n c n' c' Tryz.underlying30
  cases A with
  | none =>
    obtain rfl : l = [] := by
      cases l with
      | nil => rfl
      | cons x l => obtain ⟨ad, e, _⟩ := hr (by simp); cases e
    subst hn
    clear hr
    go_enter Tryz.func54, Tryz.ntmps54
    go_wp2
    go_ret
    exact ⟨none, 0, rfl, Coin.Own.nil _ _, Below.refl _ _⟩
  | some ad =>
    have N1 := heap_alloc_new w (.cells #[] 5)
    have B1 : Below w.heap.size w (w.alloc (.cells #[] 5)) := (Below.refl _ _).alloc (Nat.le_refl _) _
    have O1 : Own (w.alloc (.cells #[] 5)) w.heap.size (.slice (some ⟨w.heap.size, 0, none⟩) 0 0) [] := Coin.Own.lit w w.heap.size [] (Nat.le_refl _) (by simp)
    have r1 := hr.below B1 (Nat.le_refl _)
    have hl1 : ([] : S).length + l.length ≤ 1300000 := by simpa using hl
    have s1 := B1.size
    go_enter Tryz.func54, Tryz.ntmps54
    go_wp2_with (at_builtin; with_reducible refine Coin.app_any rfl (.tmp 5) (.tmp 6) rfl w.heap.size (.slice (some ⟨w.heap.size, 0, none⟩) 0 0) [] l (some ad) n c w.heap.size rfl rfl O1 r1 hn (fun h => by cases h) hl1 s1 w.heap.size w B1 (Nat.le_refl _) ?_; intro v5 w5 O5 B5 G5)
    go_ret
    rw [List.nil_append] at O5
    obtain ⟨A9, c9, rfl, -, -, -⟩ := O5.form
    exact ⟨A9, c9, by rw [hn]; rfl, by rw [hn]; exact O5, B5⟩
theorem OwnO.set {w : World} {e : TypeId} {sz g off n cap : Nat} {xs : List Value} (h : OwnO w e sz (.slice (some ⟨g, off, none⟩) n cap) n xs (some g)) (i : Nat) (hi : i < xs.length) (u : Value) : OwnO (w.setCell ⟨g, off + i, none⟩ u) e sz (.slice (some ⟨g, off, none⟩) n cap) n (xs.set i u) (some g) := by
  obtain ⟨h0, A, cap', e1, h2, h3, h4, h5, h6⟩ := h
  injection e1 with e1 _ e2
  subst e1 e2
  refine ⟨by rw [List.length_set]; exact h0, _, cap, rfl, h2, h3, (fun h => by cases h), h5, fun hc => ?_⟩
  obtain ⟨g', off', cur, k1, k2, k3, k4, k5⟩ := h6 hc
  injection k1 with k1
  injection k1 with k1a k1b _
  subst k1a k1b
  refine ⟨g, off, _, rfl, rfl, heap_setCell_same w g (off + i) cur e u k3, by simpa using k4, ?_⟩
  rw [Array.toList_setIfInBounds, List.drop_set, if_neg (by omega), Nat.add_sub_cancel_left, List.take_set, k5]
theorem LAt.grownN {w w' : World} {T : Nat → Tag} {v : Value} {its : List ItD} {gl : Option Nat} {X : Option Nat} (h : LAt w T v its gl) (G : w.grownBy w' X) (hX : ∀ g, X = some g → NotTy w g 5) (hne : ∀ g, X = some g → gl ≠ some g) : LAt w' T v its gl := by
  obtain ⟨ds, h1, h2, h3, h4⟩ := h
  exact ⟨ds, h1, h2.keep fun g e => G.block g (h2.lt g e).1 (fun e' => hne g e'.symm e), h3, fun x hx => (h4 x hx).grownO G hX⟩
theorem info75 : (Tryz.prog.info? 75).map (fun i => (i.zero, i.size, i.bytes)) = some (some (.agg #[.int .u8 0, .slice none 0 0, .int .i64 0, .int .i64 0]), 4, 48) := by kernel_rfl
theorem LAt.app {w : World} {T : Nat → Tag} {v : Value} {its : List ItD} {gl : Option Nat} (h : LAt w T v its gl) (it : ItD) (A9 : Option Addr) (n9 c9 : Nat) (hn9 : n9 = it.p.length) (hP : PAt w T A9 c9 it.p) (g6 : Nat) (hN : w.heap[g6]? = some (.cells #[.int .u8 (it.k.toNat : Int), .slice A9 n9 c9, .int .i64 (it.a : Int), .int .i64 (it.b : Int)] 75 (0, 0))) (hT : ∀ b, w.heap.size ≤ b → T b = .none) (hn : its.length ≤ 1000000) :
    ∃ v' w' gl', (Builtin.append_ #[58, 58] 58 #[v, .slice (some ⟨g6, 0, none⟩) 1 1]).run Tryz.prog w = .ok v' w' ∧ LAt w' T v' (its ++ [it]) gl' ∧ w.grownBy w' gl ∧ (gl' = gl ∨ ∀ g, gl' = some g → w.heap.size ≤ g) ∧ (∀ g, gl = some g → ∃ cur, w.heap[g]? = some (.cells cur 75 (0, 0))) := by
  obtain ⟨ds, h1, h2, h3, h4⟩ := h
  obtain ⟨i, hi, hi2⟩ := Option.map_eq_some_iff.1 info75
  injection hi2 with e1 e2
  injection e2 with e2 e3
  obtain ⟨c0, c1, c2, c3, -⟩ := Frm.cells4 hN
  obtain ⟨v', w', gl', hr, O', G, hgl⟩ := h2.app (P := Tryz.prog) 58 58 i _ 48 Tryz.underlying58 hi e1 e2 e3 rfl (by decide) ⟨g6, 0, none⟩ 1 [.int .u8 (it.k.toNat : Int), .slice A9 n9 c9, .int .i64 (it.a : Int), .int .i64 (it.b : Int)] rfl (fun j u hj => by
    rw [Shf.zero_add']
    match j, hj with
    | 0, hj => injection hj with hj; rw [← hj]; exact c0
    | 1, hj => injection hj with hj; rw [← hj]; exact c1
    | 2, hj => injection hj with hj; rw [← hj]; exact c2
    | 3, hj => injection hj with hj; rw [← hj]; exact c3) (fun u hu => by
    simp only [List.mem_cons, List.not_mem_nil, or_false] at hu
    rcases hu with rfl | rfl | rfl | rfl <;> rfl) hn (by decide)
  have hY : ∀ g, gl = some g → NotTy w g 5 := fun g e => by
    obtain ⟨cur, hc⟩ := (h2.lt g e).2
    exact notTy hc (by decide)
  refine ⟨v', w', gl', hr, ⟨ds ++ [(it, A9, c9)], by rw [List.map_append, h1]; rfl, ?_, fun g e => ?_, fun x hx => ?_⟩, G, hgl, fun g e => (h2.lt g e).2⟩
  · rw [List.flatMap_append, List.length_append, hn9] at *
    exact O'
  · rcases hgl with rfl | hgl
    · exact h3 g e
    · exact hT g (hgl g e)
  · rcases List.mem_append.1 hx with hx | hx
    · exact (h4 x hx).grownO G hY
    · rw [List.mem_singleton.1 hx]
      exact hP.grownO G hY
def VsP (lo : Nat) (w : World) (T : Nat → Tag) (v : Value) (vs : List (VolD × Value × Option Nat)) (gv : Option Nat) : Prop :=
  OwnO w 60 4 v vs.length (vs.flatMap volP) gv ∧ (∀ g, gv = some g → T g = .none) ∧ (∀ x ∈ vs, LAt w T x.2.1 x.1.its x.2.2) ∧ vs.Pairwise (fun x y => x.2.2 = none ∨ x.2.2 ≠ y.2.2) ∧ (∀ g, gv = some g → lo ≤ g) ∧ ∀ x ∈ vs, ∀ g, x.2.2 = some g → lo ≤ g
theorem VsP.keep {w w' : World} {T T' : Nat → Tag} {v : Value} {vs : List (VolD × Value × Option Nat)} {gv : Option Nat} (h : VsP lo w T v vs gv) (K : Kp w T w' T') : VsP lo w' T' v vs gv := by
  obtain ⟨h2, h3, h4, h5⟩ := h
  exact ⟨h2.keep fun g hg => (K.block g (h2.lt g hg).1 (h3 g hg)).1, fun g hg => (K.block g (h2.lt g hg).1 (h3 g hg)).2, fun x hx => (h4 x hx).keep K, h5⟩
theorem VsP.at {w : World} {T : Nat → Tag} {v : Value} {vs : List (VolD × Value × Option Nat)} {gv : Option Nat} (h : VsP lo w T v vs gv) : VsAt lo w T v (vs.map (·.1)) gv :=
  ⟨vs, rfl, by rw [List.length_map]; exact h.1, h.2.1, h.2.2.1, h.2.2.2⟩
theorem VsAt.parts {w : World} {T : Nat → Tag} {v : Value} {l : List VolD} {d : VolD} {gv : Option Nat} (h : VsAt lo w T v (l ++ [d]) gv) : ∃ vs0 lv gl, l = vs0.map (·.1) ∧ VsP lo w T v (vs0 ++ [(d, lv, gl)]) gv := by
  obtain ⟨vs, h1, h2, h3, h4, h5⟩ := h
  obtain ⟨a, b, rfl, h6, h7⟩ := List.map_eq_append_iff.1 h1
  obtain ⟨x, rfl, h8⟩ : ∃ x, b = [x] ∧ x.1 = d := by
    match b, h7 with
    | [x], h7 => exact ⟨x, rfl, by simpa using h7⟩
  obtain ⟨d', lv, gl⟩ := x
  obtain rfl : d' = d := h8
  refine ⟨a, lv, gl, h6.symm, ?_, h3, h4, h5⟩
  have e : (l ++ [d']).length = (a ++ [(d', lv, gl)]).length := by rw [← h6]; simp
  rw [← e]
  exact h2
theorem VsP.last {w : World} {T : Nat → Tag} {g off n cap : Nat} {vs0 : List (VolD × Value × Option Nat)} {d : VolD} {lv : Value} {gl : Option Nat} (h : VsP lo w T (.slice (some ⟨g, off, none⟩) n cap) (vs0 ++ [(d, lv, gl)]) (some g)) :
    VolAt w T g (off + vs0.length * 4) d lv gl ∧ n = vs0.length + 1 ∧ T g = .none ∧ ∃ cur, w.heap[g]? = some (.cells cur 60 (0, 0)) := by
  have hA := h.at
  have hl : ((vs0 ++ [(d, lv, gl)]).map (·.1)).length = vs0.length + 1 := by simp
  obtain ⟨h2, h3, h4, h5⟩ := h
  have hfl := flat_len (vs0 ++ [(d, lv, gl)])
  have hc : ∀ i (hi : i < 4), w.cell? ⟨g, off + (vs0.length * 4 + i), none⟩ = (volP (d, lv, gl))[i]? ∧ ∀ j, w.frozen? ⟨g, j, none⟩ = false := fun i hi => by
    obtain ⟨g', off', cap', e1, e2, e3, e4⟩ := h2.cell (vs0.length * 4 + i) (by rw [hfl]; simp; omega)
    injection e1 with e1 _ _
    injection e1 with e1
    injection e1 with e1 e1b _
    subst e1 e1b
    refine ⟨?_, e4⟩
    rw [e3]
    have e := flat_at (vs0 ++ [(d, lv, gl)]) vs0.length (by simp) i hi
    rw [List.getElem?_eq_getElem (by rw [hfl]; simp; omega)] at e
    rw [e]
    congr 1
    simp
  have hcc : ∀ i (hi : i < 4), w.cell? ⟨g, off + vs0.length * 4 + i, none⟩ = (volP (d, lv, gl))[i]? := fun i hi => by rw [Nat.add_assoc]; exact (hc i hi).1
  obtain ⟨_, _, e, _⟩ := h2.form
  injection e with _ e _
  refine ⟨⟨hcc 0 (by decide), hcc 1 (by decide), hcc 2 (by decide), hcc 3 (by decide), (hc 0 (by decide)).2, h4 (d, lv, gl) (by simp)⟩, by rw [e]; simp, h3 g rfl, (h2.lt g rfl).2⟩
def VolD.more (d : VolD) (k : UInt8) (bs : S) (z e : Nat) : VolD := {d with its := d.its ++ [⟨k, bs, z, e⟩]}
theorem volP_set (a : List (VolD × Value × Option Nat)) (d d' : VolD) (lv lv' : Value) (gl gl' : Option Nat) (h1 : d'.no = d.no) (h2 : d'.first = d.first) :
    (((a ++ [(d, lv, gl)]).flatMap volP).set (a.length * 4 + 2) lv').set (a.length * 4 + 3) (.int .i64 (d'.size : Int)) = (a ++ [(d', lv', gl')]).flatMap volP := by
  have hfl := flat_len a
  rw [List.flatMap_append, List.flatMap_append, List.set_append_right _ _ (by omega), hfl, Nat.add_sub_cancel_left, List.set_append_right _ _ (by omega), hfl, Nat.add_sub_cancel_left]
  simp [volP, h1, h2]
theorem atl_end {w wd : World} {T : Nat → Tag} {p q : Nat} {c : CD} {bA : Option Addr} {bc g off cap nv : Nat} {vs0 : List (VolD × Value × Option Nat)} {d : VolD} {lv : Value} {gl : Option Nat} (h : CAtV lo w T p q c bA bc (.slice (some ⟨g, off, none⟩) nv cap) (some g)) (hvs : VsP lo w T (.slice (some ⟨g, off, none⟩) nv cap) (vs0 ++ [(d, lv, gl)]) (some g))
    (hmap : c.vols = vs0.map (·.1) ++ [d]) (B : Below w.heap.size w wd) (k : UInt8) (bs : S) (A9 : Option Addr) (n9 c9 : Nat) (hn9 : n9 = bs.length) (hP : PAt wd T A9 c9 bs) (z e9 : Nat) (g6 : Nat) (hN : wd.heap[g6]? = some (.cells #[.int .u8 (k.toNat : Int), .slice A9 n9 c9, .int .i64 (z : Int), .int .i64 (e9 : Int)] 75 (0, 0))) (hT : ∀ b, w.heap.size ≤ b → T b = .none) (hn : d.its.length ≤ 1000000) :
    ∃ v' w', (Builtin.append_ #[58, 58] 58 #[lv, .slice (some ⟨g6, 0, none⟩) 1 1]).run Tryz.prog wd = .ok v' w' ∧ (∃ A n cap, v' = .slice A n cap) ∧ (∀ j, w'.cell? ⟨g, j, none⟩ = wd.cell? ⟨g, j, none⟩ ∧ w'.frozen? ⟨g, j, none⟩ = false) ∧
      (∀ j, (w'.setCell ⟨g, off + vs0.length * 4 + 2, none⟩ v').frozen? ⟨g, j, none⟩ = false) ∧ (w'.setCell ⟨g, off + vs0.length * 4 + 2, none⟩ v').cell? ⟨g, off + vs0.length * 4 + 3, none⟩ = wd.cell? ⟨g, off + vs0.length * 4 + 3, none⟩ ∧
      ∀ s9 : Nat, CAt lo ((w'.setCell ⟨g, off + vs0.length * 4 + 2, none⟩ v').setCell ⟨g, off + vs0.length * 4 + 3, none⟩ (.int .i64 (s9 : Int))) T p q {c with vols := vs0.map (·.1) ++ [{d with its := d.its ++ [⟨k, bs, z, e9⟩], size := s9}]} ∧
        Kq lo w T ((w'.setCell ⟨g, off + vs0.length * 4 + 2, none⟩ v').setCell ⟨g, off + vs0.length * 4 + 3, none⟩ (.int .i64 (s9 : Int))) T ∧ (∀ m, Rep w T q m → Rep ((w'.setCell ⟨g, off + vs0.length * 4 + 2, none⟩ v').setCell ⟨g, off + vs0.length * 4 + 3, none⟩ (.int .i64 (s9 : Int))) T q m) := by
  have hd := h.keep (kp_below B T)
  have hw := hvs.keep (kp_below B T)
  obtain ⟨VA, hnv, hTg, cur, hg⟩ := hw.last
  obtain ⟨v', w', gl', hr, L', G, hgl, hgt⟩ := VA.la.app ⟨k, bs, z, e9⟩ A9 n9 c9 hn9 hP g6 hN (fun b hb => hT b (Nat.le_trans B.size hb)) hn
  have hX : ∀ t, t ≠ 75 → ∀ x, gl = some x → NotTy wd x t := fun t ht x e => by
    obtain ⟨cur, hc⟩ := hgt x e
    exact notTy hc (Ne.symm ht)
  have hgne : gl ≠ some g := fun e => by
    obtain ⟨cur', hc⟩ := hgt g e
    exact notTy hg (by decide) _ hc
  have hg' : w'.heap[g]? = some (.cells cur 60 (0, 0)) := (G.block g (Array.getElem?_eq_some_iff.1 hg).1 (fun e => hgne e.symm)).trans hg
  obtain ⟨An, nn, cn, hv⟩ : ∃ A n cap, v' = .slice A n cap := by
    obtain ⟨ds, _, k2, _⟩ := L'
    obtain ⟨A, cp, e, _⟩ := k2.form
    exact ⟨A, _, cp, e⟩
  obtain ⟨o9, ho9⟩ : ∃ o, o = off + vs0.length * 4 := ⟨_, rfl⟩
  have hg2 := heap_setCell_same w' g (o9 + 2) cur 60 v' hg'
  rw [← ho9]
  refine ⟨v', w', hr, ⟨An, nn, cn, hv⟩, fun j => ⟨World.cell?_of_block (a := ⟨g, j, none⟩) (hg'.trans hg.symm), frozen_of_row _ _ _ _ _ hg'⟩, fun j => frozen_of_row _ _ _ _ _ hg2, ?_, fun s9 => ?_⟩
  · rw [cell_of_row _ g (o9 + 3) _ 60 (0, 0) hg2, cell_of_row wd g (o9 + 3) _ 60 (0, 0) hg]
    simp
  have hg3 := heap_setCell_same _ g (o9 + 3) _ 60 (.int .i64 (s9 : Int)) hg2
  have G2 := Shf.grown_set w' g (o9 + 2) v'
  have G3 := Shf.grown_set (w'.setCell ⟨g, o9 + 2, none⟩ v') g (o9 + 3) (.int .i64 (s9 : Int))
  obtain ⟨w8, hw8⟩ : ∃ W, W = w'.setCell ⟨g, o9 + 2, none⟩ v' := ⟨_, rfl⟩
  rw [← hw8] at G2 G3 hg2 hg3 ⊢
  have hp : wd.heap[p]? = _ := hd.row
  have npg : p ≠ g := fun e => by rw [e] at hp; exact notTy hg (by decide) _ hp
  have npl : gl ≠ some p := fun e => by
    obtain ⟨cur', hc⟩ := hgt p e
    exact notTy hc (by decide) _ hp
  have hb9 : ∀ b, b < wd.heap.size → gl ≠ some b → b ≠ g → (w8.setCell ⟨g, o9 + 3, none⟩ (.int .i64 (s9 : Int))).heap[b]? = wd.heap[b]? := fun b hb h1 h2 =>
    (G3.block b (Nat.lt_of_lt_of_le hb (Nat.le_trans G.size G2.size)) (fun e => h2 (by injection e))).trans ((G2.block b (Nat.lt_of_lt_of_le hb G.size) (fun e => h2 (by injection e))).trans (G.block b hb (fun e => h1 e.symm)))
  have hO : OwnO (w8.setCell ⟨g, o9 + 3, none⟩ (.int .i64 (s9 : Int))) 60 4 (.slice (some ⟨g, off, none⟩) nv cap) nv ((vs0 ++ [(({d with its := d.its ++ [⟨k, bs, z, e9⟩], size := s9} : VolD), v', gl')]).flatMap volP) (some g) := by
    have e0 : (vs0 ++ [(d, lv, gl)]).length = nv := by rw [hnv]; simp
    have O1 := hw.1
    rw [e0] at O1
    have hfl := flat_len (vs0 ++ [(d, lv, gl)])
    have O2 := (O1.keep (w' := w') (fun x hx => by injection hx with hx; rw [← hx]; exact hg'.trans hg.symm)).set (vs0.length * 4 + 2) (by rw [hfl]; simp; omega) v'
    have O3 := O2.set (vs0.length * 4 + 3) (by rw [List.length_set, hfl]; simp; omega) (.int .i64 (s9 : Int))
    have ee := volP_set vs0 d {d with its := d.its ++ [⟨k, bs, z, e9⟩], size := s9} lv v' gl gl' rfl rfl
    rw [← ee]
    rw [← Nat.add_assoc, ← Nat.add_assoc, ← ho9, ← hw8] at O3
    exact O3
  have pw := List.pairwise_append.1 hw.2.2.2.1
  have keepL : ∀ (v : Value) (its : List ItD) (gx : Option Nat), LAt w' T v its gx → LAt (w8.setCell ⟨g, o9 + 3, none⟩ (.int .i64 (s9 : Int))) T v its gx := fun v its gx hL =>
    (hL.grown G2 (notTy hg' (by decide)) (hL.ne (notTy hg' (by decide)))).grown G3 (notTy hg2 (by decide)) ((hL.grown G2 (notTy hg' (by decide)) (hL.ne (notTy hg' (by decide)))).ne (notTy hg2 (by decide)))
  refine ⟨⟨bA, bc, .slice (some ⟨g, off, none⟩) nv cap, some g, ?_, h.tp, ?_, ?_, h.lp⟩, ⟨?_, fun b _ h => h, ?_, G3.os.trans (G2.os.trans (G.os.trans B.os)), G3.tape.trans (G2.tape.trans (G.tape.trans B.tape)), G3.output.trans (G2.output.trans (G.output.trans B.output)), fun b hlt hnn hl => ?_⟩, fun m R => R.far (P := fun b => gl = some b ∨ b = g) ⟨G3.os.trans (G2.os.trans (G.os.trans B.os)), G3.tape.trans (G2.tape.trans (G.tape.trans B.tape)), G3.output.trans (G2.output.trans (G.output.trans B.output)), Nat.le_trans B.size (Nat.le_trans G.size (Nat.le_trans G2.size G3.size)), fun b hlt hne => ?_⟩ (fun b hT9 hP => ?_)⟩
  · rw [hb9 p (Array.getElem?_eq_some_iff.1 hp).1 npl npg]
    exact hp
  · exact ((hd.ba.grownO G (hX 5 (by decide))).grown G2 (notTy hg' (by decide))).grown G3 (notTy hg2 (by decide))
  · have e0 : (vs0 ++ [(({d with its := d.its ++ [⟨k, bs, z, e9⟩], size := s9} : VolD), v', gl')]).length = nv := by rw [hnv]; simp
    have V : VsP lo (w8.setCell ⟨g, o9 + 3, none⟩ (.int .i64 (s9 : Int))) T (.slice (some ⟨g, off, none⟩) nv cap) (vs0 ++ [(({d with its := d.its ++ [⟨k, bs, z, e9⟩], size := s9} : VolD), v', gl')]) (some g) := by
      refine ⟨by rw [e0]; exact hO, hw.2.1, fun x hx => ?_, ?_⟩
      · rcases List.mem_append.1 hx with hx | hx
        · refine keepL _ _ _ ((hw.2.2.1 x (List.mem_append_left _ hx)).grownN G (hX 5 (by decide)) fun y e e2 => ?_)
          rcases pw.2.2 x hx _ (List.mem_singleton.2 rfl) with k1 | k1
          · rw [k1] at e2; cases e2
          · exact k1 (e2.trans e.symm)
        · rw [List.mem_singleton.1 hx]
          exact keepL _ _ _ L'
      · refine ⟨List.pairwise_append.2 ⟨pw.1, List.pairwise_singleton _ _, fun x hx y hy => ?_⟩, hw.2.2.2.2.1, fun x hx y e => ?_⟩
        rotate_left
        · rcases List.mem_append.1 hx with hx | hx
          · exact hw.2.2.2.2.2 x (List.mem_append_left _ hx) y e
          · rw [List.mem_singleton.1 hx] at e
            have e : gl' = some y := e
            rcases hgl with k2 | k2
            · rw [k2] at e; exact hw.2.2.2.2.2 (d, lv, gl) (by simp) y e
            · exact Nat.le_trans (Nat.le_trans (Nat.le_trans h.lp (Nat.le_of_lt (Array.getElem?_eq_some_iff.1 h.row).1)) B.size) (k2 y e)
        rw [List.mem_singleton.1 hy]
        rcases pw.2.2 x hx _ (List.mem_singleton.2 rfl) with k1 | k1
        · exact Or.inl k1
        · rcases hgl with k2 | k2
          · right; rw [k2]; exact k1
          · cases hx2 : x.2.2 with
            | none => exact Or.inl rfl
            | some y0 =>
              right
              intro e
              have := k2 y0 e.symm
              obtain ⟨ds, _, j2, _⟩ := hw.2.2.1 x (List.mem_append_left _ hx)
              have := (j2.lt y0 hx2).1
              omega
    have VV := V.at
    rw [List.map_append] at VV
    exact VV
  · exact Nat.le_trans B.size (Nat.le_trans G.size (Nat.le_trans G2.size G3.size))
  · intro b hlt hnn h82 h60 h75
    have hlt2 := Nat.lt_of_lt_of_le hlt B.size
    have n1 : gl ≠ some b := fun e => by
      obtain ⟨cur', hc⟩ := hgt b e
      rw [B.block b hlt] at hc
      exact h75 _ hc
    have n2 : b ≠ g := fun e => by
      rw [← e, B.block b hlt] at hg
      exact h60 _ hg
    exact (hb9 b hlt2 n1 n2).trans (B.block b hlt)
  · have n1 : gl ≠ some b := fun e => by have := hw.2.2.2.2.2 (d, lv, gl) (by simp) b e; omega
    have n2 : b ≠ g := fun e => by have := hw.2.2.2.2.1 g rfl; omega
    exact (hb9 b (Nat.lt_of_lt_of_le hlt B.size) n1 n2).trans (B.block b hlt)
  · exact (hb9 b (Nat.lt_of_lt_of_le hlt B.size) (fun e => hne (Or.inl e)) (fun e => hne (Or.inr e))).trans (B.block b hlt)
  · rcases hP with e | e
    · have hL := hvs.2.2.1 (d, lv, gl) (by simp)
      obtain ⟨ds, _, _, j3, _⟩ := hL
      exact hT9 (j3 b e)
    · rw [e] at hT9
      exact hT9 hTg
def atlC (c : CD) (l : List VolD) (d : VolD) (k : UInt8) (bs : S) (e : Nat) : CD := if e = 0 then {c with vols := l ++ [{d with its := d.its ++ [⟨k, bs, d.size, d.size + (pack k bs).length⟩], size := d.size + (pack k bs).length}]} else c
set_option maxHeartbeats 4000000 in
theorem atl_any (w : World) (T : Nat → Tag) (p q : Nat) (m : M) (c : CD) (R : Rep w T q m) (h : CAt lo w T p q c) (hs : c.Small) (hv : ∀ d ∈ c.vols, d.no < 100) (hd : m.done < 800000) (hroom : -1000000000000 ≤ m.room) (l : List VolD) (d : VolD) (hc : c.vols = l ++ [d]) (k : UInt8) (A : Option Addr) (n cp : Nat) (bs : S) (hn : n = bs.length) (hbs : RdN w T A bs) (hA : A = none → cp = 0) (hbl : bs.length ≤ 1100000) :
    Calls Tryz.prog 83 #[.pointer (some ⟨p, 0, none⟩), .int .u8 (k.toNat : Int), .slice A n cp] w fun e w' => ∃ T', e = .returned (.int .i64 ((m.appendE (vName d.no) (pack k bs) : Nat) : Int)) ∧ Rep w' T' q (m.append (vName d.no) (pack k bs)) ∧ CAt lo w' T' p q (atlC c l d k bs (m.appendE (vName d.no) (pack k bs))) ∧ Kq lo w T w' T' := by
  obtain ⟨bA, bc, vv, gv, h⟩ := h
  have hVA := h.vs
  rw [hc] at hVA
  obtain ⟨vs0, lv, gl, hl0, hP0⟩ := hVA.parts
  have hlen : c.vols.length = vs0.length + 1 := by rw [hc, hl0]; simp
  have hdm : d ∈ c.vols := by rw [hc]; simp
  obtain ⟨g, off, cap, lv', gl', rfl, rfl, hle, -⟩ := h.vs.at (c.vols.length - 1) (by omega)
  rw [hlen] at h hP0 hle
  obtain ⟨VA, -, tg, -⟩ := hP0.last
  obtain ⟨o9, ho9⟩ : ∃ o, o = off + vs0.length * 4 := ⟨_, rfl⟩
  rw [← ho9] at VA
  have HO9 : Hid (off + vs0.length * 4 = o9) := ho9.symm
  have hdn := hv d hdm
  have hsd := hs.v d hdm
  obtain ⟨lA, lc, rfl⟩ : ∃ A cp, lv = .slice A d.its.length cp := by
    obtain ⟨ds, _, k2, _⟩ := VA.la
    obtain ⟨A, cp, e, _⟩ := k2.form
    exact ⟨A, cp, e⟩
  have c49 : Calls Tryz.prog 49 #[.pointer (some ⟨p, 0, none⟩)] w fun e w' => e = .returned (.pointer (some ⟨g, o9, none⟩)) ∧ Below w.heap.size w w' := by
    have e := last_any w T p q c bA bc g off cap (some g) (by rw [hlen]; exact h) (by omega) hs.n
    rw [hlen, Nat.add_sub_cancel, ← ho9] at e
    exact e
  obtain ⟨pk, hpk⟩ : ∃ x, x = pack k bs := ⟨_, rfl⟩
  obtain ⟨pl, hpl⟩ : ∃ x, x = pk.length := ⟨_, rfl⟩
  have hpl9 : pl ≤ 1200000 := by
    rw [hpl, hpk, Frm.length_pack]
    have := Coin.sz_le bs.length
    omega
  obtain ⟨z, hz⟩ : ∃ x, x = d.size := ⟨_, rfl⟩
  obtain ⟨e9, he9⟩ : ∃ x, x = z + pl := ⟨_, rfl⟩
  have hw9 : IntKind.i64.wrap ((z : Int) + (pl : Int)) = (e9 : Int) := by rw [IntKind.wrap_i64]; omega
  obtain ⟨co, hco⟩ : ∃ o : Nat, o = m.appendE (vName d.no) pk := ⟨_, rfl⟩
  have HPK : Hid (∀ y, Below w.heap.size w y → Calls Tryz.prog 62 #[.int .u8 (k.toNat : Int), .slice A n cp] y (CoinOwn y pk)) := fun y hy => by
    have e := Frm.pack_own k A cp bs y hbl (((show Rd w w.heap.size A bs from fun h0 => by
      obtain ⟨ad, e, hcx⟩ := hbs.1 h0
      exact ⟨ad, e, (hbs.2 h0 ad e).2, hcx⟩).below hy (Nat.le_refl _)).more hy.size) hA
    rw [← hn, ← hpk] at e
    exact e
  have HTT : Hid (∀ b, w.heap.size ≤ b → T b = .none) := fun b hb => rep_old R hb
  have lp := (Array.getElem?_eq_some_iff.1 h.row).1
  have lg : g < w.heap.size := block_lt_of_cell (a := ⟨g, o9, none⟩) VA.k0
  have HC : Hid (∀ y, Below w.heap.size w y → y.cell? ⟨p, 0, none⟩ = some (.pointer (some ⟨q, 0, none⟩)) ∧ y.cell? ⟨g, o9, none⟩ = some (.int .u64 (d.no : Int))) := fun y hy => ⟨(World.cell?_of_block (a := ⟨p, 0, none⟩) (hy.block p lp)).trans (row8 h.row).1, (World.cell?_of_block (a := ⟨g, o9, none⟩) (hy.block g lg)).trans VA.k0⟩
  have HX : Hid (∀ y y' T', Below w.heap.size w y → Ext y T y' T' → y'.cell? ⟨p, 0, none⟩ = some (.pointer (some ⟨q, 0, none⟩)) ∧ y'.cell? ⟨g, o9, none⟩ = some (.int .u64 (d.no : Int))) := fun y y' T' hy X =>
    ⟨(World.cell?_of_block (a := ⟨p, 0, none⟩) (X.block p (Nat.lt_of_lt_of_le lp hy.size) h.tp)).trans (HC.out y hy).1, (World.cell?_of_block (a := ⟨g, o9, none⟩) (X.block g (Nat.lt_of_lt_of_le lg hy.size) tg)).trans (HC.out y hy).2⟩
  have HS : Hid (∀ y, Below w.heap.size w y → ∀ PA pc, (RdN y T PA pk ∧ (PA = none → pc = 0)) → Calls Tryz.prog 35 #[.pointer (some ⟨q, 0, none⟩), .string (str (vName d.no)), .slice PA pl pc] y fun e w' => e = .returned (.int .i64 (co : Int)) ∧ ∃ T', Rep w' T' q (m.append (vName d.no) pk) ∧ Ext y T w' T') := fun y hy PA pc hPA => by
    have e := Shf.append_rep y T q m (vName d.no) pk PA pc (R.below hy) (by omega) (vName_le _ hdn) hPA.1 hPA.2 (by omega) hroom
    rw [← hpl, ← hco] at e
    exact e
  have HD := Lib.hid hdn
  have HH := Lib.hid (And.intro h (And.intro hP0 (And.intro hbs (And.intro VA hsd))))
  have HCC : Hid (c.vols = vs0.map (·.1) ++ [d]) := by show c.vols = _; rw [hc, hl0]
  have HFIN : Hid (∀ w' T', Rep w' T' q (m.append (vName d.no) pk) → CAt lo w' T' p q (if co = 0 then {c with vols := vs0.map (·.1) ++ [{d with its := d.its ++ [⟨k, bs, z, e9⟩], size := e9}]} else c) → Kq lo w T w' T' → ∃ T', Ending.returned (.int .i64 (co : Int)) = .returned (.int .i64 ((m.appendE (vName d.no) (pack k bs) : Nat) : Int)) ∧ Rep w' T' q (m.append (vName d.no) (pack k bs)) ∧ CAt lo w' T' p q (atlC c l d k bs (m.appendE (vName d.no) (pack k bs))) ∧ Kq lo w T w' T') := fun w' T' h1 h2 h3 => by
    refine ⟨T', by rw [hco, hpk], by rw [← hpk]; exact h1, ?_, h3⟩
    unfold atlC
    rw [← hpk, ← hco, ← hpl, ← hz, ← he9, hl0]
    exact h2
  have HL : Hid (n = bs.length ∧ d.its.length ≤ 1000000) := ⟨hn, hsd.2.2.1⟩
  have HPL := Lib.hid hpl
  have HZ := Lib.hid hz
  have HLE := Lib.hid (And.intro hA hbl)
  clear hVA hlen hdm hle hc hl0 hs hv hd hroom h R hP0 VA tg ho9 hdn hsd hpk hpl hpl9 hz he9 hco hbs hn hA hbl lp lg
  go_enter Tryz.func83, Tryz.ntmps83
  go_upto_region 3 with (first
    | (go_at_call 49; refine c49.mono ?_; rintro e w1 ⟨rfl, B1⟩; have HB1 := Lib.hid B1; clear B1 c49)
    | (go_at_call 62; refine (HPK.out w1 HB1.out).mono ?_; rintro e w2 ⟨v2, rfl, O2, B2⟩; obtain ⟨PA, pc, rfl, -, -, hPA⟩ := O2.form; rw [← HPL.out] at O2 ⊢; have HW2 := Lib.hid (And.intro (own_le O2 HB1.out.size) (And.intro hPA (And.intro B2 (HB1.out.trans (B2.mono HB1.out.size))))); clear O2 B2 hPA))
  have HPK9 : Hid (RdN w2.drew T PA pk ∧ (PA = none → pc = 0)) := ⟨rdn_own (HW2.out.1.kept (Below.refl _ _).drew) HTT.out, HW2.out.2.1⟩
  have HBW := Lib.hid (HW2.out.2.2.2.drew)
  refine wp_region_noPanic ?_
  refine wp_region_held_drew (S := fun y : World => y.cell? ⟨p, 0, none⟩ = some (.pointer (some ⟨q, 0, none⟩)) ∧ y.cell? ⟨g, o9, none⟩ = some (.int .u64 (d.no : Int))) (by kernel_rfl) (HC.out w2.drew HBW.out) (fun hHeld => ?_)
  generalize w2.drew = wd at *
  refine wpAnyH_take (i := 0) (oi := ⟨some 16, .move (.tmp 0), 26, "chronicle.go:122", #[], none⟩) (v := .pointer (some ⟨p, 0, none⟩)) rfl (by kernel_rfl) (by kernel_rfl) (by kernel_rfl) (fun _ _ _ h => h) (Or.inl ⟨by rfl, fun w hSw => by go_simp⟩) (by assumption) ?_
  try simp only [Act.put, stA, stB, stC]
  refine wpAnyH_take (i := 1) (oi := ⟨some 17, .nilCheck (.tmp 16), 0, "chronicle.go:122", #[⟨0, .data⟩], none⟩) (v := .pointer (some ⟨p, 0, none⟩)) rfl (by kernel_rfl) (by kernel_rfl) (by kernel_rfl) (fun _ _ _ h => h) (Or.inl ⟨by rfl, fun w hSw => by go_simp⟩) (by assumption) ?_
  try simp only [Act.put, stA, stB, stC]
  refine wpAnyH_take (i := 2) (oi := ⟨some 18, .fieldAddr 82 (.tmp 17) 0, 0, "chronicle.go:122", #[⟨1, .data⟩], none⟩) (v := .pointer (some ⟨p, 0, none⟩)) rfl (by kernel_rfl) (by kernel_rfl) (by kernel_rfl) (fun _ _ _ h => h) (Or.inl ⟨by rfl, fun w hSw => by go_simp⟩) (by assumption) ?_
  try simp only [Act.put, stA, stB, stC]
  refine wpAnyH_take (i := 3) (oi := ⟨some 19, .load 24 (.tmp 18), 24, "chronicle.go:122", #[⟨2, .data⟩], none⟩) (v := .pointer (some ⟨q, 0, none⟩)) rfl (by kernel_rfl) (by kernel_rfl) (by kernel_rfl) (fun _ _ _ h => h) (Or.inl ⟨by rfl, fun w hSw => by obtain ⟨z0, z1⟩ := hSw; go_simp⟩) (by assumption) ?_
  try simp only [Act.put, stA, stB, stC]
  refine wpAnyH_take (i := 4) (oi := ⟨some 20, .move (.tmp 7), 89, "chronicle.go:122", #[], none⟩) (v := .pointer (some ⟨g, o9, none⟩)) rfl (by kernel_rfl) (by kernel_rfl) (by kernel_rfl) (fun _ _ _ h => h) (Or.inl ⟨by rfl, fun w hSw => by go_simp⟩) (by assumption) ?_
  try simp only [Act.put, stA, stB, stC]
  refine wpAnyH_take (i := 5) (oi := ⟨some 21, .nilCheck (.tmp 20), 0, "chronicle.go:122", #[⟨4, .data⟩], none⟩) (v := .pointer (some ⟨g, o9, none⟩)) rfl (by kernel_rfl) (by kernel_rfl) (by kernel_rfl) (fun _ _ _ h => h) (Or.inl ⟨by rfl, fun w hSw => by go_simp⟩) (by assumption) ?_
  try simp only [Act.put, stA, stB, stC]
  refine wpAnyH_take (i := 6) (oi := ⟨some 22, .fieldAddr 60 (.tmp 21) 0, 0, "chronicle.go:122", #[⟨5, .data⟩], none⟩) (v := .pointer (some ⟨g, o9, none⟩)) rfl (by kernel_rfl) (by kernel_rfl) (by kernel_rfl) (fun _ _ _ h => h) (Or.inl ⟨by rfl, fun w hSw => by go_simp⟩) (by assumption) ?_
  try simp only [Act.put, stA, stB, stC]
  refine wpAnyH_take (i := 7) (oi := ⟨some 23, .load 42 (.tmp 22), 42, "chronicle.go:122", #[⟨6, .data⟩], none⟩) (v := .int .u64 (d.no : Int)) rfl (by kernel_rfl) (by kernel_rfl) (by kernel_rfl) (fun _ _ _ h => h) (Or.inl ⟨by rfl, fun w hSw => by obtain ⟨z0, z1⟩ := hSw; go_simp⟩) (by assumption) ?_
  try simp only [Act.put, stA, stB, stC]
  refine wpAnyH_take (i := 9) (oi := ⟨some 25, .move (.tmp 8), 30, "chronicle.go:122", #[], none⟩) (v := .slice PA pl pc) rfl (by kernel_rfl) (by kernel_rfl) (by kernel_rfl) (fun _ _ _ h => h) (Or.inl ⟨by rfl, fun w hSw => by go_simp⟩) (by assumption) ?_
  try simp only [Act.put, stA, stB, stC]
  refine wpAnyH_ready (rs := [8]) (by kernel_rfl) (by simp) ?_
  refine AllReadyH.cons (o := ⟨some 24, .call ⟨.value (.func 26), #[.tmp 23], #[42]⟩, 9, "chronicle.go:122", #[⟨7, .data⟩], none⟩) rfl (fun K hK => ?_) AllReadyH.nil
  go_simp
  refine (name_any wd d.no HD.out).mono ?_
  rintro e wx ⟨rfl, rfl⟩
  refine hK.out _ _ (hHeld) (fun hHeld => ?_)
  clear hK K
  try simp only [Act.put, stA, stB, stC]
  skip
  refine wpAnyH_ready (rs := [10]) (by kernel_rfl) (by simp) ?_
  refine AllReadyH.cons (o := ⟨some 26, .call ⟨.value (.func 35), #[.tmp 19, .tmp 24, .tmp 25], #[24, 9, 30]⟩, 27, "chronicle.go:122", #[⟨3, .data⟩, ⟨8, .data⟩, ⟨9, .data⟩, ⟨8, .chain⟩], none⟩) rfl (fun K hK => ?_) AllReadyH.nil
  go_simp
  refine (HS.out wd HBW.out PA pc HPK9.out).mono ?_
  rintro e w4 ⟨rfl, T4, R4, X4⟩
  have H4 := Lib.hid (And.intro R4 ((ext_below HBW.out T).trans X4))
  have hq := HX.out wd w4 T4 HBW.out X4
  clear R4 X4
  refine hK.out _ _ (hq) (fun hHeld => ?_)
  clear hK K
  try simp only [Act.put, stA, stB, stC]
  clear hq
  refine wpAnyH_take (i := 11) (oi := ⟨some 9, .assign (.tmp 26), 27, "chronicle.go:122", #[⟨10, .data⟩, ⟨10, .chain⟩, ⟨0, .phase⟩, ⟨1, .phase⟩, ⟨2, .phase⟩, ⟨3, .phase⟩, ⟨4, .phase⟩, ⟨5, .phase⟩, ⟨6, .phase⟩, ⟨7, .phase⟩, ⟨8, .phase⟩, ⟨9, .phase⟩, ⟨10, .phase⟩], none⟩) (v := .int .i64 (co : Int)) rfl (by kernel_rfl) (by kernel_rfl) (by kernel_rfl) (fun _ _ _ h => h) (Or.inl ⟨by rfl, fun w hSw => by go_simp⟩) (by assumption) ?_
  try simp only [Act.put, stA, stB, stC]
  refine wpAnyH_done (by kernel_rfl) ?_ _
  try unfold NoPanic
  have X4 := H4.out.2
  by_cases h0 : co = 0
  · have h0' : (co : Int) = 0 := by omega
    have h4 := HH.out.1.keep (kp_ext X4)
    have hV4 := HH.out.2.1.keep (kp_ext X4)
    have VA4 := hV4.last.1
    rw [HO9.out] at VA4
    have y3 := VA4.k3
    have y2 := VA4.k2
    rw [← HZ.out] at y3
    have lg4 : g < w4.heap.size := block_lt_of_cell (a := ⟨g, o9 + 3, none⟩) y3
    have HC4 := Lib.hid h4
    have HVS := Lib.hid hV4
    have HMP : Hid (c.vols = vs0.map (·.1) ++ [d]) := HCC.out
    have HN : Hid (n = bs.length) := HL.out.1
    have HTN : Hid (∀ b, w4.heap.size ≤ b → T4 b = .none) := fun b hb => rep_old H4.out.1 hb
    have HY : Hid (∀ y, Below w4.heap.size w4 y → y.cell? ⟨g, o9 + 2, none⟩ = some (.slice lA d.its.length lc) ∧ y.cell? ⟨g, o9 + 3, none⟩ = some (.int .i64 (z : Int))) := fun y hy => ⟨(World.cell?_of_block (a := ⟨g, o9 + 2, none⟩) (hy.block g lg4)).trans y2, (World.cell?_of_block (a := ⟨g, o9 + 3, none⟩) (hy.block g lg4)).trans y3⟩
    have HCL : Hid (∀ y, Below w4.heap.size w4 y → Calls Tryz.prog 54 #[.slice A n cp] y fun e w' => ∃ A' c', e = .returned (.slice A' n c') ∧ Own w' y.heap.size (.slice A' n c') bs ∧ Below y.heap.size y w') := fun y hy => by
      have b4 := HH.out.2.2.1.ext X4
      exact clone_any y A n cp bs HN.out (by have := HLE.out.2; omega) (((show Rd w4 w4.heap.size A bs from fun h0 => by
        obtain ⟨ad, e, hcx⟩ := b4.1 h0
        exact ⟨ad, e, (b4.2 h0 ad e).2, hcx⟩).below hy (Nat.le_refl _)).more hy.size) HLE.out.1
    have HCO : Hid (∀ w' T', Rep w' T' q (m.append (vName d.no) pk) → CAt lo w' T' p q {c with vols := vs0.map (·.1) ++ [{d with its := d.its ++ [⟨k, bs, z, e9⟩], size := e9}]} → Kq lo w T w' T' → ∃ T', Ending.returned (.int .i64 0) = .returned (.int .i64 ((m.appendE (vName d.no) (pack k bs) : Nat) : Int)) ∧ Rep w' T' q (m.append (vName d.no) (pack k bs)) ∧ CAt lo w' T' p q (atlC c l d k bs (m.appendE (vName d.no) (pack k bs))) ∧ Kq lo w T w' T') := fun w' T' h1 h2 h3 => by
      have e := HFIN.out w' T' h1 (by rw [if_pos h0]; exact h2) h3
      rw [h0'] at e
      exact e
    clear X4 h4 hV4 VA4 y2 lg4 h0
    go_upto_region 7 with (fail)
    clear y3
    have HBW := Lib.hid ((Below.refl w4.heap.size w4).drew)
    refine wp_region_noPanic ?_
    refine wp_region_held_drew (S := fun y : World => y.cell? ⟨g, o9 + 3, none⟩ = some (.int .i64 (z : Int))) (by kernel_rfl) (HY.out w4.drew HBW.out).2 (fun hHeld => ?_)
    generalize w4.drew = wd at *
    refine wpAnyH_take (i := 0) (oi := ⟨some 37, .move (.tmp 7), 89, "chronicle.go:126", #[], none⟩) (v := .pointer (some ⟨g, o9, none⟩)) rfl (by kernel_rfl) (by kernel_rfl) (by kernel_rfl) (fun _ _ _ h => h) (Or.inl ⟨by rfl, fun w hSw => by go_simp⟩) (by assumption) ?_
    try simp only [Act.put, stA, stB, stC]
    refine wpAnyH_take (i := 1) (oi := ⟨some 38, .move (.tmp 7), 89, "chronicle.go:126", #[], none⟩) (v := .pointer (some ⟨g, o9, none⟩)) rfl (by kernel_rfl) (by kernel_rfl) (by kernel_rfl) (fun _ _ _ h => h) (Or.inl ⟨by rfl, fun w hSw => by go_simp⟩) (by assumption) ?_
    try simp only [Act.put, stA, stB, stC]
    refine wpAnyH_take (i := 2) (oi := ⟨some 39, .nilCheck (.tmp 38), 0, "chronicle.go:126", #[⟨1, .data⟩], none⟩) (v := .pointer (some ⟨g, o9, none⟩)) rfl (by kernel_rfl) (by kernel_rfl) (by kernel_rfl) (fun _ _ _ h => h) (Or.inl ⟨by rfl, fun w hSw => by go_simp⟩) (by assumption) ?_
    try simp only [Act.put, stA, stB, stC]
    refine wpAnyH_take (i := 3) (oi := ⟨some 40, .fieldAddr 60 (.tmp 39) 2, 0, "chronicle.go:126", #[⟨2, .data⟩], none⟩) (v := .pointer (some ⟨g, o9 + 2, none⟩)) rfl (by kernel_rfl) (by kernel_rfl) (by kernel_rfl) (fun _ _ _ h => h) (Or.inl ⟨by rfl, fun w hSw => by go_simp⟩) (by assumption) ?_
    try simp only [Act.put, stA, stB, stC]
    refine wpAnyH_take (i := 5) (oi := ⟨some 42, .move (.tmp 1), 5, "chronicle.go:126", #[], none⟩) (v := .int .u8 (k.toNat : Int)) rfl (by kernel_rfl) (by kernel_rfl) (by kernel_rfl) (fun _ _ _ h => h) (Or.inl ⟨by rfl, fun w hSw => by go_simp⟩) (by assumption) ?_
    try simp only [Act.put, stA, stB, stC]
    refine wpAnyH_take (i := 6) (oi := ⟨some 43, .move (.tmp 2), 30, "chronicle.go:126", #[], none⟩) (v := .slice A n cp) rfl (by kernel_rfl) (by kernel_rfl) (by kernel_rfl) (fun _ _ _ h => h) (Or.inl ⟨by rfl, fun w hSw => by go_simp⟩) (by assumption) ?_
    try simp only [Act.put, stA, stB, stC]
    refine wpAnyH_take (i := 8) (oi := ⟨some 45, .move (.tmp 7), 89, "chronicle.go:126", #[], none⟩) (v := .pointer (some ⟨g, o9, none⟩)) rfl (by kernel_rfl) (by kernel_rfl) (by kernel_rfl) (fun _ _ _ h => h) (Or.inl ⟨by rfl, fun w hSw => by go_simp⟩) (by assumption) ?_
    try simp only [Act.put, stA, stB, stC]
    refine wpAnyH_take (i := 9) (oi := ⟨some 46, .nilCheck (.tmp 45), 0, "chronicle.go:126", #[⟨8, .data⟩], none⟩) (v := .pointer (some ⟨g, o9, none⟩)) rfl (by kernel_rfl) (by kernel_rfl) (by kernel_rfl) (fun _ _ _ h => h) (Or.inl ⟨by rfl, fun w hSw => by go_simp⟩) (by assumption) ?_
    try simp only [Act.put, stA, stB, stC]
    refine wpAnyH_take (i := 10) (oi := ⟨some 47, .fieldAddr 60 (.tmp 46) 3, 0, "chronicle.go:126", #[⟨9, .data⟩], none⟩) (v := .pointer (some ⟨g, o9 + 3, none⟩)) rfl (by kernel_rfl) (by kernel_rfl) (by kernel_rfl) (fun _ _ _ h => h) (Or.inl ⟨by rfl, fun w hSw => by go_simp⟩) (by assumption) ?_
    try simp only [Act.put, stA, stB, stC]
    refine wpAnyH_take (i := 11) (oi := ⟨some 48, .load 3 (.tmp 47), 3, "chronicle.go:126", #[⟨10, .data⟩], none⟩) (v := .int .i64 (z : Int)) rfl (by kernel_rfl) (by kernel_rfl) (by kernel_rfl) (fun _ _ _ h => h) (Or.inl ⟨by rfl, fun w hSw => by go_simp⟩) (by assumption) ?_
    try simp only [Act.put, stA, stB, stC]
    refine wpAnyH_take (i := 12) (oi := ⟨some 49, .move (.tmp 10), 3, "chronicle.go:126", #[], none⟩) (v := .int .i64 (e9 : Int)) rfl (by kernel_rfl) (by kernel_rfl) (by kernel_rfl) (fun _ _ _ h => h) (Or.inl ⟨by rfl, fun w hSw => by go_simp⟩) (by assumption) ?_
    try simp only [Act.put, stA, stB, stC]
    refine wpAnyH_ready (rs := [4, 7]) (by kernel_rfl) (by simp) ?_
    refine (AllReadyH.cons (o := ⟨some 41, .load 58 (.tmp 40), 58, "chronicle.go:126", #[⟨3, .data⟩], none⟩) rfl (fun K hK => ?_) (AllReadyH.cons (o := ⟨some 44, .call ⟨.value (.func 54), #[.tmp 43], #[30]⟩, 30, "chronicle.go:126", #[⟨6, .data⟩], none⟩) rfl (fun K hK => ?_) AllReadyH.nil))
    · have y2 := (HY.out wd HBW.out).1
      go_simp
      clear y2
      refine hK.out _ _ (hHeld) (fun hHeld => ?_)
      clear hK K
      try simp only [Act.put, stA, stB, stC]
      skip
      refine wpAnyH_ready (rs := [7]) (by kernel_rfl) (by simp) ?_
      refine AllReadyH.cons (o := ⟨some 44, .call ⟨.value (.func 54), #[.tmp 43], #[30]⟩, 30, "chronicle.go:126", #[⟨6, .data⟩], none⟩) rfl (fun K hK => ?_) AllReadyH.nil
      go_simp
      refine (HCL.out wd HBW.out).mono ?_
      rintro e wd ⟨A9, c9, rfl, O9, B9⟩
      have BW := HBW.out.trans (B9.mono HBW.out.size)
      have hq := (HY.out _ BW).2
      have HP9 := Lib.hid (pat_own (own_le O9 HBW.out.size) HTN.out HN.out)
      clear HBW
      have HBW := Lib.hid BW
      clear BW O9 B9
      refine hK.out _ _ (hq) (fun hHeld => ?_)
      clear hK K
      try simp only [Act.put, stA, stB, stC]
      clear hq
      refine wpAnyH_take (i := 13) (oi := ⟨some 50, .build 75 #[(0, .tmp 42), (1, .tmp 44), (2, .tmp 48), (3, .tmp 49)], 75, "chronicle.go:126", #[⟨5, .data⟩, ⟨7, .data⟩, ⟨11, .data⟩, ⟨12, .data⟩], none⟩) (v := .agg #[.int .u8 (k.toNat : Int), .slice A9 n c9, .int .i64 (z : Int), .int .i64 (e9 : Int)]) rfl (by kernel_rfl) (by kernel_rfl) (by kernel_rfl) (fun _ _ _ h => h) (Or.inl ⟨by rfl, fun w hSw => by go_simp⟩) (by assumption) ?_
      try simp only [Act.put, stA, stB, stC]
      refine wpAnyH_ready (rs := [14]) (by kernel_rfl) (by simp) ?_
      refine AllReadyH.cons (o := ⟨some 51, .buildSlice 58 1 #[(0, .tmp 50)], 58, "chronicle.go:126", #[⟨13, .data⟩], none⟩) rfl (fun K hK => ?_) AllReadyH.nil
      go_simp
      have N6' := heap_alloc_new wd (.cells #[.int .u8 (k.toNat : Int), .slice A9 n c9, .int .i64 (z : Int), .int .i64 (e9 : Int)] 75)
      have B6 : Below wd.heap.size wd (wd.alloc (.cells #[.int .u8 (k.toNat : Int), .slice A9 n c9, .int .i64 (z : Int), .int .i64 (e9 : Int)] 75)) := (Below.refl _ _).alloc (Nat.le_refl _) _
      have BW := HBW.out.trans (B6.mono HBW.out.size)
      have HP8 := Lib.hid (HP9.out.keep (kp_below B6 T4))
      clear HP9
      have HP9 := Lib.hid HP8.out
      obtain ⟨k6, hk6⟩ : ∃ k, k = wd.heap.size := ⟨_, rfl⟩
      rw [← hk6] at N6'
      have N6 := Lib.hid N6'
      clear N6' HBW B6 HP8
      have HBW := Lib.hid BW
      have hq := (HY.out _ BW).2
      generalize wd.alloc (.cells #[.int .u8 (k.toNat : Int), .slice A9 n c9, .int .i64 (z : Int), .int .i64 (e9 : Int)] 75) = wd at *
      simp only [← hk6]
      clear hk6 BW
      refine hK.out _ _ (hq) (fun hHeld => ?_)
      clear hK K
      try simp only [Act.put, stA, stB, stC]
      clear hq
      refine wpAnyH_ready (rs := [15]) (by kernel_rfl) (by simp) ?_
      refine AllReadyH.cons (o := ⟨some 52, .call ⟨.builtin .append, #[.tmp 41, .tmp 51], #[58, 58]⟩, 58, "chronicle.go:126", #[⟨4, .data⟩, ⟨14, .data⟩, ⟨7, .chain⟩], none⟩) rfl (fun K hK => ?_) AllReadyH.nil
      obtain ⟨v7, w7, hrun, ⟨A7, n7, c7, rfl⟩, f7, f8, y8, hend⟩ := atl_end HC4.out HVS.out HMP.out HBW.out k bs A9 n c9 HN.out HP9.out z e9 k6 N6.out HTN.out HL.out.2
      rw [HO9.out] at f8 y8 hend
      refine Lib.wp_append_run _ (.tmp 41) (.tmp 51) 58 58 rfl _ _ rfl rfl _ _ hrun ?_
      have y7 := (f7 (o9 + 3)).1.trans hHeld
      have HEND := Lib.hid hend
      have F8 := Lib.hid (And.intro f8 (y8.trans hHeld))
      have ya := f7 (o9 + 2)
      rw [(HY.out _ HBW.out).1] at ya
      clear hend hrun f8 y8 f7
      refine hK.out _ _ (y7) (fun hHeld => ?_)
      clear hK K
      try simp only [Act.put, stA, stB, stC]
      clear y7
      refine wpAnyH_take (i := 16) (oi := ⟨some 53, .nilCheck (.tmp 37), 0, "chronicle.go:126", #[⟨0, .data⟩, ⟨0, .phase⟩, ⟨1, .phase⟩, ⟨2, .phase⟩, ⟨3, .phase⟩, ⟨4, .phase⟩, ⟨5, .phase⟩, ⟨6, .phase⟩, ⟨7, .phase⟩, ⟨8, .phase⟩, ⟨9, .phase⟩, ⟨10, .phase⟩, ⟨11, .phase⟩, ⟨12, .phase⟩, ⟨13, .phase⟩, ⟨14, .phase⟩, ⟨15, .phase⟩], none⟩) (v := .pointer (some ⟨g, o9, none⟩)) rfl (by kernel_rfl) (by kernel_rfl) (by kernel_rfl) (fun _ _ _ h => h) (Or.inl ⟨by rfl, fun w hSw => by go_simp⟩) (by assumption) ?_
      try simp only [Act.put, stA, stB, stC]
      refine wpAnyH_take (i := 17) (oi := ⟨some 54, .fieldAddr 60 (.tmp 53) 2, 0, "chronicle.go:126", #[⟨16, .data⟩, ⟨0, .phase⟩, ⟨1, .phase⟩, ⟨2, .phase⟩, ⟨3, .phase⟩, ⟨4, .phase⟩, ⟨5, .phase⟩, ⟨6, .phase⟩, ⟨7, .phase⟩, ⟨8, .phase⟩, ⟨9, .phase⟩, ⟨10, .phase⟩, ⟨11, .phase⟩, ⟨12, .phase⟩, ⟨13, .phase⟩, ⟨14, .phase⟩, ⟨15, .phase⟩], none⟩) (v := .pointer (some ⟨g, o9 + 2, none⟩)) rfl (by kernel_rfl) (by kernel_rfl) (by kernel_rfl) (fun _ _ _ h => h) (Or.inl ⟨by rfl, fun w hSw => by go_simp⟩) (by assumption) ?_
      try simp only [Act.put, stA, stB, stC]
      refine wpAnyH_ready (rs := [18]) (by kernel_rfl) (by simp) ?_
      refine AllReadyH.cons (o := ⟨none, .store 58 (.tmp 54) (.tmp 52), 0, "chronicle.go:126", #[⟨17, .data⟩, ⟨15, .data⟩, ⟨15, .chain⟩, ⟨0, .phase⟩, ⟨1, .phase⟩, ⟨2, .phase⟩, ⟨3, .phase⟩, ⟨4, .phase⟩, ⟨5, .phase⟩, ⟨6, .phase⟩, ⟨7, .phase⟩, ⟨8, .phase⟩, ⟨9, .phase⟩, ⟨10, .phase⟩, ⟨11, .phase⟩, ⟨12, .phase⟩, ⟨13, .phase⟩, ⟨14, .phase⟩, ⟨15, .phase⟩], none⟩) rfl (fun K hK => ?_) AllReadyH.nil
      obtain ⟨ya1, ya2⟩ := ya
      go_simp
      clear ya1 ya2
      refine hK.out _ _ (F8.out.2) (fun hHeld => ?_)
      clear hK K
      try simp only [Act.put, stA, stB, stC]
      skip
      refine wpAnyH_done (by kernel_rfl) ?_ _
      try unfold NoPanic
      have f8 := F8.out.1
      have y8 := F8.out.2
      generalize w7.setCell ⟨g, o9 + 2, none⟩ (.slice A7 n7 c7) = w8 at *
      go_wp2
      go_ret
      obtain ⟨C9, K9, R9⟩ := HEND.out e9
      exact HCO.out _ T4 (R9 _ H4.out.1) C9 ((kq_kp (kp_ext H4.out.2)).trans K9)
    · go_simp
      refine (HCL.out wd HBW.out).mono ?_
      rintro e wd ⟨A9, c9, rfl, O9, B9⟩
      have BW := HBW.out.trans (B9.mono HBW.out.size)
      have hq := (HY.out _ BW).2
      have HP9 := Lib.hid (pat_own (own_le O9 HBW.out.size) HTN.out HN.out)
      clear HBW
      have HBW := Lib.hid BW
      clear BW O9 B9
      refine hK.out _ _ (hq) (fun hHeld => ?_)
      clear hK K
      try simp only [Act.put, stA, stB, stC]
      clear hq
      refine wpAnyH_take (i := 13) (oi := ⟨some 50, .build 75 #[(0, .tmp 42), (1, .tmp 44), (2, .tmp 48), (3, .tmp 49)], 75, "chronicle.go:126", #[⟨5, .data⟩, ⟨7, .data⟩, ⟨11, .data⟩, ⟨12, .data⟩], none⟩) (v := .agg #[.int .u8 (k.toNat : Int), .slice A9 n c9, .int .i64 (z : Int), .int .i64 (e9 : Int)]) rfl (by kernel_rfl) (by kernel_rfl) (by kernel_rfl) (fun _ _ _ h => h) (Or.inl ⟨by rfl, fun w hSw => by go_simp⟩) (by assumption) ?_
      try simp only [Act.put, stA, stB, stC]
      refine wpAnyH_ready (rs := [4, 14]) (by kernel_rfl) (by simp) ?_
      refine (AllReadyH.cons (o := ⟨some 41, .load 58 (.tmp 40), 58, "chronicle.go:126", #[⟨3, .data⟩], none⟩) rfl (fun K hK => ?_) (AllReadyH.cons (o := ⟨some 51, .buildSlice 58 1 #[(0, .tmp 50)], 58, "chronicle.go:126", #[⟨13, .data⟩], none⟩) rfl (fun K hK => ?_) AllReadyH.nil))
      · have y2 := (HY.out wd HBW.out).1
        go_simp
        clear y2
        refine hK.out _ _ (hHeld) (fun hHeld => ?_)
        clear hK K
        try simp only [Act.put, stA, stB, stC]
        skip
        refine wpAnyH_ready (rs := [14]) (by kernel_rfl) (by simp) ?_
        refine AllReadyH.cons (o := ⟨some 51, .buildSlice 58 1 #[(0, .tmp 50)], 58, "chronicle.go:126", #[⟨13, .data⟩], none⟩) rfl (fun K hK => ?_) AllReadyH.nil
        go_simp
        have N6' := heap_alloc_new wd (.cells #[.int .u8 (k.toNat : Int), .slice A9 n c9, .int .i64 (z : Int), .int .i64 (e9 : Int)] 75)
        have B6 : Below wd.heap.size wd (wd.alloc (.cells #[.int .u8 (k.toNat : Int), .slice A9 n c9, .int .i64 (z : Int), .int .i64 (e9 : Int)] 75)) := (Below.refl _ _).alloc (Nat.le_refl _) _
        have BW := HBW.out.trans (B6.mono HBW.out.size)
        have HP8 := Lib.hid (HP9.out.keep (kp_below B6 T4))
        clear HP9
        have HP9 := Lib.hid HP8.out
        obtain ⟨k6, hk6⟩ : ∃ k, k = wd.heap.size := ⟨_, rfl⟩
        rw [← hk6] at N6'
        have N6 := Lib.hid N6'
        clear N6' HBW B6 HP8
        have HBW := Lib.hid BW
        have hq := (HY.out _ BW).2
        generalize wd.alloc (.cells #[.int .u8 (k.toNat : Int), .slice A9 n c9, .int .i64 (z : Int), .int .i64 (e9 : Int)] 75) = wd at *
        simp only [← hk6]
        clear hk6 BW
        refine hK.out _ _ (hq) (fun hHeld => ?_)
        clear hK K
        try simp only [Act.put, stA, stB, stC]
        clear hq
        refine wpAnyH_ready (rs := [15]) (by kernel_rfl) (by simp) ?_
        refine AllReadyH.cons (o := ⟨some 52, .call ⟨.builtin .append, #[.tmp 41, .tmp 51], #[58, 58]⟩, 58, "chronicle.go:126", #[⟨4, .data⟩, ⟨14, .data⟩, ⟨7, .chain⟩], none⟩) rfl (fun K hK => ?_) AllReadyH.nil
        obtain ⟨v7, w7, hrun, ⟨A7, n7, c7, rfl⟩, f7, f8, y8, hend⟩ := atl_end HC4.out HVS.out HMP.out HBW.out k bs A9 n c9 HN.out HP9.out z e9 k6 N6.out HTN.out HL.out.2
        rw [HO9.out] at f8 y8 hend
        refine Lib.wp_append_run _ (.tmp 41) (.tmp 51) 58 58 rfl _ _ rfl rfl _ _ hrun ?_
        have y7 := (f7 (o9 + 3)).1.trans hHeld
        have HEND := Lib.hid hend
        have F8 := Lib.hid (And.intro f8 (y8.trans hHeld))
        have ya := f7 (o9 + 2)
        rw [(HY.out _ HBW.out).1] at ya
        clear hend hrun f8 y8 f7
        refine hK.out _ _ (y7) (fun hHeld => ?_)
        clear hK K
        try simp only [Act.put, stA, stB, stC]
        clear y7
        refine wpAnyH_take (i := 16) (oi := ⟨some 53, .nilCheck (.tmp 37), 0, "chronicle.go:126", #[⟨0, .data⟩, ⟨0, .phase⟩, ⟨1, .phase⟩, ⟨2, .phase⟩, ⟨3, .phase⟩, ⟨4, .phase⟩, ⟨5, .phase⟩, ⟨6, .phase⟩, ⟨7, .phase⟩, ⟨8, .phase⟩, ⟨9, .phase⟩, ⟨10, .phase⟩, ⟨11, .phase⟩, ⟨12, .phase⟩, ⟨13, .phase⟩, ⟨14, .phase⟩, ⟨15, .phase⟩], none⟩) (v := .pointer (some ⟨g, o9, none⟩)) rfl (by kernel_rfl) (by kernel_rfl) (by kernel_rfl) (fun _ _ _ h => h) (Or.inl ⟨by rfl, fun w hSw => by go_simp⟩) (by assumption) ?_
        try simp only [Act.put, stA, stB, stC]
        refine wpAnyH_take (i := 17) (oi := ⟨some 54, .fieldAddr 60 (.tmp 53) 2, 0, "chronicle.go:126", #[⟨16, .data⟩, ⟨0, .phase⟩, ⟨1, .phase⟩, ⟨2, .phase⟩, ⟨3, .phase⟩, ⟨4, .phase⟩, ⟨5, .phase⟩, ⟨6, .phase⟩, ⟨7, .phase⟩, ⟨8, .phase⟩, ⟨9, .phase⟩, ⟨10, .phase⟩, ⟨11, .phase⟩, ⟨12, .phase⟩, ⟨13, .phase⟩, ⟨14, .phase⟩, ⟨15, .phase⟩], none⟩) (v := .pointer (some ⟨g, o9 + 2, none⟩)) rfl (by kernel_rfl) (by kernel_rfl) (by kernel_rfl) (fun _ _ _ h => h) (Or.inl ⟨by rfl, fun w hSw => by go_simp⟩) (by assumption) ?_
        try simp only [Act.put, stA, stB, stC]
        refine wpAnyH_ready (rs := [18]) (by kernel_rfl) (by simp) ?_
        refine AllReadyH.cons (o := ⟨none, .store 58 (.tmp 54) (.tmp 52), 0, "chronicle.go:126", #[⟨17, .data⟩, ⟨15, .data⟩, ⟨15, .chain⟩, ⟨0, .phase⟩, ⟨1, .phase⟩, ⟨2, .phase⟩, ⟨3, .phase⟩, ⟨4, .phase⟩, ⟨5, .phase⟩, ⟨6, .phase⟩, ⟨7, .phase⟩, ⟨8, .phase⟩, ⟨9, .phase⟩, ⟨10, .phase⟩, ⟨11, .phase⟩, ⟨12, .phase⟩, ⟨13, .phase⟩, ⟨14, .phase⟩, ⟨15, .phase⟩], none⟩) rfl (fun K hK => ?_) AllReadyH.nil
        obtain ⟨ya1, ya2⟩ := ya
        go_simp
        clear ya1 ya2
        refine hK.out _ _ (F8.out.2) (fun hHeld => ?_)
        clear hK K
        try simp only [Act.put, stA, stB, stC]
        skip
        refine wpAnyH_done (by kernel_rfl) ?_ _
        try unfold NoPanic
        have f8 := F8.out.1
        have y8 := F8.out.2
        generalize w7.setCell ⟨g, o9 + 2, none⟩ (.slice A7 n7 c7) = w8 at *
        go_wp2
        go_ret
        obtain ⟨C9, K9, R9⟩ := HEND.out e9
        exact HCO.out _ T4 (R9 _ H4.out.1) C9 ((kq_kp (kp_ext H4.out.2)).trans K9)
      · go_simp
        have N6' := heap_alloc_new wd (.cells #[.int .u8 (k.toNat : Int), .slice A9 n c9, .int .i64 (z : Int), .int .i64 (e9 : Int)] 75)
        have B6 : Below wd.heap.size wd (wd.alloc (.cells #[.int .u8 (k.toNat : Int), .slice A9 n c9, .int .i64 (z : Int), .int .i64 (e9 : Int)] 75)) := (Below.refl _ _).alloc (Nat.le_refl _) _
        have BW := HBW.out.trans (B6.mono HBW.out.size)
        have HP8 := Lib.hid (HP9.out.keep (kp_below B6 T4))
        clear HP9
        have HP9 := Lib.hid HP8.out
        obtain ⟨k6, hk6⟩ : ∃ k, k = wd.heap.size := ⟨_, rfl⟩
        rw [← hk6] at N6'
        have N6 := Lib.hid N6'
        clear N6' HBW B6 HP8
        have HBW := Lib.hid BW
        have hq := (HY.out _ BW).2
        generalize wd.alloc (.cells #[.int .u8 (k.toNat : Int), .slice A9 n c9, .int .i64 (z : Int), .int .i64 (e9 : Int)] 75) = wd at *
        simp only [← hk6]
        clear hk6 BW
        refine hK.out _ _ (hq) (fun hHeld => ?_)
        clear hK K
        try simp only [Act.put, stA, stB, stC]
        clear hq
        refine wpAnyH_ready (rs := [4]) (by kernel_rfl) (by simp) ?_
        refine AllReadyH.cons (o := ⟨some 41, .load 58 (.tmp 40), 58, "chronicle.go:126", #[⟨3, .data⟩], none⟩) rfl (fun K hK => ?_) AllReadyH.nil
        have y2 := (HY.out wd HBW.out).1
        go_simp
        clear y2
        refine hK.out _ _ (hHeld) (fun hHeld => ?_)
        clear hK K
        try simp only [Act.put, stA, stB, stC]
        skip
        refine wpAnyH_ready (rs := [15]) (by kernel_rfl) (by simp) ?_
        refine AllReadyH.cons (o := ⟨some 52, .call ⟨.builtin .append, #[.tmp 41, .tmp 51], #[58, 58]⟩, 58, "chronicle.go:126", #[⟨4, .data⟩, ⟨14, .data⟩, ⟨7, .chain⟩], none⟩) rfl (fun K hK => ?_) AllReadyH.nil
        obtain ⟨v7, w7, hrun, ⟨A7, n7, c7, rfl⟩, f7, f8, y8, hend⟩ := atl_end HC4.out HVS.out HMP.out HBW.out k bs A9 n c9 HN.out HP9.out z e9 k6 N6.out HTN.out HL.out.2
        rw [HO9.out] at f8 y8 hend
        refine Lib.wp_append_run _ (.tmp 41) (.tmp 51) 58 58 rfl _ _ rfl rfl _ _ hrun ?_
        have y7 := (f7 (o9 + 3)).1.trans hHeld
        have HEND := Lib.hid hend
        have F8 := Lib.hid (And.intro f8 (y8.trans hHeld))
        have ya := f7 (o9 + 2)
        rw [(HY.out _ HBW.out).1] at ya
        clear hend hrun f8 y8 f7
        refine hK.out _ _ (y7) (fun hHeld => ?_)
        clear hK K
        try simp only [Act.put, stA, stB, stC]
        clear y7
        refine wpAnyH_take (i := 16) (oi := ⟨some 53, .nilCheck (.tmp 37), 0, "chronicle.go:126", #[⟨0, .data⟩, ⟨0, .phase⟩, ⟨1, .phase⟩, ⟨2, .phase⟩, ⟨3, .phase⟩, ⟨4, .phase⟩, ⟨5, .phase⟩, ⟨6, .phase⟩, ⟨7, .phase⟩, ⟨8, .phase⟩, ⟨9, .phase⟩, ⟨10, .phase⟩, ⟨11, .phase⟩, ⟨12, .phase⟩, ⟨13, .phase⟩, ⟨14, .phase⟩, ⟨15, .phase⟩], none⟩) (v := .pointer (some ⟨g, o9, none⟩)) rfl (by kernel_rfl) (by kernel_rfl) (by kernel_rfl) (fun _ _ _ h => h) (Or.inl ⟨by rfl, fun w hSw => by go_simp⟩) (by assumption) ?_
        try simp only [Act.put, stA, stB, stC]
        refine wpAnyH_take (i := 17) (oi := ⟨some 54, .fieldAddr 60 (.tmp 53) 2, 0, "chronicle.go:126", #[⟨16, .data⟩, ⟨0, .phase⟩, ⟨1, .phase⟩, ⟨2, .phase⟩, ⟨3, .phase⟩, ⟨4, .phase⟩, ⟨5, .phase⟩, ⟨6, .phase⟩, ⟨7, .phase⟩, ⟨8, .phase⟩, ⟨9, .phase⟩, ⟨10, .phase⟩, ⟨11, .phase⟩, ⟨12, .phase⟩, ⟨13, .phase⟩, ⟨14, .phase⟩, ⟨15, .phase⟩], none⟩) (v := .pointer (some ⟨g, o9 + 2, none⟩)) rfl (by kernel_rfl) (by kernel_rfl) (by kernel_rfl) (fun _ _ _ h => h) (Or.inl ⟨by rfl, fun w hSw => by go_simp⟩) (by assumption) ?_
        try simp only [Act.put, stA, stB, stC]
        refine wpAnyH_ready (rs := [18]) (by kernel_rfl) (by simp) ?_
        refine AllReadyH.cons (o := ⟨none, .store 58 (.tmp 54) (.tmp 52), 0, "chronicle.go:126", #[⟨17, .data⟩, ⟨15, .data⟩, ⟨15, .chain⟩, ⟨0, .phase⟩, ⟨1, .phase⟩, ⟨2, .phase⟩, ⟨3, .phase⟩, ⟨4, .phase⟩, ⟨5, .phase⟩, ⟨6, .phase⟩, ⟨7, .phase⟩, ⟨8, .phase⟩, ⟨9, .phase⟩, ⟨10, .phase⟩, ⟨11, .phase⟩, ⟨12, .phase⟩, ⟨13, .phase⟩, ⟨14, .phase⟩, ⟨15, .phase⟩], none⟩) rfl (fun K hK => ?_) AllReadyH.nil
        obtain ⟨ya1, ya2⟩ := ya
        go_simp
        clear ya1 ya2
        refine hK.out _ _ (F8.out.2) (fun hHeld => ?_)
        clear hK K
        try simp only [Act.put, stA, stB, stC]
        skip
        refine wpAnyH_done (by kernel_rfl) ?_ _
        try unfold NoPanic
        have f8 := F8.out.1
        have y8 := F8.out.2
        generalize w7.setCell ⟨g, o9 + 2, none⟩ (.slice A7 n7 c7) = w8 at *
        go_wp2
        go_ret
        obtain ⟨C9, K9, R9⟩ := HEND.out e9
        exact HCO.out _ T4 (R9 _ H4.out.1) C9 ((kq_kp (kp_ext H4.out.2)).trans K9)
  · have h0' : ¬ (co : Int) = 0 := by omega
    have X5 := Lib.hid X4
    clear X4
    go_wp2
    go_ret
    exact HFIN.out _ T4 H4.out.1 (by rw [if_neg h0]; exact ⟨_, _, _, _, HH.out.1.keep (kp_ext X5.out)⟩) (kq_kp (kp_ext X5.out))
end Go.Proofs.YtdbhgkbmbbjpdaaGreatDoor.Chr

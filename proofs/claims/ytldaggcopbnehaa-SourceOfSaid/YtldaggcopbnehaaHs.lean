/- Acts behind acts: 'append' at a step of a region that draws its order. -/
import Derived.Test.YtldaggcopbnehaaHi
import Derived.Deep.RegionLaw
import Derived.Laws.AppendOwnNone
namespace Go.Proofs.Ytldaggcopbnehaa.Chg
open Coin
open Go.ChangeShapes Go.WideShapes Go.ChangeAt Go.RowKit

def HAct.cl (d : HAct) : List Value := [.int .u8 (d.P : Int), .int .u8 (d.Via : Int), .int .u8 (d.Metric : Int), .int .u8 (d.Seq : Int), .int .u8 (d.Later : Int)]
def HAct.Ok (d : HAct) : Prop := d.P < 256 ∧ d.Via < 256 ∧ d.Metric < 256 ∧ d.Seq < 256 ∧ d.Later < 256
theorem hcl_len (d : HAct) : d.cl.length = 5 := rfl
theorem hflat_len (ds : List HAct) : (ds.flatMap HAct.cl).length = ds.length * 5 := by
  induction ds with
  | nil => rfl
  | cons c cs ih => rw [List.flatMap_cons, List.length_append, ih, hcl_len, List.length_cons]; omega
theorem hflat_at : ∀ (ds : List HAct) (k i : Nat) (hk : k < ds.length), i < 5 → (ds.flatMap HAct.cl)[k * 5 + i]? = (ds[k].cl)[i]?
  | c :: cs, 0, i, _, hi => by
    rw [List.flatMap_cons, List.getElem?_append_left (by rw [hcl_len]; omega), Nat.zero_mul, Nat.zero_add]; rfl
  | c :: cs, k + 1, i, hk, hi => by
    rw [List.flatMap_cons, List.getElem?_append_right (by rw [hcl_len]; omega), hcl_len, show (k + 1) * 5 + i - 5 = k * 5 + i by omega]
    exact hflat_at cs k i (by simpa using hk) hi
theorem hcl_one (ds : List HAct) : ∀ u ∈ ds.flatMap HAct.cl, u.oneCell' = true := by
  intro u hu
  obtain ⟨d, _, h⟩ := List.mem_flatMap.1 hu
  simp [HAct.cl] at h
  rcases h with rfl | rfl | rfl | rfl | rfl <;> rfl
/-- A slice of acts of the call's own. -/
def HOwn (w : World) (B : Nat) (v : Value) (ds : List HAct) : Prop := w.ownsRow B 77 5 v ds.length (ds.flatMap HAct.cl)
theorem HOwn.nil (w : World) (B : Nat) : HOwn w B (.slice none 0 0) [] := World.ownsRow_nil w B 77 5
theorem HOwn.kept {w w' : World} {B : Nat} {v : Value} {ds : List HAct} (h : HOwn w B v ds) (hb : Below w.heap.size w w') : HOwn w' B v ds :=
  World.ownsRow.kept (row := none) h ⟨hb.os, hb.tape, hb.output, hb.size, fun k hk _ => hb.block k hk⟩ (by cases v.ownBlock <;> simp)
theorem HOwn.form {w : World} {B : Nat} {v : Value} {ds : List HAct} (h : HOwn w B v ds) (hok : ∀ d ∈ ds, d.Ok) : ∃ A c, v = .slice A ds.length c ∧ HSl w A ds := by
  have hh := h
  rcases h.2 with ⟨rfl, h0⟩ | ⟨g, cap, cur, rfl, hB, h2, _⟩
  · exact ⟨none, 0, by rw [h0], fun k hk => by omega⟩
  · refine ⟨_, cap, rfl, fun k hk => ⟨g, 0, rfl, (Array.getElem?_eq_some_iff.1 h2).1, ?_⟩⟩
    have hc : ∀ i, i < 5 → w.cell? ⟨g, 0 + k * 5 + i, none⟩ = (ds[k].cl)[i]? := fun i hi => by
      rw [Nat.zero_add, World.ownsRow.cellAt hh (k * 5 + i) (by omega)]
      exact hflat_at ds k i hk hi
    obtain ⟨o1, o2, o3, o4, o5⟩ := hok _ (List.getElem_mem hk)
    exact ⟨hc 0 (by decide), hc 1 (by decide), hc 2 (by decide), hc 3 (by decide), hc 4 (by decide), o1, o2, o3, o4, o5⟩
/-- The cells of acts that came in, one behind the other. -/
theorem HSl.cells {w : World} {A : Option Addr} {ds : List HAct} (h : HSl w A ds) (h0 : 0 < ds.length) : ∃ ad, A = some ad ∧ ∀ j u, (ds.flatMap HAct.cl)[j]? = some u → w.cell? (ad.add j) = some u := by
  obtain ⟨b, o, e, _, _⟩ := h 0 h0
  refine ⟨_, e, fun j u hj => ?_⟩
  have hjl : j < ds.length * 5 := by rw [← hflat_len]; exact (List.getElem?_eq_some_iff.1 hj).1
  have hk : j / 5 < ds.length := by omega
  obtain ⟨b', o', e', _, ha⟩ := h (j / 5) hk
  rw [e] at e'
  injection e' with e'
  injection e' with e1 e2
  subst e1 e2
  have hadd : (⟨b, o, none⟩ : Addr).add j = ⟨b, o + j, none⟩ := by
    unfold Addr.add
    split
    · rename_i h; subst h; rfl
    · rfl
  rw [hadd, ← hj, show j = j / 5 * 5 + j % 5 by omega, hflat_at ds (j / 5) (j % 5) hk (by omega)]
  have hd : (j / 5 * 5 + j % 5) = j := by omega
  rcases (by omega : j % 5 = 0 ∨ j % 5 = 1 ∨ j % 5 = 2 ∨ j % 5 = 3 ∨ j % 5 = 4) with h5 | h5 | h5 | h5 | h5
  · rw [h5]; exact ha.k0
  · rw [h5]; exact ha.k1
  · rw [h5]; exact ha.k2
  · rw [h5]; exact ha.k3
  · rw [h5]; exact ha.k4
theorem info44 : (Try.prog.info? 77).map (fun i => (i.zero, i.size, i.bytes)) = some (some (.agg #[.int .u8 0, .int .u8 0, .int .u8 0, .int .u8 0, .int .u8 0]), 5, 5) := by kernel_rfl
theorem step_app5 {w : World} {ops : Array Oper} {o : Oper} {a : Act} {K : Act → World → Prop} {Q : Exit → Act → World → Prop} {E : Prop} (hg : o.guard = none) (s x : Operand)
    (hop : o.op = .call { callee := .builtin .append, args := #[s, x], argTypes := #[51, 51] }) (B : Nat) (v : Value) (ds es : List HAct) (A : Option Addr) (m c : Nat) (hs : a.eval s = v) (hx : a.eval x = .slice A m c) (hown : HOwn w B v ds) (hm : m = es.length)
    (hA : A = none → c = 0) (hc : ∀ ad, A = some ad → ∀ j u, (es.flatMap HAct.cl)[j]? = some u → w.cell? (ad.add j) = some u) (hn : A = none → es = []) (hl : ds.length + es.length ≤ 1000) (hB : B ≤ w.heap.size)
    (hK : ∀ v' w', HOwn w' B v' (ds ++ es) → w.grownBy w' v.ownBlock → K (a.put o.dst v') w') : if Region.wanted o (yielded ops a.tmps) = true then Oper.wp Try.prog o a w K Q else E := by
  obtain ⟨i0, hi, hz0, hz1, hz2⟩ := info_parts info44
  have hw : Region.wanted o (yielded ops a.tmps) = true := by simp [Region.wanted, hg]
  rw [if_pos hw]
  subst hm
  cases A with
  | none =>
    obtain rfl := hn rfl
    obtain rfl := hA rfl
    have hrun := run_append_owned_none (P := Try.prog) (w := w) B 51 o.type 77 i0 5 Try.underlying51 hi v ds.length (ds.flatMap HAct.cl) hown
    unfold Oper.wp
    simp [execOp, hop, resolve, invoke, builtin, hs, hx, hrun, Result.andThen]
    exact hK v w (by simpa using hown) (World.grownBy.refl w _)
  | some ad =>
    obtain ⟨v', w', hrun, r1, r2, _⟩ := run_append_own (P := Try.prog) (w := w) B 51 o.type 77 i0 _ 5 5 Try.underlying51 hi hz0 hz1 hz2 rfl (by decide) v ds.length (ds.flatMap HAct.cl) hown ad es.length c (es.flatMap HAct.cl) (hflat_len es) (hc ad rfl) (hcl_one es) (by unfold maxLen; omega) (by omega) hB
    unfold Oper.wp
    simp [execOp, hop, resolve, invoke, builtin, hs, hx, hrun, Result.andThen]
    refine hK v' w' ?_ r2
    unfold HOwn
    rw [List.flatMap_append, List.length_append]
    exact r1
/-- Two boxes of acts. -/
structure Bx5 (w0 w : World) (x y : HAct) : Prop where
  r0 : w.heap[w0.heap.size]? = some (.cells x.cl.toArray 77 (0, 0))
  r1 : w.heap[w0.heap.size + 1]? = some (.cells y.cl.toArray 77 (0, 0))
  be : Below w0.heap.size w0 w
theorem Bx5.step {w0 w w' : World} {x y : HAct} (h : Bx5 w0 w x y) (B : Below w.heap.size w w') : Bx5 w0 w' x y :=
  ⟨(B.block _ (Array.getElem?_eq_some_iff.1 h.r0).1).trans h.r0, (B.block _ (Array.getElem?_eq_some_iff.1 h.r1).1).trans h.r1, h.be.trans (B.mono h.be.size)⟩
theorem Bx5.grown {w0 w w' : World} {x y : HAct} {r : Option Nat} (h : Bx5 w0 w x y) (G : w.grownBy w' r) (hr : ∀ k, r = some k → w0.heap.size + 1 < k) : Bx5 w0 w' x y :=
  ⟨(G.block _ (Array.getElem?_eq_some_iff.1 h.r0).1 (fun e => by have := hr _ e.symm; omega)).trans h.r0, (G.block _ (Array.getElem?_eq_some_iff.1 h.r1).1 (fun e => by have := hr _ e.symm; omega)).trans h.r1, h.be.grown G h.be.size (fun k e => by have := hr k e; omega)⟩
theorem Bx5.lt {w0 w : World} {x y : HAct} (h : Bx5 w0 w x y) : w0.heap.size + 1 < w.heap.size := (Array.getElem?_eq_some_iff.1 h.r1).1
theorem Bx5.new (w : World) (x y : HAct) : Bx5 w ((w.alloc (.cells x.cl.toArray 77)).alloc (.cells y.cl.toArray 77)) x y :=
  ⟨heap_new0 w _ _, heap_new1 w _ _, ((Below.refl _ _).alloc (Nat.le_refl _) _).alloc (by simp) _⟩
theorem hcells {w : World} {b : Nat} {x : HAct} (h : w.heap[b]? = some (.cells x.cl.toArray 77 (0, 0))) : w.cell? ⟨b, 0, none⟩ = some (.int .u8 (x.P : Int)) ∧ w.cell? ⟨b, 1, none⟩ = some (.int .u8 (x.Via : Int)) ∧ w.cell? ⟨b, 2, none⟩ = some (.int .u8 (x.Metric : Int)) ∧ w.cell? ⟨b, 3, none⟩ = some (.int .u8 (x.Seq : Int)) ∧ w.cell? ⟨b, 4, none⟩ = some (.int .u8 (x.Later : Int)) :=
  row5 h
/-- One act in a block of its own. -/
theorem one_cells {w : World} {b : Nat} {x : HAct} (h : w.heap[b]? = some (.cells x.cl.toArray 77 (0, 0))) : ∀ ad, (some ⟨b, 0, none⟩ : Option Addr) = some ad → ∀ j u, ([x].flatMap HAct.cl)[j]? = some u → w.cell? (ad.add j) = some u := by
  intro ad e j u hj
  injection e with e
  subst e
  rw [zero_add', cell_of_row _ _ j _ 77 (0, 0) h, ← hj]
  simp
end Go.Proofs.Ytldaggcopbnehaa.Chg

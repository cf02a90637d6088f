/- Acts that came in: a slice of them, read out of memory. -/
import Derived.Test.YtldaggcopbnehaaSf
import Derived.Deep.Fields
import Derived.OpenShut
namespace Go.Proofs.Ytldaggcopbnehaa.Src
open Go.ChangeShapes Go.WideShapes Go.ChangeAt Go.RowKit
set_option linter.unusedVariables false
theorem bounds_u8 {a : Int} (h : (Lit.int .u8 a).wf = true) : 0 ≤ a ∧ a ≤ 255 := wf_iff.1 h
theorem bounds_u16 {a : Int} (h : (Lit.int .u16 a).wf = true) : 0 ≤ a ∧ a ≤ 65535 := wf_iff.1 h

structure ActD where
  K : Nat
  N : Nat
  C : Nat
instance : Inhabited ActD := ⟨⟨0, 0, 0⟩⟩
structure AAt (w : World) (b o : Nat) (d : ActD) : Prop where
  k : w.cell? ⟨b, o, none⟩ = some (.int .u8 (d.K : Int))
  n : w.cell? ⟨b, o + 1, none⟩ = some (.int .u8 (d.N : Int))
  c : w.cell? ⟨b, o + 2, none⟩ = some (.int .u16 (d.C : Int))
  hK : d.K < 256
  hN : d.N < 256
  hC : d.C < 65536
/-- What the walk is told of a slice of acts that came in. -/
def IsActs (w : World) (a : Option Addr) (len cap : Nat) (ds : List ActD) : Prop :=
  len = ds.length ∧ len ≤ cap ∧ cap ≤ maxLen ∧ ∀ k (hk : k < ds.length), ∃ b o, a = some ⟨b, o, none⟩ ∧ b < w.heap.size ∧ AAt w b (o + k * 3) ds[k]
theorem add_zero' (b o i : Nat) : (⟨b, o, none⟩ : Addr).add i = ⟨b, o + i, none⟩ := by
  unfold Addr.add
  split
  · rename_i h; subst h; rfl
  · rfl
theorem three {α : Type} (cs : List α) (h : cs.length = 3) : ∃ v0 v1 v2, cs = [v0, v1, v2] := by
  rcases cs with _ | ⟨v0, _ | ⟨v1, _ | ⟨v2, _ | ⟨v3, cs⟩⟩⟩⟩
  · simp at h
  · simp at h
  · simp at h
  · exact ⟨v0, v1, v2, rfl⟩
  · simp at h
theorem cells37 : Try.prog.cellsOf 37 = 3 := by kernel_rfl
theorem act_of {H : Type} {enc : TypeId × Value → H} {w : World} {base n b o : Nat} {cs : List Value} {x : DataW H × List MemPlace} (h : DataW.trod enc Try.prog w base (fun _ => true) true n 37 cs = some x)
    (hcell : ∀ j, j < 3 → w.cell? ⟨b, o + j, none⟩ = cs[j]?) (hs : ∃ fs, Try.prog.underlying 37 = some (.struct fs) ∧ fs.size = 3 ∧ ∀ i, i < 3 → ∃ f, fs[i]? = some f ∧ f.offset = i ∧ Try.prog.cellsOf f.type = 1 ∧ f.type = if i = 2 then 26 else 5) : ∃ d : ActD, AAt w b o d := by
  obtain ⟨fs, hu, hsz, hf⟩ := hs
  obtain ⟨xs, n', _, _, hlen, hxl, hfld⟩ := DataW.trod_struct hu h
  have hl5 : cs.length = 3 := hlen.trans cells37
  obtain ⟨v0, v1, v2, rfl⟩ := three cs hl5
  have g : ∀ i (hi : i < 3), ∃ y, DataW.trod enc Try.prog w base (fun _ => true) true n' (if i = 2 then 26 else 5) (([v0, v1, v2].drop i).take 1) = some y := fun i hi => by
    obtain ⟨f, h1, h2, h3, h4⟩ := hf i hi
    have := hfld i f h1
    rw [h2, h3, h4] at this
    exact ⟨_, this.trans (List.getElem?_eq_getElem (by omega))⟩
  obtain ⟨y0, g0⟩ := g 0 (by decide)
  obtain ⟨y1, g1⟩ := g 1 (by decide)
  obtain ⟨y2, g2⟩ := g 2 (by decide)
  obtain ⟨K, e0, _, w0⟩ := DataW.trod_int (t := 5) Try.underlying5 g0
  obtain ⟨N, e1, _, w1⟩ := DataW.trod_int (t := 5) Try.underlying5 g1
  obtain ⟨C, e2, _, w2⟩ := DataW.trod_int (t := 26) Try.underlying26 g2
  have f0 : v0 = .int .u8 K := by simpa using e0
  have f1 : v1 = .int .u8 N := by simpa using e1
  have f2 : v2 = .int .u16 C := by simpa using e2
  subst f0 f1 f2
  have b0 := bounds_u8 w0
  have b1 := bounds_u8 w1
  have b2 := bounds_u16 w2
  obtain ⟨K, rfl⟩ := Int.eq_ofNat_of_zero_le b0.1
  obtain ⟨N, rfl⟩ := Int.eq_ofNat_of_zero_le b1.1
  obtain ⟨C, rfl⟩ := Int.eq_ofNat_of_zero_le b2.1
  exact ⟨⟨K, N, C⟩, hcell 0 (by decide), hcell 1 (by decide), hcell 2 (by decide), (by show K < 256; omega), (by show N < 256; omega), (by show C < 65536; omega)⟩
theorem struct37 : ∃ fs, Try.prog.underlying 37 = some (.struct fs) ∧ fs.size = 3 ∧ ∀ i, i < 3 → ∃ f, fs[i]? = some f ∧ f.offset = i ∧ Try.prog.cellsOf f.type = 1 ∧ f.type = if i = 2 then 26 else 5 := by
  refine ⟨_, Try.underlying37, rfl, fun i hi => ?_⟩
  have h : i = 0 ∨ i = 1 ∨ i = 2 := by omega
  rcases h with rfl | rfl | rfl
  all_goals exact ⟨_, rfl, rfl, by kernel_rfl, rfl⟩
theorem acts_of {H : Type} {enc : TypeId × Value → H} {w : World} {base fuel : Nat} {cs : List Value} {x : DataW H × List MemPlace} (h : DataW.trod enc Try.prog w base (fun _ => true) true fuel 22 cs = some x) :
    ∃ a len cap ds, cs = [.slice a len cap] ∧ IsActs w a len cap ds := by
  rcases Go.Deep.open_slice Try.underlying22 h with ⟨rfl, _⟩ | ⟨a, len, cap, m, n, D, Pl, rfl, _, hl, hm, hmm, _, hel⟩
  · exact ⟨none, 0, 0, [], rfl, rfl, Nat.le_refl _, Nat.zero_le _, fun k hk => (by simp at hk)⟩
  have hC := cells37
  generalize Try.prog.cellsOf 37 = c at hel hC
  subst hC
  have hmc : m = cap := by simpa using hmm
  subst hmc
  have he : ∀ i, i < len → ∃ d : ActD, ∃ b o, a = ⟨b, o, none⟩ ∧ b < w.heap.size ∧ AAt w b (o + i * 3) d := fun i hi => by
    have hsp : a.spot = none := by
      obtain ⟨cs', h1, _⟩ := hel 0 (by omega)
      obtain ⟨_, h5, hc⟩ := World.cells?_some h1
      have h0 := hc 0 (by decide)
      rw [List.getElem?_eq_getElem (show 0 < cs'.length by omega)] at h0
      have e0 : ∀ a : Addr, a.add 0 = a := fun a => by unfold Addr.add; rw [if_pos rfl]
      have e : (a.add (0 * 3)).add 0 = a := by rw [Nat.zero_mul, e0, e0]
      have := World.cell?_spot h0
      rw [e] at this
      exact this
    obtain ⟨cs', h1, h2⟩ := hel i (by omega)
    obtain ⟨_, h5, hc⟩ := World.cells?_some h1
    have h0 := hc 0 (by decide)
    obtain ⟨b, o, sp⟩ := a
    have hsp : sp = none := hsp
    subst hsp
    rw [List.getElem?_eq_getElem (show 0 < cs'.length by omega)] at h0
    have hb := block_lt_of_cell h0
    rw [add_zero', add_zero'] at hb
    obtain ⟨d, hd⟩ := act_of (b := b) (o := o + i * 3) h2 (fun j hj => by have := hc j hj; rwa [add_zero', add_zero'] at this) struct37
    exact ⟨d, b, o, rfl, hb, hd⟩
  obtain ⟨F, hF⟩ := Go.Deep.choose_lt he
  refine ⟨some a, len, m, (List.range len).map F, rfl, by simp, hl, hm, fun k hk => ?_⟩
  have hk' : k < len := by simpa using hk
  obtain ⟨b, o, e, hb, hA⟩ := hF k hk'
  have e2 : ((List.range len).map F)[k] = F k := by simp
  rw [e2]
  exact ⟨b, o, by rw [e], hb, hA⟩
/-- An act, in a later world. -/
theorem IsActs.at' {w wr : World} {a : Option Addr} {len cap : Nat} {ds : List ActD} (h : IsActs w a len cap ds) (hb : Below w.heap.size w wr) (k : Nat) (hk : k < len) :
    ∃ d : ActD, ∃ b o, a = some ⟨b, o, none⟩ ∧ AAt wr b (o + k * 3) d := by
  obtain ⟨hl, _, _, hc⟩ := h
  obtain ⟨b, o, e, hlt, hA⟩ := hc k (by omega)
  exact ⟨ds[k], b, o, e, (hb.cell (p := ⟨b, _, none⟩) hlt).trans hA.k, (hb.cell (p := ⟨b, _, none⟩) hlt).trans hA.n, (hb.cell (p := ⟨b, _, none⟩) hlt).trans hA.c, hA.hK, hA.hN, hA.hC⟩
theorem row3 {w : World} {b : Nat} {t : TypeId} {x0 x1 x2 : Value} (h : w.heap[b]? = some (.cells #[x0, x1, x2] t (0, 0))) : w.cell? ⟨b, 0, none⟩ = some x0 ∧ w.cell? ⟨b, 1, none⟩ = some x1 ∧ w.cell? ⟨b, 2, none⟩ = some x2 ∧ ∀ i, w.frozen? ⟨b, i, none⟩ = false :=
  ⟨cell_of_row w b 0 _ t (0, 0) h, cell_of_row w b 1 _ t (0, 0) h, cell_of_row w b 2 _ t (0, 0) h, fun i => frozen_of_row w b i _ t h⟩
theorem SrcAt.mono {lo lo' : Nat} {w : World} {q : Nat} {f : Mk} {c : Nat} (h : SrcAt lo w q f c) (hl : lo' ≤ lo) : SrcAt lo' w q f c := by
  obtain ⟨h1, v, h2, h3⟩ := h
  refine ⟨Nat.le_trans hl h1, v, h2, ?_⟩
  rcases h3 with h3 | ⟨b, e, hb, hm⟩
  · exact Or.inl h3
  · exact Or.inr ⟨b, e, Nat.le_trans hl hb, hm⟩
end Go.Proofs.Ytldaggcopbnehaa.Src

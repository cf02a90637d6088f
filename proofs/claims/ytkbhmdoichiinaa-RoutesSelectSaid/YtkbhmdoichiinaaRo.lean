/- Acts that came in. -/
import Derived.Test.YtkbhmdoichiinaaRn
import Derived.Deep.Fields
import Derived.OpenShut
namespace Go.Proofs.Ytkbhmdoichiinaa.Rts
open Pre Ser
open Go.Proofs.Ytkbhmdoichiinaa.Src (row1 row2)
open Go.ChangeShapes Go.WideShapes Go.ChangeAt Go.RowKit
set_option maxRecDepth 8000
set_option linter.unusedVariables false

theorem wf_iff {k : IntKind} {n : Int} : (Lit.int k n).wf = true ↔ k.min ≤ n ∧ n ≤ k.max := by
  show (decide _ && decide _) = true ↔ _
  rw [Bool.and_eq_true, decide_eq_true_iff, decide_eq_true_iff]
theorem bounds_u8 {a : Int} (h : (Lit.int .u8 a).wf = true) : 0 ≤ a ∧ a ≤ 255 := wf_iff.1 h
theorem bounds_u16 {a : Int} (h : (Lit.int .u16 a).wf = true) : 0 ≤ a ∧ a ≤ 65535 := wf_iff.1 h
structure AAt (w : World) (b o : Nat) (d : ActD) : Prop where
  k : w.cell? ⟨b, o, none⟩ = some (.int .u8 (d.K : Int))
  y : w.cell? ⟨b, o + 1, none⟩ = some (.int .u8 (d.B : Int))
  p : w.cell? ⟨b, o + 2, none⟩ = some (.int .u8 (d.P : Int))
  q : w.cell? ⟨b, o + 3, none⟩ = some (.int .u8 (d.Q : Int))
  m : w.cell? ⟨b, o + 4, none⟩ = some (.int .u16 (d.M : Int))
  ok : d.Ok
/-- What the walk is told of a slice of acts that came in. -/
def IsActs (w : World) (a : Option Addr) (len cap : Nat) (ds : List ActD) : Prop :=
  len = ds.length ∧ len ≤ cap ∧ cap ≤ maxLen ∧ ∀ k (hk : k < ds.length), ∃ b o, a = some ⟨b, o, none⟩ ∧ b < w.heap.size ∧ AAt w b (o + k * 5) ds[k]
theorem add_zero' (b o i : Nat) : (⟨b, o, none⟩ : Addr).add i = ⟨b, o + i, none⟩ := by
  unfold Addr.add
  split
  · rename_i h; subst h; rfl
  · rfl
theorem five {α : Type} (cs : List α) (h : cs.length = 5) : ∃ v0 v1 v2 v3 v4, cs = [v0, v1, v2, v3, v4] := by
  rcases cs with _ | ⟨v0, _ | ⟨v1, _ | ⟨v2, _ | ⟨v3, _ | ⟨v4, _ | ⟨v5, cs⟩⟩⟩⟩⟩⟩
  · simp at h
  · simp at h
  · simp at h
  · simp at h
  · simp at h
  · exact ⟨v0, v1, v2, v3, v4, rfl⟩
  · simp at h
theorem cells34 : Try.prog.cellsOf 34 = 5 := by kernel_rfl
theorem act_of {H : Type} {enc : TypeId × Value → H} {w : World} {base n b o : Nat} {cs : List Value} {x : DataW H × List MemPlace} (h : DataW.trod enc Try.prog w base (fun _ => true) true n 34 cs = some x)
    (hcell : ∀ j, j < 5 → w.cell? ⟨b, o + j, none⟩ = cs[j]?) (hs : ∃ fs, Try.prog.underlying 34 = some (.struct fs) ∧ fs.size = 5 ∧ ∀ i, i < 5 → ∃ f, fs[i]? = some f ∧ f.offset = i ∧ Try.prog.cellsOf f.type = 1 ∧ f.type = if i = 4 then 32 else 5) : ∃ d : ActD, AAt w b o d := by
  obtain ⟨fs, hu, hsz, hf⟩ := hs
  obtain ⟨xs, n', _, _, hlen, hxl, hfld⟩ := DataW.trod_struct hu h
  have hl5 : cs.length = 5 := hlen.trans cells34
  obtain ⟨v0, v1, v2, v3, v4, rfl⟩ := five cs hl5
  have g : ∀ i (hi : i < 5), ∃ y, DataW.trod enc Try.prog w base (fun _ => true) true n' (if i = 4 then 32 else 5) (([v0, v1, v2, v3, v4].drop i).take 1) = some y := fun i hi => by
    obtain ⟨f, h1, h2, h3, h4⟩ := hf i hi
    have := hfld i f h1
    rw [h2, h3, h4] at this
    exact ⟨_, this.trans (List.getElem?_eq_getElem (by omega))⟩
  obtain ⟨y0, g0⟩ := g 0 (by decide)
  obtain ⟨y1, g1⟩ := g 1 (by decide)
  obtain ⟨y2, g2⟩ := g 2 (by decide)
  obtain ⟨y3, g3⟩ := g 3 (by decide)
  obtain ⟨y4, g4⟩ := g 4 (by decide)
  obtain ⟨K, e0, _, w0⟩ := DataW.trod_int (t := 5) Try.underlying5 g0
  obtain ⟨B, e1, _, w1⟩ := DataW.trod_int (t := 5) Try.underlying5 g1
  obtain ⟨P, e2, _, w2⟩ := DataW.trod_int (t := 5) Try.underlying5 g2
  obtain ⟨Q, e3, _, w3⟩ := DataW.trod_int (t := 5) Try.underlying5 g3
  obtain ⟨M, e4, _, w4⟩ := DataW.trod_int (t := 32) Try.underlying32 g4
  have f0 : v0 = .int .u8 K := by simpa using e0
  have f1 : v1 = .int .u8 B := by simpa using e1
  have f2 : v2 = .int .u8 P := by simpa using e2
  have f3 : v3 = .int .u8 Q := by simpa using e3
  have f4 : v4 = .int .u16 M := by simpa using e4
  subst f0 f1 f2 f3 f4
  have b0 := bounds_u8 w0
  have b1 := bounds_u8 w1
  have b2 := bounds_u8 w2
  have b3 := bounds_u8 w3
  have b4 := bounds_u16 w4
  obtain ⟨K, rfl⟩ := Int.eq_ofNat_of_zero_le b0.1
  obtain ⟨B, rfl⟩ := Int.eq_ofNat_of_zero_le b1.1
  obtain ⟨P, rfl⟩ := Int.eq_ofNat_of_zero_le b2.1
  obtain ⟨Q, rfl⟩ := Int.eq_ofNat_of_zero_le b3.1
  obtain ⟨M, rfl⟩ := Int.eq_ofNat_of_zero_le b4.1
  exact ⟨⟨K, B, P, Q, M⟩, hcell 0 (by decide), hcell 1 (by decide), hcell 2 (by decide), hcell 3 (by decide), hcell 4 (by decide), ⟨(by show K < 256; omega), (by show B < 256; omega), (by show P < 256; omega), (by show Q < 256; omega), (by show M < 65536; omega)⟩⟩
theorem struct34 : ∃ fs, Try.prog.underlying 34 = some (.struct fs) ∧ fs.size = 5 ∧ ∀ i, i < 5 → ∃ f, fs[i]? = some f ∧ f.offset = i ∧ Try.prog.cellsOf f.type = 1 ∧ f.type = if i = 4 then 32 else 5 := by
  refine ⟨_, Try.underlying34, rfl, fun i hi => ?_⟩
  have h : i = 0 ∨ i = 1 ∨ i = 2 ∨ i = 3 ∨ i = 4 := by omega
  rcases h with rfl | rfl | rfl | rfl | rfl
  all_goals exact ⟨_, rfl, rfl, by kernel_rfl, rfl⟩
theorem acts_of {H : Type} {enc : TypeId × Value → H} {w : World} {base fuel : Nat} {cs : List Value} {x : DataW H × List MemPlace} (h : DataW.trod enc Try.prog w base (fun _ => true) true fuel 22 cs = some x) :
    ∃ a len cap ds, cs = [.slice a len cap] ∧ IsActs w a len cap ds := by
  rcases Go.Deep.open_slice Try.underlying22 h with ⟨rfl, _⟩ | ⟨a, len, cap, m, n, D, Pl, rfl, _, hl, hm, hmm, _, hel⟩
  · exact ⟨none, 0, 0, [], rfl, rfl, Nat.le_refl _, Nat.zero_le _, fun k hk => (by simp at hk)⟩
  have hC := cells34
  generalize Try.prog.cellsOf 34 = c at hel hC
  subst hC
  have hmc : m = cap := by simpa using hmm
  subst hmc
  have he : ∀ i, i < len → ∃ d : ActD, ∃ b o, a = ⟨b, o, none⟩ ∧ b < w.heap.size ∧ AAt w b (o + i * 5) d := fun i hi => by
    have hsp : a.spot = none := by
      obtain ⟨cs', h1, _⟩ := hel 0 (by omega)
      obtain ⟨_, h5, hc⟩ := World.cells?_some h1
      have h0 := hc 0 (by decide)
      rw [List.getElem?_eq_getElem (show 0 < cs'.length by omega)] at h0
      have e0 : ∀ a : Addr, a.add 0 = a := fun a => by unfold Addr.add; rw [if_pos rfl]
      have e : (a.add (0 * 5)).add 0 = a := by rw [Nat.zero_mul, e0, e0]
      have := World.cell?_spot h0
      rw [e] at this
      exact this
    obtain ⟨cs', h1, h2⟩ := hel i (by omega)
    obtain ⟨_, h5, hc⟩ := World.cells?_some h1
    have h0 := hc 0 (by decide)
    obtain ⟨b, o, sp⟩ := a
    have hsp : sp = none := hsp
    subst hsp
    rw [List.getElem?_eq_getElem (show 0 < cs'.length by omega)] at h0
    have hb := block_lt_of_cell h0
    rw [add_zero', add_zero'] at hb
    obtain ⟨d, hd⟩ := act_of (b := b) (o := o + i * 5) h2 (fun j hj => by have := hc j hj; rwa [add_zero', add_zero'] at this) struct34
    exact ⟨d, b, o, rfl, hb, hd⟩
  obtain ⟨F, hF⟩ := Go.Deep.choose_lt he
  refine ⟨some a, len, m, (List.range len).map F, rfl, by simp, hl, hm, fun k hk => ?_⟩
  have hk' : k < len := by simpa using hk
  obtain ⟨b, o, e, hb, hA⟩ := hF k hk'
  have e2 : ((List.range len).map F)[k] = F k := by simp
  rw [e2]
  exact ⟨b, o, by rw [e], hb, hA⟩
/-- An act, in a later world. -/
theorem IsActs.at' {w wr : World} {a : Option Addr} {len cap : Nat} {ds : List ActD} (h : IsActs w a len cap ds) (hb : Below w.heap.size w wr) (k : Nat) (hk : k < ds.length) :
    ∃ b o, a = some ⟨b, o, none⟩ ∧ b < w.heap.size ∧ AAt wr b (o + k * 5) ds[k] := by
  obtain ⟨hl, _, _, hc⟩ := h
  obtain ⟨b, o, e, hlt, hA⟩ := hc k hk
  exact ⟨b, o, e, hlt, (hb.cell (p := ⟨b, _, none⟩) hlt).trans hA.k, (hb.cell (p := ⟨b, _, none⟩) hlt).trans hA.y, (hb.cell (p := ⟨b, _, none⟩) hlt).trans hA.p, (hb.cell (p := ⟨b, _, none⟩) hlt).trans hA.q, (hb.cell (p := ⟨b, _, none⟩) hlt).trans hA.m, hA.ok⟩
end Go.Proofs.Ytkbhmdoichiinaa.Rts

/- Acts that came in: a slice of them, read out of memory. -/
import Derived.Test.YtldaggcopbnehaaHs
import Derived.Deep.Fields
import Derived.OpenShut
namespace Go.Proofs.Ytldaggcopbnehaa.Chg
open Coin
open Go.ChangeShapes Go.WideShapes Go.ChangeAt Go.RowKit
set_option maxRecDepth 8000

theorem add_zero' (b o i : Nat) : (⟨b, o, none⟩ : Addr).add i = ⟨b, o + i, none⟩ := by
  unfold Addr.add
  split
  · rename_i h; subst h; rfl
  · rfl
theorem five {α : Type} (cs : List α) (h : cs.length = 5) : ∃ v0 v1 v2 v3 v4, cs = [v0, v1, v2, v3, v4] := by
  rcases cs with _ | ⟨v0, _ | ⟨v1, _ | ⟨v2, _ | ⟨v3, _ | ⟨v4, _ | ⟨v5, cs⟩⟩⟩⟩⟩⟩
  · simp at h
  · simp at h
  · simp at h
  · simp at h
  · simp at h
  · exact ⟨v0, v1, v2, v3, v4, rfl⟩
  · simp at h
theorem cells44 : Try.prog.cellsOf 77 = 5 := by kernel_rfl
theorem act_of {H : Type} {enc : TypeId × Value → H} {w : World} {base n b o : Nat} {cs : List Value} {x : DataW H × List MemPlace} (h : DataW.trod enc Try.prog w base (fun _ => true) true n 77 cs = some x)
    (hcell : ∀ j, j < 5 → w.cell? ⟨b, o + j, none⟩ = cs[j]?) (hs : ∃ fs, Try.prog.underlying 77 = some (.struct fs) ∧ fs.size = 5 ∧ ∀ i, i < 5 → ∃ f, fs[i]? = some f ∧ f.offset = i ∧ Try.prog.cellsOf f.type = 1 ∧ f.type = 5) : ∃ d : HAct, HAt w b o d := by
  obtain ⟨fs, hu, hsz, hf⟩ := hs
  obtain ⟨xs, n', _, _, hlen, hxl, hfld⟩ := DataW.trod_struct hu h
  have hl5 : cs.length = 5 := hlen.trans cells44
  obtain ⟨v0, v1, v2, v3, v4, rfl⟩ := five cs hl5
  have g : ∀ i (hi : i < 5), ∃ y, DataW.trod enc Try.prog w base (fun _ => true) true n' 5 (([v0, v1, v2, v3, v4].drop i).take 1) = some y := fun i hi => by
    obtain ⟨f, h1, h2, h3, h4⟩ := hf i hi
    have := hfld i f h1
    rw [h2, h3, h4] at this
    exact ⟨_, this.trans (List.getElem?_eq_getElem (by omega))⟩
  obtain ⟨y0, g0⟩ := g 0 (by decide)
  obtain ⟨y1, g1⟩ := g 1 (by decide)
  obtain ⟨y2, g2⟩ := g 2 (by decide)
  obtain ⟨y3, g3⟩ := g 3 (by decide)
  obtain ⟨y4, g4⟩ := g 4 (by decide)
  obtain ⟨K, e0, _, w0⟩ := DataW.trod_int (t := 5) Try.underlying5 g0
  obtain ⟨A, e1, _, w1⟩ := DataW.trod_int (t := 5) Try.underlying5 g1
  obtain ⟨B, e2, _, w2⟩ := DataW.trod_int (t := 5) Try.underlying5 g2
  obtain ⟨N, e3, _, w3⟩ := DataW.trod_int (t := 5) Try.underlying5 g3
  obtain ⟨L, e4, _, w4⟩ := DataW.trod_int (t := 5) Try.underlying5 g4
  have f0 : v0 = .int .u8 K := by simpa using e0
  have f1 : v1 = .int .u8 A := by simpa using e1
  have f2 : v2 = .int .u8 B := by simpa using e2
  have f3 : v3 = .int .u8 N := by simpa using e3
  have f4 : v4 = .int .u8 L := by simpa using e4
  subst f0 f1 f2 f3 f4
  have b0 := bounds_u8 w0
  have b1 := bounds_u8 w1
  have b2 := bounds_u8 w2
  have b3 := bounds_u8 w3
  have b4 := bounds_u8 w4
  obtain ⟨K, rfl⟩ := Int.eq_ofNat_of_zero_le b0.1
  obtain ⟨A, rfl⟩ := Int.eq_ofNat_of_zero_le b1.1
  obtain ⟨B, rfl⟩ := Int.eq_ofNat_of_zero_le b2.1
  obtain ⟨N, rfl⟩ := Int.eq_ofNat_of_zero_le b3.1
  obtain ⟨L, rfl⟩ := Int.eq_ofNat_of_zero_le b4.1
  exact ⟨⟨K, A, B, N, L⟩, hcell 0 (by decide), hcell 1 (by decide), hcell 2 (by decide), hcell 3 (by decide), hcell 4 (by decide), (by show K < 256; omega), (by show A < 256; omega), (by show B < 256; omega), (by show N < 256; omega), (by show L < 256; omega)⟩
theorem struct44 : ∃ fs, Try.prog.underlying 77 = some (.struct fs) ∧ fs.size = 5 ∧ ∀ i, i < 5 → ∃ f, fs[i]? = some f ∧ f.offset = i ∧ Try.prog.cellsOf f.type = 1 ∧ f.type = 5 := by
  refine ⟨_, Try.underlying77, rfl, fun i hi => ?_⟩
  have h : i = 0 ∨ i = 1 ∨ i = 2 ∨ i = 3 ∨ i = 4 := by omega
  rcases h with rfl | rfl | rfl | rfl | rfl
  all_goals exact ⟨_, rfl, rfl, by kernel_rfl, rfl⟩
theorem act_vals {H : Type} {enc : TypeId × Value → H} {w : World} {base n : Nat} {cs : List Value} {x : DataW H × List MemPlace} (h : DataW.trod enc Try.prog w base (fun _ => true) true n 77 cs = some x)
    (hs : ∃ fs, Try.prog.underlying 77 = some (.struct fs) ∧ fs.size = 5 ∧ ∀ i, i < 5 → ∃ f, fs[i]? = some f ∧ f.offset = i ∧ Try.prog.cellsOf f.type = 1 ∧ f.type = 5) : ∃ d : HAct, d.Ok ∧ cs = d.cl := by
  obtain ⟨fs, hu, hsz, hf⟩ := hs
  obtain ⟨xs, n', _, _, hlen, hxl, hfld⟩ := DataW.trod_struct hu h
  have hl5 : cs.length = 5 := hlen.trans cells44
  obtain ⟨v0, v1, v2, v3, v4, rfl⟩ := five cs hl5
  have g : ∀ i (hi : i < 5), ∃ y, DataW.trod enc Try.prog w base (fun _ => true) true n' 5 (([v0, v1, v2, v3, v4].drop i).take 1) = some y := fun i hi => by
    obtain ⟨f, h1, h2, h3, h4⟩ := hf i hi
    have := hfld i f h1
    rw [h2, h3, h4] at this
    exact ⟨_, this.trans (List.getElem?_eq_getElem (by omega))⟩
  obtain ⟨y0, g0⟩ := g 0 (by decide)
  obtain ⟨y1, g1⟩ := g 1 (by decide)
  obtain ⟨y2, g2⟩ := g 2 (by decide)
  obtain ⟨y3, g3⟩ := g 3 (by decide)
  obtain ⟨y4, g4⟩ := g 4 (by decide)
  obtain ⟨K, e0, _, w0⟩ := DataW.trod_int (t := 5) Try.underlying5 g0
  obtain ⟨A, e1, _, w1⟩ := DataW.trod_int (t := 5) Try.underlying5 g1
  obtain ⟨B, e2, _, w2⟩ := DataW.trod_int (t := 5) Try.underlying5 g2
  obtain ⟨N, e3, _, w3⟩ := DataW.trod_int (t := 5) Try.underlying5 g3
  obtain ⟨L, e4, _, w4⟩ := DataW.trod_int (t := 5) Try.underlying5 g4
  have f0 : v0 = .int .u8 K := by simpa using e0
  have f1 : v1 = .int .u8 A := by simpa using e1
  have f2 : v2 = .int .u8 B := by simpa using e2
  have f3 : v3 = .int .u8 N := by simpa using e3
  have f4 : v4 = .int .u8 L := by simpa using e4
  subst f0 f1 f2 f3 f4
  have b0 := bounds_u8 w0
  have b1 := bounds_u8 w1
  have b2 := bounds_u8 w2
  have b3 := bounds_u8 w3
  have b4 := bounds_u8 w4
  obtain ⟨K, rfl⟩ := Int.eq_ofNat_of_zero_le b0.1
  obtain ⟨A, rfl⟩ := Int.eq_ofNat_of_zero_le b1.1
  obtain ⟨B, rfl⟩ := Int.eq_ofNat_of_zero_le b2.1
  obtain ⟨N, rfl⟩ := Int.eq_ofNat_of_zero_le b3.1
  obtain ⟨L, rfl⟩ := Int.eq_ofNat_of_zero_le b4.1
  exact ⟨⟨K, A, B, N, L⟩, ⟨(by show K < 256; omega), (by show A < 256; omega), (by show B < 256; omega), (by show N < 256; omega), (by show L < 256; omega)⟩, rfl⟩
theorem act_val {H : Type} {enc : TypeId × Value → H} {w : World} {base b0 : Nat} {r : Reach} {v : Value} {d : DataW H} {p : List MemPlace} (hv : Value.okWide Try.prog w r b0 77 v) (h : DataW.Trod enc Try.prog w base (fun _ => true) true 77 v d p) : ∃ x : HAct, x.Ok ∧ v = .agg x.cl.toArray := by
  obtain ⟨fs, hu, hsz, hf⟩ := struct44
  obtain ⟨cs, rfl, _⟩ := okWide_struct hu hv
  obtain ⟨fuel, hf⟩ := h
  obtain ⟨x, hx, e⟩ := act_vals hf struct44
  refine ⟨x, hx, ?_⟩
  have e : cs.toList = x.cl := by simpa [Value.cells] using e
  rw [← e]
theorem HSl.news {w : World} {A : Option Addr} {ds : List HAct} (h : HSl w A ds) : ∀ ad, A = some ad → ∀ j u, (ds.flatMap HAct.cl)[j]? = some u → w.cell? (ad.add j) = some u := by
  intro ad e j u hj
  have h0 : 0 < ds.length := by
    have := (List.getElem?_eq_some_iff.1 hj).1
    rw [hflat_len] at this
    omega
  obtain ⟨ad', e', hc⟩ := h.cells h0
  rw [e] at e'
  injection e' with e'
  subst e'
  exact hc j u hj
theorem HSl.none {w : World} {A : Option Addr} {ds : List HAct} (h : HSl w A ds) : A = none → ds = [] := fun e => by
  cases ds with
  | nil => rfl
  | cons d ds =>
    obtain ⟨b, o, e2, _⟩ := h 0 (by simp)
    rw [e] at e2; cases e2
abbrev ActD := HAct
/-- What the walk is told of a slice of acts that came in. -/
def IsActs (w : World) (a : Option Addr) (len cap : Nat) (ds : List ActD) : Prop :=
  len = ds.length ∧ len ≤ cap ∧ cap ≤ maxLen ∧ HSl w a ds ∧ (a = none → cap = 0)
theorem HSl.ok {w : World} {A : Option Addr} {ds : List HAct} (h : HSl w A ds) : ∀ d ∈ ds, d.Ok := fun d hd => by
  obtain ⟨k, hk, rfl⟩ := List.getElem_of_mem hd
  obtain ⟨b, o, _, _, ha⟩ := h k hk
  exact ⟨ha.hP, ha.hV, ha.hM, ha.hS, ha.hL⟩
theorem acts_of {H : Type} {enc : TypeId × Value → H} {w : World} {base fuel : Nat} {cs : List Value} {x : DataW H × List MemPlace} (h : DataW.trod enc Try.prog w base (fun _ => true) true fuel 51 cs = some x) :
    ∃ a len cap ds, cs = [.slice a len cap] ∧ IsActs w a len cap ds := by
  rcases Go.Deep.open_slice Try.underlying51 h with ⟨rfl, _⟩ | ⟨a, len, cap, m, n, D, Pl, rfl, _, hl, hm, hmm, _, hel⟩
  · exact ⟨none, 0, 0, [], rfl, rfl, Nat.le_refl _, Nat.zero_le _, fun k hk => (by simp at hk), fun _ => rfl⟩
  have hC := cells44
  generalize Try.prog.cellsOf 77 = c at hel hC
  subst hC
  have hmc : m = cap := by simpa using hmm
  subst hmc
  have he : ∀ i, i < len → ∃ d : HAct, ∃ b o, a = ⟨b, o, none⟩ ∧ b < w.heap.size ∧ HAt w b (o + i * 5) d := fun i hi => by
    have hsp : a.spot = none := by
      obtain ⟨cs', h1, _⟩ := hel 0 (by omega)
      obtain ⟨_, h5, hc⟩ := World.cells?_some h1
      have h0 := hc 0 (by decide)
      rw [List.getElem?_eq_getElem (show 0 < cs'.length by omega)] at h0
      have e0 : ∀ a : Addr, a.add 0 = a := fun a => by unfold Addr.add; rw [if_pos rfl]
      have e : (a.add (0 * 5)).add 0 = a := by rw [Nat.zero_mul, e0, e0]
      have := World.cell?_spot h0
      rw [e] at this
      exact this
    obtain ⟨cs', h1, h2⟩ := hel i (by omega)
    obtain ⟨_, h5, hc⟩ := World.cells?_some h1
    have h0 := hc 0 (by decide)
    obtain ⟨b, o, sp⟩ := a
    have hsp : sp = none := hsp
    subst hsp
    rw [List.getElem?_eq_getElem (show 0 < cs'.length by omega)] at h0
    have hb := block_lt_of_cell h0
    rw [add_zero', add_zero'] at hb
    obtain ⟨d, hd⟩ := act_of (b := b) (o := o + i * 5) h2 (fun j hj => by have := hc j hj; rwa [add_zero', add_zero'] at this) struct44
    exact ⟨d, b, o, rfl, hb, hd⟩
  obtain ⟨F, hF⟩ := Go.Deep.choose_lt he
  refine ⟨some a, len, m, (List.range len).map F, rfl, by simp, hl, hm, fun k hk => ?_, fun h => by cases h⟩
  have hk' : k < len := by simpa using hk
  obtain ⟨b, o, e, hb, hA⟩ := hF k hk'
  have e2 : ((List.range len).map F)[k] = F k := by simp
  rw [e2]
  exact ⟨b, o, by rw [e], hb, hA⟩
end Go.Proofs.Ytldaggcopbnehaa.Chg

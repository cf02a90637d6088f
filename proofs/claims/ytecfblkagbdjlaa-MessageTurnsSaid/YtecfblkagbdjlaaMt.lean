/- Parts that came in: one, and a slice of them, read out of memory. -/
import Derived.Test.YtecfblkagbdjlaaMs
import Derived.Deep.Fields
import Derived.OpenShut
namespace Go.Proofs.Ytecfblkagbdjlaa.Msg
open Go.ChangeShapes Go.WideShapes Go.ChangeAt Go.RowKit
set_option maxRecDepth 8000

instance : Inhabited Pt := ⟨Pt.zero⟩
abbrev ActD := Pt
theorem add_zero' (b o i : Nat) : (⟨b, o, none⟩ : Addr).add i = ⟨b, o + i, none⟩ := by
  unfold Addr.add
  split
  · rename_i h; subst h; rfl
  · rfl
theorem seven {α : Type} (cs : List α) (h : cs.length = 7) : ∃ v0 v1 v2 v3 v4 v5 v6, cs = [v0, v1, v2, v3, v4, v5, v6] := by
  rcases cs with _ | ⟨v0, _ | ⟨v1, _ | ⟨v2, _ | ⟨v3, _ | ⟨v4, _ | ⟨v5, _ | ⟨v6, _ | ⟨v7, cs⟩⟩⟩⟩⟩⟩⟩⟩
  all_goals first | exact ⟨_, _, _, _, _, _, _, rfl⟩ | (simp at h)
theorem cells28 : Try.prog.cellsOf 28 = 7 := by kernel_rfl
theorem cells25 : Try.prog.cellsOf 25 = 2 := by kernel_rfl
/-- Of a struct's fields: the offset, how many cells, the type. -/
def fieldIs (fs : Array Field) (i o c t : Nat) : Prop := ∃ f, fs[i]? = some f ∧ f.offset = o ∧ Try.prog.cellsOf f.type = c ∧ f.type = t
theorem struct28 : ∃ fs, Try.prog.underlying 28 = some (.struct fs) ∧ fs.size = 6 ∧ fieldIs fs 0 0 1 5 ∧ fieldIs fs 1 1 1 22 ∧ fieldIs fs 2 2 1 3 ∧ fieldIs fs 3 3 2 25 ∧ fieldIs fs 4 5 1 26 ∧ fieldIs fs 5 6 1 26 := by
  refine ⟨_, Try.underlying28, rfl, ?_, ?_, ?_, ?_, ?_, ?_⟩
  all_goals exact ⟨_, rfl, rfl, by kernel_rfl, rfl⟩
theorem struct25 : ∃ fs, Try.prog.underlying 25 = some (.struct fs) ∧ fs.size = 2 ∧ fieldIs fs 0 0 1 23 ∧ fieldIs fs 1 1 1 5 := by
  refine ⟨_, Try.underlying25, rfl, ?_, ?_⟩
  all_goals exact ⟨_, rfl, rfl, by kernel_rfl, rfl⟩
theorem part_vals {H : Type} {enc : TypeId × Value → H} {w : World} {base n : Nat} {cs : List Value} {x : DataW H × List MemPlace} (h : DataW.trod enc Try.prog w base (fun _ => true) true n 28 cs = some x) : ∃ d : Pt, d.Fits ∧ cs = d.cl := by
  obtain ⟨fs, hu, hsz, f0, f1, f2, f3, f4, f5⟩ := struct28
  obtain ⟨xs, n', _, _, hlen, hxl, hfld⟩ := DataW.trod_struct hu h
  have hl7 : cs.length = 7 := hlen.trans cells28
  obtain ⟨v0, v1, v2, v3, v4, v5, v6, rfl⟩ := seven cs hl7
  have g : ∀ i o c t, i < 6 → fieldIs fs i o c t → ∃ y, DataW.trod enc Try.prog w base (fun _ => true) true n' t (([v0, v1, v2, v3, v4, v5, v6].drop o).take c) = some y := fun i o c t hi hf => by
    obtain ⟨f, h1, h2, h3, h4⟩ := hf
    have := hfld i f h1
    rw [h2, h3, h4] at this
    exact ⟨_, this.trans (List.getElem?_eq_getElem (by omega))⟩
  obtain ⟨y0, g0⟩ := g 0 0 1 5 (by decide) f0
  obtain ⟨y1, g1⟩ := g 1 1 1 22 (by decide) f1
  obtain ⟨y2, g2⟩ := g 2 2 1 3 (by decide) f2
  obtain ⟨y3, g3⟩ := g 3 3 2 25 (by decide) f3
  obtain ⟨y4, g4⟩ := g 4 5 1 26 (by decide) f4
  obtain ⟨y5, g5⟩ := g 5 6 1 26 (by decide) f5
  obtain ⟨K, e0, _, w0⟩ := DataW.trod_int (t := 5) Try.underlying5 g0
  obtain ⟨N, e1, _, w1⟩ := DataW.trod_int (t := 22) Try.underlying22 g1
  obtain ⟨d, e2, _, w2⟩ := DataW.trod_int (t := 3) Try.underlying3 g2
  obtain ⟨S, e4, _, w4⟩ := DataW.trod_int (t := 26) Try.underlying26 g4
  obtain ⟨M, e5, _, w5⟩ := DataW.trod_int (t := 26) Try.underlying26 g5
  obtain ⟨fs2, hu2, hsz2, p0, p1⟩ := struct25
  obtain ⟨xs2, n2, _, _, _, hxl2, hfld2⟩ := DataW.trod_struct hu2 g3
  have gp : ∀ i o c t, i < 2 → fieldIs fs2 i o c t → ∃ y, DataW.trod enc Try.prog w base (fun _ => true) true n2 t ((((([v0, v1, v2, v3, v4, v5, v6].drop 3).take 2)).drop o).take c) = some y := fun i o c t hi hf => by
    obtain ⟨f, h1, h2, h3, h4⟩ := hf
    have := hfld2 i f h1
    rw [h2, h3, h4] at this
    exact ⟨_, this.trans (List.getElem?_eq_getElem (by omega))⟩
  obtain ⟨z0, q0⟩ := gp 0 0 1 23 (by decide) p0
  obtain ⟨z1, q1⟩ := gp 1 1 1 5 (by decide) p1
  obtain ⟨A, e6, _, w6⟩ := DataW.trod_int (t := 23) Try.underlying23 q0
  obtain ⟨L, e7, _, w7⟩ := DataW.trod_int (t := 5) Try.underlying5 q1
  have k0 : v0 = .int .u8 K := by simpa using e0
  have k1 : v1 = .int .u64 N := by simpa using e1
  have k2 : v2 = .int .i64 d := by simpa using e2
  have k3 : v3 = .int .u32 A := by simpa using e6
  have k4 : v4 = .int .u8 L := by simpa using e7
  have k5 : v5 = .int .u16 S := by simpa using e4
  have k6 : v6 = .int .u16 M := by simpa using e5
  subst k0 k1 k2 k3 k4 k5 k6
  have b0 := bounds_u8 w0
  have b1 := bounds_u64 w1
  have b2 := bounds_i64 w2
  have b3 := bounds_u32 w6
  have b4 := bounds_u8 w7
  have b5 := bounds_u16 w4
  have b6 := bounds_u16 w5
  obtain ⟨K, rfl⟩ := Int.eq_ofNat_of_zero_le b0.1
  obtain ⟨N, rfl⟩ := Int.eq_ofNat_of_zero_le b1.1
  obtain ⟨A, rfl⟩ := Int.eq_ofNat_of_zero_le b3.1
  obtain ⟨L, rfl⟩ := Int.eq_ofNat_of_zero_le b4.1
  obtain ⟨S, rfl⟩ := Int.eq_ofNat_of_zero_le b5.1
  obtain ⟨M, rfl⟩ := Int.eq_ofNat_of_zero_le b6.1
  exact ⟨⟨K, N, d, A, L, S, M⟩, by constructor <;> (dsimp only; omega), rfl⟩
theorem part_val {H : Type} {enc : TypeId × Value → H} {w : World} {base b0 : Nat} {r : Reach} {v : Value} {d : DataW H} {p : List MemPlace} (hv : Value.okWide Try.prog w r b0 28 v) (h : DataW.Trod enc Try.prog w base (fun _ => true) true 28 v d p) : ∃ x : Pt, x.Fits ∧ v = .agg x.cl.toArray := by
  obtain ⟨fs, hu, hsz, _⟩ := struct28
  obtain ⟨cs, rfl, _⟩ := okWide_struct hu hv
  obtain ⟨fuel, hf⟩ := h
  obtain ⟨x, hx, e⟩ := part_vals hf
  refine ⟨x, hx, ?_⟩
  have e : cs.toList = x.cl := by simpa [Value.cells] using e
  rw [← e]
/-- What the walk is told of a slice of parts that came in. -/
def IsActs (w : World) (a : Option Addr) (len cap : Nat) (ds : List Pt) : Prop :=
  len = ds.length ∧ len ≤ cap ∧ cap ≤ maxLen ∧ PSl w a ds ∧ (∀ d ∈ ds, d.Fits) ∧ (a = none → cap = 0)
theorem acts_of {H : Type} {enc : TypeId × Value → H} {w : World} {base fuel : Nat} {cs : List Value} {x : DataW H × List MemPlace} (h : DataW.trod enc Try.prog w base (fun _ => true) true fuel 32 cs = some x) :
    ∃ a len cap ds, cs = [.slice a len cap] ∧ IsActs w a len cap ds := by
  rcases Go.Deep.open_slice Try.underlying32 h with ⟨rfl, _⟩ | ⟨a, len, cap, m, n, D, Pl, rfl, _, hl, hm, hmm, _, hel⟩
  · exact ⟨none, 0, 0, [], rfl, rfl, Nat.le_refl _, Nat.zero_le _, fun k hk => (by simp at hk), fun d hd => (by cases hd), fun _ => rfl⟩
  have hC := cells28
  generalize Try.prog.cellsOf 28 = c at hel hC
  subst hC
  have hmc : m = cap := by simpa using hmm
  subst hmc
  have he : ∀ i, i < len → ∃ d : Pt, d.Fits ∧ ∃ b o, a = ⟨b, o, none⟩ ∧ b < w.heap.size ∧ PAt w b (o + i * 7) d := fun i hi => by
    have hsp : a.spot = none := by
      obtain ⟨cs', h1, _⟩ := hel 0 (by omega)
      obtain ⟨_, h5, hc⟩ := World.cells?_some h1
      have h0 := hc 0 (by decide)
      rw [List.getElem?_eq_getElem (show 0 < cs'.length by omega)] at h0
      have e0 : ∀ a : Addr, a.add 0 = a := fun a => by unfold Addr.add; rw [if_pos rfl]
      have e : (a.add (0 * 7)).add 0 = a := by rw [Nat.zero_mul, e0, e0]
      have := World.cell?_spot h0
      rw [e] at this
      exact this
    obtain ⟨cs', h1, h2⟩ := hel i (by omega)
    obtain ⟨_, h5, hc⟩ := World.cells?_some h1
    have h0 := hc 0 (by decide)
    obtain ⟨b, o, sp⟩ := a
    have hsp : sp = none := hsp
    subst hsp
    rw [List.getElem?_eq_getElem (show 0 < cs'.length by omega)] at h0
    have hb := block_lt_of_cell h0
    rw [add_zero', add_zero'] at hb
    obtain ⟨d, hd, e⟩ := part_vals h2
    subst e
    have hc' : ∀ j, j < 7 → w.cell? ⟨b, o + i * 7 + j, none⟩ = d.cl[j]? := fun j hj => by have := hc j hj; rwa [add_zero', add_zero'] at this
    exact ⟨d, hd, b, o, rfl, hb, hc' 0 (by decide), hc' 1 (by decide), hc' 2 (by decide), hc' 3 (by decide), hc' 4 (by decide), hc' 5 (by decide), hc' 6 (by decide)⟩
  obtain ⟨F, hF⟩ := Go.Deep.choose_lt he
  refine ⟨some a, len, m, (List.range len).map F, rfl, by simp, hl, hm, fun k hk => ?_, fun d hd => ?_, fun h => by cases h⟩
  · have hk' : k < len := by simpa using hk
    obtain ⟨_, b, o, e, hb, hA⟩ := hF k hk'
    have e2 : ((List.range len).map F)[k] = F k := by simp
    rw [e2]
    exact ⟨b, o, by rw [e], hb, hA⟩
  · obtain ⟨k, hk, rfl⟩ := List.mem_map.1 hd
    exact (hF k (List.mem_range.1 hk)).1
end Go.Proofs.Ytecfblkagbdjlaa.Msg

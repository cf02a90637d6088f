/- Acts that came in: a slice of them, read out of memory. -/
import Derived.Test.YtmpcfnlddpofgaaDoorLi
import Derived.Deep.Fields
import Derived.OpenShut
namespace Go.Proofs.YtmpcfnlddpofgaaDoor.Lk
open Go.ChangeShapes Go.WideShapes Go.ChangeAt Go.RowKit
set_option linter.unusedVariables false

structure ActD where
  K : Nat
  N : Nat
  C : Nat
instance : Inhabited ActD := ⟨⟨0, 0, 0⟩⟩
structure AAt (w : World) (b o : Nat) (d : ActD) : Prop where
  k : w.cell? ⟨b, o, none⟩ = some (.int .u8 (d.K : Int))
  n : w.cell? ⟨b, o + 1, none⟩ = some (.int .u8 (d.N : Int))
  c : w.cell? ⟨b, o + 2, none⟩ = some (.int .u16 (d.C : Int))
  hK : d.K < 256
  hN : d.N < 256
  hC : d.C < 65536
/-- What the walk is told of a slice of acts that came in. -/
def IsActs (w : World) (a : Option Addr) (len cap : Nat) (ds : List ActD) : Prop :=
  len = ds.length ∧ len ≤ cap ∧ cap ≤ maxLen ∧ ∀ k (hk : k < ds.length), ∃ b o, a = some ⟨b, o, none⟩ ∧ b < w.heap.size ∧ AAt w b (o + k * 3) ds[k]
theorem add_zero' (b o i : Nat) : (⟨b, o, none⟩ : Addr).add i = ⟨b, o + i, none⟩ := by
  unfold Addr.add
  split
  · rename_i h; subst h; rfl
  · rfl
theorem three {α : Type} (cs : List α) (h : cs.length = 3) : ∃ v0 v1 v2, cs = [v0, v1, v2] := by
  rcases cs with _ | ⟨v0, _ | ⟨v1, _ | ⟨v2, _ | ⟨v3, cs⟩⟩⟩⟩
  · simp at h
  · simp at h
  · simp at h
  · exact ⟨v0, v1, v2, rfl⟩
  · simp at h
theorem cells30 : Tryd.prog.cellsOf 30 = 3 := by kernel_rfl
theorem act_of {H : Type} {enc : TypeId × Value → H} {w : World} {base n b o : Nat} {cs : List Value} {x : DataW H × List MemPlace} (h : DataW.trod enc Tryd.prog w base (fun _ => true) true n 30 cs = some x)
    (hcell : ∀ j, j < 3 → w.cell? ⟨b, o + j, none⟩ = cs[j]?) (hs : ∃ fs, Tryd.prog.underlying 30 = some (.struct fs) ∧ fs.size = 3 ∧ ∀ i, i < 3 → ∃ f, fs[i]? = some f ∧ f.offset = i ∧ Tryd.prog.cellsOf f.type = 1 ∧ f.type = if i = 2 then 28 else 5) : ∃ d : ActD, AAt w b o d := by
  obtain ⟨fs, hu, hsz, hf⟩ := hs
  obtain ⟨xs, n', _, _, hlen, hxl, hfld⟩ := DataW.trod_struct hu h
  have hl5 : cs.length = 3 := hlen.trans cells30
  obtain ⟨v0, v1, v2, rfl⟩ := three cs hl5
  have g : ∀ i (hi : i < 3), ∃ y, DataW.trod enc Tryd.prog w base (fun _ => true) true n' (if i = 2 then 28 else 5) (([v0, v1, v2].drop i).take 1) = some y := fun i hi => by
    obtain ⟨f, h1, h2, h3, h4⟩ := hf i hi
    have := hfld i f h1
    rw [h2, h3, h4] at this
    exact ⟨_, this.trans (List.getElem?_eq_getElem (by omega))⟩
  obtain ⟨y0, g0⟩ := g 0 (by decide)
  obtain ⟨y1, g1⟩ := g 1 (by decide)
  obtain ⟨y2, g2⟩ := g 2 (by decide)
  obtain ⟨K, e0, _, w0⟩ := DataW.trod_int (t := 5) Tryd.underlying5 g0
  obtain ⟨N, e1, _, w1⟩ := DataW.trod_int (t := 5) Tryd.underlying5 g1
  obtain ⟨C, e2, _, w2⟩ := DataW.trod_int (t := 28) Tryd.underlying28 g2
  have f0 : v0 = .int .u8 K := by simpa using e0
  have f1 : v1 = .int .u8 N := by simpa using e1
  have f2 : v2 = .int .u16 C := by simpa using e2
  subst f0 f1 f2
  have b0 := bounds_u8 w0
  have b1 := bounds_u8 w1
  have b2 := bounds_u16 w2
  obtain ⟨K, rfl⟩ := Int.eq_ofNat_of_zero_le b0.1
  obtain ⟨N, rfl⟩ := Int.eq_ofNat_of_zero_le b1.1
  obtain ⟨C, rfl⟩ := Int.eq_ofNat_of_zero_le b2.1
  exact ⟨⟨K, N, C⟩, hcell 0 (by decide), hcell 1 (by decide), hcell 2 (by decide), (by show K < 256; omega), (by show N < 256; omega), (by show C < 65536; omega)⟩
theorem struct30 : ∃ fs, Tryd.prog.underlying 30 = some (.struct fs) ∧ fs.size = 3 ∧ ∀ i, i < 3 → ∃ f, fs[i]? = some f ∧ f.offset = i ∧ Tryd.prog.cellsOf f.type = 1 ∧ f.type = if i = 2 then 28 else 5 := by
  refine ⟨_, Tryd.underlying30, rfl, fun i hi => ?_⟩
  have h : i = 0 ∨ i = 1 ∨ i = 2 := by omega
  rcases h with rfl | rfl | rfl
  all_goals exact ⟨_, rfl, rfl, by kernel_rfl, rfl⟩
theorem acts_of {H : Type} {enc : TypeId × Value → H} {w : World} {base fuel : Nat} {cs : List Value} {x : DataW H × List MemPlace} (h : DataW.trod enc Tryd.prog w base (fun _ => true) true fuel 22 cs = some x) :
    ∃ a len cap ds, cs = [.slice a len cap] ∧ IsActs w a len cap ds := by
  rcases Go.Deep.open_slice Tryd.underlying22 h with ⟨rfl, _⟩ | ⟨a, len, cap, m, n, D, Pl, rfl, _, hl, hm, hmm, _, hel⟩
  · exact ⟨none, 0, 0, [], rfl, rfl, Nat.le_refl _, Nat.zero_le _, fun k hk => (by simp at hk)⟩
  have hC := cells30
  generalize Tryd.prog.cellsOf 30 = c at hel hC
  subst hC
  have hmc : m = cap := by simpa using hmm
  subst hmc
  have he : ∀ i, i < len → ∃ d : ActD, ∃ b o, a = ⟨b, o, none⟩ ∧ b < w.heap.size ∧ AAt w b (o + i * 3) d := fun i hi => by
    have hsp : a.spot = none := by
      obtain ⟨cs', h1, _⟩ := hel 0 (by omega)
      obtain ⟨_, h5, hc⟩ := World.cells?_some h1
      have h0 := hc 0 (by decide)
      rw [List.getElem?_eq_getElem (show 0 < cs'.length by omega)] at h0
      have e0 : ∀ a : Addr, a.add 0 = a := fun a => by unfold Addr.add; rw [if_pos rfl]
      have e : (a.add (0 * 3)).add 0 = a := by rw [Nat.zero_mul, e0, e0]
      have := World.cell?_spot h0
      rw [e] at this
      exact this
    obtain ⟨cs', h1, h2⟩ := hel i (by omega)
    obtain ⟨_, h5, hc⟩ := World.cells?_some h1
    have h0 := hc 0 (by decide)
    obtain ⟨b, o, sp⟩ := a
    have hsp : sp = none := hsp
    subst hsp
    rw [List.getElem?_eq_getElem (show 0 < cs'.length by omega)] at h0
    have hb := block_lt_of_cell h0
    rw [add_zero', add_zero'] at hb
    obtain ⟨d, hd⟩ := act_of (b := b) (o := o + i * 3) h2 (fun j hj => by have := hc j hj; rwa [add_zero', add_zero'] at this) struct30
    exact ⟨d, b, o, rfl, hb, hd⟩
  obtain ⟨F, hF⟩ := Go.Deep.choose_lt he
  refine ⟨some a, len, m, (List.range len).map F, rfl, by simp, hl, hm, fun k hk => ?_⟩
  have hk' : k < len := by simpa using hk
  obtain ⟨b, o, e, hb, hA⟩ := hF k hk'
  have e2 : ((List.range len).map F)[k] = F k := by simp
  rw [e2]
  exact ⟨b, o, by rw [e], hb, hA⟩
/-- An act, in a later world. -/
theorem IsActs.at' {w wr : World} {a : Option Addr} {len cap : Nat} {ds : List ActD} (h : IsActs w a len cap ds) (hb : Below w.heap.size w wr) (k : Nat) (hk : k < len) :
    ∃ d : ActD, ∃ b o, a = some ⟨b, o, none⟩ ∧ AAt wr b (o + k * 3) d := by
  obtain ⟨hl, _, _, hc⟩ := h
  obtain ⟨b, o, e, hlt, hA⟩ := hc k (by omega)
  exact ⟨ds[k], b, o, e, (hb.cell (p := ⟨b, _, none⟩) hlt).trans hA.k, (hb.cell (p := ⟨b, _, none⟩) hlt).trans hA.n, (hb.cell (p := ⟨b, _, none⟩) hlt).trans hA.c, hA.hK, hA.hN, hA.hC⟩
/-- What stands at the head of a round. -/
structure Pl (w0 w : World) (q i now next : Nat) (l : L) (g cap : Nat) : Prop where
  me : Me w0 w q l g cap l.c.testBit
  nx : l.c ≠ 0 → next = l.n + 1 + tz l.c
  bnow : now ≤ 300 + 8 * i
  bnext : next ≤ 300 + 20 * i
  bm' : l.m ≤ now + 6
  bh : l.h ≤ now + 20
theorem Me.heardBox {w0 w : World} {q g cap p : Nat} {l : L} {f : Nat → Bool} (h : Me w0 w q l g cap f) (c now : Nat) (hc : c < 65536) (hnow : now ≤ 4611686018427387000) (hp : p ≠ q) (hpl : p < w.heap.size) :
    Calls Tryd.prog 11 #[.pointer (some ⟨q, 0, none⟩), .int .u16 c, .int .u64 now] w fun e w' => e = .returned (.tuple #[]) ∧ Hid (Me w0 w' q (l.heard c now) g cap f) ∧ ∀ j, w'.cell? ⟨p, j, none⟩ = w.cell? ⟨p, j, none⟩ :=
  (heard_any w q l c now h.in'.at' hc hnow).mono fun _ _ k => ⟨k.1, Lib.hid (h.link k.2.1 k.2.2 (heard_ok l c now h.ok hc hnow)), fun j => World.cell?_of_block (k.2.2.block p hpl (by simp; omega))⟩
theorem Pl.heard {w0 w wr : World} {q i now next g cap C : Nat} {l : L} (h : Pl w0 wr q i now next l g cap) (hm : Me w0 w q (l.heard C now) g cap l.c.testBit) : Pl w0 w q (i + 1) now next (l.heard C now) g cap :=
  ⟨hm, h.nx, by have := h.bnow; omega, by have := h.bnext; omega, h.bm', Nat.le_refl _⟩
theorem Pl.hello {w0 w wr : World} {q i now next g cap g' cap' n : Nat} {l : L} (h : Pl w0 wr q i now next l g cap) (hn : n ≤ next + 3 ∨ n ≤ 255) (hm : Me w0 w q (l.hello n now) g' cap' (l.hello n now).c.testBit) : Pl w0 w q (i + 1) now (n + 1) (l.hello n now) g' cap' :=
  ⟨hm, fun _ => by rw [tz_odd _ (hello_c l n now).1]; rfl, by have := h.bnow; omega, by have := h.bnext; omega, Nat.le_refl _, h.bh⟩
theorem Pl.tick {w0 w wr : World} {q i now next g cap g' cap' k n2 : Nat} {l : L} (h : Pl w0 wr q i now next l g cap) (hn : now ≤ n2) (hn2 : n2 ≤ now + 8) (ht : Ticked l n2 k) (hm : Me w0 w q (l.after k n2) g' cap' (sh l.c k).testBit) :
    Pl w0 w q (i + 1) n2 (next + k) (l.after k n2) g' cap' := by
  have hk : k ≤ 16 := by
    rcases Nat.lt_or_ge 16 k with h1 | h1
    · exact absurd (sh_16 l.c 16 (by omega)) (ht.1 16 h1).1
    · exact h1
  refine ⟨hm, fun h0 => ?_, by have := h.bnow; omega, by have := h.bnext; omega, ?_, by have := h.bh; show l.h ≤ n2 + 20; omega⟩
  · have h0 : sh l.c k ≠ 0 := h0
    have hc : l.c ≠ 0 := fun e => by
      rw [e] at h0; exact h0 (by unfold sh; simp)
    show next + k = l.n + 1 + tz (sh l.c k)
    rw [tz_sh _ _ h.me.ok.c h0, h.nx hc]; omega
  · show l.m + 6 * k ≤ n2 + 6
    rcases Nat.eq_zero_or_pos k with h1 | h1
    · subst h1; have := h.bm'; omega
    · have := (ht.1 (k - 1) (by omega)).2; omega
theorem ticked_le {l : L} {n k : Nat} (ht : Ticked l n k) : k ≤ 16 := by
  rcases Nat.lt_or_ge 16 k with h1 | h1
  · exact absurd (sh_16 l.c 16 (by omega)) (ht.1 16 h1).1
  · exact h1
theorem Me.pushed {w0 w : World} {q g cap t : Nat} {l : L} {c : Nat} (h : Me w0 w q l g cap (sh c t).testBit) :
    ∃ g' cap' w', (Builtin.append_ #[27, 27] 27 #[.slice (some ⟨w.heap.size, 0, none⟩) 1 1, .slice (some ⟨g, 0, none⟩) 15 cap]).run Tryd.prog (w.alloc (.cells #[.bool false] 4)) = .ok (.slice (some ⟨g', 0, none⟩) 16 cap') w' ∧
      Me w0 w' q l g' cap' (sh c (t + 1)).testBit := by
  obtain ⟨g', cap', w', h1, h2⟩ := h.push
  exact ⟨g', cap', w', h1, h2.as (by rw [← tick_bits, bm_cons])⟩
/-- The new list is alone. -/
theorem Me.alone {w0 w : World} {q g cap : Nat} {l : L} (h : Me w0 w q l g cap (fun _ => false)) (hc : l.c = 1) : Me w0 (w.setCell ⟨g, 0, none⟩ (.bool true)) q l g cap l.c.testBit :=
  (h.set 0 true).as (by rw [hc]; exact alone_bits)
theorem Me.alone' {w0 w : World} {q g cap : Nat} {l : L} {f : Nat → Bool} (h : Me w0 w q l g cap f) (hc : l.c = 1) :
    Me w0 (w.alloc (.cells ((madeCells #[.bool false] 16).setIfInBounds 0 (.bool true)) 4)) q l w.heap.size 16 l.c.testBit := by
  have e : (w.alloc (.cells (madeCells #[.bool false] 16) 4)).setCell ⟨w.heap.size, 0, none⟩ (.bool true) = w.alloc (.cells ((madeCells #[.bool false] 16).setIfInBounds 0 (.bool true)) 4) := by simp [go_sem]
  have := (Me.made h.in' h.ok).alone hc
  rwa [e] at this
/-- The new list, as far as j rounds have come. -/
def shf (c s j : Nat) : Nat → Bool := fun p => decide (s ≤ p) && decide (p < s + j) && c.testBit (p - s)
theorem Two.start {w0 w : World} {q g cap g1 : Nat} {l : L} {f : Nat → Bool} (h : Two w0 w q l g cap f g1 (fun _ => false)) (c s : Nat) : Two w0 w q l g cap f g1 (shf c s 0) :=
  h.as (bm_congr _ _ _ fun j hj => by
    unfold shf
    by_cases h1 : s ≤ j
    · simp; omega
    · simp [h1])
theorem Two.next {w0 w : World} {q g cap g1 : Nat} {l : L} {f : Nat → Bool} {c s j : Nat} (h : Two w0 w q l g cap f g1 (shf c s j)) (b : Bool) (hb : b = c.testBit j) : Two w0 (w.setCell ⟨g1, j + s, none⟩ (.bool b)) q l g cap f g1 (shf c s (j + 1)) :=
  (h.set (j + s) b).as (bm_congr _ _ _ fun p hp => by
    unfold shf
    by_cases h1 : p = j + s
    · subst h1
      rw [if_pos rfl, hb]
      simp
      omega
    · rw [if_neg h1]
      by_cases h2 : s ≤ p
      · by_cases h3 : p < s + j
        · simp [h2, h3, show p < s + (j + 1) by omega]
        · simp [h2, h3, show ¬ p < s + (j + 1) by omega]
      · simp [h2])
theorem Two.end {w0 w : World} {q g cap g1 : Nat} {l : L} {f : Nat → Bool} {c s j : Nat} (h : Two w0 w q l g cap f g1 (shf c s j)) (hs : 1 ≤ s) (hj : 16 ≤ s + j) (hc : l.c = sh c s + 1) : Me w0 (w.setCell ⟨g1, 0, none⟩ (.bool true)) q l g1 16 l.c.testBit :=
  (h.b.set 0 true).as (by
    rw [hc, ← shift_bits c s hs]
    refine bm_congr _ _ _ fun p hp => ?_
    by_cases h0 : p = 0
    · simp [h0]
    · rw [if_neg h0, if_neg h0]
      unfold shf
      have : p < s + j := by omega
      simp [this])
end Go.Proofs.YtmpcfnlddpofgaaDoor.Lk

/- Acts that came in; their prefixes; the law's own awake. -/
import Derived.Test.YtfhpcpanjonpeaaTo
import Derived.Deep.Fields
import Derived.OpenShut
import Derived.Lib.ItoaNum
namespace Go.Proofs.Ytfhpcpanjonpeaa.Tri
open Pre
open Go.ChangeShapes Go.WideShapes Go.ChangeAt Go.RowKit

theorem add_zero' (b o i : Nat) : (⟨b, o, none⟩ : Addr).add i = ⟨b, o + i, none⟩ := by
  unfold Addr.add
  split
  · rename_i h; subst h; rfl
  · rfl
structure A4 where
  K : Nat
  Ad : Nat
  Ln : Nat
  Vi : Nat
instance : Inhabited A4 := ⟨⟨0, 0, 0, 0⟩⟩
def A4.Ok (d : A4) : Prop := d.K < 256 ∧ d.Ad < 4294967296 ∧ d.Ln < 256 ∧ d.Vi < 256
structure AAt (w : World) (b o : Nat) (d : A4) : Prop where
  k0 : w.cell? ⟨b, o, none⟩ = some (.int .u8 (d.K : Int))
  k1 : w.cell? ⟨b, o + 1, none⟩ = some (.int .u32 (d.Ad : Int))
  k2 : w.cell? ⟨b, o + 2, none⟩ = some (.int .u8 (d.Ln : Int))
  k3 : w.cell? ⟨b, o + 3, none⟩ = some (.int .u8 (d.Vi : Int))
  ok : d.Ok
theorem AAt.keep {w w' : World} {b o : Nat} {d : A4} (h : AAt w b o d) (hb : w'.heap[b]? = w.heap[b]?) : AAt w' b o d := by
  have k : ∀ i, w'.cell? ⟨b, i, none⟩ = w.cell? ⟨b, i, none⟩ := fun i => World.cell?_of_block (a := ⟨b, i, none⟩) hb
  exact ⟨(k _).trans h.k0, (k _).trans h.k1, (k _).trans h.k2, (k _).trans h.k3, h.ok⟩
def ASl (w : World) (A : Option Addr) (ds : List A4) : Prop := ∀ k (hk : k < ds.length), ∃ b o, A = some ⟨b, o, none⟩ ∧ b < w.heap.size ∧ AAt w b (o + k * 4) ds[k]
theorem ASl.below {w w' : World} {A : Option Addr} {ds : List A4} (h : ASl w A ds) (B : Below w.heap.size w w') : ASl w' A ds := fun k hk => by
  obtain ⟨b, o, e, hlt, hc⟩ := h k hk
  exact ⟨b, o, e, Nat.lt_of_lt_of_le hlt B.size, hc.keep (B.block b hlt)⟩
theorem four {α : Type} (cs : List α) (h : cs.length = 4) : ∃ v0 v1 v2 v3, cs = [v0, v1, v2, v3] := by
  rcases cs with _ | ⟨v0, _ | ⟨v1, _ | ⟨v2, _ | ⟨v3, _ | ⟨v4, cs⟩⟩⟩⟩⟩
  · simp at h
  · simp at h
  · simp at h
  · simp at h
  · exact ⟨v0, v1, v2, v3, rfl⟩
  · simp at h
theorem cells35 : Try.prog.cellsOf 35 = 4 := by kernel_rfl
def ty4 (i : Nat) : TypeId := if i = 1 then 30 else 5
theorem a4_of {H : Type} {enc : TypeId × Value → H} {w : World} {base n b o : Nat} {cs : List Value} {x : DataW H × List MemPlace} (h : DataW.trod enc Try.prog w base (fun _ => true) true n 35 cs = some x)
    (hcell : ∀ j, j < 4 → w.cell? ⟨b, o + j, none⟩ = cs[j]?) (hs : ∃ fs, Try.prog.underlying 35 = some (.struct fs) ∧ fs.size = 4 ∧ ∀ i, i < 4 → ∃ f, fs[i]? = some f ∧ f.offset = i ∧ Try.prog.cellsOf f.type = 1 ∧ f.type = ty4 i) : ∃ d : A4, AAt w b o d := by
  obtain ⟨fs, hu, hsz, hf⟩ := hs
  obtain ⟨xs, n', _, _, hlen, hxl, hfld⟩ := DataW.trod_struct hu h
  have hl5 : cs.length = 4 := hlen.trans cells35
  obtain ⟨v0, v1, v2, v3, rfl⟩ := four cs hl5
  have g : ∀ i (hi : i < 4), ∃ y, DataW.trod enc Try.prog w base (fun _ => true) true n' (ty4 i) (([v0, v1, v2, v3].drop i).take 1) = some y := fun i hi => by
    obtain ⟨f, h1, h2, h3, h4⟩ := hf i hi
    have := hfld i f h1
    rw [h2, h3, h4] at this
    exact ⟨_, this.trans (List.getElem?_eq_getElem (by omega))⟩
  obtain ⟨y0, g0⟩ := g 0 (by decide)
  obtain ⟨y1, g1⟩ := g 1 (by decide)
  obtain ⟨y2, g2⟩ := g 2 (by decide)
  obtain ⟨y3, g3⟩ := g 3 (by decide)
  obtain ⟨K, e0, _, w0⟩ := DataW.trod_int (t := 5) Try.underlying5 g0
  obtain ⟨A, e1, _, w1⟩ := DataW.trod_int (t := 30) Try.underlying30 g1
  obtain ⟨B, e2, _, w2⟩ := DataW.trod_int (t := 5) Try.underlying5 g2
  obtain ⟨N, e3, _, w3⟩ := DataW.trod_int (t := 5) Try.underlying5 g3
  have f0 : v0 = .int .u8 K := by simpa using e0
  have f1 : v1 = .int .u32 A := by simpa using e1
  have f2 : v2 = .int .u8 B := by simpa using e2
  have f3 : v3 = .int .u8 N := by simpa using e3
  subst f0 f1 f2 f3
  have b0 := bounds_u8 w0
  have b1 := bounds_u32 w1
  have b2 := bounds_u8 w2
  have b3 := bounds_u8 w3
  obtain ⟨K, rfl⟩ := Int.eq_ofNat_of_zero_le b0.1
  obtain ⟨A, rfl⟩ := Int.eq_ofNat_of_zero_le b1.1
  obtain ⟨B, rfl⟩ := Int.eq_ofNat_of_zero_le b2.1
  obtain ⟨N, rfl⟩ := Int.eq_ofNat_of_zero_le b3.1
  exact ⟨⟨K, A, B, N⟩, hcell 0 (by decide), hcell 1 (by decide), hcell 2 (by decide), hcell 3 (by decide), ⟨(by show K < 256; omega), (by show A < 4294967296; omega), (by show B < 256; omega), (by show N < 256; omega)⟩⟩
theorem struct35 : ∃ fs, Try.prog.underlying 35 = some (.struct fs) ∧ fs.size = 4 ∧ ∀ i, i < 4 → ∃ f, fs[i]? = some f ∧ f.offset = i ∧ Try.prog.cellsOf f.type = 1 ∧ f.type = ty4 i := by
  refine ⟨_, Try.underlying35, rfl, fun i hi => ?_⟩
  have h : i = 0 ∨ i = 1 ∨ i = 2 ∨ i = 3 := by omega
  rcases h with rfl | rfl | rfl | rfl
  all_goals exact ⟨_, rfl, rfl, by kernel_rfl, rfl⟩
abbrev ActD := A4
/-- What the walk is told of a slice of acts that came in. -/
def IsActs (w : World) (a : Option Addr) (len cap : Nat) (ds : List ActD) : Prop :=
  len = ds.length ∧ len ≤ cap ∧ cap ≤ maxLen ∧ ASl w a ds ∧ (a = none → cap = 0)
theorem acts_of {H : Type} {enc : TypeId × Value → H} {w : World} {base fuel : Nat} {cs : List Value} {x : DataW H × List MemPlace} (h : DataW.trod enc Try.prog w base (fun _ => true) true fuel 22 cs = some x) :
    ∃ a len cap ds, cs = [.slice a len cap] ∧ IsActs w a len cap ds := by
  rcases Go.Deep.open_slice Try.underlying22 h with ⟨rfl, _⟩ | ⟨a, len, cap, m, n, D, Pl, rfl, _, hl, hm, hmm, _, hel⟩
  · exact ⟨none, 0, 0, [], rfl, rfl, Nat.le_refl _, Nat.zero_le _, fun k hk => (by simp at hk), fun _ => rfl⟩
  have hC := cells35
  generalize Try.prog.cellsOf 35 = c at hel hC
  subst hC
  have hmc : m = cap := by simpa using hmm
  subst hmc
  have he : ∀ i, i < len → ∃ d : A4, ∃ b o, a = ⟨b, o, none⟩ ∧ b < w.heap.size ∧ AAt w b (o + i * 4) d := fun i hi => by
    have hsp : a.spot = none := by
      obtain ⟨cs', h1, _⟩ := hel 0 (by omega)
      obtain ⟨_, h5, hc⟩ := World.cells?_some h1
      have h0 := hc 0 (by decide)
      rw [List.getElem?_eq_getElem (show 0 < cs'.length by omega)] at h0
      have e0 : ∀ a : Addr, a.add 0 = a := fun a => by unfold Addr.add; rw [if_pos rfl]
      have e : (a.add (0 * 4)).add 0 = a := by rw [Nat.zero_mul, e0, e0]
      have := World.cell?_spot h0
      rw [e] at this
      exact this
    obtain ⟨cs', h1, h2⟩ := hel i (by omega)
    obtain ⟨_, h5, hc⟩ := World.cells?_some h1
    have h0 := hc 0 (by decide)
    obtain ⟨b, o, sp⟩ := a
    have hsp : sp = none := hsp
    subst hsp
    rw [List.getElem?_eq_getElem (show 0 < cs'.length by omega)] at h0
    have hb := block_lt_of_cell h0
    rw [add_zero', add_zero'] at hb
    obtain ⟨d, hd⟩ := a4_of (b := b) (o := o + i * 4) h2 (fun j hj => by have := hc j hj; rwa [add_zero', add_zero'] at this) struct35
    exact ⟨d, b, o, rfl, hb, hd⟩
  obtain ⟨F, hF⟩ := Go.Deep.choose_lt he
  refine ⟨some a, len, m, (List.range len).map F, rfl, by simp, hl, hm, fun k hk => ?_, fun h => by cases h⟩
  have hk' : k < len := by simpa using hk
  obtain ⟨b, o, e, hb, hA⟩ := hF k hk'
  have e2 : ((List.range len).map F)[k] = F k := by simp
  rw [e2]
  exact ⟨b, o, by rw [e], hb, hA⟩
theorem eq_prefix (n : Nat) : ∃ a b c : Nat, n % 3 = a ∧ n / 3 % 2 = b ∧ n / 6 % 3 = c ∧ a < 3 ∧ b < 2 ∧ c < 3 := ⟨_, _, _, rfl, rfl, rfl, by omega, by omega, by omega⟩
/-- One of few prefixes. -/
def pa (n : Nat) : Nat := Pre.top (167772160 + n % 3 * 65536 + n / 3 % 2 * 32768) (8 + n / 6 % 3 * 8)
def pk (n : Nat) : Nat := Pre.len (8 + n / 6 % 3 * 8)
set_option maxHeartbeats 1000000 in
theorem prefix_any (n : Nat) (hn : n < 256) :
    (pa n < 4294967296 ∧ pk n ≤ 32 ∧ Pre.right (pa n) (pk n) = true) ∧ ∀ w, Calls Try.prog 20 #[.int .u8 n] w fun e w' => e = .returned (.agg #[.int .u32 (pa n : Nat), .int .u8 (pk n : Nat)]) ∧ Below w.heap.size w w' := by
  unfold pa pk
  obtain ⟨a, b, c, h1, h2, h3, ha, hb, hc⟩ := eq_prefix n
  rw [h1, h2, h3]
  refine ⟨⟨Pre.top_lt (by omega), by unfold Pre.len; omega, Pre.right_top _ _⟩, fun w => ?_⟩
  have c29 := fun W => Pre.rof_any (167772160 + a * 65536 + b * 32768) (8 + c * 8) (by omega) (by omega) W
  have e1 : (n : Int) % 3 = (a : Int) := by omega
  have e2 : (n : Int) / 3 % 2 = (b : Int) := by omega
  have e3 : (n : Int) / 6 % 3 = (c : Int) := by omega
  have o1 : bits .or .u32 167772160 ((a : Int) * 65536) = ((167772160 + a * 65536 : Nat) : Int) := by
    have := u32_or_nat 167772160 (a * 65536) (by decide) (by omega)
    rw [nat_join 20 _ _ (by decide) (by omega)] at this
    simpa using this
  have o2 : bits .or .u32 (167772160 + (a : Int) * 65536) ((b : Int) * 32768) = ((167772160 + a * 65536 + b * 32768 : Nat) : Int) := by
    have := u32_or_nat (167772160 + a * 65536) (b * 32768) (by omega) (by omega)
    rw [nat_join 16 _ _ (by omega) (by omega)] at this
    simpa using this
  generalize Pre.top (167772160 + a * 65536 + b * 32768) (8 + c * 8) = X at *
  generalize Pre.len (8 + c * 8) = Y at *
  generalize 167772160 + a * 65536 + b * 32768 = Z at *
  clear h1 h2 h3
  go_enter Try.func20, Try.ntmps20
  go_wp2_with fail
  rw [show (8 : Int) + (c : Int) * 8 = ((8 + c * 8 : Nat) : Int) by omega]
  refine (c29 _).mono ?_
  rintro e w' ⟨rfl, B⟩
  have B' := ((Below.refl w.heap.size w).alloc (Nat.le_refl _) (.cells #[.int .u32 0, .int .u8 0] 32)).trans (B.mono (by simp))
  have hr : w'.heap[w.heap.size]? = some (.cells #[.int .u32 0, .int .u8 0] 32 (0, 0)) := by
    rw [B.block _ (by simp)]; exact heap_alloc_new w _
  have hc0 : w'.cell? ⟨w.heap.size, 0, none⟩ = some (.int .u32 0) := by rw [cell_of_row w' _ 0 _ 32 (0, 0) hr]; rfl
  have hc1 : w'.cell? ⟨w.heap.size, 1, none⟩ = some (.int .u8 0) := by rw [cell_of_row w' _ 1 _ 32 (0, 0) hr]; rfl
  have hf0 : w'.frozen? ⟨w.heap.size, 0, none⟩ = false := frozen_of_row w' _ 0 _ 32 hr
  have hf1 : w'.frozen? ⟨w.heap.size, 1, none⟩ = false := frozen_of_row w' _ 1 _ 32 hr
  clear B c29 e1 e2 e3 o1 o2
  go_wp2
  exact bodyPost_ret (v := .agg #[.int .u32 X, .int .u8 Y]) (by simp [results, Try.results20, go_sem, hc0, hc1]) rfl ⟨rfl, (B'.setCell (Nat.le_refl _) _).setCell (Nat.le_refl _) _⟩
/-- The prefix of an act. -/
def A4.pa (d : A4) : Nat := if d.Vi % 2 = 0 then Tri.pa d.Ln else top d.Ad (d.Ln % 34)
def A4.pk (d : A4) : Nat := if d.Vi % 2 = 0 then Tri.pk d.Ln else len (d.Ln % 34)
theorem place_ok (d : A4) (h : d.Ok) : d.pa < 4294967296 ∧ d.pk ≤ 32 ∧ right d.pa d.pk = true := by
  unfold A4.pa A4.pk
  split
  · exact (prefix_any d.Ln h.2.2.1).1
  · exact ⟨top_lt h.2.1, len_le _, right_top _ _⟩
theorem place_any (d : A4) (h : d.Ok) (w : World) : Calls Try.prog 8 #[.agg #[.int .u8 (d.K : Int), .int .u32 (d.Ad : Int), .int .u8 (d.Ln : Int), .int .u8 (d.Vi : Int)]] w fun e w' => e = .returned (.agg #[.int .u32 (d.pa : Int), .int .u8 (d.pk : Int)]) ∧ Below w.heap.size w w' := by
  have BB := ((Below.refl w.heap.size w).alloc (Nat.le_refl _) (.cells #[.int .u8 (d.K : Int), .int .u32 (d.Ad : Int), .int .u8 (d.Ln : Int), .int .u8 (d.Vi : Int)] 35)).alloc (by simp) (.cells #[.int .u32 0, .int .u8 0] 32)
  have HR := Lib.hid (heap_new1 w (.cells #[.int .u8 (d.K : Int), .int .u32 (d.Ad : Int), .int .u8 (d.Ln : Int), .int .u8 (d.Vi : Int)] 35) (.cells #[.int .u32 0, .int .u8 0] 32))
  have HB := Lib.hid BB
  clear BB
  by_cases hv : d.Vi % 2 = 0
  · have c20 := (prefix_any d.Ln h.2.2.1).2
    have e1 : (d.Vi : Int) % 2 = 0 := by omega
    have hpa : d.pa = Tri.pa d.Ln := if_pos hv
    have hpk : d.pk = Tri.pk d.Ln := if_pos hv
    rw [← hpa, ← hpk] at c20
    clear hpa hpk
    generalize d.pa = X at *
    generalize d.pk = Y at *
    go_enter Try.func8, Try.ntmps8
    go_wp2_with (first
      | (go_at_call 20; (with_reducible refine (c20 _).mono ?_); rintro e w1 ⟨rfl, B1⟩; obtain ⟨r0, r1⟩ := row2 ((B1.block _ (by simp)).trans HR.out); have fz := fun i => frozen_of_row w1 (w.heap.size + 1) i _ 32 ((B1.block _ (by simp)).trans HR.out)))
    exact bodyPost_ret (v := .agg #[.int .u32 (X : Int), .int .u8 (Y : Int)]) (by simp [results, Try.results8, go_sem, r0, r1]) rfl ⟨rfl, ((HB.out.trans (B1.mono HB.out.size)).setCell (p := ⟨w.heap.size + 1, 0, none⟩) (by simp) _).setCell (p := ⟨w.heap.size + 1, 1, none⟩) (by simp) _⟩
  · have c21 := fun W => rof_any d.Ad (d.Ln % 34) h.2.1 (by omega) W
    have e1 : (d.Vi : Int) % 2 = 1 := by omega
    have hpa : d.pa = top d.Ad (d.Ln % 34) := if_neg hv
    have hpk : d.pk = len (d.Ln % 34) := if_neg hv
    rw [← hpa, ← hpk] at c21
    clear hpa hpk
    generalize d.pa = X at *
    generalize d.pk = Y at *
    obtain ⟨z, hz⟩ : ∃ z, z = d.Ln % 34 := ⟨_, rfl⟩
    have hz2 : (d.Ln : Int) % 34 = z := by omega
    rw [← hz] at c21
    clear hz
    go_enter Try.func8, Try.ntmps8
    go_wp2_with (first
      | (go_at_call 21; (with_reducible refine (c21 _).mono ?_); rintro e w1 ⟨rfl, B1⟩; obtain ⟨r0, r1⟩ := row2 ((B1.block _ (by simp)).trans HR.out); have fz := fun i => frozen_of_row w1 (w.heap.size + 1) i _ 32 ((B1.block _ (by simp)).trans HR.out)))
    exact bodyPost_ret (v := .agg #[.int .u32 (X : Int), .int .u8 (Y : Int)]) (by simp [results, Try.results8, go_sem, r0, r1]) rfl ⟨rfl, ((HB.out.trans (B1.mono HB.out.size)).setCell (p := ⟨w.heap.size + 1, 0, none⟩) (by simp) _).setCell (p := ⟨w.heap.size + 1, 1, none⟩) (by simp) _⟩
/-- The document's example. -/
def aw2 : List R := [⟨167772160, 8, 0, 0, 0⟩, ⟨167837696, 16, 2, 0, 0⟩]
theorem aw2_len : (puts aw2 2).2 = 2 := by decide +kernel
theorem aw2_look : ((puts aw2 2).1.look 167838211 none).map R.via = some 2 := by decide +kernel
theorem aw2_ok : ∀ r ∈ aw2, r.Ok := by
  intro r hr
  simp [aw2] at hr
  rcases hr with rfl | rfl <;> (unfold R.Ok; decide +kernel)
theorem awake_any (w : World) : Calls Try.prog 7 #[] w fun e w' => e = .returned (.bool true) ∧ Below w.heap.size w w' := by
  have BW := (Below.refl w.heap.size w).alloc (Nat.le_refl _) (.cells #[.int .u32 167772160, .int .u8 8, .int .i64 0, .int .u16 0, .int .u16 0, .int .u32 167837696, .int .u8 16, .int .i64 2, .int .u16 0, .int .u16 0] 39)
  have hsl : RtSl (w.alloc (.cells #[.int .u32 167772160, .int .u8 8, .int .i64 0, .int .u16 0, .int .u16 0, .int .u32 167837696, .int .u8 16, .int .i64 2, .int .u16 0, .int .u16 0] 39)) (some ⟨w.heap.size, 0, none⟩) aw2 := fun k hk => by
    have hr := heap_alloc_new w (.cells #[.int .u32 167772160, .int .u8 8, .int .i64 0, .int .u16 0, .int .u16 0, .int .u32 167837696, .int .u8 16, .int .i64 2, .int .u16 0, .int .u16 0] 39)
    have c := fun i => cell_of_row _ w.heap.size i _ 39 (0, 0) hr
    refine ⟨w.heap.size, 0, rfl, by simp, ?_⟩
    have hk2 : k = 0 ∨ k = 1 := by have h : k < 2 := hk; omega
    rcases hk2 with rfl | rfl
    · exact ⟨c 0, c 1, c 2, c 3, c 4⟩
    · exact ⟨c 5, c 6, c 7, c 8, c 9⟩
  have c16 := Of_any _ (some ⟨w.heap.size, 0, none⟩) 2 2 aw2 rfl (by decide) hsl aw2_ok
  have HB := Lib.hid BW
  clear hsl BW
  have hwf : (puts aw2 2).1.WF := puts_wf aw2_ok 2 (by decide)
  have HL := Lib.hid aw2_look
  rw [aw2_len] at c16
  generalize (puts aw2 2).1 = t at *
  go_enter Try.func7, Try.ntmps7
  go_upto_region 2 with (first
    | (go_at_call 16; (with_reducible refine c16.mono ?_); rintro e w1 ⟨g, bs, rfl, T1, hb1, B1⟩; clear c16))
  have c14 := Look_any T1 hwf 167838211 (by decide)
  obtain ⟨y, hy⟩ : ∃ y, t.look 167838211 none = some y := by
    have h := HL.out
    cases e : t.look 167838211 none with
    | none => rw [e] at h; cases h
    | some y => exact ⟨y, rfl⟩
  have hv : y.via = 2 := by have h := HL.out; rw [hy] at h; simpa using h
  rw [hy] at c14
  unfold ocl R.cl at c14
  dsimp only at c14
  have c14' : Calls Try.prog 14 #[.pointer (some ⟨g, 0, none⟩), .int .u32 167838211] w1 fun e w' => e = .returned (.tuple #[.agg #[.int .u32 (y.a : Int), .int .u8 (y.n : Int), .int .i64 2, .int .u16 y.mt, .int .u16 y.sq], .bool true]) ∧ Below w1.heap.size w1 w' := by
    rw [hv] at c14; exact c14
  clear c14 hv hy HL hwf
  have HT := Lib.hid (And.intro T1 (HB.out.trans (B1.mono HB.out.size)))
  clear T1 hb1 B1
  go_upto_region 3 with (first
    | (go_at_call 14; (with_reducible refine c14'.mono ?_); rintro e w2 ⟨rfl, B2⟩; clear c14'))
  have RN := heap_alloc_new w2 (.cells #[.int .u32 (y.a : Int), .int .u8 (y.n : Int), .int .i64 2, .int .u16 y.mt, .int .u16 y.sq] 39)
  have B3 := B2.trans ((Below.refl w2.heap.size w2).alloc (Nat.le_refl _) (.cells #[.int .u32 (y.a : Int), .int .u8 (y.n : Int), .int .i64 2, .int .u16 y.mt, .int .u16 y.sq] 39) |>.mono B2.size)
  have c12 := len_any (HT.out.1.below B3)
  obtain ⟨y0, y1, y2, y3, y4⟩ := row5 RN
  have c12' : Calls Try.prog 12 #[.pointer (some ⟨g, 0, none⟩)] _ fun e w' => e = .returned (.int .i64 2) ∧ _ = w' := c12
  clear c12 RN
  go_wp2_with (first
    | (go_at_call 12; (with_reducible refine c12'.mono ?_); rintro e w4 ⟨rfl, hw4⟩; rw [← hw4]; clear hw4 w4))
  go_ret
  exact ⟨rfl, HT.out.2.trans (B3.mono HT.out.2.size)⟩
end Go.Proofs.Ytfhpcpanjonpeaa.Tri

/- Acts that came in: a slice of them, read out of memory. A law's router: what went wrong; two lists of ways. A law's router: what one neighbor tells, chosen twice (pure). -/
import Derived.Test.YtjbogjbopgcbhaaGreatDoorZF
import Derived.Deep.Fields
import Derived.OpenShut
import Derived.Test.YtjbogjbopgcbhaaGreatDoorZN
namespace Go.Proofs.YtjbogjbopgcbhaaGreatDoor.Eg
open Go.ChangeShapes Go.WideShapes Go.ChangeAt Go.RowKit
set_option maxRecDepth 8000
set_option linter.unusedVariables false

structure HAct where
  P : Nat
  Via : Nat
  Metric : Nat
  Seq : Nat
  Later : Nat
instance : Inhabited HAct := ⟨⟨0, 0, 0, 0, 0⟩⟩
structure HAt (w : World) (b o : Nat) (d : HAct) : Prop where
  k0 : w.cell? ⟨b, o, none⟩ = some (.int .u8 (d.P : Int))
  k1 : w.cell? ⟨b, o + 1, none⟩ = some (.int .u8 (d.Via : Int))
  k2 : w.cell? ⟨b, o + 2, none⟩ = some (.int .u8 (d.Metric : Int))
  k3 : w.cell? ⟨b, o + 3, none⟩ = some (.int .u8 (d.Seq : Int))
  k4 : w.cell? ⟨b, o + 4, none⟩ = some (.int .u8 (d.Later : Int))
  hP : d.P < 256
  hV : d.Via < 256
  hM : d.Metric < 256
  hS : d.Seq < 256
  hL : d.Later < 256
theorem HAt.keep {w w' : World} {b o : Nat} {d : HAct} (h : HAt w b o d) (hb : w'.heap[b]? = w.heap[b]?) : HAt w' b o d := by
  have k : ∀ i, w'.cell? ⟨b, i, none⟩ = w.cell? ⟨b, i, none⟩ := fun i => World.cell?_of_block (a := ⟨b, i, none⟩) hb
  exact ⟨(k _).trans h.k0, (k _).trans h.k1, (k _).trans h.k2, (k _).trans h.k3, (k _).trans h.k4, h.hP, h.hV, h.hM, h.hS, h.hL⟩
def HSl (w : World) (A : Option Addr) (ds : List HAct) : Prop := ∀ k (hk : k < ds.length), ∃ b o, A = some ⟨b, o, none⟩ ∧ b < w.heap.size ∧ HAt w b (o + k * 5) ds[k]
theorem HSl.below {w w' : World} {A : Option Addr} {ds : List HAct} (h : HSl w A ds) (B : Below w.heap.size w w') : HSl w' A ds := fun k hk => by
  obtain ⟨b, o, e, hlt, hc⟩ := h k hk
  exact ⟨b, o, e, Nat.lt_of_lt_of_le hlt B.size, hc.keep (B.block b hlt)⟩
theorem add_zero' (b o i : Nat) : (⟨b, o, none⟩ : Addr).add i = ⟨b, o + i, none⟩ := by
  unfold Addr.add
  split
  · rename_i h; subst h; rfl
  · rfl
theorem five {α : Type} (cs : List α) (h : cs.length = 5) : ∃ v0 v1 v2 v3 v4, cs = [v0, v1, v2, v3, v4] := by
  rcases cs with _ | ⟨v0, _ | ⟨v1, _ | ⟨v2, _ | ⟨v3, _ | ⟨v4, _ | ⟨v5, cs⟩⟩⟩⟩⟩⟩
  · simp at h
  · simp at h
  · simp at h
  · simp at h
  · simp at h
  · exact ⟨v0, v1, v2, v3, v4, rfl⟩
  · simp at h
theorem cells44 : Tryz.prog.cellsOf 53 = 5 := by kernel_rfl
theorem act_of {H : Type} {enc : TypeId × Value → H} {w : World} {base n b o : Nat} {cs : List Value} {x : DataW H × List MemPlace} (h : DataW.trod enc Tryz.prog w base (fun _ => true) true n 53 cs = some x)
    (hcell : ∀ j, j < 5 → w.cell? ⟨b, o + j, none⟩ = cs[j]?) (hs : ∃ fs, Tryz.prog.underlying 53 = some (.struct fs) ∧ fs.size = 5 ∧ ∀ i, i < 5 → ∃ f, fs[i]? = some f ∧ f.offset = i ∧ Tryz.prog.cellsOf f.type = 1 ∧ f.type = 5) : ∃ d : HAct, HAt w b o d := by
  obtain ⟨fs, hu, hsz, hf⟩ := hs
  obtain ⟨xs, n', _, _, hlen, hxl, hfld⟩ := DataW.trod_struct hu h
  have hl5 : cs.length = 5 := hlen.trans cells44
  obtain ⟨v0, v1, v2, v3, v4, rfl⟩ := five cs hl5
  have g : ∀ i (hi : i < 5), ∃ y, DataW.trod enc Tryz.prog w base (fun _ => true) true n' 5 (([v0, v1, v2, v3, v4].drop i).take 1) = some y := fun i hi => by
    obtain ⟨f, h1, h2, h3, h4⟩ := hf i hi
    have := hfld i f h1
    rw [h2, h3, h4] at this
    exact ⟨_, this.trans (List.getElem?_eq_getElem (by omega))⟩
  obtain ⟨y0, g0⟩ := g 0 (by decide)
  obtain ⟨y1, g1⟩ := g 1 (by decide)
  obtain ⟨y2, g2⟩ := g 2 (by decide)
  obtain ⟨y3, g3⟩ := g 3 (by decide)
  obtain ⟨y4, g4⟩ := g 4 (by decide)
  obtain ⟨K, e0, _, w0⟩ := DataW.trod_int (t := 5) Tryz.underlying5 g0
  obtain ⟨A, e1, _, w1⟩ := DataW.trod_int (t := 5) Tryz.underlying5 g1
  obtain ⟨B, e2, _, w2⟩ := DataW.trod_int (t := 5) Tryz.underlying5 g2
  obtain ⟨N, e3, _, w3⟩ := DataW.trod_int (t := 5) Tryz.underlying5 g3
  obtain ⟨L, e4, _, w4⟩ := DataW.trod_int (t := 5) Tryz.underlying5 g4
  have f0 : v0 = .int .u8 K := by simpa using e0
  have f1 : v1 = .int .u8 A := by simpa using e1
  have f2 : v2 = .int .u8 B := by simpa using e2
  have f3 : v3 = .int .u8 N := by simpa using e3
  have f4 : v4 = .int .u8 L := by simpa using e4
  subst f0 f1 f2 f3 f4
  have b0 := bounds_u8 w0
  have b1 := bounds_u8 w1
  have b2 := bounds_u8 w2
  have b3 := bounds_u8 w3
  have b4 := bounds_u8 w4
  obtain ⟨K, rfl⟩ := Int.eq_ofNat_of_zero_le b0.1
  obtain ⟨A, rfl⟩ := Int.eq_ofNat_of_zero_le b1.1
  obtain ⟨B, rfl⟩ := Int.eq_ofNat_of_zero_le b2.1
  obtain ⟨N, rfl⟩ := Int.eq_ofNat_of_zero_le b3.1
  obtain ⟨L, rfl⟩ := Int.eq_ofNat_of_zero_le b4.1
  exact ⟨⟨K, A, B, N, L⟩, hcell 0 (by decide), hcell 1 (by decide), hcell 2 (by decide), hcell 3 (by decide), hcell 4 (by decide), (by show K < 256; omega), (by show A < 256; omega), (by show B < 256; omega), (by show N < 256; omega), (by show L < 256; omega)⟩
theorem struct44 : ∃ fs, Tryz.prog.underlying 53 = some (.struct fs) ∧ fs.size = 5 ∧ ∀ i, i < 5 → ∃ f, fs[i]? = some f ∧ f.offset = i ∧ Tryz.prog.cellsOf f.type = 1 ∧ f.type = 5 := by
  refine ⟨_, Tryz.underlying53, rfl, fun i hi => ?_⟩
  have h : i = 0 ∨ i = 1 ∨ i = 2 ∨ i = 3 ∨ i = 4 := by omega
  rcases h with rfl | rfl | rfl | rfl | rfl
  all_goals exact ⟨_, rfl, rfl, by kernel_rfl, rfl⟩
abbrev ActD := HAct
def IsActs (w : World) (a : Option Addr) (len cap : Nat) (ds : List ActD) : Prop :=
  len = ds.length ∧ len ≤ cap ∧ cap ≤ maxLen ∧ HSl w a ds ∧ (a = none → cap = 0)
structure HAct.Ok (d : HAct) : Prop where
  P : d.P < 256
  V : d.Via < 256
  M : d.Metric < 256
  S : d.Seq < 256
  L : d.Later < 256
theorem HSl.ok {w : World} {A : Option Addr} {ds : List HAct} (h : HSl w A ds) : ∀ d ∈ ds, d.Ok := fun d hd => by
  obtain ⟨k, hk, rfl⟩ := List.getElem_of_mem hd
  obtain ⟨b, o, _, _, ha⟩ := h k hk
  exact ⟨ha.hP, ha.hV, ha.hM, ha.hS, ha.hL⟩
theorem acts_of {H : Type} {enc : TypeId × Value → H} {w : World} {base fuel : Nat} {cs : List Value} {x : DataW H × List MemPlace} (h : DataW.trod enc Tryz.prog w base (fun _ => true) true fuel 46 cs = some x) :
    ∃ a len cap ds, cs = [.slice a len cap] ∧ IsActs w a len cap ds := by
  rcases Go.Deep.open_slice Tryz.underlying46 h with ⟨rfl, _⟩ | ⟨a, len, cap, m, n, D, Pl, rfl, _, hl, hm, hmm, _, hel⟩
  · exact ⟨none, 0, 0, [], rfl, rfl, Nat.le_refl _, Nat.zero_le _, fun k hk => (by simp at hk), fun _ => rfl⟩
  have hC := cells44
  generalize Tryz.prog.cellsOf 53 = c at hel hC
  subst hC
  have hmc : m = cap := by simpa using hmm
  subst hmc
  have he : ∀ i, i < len → ∃ d : HAct, ∃ b o, a = ⟨b, o, none⟩ ∧ b < w.heap.size ∧ HAt w b (o + i * 5) d := fun i hi => by
    have hsp : a.spot = none := by
      obtain ⟨cs', h1, _⟩ := hel 0 (by omega)
      obtain ⟨_, h5, hc⟩ := World.cells?_some h1
      have h0 := hc 0 (by decide)
      rw [List.getElem?_eq_getElem (show 0 < cs'.length by omega)] at h0
      have e0 : ∀ a : Addr, a.add 0 = a := fun a => by unfold Addr.add; rw [if_pos rfl]
      have e : (a.add (0 * 5)).add 0 = a := by rw [Nat.zero_mul, e0, e0]
      have := World.cell?_spot h0
      rw [e] at this
      exact this
    obtain ⟨cs', h1, h2⟩ := hel i (by omega)
    obtain ⟨_, h5, hc⟩ := World.cells?_some h1
    have h0 := hc 0 (by decide)
    obtain ⟨b, o, sp⟩ := a
    have hsp : sp = none := hsp
    subst hsp
    rw [List.getElem?_eq_getElem (show 0 < cs'.length by omega)] at h0
    have hb := block_lt_of_cell h0
    rw [add_zero', add_zero'] at hb
    obtain ⟨d, hd⟩ := act_of (b := b) (o := o + i * 5) h2 (fun j hj => by have := hc j hj; rwa [add_zero', add_zero'] at this) struct44
    exact ⟨d, b, o, rfl, hb, hd⟩
  obtain ⟨F, hF⟩ := Go.Deep.choose_lt he
  refine ⟨some a, len, m, (List.range len).map F, rfl, by simp, hl, hm, fun k hk => ?_, fun h => by cases h⟩
  have hk' : k < len := by simpa using hk
  obtain ⟨b, o, e, hb, hA⟩ := hF k hk'
  have e2 : ((List.range len).map F)[k] = F k := by simp
  rw [e2]
  exact ⟨b, o, by rw [e], hb, hA⟩
theorem IsActs.step {w W : World} {a : Option Addr} {len cap : Nat} {ds : List HAct} (h : IsActs w a len cap ds) (B : Below w.heap.size w W) : IsActs W a len cap ds := ⟨h.1, h.2.1, h.2.2.1, h.2.2.2.1.below B, h.2.2.2.2⟩
end Go.Proofs.YtjbogjbopgcbhaaGreatDoor.Eg
namespace Go.Proofs.YtjbogjbopgcbhaaGreatDoor.Eg
open Pre Ser Rts
open Go.Proofs.YtjbogjbopgcbhaaGreatDoor.Src (row1 row2 Mk SrcAt)
open Go.Proofs.YtjbogjbopgcbhaaGreatDoor.Lk (LkAt)
open Go.ChangeShapes Go.WideShapes Go.ChangeAt Go.RowKit
set_option maxRecDepth 8000
set_option linter.unusedVariables false
set_option linter.unusedSimpArgs false

open Go.Proofs.YtjbogjbopgcbhaaGreatDoor.Src (pv mv pA pN)
set_option linter.unusedSimpArgs false
/-- A number of its row is another one. -/
theorem EngP.nums {lo : Nat} {w : World} {e e' : Eng} {m : Mem} (h : EngP lo w e m) (he : e' = { e with bad := e'.bad, st := e'.st, he := e'.he, due := e'.due }) : EngP lo w e' m := by
  rw [he]
  exact ⟨h.own, h.src, h.rts, h.nbs, h.lsl, h.lks, h.nd, h.ch, h.lost, h.rq, h.tab, h.lo0⟩
theorem LW.cell {w W : World} {q : Nat} {e e' : Eng} {K : Kept} (h : LW w W q e K) (i : Nat) (v : Value) (hp : ∀ m, EngP w.heap.size W e m → EngP w.heap.size W e' m ∧ (e.row m).setIfInBounds i v = e'.row m) (ok : e'.Ok) : LW w (W.setCell ⟨q, i, none⟩ v) q e' K := by
  obtain ⟨m, hE, hK⟩ := h.ex
  obtain ⟨h1, h2⟩ := hp m hE.p
  have F : Fr (fun k => k = q) W (W.setCell ⟨q, i, none⟩ v) := Fr.grown (grown_setCell W q i v) (fun k e => (Option.some.inj e).symm)
  exact LW.to h.b hK (EngAt.put hE.row hE.le h1 i v h2) (Ef.frm F h.b.size (fun k hk => hk ▸ hE.le) (fun k hk => Or.inl hk)) (fun k hk => Or.inl hk) ok
theorem Eng.Ok.nums {e e' : Eng} (h : e.Ok) (he : e' = { e with bad := e'.bad, st := e'.st, he := e'.he, due := e'.due }) (h1 : e'.bad ≤ 1000000 ∧ e'.st ≤ 1000000 ∧ e'.he ≤ 1000000) : e'.Ok := by
  have h2 := h.cts
  rw [he]
  exact ⟨h.idl, h.nbu, h.nbl, h.nbk, h.ri, h.lok, h.lle, h.chu, h.cho, h.chl, h.owo, h.owl, h.lou, h.loo, h.lol, h.rql, h.cl, h1.1, h1.2.1, h2.2.2.1, h2.2.2.2.1, h1.2.2⟩
theorem bad_lw {w W : World} {q : Nat} {e : Eng} {K : Kept} (h : LW w W q e K) (hb : e.bad ≤ 900000) :
    Calls Tryz.prog 34 #[.pointer (some ⟨q, 0, none⟩)] W fun en w' => en = .returned (.tuple #[]) ∧ LW w w' q { e with bad := e.bad + 1 } K := by
  have HI := Lib.hid (h.cell (e' := { e with bad := e.bad + 1 }) 6 (.int .i64 ((e.bad + 1 : Nat) : Int)) (fun m hp => ⟨hp.nums rfl, rfl⟩) (h.ok.nums rfl ⟨by show e.bad + 1 ≤ _; omega, h.ok.cts.2.1, h.ok.cts.2.2.2.2⟩))
  obtain ⟨m, hE, -⟩ := h.ex
  have c6 := hE.ec.c6
  have hf := hE.ec.fz 6
  have hql := hE.lt
  generalize e.bad = k at *
  clear h hE
  go_enter Tryz.func34, Tryz.ntmps34
  go_wp2
  exact bodyPost_end (v := .tuple #[]) (by simp [results, Tryz.results34, go_sem]) rfl ⟨rfl, HI.out⟩
theorem set4 {w : World} {b : Nat} {t : TypeId} {x0 x1 x2 x3 : Value} (h : w.heap[b]? = some (.cells #[x0, x1, x2, x3] t (0, 0))) (y0 y1 y2 y3 : Value) : ((((w.setCell ⟨b, 0, none⟩ y0).setCell ⟨b, 1, none⟩ y1).setCell ⟨b, 2, none⟩ y2).setCell ⟨b, 3, none⟩ y3).heap[b]? = some (.cells #[y0, y1, y2, y3] t (0, 0)) := by
  have h6 := heap_setCell_same _ b 3 _ t y3 (heap_setCell_same _ b 2 _ t y2 (heap_setCell_same _ b 1 _ t y1 (heap_setCell_same w b 0 _ t y0 h)))
  simpa using h6
theorem grown4 (w : World) (b : Nat) (y0 y1 y2 y3 : Value) : w.grownBy ((((w.setCell ⟨b, 0, none⟩ y0).setCell ⟨b, 1, none⟩ y1).setCell ⟨b, 2, none⟩ y2).setCell ⟨b, 3, none⟩ y3) (some b) := (((grown_setCell w b 0 y0).trans (grown_setCell _ b 1 y1)).trans (grown_setCell _ b 2 y2)).trans (grown_setCell _ b 3 y3)
theorem info80c : (Tryz.prog.info? 80).map (·.size) = some 4 := by kernel_rfl
theorem counts_lw {w W : World} {q : Nat} {e : Eng} {K : Kept} (h : LW w W q e K) :
    Calls Tryz.prog 37 #[.pointer (some ⟨q, 0, none⟩)] W fun en w' => en = .returned (.agg #[.int .i64 (e.bad : Int), .int .i64 (e.st : Int), .int .i64 (e.fu : Int), .int .i64 (e.nr : Int)]) ∧ Below W.heap.size W w' := by
  have B0 := (Below.refl W.heap.size W).alloc (Nat.le_refl _) (.cells #[.int .i64 0, .int .i64 0, .int .i64 0, .int .i64 0] 80)
  have r0 := heap_alloc_new W (.cells #[.int .i64 0, .int .i64 0, .int .i64 0, .int .i64 0] 80)
  obtain ⟨m, hE, -⟩ := (h.step B0).ex
  have c6 := hE.ec.c6
  have c7 := hE.ec.c7
  have c8 := hE.ec.c8
  have c9 := hE.ec.c9
  have hql := hE.lt
  generalize e.bad = x0 at *
  generalize e.st = x1 at *
  generalize e.fu = x2 at *
  generalize e.nr = x3 at *
  have hs4 := set4 r0 (.int .i64 (x0 : Int)) (.int .i64 (x1 : Int)) (.int .i64 (x2 : Int)) (.int .i64 (x3 : Int))
  have hB4 := B0.grown (grown4 _ W.heap.size (.int .i64 (x0 : Int)) (.int .i64 (x1 : Int)) (.int .i64 (x2 : Int)) (.int .i64 (x3 : Int))) B0.size (fun k e => by have := Option.some.inj e; omega)
  have hz := (Array.getElem?_eq_some_iff.1 r0).1
  obtain ⟨k0, k1, k2, k3⟩ : _ ∧ _ ∧ _ ∧ _ := ⟨cell_of_row _ _ 0 _ 80 (0, 0) r0, cell_of_row _ _ 1 _ 80 (0, 0) r0, cell_of_row _ _ 2 _ 80 (0, 0) r0, cell_of_row _ _ 3 _ 80 (0, 0) r0⟩
  have kf := fun i => frozen_of_row _ _ i _ 80 r0
  have H4 := Lib.hid (And.intro hs4 hB4)
  clear h hE hs4 hB4 r0 B0
  go_enter Tryz.func37, Tryz.ntmps37
  go_upto_region 1 with (fail)
  generalize W.alloc _ = w0 at *
  go_wp2
  exact bodyPost_ret (results_cell_row rfl _ _ W.heap.size 80 _ (0, 0) _ rfl H4.out.1 Tryz.underlying80 rfl info80c) rfl ⟨rfl, H4.out.2⟩
set_option maxHeartbeats 2000000 in
theorem same_sl (w : World) (A1 A2 : Option Addr) (c1 c2 n : Nat) (rs : List Ro) (hn : n = rs.length) (h1 : GSl 5 Ro.cl w A1 rs) (h2 : GSl 5 Ro.cl w A2 rs) (hlen : n ≤ 1000) : Calls Tryz.prog 38 #[.slice A1 n c1, .slice A2 n c2] w fun e w' => e = .returned (.bool true) ∧ Below w.heap.size w w' := by
  have HG := Lib.hid (And.intro h1 h2)
  have HN := Lib.hid hn
  clear h1 h2 hn
  go_enter Tryz.func38, Tryz.ntmps38
  go_wp2
  go_loopw [5] (fun iv wr => ∃ k : Nat, k ≤ n ∧ iv = .int .i64 k ∧ Hid (Below w.heap.size w wr)) (fun iv _ => n - (intOf iv).toNat)
  case atStart => exact ⟨0, Nat.zero_le _, rfl, Below.refl _ _⟩
  case round =>
    obtain ⟨k, hk, rfl, HB⟩ := hrel
    by_cases hlt : k < n
    · have hkl : k < rs.length := by have := HN.out; omega
      obtain ⟨b1, o1, rfl, l1, hc1⟩ := (HG.out.1.below HB.out) k hkl
      obtain ⟨b2, o2, rfl, l2, hc2⟩ := (HG.out.2.below HB.out) k hkl
      have HE1 := Lib.hid (And.intro (RoAt.of hc1) l1)
      have HE2 := Lib.hid (And.intro (RoAt.of hc2) l2)
      generalize rs[k] = r at HE1 HE2
      clear hc1 hc2 l1 l2
      go_upto_region 6 with (fail)
      refine wp_region_noPanic ?_
      refine wp_region_held_drew (S := fun y : World => Below wr.heap.size wr y) (by kernel_rfl) ((Below.refl _ _).drew) (fun hHeld => ?_)
      generalize wr.drew = wd at *
      refine wpAnyH_take (i := 0) (oi := { dst := some 17, op := Op.move (Operand.tmp 0), type := 37, pos := "ref.go:102", after := #[], guard := none }) (v := .slice (some ⟨b1, o1, none⟩) n c1) rfl (by kernel_rfl) (by kernel_rfl) (by kernel_rfl) (fun _ _ _ h => h) (Or.inl ⟨by rfl, fun w hSw => by go_simp⟩) (by assumption) ?_
      try simp only [Act.put, List.setIfInBounds_toArray, List.set_cons_zero, List.set_cons_succ]
      refine wpAnyH_take (i := 1) (oi := { dst := some 18, op := Op.move (Operand.tmp 5), type := 3, pos := "ref.go:102", after := #[], guard := none }) (v := .int .i64 (k : Int)) rfl (by kernel_rfl) (by kernel_rfl) (by kernel_rfl) (fun _ _ _ h => h) (Or.inl ⟨by rfl, fun w hSw => by go_simp⟩) (by assumption) ?_
      try simp only [Act.put, List.setIfInBounds_toArray, List.set_cons_zero, List.set_cons_succ]
      refine wpAnyH_take (i := 2) (oi := { dst := some 19, op := Op.indexAddr 37 (Operand.tmp 17) (Operand.tmp 18), type := 0, pos := "ref.go:102", after := #[{ on := 0, ground := Ground.data }, { on := 1, ground := Ground.data }], guard := none }) (v := .pointer (some ⟨b1, o1 + k * 5, none⟩)) rfl (by kernel_rfl) (by kernel_rfl) (by kernel_rfl) (fun _ _ _ h => h) (Or.inl ⟨by rfl, fun w hSw => by go_simp⟩) (by assumption) ?_
      try simp only [Act.put, List.setIfInBounds_toArray, List.set_cons_zero, List.set_cons_succ]
      refine wpAnyH_take (i := 3) (oi := { dst := some 20, op := Op.load 40 (Operand.tmp 19), type := 40, pos := "ref.go:102", after := #[{ on := 2, ground := Ground.data }], guard := none }) (v := .agg #[.int .u32 (r.a : Int), .int .u8 (r.n : Int), .int .i64 (r.v : Int), .int .u16 (r.m : Int), .int .u16 (r.s : Int)]) rfl (by kernel_rfl) (by kernel_rfl) (by kernel_rfl) (fun _ _ _ h => h) (Or.inl ⟨by rfl, fun w hSw => by have hb := Ser.bcell hSw; obtain ⟨k0, k1, k2, k3, k4⟩ := HE1.out.1; rw [← hb.1 _ _ HE1.out.2] at k0 k1 k2 k3 k4; have hl := Nat.lt_of_lt_of_le HE1.out.2 hSw.size; go_simp⟩) (by assumption) ?_
      try simp only [Act.put, List.setIfInBounds_toArray, List.set_cons_zero, List.set_cons_succ]
      refine wpAnyH_take (i := 4) (oi := { dst := some 21, op := Op.move (Operand.tmp 1), type := 37, pos := "ref.go:102", after := #[], guard := none }) (v := .slice (some ⟨b2, o2, none⟩) n c2) rfl (by kernel_rfl) (by kernel_rfl) (by kernel_rfl) (fun _ _ _ h => h) (Or.inl ⟨by rfl, fun w hSw => by go_simp⟩) (by assumption) ?_
      try simp only [Act.put, List.setIfInBounds_toArray, List.set_cons_zero, List.set_cons_succ]
      refine wpAnyH_take (i := 5) (oi := { dst := some 22, op := Op.move (Operand.tmp 5), type := 3, pos := "ref.go:102", after := #[], guard := none }) (v := .int .i64 (k : Int)) rfl (by kernel_rfl) (by kernel_rfl) (by kernel_rfl) (fun _ _ _ h => h) (Or.inl ⟨by rfl, fun w hSw => by go_simp⟩) (by assumption) ?_
      try simp only [Act.put, List.setIfInBounds_toArray, List.set_cons_zero, List.set_cons_succ]
      refine wpAnyH_take (i := 6) (oi := { dst := some 23, op := Op.indexAddr 37 (Operand.tmp 21) (Operand.tmp 22), type := 0, pos := "ref.go:102", after := #[{ on := 4, ground := Ground.data }, { on := 5, ground := Ground.data }], guard := none }) (v := .pointer (some ⟨b2, o2 + k * 5, none⟩)) rfl (by kernel_rfl) (by kernel_rfl) (by kernel_rfl) (fun _ _ _ h => h) (Or.inl ⟨by rfl, fun w hSw => by go_simp⟩) (by assumption) ?_
      try simp only [Act.put, List.setIfInBounds_toArray, List.set_cons_zero, List.set_cons_succ]
      refine wpAnyH_take (i := 7) (oi := { dst := some 24, op := Op.load 40 (Operand.tmp 23), type := 40, pos := "ref.go:102", after := #[{ on := 6, ground := Ground.data }], guard := none }) (v := .agg #[.int .u32 (r.a : Int), .int .u8 (r.n : Int), .int .i64 (r.v : Int), .int .u16 (r.m : Int), .int .u16 (r.s : Int)]) rfl (by kernel_rfl) (by kernel_rfl) (by kernel_rfl) (fun _ _ _ h => h) (Or.inl ⟨by rfl, fun w hSw => by have hb := Ser.bcell hSw; obtain ⟨k0, k1, k2, k3, k4⟩ := HE2.out.1; rw [← hb.1 _ _ HE2.out.2] at k0 k1 k2 k3 k4; have hl := Nat.lt_of_lt_of_le HE2.out.2 hSw.size; go_simp⟩) (by assumption) ?_
      try simp only [Act.put, List.setIfInBounds_toArray, List.set_cons_zero, List.set_cons_succ]
      refine wpAnyH_take (i := 8) (oi := { dst := some 25, op := Op.binOp BinOp.neq 40 (Operand.tmp 20) (Operand.tmp 24) 40, type := 4, pos := "ref.go:102", after := #[{ on := 3, ground := Ground.data }, { on := 7, ground := Ground.data }], guard := none }) (v := .bool false) rfl (by kernel_rfl) (by kernel_rfl) (by kernel_rfl) (fun _ _ _ h => h) (Or.inl ⟨by rfl, fun w hSw => by go_simp⟩) (by assumption) ?_
      try simp only [Act.put, List.setIfInBounds_toArray, List.set_cons_zero, List.set_cons_succ]
      refine wpAnyH_done (by kernel_rfl) ?_ _
      try unfold NoPanic
      have HB2 := Lib.hid (HB.out.trans (hHeld.mono HB.out.size))
      clear hHeld
      go_wp2
      go_roundw
      case rel => exact ⟨k + 1, by omega, by go_num, HB2.out⟩
      case measure => simp [intOf]; omega
    · obtain rfl : k = n := by omega
      go_wp2
      go_ret
      exact ⟨rfl, HB.out⟩
end Go.Proofs.YtjbogjbopgcbhaaGreatDoor.Eg
namespace Go.Proofs.YtjbogjbopgcbhaaGreatDoor.Eg
open Pre Ser Rts
open Go.Proofs.YtjbogjbopgcbhaaGreatDoor.Src (row1 row2 Mk SrcAt)
open Go.Proofs.YtjbogjbopgcbhaaGreatDoor.Lk (LkAt)
open Go.ChangeShapes Go.WideShapes Go.ChangeAt Go.RowKit
set_option maxRecDepth 8000
set_option linter.unusedVariables false
set_option linter.unusedSimpArgs false

open Go.Proofs.YtjbogjbopgcbhaaGreatDoor.Src (pv mv pA pN)
set_option linter.unusedSimpArgs false
/-- What one neighbor has told so far. -/
structure CI (e : Eng) (i : Nat) : Prop where
  met : Met 96 96 e
  f : e.f = f0
  sz : Sz e 0 0 0
  bad : e.bad = 0
  st : e.st = 0
  L : ∀ x ∈ e.L, x.b = 1 ∧ x.s = 5 ∧ x.m ≤ 255 ∧ ∃ p, x.a = pA p ∧ x.n = pN p
  len : e.L.length ≤ i
theorem CI.start : CI (Eng.m0 96 96) 0 := ⟨m0_met 96 96, rfl, ⟨Nat.le_refl 0, Nat.le_refl 0, Nat.le_refl 0⟩, rfl, rfl, fun x hx => (by cases hx), Nat.le_refl 0⟩
theorem CI.step {e : Eng} {i p m : Nat} (h : CI e i) (ok : e.Ok) (hm : m ≤ 255) : CI (e.upd 1 2 (uP (pA p) (pN p) 5 m)) (i + 1) := by
  rw [upd_p h.met]
  have hne : ¬ (uP (pA p) (pN p) 5 m).m = 65535 := fun h9 => by
    have h9 : m = 65535 := h9
    omega
  have hL : tellL e.L 1 2 (uP (pA p) (pN p) 5 m) = putE e.L ⟨pA p, pN p, 1, 3, 5, m, 52⟩ := if_neg hne
  refine ⟨h.met.up _, h.f, h.sz, h.bad, h.st, fun x hx => ?_, ?_⟩
  · have hx : x ∈ tellL e.L 1 2 (uP (pA p) (pN p) 5 m) := hx
    rw [hL] at hx
    rcases (putE_mem ok.ri _ x).1 hx with rfl | ⟨hx, -⟩
    · exact ⟨rfl, rfl, hm, p, rfl, rfl⟩
    · exact h.L x hx
  · have := (tellL_ok ok.ri ok.lok (b := 1) (now := 2) (uP_ok (p := p) (s := 5) (m := m) (by decide) (by omega)) (by decide) (by decide)).2.2
    have h2 := h.len
    show (tellL e.L 1 2 (uP (pA p) (pN p) 5 m)).length ≤ i + 1
    omega
theorem CI.sok {e : Eng} {i : Nat} (h : CI e i) (hi : i ≤ 100) : e.SelOk := h.met.sok (fun x hx => by
    obtain ⟨-, -, -, p, e1, e2⟩ := h.L x hx
    rw [e1, e2]
    exact ⟨Src.p_right p, p, rfl, rfl⟩) h.sz (by have := h.len; omega) (by decide)
/-- Of each prefix one alone is told. -/
theorem CI.flt {e : Eng} {i : Nat} (h : CI e i) (ok : e.Ok) (a n : Nat) : e.L.filter (ofp a n) = [] ∨ ∃ x ∈ e.L, x.a = a ∧ x.n = n ∧ e.L.filter (ofp a n) = [x] := by
  have hr : (e.L.filter (ofp a n)).Pairwise fun x y => x.key < y.key := List.Pairwise.filter _ ok.ri
  have hm : ∀ x ∈ e.L.filter (ofp a n), x ∈ e.L ∧ x.a = a ∧ x.n = n := fun x hx => by
    obtain ⟨h1, h2⟩ := List.mem_filter.1 hx
    exact ⟨h1, by simpa [ofp] using h2⟩
  rcases hF : e.L.filter (ofp a n) with _ | ⟨x, _ | ⟨y, F⟩⟩
  · exact Or.inl rfl
  · obtain ⟨h1, h2, h3⟩ := hm x (by rw [hF]; exact List.mem_cons_self ..)
    exact Or.inr ⟨x, h1, h2, h3, rfl⟩
  · obtain ⟨h1, h2, h3⟩ := hm x (by rw [hF]; exact List.mem_cons_self ..)
    obtain ⟨k1, k2, k3⟩ := hm y (by rw [hF]; exact List.mem_cons_of_mem _ (List.mem_cons_self ..))
    rw [hF, List.pairwise_cons] at hr
    have := hr.1 y (List.mem_cons_self ..)
    unfold E.key at this
    rw [h2, h3, k2, k3, (h.L x h1).1, (h.L y k1).1] at this
    exact absurd this (Nat.lt_irrefl _)
theorem selP_sing {cf : Nat → Nat} {f : Mk} {L : List E} {a n : Nat} {x : E} (h : L.filter (ofp a n) = [x]) : selP cf f L a n = if x.m + cf x.b < 65535 ∧ feasE f x = true then some (wayOf cf x) else none := by
  unfold selP
  rw [h]
  have e1 : short cf f [x] = if x.m + cf x.b < 65535 ∧ feasE f x = true then (x.m + cf x.b, wayOf cf x) else (65535, Ro.zero) := rfl
  rw [e1]
  by_cases hc : x.m + cf x.b < 65535 ∧ feasE f x = true
  · rw [if_pos hc, if_pos hc]; exact if_pos hc.1
  · rw [if_neg hc, if_neg hc]; exact if_neg (Nat.lt_irrefl _)
theorem selP_empty {cf : Nat → Nat} {f : Mk} {L : List E} {a n : Nat} (h : L.filter (ofp a n) = []) : selP cf f L a n = none := by
  unfold selP
  rw [h]
  exact if_neg (Nat.lt_irrefl _)
theorem gup_ext : ∀ {l l' : List Ro}, GUp Ro.pk l → GUp Ro.pk l' → (∀ x, x ∈ l ↔ x ∈ l') → l = l'
  | [], [], _, _, _ => rfl
  | [], y :: l', _, _, h => absurd ((h y).2 (List.mem_cons_self ..)) (by simp)
  | x :: l, [], _, _, h => absurd ((h x).1 (List.mem_cons_self ..)) (by simp)
  | x :: l, y :: l', h1, h2, h => by
    unfold GUp at h1 h2
    rw [List.pairwise_cons] at h1 h2
    have hxy : x = y := by
      rcases List.mem_cons.1 ((h x).1 (List.mem_cons_self ..)) with e | hx
      · exact e
      · rcases List.mem_cons.1 ((h y).2 (List.mem_cons_self ..)) with e | hy
        · exact e.symm
        · have k1 := h2.1 x hx
          have k2 := h1.1 y hy
          omega
    subst hxy
    congr 1
    refine gup_ext h1.2 h2.2 fun z => ⟨fun hz => ?_, fun hz => ?_⟩
    · rcases List.mem_cons.1 ((h z).1 (List.mem_cons_of_mem _ hz)) with rfl | h3
      · exact absurd (h1.1 z hz) (Nat.lt_irrefl _)
      · exact h3
    · rcases List.mem_cons.1 ((h z).2 (List.mem_cons_of_mem _ hz)) with rfl | h3
      · exact absurd (h2.1 z hz) (Nat.lt_irrefl _)
      · exact h3
theorem same_look {e e' : Eng} (ok : e.Ok) (ok' : e'.Ok) (h : ∀ a n, n < 256 → look e.ch a n = look e'.ch a n) : e.ch = e'.ch := by
  have key : ∀ {c c' : Eng}, c.Ok → c'.Ok → (∀ a n, n < 256 → look c.ch a n = look c'.ch a n) → ∀ x ∈ c.ch, x ∈ c'.ch := fun {c c'} o o' hl x hx => by
    have h1 := look_eq (GUp.ne o.chu) hx (a := x.a) (n := x.n) rfl
    rw [hl x.a x.n (o.cho x hx).2.1] at h1
    exact (look_mem h1).1
  exact gup_ext ok.chu ok'.chu fun x => ⟨key ok ok' h x, key ok' ok (fun a n hn => (h a n hn).symm) x⟩
/-- Chosen anew, nothing else is chosen. -/
theorem CI.again {e e1 e2 e3 : Eng} {i : Nat} (h : CI e i) (ok : e.Ok) (c1 : Chose e e1) (he : e2 = { e1 with bad := e2.bad, st := e2.st }) (ok1 : e1.Ok) (c3 : Chose e2 e3) (ok3 : e3.Ok) : e3.ch = e1.ch := by
  have k := c1.keep
  have hcf : e2.cf = e.cf := by rw [he, k]; rfl
  have hL : e2.L = e.L := by rw [he, k]
  have ho : e2.own = e.own := by rw [he, k]
  have hi : e2.id = e.id := by rw [he, k]
  have hf : e2.f = e1.f := by rw [he]
  have h1 : e.cf 1 = 96 := h.met.cf1
  refine same_look ok3 ok1 fun a n hn => ?_
  cases hown : e.isOwn a n with
  | true =>
    obtain ⟨g, hg, hgi⟩ := List.any_eq_true.1 hown
    simp [Hm.is] at hgi
    have g1 := c1.own g hg
    have g3 := c3.own g (ho ▸ hg)
    rw [hi] at g3
    rw [hgi.1, hgi.2] at g1 g3
    rw [g1, g3]
  | false =>
    have hown2 : e2.isOwn a n = false := by unfold Eng.isOwn; rw [ho]; exact hown
    have g1 := c1.other a n hn hown
    have gm := c1.mark a n hn
    rw [c3.other a n hn hown2, hcf, hL, hf, g1]
    rcases h.flt ok a n with hF | ⟨x, hx, hxa, hxn, hF⟩
    · rw [selP_empty hF, selP_empty hF]
    · obtain ⟨hb, hs, hm, -⟩ := h.L x hx
      have s1 : selP e.cf e.f e.L a n = some (wayOf e.cf x) := by
        rw [selP_sing hF, h.f]
        exact if_pos ⟨by rw [hb, h1]; omega, feas0 ..⟩
      rw [g1, s1] at gm
      have gm : e1.f a n = some (5, x.m + 96) := by
        rw [gm]
        show some (e.f.best a n (x.s, x.m + e.cf x.b)) = _
        rw [best_none (by rw [h.f]; rfl), hs, hb, h1]
      rw [s1, selP_sing hF]
      refine if_pos ⟨by rw [hb, h1]; omega, ?_⟩
      unfold feasE
      rw [hxa, hxn, hs, feas_same gm]
      simp
theorem hear_none {a b : Nat} {e : Eng} (h : Met a b e) (st : Nat) : e.hear 1 st 2 [] = { e with st := e.st + st } := by
  unfold Eng.hear
  rw [if_neg (by rw [h.id]; omega)]
  show ({ e with st := e.st + st } : Eng).meet 1 2 = _
  unfold Eng.meet
  exact if_pos (by show e.nb.any _ = true; rw [h.nb]; rfl)
end Go.Proofs.YtjbogjbopgcbhaaGreatDoor.Eg

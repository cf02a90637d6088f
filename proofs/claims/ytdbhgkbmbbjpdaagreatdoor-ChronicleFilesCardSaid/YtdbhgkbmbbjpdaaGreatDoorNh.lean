/- The last volume, the next record, the next volume. -/
import Derived.Test.YtdbhgkbmbbjpdaaGreatDoorNg
import Derived.Deep.DeepCutAuto
namespace Go.Proofs.YtdbhgkbmbbjpdaaGreatDoor.Chr
variable {lo : Nat}
open Go.ChangeShapes Go.WideShapes Go.ChangeAt Go.RowKit
open Shf (S str)
open Coin (Rd Row Own sz coin got Pur takeV endV CoinSaid)
open Frm (pack err size kind cnt body noItem itemV OneSaid)
set_option maxRecDepth 8000
open Shf (Tag Ext)
def VolD.next (d : VolD) : Nat := d.first + d.its.length
def CD.next (c : CD) : Nat := match c.vols.getLast? with | none => c.hU + 1 | some d => d.next
def CD.nextNo (c : CD) : Nat := match c.vols.getLast? with | none => c.hF | some d => d.no + 1
structure CD.Small (c : CD) : Prop where
  hF : c.hF < 1000000000
  hU : c.hU < 1000000000
  n : c.vols.length ≤ 1000000
  v : ∀ d ∈ c.vols, d.no < 1000000000 ∧ d.first < 1000000000 ∧ d.its.length ≤ 1000000 ∧ d.size ≤ 1000000000
theorem flat_len (vs : List (VolD × Value × Option Nat)) : (vs.flatMap volP).length = vs.length * 4 := by
  induction vs with
  | nil => rfl
  | cons x vs ih => rw [List.flatMap_cons, List.length_append, ih]; show 4 + vs.length * 4 = (vs.length + 1) * 4; omega
theorem flat_at (vs : List (VolD × Value × Option Nat)) (k : Nat) (hk : k < vs.length) (i : Nat) (hi : i < 4) : (vs.flatMap volP)[k * 4 + i]? = (volP vs[k])[i]? := by
  induction vs generalizing k with
  | nil => simp at hk
  | cons x vs ih =>
    rw [List.flatMap_cons]
    cases k with
    | zero =>
      rw [List.getElem?_append_left (by show 0 * 4 + i < 4; omega)]
      simp
    | succ k =>
      have hl : (volP x).length = 4 := rfl
      rw [List.getElem?_append_right (by rw [hl]; omega), hl, show (k + 1) * 4 + i - 4 = k * 4 + i by omega, ih k (by simpa using hk)]
      rfl
structure VolAt (w : World) (T : Nat → Tag) (g o : Nat) (d : VolD) (lv : Value) (gl : Option Nat) : Prop where
  k0 : w.cell? ⟨g, o, none⟩ = some (.int .u64 (d.no : Int))
  k1 : w.cell? ⟨g, o + 1, none⟩ = some (.int .u64 (d.first : Int))
  k2 : w.cell? ⟨g, o + 2, none⟩ = some lv
  k3 : w.cell? ⟨g, o + 3, none⟩ = some (.int .i64 (d.size : Int))
  fz : ∀ j, w.frozen? ⟨g, j, none⟩ = false
  la : LAt w T lv d.its gl
theorem VsAt.at {w : World} {T : Nat → Tag} {v : Value} {vols : List VolD} {gv : Option Nat} (h : VsAt lo w T v vols gv) (k : Nat) (hk : k < vols.length) : ∃ g off cap lv gl, v = .slice (some ⟨g, off, none⟩) vols.length cap ∧ gv = some g ∧ vols.length ≤ cap ∧ VolAt w T g (off + k * 4) vols[k] lv gl := by
  obtain ⟨vs, h1, h2, h3, h4, h5⟩ := h
  have hvl : vs.length = vols.length := by rw [← h1, List.length_map]
  have hfl := flat_len vs
  have hkv : k < vs.length := by omega
  have hd : vs[k].1 = vols[k] := by
    have : (vs.map (·.1))[k]'(by rw [List.length_map]; exact hkv) = vols[k] := by simp only [h1]
    simpa using this
  have hc : ∀ i (hi : i < 4), ∃ g off cap, v = .slice (some ⟨g, off, none⟩) vols.length cap ∧ gv = some g ∧ w.cell? ⟨g, off + (k * 4 + i), none⟩ = (volP vs[k])[i]? ∧ ∀ j, w.frozen? ⟨g, j, none⟩ = false := fun i hi => by
    obtain ⟨g, off, cap, e1, e2, e3, e4⟩ := h2.cell (k * 4 + i) (by omega)
    refine ⟨g, off, cap, e1, e2, ?_, e4⟩
    rw [e3, ← flat_at vs k hkv i hi]
    exact (List.getElem?_eq_getElem _).symm
  obtain ⟨g, off, cap, rfl, rfl, f0, fz⟩ := hc 0 (by decide)
  have hcj : ∀ i (hi : i < 4), w.cell? ⟨g, off + k * 4 + i, none⟩ = (volP vs[k])[i]? := fun i hi => by
    obtain ⟨g', off', cap', e1, _, f, _⟩ := hc i hi
    injection e1 with e1 _ _
    injection e1 with e1
    injection e1 with e1 e2 _
    subst e1 e2
    rw [Nat.add_assoc]
    exact f
  obtain ⟨_, cap', e, hle, _⟩ := h2.form
  injection e with _ _ e
  subst e
  refine ⟨g, off, cap, vs[k].2.1, vs[k].2.2, rfl, rfl, hle, ?_⟩
  rw [← hd]
  exact ⟨hcj 0 (by decide), hcj 1 (by decide), hcj 2 (by decide), hcj 3 (by decide), fz, h4 _ (List.getElem_mem hkv)⟩
set_option maxHeartbeats 1000000 in
theorem last_any (w : World) (T : Nat → Tag) (p q : Nat) (c : CD) (bA : Option Addr) (bc g off cap : Nat) (gv : Option Nat) (h : CAtV lo w T p q c bA bc (.slice (some ⟨g, off, none⟩) c.vols.length cap) gv) (hn : 0 < c.vols.length) (hs : c.vols.length ≤ 1000000) :
    Calls Tryz.prog 49 #[.pointer (some ⟨p, 0, none⟩)] w fun e w' => e = .returned (.pointer (some ⟨g, off + (c.vols.length - 1) * 4, none⟩)) ∧ Below w.heap.size w w' := by
  obtain ⟨n1, hn1⟩ : ∃ n, n = c.vols.length - 1 := ⟨_, rfl⟩
  obtain ⟨n, hnn⟩ : ∃ n, n = c.vols.length := ⟨_, rfl⟩
  have HR := h.row
  unfold cC at HR
  rw [← hnn] at HR
  rw [← hn1]
  have HN : Hid ((n : Int) - 1 = (n1 : Int) ∧ IntKind.i64.wrap (n1 : Int) = (n1 : Int)) := ⟨by omega, by rw [IntKind.wrap_i64]; omega⟩
  have hlt : n1 < n := by omega
  have hlt' : (n1 : Int) < n := by omega
  have HR := Lib.hid HR
  clear h hn hs hn1 hnn
  go_enter Tryz.func49, Tryz.ntmps49
  go_upto_region 1 with (fail)
  refine wp_region_noPanic ?_
  refine wp_region_held_drew (S := fun y : World => Below w.heap.size w y) (by kernel_rfl) (Below.refl _ _).drew (fun hHeld => ?_)
  generalize w.drew = wd at *
  refine wpAnyH_take (i := 0) (oi := ⟨some 3, .move (.tmp 0), 26, "chronicle.go:81", #[], none⟩) (v := .pointer (some ⟨p, 0, none⟩)) rfl (by kernel_rfl) (by kernel_rfl) (by kernel_rfl) (fun _ _ _ h => h) (Or.inl ⟨by rfl, fun w hSw => by go_simp⟩) (by assumption) ?_
  try simp only [Act.put, stA, stB, stC]
  refine wpAnyH_take (i := 1) (oi := ⟨some 4, .nilCheck (.tmp 3), 0, "chronicle.go:81", #[⟨0, .data⟩], none⟩) (v := .pointer (some ⟨p, 0, none⟩)) rfl (by kernel_rfl) (by kernel_rfl) (by kernel_rfl) (fun _ _ _ h => h) (Or.inl ⟨by rfl, fun w hSw => by go_simp⟩) (by assumption) ?_
  try simp only [Act.put, stA, stB, stC]
  refine wpAnyH_take (i := 2) (oi := ⟨some 5, .fieldAddr 82 (.tmp 4) 4, 0, "chronicle.go:81", #[⟨1, .data⟩], none⟩) (v := .pointer (some ⟨p, 6, none⟩)) rfl (by kernel_rfl) (by kernel_rfl) (by kernel_rfl) (fun _ _ _ h => h) (Or.inl ⟨by rfl, fun w hSw => by go_simp⟩) (by assumption) ?_
  try simp only [Act.put, stA, stB, stC]
  refine wpAnyH_take (i := 3) (oi := ⟨some 6, .load 53 (.tmp 5), 53, "chronicle.go:81", #[⟨2, .data⟩], none⟩) (v := .slice (some ⟨g, off, none⟩) n cap) rfl (by kernel_rfl) (by kernel_rfl) (by kernel_rfl) (fun _ _ _ h => h) (Or.inl ⟨by rfl, fun w hSw => by obtain ⟨p0, p1, p2, p3, p4, p5, p6, p7, -⟩ := row8 ((hSw.block _ (Array.getElem?_eq_some_iff.1 HR.out).1).trans HR.out); go_simp⟩) (by assumption) ?_
  try simp only [Act.put, stA, stB, stC]
  refine wpAnyH_take (i := 4) (oi := ⟨some 7, .move (.tmp 0), 26, "chronicle.go:81", #[], none⟩) (v := .pointer (some ⟨p, 0, none⟩)) rfl (by kernel_rfl) (by kernel_rfl) (by kernel_rfl) (fun _ _ _ h => h) (Or.inl ⟨by rfl, fun w hSw => by go_simp⟩) (by assumption) ?_
  try simp only [Act.put, stA, stB, stC]
  refine wpAnyH_take (i := 5) (oi := ⟨some 8, .nilCheck (.tmp 7), 0, "chronicle.go:81", #[⟨4, .data⟩], none⟩) (v := .pointer (some ⟨p, 0, none⟩)) rfl (by kernel_rfl) (by kernel_rfl) (by kernel_rfl) (fun _ _ _ h => h) (Or.inl ⟨by rfl, fun w hSw => by go_simp⟩) (by assumption) ?_
  try simp only [Act.put, stA, stB, stC]
  refine wpAnyH_take (i := 6) (oi := ⟨some 9, .fieldAddr 82 (.tmp 8) 4, 0, "chronicle.go:81", #[⟨5, .data⟩], none⟩) (v := .pointer (some ⟨p, 6, none⟩)) rfl (by kernel_rfl) (by kernel_rfl) (by kernel_rfl) (fun _ _ _ h => h) (Or.inl ⟨by rfl, fun w hSw => by go_simp⟩) (by assumption) ?_
  try simp only [Act.put, stA, stB, stC]
  refine wpAnyH_take (i := 7) (oi := ⟨some 10, .load 53 (.tmp 9), 53, "chronicle.go:81", #[⟨6, .data⟩], none⟩) (v := .slice (some ⟨g, off, none⟩) n cap) rfl (by kernel_rfl) (by kernel_rfl) (by kernel_rfl) (fun _ _ _ h => h) (Or.inl ⟨by rfl, fun w hSw => by obtain ⟨p0, p1, p2, p3, p4, p5, p6, p7, -⟩ := row8 ((hSw.block _ (Array.getElem?_eq_some_iff.1 HR.out).1).trans HR.out); go_simp⟩) (by assumption) ?_
  try simp only [Act.put, stA, stB, stC]
  refine wpAnyH_take (i := 8) (oi := ⟨some 11, .call ⟨.builtin .len, #[.tmp 10], #[53]⟩, 3, "chronicle.go:81", #[⟨7, .data⟩], none⟩) (v := .int .i64 (n : Int)) rfl (by kernel_rfl) (by kernel_rfl) (by kernel_rfl) (fun _ _ _ h => h) (Or.inl ⟨by rfl, fun w hSw => by go_simp⟩) (by assumption) ?_
  try simp only [Act.put, stA, stB, stC]
  refine wpAnyH_take (i := 9) (oi := ⟨some 12, .binOp .sub 3 (.tmp 11) (.const (.int .i64 1)) 3, 3, "chronicle.go:81", #[⟨8, .data⟩], none⟩) (v := .int .i64 (n1 : Int)) rfl (by kernel_rfl) (by kernel_rfl) (by kernel_rfl) (fun _ _ _ h => h) (Or.inl ⟨by rfl, fun w hSw => by have hz := HN.out.1; have hz2 := HN.out.2; go_simp⟩) (by assumption) ?_
  try simp only [Act.put, stA, stB, stC]
  refine wpAnyH_take (i := 10) (oi := ⟨some 13, .indexAddr 53 (.tmp 6) (.tmp 12), 0, "chronicle.go:81", #[⟨3, .data⟩, ⟨9, .data⟩], none⟩) (v := .pointer (some ⟨g, off + n1 * 4, none⟩)) rfl (by kernel_rfl) (by kernel_rfl) (by kernel_rfl) (fun _ _ _ h => h) (Or.inl ⟨by rfl, fun w hSw => by go_simp⟩) (by assumption) ?_
  try simp only [Act.put, stA, stB, stC]
  refine wpAnyH_take (i := 11) (oi := ⟨some 2, .assign (.tmp 13), 89, "chronicle.go:81", #[⟨10, .data⟩, ⟨0, .phase⟩, ⟨1, .phase⟩, ⟨2, .phase⟩, ⟨3, .phase⟩, ⟨4, .phase⟩, ⟨5, .phase⟩, ⟨6, .phase⟩, ⟨7, .phase⟩, ⟨8, .phase⟩, ⟨9, .phase⟩, ⟨10, .phase⟩], none⟩) (v := .pointer (some ⟨g, off + n1 * 4, none⟩)) rfl (by kernel_rfl) (by kernel_rfl) (by kernel_rfl) (fun _ _ _ h => h) (Or.inl ⟨by rfl, fun w hSw => by go_simp⟩) (by assumption) ?_
  try simp only [Act.put, stA, stB, stC]
  refine wpAnyH_done (by kernel_rfl) ?_ _
  try unfold NoPanic
  go_wp2
  go_ret
  exact ⟨rfl, hHeld⟩
theorem vnext_any (w : World) (no fi n c : Nat) (A : Option Addr) (z : Int) (h1 : fi < 1000000000) (h2 : n ≤ 1000000) :
    Calls Tryz.prog 50 #[.agg #[.int .u64 (no : Int), .int .u64 (fi : Int), .slice A n c, .int .i64 z]] w fun e w' => e = .returned (.int .u64 ((fi + n : Nat) : Int)) ∧ Below w.heap.size w w' := by
  have N1 := heap_alloc_new w (.cells #[.int .u64 (no : Int), .int .u64 (fi : Int), .slice A n c, .int .i64 z] 60)
  have B1 : Below w.heap.size w (w.alloc (.cells #[.int .u64 (no : Int), .int .u64 (fi : Int), .slice A n c, .int .i64 z] 60)) := (Below.refl _ _).alloc (Nat.le_refl _) _
  obtain ⟨s, hs⟩ : ∃ s, s = fi + n := ⟨_, rfl⟩
  rw [← hs]
  have hz1 : IntKind.u64.wrap (n : Int) = (n : Int) := by rw [IntKind.wrap_u64]; omega
  have hz2 : IntKind.u64.wrap ((fi : Int) + (n : Int)) = (s : Int) := by rw [IntKind.wrap_u64]; omega
  clear h1 h2 hs
  go_enter Tryz.func50, Tryz.ntmps50
  go_upto_region 1 with (fail)
  generalize w.alloc (.cells #[.int .u64 (no : Int), .int .u64 (fi : Int), .slice A n c, .int .i64 z] 60) = w1 at *
  obtain ⟨p0, p1, p2, p3, -⟩ := Frm.cells4 N1
  go_wp2
  go_ret
  exact ⟨rfl, B1⟩
theorem getLast_at {α : Type} (l : List α) (h : 0 < l.length) : l.getLast? = some (l[l.length - 1]'(by omega)) := by
  rw [List.getLast?_eq_getElem?, List.getElem?_eq_getElem (by omega)]
theorem CAtV.nil {w : World} {T : Nat → Tag} {p q : Nat} {c : CD} {bA : Option Addr} {bc : Nat} {vv : Value} {gv : Option Nat} (h : CAtV lo w T p q c bA bc vv gv) : ∃ A cap, vv = .slice A c.vols.length cap := by
  obtain ⟨vs, h1, h2, h3, h4, h5⟩ := h.vs
  obtain ⟨A, cap, e, _⟩ := h2.form
  exact ⟨A, cap, e⟩
theorem next_any (w : World) (T : Nat → Tag) (p q : Nat) (c : CD) (h : CAt lo w T p q c) (hs : c.Small) : Calls Tryz.prog 19 #[.pointer (some ⟨p, 0, none⟩)] w fun e w' => e = .returned (.int .u64 (c.next : Nat)) ∧ Below w.heap.size w w' := by
  obtain ⟨bA, bc, vv, gv, h⟩ := h
  by_cases h0 : c.vols = []
  · obtain ⟨A, cap, rfl⟩ := h.nil
    have hr := h.row
    unfold cC at hr
    rw [h0] at hr
    obtain ⟨p0, p1, p2, p3, p4, p5, p6, p7, -⟩ := row8 hr
    obtain ⟨nx, hnx⟩ : ∃ n, n = c.next := ⟨_, rfl⟩
    have hU := hs.hU
    have e : nx = c.hU + 1 := by rw [hnx]; unfold CD.next; rw [h0]; rfl
    have hz : IntKind.u64.wrap ((c.hU : Int) + 1) = (nx : Int) := by rw [IntKind.wrap_u64]; omega
    rw [← hnx]
    clear hr hnx hU e h hs h0
    simp only [List.length_nil] at p6
    go_enter Tryz.func19, Tryz.ntmps19
    go_wp2
    go_ret
    exact ⟨rfl, Below.refl _ _⟩
  · have hn : 0 < c.vols.length := List.length_pos_iff.2 h0
    obtain ⟨g, off, cap, lv, gl, rfl, rfl, hle, hv⟩ := h.vs.at (c.vols.length - 1) (by omega)
    have hr := h.row
    unfold cC at hr
    obtain ⟨p0, p1, p2, p3, p4, p5, p6, p7, -⟩ := row8 hr
    have c49 := last_any w T p q c bA bc g off cap _ h hn hs.n
    have hd := hs.v _ (List.getElem_mem (show c.vols.length - 1 < c.vols.length by omega))
    obtain ⟨nx, hnx⟩ : ∃ n, n = c.next := ⟨_, rfl⟩
    have e : nx = (c.vols[c.vols.length - 1]'(by omega)).first + (c.vols[c.vols.length - 1]'(by omega)).its.length := by rw [hnx]; unfold CD.next; rw [getLast_at c.vols hn]; rfl
    obtain ⟨lA, lc, rfl⟩ : ∃ A cp, lv = .slice A (c.vols[c.vols.length - 1]'(by omega)).its.length cp := by
      obtain ⟨ds, _, k2, _⟩ := hv.la
      obtain ⟨A, cp, e, _⟩ := k2.form
      exact ⟨A, cp, e⟩
    obtain ⟨f0, f1, f2, f3, fz, -⟩ := hv
    have hgl := block_lt_of_cell f0
    rw [← hnx]
    generalize (c.vols[c.vols.length - 1]'(by omega)) = d at *
    obtain ⟨k0, hk0⟩ : ∃ k, k = off + (c.vols.length - 1) * 4 := ⟨_, rfl⟩
    rw [← hk0] at c49 f0 f1 f2 f3
    have hn' : ((c.vols.length : Int) == 0) = false := by simp; omega
    have c50 := fun W => vnext_any W d.no d.first d.its.length lc lA (d.size : Int) hd.2.1 hd.2.2.1
    rw [← e] at c50
    have HF := Lib.hid (And.intro f0 (And.intro f1 (And.intro f2 (And.intro f3 hgl))))
    generalize c.vols.length = n at *
    clear hr hnx e h hs h0 hd hk0 f0 f1 f2 f3 hgl fz hle
    go_enter Tryz.func19, Tryz.ntmps19
    go_wp2_with (first
      | (go_at_call 49; (with_reducible refine c49.mono ?_); rintro e w2 ⟨rfl, B2⟩; have f0 := (B2.cell (p := ⟨g, k0, none⟩) HF.out.2.2.2.2).trans HF.out.1; have f1 := (B2.cell (p := ⟨g, k0 + 1, none⟩) HF.out.2.2.2.2).trans HF.out.2.1; have f2 := (B2.cell (p := ⟨g, k0 + 2, none⟩) HF.out.2.2.2.2).trans HF.out.2.2.1; have f3 := (B2.cell (p := ⟨g, k0 + 3, none⟩) HF.out.2.2.2.2).trans HF.out.2.2.2.1; have HB2 := Lib.hid B2; clear B2 c49)
      | (go_at_call 50; (with_reducible refine (c50 _).mono ?_); rintro e w3 ⟨rfl, B3⟩; have HB3 := Lib.hid (HB2.out.trans (B3.mono HB2.out.size)); clear B3 c50))
    go_ret
    exact ⟨rfl, HB3.out⟩
theorem nextNo_any (w : World) (T : Nat → Tag) (p q : Nat) (c : CD) (h : CAt lo w T p q c) (hs : c.Small) : Calls Tryz.prog 99 #[.pointer (some ⟨p, 0, none⟩)] w fun e w' => e = .returned (.int .u64 (c.nextNo : Nat)) ∧ Below w.heap.size w w' := by
  obtain ⟨bA, bc, vv, gv, h⟩ := h
  by_cases h0 : c.vols = []
  · obtain ⟨A, cap, rfl⟩ := h.nil
    have hr := h.row
    unfold cC at hr
    rw [h0] at hr
    obtain ⟨p0, p1, p2, p3, p4, p5, p6, p7, -⟩ := row8 hr
    obtain ⟨nx, hnx⟩ : ∃ n, n = c.nextNo := ⟨_, rfl⟩
    have e : nx = c.hF := by rw [hnx]; unfold CD.nextNo; rw [h0]; rfl
    rw [← hnx]
    rw [← e] at p2
    clear hr hnx e h hs h0
    simp only [List.length_nil] at p6
    go_enter Tryz.func99, Tryz.ntmps99
    go_wp2
    go_ret
    exact ⟨rfl, Below.refl _ _⟩
  · have hn : 0 < c.vols.length := List.length_pos_iff.2 h0
    obtain ⟨g, off, cap, lv, gl, rfl, rfl, hle, hv⟩ := h.vs.at (c.vols.length - 1) (by omega)
    have hr := h.row
    unfold cC at hr
    obtain ⟨p0, p1, p2, p3, p4, p5, p6, p7, -⟩ := row8 hr
    have c49 := last_any w T p q c bA bc g off cap _ h hn hs.n
    have hd := hs.v _ (List.getElem_mem (show c.vols.length - 1 < c.vols.length by omega))
    obtain ⟨nx, hnx⟩ : ∃ n, n = c.nextNo := ⟨_, rfl⟩
    have e : nx = (c.vols[c.vols.length - 1]'(by omega)).no + 1 := by rw [hnx]; unfold CD.nextNo; rw [getLast_at c.vols hn]
    obtain ⟨f0, f1, f2, f3, fz, -⟩ := hv
    have hgl := block_lt_of_cell f0
    rw [← hnx]
    generalize (c.vols[c.vols.length - 1]'(by omega)) = d at *
    obtain ⟨k0, hk0⟩ : ∃ k, k = off + (c.vols.length - 1) * 4 := ⟨_, rfl⟩
    rw [← hk0] at c49 f0 f1 f2 f3
    have hn' : ((c.vols.length : Int) == 0) = false := by simp; omega
    have hz : IntKind.u64.wrap ((d.no : Int) + 1) = (nx : Int) := by rw [IntKind.wrap_u64]; omega
    have HF := Lib.hid (And.intro f0 hgl)
    generalize c.vols.length = n at *
    clear hr hnx e h hs h0 hd hk0 f0 f1 f2 f3 hgl fz hle
    go_enter Tryz.func99, Tryz.ntmps99
    go_wp2_with (go_at_call 49; (with_reducible refine c49.mono ?_); rintro e w2 ⟨rfl, B2⟩; have f0 := (B2.cell (p := ⟨g, k0, none⟩) HF.out.2).trans HF.out.1; have HB2 := Lib.hid B2; clear B2 c49)
    go_ret
    exact ⟨rfl, HB2.out⟩
def CD.follows (c : CD) (fi : Nat) : Bool := if c.vols = [] then decide (fi ≤ c.next) else decide (fi = c.next)
set_option maxHeartbeats 1000000 in
theorem follows_any (w : World) (T : Nat → Tag) (p q : Nat) (c : CD) (h : CAt lo w T p q c) (hs : c.Small) (no fst n cc : Nat) (A : Option Addr) (z : Int) :
    Calls Tryz.prog 101 #[.pointer (some ⟨p, 0, none⟩), .agg #[.int .u64 (no : Int), .int .u64 (fst : Int), .slice A n cc, .int .i64 z]] w fun e w' => e = .returned (.bool (c.follows fst)) ∧ Below w.heap.size w w' := by
  have N1 := heap_alloc_new w (.cells #[.int .u64 (no : Int), .int .u64 (fst : Int), .slice A n cc, .int .i64 z] 60)
  have B1 : Below w.heap.size w (w.alloc (.cells #[.int .u64 (no : Int), .int .u64 (fst : Int), .slice A n cc, .int .i64 z] 60)) := (Below.refl _ _).alloc (Nat.le_refl _) _
  have h1 := h.keep (kp_below B1 T)
  have hc : ∀ W, Below (w.alloc (.cells #[.int .u64 (no : Int), .int .u64 (fst : Int), .slice A n cc, .int .i64 z] 60)).heap.size (w.alloc (.cells #[.int .u64 (no : Int), .int .u64 (fst : Int), .slice A n cc, .int .i64 z] 60)) W → Calls Tryz.prog 19 #[.pointer (some ⟨p, 0, none⟩)] W fun e w' => e = .returned (.int .u64 (c.next : Nat)) ∧ Below W.heap.size W w' := fun W hW => next_any W T p q c (h1.keep (kp_below hW T)) hs
  obtain ⟨bA, bc, vv, gv, h1⟩ := h1
  obtain ⟨A1, cap, rfl⟩ := h1.nil
  have hr := h1.row
  unfold cC at hr
  obtain ⟨nx, hnx⟩ : ∃ n, n = c.next := ⟨_, rfl⟩
  rw [← hnx] at hc
  have HC := Lib.hid hc
  have HB := Lib.hid N1
  have HB1 := Lib.hid B1
  by_cases h0 : c.vols = []
  · have e : c.follows fst = decide (fst ≤ nx) := by unfold CD.follows; rw [if_pos h0, hnx]
    rw [e]
    rw [h0] at hr
    simp only [List.length_nil] at hr
    clear h0 e hnx h h1 hs hc N1 B1
    go_enter Tryz.func101, Tryz.ntmps101
    go_upto_region 1 with (fail)
    generalize w.alloc (.cells #[.int .u64 (no : Int), .int .u64 (fst : Int), .slice A n cc, .int .i64 z] 60) = w1 at *
    obtain ⟨p0, p1, p2, p3, p4, p5, p6, p7, -⟩ := row8 hr
    go_upto_region 2 with (fail)
    clear p0 p1 p2 p3 p4 p5 p6 p7 hr
    refine wp_region_noPanic ?_
    refine wp_region_held_drew (S := fun y : World => Below w1.heap.size w1 y) (by kernel_rfl) (Below.refl _ _).drew (fun hHeld => ?_)
    generalize w1.drew = wd at *
    refine wpAnyH_take (i := 0) (oi := ⟨some 11, .fieldAddr 60 (.tmp 3) 1, 0, "files.go:90", #[], none⟩) (v := .pointer (some ⟨w.heap.size, 1, none⟩)) rfl (by kernel_rfl) (by kernel_rfl) (by kernel_rfl) (fun _ _ _ h => h) (Or.inl ⟨by rfl, fun w hSw => by go_simp⟩) (by assumption) ?_
    try simp only [Act.put, stA, stB, stC]
    refine wpAnyH_take (i := 1) (oi := ⟨some 12, .load 42 (.tmp 11), 42, "files.go:90", #[⟨0, .data⟩], none⟩) (v := .int .u64 (fst : Int)) rfl (by kernel_rfl) (by kernel_rfl) (by kernel_rfl) (fun _ _ _ h => h) (Or.inl ⟨by rfl, fun w hSw => by obtain ⟨p0, p1, p2, p3, -⟩ := Frm.cells4 ((hSw.block _ (Array.getElem?_eq_some_iff.1 HB.out).1).trans HB.out); go_simp⟩) (by assumption) ?_
    try simp only [Act.put, stA, stB, stC]
    refine wpAnyH_take (i := 2) (oi := ⟨some 13, .move (.tmp 0), 26, "files.go:90", #[], none⟩) (v := .pointer (some ⟨p, 0, none⟩)) rfl (by kernel_rfl) (by kernel_rfl) (by kernel_rfl) (fun _ _ _ h => h) (Or.inl ⟨by rfl, fun w hSw => by go_simp⟩) (by assumption) ?_
    try simp only [Act.put, stA, stB, stC]
    refine wpAnyH_ready (rs := [3]) (by kernel_rfl) (by simp) ?_
    refine AllReadyH.cons (o := ⟨some 14, .call ⟨.value (.func 19), #[.tmp 13], #[26]⟩, 42, "files.go:90", #[⟨2, .data⟩], none⟩) rfl (fun K hK => ?_) AllReadyH.nil
    go_simp
    refine (HC.out _ hHeld).mono ?_
    rintro e w2 ⟨rfl, B2⟩
    refine hK.out _ _ (hHeld.trans (B2.mono hHeld.size)) (fun hHeld => ?_)
    clear hK K
    try simp only [Act.put, stA, stB, stC]
    clear B2
    refine wpAnyH_take (i := 4) (oi := ⟨some 15, .binOp .leq 42 (.tmp 12) (.tmp 14) 42, 4, "files.go:90", #[⟨1, .data⟩, ⟨3, .data⟩], none⟩) (v := .bool (decide (fst ≤ nx))) rfl (by kernel_rfl) (by kernel_rfl) (by kernel_rfl) (fun _ _ _ h => h) (Or.inl ⟨by rfl, fun w hSw => by go_simp⟩) (by assumption) ?_
    try simp only [Act.put, stA, stB, stC]
    refine wpAnyH_take (i := 5) (oi := ⟨some 4, .assign (.tmp 15), 4, "files.go:90", #[⟨4, .data⟩, ⟨3, .chain⟩, ⟨0, .phase⟩, ⟨1, .phase⟩, ⟨2, .phase⟩, ⟨3, .phase⟩, ⟨4, .phase⟩], none⟩) (v := .bool (decide (fst ≤ nx))) rfl (by kernel_rfl) (by kernel_rfl) (by kernel_rfl) (fun _ _ _ h => h) (Or.inl ⟨by rfl, fun w hSw => by go_simp⟩) (by assumption) ?_
    try simp only [Act.put, stA, stB, stC]
    refine wpAnyH_done (by kernel_rfl) ?_ _
    try unfold NoPanic
    go_wp2
    go_ret
    exact ⟨rfl, HB1.out.trans (hHeld.mono HB1.out.size)⟩
  · have e : c.follows fst = decide (fst = nx) := by unfold CD.follows; rw [if_neg h0, hnx]
    rw [e]
    have hn : 0 < c.vols.length := List.length_pos_iff.2 h0
    have hn' : ((c.vols.length : Int) == 0) = false := by simp; omega
    generalize c.vols.length = nv at *
    clear h0 e hnx h h1 hs hc N1 B1 hn
    go_enter Tryz.func101, Tryz.ntmps101
    go_upto_region 1 with (fail)
    generalize w.alloc (.cells #[.int .u64 (no : Int), .int .u64 (fst : Int), .slice A n cc, .int .i64 z] 60) = w1 at *
    obtain ⟨p0, p1, p2, p3, p4, p5, p6, p7, -⟩ := row8 hr
    go_upto_region 3 with (fail)
    clear p0 p1 p2 p3 p4 p5 p6 p7 hr
    refine wp_region_noPanic ?_
    refine wp_region_held_drew (S := fun y : World => Below w1.heap.size w1 y) (by kernel_rfl) (Below.refl _ _).drew (fun hHeld => ?_)
    generalize w1.drew = wd at *
    refine wpAnyH_take (i := 0) (oi := ⟨some 16, .fieldAddr 60 (.tmp 3) 1, 0, "files.go:92", #[], none⟩) (v := .pointer (some ⟨w.heap.size, 1, none⟩)) rfl (by kernel_rfl) (by kernel_rfl) (by kernel_rfl) (fun _ _ _ h => h) (Or.inl ⟨by rfl, fun w hSw => by go_simp⟩) (by assumption) ?_
    try simp only [Act.put, stA, stB, stC]
    refine wpAnyH_take (i := 1) (oi := ⟨some 17, .load 42 (.tmp 16), 42, "files.go:92", #[⟨0, .data⟩], none⟩) (v := .int .u64 (fst : Int)) rfl (by kernel_rfl) (by kernel_rfl) (by kernel_rfl) (fun _ _ _ h => h) (Or.inl ⟨by rfl, fun w hSw => by obtain ⟨p0, p1, p2, p3, -⟩ := Frm.cells4 ((hSw.block _ (Array.getElem?_eq_some_iff.1 HB.out).1).trans HB.out); go_simp⟩) (by assumption) ?_
    try simp only [Act.put, stA, stB, stC]
    refine wpAnyH_take (i := 2) (oi := ⟨some 18, .move (.tmp 0), 26, "files.go:92", #[], none⟩) (v := .pointer (some ⟨p, 0, none⟩)) rfl (by kernel_rfl) (by kernel_rfl) (by kernel_rfl) (fun _ _ _ h => h) (Or.inl ⟨by rfl, fun w hSw => by go_simp⟩) (by assumption) ?_
    try simp only [Act.put, stA, stB, stC]
    refine wpAnyH_ready (rs := [3]) (by kernel_rfl) (by simp) ?_
    refine AllReadyH.cons (o := ⟨some 19, .call ⟨.value (.func 19), #[.tmp 18], #[26]⟩, 42, "files.go:92", #[⟨2, .data⟩], none⟩) rfl (fun K hK => ?_) AllReadyH.nil
    go_simp
    refine (HC.out _ hHeld).mono ?_
    rintro e w2 ⟨rfl, B2⟩
    refine hK.out _ _ (hHeld.trans (B2.mono hHeld.size)) (fun hHeld => ?_)
    clear hK K
    try simp only [Act.put, stA, stB, stC]
    clear B2
    refine wpAnyH_take (i := 4) (oi := ⟨some 20, .binOp .eql 42 (.tmp 17) (.tmp 19) 42, 4, "files.go:92", #[⟨1, .data⟩, ⟨3, .data⟩], none⟩) (v := .bool ((fst : Int) == (nx : Int))) rfl (by kernel_rfl) (by kernel_rfl) (by kernel_rfl) (fun _ _ _ h => h) (Or.inl ⟨by rfl, fun w hSw => by go_simp⟩) (by assumption) ?_
    try simp only [Act.put, stA, stB, stC]
    refine wpAnyH_take (i := 5) (oi := ⟨some 4, .assign (.tmp 20), 4, "files.go:92", #[⟨4, .data⟩, ⟨3, .chain⟩, ⟨0, .phase⟩, ⟨1, .phase⟩, ⟨2, .phase⟩, ⟨3, .phase⟩, ⟨4, .phase⟩], none⟩) (v := .bool ((fst : Int) == (nx : Int))) rfl (by kernel_rfl) (by kernel_rfl) (by kernel_rfl) (fun _ _ _ h => h) (Or.inl ⟨by rfl, fun w hSw => by go_simp⟩) (by assumption) ?_
    try simp only [Act.put, stA, stB, stC]
    refine wpAnyH_done (by kernel_rfl) ?_ _
    try unfold NoPanic
    go_wp2
    go_ret
    exact ⟨by by_cases h : fst = nx <;> simp [h]; omega, HB1.out.trans (hHeld.mono HB1.out.size)⟩
end Go.Proofs.YtdbhgkbmbbjpdaaGreatDoor.Chr

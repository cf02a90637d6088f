/-
  'For every input the Go function milestonelaw07.ChangeChains returns true, and each argument reads behind the call as it read before.'
  Conditions: none but the row's own (linux/amd64, sizes of what is read within the address space).
-/
import Derived.Test.YtmkclggnbnomhaaRows
import Derived.WalkKit
import Derived.ProofKit
import Derived.OpenShut
import Derived.ShutString
import Derived.ChangeOld
import Derived.Below
import Derived.Lib.SmallJoins
import Derived.Lib.Hide
import Derived.Test.YtmkclggnbnomhaaCa
import Derived.Test.YtmkclggnbnomhaaHo
import Derived.Test.YtmkclggnbnomhaaCt
import Derived.Deep.AppendLies
import Derived.Deep.CutBlock
namespace Go.Proofs.Ytmkclggnbnomhaa.changeChains
open Chg
open Coin
open Go.ChangeShapes Go.WideShapes Go.ChangeAt Go.RowKit
open Go.ChangeMaps (open_string shut_string)
set_option linter.unusedVariables false

theorem own : ownKnob Try.prog.godebug = none := by kernel_rfl
theorem laidOut : laidOutB Try.prog = true := by kernel_rfl


theorem info35 : (Try.prog.info? 35).map (fun i => (i.zero, i.size, i.bytes)) = some (some (.slice none 0 0), 1, 24) := by kernel_rfl
/-- The change ahead of a change. -/
def prev (ca : List C) : Nat → C
  | 0 => C.zero
  | k + 1 => ca.getD k C.zero
def encj (ca : List C) (j : Nat) : List UInt8 := (prev ca j).enc (ca.getD j C.zero)
def encs (ca : List C) (k : Nat) : List (List UInt8) := (List.range k).map (encj ca)
theorem encs_succ (ca : List C) (k : Nat) : encs ca (k + 1) = encs ca k ++ [encj ca k] := by unfold encs; rw [List.range_succ, List.map_append]; rfl
theorem encs_len (ca : List C) (k : Nat) : (encs ca k).length = k := by unfold encs; simp
theorem encs_get (ca : List C) (k j : Nat) (h : j < k) : (encs ca k)[j]? = some (encj ca j) := by unfold encs; simp [h]
theorem getD_get (ca : List C) (k : Nat) (h : k < ca.length) : ca.getD k C.zero = ca[k] := by rw [List.getD_eq_getElem?_getD, List.getElem?_eq_getElem h]; rfl
theorem prev_ok {ds : List HAct} {ca : List C} (h : HistOK ds ca) (k : Nat) (hk : k ≤ ca.length) : (prev ca k).Ok := by
  cases k with
  | zero => exact C.zero_ok
  | succ k => show (ca.getD k C.zero).Ok; rw [getD_get ca k (by omega)]; exact (h k (by omega)).2.2
theorem prev_after {ds : List HAct} {ca : List C} (h : HistOK ds ca) (k : Nat) (hk : k < ca.length) : (prev ca k).After (ca.getD k C.zero) := by
  rw [getD_get ca k hk]
  have e2 := h k hk
  cases k with
  | zero => exact ⟨by rw [e2.1]; rfl, Nat.zero_le _⟩
  | succ k =>
    show (ca.getD k C.zero).After _
    rw [getD_get ca k (by omega)]
    have e1 := h k (by omega)
    refine ⟨by rw [e1.1, e2.1], ?_⟩
    rw [e1.2.1, e2.2.1]
    by_cases hk : k + 1 < ds.length
    · rw [tsum_succ ds (k + 1) hk]; omega
    · unfold tsum; rw [List.take_of_length_le (by omega), List.take_of_length_le (by omega)]; exact Nat.le_refl _
/-- Bytes and bytes, each in its own block, in a slice of the call's own. -/
def Els (w : World) (B : Nat) (v : Value) (vs : List Value) (ls : List (List UInt8)) : Prop :=
  w.ownsRow B 35 1 v ls.length vs ∧ ∀ (j : Nat) (l : List UInt8), ls[j]? = some l → ∃ u : Value, vs[j]? = some u ∧ Own w B u l ∧ ∀ b, u.ownBlock = some b → v.ownBlock ≠ some b
theorem Els.nil (w : World) (B : Nat) : Els w B (.slice none 0 0) [] [] := ⟨World.ownsRow_nil w B 35 1, fun j l h => by simp at h⟩
theorem Els.grown {w w' : World} {B : Nat} {v : Value} {vs : List Value} {ls : List (List UInt8)} {row : Option Nat} (h : Els w B v vs ls) (G : w.grownBy w' row) (hr : ∀ k, row = some k → k < B) : Els w' B v vs ls := by
  have ne : ∀ (u : Value), (∀ k, u.ownBlock = some k → B ≤ k) → u.ownBlock = none ∨ u.ownBlock ≠ row := fun u hu => by
    cases e : u.ownBlock with
    | none => exact .inl rfl
    | some k => exact .inr fun h' => by have := hr k h'.symm; have := hu k e; omega
  refine ⟨h.1.kept G (ne v fun k e => (h.1.lt k e).1), fun j l hj => ?_⟩
  obtain ⟨u, h1, h2, h3⟩ := h.2 j l hj
  exact ⟨u, h1, World.ownsRow.kept h2 G (ne u fun k e => (World.ownsRow.lt h2 k e).1), h3⟩
theorem below_none {w w' : World} (h : Below w.heap.size w w') : w.grownBy w' none := ⟨h.os, h.tape, h.output, h.size, fun k hk _ => h.block k hk⟩
theorem Els.below {w w' : World} {B : Nat} {v : Value} {vs : List Value} {ls : List (List UInt8)} (h : Els w B v vs ls) (hb : Below w.heap.size w w') : Els w' B v vs ls := h.grown (below_none hb) fun k e => by cases e
theorem Els.snoc {w w' : World} {B B6 g m cap : Nat} {v v6 : Value} {vs : List Value} {ls : List (List UInt8)} {l : List UInt8} (h : Els w B v vs ls) (O : Own w B6 v6 l) (hB : B ≤ B6) (hlt : ∀ k, v.ownBlock = some k → k < B6)
    (o : w'.ownsRow B 35 1 (.slice (some ⟨g, 0, none⟩) m cap) m (vs ++ [v6])) (hm : m = ls.length + 1) (G : w.grownBy w' v.ownBlock) (hat : v.ownBlock = some g ∨ g = w.heap.size) : Els w' B (.slice (some ⟨g, 0, none⟩) m cap) (vs ++ [v6]) (ls ++ [l]) := by
  subst hm
  have hvl : vs.length = ls.length := by have := h.1.1; omega
  refine ⟨by rw [List.length_append]; exact o, fun j l' hj => ?_⟩
  by_cases hjl : j < ls.length
  · rw [List.getElem?_append_left hjl] at hj
    obtain ⟨u, h1, h2, h3⟩ := h.2 j l' hj
    refine ⟨u, by rw [List.getElem?_append_left (by omega)]; exact h1, World.ownsRow.kept h2 G ?_, fun b hb e => ?_⟩
    · cases e : u.ownBlock with
      | none => exact .inl rfl
      | some b => exact .inr fun h' => h3 b e h'.symm
    · have e' : g = b := by simpa [Value.ownBlock] using e
      subst e'
      rcases hat with hat | hat
      · exact h3 _ hb hat
      · have := (World.ownsRow.lt h2 _ hb).2; omega
  · obtain rfl : j = ls.length := by
      have := (List.getElem?_eq_some_iff.1 hj).1
      rw [List.length_append, List.length_singleton] at this
      omega
    rw [List.getElem?_append_right (Nat.le_refl _), Nat.sub_self] at hj
    simp at hj
    subst hj
    refine ⟨v6, by rw [← hvl, List.getElem?_append_right (Nat.le_refl _), Nat.sub_self]; rfl, ?_, fun b hb e => ?_⟩
    · have := World.ownsRow.kept O G (by
        cases e : v6.ownBlock with
        | none => exact .inl rfl
        | some b => exact .inr fun h' => by have := hlt b h'.symm; have := (World.ownsRow.lt O b e).1; omega)
      exact ⟨this.1, this.2.imp id fun ⟨g, cap, cur, h1, h2, h3⟩ => ⟨g, cap, cur, h1, Nat.le_trans hB h2, h3⟩⟩
    · have e' : g = b := by simpa [Value.ownBlock] using e
      subst e'
      rcases hat with hat | hat
      · have := hlt _ hat; have := (World.ownsRow.lt O _ hb).1; omega
      · have := (World.ownsRow.lt O _ hb).2; omega
theorem Els.at {w : World} {B n : Nat} {v : Value} {vs : List Value} {ls : List (List UInt8)} (h : Els w B v vs ls) (hn : n = ls.length) (j : Nat) (l : List UInt8) (hj : ls[j]? = some l) : ∃ g cap A c, v = .slice (some ⟨g, 0, none⟩) n cap ∧ g < w.heap.size ∧ w.cell? ⟨g, j, none⟩ = some (.slice A l.length c) ∧ Rd w w.heap.size A l := by
  subst hn
  obtain ⟨u, h1, h2, _⟩ := h.2 j l hj
  have hjl := (List.getElem?_eq_some_iff.1 hj).1
  obtain ⟨A, c, rfl, hR, _⟩ := h2.form
  obtain ⟨g, cap, hv, _, hlt⟩ := h.1.form (by omega)
  have ho := h.1
  rw [hv] at ho
  have hc := World.ownsRow.cellAt ho j (by omega)
  rw [h1] at hc
  exact ⟨g, cap, A, c, hv, hlt, hc, hR⟩
/-- What lies in memory between two changes. -/
structure BS (wh wr : World) (ca : List C) (k m : Nat) (v : Value) : Prop where
  be : Below wh.heap.size wh wr
  row : wr.heap[wh.heap.size]? = some (.cells (prev ca k).cells 34 (0, 0))
  el : ∃ vs, Els wr (wh.heap.size + 1) v vs (encs ca m)
theorem BS.lt {wh wr : World} {ca : List C} {k m : Nat} {v : Value} (h : BS wh wr ca k m v) : wh.heap.size < wr.heap.size := (Array.getElem?_eq_some_iff.1 h.row).1
/-- The last change's box is written over. -/
theorem BS.put {wh wr w' : World} {ca : List C} {k k' m : Nat} {v : Value} (h : BS wh wr ca k m v) (hb : Below wh.heap.size wr w') (hs : wr.grownBy w' (some wh.heap.size)) (hr : w'.heap[wh.heap.size]? = some (.cells (prev ca k').cells 34 (0, 0))) : BS wh w' ca k' m v :=
  ⟨h.be.trans hb, hr, h.el.imp fun _ e => e.grown hs fun k e => by injection e with e; omega⟩
theorem BS.below {wh wr w' : World} {ca : List C} {k m : Nat} {v : Value} (h : BS wh wr ca k m v) (hb : Below wr.heap.size wr w') : BS wh w' ca k m v :=
  ⟨h.be.trans (hb.mono h.be.size), (hb.block _ h.lt).trans h.row, h.el.imp fun _ e => e.below hb⟩
theorem set8g (wx : World) (b : Nat) (y0 y1 y2 y3 y4 y5 y6 y7 : Value) : wx.grownBy ((((((((wx.setCell ⟨b, 0, none⟩ y0).setCell ⟨b, 1, none⟩ y1).setCell ⟨b, 2, none⟩ y2).setCell ⟨b, 3, none⟩ y3).setCell ⟨b, 4, none⟩ y4).setCell ⟨b, 5, none⟩ y5).setCell ⟨b, 6, none⟩ y6).setCell ⟨b, 7, none⟩ y7) (some b) := by
  have B := set8b wx b y0 y1 y2 y3 y4 y5 y6 y7
  exact ⟨B.os, B.tape, B.output, B.size, fun k _ hk => sets8 wx b y0 y1 y2 y3 y4 y5 y6 y7 k (fun e => hk (by rw [e]))⟩

set_option maxRecDepth 8000 in
set_option maxHeartbeats 8000000 in
theorem walk (a0 : Option Addr) (len0 cap0 : Nat) (z0 : List ActD) (a1 : Int) (w : World) (w0 : IsActs w a0 len0 cap0 z0) (w1 : (Lit.int .u8 a1).wf = true) :
    Calls Try.prog 6 #[.slice a0 len0 cap0, .int .u8 a1] w fun e w' => e = .returned (.bool true) ∧ Below w.heap.size w w' := by
  obtain ⟨hl1, hl2, hl3, HA, hnil⟩ := w0
  unfold maxLen at hl3
  have hc1 := bounds_u8 w1
  clear w1
  by_cases h2 : 60 < len0
  · have h2' : (60 : Int) < len0 := by omega
    clear h2 hl1 HA
    go_enter Try.func6, Try.ntmps6
    go_wp2_with fail
    refine (awake_any _).mono ?_
    rintro e w1 ⟨rfl, h1⟩
    go_wp2_with fail
    refine (awake_any _).mono ?_
    rintro e w2 ⟨rfl, h2⟩
    go_wp2_with fail
    go_ret
    exact ⟨rfl, h1.trans (h2.mono h1.size)⟩
  have h2' : ¬ (60 : Int) < len0 := by omega
  have hl60 : len0 ≤ 60 := by omega
  have HL := Lib.hid hl1
  obtain ⟨i0, hi, hz0, hz1, hz2⟩ := info_parts info35
  have HI : Hid (∃ i0 : TypeInfo, Try.prog.info? 35 = some i0 ∧ i0.zero = some (.slice none 0 0) ∧ i0.size = 1 ∧ i0.bytes = 24) := Lib.hid ⟨i0, hi, hz0, hz1, hz2⟩
  clear h2 hl1 hi hz0 hz1 hz2
  obtain ⟨nn, hnn⟩ : ∃ nn : Nat, (nn : Int) = (a1 : Int).tmod ((len0 : Int) + 1) := ⟨((a1 : Int).tmod ((len0 : Int) + 1)).toNat, Int.toNat_of_nonneg (Int.tmod_nonneg _ hc1.1)⟩
  have hnl : nn ≤ len0 := by
    have := Int.tmod_lt_of_pos (a1 : Int) (show (0 : Int) < (len0 : Int) + 1 by omega)
    omega
  replace hnn := hnn.symm
  go_enter Try.func6, Try.ntmps6
  go_upto_region 3 with (first
    | (go_at_call 7; refine (awake_any _).mono ?_; rintro e wz ⟨rfl, B0⟩))
  have c8 := history_any wz a0 len0 cap0 z0 HL.out hl60 (HA.below B0)
  go_upto_region 5 with (first
    | (go_at_call 8; (with_reducible refine c8.mono ?_); rintro e wh ⟨v3, ca, rfl, OA, hAl, hAo, BH⟩; obtain ⟨A3, c3, hv3, hs3, _⟩ := OA.form; rw [hAl] at hv3; subst hv3; clear OA c8))
  have HAL := Lib.hid hAl
  have HAO := Lib.hid hAo
  have HW := Lib.hid (B0.trans (BH.mono B0.size))
  have HS3 := Lib.hid hs3
  have HZ : Hid (BS wh (wh.alloc (.cells #[.int .u64 0, .int .u64 0, .bool false, .int .u32 0, .int .u8 0, .int .i64 0, .int .u16 0, .int .u16 0] 34)) ca 0 0 (.slice none 0 0)) := Lib.hid ⟨(Below.refl _ _).alloc (Nat.le_refl _) _, heap_alloc_new _ _, [], Els.nil _ _⟩
  clear hAl hAo BH B0 hs3 HA
  generalize wh.alloc _ = wg at *
  go_upto_block 0 with (fail)
  go_cut [7] (fun v7 wx => Hid (BS wh wx ca len0 len0 v7))
  case first =>
    go_wp2
    go_loopw [7, 8] (fun v7 i wr => ∃ k : Nat, k ≤ len0 ∧ i = .int .i64 k ∧ Hid (BS wh wr ca k k v7)) (fun _ i _ => len0 - (intOf i).toNat)
    case atStart => exact ⟨0, by omega, rfl, HZ⟩
    case round =>
      obtain ⟨k, hk, rfl, HR⟩ := hrel
      clear HZ
      by_cases hlt : k < len0
      · have hkc : Hid (k < ca.length) := Lib.hid (by rw [HAL.out]; exact hlt)
        obtain ⟨b7, o7, e7, hb7, hc7⟩ := HS3.out k hkc.out
        subst e7
        obtain ⟨hbe, hlr, vs, hel⟩ := HR.out
        have HLT := Lib.hid HR.out.lt
        have hlok := prev_ok HAO.out k (Nat.le_of_lt hkc.out)
        have hl1 := prev_after HAO.out k hkc.out
        have hoa := (HAO.out k hkc.out).2.2
        rw [← getD_get ca k hkc.out] at hoa hc7
        obtain ⟨X, hX⟩ : ∃ X, X = encj ca k := ⟨_, rfl⟩
        have hX2 := hX
        unfold encj at hX2
        obtain ⟨m6, hm6⟩ : ∃ m, m = X.length := ⟨_, rfl⟩
        have HX := Lib.hid hm6
        clear hm6
        have hnx : prev ca (k + 1) = ca.getD k C.zero := rfl
        generalize prev ca k = last at *
        generalize ca.getD k C.zero = ea at *
        have c9 := fun W => enc_any last ea hlok hoa hl1 W
        have c10 := fun A kk cap hk W R => decode_any last ea hlok hoa hl1 A kk cap hk W R
        have c13 := fun W => follows_any last.no last.time last.addr last.len last.via last.metric last.seq ea.no ea.time ea.addr ea.len ea.via ea.metric ea.seq last.gone ea.gone hl1.1 hl1.2 hoa.1 W
        rw [← hX2] at c9 c10
        have HNX := Lib.hid hnx
        have HLR := Lib.hid hlr
        have H7 := Lib.hid (And.intro (hc7.keep (hbe.block b7 hb7)) hb7)
        have H7' := Lib.hid (And.intro (hc7.keep (hbe.block b7 hb7)) (Nat.lt_of_lt_of_le hb7 hbe.size))
        have HBE := Lib.hid hbe
        unfold C.cells at c9 c10
        have HE := Lib.hid hel
        have HEN : Hid (encs ca k ++ [X] = encs ca (k + 1)) := Lib.hid (by rw [hX, encs_succ])
        clear hX hX2 hnx hlr hc7 hbe hl1 hlok hoa HR hb7 hel H7' c10 c13
        go_upto_region 9 with (fail)
        refine wp_region_noPanic ?_
        refine wp_region_held_drew (S := fun W : World => Below (wh.heap.size + 1) wr W) (by kernel_rfl) ((Below.refl _ _).drew) (fun hHeld => ?_)
        replace HE := Lib.hid (HE.out.below ((Below.refl wr.heap.size wr).drew))
        generalize wr.drew = wd at *
        refine wpAnyH_take (i := 0) (oi := { dst := some 30, op := Op.move (Operand.tmp 7), type := 46, pos := "more.go:18", after := #[], guard := none }) (v := u7) rfl (by kernel_rfl) (by kernel_rfl) (by kernel_rfl) (fun _ _ _ h => h) (Or.inl ⟨by rfl, fun w hSw => by go_simp⟩) (by assumption) ?_
        try simp only [Act.put, List.setIfInBounds_toArray, List.set_cons_zero, List.set_cons_succ]
        refine wpAnyH_take (i := 1) (oi := { dst := some 31, op := Op.load 34 (Operand.tmp 6), type := 34, pos := "more.go:18", after := #[], guard := none }) (v := .agg #[.int .u64 (last.no : Nat), .int .u64 (last.time : Nat), .bool last.gone, .int .u32 (last.addr : Nat), .int .u8 (last.len : Nat), .int .i64 (last.via : Nat), .int .u16 (last.metric : Nat), .int .u16 (last.seq : Nat)]) rfl (by kernel_rfl) (by kernel_rfl) (by kernel_rfl) (fun _ _ _ h => h) (Or.inl ⟨by rfl, fun w hSw => by obtain ⟨k0, k1, k2, k3, k4, k5, k6, k7⟩ := row8 ((hSw.block _ (Nat.lt_succ_self _)).trans HLR.out); go_simp⟩) (by assumption) ?_
        try simp only [Act.put, List.setIfInBounds_toArray, List.set_cons_zero, List.set_cons_succ]
        refine wpAnyH_take (i := 2) (oi := { dst := some 32, op := Op.move (Operand.tmp 5), type := 24, pos := "more.go:18", after := #[], guard := none }) (v := .slice (some ⟨b7, o7, none⟩) len0 c3) rfl (by kernel_rfl) (by kernel_rfl) (by kernel_rfl) (fun _ _ _ h => h) (Or.inl ⟨by rfl, fun w hSw => by go_simp⟩) (by assumption) ?_
        try simp only [Act.put, List.setIfInBounds_toArray, List.set_cons_zero, List.set_cons_succ]
        refine wpAnyH_take (i := 3) (oi := { dst := some 33, op := Op.move (Operand.tmp 8), type := 3, pos := "more.go:18", after := #[], guard := none }) (v := .int .i64 (k : Int)) rfl (by kernel_rfl) (by kernel_rfl) (by kernel_rfl) (fun _ _ _ h => h) (Or.inl ⟨by rfl, fun w hSw => by go_simp⟩) (by assumption) ?_
        try simp only [Act.put, List.setIfInBounds_toArray, List.set_cons_zero, List.set_cons_succ]
        refine wpAnyH_take (i := 4) (oi := { dst := some 34, op := Op.indexAddr 24 (Operand.tmp 32) (Operand.tmp 33), type := 0, pos := "more.go:18", after := #[{ on := 2, ground := Ground.data }, { on := 3, ground := Ground.data }], guard := none }) (v := .pointer (some ⟨b7, o7 + k * 8, none⟩)) rfl (by kernel_rfl) (by kernel_rfl) (by kernel_rfl) (fun _ _ _ h => h) (Or.inl ⟨by rfl, fun w hSw => by go_simp⟩) (by assumption) ?_
        try simp only [Act.put, List.setIfInBounds_toArray, List.set_cons_zero, List.set_cons_succ]
        refine wpAnyH_take (i := 5) (oi := { dst := some 35, op := Op.load 34 (Operand.tmp 34), type := 34, pos := "more.go:18", after := #[{ on := 4, ground := Ground.data }], guard := none }) (v := .agg #[.int .u64 (ea.no : Nat), .int .u64 (ea.time : Nat), .bool ea.gone, .int .u32 (ea.addr : Nat), .int .u8 (ea.len : Nat), .int .i64 (ea.via : Nat), .int .u16 (ea.metric : Nat), .int .u16 (ea.seq : Nat)]) rfl (by kernel_rfl) (by kernel_rfl) (by kernel_rfl) (fun _ _ _ h => h) (Or.inl ⟨by rfl, fun w hSw => by obtain ⟨k0, k1, k2, k3, k4, k5, k6, k7⟩ := H7.out.1.keep (hSw.block b7 (Nat.lt_succ_of_lt H7.out.2)); go_simp⟩) (by assumption) ?_
        try simp only [Act.put, List.setIfInBounds_toArray, List.set_cons_zero, List.set_cons_succ]
        refine wpAnyH_ready (rs := [6]) (by kernel_rfl) (by simp) ?_
        refine AllReadyH.cons (o := { dst := some 36, op := Op.call { callee := Callee.value (Operand.func 9), args := #[Operand.tmp 31, Operand.tmp 35], argTypes := #[34, 34] }, type := 35, pos := "more.go:18", after := #[{ on := 1, ground := Ground.data }, { on := 5, ground := Ground.data }], guard := none }) rfl (fun K hK => ?_) AllReadyH.nil
        go_simp
        with_reducible refine (c9 _).mono ?_
        rintro e w6 ⟨v6, rfl, O6, B6⟩
        have hsz := hHeld.size
        have D6 := hHeld.trans (B6.mono (by have := HLT.out; omega))
        have E6 := HE.out.below B6
        have hv7 : ∀ k, u7.ownBlock = some k → k < wd.heap.size := fun k e => (World.ownsRow.lt HE.out.1 k e).2
        obtain ⟨A6, c6, hv6, -⟩ := O6.form
        rw [← HX.out] at hv6
        subst hv6
        refine hK.out _ _ (D6) (fun hHeld => ?_)
        clear hK K
        try simp only [Act.put, List.setIfInBounds_toArray, List.set_cons_zero, List.set_cons_succ]
        refine wpAnyH_ready (rs := [7]) (by kernel_rfl) (by simp) ?_
        refine AllReadyH.cons (o := { dst := some 37, op := Op.buildSlice 46 1 #[(0, Operand.tmp 36)], type := 46, pos := "more.go:18", after := #[{ on := 6, ground := Ground.data }], guard := none }) rfl (fun K hK => ?_) AllReadyH.nil
        go_simp
        have BA := (Below.refl w6.heap.size w6).alloc (Nat.le_refl _) (.cells #[.slice A6 m6 c6] 35)
        replace E6 := E6.below BA
        replace O6 := O6.kept BA
        have hbx : ((w6.alloc (.cells #[.slice A6 m6 c6] 35)).heap[w6.heap.size]?) = some (.cells #[.slice A6 m6 c6] 35) := heap_alloc_new w6 _
        have D7 := D6.trans (BA.mono (by have := D6.size; have := HLT.out; omega))
        refine hK.out _ _ (D7) (fun hHeld => ?_)
        clear hK K
        try simp only [Act.put, List.setIfInBounds_toArray, List.set_cons_zero, List.set_cons_succ]
        refine wpAnyH_ready (rs := [8]) (by kernel_rfl) (by simp) ?_
        refine AllReadyH.cons (o := { dst := some 38, op := Op.call { callee := Callee.builtin Builtin.append, args := #[Operand.tmp 30, Operand.tmp 37], argTypes := #[46, 46] }, type := 46, pos := "more.go:18", after := #[{ on := 0, ground := Ground.data }, { on := 7, ground := Ground.data }, { on := 6, ground := Ground.chain }], guard := none }) rfl (fun K hK => ?_) AllReadyH.nil
        refine step_append_lies (w6.alloc (.cells #[.slice A6 m6 c6] 35)) rfl (.tmp 30) (.tmp 37) 46 rfl (wh.heap.size + 1) 35 HI.out.choose _ 1 24 Try.underlying46 HI.out.choose_spec.1 HI.out.choose_spec.2.1 HI.out.choose_spec.2.2.1 HI.out.choose_spec.2.2.2 rfl (by decide) u7 (encs ca k).length vs rfl E6.1 ⟨w6.heap.size, 0, none⟩ 1 1 [.slice A6 m6 c6] rfl rfl (World.news_of_block hbx) (by intro u hu; rw [List.mem_singleton.1 hu]; rfl) (by decide) (by rw [encs_len]; unfold maxLen; omega) (by rw [encs_len]; omega) (by have := D7.size; have := HLT.out; omega) _ rfl ?_
        intro g8 cap8 w8 o8 G8 hat8 hlt8
        have E8 := E6.snoc O6 (by have := HLT.out; omega) hv7 o8 rfl G8 hat8
        rw [HEN.out] at E8
        have D8 := D7.grown G8 (by have := D7.size; have := HLT.out; omega) (fun k e => (World.ownsRow.lt E6.1 k e).1)
        clear o8 G8 hat8 O6 hbx BA E6 hv7
        refine hK.out _ _ (D8) (fun hHeld => ?_)
        clear hK K
        try simp only [Act.put, List.setIfInBounds_toArray, List.set_cons_zero, List.set_cons_succ]
        refine wpAnyH_take (i := 9) (oi := { dst := some 7, op := Op.assign (Operand.tmp 38), type := 46, pos := "more.go:18", after := #[{ on := 8, ground := Ground.data }, { on := 8, ground := Ground.chain }, { on := 0, ground := Ground.phase }, { on := 1, ground := Ground.phase }, { on := 2, ground := Ground.phase }, { on := 3, ground := Ground.phase }, { on := 4, ground := Ground.phase }, { on := 5, ground := Ground.phase }, { on := 6, ground := Ground.phase }, { on := 7, ground := Ground.phase }, { on := 8, ground := Ground.phase }], guard := none }) (v := .slice (some ⟨g8, 0, none⟩) ((encs ca k).length + 1) cap8) rfl (by kernel_rfl) (by kernel_rfl) (by kernel_rfl) (fun _ _ _ h => h) (Or.inl ⟨by rfl, fun w hSw => by go_simp⟩) (by assumption) ?_
        try simp only [Act.put, List.setIfInBounds_toArray, List.set_cons_zero, List.set_cons_succ]
        refine wpAnyH_done (by kernel_rfl) ?_ _
        try unfold NoPanic
        go_upto_region 10 with (fail)
        have HLW := Lib.hid ((hHeld.block _ (Nat.lt_succ_self _)).trans HLR.out)
        obtain ⟨q0, q1, q2, q3, q4, q5, q6, q7⟩ := row8 HLW.out
        obtain ⟨k0, k1, k2, k3, k4, k5, k6, k7⟩ := H7.out.1.keep (hHeld.block b7 (Nat.lt_succ_of_lt H7.out.2))
        have fz := fun i => frozen_of_row _ wh.heap.size i _ 34 HLW.out
        have BZ := Lib.hid (HBE.out.trans (hHeld.mono (Nat.le_succ _)))
        have HE8 := Lib.hid E8
        clear hHeld E8 D8
        go_wp2
        go_roundw
        case rel => exact ⟨k + 1, by omega, by go_num, Lib.hid ⟨BZ.out.trans ((set8b _ _ ..).mono (Nat.le_refl _)), by rw [HNX.out]; exact row8_set HLW.out .., _, HE8.out.grown (set8g _ wh.heap.size ..) (fun k e => by injection e with e; omega)⟩⟩
        case measure => simp [intOf]; omega
      · obtain rfl : k = len0 := by omega
        go_wp2
        go_meet
        case rel => exact HR
  case rest =>
    have HR := hcut
    clear HZ
    obtain ⟨pl, hpl⟩ : ∃ c, c = prev ca len0 := ⟨_, rfl⟩
    have hrow := HR.out.row
    rw [← hpl] at hrow
    have HRW := Lib.hid hrow
    obtain ⟨q0, q1, q2, q3, q4, q5, q6, q7⟩ := row8 hrow
    have fz := fun i => frozen_of_row _ wh.heap.size i _ 34 hrow
    clear hrow hpl hcut
    go_upto_block 2 with (fail)
    have HZ : Hid (BS wh ((((((((wc.setCell ⟨wh.heap.size, 0, none⟩ (.int .u64 0)).setCell ⟨wh.heap.size, 1, none⟩ (.int .u64 0)).setCell ⟨wh.heap.size, 2, none⟩ (.bool false)).setCell ⟨wh.heap.size, 3, none⟩ (.int .u32 0)).setCell ⟨wh.heap.size, 4, none⟩ (.int .u8 0)).setCell ⟨wh.heap.size, 5, none⟩ (.int .i64 0)).setCell ⟨wh.heap.size, 6, none⟩ (.int .u16 0)).setCell ⟨wh.heap.size, 7, none⟩ (.int .u16 0)) ca 0 len0 u7) := Lib.hid (HR.out.put (set8b _ _ ..) (set8g _ _ ..) (row8_set HRW.out ..))
    clear HR HRW q0 q1 q2 q3 q4 q5 q6 q7 fz
    generalize (World.setCell _ _ _) = wg at *
    go_wp2
    go_loopw [10] (fun i wr => ∃ k : Nat, k ≤ nn ∧ i = .int .i64 k ∧ Hid (BS wh wr ca k len0 u7)) (fun i _ => nn - (intOf i).toNat)
    case atStart => exact ⟨0, by omega, rfl, HZ⟩
    case round =>
      obtain ⟨k, hk, rfl, HR⟩ := hrel
      clear HZ
      by_cases hlt : k < nn
      · have hkc : Hid (k < ca.length) := Lib.hid (by rw [HAL.out]; exact (show k < len0 by omega))
        obtain ⟨b7, o7, e7, hb7, hc7⟩ := HS3.out k hkc.out
        subst e7
        obtain ⟨hbe, hlr, vs, hel⟩ := HR.out
        have HLT := Lib.hid HR.out.lt
        have hlok := prev_ok HAO.out k (Nat.le_of_lt hkc.out)
        have hl1 := prev_after HAO.out k hkc.out
        have hoa := (HAO.out k hkc.out).2.2
        rw [← getD_get ca k hkc.out] at hoa hc7
        obtain ⟨X, hX⟩ : ∃ X, X = encj ca k := ⟨_, rfl⟩
        have hX2 := hX
        unfold encj at hX2
        obtain ⟨m6, hm6⟩ : ∃ m, m = X.length := ⟨_, rfl⟩
        have HX := Lib.hid hm6
        clear hm6
        have hnx : prev ca (k + 1) = ca.getD k C.zero := rfl
        generalize prev ca k = last at *
        generalize ca.getD k C.zero = ea at *
        have c9 := fun W => enc_any last ea hlok hoa hl1 W
        have c10 := fun A kk cap hk W R => decode_any last ea hlok hoa hl1 A kk cap hk W R
        have c13 := fun W => follows_any last.no last.time last.addr last.len last.via last.metric last.seq ea.no ea.time ea.addr ea.len ea.via ea.metric ea.seq last.gone ea.gone hl1.1 hl1.2 hoa.1 W
        rw [← hX2] at c9 c10
        have HNX := Lib.hid hnx
        have HLR := Lib.hid hlr
        have H7 := Lib.hid (And.intro (hc7.keep (hbe.block b7 hb7)) hb7)
        have H7' := Lib.hid (And.intro (hc7.keep (hbe.block b7 hb7)) (Nat.lt_of_lt_of_le hb7 hbe.size))
        have HBE := Lib.hid hbe
        unfold C.cells at c9 c10
        have hk9 : ¬ len0 ≤ k := by omega
        have hk8 : (k : Int) < len0 := by omega
        obtain ⟨g7, cap7, A6, c6, hv7, hg7, hu7, R6⟩ := hel.at (encs_len ca len0).symm k X (by rw [encs_get ca len0 k (by omega), hX])
        rw [← HX.out] at hu7
        have HU := Lib.hid (And.intro hg7 hu7)
        have HE := Lib.hid hel
        clear hX hX2 hnx hlr hc7 hbe hl1 hlok hoa HR hb7 hel H7 c9 hg7 hu7
        subst hv7
        go_upto_region 16 with (fail)
        go_cut [11, 12] (fun v11 v12 wx => ∃ gc, v11 = .pointer (some ⟨gc, 0, none⟩) ∧ v12 = .int .i64 0 ∧ Hid (Below wr.heap.size wr wx ∧ wx.heap[gc]? = some (.cells #[.int .u64 (ea.no : Nat), .int .u64 (ea.time : Nat), .bool ea.gone, .int .u32 (ea.addr : Nat), .int .u8 (ea.len : Nat), .int .i64 (ea.via : Nat), .int .u16 (ea.metric : Nat), .int .u16 (ea.seq : Nat)] 34 (0, 0))))
        case first =>
          refine wp_region_noPanic ?_
          refine wp_region_held_drew (S := fun W : World => Below wr.heap.size wr W) (by kernel_rfl) ((Below.refl _ _).drew) (fun hHeld => ?_)
          have hwd := Lib.hid hHeld.size
          generalize wr.drew = wd at *
          refine wpAnyH_take (i := 0) (oi := { dst := some 56, op := Op.load 34 (Operand.tmp 6), type := 34, pos := "more.go:24", after := #[], guard := none }) (v := .agg #[.int .u64 (last.no : Nat), .int .u64 (last.time : Nat), .bool last.gone, .int .u32 (last.addr : Nat), .int .u8 (last.len : Nat), .int .i64 (last.via : Nat), .int .u16 (last.metric : Nat), .int .u16 (last.seq : Nat)]) rfl (by kernel_rfl) (by kernel_rfl) (by kernel_rfl) (fun _ _ _ h => h) (Or.inl ⟨by rfl, fun w hSw => by obtain ⟨k0, k1, k2, k3, k4, k5, k6, k7⟩ := row8 ((hSw.block _ (Array.getElem?_eq_some_iff.1 HLR.out).1).trans HLR.out); go_simp⟩) (by assumption) ?_
          try simp only [Act.put, List.setIfInBounds_toArray, List.set_cons_zero, List.set_cons_succ]
          refine wpAnyH_take (i := 1) (oi := { dst := some 57, op := Op.move (Operand.tmp 7), type := 46, pos := "more.go:24", after := #[], guard := none }) (v := .slice (some ⟨g7, 0, none⟩) len0 cap7) rfl (by kernel_rfl) (by kernel_rfl) (by kernel_rfl) (fun _ _ _ h => h) (Or.inl ⟨by rfl, fun w hSw => by go_simp⟩) (by assumption) ?_
          try simp only [Act.put, List.setIfInBounds_toArray, List.set_cons_zero, List.set_cons_succ]
          refine wpAnyH_take (i := 2) (oi := { dst := some 58, op := Op.move (Operand.tmp 10), type := 3, pos := "more.go:24", after := #[], guard := none }) (v := .int .i64 (k : Int)) rfl (by kernel_rfl) (by kernel_rfl) (by kernel_rfl) (fun _ _ _ h => h) (Or.inl ⟨by rfl, fun w hSw => by go_simp⟩) (by assumption) ?_
          try simp only [Act.put, List.setIfInBounds_toArray, List.set_cons_zero, List.set_cons_succ]
          refine wpAnyH_take (i := 3) (oi := { dst := some 59, op := Op.indexAddr 46 (Operand.tmp 57) (Operand.tmp 58), type := 0, pos := "more.go:24", after := #[{ on := 1, ground := Ground.data }, { on := 2, ground := Ground.data }], guard := none }) (v := .pointer (some ⟨g7, k, none⟩)) rfl (by kernel_rfl) (by kernel_rfl) (by kernel_rfl) (fun _ _ _ h => h) (Or.inl ⟨by rfl, fun w hSw => by go_simp⟩) (by assumption) ?_
          try simp only [Act.put, List.setIfInBounds_toArray, List.set_cons_zero, List.set_cons_succ]
          refine wpAnyH_take (i := 4) (oi := { dst := some 60, op := Op.load 35 (Operand.tmp 59), type := 35, pos := "more.go:24", after := #[{ on := 3, ground := Ground.data }], guard := none }) (v := .slice A6 m6 c6) rfl (by kernel_rfl) (by kernel_rfl) (by kernel_rfl) (fun _ _ _ h => h) (Or.inl ⟨by rfl, fun w hSw => by have hz := (hSw.cell (p := ⟨g7, k, none⟩) HU.out.1).trans HU.out.2; go_simp⟩) (by assumption) ?_
          try simp only [Act.put, List.setIfInBounds_toArray, List.set_cons_zero, List.set_cons_succ]
          refine wpAnyH_ready (rs := [5, 9]) (by kernel_rfl) (by simp) ?_
          refine (AllReadyH.cons (o := { dst := some 61, op := Op.call { callee := Callee.value (Operand.func 10), args := #[Operand.tmp 56, Operand.tmp 60], argTypes := #[34, 35] }, type := 38, pos := "more.go:24", after := #[{ on := 0, ground := Ground.data }, { on := 4, ground := Ground.data }], guard := none }) rfl (fun K hK => ?_) (AllReadyH.cons (o := { dst := some 11, op := Op.alloc 34, type := 0, pos := "more.go:24", after := #[], guard := none }) rfl (fun K hK => ?_) AllReadyH.nil))
          · go_simp
            with_reducible refine (c10 A6 m6 c6 HX.out _ ((R6.below hHeld (Nat.le_refl _)).more hHeld.size)).mono ?_
            rintro e w5 ⟨rfl, B5⟩
            refine hK.out _ _ (hHeld.trans (B5.mono hHeld.size)) (fun hHeld => ?_)
            clear hK K
            try simp only [Act.put, List.setIfInBounds_toArray, List.set_cons_zero, List.set_cons_succ]
            refine wpAnyH_take (i := 6) (oi := { dst := some 55, op := Op.move (Operand.tmp 61), type := 38, pos := "more.go:24", after := #[{ on := 5, ground := Ground.data }], guard := none }) (v := .tuple #[.agg #[.int .u64 (ea.no : Nat), .int .u64 (ea.time : Nat), .bool ea.gone, .int .u32 (ea.addr : Nat), .int .u8 (ea.len : Nat), .int .i64 (ea.via : Nat), .int .u16 (ea.metric : Nat), .int .u16 (ea.seq : Nat)], .int .i64 0]) rfl (by kernel_rfl) (by kernel_rfl) (by kernel_rfl) (fun _ _ _ h => h) (Or.inl ⟨by rfl, fun w hSw => by go_simp⟩) (by assumption) ?_
            try simp only [Act.put, List.setIfInBounds_toArray, List.set_cons_zero, List.set_cons_succ]
            refine wpAnyH_take (i := 7) (oi := { dst := some 62, op := Op.extract (Operand.tmp 55) 0, type := 34, pos := "more.go:24", after := #[{ on := 6, ground := Ground.data }], guard := none }) (v := .agg #[.int .u64 (ea.no : Nat), .int .u64 (ea.time : Nat), .bool ea.gone, .int .u32 (ea.addr : Nat), .int .u8 (ea.len : Nat), .int .i64 (ea.via : Nat), .int .u16 (ea.metric : Nat), .int .u16 (ea.seq : Nat)]) rfl (by kernel_rfl) (by kernel_rfl) (by kernel_rfl) (fun _ _ _ h => h) (Or.inl ⟨by rfl, fun w hSw => by go_simp⟩) (by assumption) ?_
            try simp only [Act.put, List.setIfInBounds_toArray, List.set_cons_zero, List.set_cons_succ]
            refine wpAnyH_take (i := 8) (oi := { dst := some 63, op := Op.extract (Operand.tmp 55) 1, type := 37, pos := "more.go:24", after := #[{ on := 6, ground := Ground.data }, { on := 10, ground := Ground.gcOnly Departure.lateStores }], guard := none }) (v := .int .i64 0) rfl (by kernel_rfl) (by kernel_rfl) (by kernel_rfl) (fun _ _ _ h => h) (Or.inl ⟨by rfl, fun w hSw => by go_simp⟩) (by assumption) ?_
            try simp only [Act.put, List.setIfInBounds_toArray, List.set_cons_zero, List.set_cons_succ]
            refine wpAnyH_ready (rs := [9]) (by kernel_rfl) (by simp) ?_
            refine AllReadyH.cons (o := { dst := some 11, op := Op.alloc 34, type := 0, pos := "more.go:24", after := #[], guard := none }) rfl (fun K hK => ?_) AllReadyH.nil
            go_simp
            have HN := hHeld.trans (((Below.refl w5.heap.size w5).alloc (Nat.le_refl _) (.cells #[.int .u64 (ea.no : Nat), .int .u64 (ea.time : Nat), .bool ea.gone, .int .u32 (ea.addr : Nat), .int .u8 (ea.len : Nat), .int .i64 (ea.via : Nat), .int .u16 (ea.metric : Nat), .int .u16 (ea.seq : Nat)] 34)).mono hHeld.size)
            have RZ := heap_alloc_new w5 (.cells #[.int .u64 0, .int .u64 0, .bool false, .int .u32 0, .int .u8 0, .int .i64 0, .int .u16 0, .int .u16 0] 34)
            refine hK.out _ _ (hHeld.trans (((Below.refl _ _).alloc (Nat.le_refl _) _).mono hHeld.size)) (fun hHeld => ?_)
            clear hK K
            try simp only [Act.put, List.setIfInBounds_toArray, List.set_cons_zero, List.set_cons_succ]
            refine wpAnyH_ready (rs := [10]) (by kernel_rfl) (by simp) ?_
            refine AllReadyH.cons (o := { dst := none, op := Op.store 34 (Operand.tmp 11) (Operand.tmp 62), type := 0, pos := "more.go:24", after := #[{ on := 9, ground := Ground.data }, { on := 7, ground := Ground.data }, { on := 5, ground := Ground.chain }, { on := 0, ground := Ground.phase }, { on := 1, ground := Ground.phase }, { on := 2, ground := Ground.phase }, { on := 3, ground := Ground.phase }, { on := 4, ground := Ground.phase }, { on := 5, ground := Ground.phase }, { on := 6, ground := Ground.phase }, { on := 7, ground := Ground.phase }, { on := 8, ground := Ground.textOnly Departure.lateStores }, { on := 9, ground := Ground.phase }], guard := none }) rfl (fun K hK => ?_) AllReadyH.nil
            obtain ⟨z0, z1, z2, z3, z4, z5, z6, z7⟩ := row8 RZ
            have zf := fun i => frozen_of_row _ w5.heap.size i _ 34 RZ
            go_simp
            have RG := heap_alloc_new w5 (.cells #[.int .u64 (ea.no : Nat), .int .u64 (ea.time : Nat), .bool ea.gone, .int .u32 (ea.addr : Nat), .int .u8 (ea.len : Nat), .int .i64 (ea.via : Nat), .int .u16 (ea.metric : Nat), .int .u16 (ea.seq : Nat)] 34)
            refine hK.out _ _ (HN) (fun hHeld => ?_)
            clear hK K
            try simp only [Act.put, List.setIfInBounds_toArray, List.set_cons_zero, List.set_cons_succ]
            refine wpAnyH_take (i := 11) (oi := { dst := some 12, op := Op.assign (Operand.tmp 63), type := 37, pos := "more.go:24", after := #[{ on := 8, ground := Ground.data }, { on := 10, ground := Ground.chain }, { on := 0, ground := Ground.phase }, { on := 1, ground := Ground.phase }, { on := 2, ground := Ground.phase }, { on := 3, ground := Ground.phase }, { on := 4, ground := Ground.phase }, { on := 5, ground := Ground.phase }, { on := 6, ground := Ground.phase }, { on := 7, ground := Ground.phase }, { on := 8, ground := Ground.phase }, { on := 9, ground := Ground.phase }, { on := 10, ground := Ground.phase }], guard := none }) (v := .int .i64 0) rfl (by kernel_rfl) (by kernel_rfl) (by kernel_rfl) (fun _ _ _ h => h) (Or.inl ⟨by rfl, fun w hSw => by go_simp⟩) (by assumption) ?_
            try simp only [Act.put, List.setIfInBounds_toArray, List.set_cons_zero, List.set_cons_succ]
            refine wpAnyH_done (by kernel_rfl) ?_ _
            try unfold NoPanic
            go_wp2
            go_meet
            case rel => exact ⟨w5.heap.size, rfl, rfl, Lib.hid ⟨hHeld, RG⟩⟩
          · go_simp
            have RZ := heap_alloc_new wd (.cells #[.int .u64 0, .int .u64 0, .bool false, .int .u32 0, .int .u8 0, .int .i64 0, .int .u16 0, .int .u16 0] 34)
            refine hK.out _ _ (hHeld.trans (((Below.refl _ _).alloc (Nat.le_refl _) _).mono hHeld.size)) (fun hHeld => ?_)
            clear hK K
            try simp only [Act.put, List.setIfInBounds_toArray, List.set_cons_zero, List.set_cons_succ]
            refine wpAnyH_ready (rs := [5]) (by kernel_rfl) (by simp) ?_
            refine AllReadyH.cons (o := { dst := some 61, op := Op.call { callee := Callee.value (Operand.func 10), args := #[Operand.tmp 56, Operand.tmp 60], argTypes := #[34, 35] }, type := 38, pos := "more.go:24", after := #[{ on := 0, ground := Ground.data }, { on := 4, ground := Ground.data }], guard := none }) rfl (fun K hK => ?_) AllReadyH.nil
            go_simp
            with_reducible refine (c10 A6 m6 c6 HX.out _ ((R6.below hHeld (Nat.le_refl _)).more hHeld.size)).mono ?_
            rintro e w5 ⟨rfl, B5⟩
            replace RZ := (B5.block _ (Array.getElem?_eq_some_iff.1 RZ).1).trans RZ
            have hd9 := hHeld.size
            refine hK.out _ _ (hHeld.trans (B5.mono hHeld.size)) (fun hHeld => ?_)
            clear hK K
            try simp only [Act.put, List.setIfInBounds_toArray, List.set_cons_zero, List.set_cons_succ]
            refine wpAnyH_take (i := 6) (oi := { dst := some 55, op := Op.move (Operand.tmp 61), type := 38, pos := "more.go:24", after := #[{ on := 5, ground := Ground.data }], guard := none }) (v := .tuple #[.agg #[.int .u64 (ea.no : Nat), .int .u64 (ea.time : Nat), .bool ea.gone, .int .u32 (ea.addr : Nat), .int .u8 (ea.len : Nat), .int .i64 (ea.via : Nat), .int .u16 (ea.metric : Nat), .int .u16 (ea.seq : Nat)], .int .i64 0]) rfl (by kernel_rfl) (by kernel_rfl) (by kernel_rfl) (fun _ _ _ h => h) (Or.inl ⟨by rfl, fun w hSw => by go_simp⟩) (by assumption) ?_
            try simp only [Act.put, List.setIfInBounds_toArray, List.set_cons_zero, List.set_cons_succ]
            refine wpAnyH_take (i := 7) (oi := { dst := some 62, op := Op.extract (Operand.tmp 55) 0, type := 34, pos := "more.go:24", after := #[{ on := 6, ground := Ground.data }], guard := none }) (v := .agg #[.int .u64 (ea.no : Nat), .int .u64 (ea.time : Nat), .bool ea.gone, .int .u32 (ea.addr : Nat), .int .u8 (ea.len : Nat), .int .i64 (ea.via : Nat), .int .u16 (ea.metric : Nat), .int .u16 (ea.seq : Nat)]) rfl (by kernel_rfl) (by kernel_rfl) (by kernel_rfl) (fun _ _ _ h => h) (Or.inl ⟨by rfl, fun w hSw => by go_simp⟩) (by assumption) ?_
            try simp only [Act.put, List.setIfInBounds_toArray, List.set_cons_zero, List.set_cons_succ]
            refine wpAnyH_take (i := 8) (oi := { dst := some 63, op := Op.extract (Operand.tmp 55) 1, type := 37, pos := "more.go:24", after := #[{ on := 6, ground := Ground.data }, { on := 10, ground := Ground.gcOnly Departure.lateStores }], guard := none }) (v := .int .i64 0) rfl (by kernel_rfl) (by kernel_rfl) (by kernel_rfl) (fun _ _ _ h => h) (Or.inl ⟨by rfl, fun w hSw => by go_simp⟩) (by assumption) ?_
            try simp only [Act.put, List.setIfInBounds_toArray, List.set_cons_zero, List.set_cons_succ]
            refine wpAnyH_ready (rs := [10]) (by kernel_rfl) (by simp) ?_
            refine AllReadyH.cons (o := { dst := none, op := Op.store 34 (Operand.tmp 11) (Operand.tmp 62), type := 0, pos := "more.go:24", after := #[{ on := 9, ground := Ground.data }, { on := 7, ground := Ground.data }, { on := 5, ground := Ground.chain }, { on := 0, ground := Ground.phase }, { on := 1, ground := Ground.phase }, { on := 2, ground := Ground.phase }, { on := 3, ground := Ground.phase }, { on := 4, ground := Ground.phase }, { on := 5, ground := Ground.phase }, { on := 6, ground := Ground.phase }, { on := 7, ground := Ground.phase }, { on := 8, ground := Ground.textOnly Departure.lateStores }, { on := 9, ground := Ground.phase }], guard := none }) rfl (fun K hK => ?_) AllReadyH.nil
            obtain ⟨z0, z1, z2, z3, z4, z5, z6, z7⟩ := row8 RZ
            have zf := fun i => frozen_of_row _ wd.heap.size i _ 34 RZ
            go_simp
            have RG := row8_set RZ (.int .u64 (ea.no : Nat)) (.int .u64 (ea.time : Nat)) (.bool ea.gone) (.int .u32 (ea.addr : Nat)) (.int .u8 (ea.len : Nat)) (.int .i64 (ea.via : Nat)) (.int .u16 (ea.metric : Nat)) (.int .u16 (ea.seq : Nat))
            refine hK.out _ _ (hHeld.trans ((set8b _ _ ..).mono hwd.out)) (fun hHeld => ?_)
            clear hK K
            try simp only [Act.put, List.setIfInBounds_toArray, List.set_cons_zero, List.set_cons_succ]
            refine wpAnyH_take (i := 11) (oi := { dst := some 12, op := Op.assign (Operand.tmp 63), type := 37, pos := "more.go:24", after := #[{ on := 8, ground := Ground.data }, { on := 10, ground := Ground.chain }, { on := 0, ground := Ground.phase }, { on := 1, ground := Ground.phase }, { on := 2, ground := Ground.phase }, { on := 3, ground := Ground.phase }, { on := 4, ground := Ground.phase }, { on := 5, ground := Ground.phase }, { on := 6, ground := Ground.phase }, { on := 7, ground := Ground.phase }, { on := 8, ground := Ground.phase }, { on := 9, ground := Ground.phase }, { on := 10, ground := Ground.phase }], guard := none }) (v := .int .i64 0) rfl (by kernel_rfl) (by kernel_rfl) (by kernel_rfl) (fun _ _ _ h => h) (Or.inl ⟨by rfl, fun w hSw => by go_simp⟩) (by assumption) ?_
            try simp only [Act.put, List.setIfInBounds_toArray, List.set_cons_zero, List.set_cons_succ]
            refine wpAnyH_done (by kernel_rfl) ?_ _
            try unfold NoPanic
            go_wp2
            go_meet
            case rel => exact ⟨wd.heap.size, rfl, rfl, Lib.hid ⟨hHeld, RG⟩⟩
        case rest =>
          obtain ⟨gc, rfl, rfl, HQ⟩ := hcut
          generalize wc = wv at *
          have HLV := Lib.hid ((HQ.out.1.block _ (Array.getElem?_eq_some_iff.1 HLR.out).1).trans HLR.out)
          have H8 := Lib.hid (And.intro (H7'.out.1.keep (HQ.out.1.block b7 H7'.out.2)) (Nat.lt_of_lt_of_le H7'.out.2 HQ.out.1.size))
          have HGC := Lib.hid HQ.out.2
          have HQ1 := Lib.hid HQ.out.1
          clear HQ
          go_upto_region 17 with (fail)
          refine wp_region_noPanic ?_
          refine wp_region_held_drew (S := fun W : World => Below wv.heap.size wv W) (by kernel_rfl) ((Below.refl _ _).drew) (fun hHeld => ?_)
          generalize wv.drew = wd at *
          refine wpAnyH_take (i := 0) (oi := { dst := some 64, op := Op.move (Operand.tmp 12), type := 37, pos := "more.go:25", after := #[], guard := none }) (v := .int .i64 0) rfl (by kernel_rfl) (by kernel_rfl) (by kernel_rfl) (fun _ _ _ h => h) (Or.inl ⟨by rfl, fun w hSw => by go_simp⟩) (by assumption) ?_
          try simp only [Act.put, List.setIfInBounds_toArray, List.set_cons_zero, List.set_cons_succ]
          refine wpAnyH_take (i := 1) (oi := { dst := some 65, op := Op.binOp BinOp.neq 37 (Operand.tmp 64) (Operand.const (Value.int IntKind.i64 0)) 37, type := 4, pos := "more.go:25", after := #[{ on := 0, ground := Ground.data }], guard := none }) (v := .bool false) rfl (by kernel_rfl) (by kernel_rfl) (by kernel_rfl) (fun _ _ _ h => h) (Or.inl ⟨by rfl, fun w hSw => by go_simp⟩) (by assumption) ?_
          try simp only [Act.put, List.setIfInBounds_toArray, List.set_cons_zero, List.set_cons_succ]
          refine wpAnyH_take (i := 2) (oi := { dst := some 66, op := Op.move (Operand.tmp 65), type := 4, pos := "more.go:25", after := #[{ on := 1, ground := Ground.data }], guard := none }) (v := .bool false) rfl (by kernel_rfl) (by kernel_rfl) (by kernel_rfl) (fun _ _ _ h => h) (Or.inl ⟨by rfl, fun w hSw => by go_simp⟩) (by assumption) ?_
          try simp only [Act.put, List.setIfInBounds_toArray, List.set_cons_zero, List.set_cons_succ]
          refine wpAnyH_take (i := 3) (oi := { dst := some 67, op := Op.load 34 (Operand.tmp 11), type := 34, pos := "more.go:25", after := #[{ on := 2, ground := Ground.guard }], guard := some (2, false) }) (v := .agg #[.int .u64 (ea.no : Nat), .int .u64 (ea.time : Nat), .bool ea.gone, .int .u32 (ea.addr : Nat), .int .u8 (ea.len : Nat), .int .i64 (ea.via : Nat), .int .u16 (ea.metric : Nat), .int .u16 (ea.seq : Nat)]) rfl (by kernel_rfl) (by kernel_rfl) (by kernel_rfl) (fun _ _ _ h => h) (Or.inl ⟨by rfl, fun w hSw => by obtain ⟨k0, k1, k2, k3, k4, k5, k6, k7⟩ := row8 ((hSw.block _ (Array.getElem?_eq_some_iff.1 HGC.out).1).trans HGC.out); go_simp⟩) (by assumption) ?_
          try simp only [Act.put, List.setIfInBounds_toArray, List.set_cons_zero, List.set_cons_succ]
          refine wpAnyH_take (i := 4) (oi := { dst := some 68, op := Op.move (Operand.tmp 5), type := 24, pos := "more.go:25", after := #[{ on := 2, ground := Ground.guard }], guard := some (2, false) }) (v := .slice (some ⟨b7, o7, none⟩) len0 c3) rfl (by kernel_rfl) (by kernel_rfl) (by kernel_rfl) (fun _ _ _ h => h) (Or.inl ⟨by rfl, fun w hSw => by go_simp⟩) (by assumption) ?_
          try simp only [Act.put, List.setIfInBounds_toArray, List.set_cons_zero, List.set_cons_succ]
          refine wpAnyH_take (i := 5) (oi := { dst := some 69, op := Op.move (Operand.tmp 10), type := 3, pos := "more.go:25", after := #[{ on := 2, ground := Ground.guard }], guard := some (2, false) }) (v := .int .i64 (k : Int)) rfl (by kernel_rfl) (by kernel_rfl) (by kernel_rfl) (fun _ _ _ h => h) (Or.inl ⟨by rfl, fun w hSw => by go_simp⟩) (by assumption) ?_
          try simp only [Act.put, List.setIfInBounds_toArray, List.set_cons_zero, List.set_cons_succ]
          refine wpAnyH_take (i := 6) (oi := { dst := some 70, op := Op.indexAddr 24 (Operand.tmp 68) (Operand.tmp 69), type := 0, pos := "more.go:25", after := #[{ on := 4, ground := Ground.data }, { on := 5, ground := Ground.data }, { on := 2, ground := Ground.guard }], guard := some (2, false) }) (v := .pointer (some ⟨b7, o7 + k * 8, none⟩)) rfl (by kernel_rfl) (by kernel_rfl) (by kernel_rfl) (fun _ _ _ h => h) (Or.inl ⟨by rfl, fun w hSw => by go_simp⟩) (by assumption) ?_
          try simp only [Act.put, List.setIfInBounds_toArray, List.set_cons_zero, List.set_cons_succ]
          refine wpAnyH_take (i := 7) (oi := { dst := some 71, op := Op.load 34 (Operand.tmp 70), type := 34, pos := "more.go:25", after := #[{ on := 6, ground := Ground.data }, { on := 2, ground := Ground.guard }], guard := some (2, false) }) (v := .agg #[.int .u64 (ea.no : Nat), .int .u64 (ea.time : Nat), .bool ea.gone, .int .u32 (ea.addr : Nat), .int .u8 (ea.len : Nat), .int .i64 (ea.via : Nat), .int .u16 (ea.metric : Nat), .int .u16 (ea.seq : Nat)]) rfl (by kernel_rfl) (by kernel_rfl) (by kernel_rfl) (fun _ _ _ h => h) (Or.inl ⟨by rfl, fun w hSw => by obtain ⟨k0, k1, k2, k3, k4, k5, k6, k7⟩ := H8.out.1.keep (hSw.block b7 H8.out.2); go_simp⟩) (by assumption) ?_
          try simp only [Act.put, List.setIfInBounds_toArray, List.set_cons_zero, List.set_cons_succ]
          refine wpAnyH_take (i := 8) (oi := { dst := some 72, op := Op.binOp BinOp.neq 34 (Operand.tmp 67) (Operand.tmp 71) 34, type := 4, pos := "more.go:25", after := #[{ on := 3, ground := Ground.data }, { on := 7, ground := Ground.data }, { on := 2, ground := Ground.guard }], guard := some (2, false) }) (v := .bool false) rfl (by kernel_rfl) (by kernel_rfl) (by kernel_rfl) (fun _ _ _ h => h) (Or.inl ⟨by rfl, fun w hSw => by go_simp⟩) (by assumption) ?_
          try simp only [Act.put, List.setIfInBounds_toArray, List.set_cons_zero, List.set_cons_succ]
          refine wpAnyH_take (i := 9) (oi := { dst := some 73, op := Op.pick (Operand.tmp 66) (Operand.const (Value.bool true)) (Operand.tmp 72), type := 4, pos := "more.go:25", after := #[{ on := 2, ground := Ground.data }, { on := 8, ground := Ground.data }], guard := none }) (v := .bool false) rfl (by kernel_rfl) (by kernel_rfl) (by kernel_rfl) (fun _ _ _ h => h) (Or.inl ⟨by rfl, fun w hSw => by go_simp⟩) (by assumption) ?_
          try simp only [Act.put, List.setIfInBounds_toArray, List.set_cons_zero, List.set_cons_succ]
          refine wpAnyH_take (i := 10) (oi := { dst := some 74, op := Op.move (Operand.tmp 73), type := 4, pos := "more.go:25", after := #[{ on := 9, ground := Ground.data }, { on := 2, ground := Ground.chain }], guard := none }) (v := .bool false) rfl (by kernel_rfl) (by kernel_rfl) (by kernel_rfl) (fun _ _ _ h => h) (Or.inl ⟨by rfl, fun w hSw => by go_simp⟩) (by assumption) ?_
          try simp only [Act.put, List.setIfInBounds_toArray, List.set_cons_zero, List.set_cons_succ]
          refine wpAnyH_take (i := 11) (oi := { dst := some 75, op := Op.load 34 (Operand.tmp 6), type := 34, pos := "more.go:25", after := #[{ on := 10, ground := Ground.guard }], guard := some (10, false) }) (v := .agg #[.int .u64 (last.no : Nat), .int .u64 (last.time : Nat), .bool last.gone, .int .u32 (last.addr : Nat), .int .u8 (last.len : Nat), .int .i64 (last.via : Nat), .int .u16 (last.metric : Nat), .int .u16 (last.seq : Nat)]) rfl (by kernel_rfl) (by kernel_rfl) (by kernel_rfl) (fun _ _ _ h => h) (Or.inl ⟨by rfl, fun w hSw => by obtain ⟨k0, k1, k2, k3, k4, k5, k6, k7⟩ := row8 ((hSw.block _ (Array.getElem?_eq_some_iff.1 HLV.out).1).trans HLV.out); go_simp⟩) (by assumption) ?_
          try simp only [Act.put, List.setIfInBounds_toArray, List.set_cons_zero, List.set_cons_succ]
          refine wpAnyH_take (i := 12) (oi := { dst := some 76, op := Op.load 34 (Operand.tmp 11), type := 34, pos := "more.go:25", after := #[{ on := 10, ground := Ground.guard }], guard := some (10, false) }) (v := .agg #[.int .u64 (ea.no : Nat), .int .u64 (ea.time : Nat), .bool ea.gone, .int .u32 (ea.addr : Nat), .int .u8 (ea.len : Nat), .int .i64 (ea.via : Nat), .int .u16 (ea.metric : Nat), .int .u16 (ea.seq : Nat)]) rfl (by kernel_rfl) (by kernel_rfl) (by kernel_rfl) (fun _ _ _ h => h) (Or.inl ⟨by rfl, fun w hSw => by obtain ⟨k0, k1, k2, k3, k4, k5, k6, k7⟩ := row8 ((hSw.block _ (Array.getElem?_eq_some_iff.1 HGC.out).1).trans HGC.out); go_simp⟩) (by assumption) ?_
          try simp only [Act.put, List.setIfInBounds_toArray, List.set_cons_zero, List.set_cons_succ]
          refine wpAnyH_ready (rs := [13]) (by kernel_rfl) (by simp) ?_
          refine AllReadyH.cons (o := { dst := some 77, op := Op.call { callee := Callee.value (Operand.func 13), args := #[Operand.tmp 75, Operand.tmp 76], argTypes := #[34, 34] }, type := 4, pos := "more.go:25", after := #[{ on := 11, ground := Ground.data }, { on := 12, ground := Ground.data }, { on := 10, ground := Ground.chain }, { on := 10, ground := Ground.guard }], guard := some (10, false) }) rfl (fun K hK => ?_) AllReadyH.nil
          go_simp
          with_reducible refine (c13 _).mono ?_
          rintro e w9 ⟨rfl, B9⟩
          refine hK.out _ _ (hHeld.trans (B9.mono hHeld.size)) (fun hHeld => ?_)
          clear hK K
          try simp only [Act.put, List.setIfInBounds_toArray, List.set_cons_zero, List.set_cons_succ]
          refine wpAnyH_take (i := 14) (oi := { dst := some 78, op := Op.unOp UnOp.not 4 (Operand.tmp 77), type := 4, pos := "more.go:25", after := #[{ on := 13, ground := Ground.data }, { on := 10, ground := Ground.guard }], guard := some (10, false) }) (v := .bool false) rfl (by kernel_rfl) (by kernel_rfl) (by kernel_rfl) (fun _ _ _ h => h) (Or.inl ⟨by rfl, fun w hSw => by go_simp⟩) (by assumption) ?_
          try simp only [Act.put, List.setIfInBounds_toArray, List.set_cons_zero, List.set_cons_succ]
          refine wpAnyH_take (i := 15) (oi := { dst := some 79, op := Op.pick (Operand.tmp 74) (Operand.const (Value.bool true)) (Operand.tmp 78), type := 4, pos := "more.go:25", after := #[{ on := 10, ground := Ground.data }, { on := 14, ground := Ground.data }], guard := none }) (v := .bool false) rfl (by kernel_rfl) (by kernel_rfl) (by kernel_rfl) (fun _ _ _ h => h) (Or.inl ⟨by rfl, fun w hSw => by go_simp⟩) (by assumption) ?_
          try simp only [Act.put, List.setIfInBounds_toArray, List.set_cons_zero, List.set_cons_succ]
          refine wpAnyH_done (by kernel_rfl) ?_ _
          try unfold NoPanic
          go_upto_region 19 with (fail)
          have HLW := Lib.hid ((hHeld.block _ (Array.getElem?_eq_some_iff.1 HLV.out).1).trans HLV.out)
          obtain ⟨q0, q1, q2, q3, q4, q5, q6, q7⟩ := row8 HLW.out
          obtain ⟨k0, k1, k2, k3, k4, k5, k6, k7⟩ := row8 ((hHeld.block _ (Array.getElem?_eq_some_iff.1 HGC.out).1).trans HGC.out)
          have fz := fun i => frozen_of_row _ wh.heap.size i _ 34 HLW.out
          have BZ := Lib.hid (HQ1.out.trans (hHeld.mono HQ1.out.size))
          clear hHeld
          go_wp2
          go_roundw
          case rel => exact ⟨k + 1, by omega, by go_num, Lib.hid ⟨HBE.out.trans ((BZ.out.mono HBE.out.size).trans (set8b _ _ ..)), by rw [HNX.out]; exact row8_set HLW.out .., _, (HE.out.below BZ.out).grown (set8g _ wh.heap.size ..) (fun k e => by injection e with e; omega)⟩⟩
          case measure => simp [intOf]; omega
      · obtain rfl : k = nn := by omega
        have BZ := HR.out.be
        go_wp2
        go_ret
        exact ⟨rfl, HW.out.trans (BZ.mono HW.out.size)⟩

set_option maxRecDepth 100000 in
theorem lifted (os : Os) (started : os.Started) (H : Type) (enc : TypeId × Value → H) :
    ReturnsInHanded {} Try.checked os 6 .any (Rows.changeChainsSpec.pre6 enc Try.prog Try.f6 Rows.changeChainsRow.domain false) (Rows.changeChainsSpec.post enc Try.prog Try.f6 false true false false) := by
  refine returnsInHanded_of_change (C := Try.checked) own started (by kernel_rfl) Try.func6
    (ChangeSpec.witness6 (enc := enc) (C := Try.checked) false ⟨#[], #[.slice none 0 0, .int .u8 0], []⟩ 8 (by kernel_rfl) (by kernel_rfl) (by kernel_rfl) (by kernel_rfl)) ?_
  intro W base args ds gs before hval0 hW hcnd _
  have hval : ∀ (j : Nat) t v, Try.f6.params[j]? = some t → args[j]? = some v → Value.okWide Try.prog W .any base t v := hval0
  have hW' := hW
  obtain ⟨p, q, hA0, hV, rfl, hfz, hnd⟩ := hW
  have hA : DataW.TrodAll enc Try.prog W 0 (fun _ => true) true Try.f6.params.toList args.toList ds p := hA0
  rw [Try.params6] at hA hval
  obtain ⟨v0, vs0, d0, ds0, p0, q0, hargs, rfl, rfl, h0, r0⟩ := trodAll_cons hA
  obtain ⟨v1, vs1, d1, ds1, p1, q1, rfl, rfl, rfl, h1, r1⟩ := trodAll_cons r0
  obtain ⟨rfl, rfl, rfl⟩ := trodAll_nil r1
  obtain rfl : args = #[v0, v1] := by cases args; simp_all
  obtain ⟨rfl, rfl⟩ := trodVars_none hV
  obtain ⟨a0, len0, cap0, rfl⟩ := okWide_slice Try.underlying22 (hval 0 22 v0 rfl rfl)
  have k0 := h0
  have lt0 : ∀ x ∈ p0, x.block < W.heap.size := by obtain ⟨m, hm⟩ := k0; exact DataW.trod_lt m _ _ _ hm
  obtain ⟨z0, w0⟩ : ∃ zs, IsActs W a0 len0 cap0 zs := by
    obtain ⟨fuel, hf⟩ := h0
    obtain ⟨a, l, c, ds, hcs, hds⟩ := acts_of hf
    simp [Value.cells] at hcs
    obtain ⟨rfl, rfl, rfl⟩ := hcs
    exact ⟨ds, hds⟩
  obtain ⟨a1, rfl, rfl, rfl, w1⟩ := open_int Try.underlying5 (hval 1 5 v1 rfl rfl) h1
  clear hA0 hval0
  refine (walk a0 len0 cap0 z0 a1 W w0 w1).mono fun e W' ⟨he, bel⟩ => ?_
  subst he
  exact ⟨_, rfl, _, _, _, [], _, [], hW', trodAll_mk1 (shut_bool Try.underlying4 _), (trodAll_cons_mk (Below.trod laidOut (by kernel_rfl) (of_decide_eq_true (by kernel_rfl)) k0 bel lt0) (trodAll_cons_mk (shut_int Try.underlying5 w1) trodAll_mk0)), rfl, bel.frame _, fun h => by cases h⟩

theorem over : Rows.changeChainsRow.holds Try.pinned (OpenSpec.ofChange Rows.changeChainsSpec) :=
  OpenClaim.holds_of_wide 6 Try.f6 rfl rfl rfl rfl rfl rfl rfl ⟨rfl, rfl, rfl, rfl, rfl⟩ rfl rfl rfl rfl rfl (by kernel_rfl) Try.func6 (by kernel_rfl)
    (of_decide_eq_true (by kernel_rfl)) (by unfold Func.isWrapper; first | (rw [if_pos (by decide +kernel)]; kernel_rfl) | (rw [if_neg (by decide +kernel)]; exact ⟨rfl, rfl⟩))
    (fun os started H enc _ => lifted os started H enc)

theorem proved : Rows.ChangeChainsSaid := over
#print axioms proved
end Go.Proofs.Ytmkclggnbnomhaa.changeChains

/-
  'For every input the Go function milestonelaw07.ChangeBytes returns true, and each argument reads behind the call as it read before.'
  Conditions: none but the row's own (linux/amd64, sizes of what is read within the address space).
-/
import Derived.Test.YtmkclggnbnomhaaRows
import Derived.WalkKit
import Derived.ProofKit
import Derived.OpenShut
import Derived.ShutString
import Derived.ChangeOld
import Derived.Below
import Derived.Lib.SmallJoins
import Derived.Lib.Hide
import Derived.Test.YtmkclggnbnomhaaCa
import Derived.Test.YtmkclggnbnomhaaHo
import Derived.Test.YtmkclggnbnomhaaCt
namespace Go.Proofs.Ytmkclggnbnomhaa.changeBytes
open Chg
open Coin
open Go.ChangeShapes Go.WideShapes Go.ChangeAt Go.RowKit
open Go.ChangeMaps (open_string shut_string)
set_option linter.unusedVariables false

theorem own : ownKnob Try.prog.godebug = none := by kernel_rfl
theorem laidOut : laidOutB Try.prog = true := by kernel_rfl


theorem hist_after {ds : List HAct} {c : List C} (h : HistOK ds c) (k : Nat) (hk : k + 1 < c.length) : (c[k]'(by omega)).After (c[k + 1]) := by
  have e1 := h k (by omega)
  have e2 := h (k + 1) hk
  refine ⟨by rw [e1.1, e2.1], ?_⟩
  rw [e1.2.1, e2.2.1]
  by_cases hk : k + 1 < ds.length
  · rw [tsum_succ ds (k + 1) hk]; omega
  · unfold tsum; rw [List.take_of_length_le (by omega), List.take_of_length_le (by omega)]; exact Nat.le_refl _
theorem zero_after {l : List HAct} {c : List C} (h : HistOK l c) (h0 : 0 < c.length) : C.zero.After c[0] := by
  have := h 0 h0
  exact ⟨by rw [this.1]; rfl, Nat.zero_le _⟩
/-- The change ahead in its box, and all below it as it was. -/
structure LB (wh wr : World) (ca : List C) (k : Nat) : Prop where
  be : Below wh.heap.size wh wr
  la : ∃ last : C, last.Ok ∧ wr.heap[wh.heap.size]? = some (.cells last.cells 34 (0, 0)) ∧ ∀ hk : k < ca.length, last.After ca[k]
theorem LB.next {wh wr : World} {ca : List C} {k : Nat} {ds : List HAct} (B : Below wh.heap.size wh wr) (ho : HistOK ds ca) (hk : k < ca.length) (e : C) (he : e = ca[k]) (hr : wr.heap[wh.heap.size]? = some (.cells e.cells 34 (0, 0))) : LB wh wr ca (k + 1) := by
  subst he
  exact ⟨B, _, (ho k hk).2.2, hr, fun h => hist_after ho k h⟩

set_option maxRecDepth 8000 in
set_option maxHeartbeats 8000000 in
theorem walk (a0 : Option Addr) (len0 cap0 : Nat) (z0 : List ActD) (w : World) (w0 : IsActs w a0 len0 cap0 z0) :
    Calls Try.prog 3 #[.slice a0 len0 cap0] w fun e w' => e = .returned (.bool true) ∧ Below w.heap.size w w' := by
  obtain ⟨hl1, hl2, hl3, HA, hnil⟩ := w0
  unfold maxLen at hl3
  by_cases h2 : 60 < len0
  · have h2' : (60 : Int) < len0 := by omega
    clear h2 hl1 HA
    go_enter Try.func3, Try.ntmps3
    go_wp2_with fail
    refine (awake_any _).mono ?_
    rintro e w1 ⟨rfl, h1⟩
    go_wp2_with fail
    refine (awake_any _).mono ?_
    rintro e w2 ⟨rfl, h2⟩
    go_wp2_with fail
    go_ret
    exact ⟨rfl, h1.trans (h2.mono h1.size)⟩
  have h2' : ¬ (60 : Int) < len0 := by omega
  have hl60 : len0 ≤ 60 := by omega
  have HL := Lib.hid hl1
  clear h2 hl1
  go_enter Try.func3, Try.ntmps3
  go_upto_region 3 with (first
    | (go_at_call 7; refine (awake_any _).mono ?_; rintro e wz ⟨rfl, B0⟩))
  have c8 := history_any wz a0 len0 cap0 z0 HL.out hl60 (HA.below B0)
  go_upto_region 5 with (first
    | (go_at_call 8; (with_reducible refine c8.mono ?_); rintro e wh ⟨v3, ca, rfl, OA, hAl, hAo, BH⟩; obtain ⟨A3, c3, hv3, hs3, _⟩ := OA.form; rw [hAl] at hv3; subst hv3; clear OA c8))
  have HAL := Lib.hid hAl
  have HAO := Lib.hid hAo
  have HW := Lib.hid (B0.trans (BH.mono B0.size))
  have HS3 := Lib.hid hs3
  have HZ : Hid (LB wh (wh.alloc (.cells #[.int .u64 0, .int .u64 0, .bool false, .int .u32 0, .int .u8 0, .int .i64 0, .int .u16 0, .int .u16 0] 34)) ca 0) := Lib.hid ⟨(Below.refl _ _).alloc (Nat.le_refl _) _, C.zero, C.zero_ok, heap_alloc_new _ _, fun hk => zero_after hAo hk⟩
  clear hAl hAo BH B0 hs3 HA
  generalize wh.alloc _ = wg at *
  go_wp2
  go_loopw [5] (fun i wr => ∃ k : Nat, k ≤ len0 ∧ i = .int .i64 k ∧ Hid (LB wh wr ca k)) (fun i _ => len0 - (intOf i).toNat)
  case atStart => exact ⟨0, by omega, rfl, HZ⟩
  case round =>
    obtain ⟨k, hk, rfl, HR⟩ := hrel
    clear HZ
    by_cases hlt : k < len0
    · have hkc : Hid (k < ca.length) := Lib.hid (by rw [HAL.out]; exact hlt)
      obtain ⟨b7, o7, e7, hb7, hc7⟩ := HS3.out k hkc.out
      subst e7
      obtain ⟨hbe, last, hlok, hlr, hla⟩ := HR.out
      have hl1 := hla hkc.out
      have hoa := (HAO.out k hkc.out).2.2
      obtain ⟨ea, hea⟩ : ∃ c, c = ca[k]'(hkc.out) := ⟨_, rfl⟩
      rw [← hea] at hl1 hoa hc7
      have HEA := Lib.hid hea
      have c9 := fun W => enc_any last ea hlok hoa hl1 W
      have c11 := fun W => renc_any last ea hlok hoa hl1 W
      have c10 := fun A kk cap hk W R => decode_any last ea hlok hoa hl1 A kk cap hk W R
      obtain ⟨X, hX⟩ : ∃ X, X = last.enc ea := ⟨_, rfl⟩
      rw [← hX] at c9 c11 c10
      obtain ⟨m6, hm6⟩ : ∃ m, m = X.length := ⟨_, rfl⟩
      have HX := Lib.hid hm6
      have HLR := Lib.hid hlr
      have H7 := Lib.hid (And.intro (hc7.keep (hbe.block b7 hb7)) (Nat.lt_of_lt_of_le hb7 hbe.size))
      have HBE := Lib.hid hbe
      unfold C.cells at c9 c10 c11
      clear hea hX hm6 hlr hc7 hbe hla hl1 hlok hoa HR hb7
      go_upto_region 8 with (fail)
      refine wp_region_noPanic ?_
      refine wp_region_held_drew (S := fun W : World => Below wr.heap.size wr W) (by kernel_rfl) ((Below.refl _ _).drew) (fun hHeld => ?_)
      generalize wr.drew = wd at *
      refine wpAnyH_take (i := 0) (oi := { dst := some 26, op := Op.load 34 (Operand.tmp 4), type := 34, pos := "law.go:34", after := #[], guard := none }) (v := .agg #[.int .u64 (last.no : Nat), .int .u64 (last.time : Nat), .bool last.gone, .int .u32 (last.addr : Nat), .int .u8 (last.len : Nat), .int .i64 (last.via : Nat), .int .u16 (last.metric : Nat), .int .u16 (last.seq : Nat)]) rfl (by kernel_rfl) (by kernel_rfl) (by kernel_rfl) (fun _ _ _ h => h) (Or.inl ⟨by rfl, fun w hSw => by obtain ⟨k0, k1, k2, k3, k4, k5, k6, k7⟩ := row8 ((hSw.block _ (Array.getElem?_eq_some_iff.1 HLR.out).1).trans HLR.out); go_simp⟩) (by assumption) ?_
      try simp only [Act.put, List.setIfInBounds_toArray, List.set_cons_zero, List.set_cons_succ]
      refine wpAnyH_take (i := 1) (oi := { dst := some 27, op := Op.move (Operand.tmp 3), type := 24, pos := "law.go:34", after := #[], guard := none }) (v := .slice (some ⟨b7, o7, none⟩) len0 c3) rfl (by kernel_rfl) (by kernel_rfl) (by kernel_rfl) (fun _ _ _ h => h) (Or.inl ⟨by rfl, fun w hSw => by go_simp⟩) (by assumption) ?_
      try simp only [Act.put, List.setIfInBounds_toArray, List.set_cons_zero, List.set_cons_succ]
      refine wpAnyH_take (i := 2) (oi := { dst := some 28, op := Op.move (Operand.tmp 5), type := 3, pos := "law.go:34", after := #[], guard := none }) (v := .int .i64 (k : Int)) rfl (by kernel_rfl) (by kernel_rfl) (by kernel_rfl) (fun _ _ _ h => h) (Or.inl ⟨by rfl, fun w hSw => by go_simp⟩) (by assumption) ?_
      try simp only [Act.put, List.setIfInBounds_toArray, List.set_cons_zero, List.set_cons_succ]
      refine wpAnyH_take (i := 3) (oi := { dst := some 29, op := Op.indexAddr 24 (Operand.tmp 27) (Operand.tmp 28), type := 0, pos := "law.go:34", after := #[{ on := 1, ground := Ground.data }, { on := 2, ground := Ground.data }], guard := none }) (v := .pointer (some ⟨b7, o7 + k * 8, none⟩)) rfl (by kernel_rfl) (by kernel_rfl) (by kernel_rfl) (fun _ _ _ h => h) (Or.inl ⟨by rfl, fun w hSw => by go_simp⟩) (by assumption) ?_
      try simp only [Act.put, List.setIfInBounds_toArray, List.set_cons_zero, List.set_cons_succ]
      refine wpAnyH_take (i := 4) (oi := { dst := some 30, op := Op.load 34 (Operand.tmp 29), type := 34, pos := "law.go:34", after := #[{ on := 3, ground := Ground.data }], guard := none }) (v := .agg #[.int .u64 (ea.no : Nat), .int .u64 (ea.time : Nat), .bool ea.gone, .int .u32 (ea.addr : Nat), .int .u8 (ea.len : Nat), .int .i64 (ea.via : Nat), .int .u16 (ea.metric : Nat), .int .u16 (ea.seq : Nat)]) rfl (by kernel_rfl) (by kernel_rfl) (by kernel_rfl) (fun _ _ _ h => h) (Or.inl ⟨by rfl, fun w hSw => by obtain ⟨k0, k1, k2, k3, k4, k5, k6, k7⟩ := H7.out.1.keep (hSw.block b7 H7.out.2); go_simp⟩) (by assumption) ?_
      try simp only [Act.put, List.setIfInBounds_toArray, List.set_cons_zero, List.set_cons_succ]
      refine wpAnyH_ready (rs := [5]) (by kernel_rfl) (by simp) ?_
      refine AllReadyH.cons (o := { dst := some 31, op := Op.call { callee := Callee.value (Operand.func 9), args := #[Operand.tmp 26, Operand.tmp 30], argTypes := #[34, 34] }, type := 35, pos := "law.go:34", after := #[{ on := 0, ground := Ground.data }, { on := 4, ground := Ground.data }], guard := none }) rfl (fun K hK => ?_) AllReadyH.nil
      go_simp
      with_reducible refine (c9 _).mono ?_
      rintro e w6 ⟨v6, rfl, O6, B6⟩
      obtain ⟨A6, c6, hv6, R6, _, _⟩ := O6.form
      rw [← HX.out] at hv6
      subst hv6
      have D6 := hHeld.trans (B6.mono hHeld.size)
      clear O6
      refine hK.out _ _ (D6) (fun hHeld => ?_)
      clear hK K
      try simp only [Act.put, List.setIfInBounds_toArray, List.set_cons_zero, List.set_cons_succ]
      refine wpAnyH_take (i := 6) (oi := { dst := some 6, op := Op.assign (Operand.tmp 31), type := 35, pos := "law.go:34", after := #[{ on := 5, ground := Ground.data }, { on := 5, ground := Ground.chain }, { on := 0, ground := Ground.phase }, { on := 1, ground := Ground.phase }, { on := 2, ground := Ground.phase }, { on := 3, ground := Ground.phase }, { on := 4, ground := Ground.phase }, { on := 5, ground := Ground.phase }], guard := none }) (v := .slice A6 m6 c6) rfl (by kernel_rfl) (by kernel_rfl) (by kernel_rfl) (fun _ _ _ h => h) (Or.inl ⟨by rfl, fun w hSw => by go_simp⟩) (by assumption) ?_
      try simp only [Act.put, List.setIfInBounds_toArray, List.set_cons_zero, List.set_cons_succ]
      refine wpAnyH_done (by kernel_rfl) ?_ _
      try unfold NoPanic
      have R6' := R6
      obtain ⟨q0, q1, q2, q3, q4, q5, q6, q7⟩ := row8 ((D6.block _ (Array.getElem?_eq_some_iff.1 HLR.out).1).trans HLR.out)
      generalize HD6 : Lib.hid D6 = HD6'
      clear HD6
      have c10' := c10 A6 m6 c6 HX.out w6 R6
      clear D6 c10
      go_upto_region 10 with (first
        | (go_at_call 10; (with_reducible refine c10'.mono ?_); rintro e w8 ⟨rfl, B8⟩; clear c10'))
      clear q0 q1 q2 q3 q4 q5 q6 q7
      have D8 := HD6'.out.trans (B8.mono HD6'.out.size)
      have BA := (Below.refl w8.heap.size w8).alloc (Nat.le_refl _) (.cells #[.int .u64 (ea.no : Nat), .int .u64 (ea.time : Nat), .bool ea.gone, .int .u32 (ea.addr : Nat), .int .u8 (ea.len : Nat), .int .i64 (ea.via : Nat), .int .u16 (ea.metric : Nat), .int .u16 (ea.seq : Nat)] 34)
      have HGC : Hid ((w8.alloc (.cells #[.int .u64 (ea.no : Nat), .int .u64 (ea.time : Nat), .bool ea.gone, .int .u32 (ea.addr : Nat), .int .u8 (ea.len : Nat), .int .i64 (ea.via : Nat), .int .u16 (ea.metric : Nat), .int .u16 (ea.seq : Nat)] 34)).heap[w8.heap.size]? = some (.cells #[.int .u64 (ea.no : Nat), .int .u64 (ea.time : Nat), .bool ea.gone, .int .u32 (ea.addr : Nat), .int .u8 (ea.len : Nat), .int .i64 (ea.via : Nat), .int .u16 (ea.metric : Nat), .int .u16 (ea.seq : Nat)] 34 (0, 0))) := Lib.hid (heap_alloc_new w8 _)
      have R8 := ((((R6.below B8 (Nat.le_refl _)).more B8.size).below BA (Nat.le_refl _)).more BA.size)
      have DA := D8.trans (BA.mono D8.size)
      clear R6 R6' B8 D8 HD6' BA
      generalize w8.alloc _ = wv at *
      generalize w8.heap.size = gc at *
      have HLV := Lib.hid ((DA.block _ (Array.getElem?_eq_some_iff.1 HLR.out).1).trans HLR.out)
      have H8 := Lib.hid (And.intro (H7.out.1.keep (DA.block b7 H7.out.2)) (Nat.lt_of_lt_of_le H7.out.2 DA.size))
      have HBV := Lib.hid (HBE.out.trans (DA.mono HBE.out.size))
      clear DA
      refine wp_region_noPanic ?_
      refine wp_region_held_drew (S := fun W : World => Below wv.heap.size wv W) (by kernel_rfl) ((Below.refl _ _).drew) (fun hHeld => ?_)
      generalize wv.drew = wd2 at *
      refine wpAnyH_take (i := 0) (oi := { dst := some 38, op := Op.move (Operand.tmp 6), type := 35, pos := "law.go:36", after := #[], guard := none }) (v := .slice A6 m6 c6) rfl (by kernel_rfl) (by kernel_rfl) (by kernel_rfl) (fun _ _ _ h => h) (Or.inl ⟨by rfl, fun w hSw => by go_simp⟩) (by assumption) ?_
      try simp only [Act.put, List.setIfInBounds_toArray, List.set_cons_zero, List.set_cons_succ]
      refine wpAnyH_take (i := 2) (oi := { dst := some 40, op := Op.load 34 (Operand.tmp 4), type := 34, pos := "law.go:36", after := #[], guard := none }) (v := .agg #[.int .u64 (last.no : Nat), .int .u64 (last.time : Nat), .bool last.gone, .int .u32 (last.addr : Nat), .int .u8 (last.len : Nat), .int .i64 (last.via : Nat), .int .u16 (last.metric : Nat), .int .u16 (last.seq : Nat)]) rfl (by kernel_rfl) (by kernel_rfl) (by kernel_rfl) (fun _ _ _ h => h) (Or.inl ⟨by rfl, fun w hSw => by obtain ⟨k0, k1, k2, k3, k4, k5, k6, k7⟩ := row8 ((hSw.block _ (Array.getElem?_eq_some_iff.1 HLV.out).1).trans HLV.out); go_simp⟩) (by assumption) ?_
      try simp only [Act.put, List.setIfInBounds_toArray, List.set_cons_zero, List.set_cons_succ]
      refine wpAnyH_take (i := 3) (oi := { dst := some 41, op := Op.move (Operand.tmp 3), type := 24, pos := "law.go:36", after := #[], guard := none }) (v := .slice (some ⟨b7, o7, none⟩) len0 c3) rfl (by kernel_rfl) (by kernel_rfl) (by kernel_rfl) (fun _ _ _ h => h) (Or.inl ⟨by rfl, fun w hSw => by go_simp⟩) (by assumption) ?_
      try simp only [Act.put, List.setIfInBounds_toArray, List.set_cons_zero, List.set_cons_succ]
      refine wpAnyH_take (i := 4) (oi := { dst := some 42, op := Op.move (Operand.tmp 5), type := 3, pos := "law.go:36", after := #[], guard := none }) (v := .int .i64 (k : Int)) rfl (by kernel_rfl) (by kernel_rfl) (by kernel_rfl) (fun _ _ _ h => h) (Or.inl ⟨by rfl, fun w hSw => by go_simp⟩) (by assumption) ?_
      try simp only [Act.put, List.setIfInBounds_toArray, List.set_cons_zero, List.set_cons_succ]
      refine wpAnyH_take (i := 5) (oi := { dst := some 43, op := Op.indexAddr 24 (Operand.tmp 41) (Operand.tmp 42), type := 0, pos := "law.go:36", after := #[{ on := 3, ground := Ground.data }, { on := 4, ground := Ground.data }], guard := none }) (v := .pointer (some ⟨b7, o7 + k * 8, none⟩)) rfl (by kernel_rfl) (by kernel_rfl) (by kernel_rfl) (fun _ _ _ h => h) (Or.inl ⟨by rfl, fun w hSw => by go_simp⟩) (by assumption) ?_
      try simp only [Act.put, List.setIfInBounds_toArray, List.set_cons_zero, List.set_cons_succ]
      refine wpAnyH_take (i := 6) (oi := { dst := some 44, op := Op.load 34 (Operand.tmp 43), type := 34, pos := "law.go:36", after := #[{ on := 5, ground := Ground.data }], guard := none }) (v := .agg #[.int .u64 (ea.no : Nat), .int .u64 (ea.time : Nat), .bool ea.gone, .int .u32 (ea.addr : Nat), .int .u8 (ea.len : Nat), .int .i64 (ea.via : Nat), .int .u16 (ea.metric : Nat), .int .u16 (ea.seq : Nat)]) rfl (by kernel_rfl) (by kernel_rfl) (by kernel_rfl) (fun _ _ _ h => h) (Or.inl ⟨by rfl, fun w hSw => by obtain ⟨k0, k1, k2, k3, k4, k5, k6, k7⟩ := H8.out.1.keep (hSw.block b7 H8.out.2); go_simp⟩) (by assumption) ?_
      try simp only [Act.put, List.setIfInBounds_toArray, List.set_cons_zero, List.set_cons_succ]
      refine wpAnyH_ready (rs := [1, 7]) (by kernel_rfl) (by simp) ?_
      refine (AllReadyH.cons (o := { dst := some 39, op := Op.convert 35 9 (Operand.tmp 38), type := 9, pos := "law.go:36", after := #[{ on := 0, ground := Ground.data }], guard := none }) rfl (fun K hK => ?_) (AllReadyH.cons (o := { dst := some 45, op := Op.call { callee := Callee.value (Operand.func 11), args := #[Operand.tmp 40, Operand.tmp 44], argTypes := #[34, 34] }, type := 35, pos := "law.go:36", after := #[{ on := 2, ground := Ground.data }, { on := 6, ground := Ground.data }], guard := none }) rfl (fun K hK => ?_) AllReadyH.nil))
      · have cv := conv_any (R8.below hHeld (Nat.le_refl _)) m6 c6 HX.out
        go_simp
        refine hK.out _ _ (hHeld) (fun hHeld => ?_)
        clear hK K
        try simp only [Act.put, List.setIfInBounds_toArray, List.set_cons_zero, List.set_cons_succ]
        clear cv
        refine wpAnyH_ready (rs := [7]) (by kernel_rfl) (by simp) ?_
        refine AllReadyH.cons (o := { dst := some 45, op := Op.call { callee := Callee.value (Operand.func 11), args := #[Operand.tmp 40, Operand.tmp 44], argTypes := #[34, 34] }, type := 35, pos := "law.go:36", after := #[{ on := 2, ground := Ground.data }, { on := 6, ground := Ground.data }], guard := none }) rfl (fun K hK => ?_) AllReadyH.nil
        go_simp
        with_reducible refine (c11 _).mono ?_
        rintro e w9 ⟨v9, rfl, O9, B9⟩
        obtain ⟨A9, c9', hv9, R9, _, _⟩ := O9.form
        subst hv9
        have D9 := Below.refl w9.heap.size w9
        clear O9
        refine hK.out _ _ (hHeld.trans (B9.mono hHeld.size)) (fun hHeld => ?_)
        clear hK K
        try simp only [Act.put, List.setIfInBounds_toArray, List.set_cons_zero, List.set_cons_succ]
        refine wpAnyH_ready (rs := [8]) (by kernel_rfl) (by simp) ?_
        refine AllReadyH.cons (o := { dst := some 46, op := Op.convert 35 9 (Operand.tmp 45), type := 9, pos := "law.go:36", after := #[{ on := 7, ground := Ground.data }], guard := none }) rfl (fun K hK => ?_) AllReadyH.nil
        have cv := conv_any (R9.below D9 (Nat.le_refl _)) X.length c9' rfl
        go_simp
        refine hK.out _ _ (hHeld) (fun hHeld => ?_)
        clear hK K
        try simp only [Act.put, List.setIfInBounds_toArray, List.set_cons_zero, List.set_cons_succ]
        clear cv
        refine wpAnyH_take (i := 9) (oi := { dst := some 47, op := Op.binOp BinOp.neq 9 (Operand.tmp 39) (Operand.tmp 46) 9, type := 4, pos := "law.go:36", after := #[{ on := 1, ground := Ground.data }, { on := 8, ground := Ground.data }], guard := none }) (v := .bool false) rfl (by kernel_rfl) (by kernel_rfl) (by kernel_rfl) (fun _ _ _ h => h) (Or.inl ⟨by rfl, fun w hSw => by go_simp⟩) (by assumption) ?_
        try simp only [Act.put, List.setIfInBounds_toArray, List.set_cons_zero, List.set_cons_succ]
        refine wpAnyH_take (i := 10) (oi := { dst := some 48, op := Op.move (Operand.tmp 47), type := 4, pos := "law.go:36", after := #[{ on := 9, ground := Ground.data }, { on := 7, ground := Ground.chain }], guard := none }) (v := .bool false) rfl (by kernel_rfl) (by kernel_rfl) (by kernel_rfl) (fun _ _ _ h => h) (Or.inl ⟨by rfl, fun w hSw => by go_simp⟩) (by assumption) ?_
        try simp only [Act.put, List.setIfInBounds_toArray, List.set_cons_zero, List.set_cons_succ]
        refine wpAnyH_take (i := 11) (oi := { dst := some 49, op := Op.move (Operand.tmp 8), type := 37, pos := "law.go:36", after := #[{ on := 10, ground := Ground.guard }], guard := some (10, false) }) (v := .int .i64 0) rfl (by kernel_rfl) (by kernel_rfl) (by kernel_rfl) (fun _ _ _ h => h) (Or.inl ⟨by rfl, fun w hSw => by go_simp⟩) (by assumption) ?_
        try simp only [Act.put, List.setIfInBounds_toArray, List.set_cons_zero, List.set_cons_succ]
        refine wpAnyH_take (i := 12) (oi := { dst := some 50, op := Op.binOp BinOp.neq 37 (Operand.tmp 49) (Operand.const (Value.int IntKind.i64 0)) 37, type := 4, pos := "law.go:36", after := #[{ on := 11, ground := Ground.data }, { on := 10, ground := Ground.guard }], guard := some (10, false) }) (v := .bool false) rfl (by kernel_rfl) (by kernel_rfl) (by kernel_rfl) (fun _ _ _ h => h) (Or.inl ⟨by rfl, fun w hSw => by go_simp⟩) (by assumption) ?_
        try simp only [Act.put, List.setIfInBounds_toArray, List.set_cons_zero, List.set_cons_succ]
        refine wpAnyH_take (i := 13) (oi := { dst := some 51, op := Op.pick (Operand.tmp 48) (Operand.const (Value.bool true)) (Operand.tmp 50), type := 4, pos := "law.go:36", after := #[{ on := 10, ground := Ground.data }, { on := 12, ground := Ground.data }], guard := none }) (v := .bool false) rfl (by kernel_rfl) (by kernel_rfl) (by kernel_rfl) (fun _ _ _ h => h) (Or.inl ⟨by rfl, fun w hSw => by go_simp⟩) (by assumption) ?_
        try simp only [Act.put, List.setIfInBounds_toArray, List.set_cons_zero, List.set_cons_succ]
        refine wpAnyH_take (i := 14) (oi := { dst := some 52, op := Op.move (Operand.tmp 51), type := 4, pos := "law.go:36", after := #[{ on := 13, ground := Ground.data }, { on := 10, ground := Ground.chain }], guard := none }) (v := .bool false) rfl (by kernel_rfl) (by kernel_rfl) (by kernel_rfl) (fun _ _ _ h => h) (Or.inl ⟨by rfl, fun w hSw => by go_simp⟩) (by assumption) ?_
        try simp only [Act.put, List.setIfInBounds_toArray, List.set_cons_zero, List.set_cons_succ]
        refine wpAnyH_take (i := 15) (oi := { dst := some 53, op := Op.load 34 (Operand.tmp 7), type := 34, pos := "law.go:36", after := #[{ on := 14, ground := Ground.guard }], guard := some (14, false) }) (v := .agg #[.int .u64 (ea.no : Nat), .int .u64 (ea.time : Nat), .bool ea.gone, .int .u32 (ea.addr : Nat), .int .u8 (ea.len : Nat), .int .i64 (ea.via : Nat), .int .u16 (ea.metric : Nat), .int .u16 (ea.seq : Nat)]) rfl (by kernel_rfl) (by kernel_rfl) (by kernel_rfl) (fun _ _ _ h => h) (Or.inl ⟨by rfl, fun w hSw => by obtain ⟨k0, k1, k2, k3, k4, k5, k6, k7⟩ := row8 ((hSw.block _ (Array.getElem?_eq_some_iff.1 HGC.out).1).trans HGC.out); go_simp⟩) (by assumption) ?_
        try simp only [Act.put, List.setIfInBounds_toArray, List.set_cons_zero, List.set_cons_succ]
        refine wpAnyH_take (i := 16) (oi := { dst := some 54, op := Op.move (Operand.tmp 3), type := 24, pos := "law.go:36", after := #[{ on := 14, ground := Ground.guard }], guard := some (14, false) }) (v := .slice (some ⟨b7, o7, none⟩) len0 c3) rfl (by kernel_rfl) (by kernel_rfl) (by kernel_rfl) (fun _ _ _ h => h) (Or.inl ⟨by rfl, fun w hSw => by go_simp⟩) (by assumption) ?_
        try simp only [Act.put, List.setIfInBounds_toArray, List.set_cons_zero, List.set_cons_succ]
        refine wpAnyH_take (i := 17) (oi := { dst := some 55, op := Op.move (Operand.tmp 5), type := 3, pos := "law.go:36", after := #[{ on := 14, ground := Ground.guard }], guard := some (14, false) }) (v := .int .i64 (k : Int)) rfl (by kernel_rfl) (by kernel_rfl) (by kernel_rfl) (fun _ _ _ h => h) (Or.inl ⟨by rfl, fun w hSw => by go_simp⟩) (by assumption) ?_
        try simp only [Act.put, List.setIfInBounds_toArray, List.set_cons_zero, List.set_cons_succ]
        refine wpAnyH_take (i := 18) (oi := { dst := some 56, op := Op.indexAddr 24 (Operand.tmp 54) (Operand.tmp 55), type := 0, pos := "law.go:36", after := #[{ on := 16, ground := Ground.data }, { on := 17, ground := Ground.data }, { on := 14, ground := Ground.guard }], guard := some (14, false) }) (v := .pointer (some ⟨b7, o7 + k * 8, none⟩)) rfl (by kernel_rfl) (by kernel_rfl) (by kernel_rfl) (fun _ _ _ h => h) (Or.inl ⟨by rfl, fun w hSw => by go_simp⟩) (by assumption) ?_
        try simp only [Act.put, List.setIfInBounds_toArray, List.set_cons_zero, List.set_cons_succ]
        refine wpAnyH_take (i := 19) (oi := { dst := some 57, op := Op.load 34 (Operand.tmp 56), type := 34, pos := "law.go:36", after := #[{ on := 18, ground := Ground.data }, { on := 14, ground := Ground.guard }], guard := some (14, false) }) (v := .agg #[.int .u64 (ea.no : Nat), .int .u64 (ea.time : Nat), .bool ea.gone, .int .u32 (ea.addr : Nat), .int .u8 (ea.len : Nat), .int .i64 (ea.via : Nat), .int .u16 (ea.metric : Nat), .int .u16 (ea.seq : Nat)]) rfl (by kernel_rfl) (by kernel_rfl) (by kernel_rfl) (fun _ _ _ h => h) (Or.inl ⟨by rfl, fun w hSw => by obtain ⟨k0, k1, k2, k3, k4, k5, k6, k7⟩ := H8.out.1.keep (hSw.block b7 H8.out.2); go_simp⟩) (by assumption) ?_
        try simp only [Act.put, List.setIfInBounds_toArray, List.set_cons_zero, List.set_cons_succ]
        refine wpAnyH_take (i := 20) (oi := { dst := some 58, op := Op.binOp BinOp.neq 34 (Operand.tmp 53) (Operand.tmp 57) 34, type := 4, pos := "law.go:36", after := #[{ on := 15, ground := Ground.data }, { on := 19, ground := Ground.data }, { on := 14, ground := Ground.guard }], guard := some (14, false) }) (v := .bool false) rfl (by kernel_rfl) (by kernel_rfl) (by kernel_rfl) (fun _ _ _ h => h) (Or.inl ⟨by rfl, fun w hSw => by go_simp⟩) (by assumption) ?_
        try simp only [Act.put, List.setIfInBounds_toArray, List.set_cons_zero, List.set_cons_succ]
        refine wpAnyH_take (i := 21) (oi := { dst := some 59, op := Op.pick (Operand.tmp 52) (Operand.const (Value.bool true)) (Operand.tmp 58), type := 4, pos := "law.go:36", after := #[{ on := 14, ground := Ground.data }, { on := 20, ground := Ground.data }], guard := none }) (v := .bool false) rfl (by kernel_rfl) (by kernel_rfl) (by kernel_rfl) (fun _ _ _ h => h) (Or.inl ⟨by rfl, fun w hSw => by go_simp⟩) (by assumption) ?_
        try simp only [Act.put, List.setIfInBounds_toArray, List.set_cons_zero, List.set_cons_succ]
        refine wpAnyH_done (by kernel_rfl) ?_ _
        try unfold NoPanic
        go_upto_region 12 with (fail)
        have HLW := Lib.hid ((hHeld.block _ (Array.getElem?_eq_some_iff.1 HLV.out).1).trans HLV.out)
        obtain ⟨q0, q1, q2, q3, q4, q5, q6, q7⟩ := row8 HLW.out
        obtain ⟨k0, k1, k2, k3, k4, k5, k6, k7⟩ := H8.out.1.keep (hHeld.block b7 H8.out.2)
        have fz := fun i => frozen_of_row _ wh.heap.size i _ 34 HLW.out
        have BZ := Lib.hid (HBV.out.trans (hHeld.mono HBV.out.size))
        clear hHeld
        go_wp2
        go_roundw
        case rel => exact ⟨k + 1, by omega, by go_num, Lib.hid (LB.next (BZ.out.trans ((set8b _ _ ..).mono (Nat.le_refl _))) HAO.out hkc.out ea HEA.out (row8_set HLW.out ..))⟩
        case measure => simp [intOf]; omega
      · go_simp
        with_reducible refine (c11 _).mono ?_
        rintro e w9 ⟨v9, rfl, O9, B9⟩
        obtain ⟨A9, c9', hv9, R9, _, _⟩ := O9.form
        subst hv9
        have D9 := Below.refl w9.heap.size w9
        clear O9
        refine hK.out _ _ (hHeld.trans (B9.mono hHeld.size)) (fun hHeld => ?_)
        clear hK K
        try simp only [Act.put, List.setIfInBounds_toArray, List.set_cons_zero, List.set_cons_succ]
        refine wpAnyH_ready (rs := [1, 8]) (by kernel_rfl) (by simp) ?_
        refine (AllReadyH.cons (o := { dst := some 39, op := Op.convert 35 9 (Operand.tmp 38), type := 9, pos := "law.go:36", after := #[{ on := 0, ground := Ground.data }], guard := none }) rfl (fun K hK => ?_) (AllReadyH.cons (o := { dst := some 46, op := Op.convert 35 9 (Operand.tmp 45), type := 9, pos := "law.go:36", after := #[{ on := 7, ground := Ground.data }], guard := none }) rfl (fun K hK => ?_) AllReadyH.nil))
        · have cv := conv_any (R8.below hHeld (Nat.le_refl _)) m6 c6 HX.out
          go_simp
          refine hK.out _ _ (hHeld) (fun hHeld => ?_)
          clear hK K
          try simp only [Act.put, List.setIfInBounds_toArray, List.set_cons_zero, List.set_cons_succ]
          clear cv
          refine wpAnyH_ready (rs := [8]) (by kernel_rfl) (by simp) ?_
          refine AllReadyH.cons (o := { dst := some 46, op := Op.convert 35 9 (Operand.tmp 45), type := 9, pos := "law.go:36", after := #[{ on := 7, ground := Ground.data }], guard := none }) rfl (fun K hK => ?_) AllReadyH.nil
          have cv := conv_any (R9.below D9 (Nat.le_refl _)) X.length c9' rfl
          go_simp
          refine hK.out _ _ (hHeld) (fun hHeld => ?_)
          clear hK K
          try simp only [Act.put, List.setIfInBounds_toArray, List.set_cons_zero, List.set_cons_succ]
          clear cv
          refine wpAnyH_take (i := 9) (oi := { dst := some 47, op := Op.binOp BinOp.neq 9 (Operand.tmp 39) (Operand.tmp 46) 9, type := 4, pos := "law.go:36", after := #[{ on := 1, ground := Ground.data }, { on := 8, ground := Ground.data }], guard := none }) (v := .bool false) rfl (by kernel_rfl) (by kernel_rfl) (by kernel_rfl) (fun _ _ _ h => h) (Or.inl ⟨by rfl, fun w hSw => by go_simp⟩) (by assumption) ?_
          try simp only [Act.put, List.setIfInBounds_toArray, List.set_cons_zero, List.set_cons_succ]
          refine wpAnyH_take (i := 10) (oi := { dst := some 48, op := Op.move (Operand.tmp 47), type := 4, pos := "law.go:36", after := #[{ on := 9, ground := Ground.data }, { on := 7, ground := Ground.chain }], guard := none }) (v := .bool false) rfl (by kernel_rfl) (by kernel_rfl) (by kernel_rfl) (fun _ _ _ h => h) (Or.inl ⟨by rfl, fun w hSw => by go_simp⟩) (by assumption) ?_
          try simp only [Act.put, List.setIfInBounds_toArray, List.set_cons_zero, List.set_cons_succ]
          refine wpAnyH_take (i := 11) (oi := { dst := some 49, op := Op.move (Operand.tmp 8), type := 37, pos := "law.go:36", after := #[{ on := 10, ground := Ground.guard }], guard := some (10, false) }) (v := .int .i64 0) rfl (by kernel_rfl) (by kernel_rfl) (by kernel_rfl) (fun _ _ _ h => h) (Or.inl ⟨by rfl, fun w hSw => by go_simp⟩) (by assumption) ?_
          try simp only [Act.put, List.setIfInBounds_toArray, List.set_cons_zero, List.set_cons_succ]
          refine wpAnyH_take (i := 12) (oi := { dst := some 50, op := Op.binOp BinOp.neq 37 (Operand.tmp 49) (Operand.const (Value.int IntKind.i64 0)) 37, type := 4, pos := "law.go:36", after := #[{ on := 11, ground := Ground.data }, { on := 10, ground := Ground.guard }], guard := some (10, false) }) (v := .bool false) rfl (by kernel_rfl) (by kernel_rfl) (by kernel_rfl) (fun _ _ _ h => h) (Or.inl ⟨by rfl, fun w hSw => by go_simp⟩) (by assumption) ?_
          try simp only [Act.put, List.setIfInBounds_toArray, List.set_cons_zero, List.set_cons_succ]
          refine wpAnyH_take (i := 13) (oi := { dst := some 51, op := Op.pick (Operand.tmp 48) (Operand.const (Value.bool true)) (Operand.tmp 50), type := 4, pos := "law.go:36", after := #[{ on := 10, ground := Ground.data }, { on := 12, ground := Ground.data }], guard := none }) (v := .bool false) rfl (by kernel_rfl) (by kernel_rfl) (by kernel_rfl) (fun _ _ _ h => h) (Or.inl ⟨by rfl, fun w hSw => by go_simp⟩) (by assumption) ?_
          try simp only [Act.put, List.setIfInBounds_toArray, List.set_cons_zero, List.set_cons_succ]
          refine wpAnyH_take (i := 14) (oi := { dst := some 52, op := Op.move (Operand.tmp 51), type := 4, pos := "law.go:36", after := #[{ on := 13, ground := Ground.data }, { on := 10, ground := Ground.chain }], guard := none }) (v := .bool false) rfl (by kernel_rfl) (by kernel_rfl) (by kernel_rfl) (fun _ _ _ h => h) (Or.inl ⟨by rfl, fun w hSw => by go_simp⟩) (by assumption) ?_
          try simp only [Act.put, List.setIfInBounds_toArray, List.set_cons_zero, List.set_cons_succ]
          refine wpAnyH_take (i := 15) (oi := { dst := some 53, op := Op.load 34 (Operand.tmp 7), type := 34, pos := "law.go:36", after := #[{ on := 14, ground := Ground.guard }], guard := some (14, false) }) (v := .agg #[.int .u64 (ea.no : Nat), .int .u64 (ea.time : Nat), .bool ea.gone, .int .u32 (ea.addr : Nat), .int .u8 (ea.len : Nat), .int .i64 (ea.via : Nat), .int .u16 (ea.metric : Nat), .int .u16 (ea.seq : Nat)]) rfl (by kernel_rfl) (by kernel_rfl) (by kernel_rfl) (fun _ _ _ h => h) (Or.inl ⟨by rfl, fun w hSw => by obtain ⟨k0, k1, k2, k3, k4, k5, k6, k7⟩ := row8 ((hSw.block _ (Array.getElem?_eq_some_iff.1 HGC.out).1).trans HGC.out); go_simp⟩) (by assumption) ?_
          try simp only [Act.put, List.setIfInBounds_toArray, List.set_cons_zero, List.set_cons_succ]
          refine wpAnyH_take (i := 16) (oi := { dst := some 54, op := Op.move (Operand.tmp 3), type := 24, pos := "law.go:36", after := #[{ on := 14, ground := Ground.guard }], guard := some (14, false) }) (v := .slice (some ⟨b7, o7, none⟩) len0 c3) rfl (by kernel_rfl) (by kernel_rfl) (by kernel_rfl) (fun _ _ _ h => h) (Or.inl ⟨by rfl, fun w hSw => by go_simp⟩) (by assumption) ?_
          try simp only [Act.put, List.setIfInBounds_toArray, List.set_cons_zero, List.set_cons_succ]
          refine wpAnyH_take (i := 17) (oi := { dst := some 55, op := Op.move (Operand.tmp 5), type := 3, pos := "law.go:36", after := #[{ on := 14, ground := Ground.guard }], guard := some (14, false) }) (v := .int .i64 (k : Int)) rfl (by kernel_rfl) (by kernel_rfl) (by kernel_rfl) (fun _ _ _ h => h) (Or.inl ⟨by rfl, fun w hSw => by go_simp⟩) (by assumption) ?_
          try simp only [Act.put, List.setIfInBounds_toArray, List.set_cons_zero, List.set_cons_succ]
          refine wpAnyH_take (i := 18) (oi := { dst := some 56, op := Op.indexAddr 24 (Operand.tmp 54) (Operand.tmp 55), type := 0, pos := "law.go:36", after := #[{ on := 16, ground := Ground.data }, { on := 17, ground := Ground.data }, { on := 14, ground := Ground.guard }], guard := some (14, false) }) (v := .pointer (some ⟨b7, o7 + k * 8, none⟩)) rfl (by kernel_rfl) (by kernel_rfl) (by kernel_rfl) (fun _ _ _ h => h) (Or.inl ⟨by rfl, fun w hSw => by go_simp⟩) (by assumption) ?_
          try simp only [Act.put, List.setIfInBounds_toArray, List.set_cons_zero, List.set_cons_succ]
          refine wpAnyH_take (i := 19) (oi := { dst := some 57, op := Op.load 34 (Operand.tmp 56), type := 34, pos := "law.go:36", after := #[{ on := 18, ground := Ground.data }, { on := 14, ground := Ground.guard }], guard := some (14, false) }) (v := .agg #[.int .u64 (ea.no : Nat), .int .u64 (ea.time : Nat), .bool ea.gone, .int .u32 (ea.addr : Nat), .int .u8 (ea.len : Nat), .int .i64 (ea.via : Nat), .int .u16 (ea.metric : Nat), .int .u16 (ea.seq : Nat)]) rfl (by kernel_rfl) (by kernel_rfl) (by kernel_rfl) (fun _ _ _ h => h) (Or.inl ⟨by rfl, fun w hSw => by obtain ⟨k0, k1, k2, k3, k4, k5, k6, k7⟩ := H8.out.1.keep (hSw.block b7 H8.out.2); go_simp⟩) (by assumption) ?_
          try simp only [Act.put, List.setIfInBounds_toArray, List.set_cons_zero, List.set_cons_succ]
          refine wpAnyH_take (i := 20) (oi := { dst := some 58, op := Op.binOp BinOp.neq 34 (Operand.tmp 53) (Operand.tmp 57) 34, type := 4, pos := "law.go:36", after := #[{ on := 15, ground := Ground.data }, { on := 19, ground := Ground.data }, { on := 14, ground := Ground.guard }], guard := some (14, false) }) (v := .bool false) rfl (by kernel_rfl) (by kernel_rfl) (by kernel_rfl) (fun _ _ _ h => h) (Or.inl ⟨by rfl, fun w hSw => by go_simp⟩) (by assumption) ?_
          try simp only [Act.put, List.setIfInBounds_toArray, List.set_cons_zero, List.set_cons_succ]
          refine wpAnyH_take (i := 21) (oi := { dst := some 59, op := Op.pick (Operand.tmp 52) (Operand.const (Value.bool true)) (Operand.tmp 58), type := 4, pos := "law.go:36", after := #[{ on := 14, ground := Ground.data }, { on := 20, ground := Ground.data }], guard := none }) (v := .bool false) rfl (by kernel_rfl) (by kernel_rfl) (by kernel_rfl) (fun _ _ _ h => h) (Or.inl ⟨by rfl, fun w hSw => by go_simp⟩) (by assumption) ?_
          try simp only [Act.put, List.setIfInBounds_toArray, List.set_cons_zero, List.set_cons_succ]
          refine wpAnyH_done (by kernel_rfl) ?_ _
          try unfold NoPanic
          go_upto_region 12 with (fail)
          have HLW := Lib.hid ((hHeld.block _ (Array.getElem?_eq_some_iff.1 HLV.out).1).trans HLV.out)
          obtain ⟨q0, q1, q2, q3, q4, q5, q6, q7⟩ := row8 HLW.out
          obtain ⟨k0, k1, k2, k3, k4, k5, k6, k7⟩ := H8.out.1.keep (hHeld.block b7 H8.out.2)
          have fz := fun i => frozen_of_row _ wh.heap.size i _ 34 HLW.out
          have BZ := Lib.hid (HBV.out.trans (hHeld.mono HBV.out.size))
          clear hHeld
          go_wp2
          go_roundw
          case rel => exact ⟨k + 1, by omega, by go_num, Lib.hid (LB.next (BZ.out.trans ((set8b _ _ ..).mono (Nat.le_refl _))) HAO.out hkc.out ea HEA.out (row8_set HLW.out ..))⟩
          case measure => simp [intOf]; omega
        · have cv := conv_any (R9.below D9 (Nat.le_refl _)) X.length c9' rfl
          go_simp
          refine hK.out _ _ (hHeld) (fun hHeld => ?_)
          clear hK K
          try simp only [Act.put, List.setIfInBounds_toArray, List.set_cons_zero, List.set_cons_succ]
          clear cv
          refine wpAnyH_ready (rs := [1]) (by kernel_rfl) (by simp) ?_
          refine AllReadyH.cons (o := { dst := some 39, op := Op.convert 35 9 (Operand.tmp 38), type := 9, pos := "law.go:36", after := #[{ on := 0, ground := Ground.data }], guard := none }) rfl (fun K hK => ?_) AllReadyH.nil
          have cv := conv_any (R8.below hHeld (Nat.le_refl _)) m6 c6 HX.out
          go_simp
          refine hK.out _ _ (hHeld) (fun hHeld => ?_)
          clear hK K
          try simp only [Act.put, List.setIfInBounds_toArray, List.set_cons_zero, List.set_cons_succ]
          clear cv
          refine wpAnyH_take (i := 9) (oi := { dst := some 47, op := Op.binOp BinOp.neq 9 (Operand.tmp 39) (Operand.tmp 46) 9, type := 4, pos := "law.go:36", after := #[{ on := 1, ground := Ground.data }, { on := 8, ground := Ground.data }], guard := none }) (v := .bool false) rfl (by kernel_rfl) (by kernel_rfl) (by kernel_rfl) (fun _ _ _ h => h) (Or.inl ⟨by rfl, fun w hSw => by go_simp⟩) (by assumption) ?_
          try simp only [Act.put, List.setIfInBounds_toArray, List.set_cons_zero, List.set_cons_succ]
          refine wpAnyH_take (i := 10) (oi := { dst := some 48, op := Op.move (Operand.tmp 47), type := 4, pos := "law.go:36", after := #[{ on := 9, ground := Ground.data }, { on := 7, ground := Ground.chain }], guard := none }) (v := .bool false) rfl (by kernel_rfl) (by kernel_rfl) (by kernel_rfl) (fun _ _ _ h => h) (Or.inl ⟨by rfl, fun w hSw => by go_simp⟩) (by assumption) ?_
          try simp only [Act.put, List.setIfInBounds_toArray, List.set_cons_zero, List.set_cons_succ]
          refine wpAnyH_take (i := 11) (oi := { dst := some 49, op := Op.move (Operand.tmp 8), type := 37, pos := "law.go:36", after := #[{ on := 10, ground := Ground.guard }], guard := some (10, false) }) (v := .int .i64 0) rfl (by kernel_rfl) (by kernel_rfl) (by kernel_rfl) (fun _ _ _ h => h) (Or.inl ⟨by rfl, fun w hSw => by go_simp⟩) (by assumption) ?_
          try simp only [Act.put, List.setIfInBounds_toArray, List.set_cons_zero, List.set_cons_succ]
          refine wpAnyH_take (i := 12) (oi := { dst := some 50, op := Op.binOp BinOp.neq 37 (Operand.tmp 49) (Operand.const (Value.int IntKind.i64 0)) 37, type := 4, pos := "law.go:36", after := #[{ on := 11, ground := Ground.data }, { on := 10, ground := Ground.guard }], guard := some (10, false) }) (v := .bool false) rfl (by kernel_rfl) (by kernel_rfl) (by kernel_rfl) (fun _ _ _ h => h) (Or.inl ⟨by rfl, fun w hSw => by go_simp⟩) (by assumption) ?_
          try simp only [Act.put, List.setIfInBounds_toArray, List.set_cons_zero, List.set_cons_succ]
          refine wpAnyH_take (i := 13) (oi := { dst := some 51, op := Op.pick (Operand.tmp 48) (Operand.const (Value.bool true)) (Operand.tmp 50), type := 4, pos := "law.go:36", after := #[{ on := 10, ground := Ground.data }, { on := 12, ground := Ground.data }], guard := none }) (v := .bool false) rfl (by kernel_rfl) (by kernel_rfl) (by kernel_rfl) (fun _ _ _ h => h) (Or.inl ⟨by rfl, fun w hSw => by go_simp⟩) (by assumption) ?_
          try simp only [Act.put, List.setIfInBounds_toArray, List.set_cons_zero, List.set_cons_succ]
          refine wpAnyH_take (i := 14) (oi := { dst := some 52, op := Op.move (Operand.tmp 51), type := 4, pos := "law.go:36", after := #[{ on := 13, ground := Ground.data }, { on := 10, ground := Ground.chain }], guard := none }) (v := .bool false) rfl (by kernel_rfl) (by kernel_rfl) (by kernel_rfl) (fun _ _ _ h => h) (Or.inl ⟨by rfl, fun w hSw => by go_simp⟩) (by assumption) ?_
          try simp only [Act.put, List.setIfInBounds_toArray, List.set_cons_zero, List.set_cons_succ]
          refine wpAnyH_take (i := 15) (oi := { dst := some 53, op := Op.load 34 (Operand.tmp 7), type := 34, pos := "law.go:36", after := #[{ on := 14, ground := Ground.guard }], guard := some (14, false) }) (v := .agg #[.int .u64 (ea.no : Nat), .int .u64 (ea.time : Nat), .bool ea.gone, .int .u32 (ea.addr : Nat), .int .u8 (ea.len : Nat), .int .i64 (ea.via : Nat), .int .u16 (ea.metric : Nat), .int .u16 (ea.seq : Nat)]) rfl (by kernel_rfl) (by kernel_rfl) (by kernel_rfl) (fun _ _ _ h => h) (Or.inl ⟨by rfl, fun w hSw => by obtain ⟨k0, k1, k2, k3, k4, k5, k6, k7⟩ := row8 ((hSw.block _ (Array.getElem?_eq_some_iff.1 HGC.out).1).trans HGC.out); go_simp⟩) (by assumption) ?_
          try simp only [Act.put, List.setIfInBounds_toArray, List.set_cons_zero, List.set_cons_succ]
          refine wpAnyH_take (i := 16) (oi := { dst := some 54, op := Op.move (Operand.tmp 3), type := 24, pos := "law.go:36", after := #[{ on := 14, ground := Ground.guard }], guard := some (14, false) }) (v := .slice (some ⟨b7, o7, none⟩) len0 c3) rfl (by kernel_rfl) (by kernel_rfl) (by kernel_rfl) (fun _ _ _ h => h) (Or.inl ⟨by rfl, fun w hSw => by go_simp⟩) (by assumption) ?_
          try simp only [Act.put, List.setIfInBounds_toArray, List.set_cons_zero, List.set_cons_succ]
          refine wpAnyH_take (i := 17) (oi := { dst := some 55, op := Op.move (Operand.tmp 5), type := 3, pos := "law.go:36", after := #[{ on := 14, ground := Ground.guard }], guard := some (14, false) }) (v := .int .i64 (k : Int)) rfl (by kernel_rfl) (by kernel_rfl) (by kernel_rfl) (fun _ _ _ h => h) (Or.inl ⟨by rfl, fun w hSw => by go_simp⟩) (by assumption) ?_
          try simp only [Act.put, List.setIfInBounds_toArray, List.set_cons_zero, List.set_cons_succ]
          refine wpAnyH_take (i := 18) (oi := { dst := some 56, op := Op.indexAddr 24 (Operand.tmp 54) (Operand.tmp 55), type := 0, pos := "law.go:36", after := #[{ on := 16, ground := Ground.data }, { on := 17, ground := Ground.data }, { on := 14, ground := Ground.guard }], guard := some (14, false) }) (v := .pointer (some ⟨b7, o7 + k * 8, none⟩)) rfl (by kernel_rfl) (by kernel_rfl) (by kernel_rfl) (fun _ _ _ h => h) (Or.inl ⟨by rfl, fun w hSw => by go_simp⟩) (by assumption) ?_
          try simp only [Act.put, List.setIfInBounds_toArray, List.set_cons_zero, List.set_cons_succ]
          refine wpAnyH_take (i := 19) (oi := { dst := some 57, op := Op.load 34 (Operand.tmp 56), type := 34, pos := "law.go:36", after := #[{ on := 18, ground := Ground.data }, { on := 14, ground := Ground.guard }], guard := some (14, false) }) (v := .agg #[.int .u64 (ea.no : Nat), .int .u64 (ea.time : Nat), .bool ea.gone, .int .u32 (ea.addr : Nat), .int .u8 (ea.len : Nat), .int .i64 (ea.via : Nat), .int .u16 (ea.metric : Nat), .int .u16 (ea.seq : Nat)]) rfl (by kernel_rfl) (by kernel_rfl) (by kernel_rfl) (fun _ _ _ h => h) (Or.inl ⟨by rfl, fun w hSw => by obtain ⟨k0, k1, k2, k3, k4, k5, k6, k7⟩ := H8.out.1.keep (hSw.block b7 H8.out.2); go_simp⟩) (by assumption) ?_
          try simp only [Act.put, List.setIfInBounds_toArray, List.set_cons_zero, List.set_cons_succ]
          refine wpAnyH_take (i := 20) (oi := { dst := some 58, op := Op.binOp BinOp.neq 34 (Operand.tmp 53) (Operand.tmp 57) 34, type := 4, pos := "law.go:36", after := #[{ on := 15, ground := Ground.data }, { on := 19, ground := Ground.data }, { on := 14, ground := Ground.guard }], guard := some (14, false) }) (v := .bool false) rfl (by kernel_rfl) (by kernel_rfl) (by kernel_rfl) (fun _ _ _ h => h) (Or.inl ⟨by rfl, fun w hSw => by go_simp⟩) (by assumption) ?_
          try simp only [Act.put, List.setIfInBounds_toArray, List.set_cons_zero, List.set_cons_succ]
          refine wpAnyH_take (i := 21) (oi := { dst := some 59, op := Op.pick (Operand.tmp 52) (Operand.const (Value.bool true)) (Operand.tmp 58), type := 4, pos := "law.go:36", after := #[{ on := 14, ground := Ground.data }, { on := 20, ground := Ground.data }], guard := none }) (v := .bool false) rfl (by kernel_rfl) (by kernel_rfl) (by kernel_rfl) (fun _ _ _ h => h) (Or.inl ⟨by rfl, fun w hSw => by go_simp⟩) (by assumption) ?_
          try simp only [Act.put, List.setIfInBounds_toArray, List.set_cons_zero, List.set_cons_succ]
          refine wpAnyH_done (by kernel_rfl) ?_ _
          try unfold NoPanic
          go_upto_region 12 with (fail)
          have HLW := Lib.hid ((hHeld.block _ (Array.getElem?_eq_some_iff.1 HLV.out).1).trans HLV.out)
          obtain ⟨q0, q1, q2, q3, q4, q5, q6, q7⟩ := row8 HLW.out
          obtain ⟨k0, k1, k2, k3, k4, k5, k6, k7⟩ := H8.out.1.keep (hHeld.block b7 H8.out.2)
          have fz := fun i => frozen_of_row _ wh.heap.size i _ 34 HLW.out
          have BZ := Lib.hid (HBV.out.trans (hHeld.mono HBV.out.size))
          clear hHeld
          go_wp2
          go_roundw
          case rel => exact ⟨k + 1, by omega, by go_num, Lib.hid (LB.next (BZ.out.trans ((set8b _ _ ..).mono (Nat.le_refl _))) HAO.out hkc.out ea HEA.out (row8_set HLW.out ..))⟩
          case measure => simp [intOf]; omega
    · obtain rfl : k = len0 := by omega
      have BZ := HR.out.be
      go_wp2
      go_ret
      exact ⟨rfl, HW.out.trans (BZ.mono HW.out.size)⟩

set_option maxRecDepth 100000 in
theorem lifted (os : Os) (started : os.Started) (H : Type) (enc : TypeId × Value → H) :
    ReturnsInHanded {} Try.checked os 3 .any (Rows.changeBytesSpec.pre6 enc Try.prog Try.f3 Rows.changeBytesRow.domain false) (Rows.changeBytesSpec.post enc Try.prog Try.f3 false true false false) := by
  refine returnsInHanded_of_change (C := Try.checked) own started (by kernel_rfl) Try.func3
    (ChangeSpec.witness6 (enc := enc) (C := Try.checked) false ⟨#[], #[.slice none 0 0], []⟩ 8 (by kernel_rfl) (by kernel_rfl) (by kernel_rfl) (by kernel_rfl)) ?_
  intro W base args ds gs before hval0 hW hcnd _
  have hval : ∀ (j : Nat) t v, Try.f3.params[j]? = some t → args[j]? = some v → Value.okWide Try.prog W .any base t v := hval0
  have hW' := hW
  obtain ⟨p, q, hA0, hV, rfl, hfz, hnd⟩ := hW
  have hA : DataW.TrodAll enc Try.prog W 0 (fun _ => true) true Try.f3.params.toList args.toList ds p := hA0
  rw [Try.params3] at hA hval
  obtain ⟨v0, vs0, d0, ds0, p0, q0, hargs, rfl, rfl, h0, r0⟩ := trodAll_cons hA
  obtain ⟨rfl, rfl, rfl⟩ := trodAll_nil r0
  obtain rfl : args = #[v0] := by cases args; simp_all
  obtain ⟨rfl, rfl⟩ := trodVars_none hV
  obtain ⟨a0, len0, cap0, rfl⟩ := okWide_slice Try.underlying22 (hval 0 22 v0 rfl rfl)
  have k0 := h0
  have lt0 : ∀ x ∈ p0, x.block < W.heap.size := by obtain ⟨m, hm⟩ := k0; exact DataW.trod_lt m _ _ _ hm
  obtain ⟨z0, w0⟩ : ∃ zs, IsActs W a0 len0 cap0 zs := by
    obtain ⟨fuel, hf⟩ := h0
    obtain ⟨a, l, c, ds, hcs, hds⟩ := acts_of hf
    simp [Value.cells] at hcs
    obtain ⟨rfl, rfl, rfl⟩ := hcs
    exact ⟨ds, hds⟩
  clear hA0 hval0
  refine (walk a0 len0 cap0 z0 W w0).mono fun e W' ⟨he, bel⟩ => ?_
  subst he
  exact ⟨_, rfl, _, _, _, [], _, [], hW', trodAll_mk1 (shut_bool Try.underlying4 _), (trodAll_cons_mk (Below.trod laidOut (by kernel_rfl) (of_decide_eq_true (by kernel_rfl)) k0 bel lt0) trodAll_mk0), rfl, bel.frame _, fun h => by cases h⟩

theorem over : Rows.changeBytesRow.holds Try.pinned (OpenSpec.ofChange Rows.changeBytesSpec) :=
  OpenClaim.holds_of_wide 3 Try.f3 rfl rfl rfl rfl rfl rfl rfl ⟨rfl, rfl, rfl, rfl, rfl⟩ rfl rfl rfl rfl rfl (by kernel_rfl) Try.func3 (by kernel_rfl)
    (of_decide_eq_true (by kernel_rfl)) (by unfold Func.isWrapper; first | (rw [if_pos (by decide +kernel)]; kernel_rfl) | (rw [if_neg (by decide +kernel)]; exact ⟨rfl, rfl⟩))
    (fun os started H enc _ => lifted os started H enc)

theorem proved : Rows.ChangeBytesSaid := over
#print axioms proved
end Go.Proofs.Ytmkclggnbnomhaa.changeBytes

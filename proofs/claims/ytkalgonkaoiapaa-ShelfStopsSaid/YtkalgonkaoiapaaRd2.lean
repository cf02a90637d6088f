/- The law's own do: case 2. -/
import Derived.Test.YtkalgonkaoiapaaRfs
import Derived.Deep.RegionWith
import Derived.Deep.RegionHeld3
import Derived.WalkArith
namespace Go.Proofs.Ytkalgonkaoiapaa.Shf
open Go.ChangeShapes Go.WideShapes Go.ChangeAt Go.RowKit

set_option linter.unusedVariables false
theorem RXE.form2 {w : World} {T : Nat → Tag} {v : Value} {x : X} (h : RXE w T v x) : ∃ A1 n1 c1 A2 n2 c2 A3 n3 c3 room left off done, v = .agg #[.slice A1 n1 c1, .slice A2 n2 c2, .slice A3 n3 c3, .int .i64 room, .int .i64 left, .bool off, .int .i64 done] := by
  obtain ⟨lv, nv, wv, fs, ws, R⟩ := h
  obtain ⟨A1, n1, c1, e1⟩ := R.fl.sl
  obtain ⟨A2, n2, c2, e2⟩ := R.nm.isSl
  obtain ⟨A3, n3, c3, e3⟩ := R.wa.sl
  refine ⟨A1, n1, c1, A2, n2, c2, A3, n3, c3, x.room, x.left, x.off, x.done, ?_⟩
  rw [R.eq, e1, e2, e3]; rfl
theorem set7_grown2 (w : World) (b : Nat) (y0 y1 y2 y3 y4 y5 y6 : Value) :
    w.grownBy (((((((w.setCell ⟨b, 0, none⟩ y0).setCell ⟨b, 1, none⟩ y1).setCell ⟨b, 2, none⟩ y2).setCell ⟨b, 3, none⟩ y3).setCell ⟨b, 4, none⟩ y4).setCell ⟨b, 5, none⟩ y5).setCell ⟨b, 6, none⟩ y6) (some b) :=
  (grown_set w b 0 y0).trans ((grown_set _ b 1 y1).trans ((grown_set _ b 2 y2).trans ((grown_set _ b 3 y3).trans ((grown_set _ b 4 y4).trans ((grown_set _ b 5 y5).trans (grown_set _ b 6 y6))))))
theorem ext_below2 {w w' : World} (T : Nat → Tag) (h : Below w.heap.size w w') : Ext w T w' T := ⟨h.os, h.tape, h.output, h.size, fun _ _ => rfl, fun b hb _ => h.block b hb⟩
theorem rdn_keep2 {w W : World} {T T' : Nat → Tag} {A : Option Addr} {l : List UInt8} (h : RdN w T A l) (K : Keep w T W T') : RdN W T' A l := by
  refine ⟨fun h0 => ?_, fun h0 ad e => ?_⟩
  · obtain ⟨ad, e, hc⟩ := h.1 h0
    obtain ⟨h1, h2⟩ := h.2 h0 ad e
    refine ⟨ad, e, fun j hj => ?_⟩
    have hb : (ad.add j).block = ad.block := by unfold Addr.add; split <;> rfl
    exact (World.cell?_of_block (a := ad.add j) (by rw [hb]; exact (K.block ad.block h2 h1).1)).trans (hc j hj)
  · obtain ⟨h1, h2⟩ := h.2 h0 ad e
    exact ⟨(K.block ad.block h2 h1).2, Nat.lt_of_lt_of_le h2 K.size⟩
set_option maxRecDepth 4000 in
set_option maxHeartbeats 4000000 in
theorem do2_any (w : World) (T : Nat → Tag) (q : Nat) (m : M) (xv : Value) (x : X) (i K A B : Nat) (N : Int) (p : S) (Ax : Option Addr) (cx : Nat) (g : Nat) (hgT : T g = .none) (hgl : g < w.heap.size) (R : Rep w T q m) (RX : RXE w (mkg T g) xv x) (I : x.Inv i) (hi : i ≤ 100) (hd : m.done ≤ 1000) (hK : K < 256) (hA : A < 256) (hB : B < 256)
    (hN : (Lit.int .i64 N).wf = true) (hp : RdN w (mkg T g) Ax p) (hAx : Ax = none → cx = 0) (hcx : p.length ≤ cx) (hp60 : p.length ≤ 60) (hroom : -1000000000 ≤ m.room) (hk : K % 12 = 2) :
    Calls Try.prog 16 #[.pointer (some ⟨q, 0, none⟩), xv, .agg #[.int .u8 (K : Int), .int .u8 (A : Int), .int .u8 (B : Int), .int .i64 N, .slice Ax p.length cx]] w fun e w' =>
      ∃ T' xv' m' b, e = .returned (.tuple #[xv', .bool b]) ∧ m' = m.append (nameOf A) p ∧ Rep w' T' q m' ∧ RXE w' (mkg T' g) xv' ((x.append (nameOf A) p).1) ∧ Ext w T w' T' := by
  have hT0 : ∀ b, T b ≠ .none → b < w.heap.size := by obtain ⟨⟨_, _, _, _, _, RV⟩, _⟩ := R; exact RV.old
  have hT : ∀ b, w.heap.size ≤ b → T b = .none := fun b hb => by
    cases e : T b with
    | none => rfl
    | _ => exact absurd (hT0 b (by rw [e]; intro h; cases h)) (by omega)
  have kN := bounds_i64 hN
  have hk5 : ((K : Int) % 12) = (((K % 12 : Nat)) : Int) := by omega
  have RX0 := Lib.hid RX
  have HP := Lib.hid hp
  have HT := Lib.hid hT
  have HI := Lib.hid I
  obtain ⟨lv, nv, wv, fs, ws, RR⟩ := RX
  obtain ⟨A1, n1, c1, e1⟩ := RR.fl.sl
  obtain ⟨A2, n2, c2, e2⟩ := RR.nm.isSl
  obtain ⟨A3, n3, c3, e3⟩ := RR.wa.sl
  have hxv := RR.eq
  subst e1 e2 e3
  obtain ⟨L, now, was, room, left, off, done⟩ := x
  simp only at hxv
  unfold RfV at hxv
  subst hxv
  obtain ⟨lx, hlx⟩ : ∃ n, n = p.length := ⟨_, rfl⟩
  rw [← hlx] at hcx hp60 ⊢
  have HLX := Lib.hid hlx
  have B1 : Below w.heap.size w (((w.alloc (.cells #[.slice A1 n1 c1, .slice A2 n2 c2, .slice A3 n3 c3, .int .i64 room, .int .i64 left, .bool off, .int .i64 done] 35)).alloc (.cells #[.int .u8 (K : Int), .int .u8 (A : Int), .int .u8 (B : Int), .int .i64 N, .slice Ax lx cx] 38)).alloc (.cells #[.slice none 0 0, .slice none 0 0, .slice none 0 0, .int .i64 0, .int .i64 0, .bool false, .int .i64 0] 35)) := below3 w _ _ _
  have z1 : (((w.alloc (.cells #[.slice A1 n1 c1, .slice A2 n2 c2, .slice A3 n3 c3, .int .i64 room, .int .i64 left, .bool off, .int .i64 done] 35)).alloc (.cells #[.int .u8 (K : Int), .int .u8 (A : Int), .int .u8 (B : Int), .int .i64 N, .slice Ax lx cx] 38)).alloc (.cells #[.slice none 0 0, .slice none 0 0, .slice none 0 0, .int .i64 0, .int .i64 0, .bool false, .int .i64 0] 35)).heap.size = w.heap.size + 3 := by simp
  have NZ := heap_alloc_new ((w.alloc (.cells #[.slice A1 n1 c1, .slice A2 n2 c2, .slice A3 n3 c3, .int .i64 room, .int .i64 left, .bool off, .int .i64 done] 35)).alloc (.cells #[.int .u8 (K : Int), .int .u8 (A : Int), .int .u8 (B : Int), .int .i64 N, .slice Ax lx cx] 38)) (.cells #[.slice none 0 0, .slice none 0 0, .slice none 0 0, .int .i64 0, .int .i64 0, .bool false, .int .i64 0] 35)
  have NA := (heap_alloc_old ((w.alloc (.cells #[.slice A1 n1 c1, .slice A2 n2 c2, .slice A3 n3 c3, .int .i64 room, .int .i64 left, .bool off, .int .i64 done] 35)).alloc (.cells #[.int .u8 (K : Int), .int .u8 (A : Int), .int .u8 (B : Int), .int .i64 N, .slice Ax lx cx] 38)) (.cells #[.slice none 0 0, .slice none 0 0, .slice none 0 0, .int .i64 0, .int .i64 0, .bool false, .int .i64 0] 35) (by simp)).trans (heap_alloc2_new w (.cells #[.slice A1 n1 c1, .slice A2 n2 c2, .slice A3 n3 c3, .int .i64 room, .int .i64 left, .bool off, .int .i64 done] 35) (.cells #[.int .u8 (K : Int), .int .u8 (A : Int), .int .u8 (B : Int), .int .i64 N, .slice Ax lx cx] 38))
  have NX := (heap_alloc_old ((w.alloc (.cells #[.slice A1 n1 c1, .slice A2 n2 c2, .slice A3 n3 c3, .int .i64 room, .int .i64 left, .bool off, .int .i64 done] 35)).alloc (.cells #[.int .u8 (K : Int), .int .u8 (A : Int), .int .u8 (B : Int), .int .i64 N, .slice Ax lx cx] 38)) (.cells #[.slice none 0 0, .slice none 0 0, .slice none 0 0, .int .i64 0, .int .i64 0, .bool false, .int .i64 0] 35) (by simp; omega)).trans (heap_alloc2_old w (.cells #[.slice A1 n1 c1, .slice A2 n2 c2, .slice A3 n3 c3, .int .i64 room, .int .i64 left, .bool off, .int .i64 done] 35) (.cells #[.int .u8 (K : Int), .int .u8 (A : Int), .int .u8 (B : Int), .int .i64 N, .slice Ax lx cx] 38))
  have e2' : ((w.alloc (.cells #[.slice A1 n1 c1, .slice A2 n2 c2, .slice A3 n3 c3, .int .i64 room, .int .i64 left, .bool off, .int .i64 done] 35)).alloc (.cells #[.int .u8 (K : Int), .int .u8 (A : Int), .int .u8 (B : Int), .int .i64 N, .slice Ax lx cx] 38)).heap.size = w.heap.size + 1 + 1 := by simp
  rw [e2'] at NZ
  obtain ⟨xr, hxr⟩ : ∃ y : X × Int, y = ((X.mk L now was room left off done).append (nameOf A) p) := ⟨_, rfl⟩
  have HXR := Lib.hid hxr
  clear hxr
  have HWN := Lib.hid hN
  clear RR hp hlx hT0 hT e2' I hN
  rw [hk] at hk5
  rw [← HXR.out]
  have hne : w.heap.size + 1 + 1 ≠ w.heap.size := by omega
  obtain ⟨nm, hnm⟩ : ∃ n, n = str (nameOf A) := ⟨_, rfl⟩
  have hnl := nameOf_len A
  have CN : Hid (∀ W : World, Calls Try.prog 36 #[.int .u8 (A : Int)] W fun e w' => e = .returned (.string nm) ∧ Below W.heap.size W w') := fun W => by rw [hnm]; exact lname_any W A hA
  have CD : Hid (∀ W, Rep W T q m ∧ RdN W T Ax p → Calls Try.prog 12 #[.pointer (some ⟨q, 0, none⟩), .string nm, .slice Ax lx cx] W fun e w' => ∃ (z : Nat) (m' : M) (T' : Nat → Tag), e = .returned (.int .i64 (z : Int)) ∧ (m' = m.append (nameOf A) p) ∧ Rep w' T' q m' ∧ Ext W T w' T') := fun W RW => by
    rw [hnm, HLX.out]
    exact (append_rep W T q m (nameOf A) p Ax cx RW.1 (by omega) (by omega) RW.2 hAx (by have := HLX.out; omega) (by omega)).mono fun e w' h => by
      obtain ⟨h1, T', h2, h3⟩ := h
      exact ⟨_, _, T', h1, rfl, h2, h3⟩
  have CR : Hid (∀ (W : World) (T' : Nat → Tag), RXE W T' (.agg #[.slice A1 n1 c1, .slice A2 n2 c2, .slice A3 n3 c3, .int .i64 room, .int .i64 left, .bool off, .int .i64 done]) ⟨L, now, was, room, left, off, done⟩ ∧ RdN W T' Ax p → (∀ b, T' b ≠ .none → b < W.heap.size) → Calls Try.prog 38 #[.agg #[.slice A1 n1 c1, .slice A2 n2 c2, .slice A3 n3 c3, .int .i64 room, .int .i64 left, .bool off, .int .i64 done], .string nm, .slice Ax lx cx] W fun e w' => ∃ (f : Int) (v' : Value), e = .returned (.tuple #[v', .int .i64 f]) ∧ RXE w' T' v' xr.1 ∧ Below W.heap.size W w') := fun W T' RW hT' => by
    rw [hnm, HLX.out, HXR.out]
    exact (xappend_any W T' _ _ (nameOf A) p Ax cx RW.1 (HI.out.fits (by omega)) hT' HI.out.good (HI.out.short (by omega)) (HI.out.wasl (by omega)) RW.2 hAx (by have := HLX.out; omega) (by have := HLX.out; omega)).mono fun e w' h => by
      obtain ⟨v', h1, h2, h3⟩ := h
      exact ⟨_, v', h1, h2, h3⟩
  clear hnm
  go_enter Try.func16, Try.ntmps16
  go_upto_region 3 with (fail)
  generalize ((w.alloc (.cells #[.slice A1 n1 c1, .slice A2 n2 c2, .slice A3 n3 c3, .int .i64 room, .int .i64 left, .bool off, .int .i64 done] 35)).alloc (.cells #[.int .u8 (K : Int), .int .u8 (A : Int), .int .u8 (B : Int), .int .i64 N, .slice Ax lx cx] 38)).alloc (.cells #[.slice none 0 0, .slice none 0 0, .slice none 0 0, .int .i64 0, .int .i64 0, .bool false, .int .i64 0] 35) = w1 at *
  obtain ⟨a0, a1, a2, a3, a4⟩ := row5 NA
  have HB1 := Lib.hid (And.intro B1 z1)
  have HN := Lib.hid (And.intro NX (And.intro NA NZ))
  have R1 := R.below B1
  go_wp2_with fail
  refine wp_region_noPanic ?_
  refine wp_region_held_drew (S := fun x : World => x.heap[w.heap.size + 1]? = some (.cells #[.int .u8 (K : Int), .int .u8 (A : Int), .int .u8 (B : Int), .int .i64 N, .slice Ax lx cx] 38)) (by kernel_rfl) (HN.out.2.1) (fun hHeld => ?_)
  have hb : Below w1.heap.size w1 w1.drew := (Below.refl _ w1).drew
  refine wpAnyH_take (i := 0) (oi := { dst := some 46, op := Op.move (Operand.tmp 0), type := 25, pos := "law.go:50", after := #[], guard := none }) (v := .pointer (some ⟨q, 0, none⟩)) rfl (by kernel_rfl) (by kernel_rfl) (by kernel_rfl) (fun _ _ _ h => h) (Or.inl ⟨by rfl, fun w hSw => by go_simp⟩) (by assumption) ?_
  try simp only [Act.put, List.setIfInBounds_toArray, List.set_cons_zero, List.set_cons_succ]
  refine wpAnyH_take (i := 1) (oi := { dst := some 47, op := Op.fieldAddr 38 (Operand.tmp 5) 1, type := 0, pos := "law.go:50", after := #[], guard := none }) (v := .pointer (some ⟨w.heap.size + 1, 1, none⟩)) rfl (by kernel_rfl) (by kernel_rfl) (by kernel_rfl) (fun _ _ _ h => h) (Or.inl ⟨by rfl, fun w hSw => by go_simp⟩) (by assumption) ?_
  try simp only [Act.put, List.setIfInBounds_toArray, List.set_cons_zero, List.set_cons_succ]
  refine wpAnyH_take (i := 2) (oi := { dst := some 48, op := Op.load 5 (Operand.tmp 47), type := 5, pos := "law.go:50", after := #[{ on := 1, ground := Ground.data }], guard := none }) (v := .int .u8 (A : Int)) rfl (by kernel_rfl) (by kernel_rfl) (by kernel_rfl) (fun _ _ _ h => h) (Or.inl ⟨by rfl, fun w hSw => by obtain ⟨q0, q1, q2, q3, q4⟩ := row5 hSw; go_simp⟩) (by assumption) ?_
  try simp only [Act.put, List.setIfInBounds_toArray, List.set_cons_zero, List.set_cons_succ]
  refine wpAnyH_take (i := 4) (oi := { dst := some 50, op := Op.fieldAddr 38 (Operand.tmp 5) 4, type := 0, pos := "law.go:50", after := #[], guard := none }) (v := .pointer (some ⟨w.heap.size + 1, 4, none⟩)) rfl (by kernel_rfl) (by kernel_rfl) (by kernel_rfl) (fun _ _ _ h => h) (Or.inl ⟨by rfl, fun w hSw => by go_simp⟩) (by assumption) ?_
  try simp only [Act.put, List.setIfInBounds_toArray, List.set_cons_zero, List.set_cons_succ]
  refine wpAnyH_take (i := 5) (oi := { dst := some 51, op := Op.load 22 (Operand.tmp 50), type := 22, pos := "law.go:50", after := #[{ on := 4, ground := Ground.data }], guard := none }) (v := .slice Ax lx cx) rfl (by kernel_rfl) (by kernel_rfl) (by kernel_rfl) (fun _ _ _ h => h) (Or.inl ⟨by rfl, fun w hSw => by obtain ⟨q0, q1, q2, q3, q4⟩ := row5 hSw; go_simp⟩) (by assumption) ?_
  try simp only [Act.put, List.setIfInBounds_toArray, List.set_cons_zero, List.set_cons_succ]
  refine wpAnyH_ready (rs := [3]) (by kernel_rfl) (by simp) ?_
  refine AllReadyH.cons (o := { dst := some 49, op := Op.call { callee := Callee.value (Operand.func 36), args := #[Operand.tmp 48], argTypes := #[5] }, type := 9, pos := "law.go:50", after := #[{ on := 2, ground := Ground.data }], guard := none }) rfl (fun K hK => ?_) AllReadyH.nil
  go_simp
  refine (CN.out _).mono ?_
  rintro e wx3 ⟨rfl, Bx⟩
  refine hK.out _ _ ((Bx.block _ (Array.getElem?_eq_some_iff.1 hHeld).1).trans hHeld) (fun hHeld => ?_)
  clear hK K
  try simp only [Act.put, List.setIfInBounds_toArray, List.set_cons_zero, List.set_cons_succ]
  have hb := hb.trans (Bx.mono hb.size)
  refine wpAnyH_ready (rs := [6]) (by kernel_rfl) (by simp) ?_
  refine AllReadyH.cons (o := { dst := some 52, op := Op.call { callee := Callee.value (Operand.func 12), args := #[Operand.tmp 46, Operand.tmp 49, Operand.tmp 51], argTypes := #[25, 9, 22] }, type := 27, pos := "law.go:50", after := #[{ on := 0, ground := Ground.data }, { on := 3, ground := Ground.data }, { on := 5, ground := Ground.data }, { on := 3, ground := Ground.chain }], guard := none }) rfl (fun K hK => ?_) AllReadyH.nil
  go_simp
  refine (CD.out _ ⟨R1.below hb, rdn_keep2 HP.out (keep_weak ((Shf.Below.keep HB1.out.1 _).trans (Shf.Below.keep hb _)))⟩).mono ?_
  rintro e w2 ⟨z8, m2, T2, rfl, hm2, R2, X2'⟩
  have X2 := (ext_below2 T hb).trans X2'
  have HM2 := Lib.hid hm2
  clear hm2
  have mid := both_mid RX0.out hgl HT.out HB1.out.1 (by have := HB1.out.2; omega) X2 R2
  have NX2 := (mid.2.2 w.heap.size (Nat.le_refl _) (by have := HB1.out.2; omega)).1.trans HN.out.1
  have NA2 := (mid.2.2 (w.heap.size + 1) (by omega) (by have := HB1.out.2; omega)).1.trans HN.out.2.1
  have NZ2 := (mid.2.2 (w.heap.size + 1 + 1) (by omega) (by have := HB1.out.2; omega)).1.trans HN.out.2.2
  have HM := Lib.hid (And.intro X2 (And.intro R2 (And.intro mid.1 (And.intro mid.2.1 (And.intro NX2 (And.intro NA2 NZ2))))))
  clear X2 R2 mid
  obtain ⟨y0, y1, y2, y3, y4, y5, y6, -⟩ := row7 NX2
  clear NX2
  obtain ⟨b0, b1, b2, b3, b4⟩ := row5 NA2
  clear NA2 NZ2
  have KP := Lib.hid (both_keep (g := g) HB1.out.1 HM.out.1)
  refine hK.out _ _ (HM.out.2.2.2.2.2.1) (fun hHeld => ?_)
  clear hK K
  try simp only [Act.put, List.setIfInBounds_toArray, List.set_cons_zero, List.set_cons_succ]
  refine wpAnyH_take (i := 7) (oi := { dst := some 8, op := Op.assign (Operand.tmp 52), type := 27, pos := "law.go:50", after := #[{ on := 6, ground := Ground.data }, { on := 6, ground := Ground.chain }, { on := 0, ground := Ground.phase }, { on := 1, ground := Ground.phase }, { on := 2, ground := Ground.phase }, { on := 3, ground := Ground.phase }, { on := 4, ground := Ground.phase }, { on := 5, ground := Ground.phase }, { on := 6, ground := Ground.phase }], guard := none }) (v := .int .i64 (z8 : Int)) rfl (by kernel_rfl) (by kernel_rfl) (by kernel_rfl) (fun _ _ _ h => h) (Or.inl ⟨by rfl, fun w hSw => by go_simp⟩) (by assumption) ?_
  try simp only [Act.put, List.setIfInBounds_toArray, List.set_cons_zero, List.set_cons_succ]
  refine wpAnyH_done (by kernel_rfl) ?_ _
  try unfold NoPanic
  go_wp2_with fail
  refine wp_region_noPanic ?_
  refine wp_region_held_drew (S := fun x : World => x.heap[w.heap.size + 1]? = some (.cells #[.int .u8 (K : Int), .int .u8 (A : Int), .int .u8 (B : Int), .int .i64 N, .slice Ax lx cx] 38)) (by kernel_rfl) (HM.out.2.2.2.2.2.1) (fun hHeld => ?_)
  have hb : Below w2.heap.size w2 w2.drew := (Below.refl _ w2).drew
  refine wpAnyH_take (i := 1) (oi := { dst := some 55, op := Op.fieldAddr 38 (Operand.tmp 5) 1, type := 0, pos := "law.go:51", after := #[], guard := none }) (v := .pointer (some ⟨w.heap.size + 1, 1, none⟩)) rfl (by kernel_rfl) (by kernel_rfl) (by kernel_rfl) (fun _ _ _ h => h) (Or.inl ⟨by rfl, fun w hSw => by go_simp⟩) (by assumption) ?_
  try simp only [Act.put, List.setIfInBounds_toArray, List.set_cons_zero, List.set_cons_succ]
  refine wpAnyH_take (i := 2) (oi := { dst := some 56, op := Op.load 5 (Operand.tmp 55), type := 5, pos := "law.go:51", after := #[{ on := 1, ground := Ground.data }], guard := none }) (v := .int .u8 (A : Int)) rfl (by kernel_rfl) (by kernel_rfl) (by kernel_rfl) (fun _ _ _ h => h) (Or.inl ⟨by rfl, fun w hSw => by obtain ⟨q0, q1, q2, q3, q4⟩ := row5 hSw; go_simp⟩) (by assumption) ?_
  try simp only [Act.put, List.setIfInBounds_toArray, List.set_cons_zero, List.set_cons_succ]
  refine wpAnyH_take (i := 4) (oi := { dst := some 58, op := Op.fieldAddr 38 (Operand.tmp 5) 4, type := 0, pos := "law.go:51", after := #[], guard := none }) (v := .pointer (some ⟨w.heap.size + 1, 4, none⟩)) rfl (by kernel_rfl) (by kernel_rfl) (by kernel_rfl) (fun _ _ _ h => h) (Or.inl ⟨by rfl, fun w hSw => by go_simp⟩) (by assumption) ?_
  try simp only [Act.put, List.setIfInBounds_toArray, List.set_cons_zero, List.set_cons_succ]
  refine wpAnyH_take (i := 5) (oi := { dst := some 59, op := Op.load 22 (Operand.tmp 58), type := 22, pos := "law.go:51", after := #[{ on := 4, ground := Ground.data }], guard := none }) (v := .slice Ax lx cx) rfl (by kernel_rfl) (by kernel_rfl) (by kernel_rfl) (fun _ _ _ h => h) (Or.inl ⟨by rfl, fun w hSw => by obtain ⟨q0, q1, q2, q3, q4⟩ := row5 hSw; go_simp⟩) (by assumption) ?_
  try simp only [Act.put, List.setIfInBounds_toArray, List.set_cons_zero, List.set_cons_succ]
  refine wpAnyH_ready (rs := [0, 3]) (by kernel_rfl) (by simp) ?_
  refine (AllReadyH.cons (o := { dst := some 54, op := Op.load 35 (Operand.tmp 4), type := 35, pos := "law.go:51", after := #[], guard := none }) rfl (fun K hK => ?_) (AllReadyH.cons (o := { dst := some 57, op := Op.call { callee := Callee.value (Operand.func 36), args := #[Operand.tmp 56], argTypes := #[5] }, type := 9, pos := "law.go:51", after := #[{ on := 2, ground := Ground.data }], guard := none }) rfl (fun K hK => ?_) AllReadyH.nil))
  · obtain ⟨g0, g1, g2, g3, g4, g5, g6, -⟩ := row7 ((hb.block _ (Array.getElem?_eq_some_iff.1 HM.out.2.2.2.2.1).1).trans HM.out.2.2.2.2.1)
    go_simp
    refine hK.out _ _ (hHeld) (fun hHeld => ?_)
    clear hK K
    try simp only [Act.put, List.setIfInBounds_toArray, List.set_cons_zero, List.set_cons_succ]
    clear g0 g1 g2 g3 g4 g5 g6
    refine wpAnyH_ready (rs := [3]) (by kernel_rfl) (by simp) ?_
    refine AllReadyH.cons (o := { dst := some 57, op := Op.call { callee := Callee.value (Operand.func 36), args := #[Operand.tmp 56], argTypes := #[5] }, type := 9, pos := "law.go:51", after := #[{ on := 2, ground := Ground.data }], guard := none }) rfl (fun K hK => ?_) AllReadyH.nil
    go_simp
    refine (CN.out _).mono ?_
    rintro e wx3 ⟨rfl, Bx⟩
    refine hK.out _ _ ((Bx.block _ (Array.getElem?_eq_some_iff.1 hHeld).1).trans hHeld) (fun hHeld => ?_)
    clear hK K
    try simp only [Act.put, List.setIfInBounds_toArray, List.set_cons_zero, List.set_cons_succ]
    have hb := hb.trans (Bx.mono hb.size)
    refine wpAnyH_ready (rs := [6]) (by kernel_rfl) (by simp) ?_
    refine AllReadyH.cons (o := { dst := some 60, op := Op.call { callee := Callee.value (Operand.func 38), args := #[Operand.tmp 54, Operand.tmp 57, Operand.tmp 59], argTypes := #[35, 9, 22] }, type := 71, pos := "law.go:51", after := #[{ on := 0, ground := Ground.data }, { on := 3, ground := Ground.data }, { on := 5, ground := Ground.data }, { on := 3, ground := Ground.chain }], guard := none }) rfl (fun K hK => ?_) AllReadyH.nil
    go_simp
    refine (CR.out _ (mark (mkg T2 g) w.heap.size) ⟨HM.out.2.2.1.keep (Shf.Below.keep hb _), rdn_keep2 HP.out (KP.out.trans (Shf.Below.keep hb _))⟩ (fun b hb' => Nat.lt_of_lt_of_le (HM.out.2.2.2.1 b hb') hb.size)).mono ?_
    rintro e w3 ⟨f9, v', rfl, RX3, B3⟩
    obtain ⟨A4, n4, c4, A5, n5, c5, A6, n6, c6, rm, lf, of, dn, rfl⟩ := RX3.form2
    have hb3 := hb.trans (B3.mono hb.size)
    have NX3 := (hb3.block _ (Array.getElem?_eq_some_iff.1 HM.out.2.2.2.2.1).1).trans HM.out.2.2.2.2.1
    have NZ3 := (hb3.block _ (Array.getElem?_eq_some_iff.1 HM.out.2.2.2.2.2.2).1).trans HM.out.2.2.2.2.2.2
    have HR3 := Lib.hid (And.intro RX3 (And.intro hb3 (And.intro NX3 NZ3)))
    refine hK.out _ _ ((B3.block _ (Array.getElem?_eq_some_iff.1 hHeld).1).trans hHeld) (fun hHeld => ?_)
    clear hK K
    try simp only [Act.put, List.setIfInBounds_toArray, List.set_cons_zero, List.set_cons_succ]
    clear RX3 hb3 NX3 NZ3
    refine wpAnyH_take (i := 7) (oi := { dst := some 53, op := Op.move (Operand.tmp 60), type := 71, pos := "law.go:51", after := #[{ on := 6, ground := Ground.data }], guard := none }) (v := .tuple #[.agg #[.slice A4 n4 c4, .slice A5 n5 c5, .slice A6 n6 c6, .int .i64 rm, .int .i64 lf, .bool of, .int .i64 dn], .int .i64 f9]) rfl (by kernel_rfl) (by kernel_rfl) (by kernel_rfl) (fun _ _ _ h => h) (Or.inl ⟨by rfl, fun w hSw => by go_simp⟩) (by assumption) ?_
    try simp only [Act.put, List.setIfInBounds_toArray, List.set_cons_zero, List.set_cons_succ]
    refine wpAnyH_take (i := 8) (oi := { dst := some 61, op := Op.extract (Operand.tmp 53) 0, type := 35, pos := "law.go:51", after := #[{ on := 7, ground := Ground.data }], guard := none }) (v := .agg #[.slice A4 n4 c4, .slice A5 n5 c5, .slice A6 n6 c6, .int .i64 rm, .int .i64 lf, .bool of, .int .i64 dn]) rfl (by kernel_rfl) (by kernel_rfl) (by kernel_rfl) (fun _ _ _ h => h) (Or.inl ⟨by rfl, fun w hSw => by go_simp⟩) (by assumption) ?_
    try simp only [Act.put, List.setIfInBounds_toArray, List.set_cons_zero, List.set_cons_succ]
    refine wpAnyH_take (i := 9) (oi := { dst := some 62, op := Op.extract (Operand.tmp 53) 1, type := 3, pos := "law.go:51", after := #[{ on := 7, ground := Ground.data }, { on := 10, ground := Ground.gcOnly Departure.lateStores }], guard := none }) (v := .int .i64 f9) rfl (by kernel_rfl) (by kernel_rfl) (by kernel_rfl) (fun _ _ _ h => h) (Or.inl ⟨by rfl, fun w hSw => by go_simp⟩) (by assumption) ?_
    try simp only [Act.put, List.setIfInBounds_toArray, List.set_cons_zero, List.set_cons_succ]
    refine wpAnyH_ready (rs := [10]) (by kernel_rfl) (by simp) ?_
    refine AllReadyH.cons (o := { dst := none, op := Op.store 35 (Operand.tmp 4) (Operand.tmp 61), type := 0, pos := "law.go:51", after := #[{ on := 8, ground := Ground.data }, { on := 6, ground := Ground.chain }, { on := 0, ground := Ground.phase }, { on := 1, ground := Ground.phase }, { on := 2, ground := Ground.phase }, { on := 3, ground := Ground.phase }, { on := 4, ground := Ground.phase }, { on := 5, ground := Ground.phase }, { on := 6, ground := Ground.phase }, { on := 7, ground := Ground.phase }, { on := 8, ground := Ground.phase }, { on := 9, ground := Ground.textOnly Departure.lateStores }], guard := none }) rfl (fun K hK => ?_) AllReadyH.nil
    obtain ⟨t0, t1, t2, t3, t4, t5, t6, tf⟩ := row7 HR3.out.2.2.1
    go_simp
    refine hK.out _ _ ((set7_block _ (by omega) ..).trans hHeld) (fun hHeld => ?_)
    clear hK K
    try simp only [Act.put, List.setIfInBounds_toArray, List.set_cons_zero, List.set_cons_succ]
    refine wpAnyH_take (i := 11) (oi := { dst := some 9, op := Op.assign (Operand.tmp 62), type := 3, pos := "law.go:51", after := #[{ on := 9, ground := Ground.data }, { on := 10, ground := Ground.chain }, { on := 0, ground := Ground.phase }, { on := 1, ground := Ground.phase }, { on := 2, ground := Ground.phase }, { on := 3, ground := Ground.phase }, { on := 4, ground := Ground.phase }, { on := 5, ground := Ground.phase }, { on := 6, ground := Ground.phase }, { on := 7, ground := Ground.phase }, { on := 8, ground := Ground.phase }, { on := 9, ground := Ground.phase }, { on := 10, ground := Ground.phase }], guard := none }) (v := .int .i64 f9) rfl (by kernel_rfl) (by kernel_rfl) (by kernel_rfl) (fun _ _ _ h => h) (Or.inl ⟨by rfl, fun w hSw => by go_simp⟩) (by assumption) ?_
    try simp only [Act.put, List.setIfInBounds_toArray, List.set_cons_zero, List.set_cons_succ]
    refine wpAnyH_done (by kernel_rfl) ?_ _
    try unfold NoPanic
    go_wp2_with (first
      | (refine wpList_put35 (x0 := .slice none 0 0) (x1 := .slice none 0 0) (x2 := .slice none 0 0) (x3 := .int .i64 0) (x4 := .int .i64 0) (x5 := .bool false) (x6 := .int .i64 0) rfl (.tmp 6) (.tmp 168) rfl (w.heap.size + 1 + 1) rfl ((set7_block _ hne ..).trans HR3.out.2.2.2) rfl ?_; intro w5 E5 G5; have HE5 := Lib.hid (And.intro E5 G5); clear E5 G5)
      | go_in)
    (try simp only [Exit.inBlock, Exit.then])
    refine bodyPost_ret (res35_tmp rfl _ _ (w.heap.size + 1 + 1) 35 _ (0, 0) rfl HE5.out.1 rfl) rfl ?_
    obtain ⟨h1, h2, h3⟩ := both_end HT.out HB1.out.1 (by have := HB1.out.2; omega) HM.out.1 HM.out.2.1 HR3.out.2.1 HR3.out.1 (set7_grown2 ..) HE5.out.2
    exact ⟨_, _, _, _, rfl, HM2.out, h1, h2, h3⟩
  · go_simp
    refine (CN.out _).mono ?_
    rintro e wx3 ⟨rfl, Bx⟩
    refine hK.out _ _ ((Bx.block _ (Array.getElem?_eq_some_iff.1 hHeld).1).trans hHeld) (fun hHeld => ?_)
    clear hK K
    try simp only [Act.put, List.setIfInBounds_toArray, List.set_cons_zero, List.set_cons_succ]
    have hb := hb.trans (Bx.mono hb.size)
    refine wpAnyH_ready (rs := [0]) (by kernel_rfl) (by simp) ?_
    refine AllReadyH.cons (o := { dst := some 54, op := Op.load 35 (Operand.tmp 4), type := 35, pos := "law.go:51", after := #[], guard := none }) rfl (fun K hK => ?_) AllReadyH.nil
    obtain ⟨g0, g1, g2, g3, g4, g5, g6, -⟩ := row7 ((hb.block _ (Array.getElem?_eq_some_iff.1 HM.out.2.2.2.2.1).1).trans HM.out.2.2.2.2.1)
    go_simp
    refine hK.out _ _ (hHeld) (fun hHeld => ?_)
    clear hK K
    try simp only [Act.put, List.setIfInBounds_toArray, List.set_cons_zero, List.set_cons_succ]
    clear g0 g1 g2 g3 g4 g5 g6
    refine wpAnyH_ready (rs := [6]) (by kernel_rfl) (by simp) ?_
    refine AllReadyH.cons (o := { dst := some 60, op := Op.call { callee := Callee.value (Operand.func 38), args := #[Operand.tmp 54, Operand.tmp 57, Operand.tmp 59], argTypes := #[35, 9, 22] }, type := 71, pos := "law.go:51", after := #[{ on := 0, ground := Ground.data }, { on := 3, ground := Ground.data }, { on := 5, ground := Ground.data }, { on := 3, ground := Ground.chain }], guard := none }) rfl (fun K hK => ?_) AllReadyH.nil
    go_simp
    refine (CR.out _ (mark (mkg T2 g) w.heap.size) ⟨HM.out.2.2.1.keep (Shf.Below.keep hb _), rdn_keep2 HP.out (KP.out.trans (Shf.Below.keep hb _))⟩ (fun b hb' => Nat.lt_of_lt_of_le (HM.out.2.2.2.1 b hb') hb.size)).mono ?_
    rintro e w3 ⟨f9, v', rfl, RX3, B3⟩
    obtain ⟨A4, n4, c4, A5, n5, c5, A6, n6, c6, rm, lf, of, dn, rfl⟩ := RX3.form2
    have hb3 := hb.trans (B3.mono hb.size)
    have NX3 := (hb3.block _ (Array.getElem?_eq_some_iff.1 HM.out.2.2.2.2.1).1).trans HM.out.2.2.2.2.1
    have NZ3 := (hb3.block _ (Array.getElem?_eq_some_iff.1 HM.out.2.2.2.2.2.2).1).trans HM.out.2.2.2.2.2.2
    have HR3 := Lib.hid (And.intro RX3 (And.intro hb3 (And.intro NX3 NZ3)))
    refine hK.out _ _ ((B3.block _ (Array.getElem?_eq_some_iff.1 hHeld).1).trans hHeld) (fun hHeld => ?_)
    clear hK K
    try simp only [Act.put, List.setIfInBounds_toArray, List.set_cons_zero, List.set_cons_succ]
    clear RX3 hb3 NX3 NZ3
    refine wpAnyH_take (i := 7) (oi := { dst := some 53, op := Op.move (Operand.tmp 60), type := 71, pos := "law.go:51", after := #[{ on := 6, ground := Ground.data }], guard := none }) (v := .tuple #[.agg #[.slice A4 n4 c4, .slice A5 n5 c5, .slice A6 n6 c6, .int .i64 rm, .int .i64 lf, .bool of, .int .i64 dn], .int .i64 f9]) rfl (by kernel_rfl) (by kernel_rfl) (by kernel_rfl) (fun _ _ _ h => h) (Or.inl ⟨by rfl, fun w hSw => by go_simp⟩) (by assumption) ?_
    try simp only [Act.put, List.setIfInBounds_toArray, List.set_cons_zero, List.set_cons_succ]
    refine wpAnyH_take (i := 8) (oi := { dst := some 61, op := Op.extract (Operand.tmp 53) 0, type := 35, pos := "law.go:51", after := #[{ on := 7, ground := Ground.data }], guard := none }) (v := .agg #[.slice A4 n4 c4, .slice A5 n5 c5, .slice A6 n6 c6, .int .i64 rm, .int .i64 lf, .bool of, .int .i64 dn]) rfl (by kernel_rfl) (by kernel_rfl) (by kernel_rfl) (fun _ _ _ h => h) (Or.inl ⟨by rfl, fun w hSw => by go_simp⟩) (by assumption) ?_
    try simp only [Act.put, List.setIfInBounds_toArray, List.set_cons_zero, List.set_cons_succ]
    refine wpAnyH_take (i := 9) (oi := { dst := some 62, op := Op.extract (Operand.tmp 53) 1, type := 3, pos := "law.go:51", after := #[{ on := 7, ground := Ground.data }, { on := 10, ground := Ground.gcOnly Departure.lateStores }], guard := none }) (v := .int .i64 f9) rfl (by kernel_rfl) (by kernel_rfl) (by kernel_rfl) (fun _ _ _ h => h) (Or.inl ⟨by rfl, fun w hSw => by go_simp⟩) (by assumption) ?_
    try simp only [Act.put, List.setIfInBounds_toArray, List.set_cons_zero, List.set_cons_succ]
    refine wpAnyH_ready (rs := [10]) (by kernel_rfl) (by simp) ?_
    refine AllReadyH.cons (o := { dst := none, op := Op.store 35 (Operand.tmp 4) (Operand.tmp 61), type := 0, pos := "law.go:51", after := #[{ on := 8, ground := Ground.data }, { on := 6, ground := Ground.chain }, { on := 0, ground := Ground.phase }, { on := 1, ground := Ground.phase }, { on := 2, ground := Ground.phase }, { on := 3, ground := Ground.phase }, { on := 4, ground := Ground.phase }, { on := 5, ground := Ground.phase }, { on := 6, ground := Ground.phase }, { on := 7, ground := Ground.phase }, { on := 8, ground := Ground.phase }, { on := 9, ground := Ground.textOnly Departure.lateStores }], guard := none }) rfl (fun K hK => ?_) AllReadyH.nil
    obtain ⟨t0, t1, t2, t3, t4, t5, t6, tf⟩ := row7 HR3.out.2.2.1
    go_simp
    refine hK.out _ _ ((set7_block _ (by omega) ..).trans hHeld) (fun hHeld => ?_)
    clear hK K
    try simp only [Act.put, List.setIfInBounds_toArray, List.set_cons_zero, List.set_cons_succ]
    refine wpAnyH_take (i := 11) (oi := { dst := some 9, op := Op.assign (Operand.tmp 62), type := 3, pos := "law.go:51", after := #[{ on := 9, ground := Ground.data }, { on := 10, ground := Ground.chain }, { on := 0, ground := Ground.phase }, { on := 1, ground := Ground.phase }, { on := 2, ground := Ground.phase }, { on := 3, ground := Ground.phase }, { on := 4, ground := Ground.phase }, { on := 5, ground := Ground.phase }, { on := 6, ground := Ground.phase }, { on := 7, ground := Ground.phase }, { on := 8, ground := Ground.phase }, { on := 9, ground := Ground.phase }, { on := 10, ground := Ground.phase }], guard := none }) (v := .int .i64 f9) rfl (by kernel_rfl) (by kernel_rfl) (by kernel_rfl) (fun _ _ _ h => h) (Or.inl ⟨by rfl, fun w hSw => by go_simp⟩) (by assumption) ?_
    try simp only [Act.put, List.setIfInBounds_toArray, List.set_cons_zero, List.set_cons_succ]
    refine wpAnyH_done (by kernel_rfl) ?_ _
    try unfold NoPanic
    go_wp2_with (first
      | (refine wpList_put35 (x0 := .slice none 0 0) (x1 := .slice none 0 0) (x2 := .slice none 0 0) (x3 := .int .i64 0) (x4 := .int .i64 0) (x5 := .bool false) (x6 := .int .i64 0) rfl (.tmp 6) (.tmp 168) rfl (w.heap.size + 1 + 1) rfl ((set7_block _ hne ..).trans HR3.out.2.2.2) rfl ?_; intro w5 E5 G5; have HE5 := Lib.hid (And.intro E5 G5); clear E5 G5)
      | go_in)
    (try simp only [Exit.inBlock, Exit.then])
    refine bodyPost_ret (res35_tmp rfl _ _ (w.heap.size + 1 + 1) 35 _ (0, 0) rfl HE5.out.1 rfl) rfl ?_
    obtain ⟨h1, h2, h3⟩ := both_end HT.out HB1.out.1 (by have := HB1.out.2; omega) HM.out.1 HM.out.2.1 HR3.out.2.1 HR3.out.1 (set7_grown2 ..) HE5.out.2
    exact ⟨_, _, _, _, rfl, HM2.out, h1, h2, h3⟩
end Go.Proofs.Ytkalgonkaoiapaa.Shf

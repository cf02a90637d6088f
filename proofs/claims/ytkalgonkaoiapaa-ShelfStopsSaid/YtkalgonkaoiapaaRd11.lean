/- The law's own do: case 11. -/
import Derived.Test.YtkalgonkaoiapaaRfs
import Derived.Deep.RegionWith
import Derived.WalkArith
namespace Go.Proofs.Ytkalgonkaoiapaa.Shf
open Go.ChangeShapes Go.WideShapes Go.ChangeAt Go.RowKit

set_option linter.unusedVariables false
theorem RXE.form11 {w : World} {T : Nat → Tag} {v : Value} {x : X} (h : RXE w T v x) : ∃ A1 n1 c1 A2 n2 c2 A3 n3 c3 room left off done, v = .agg #[.slice A1 n1 c1, .slice A2 n2 c2, .slice A3 n3 c3, .int .i64 room, .int .i64 left, .bool off, .int .i64 done] := by
  obtain ⟨lv, nv, wv, fs, ws, R⟩ := h
  obtain ⟨A1, n1, c1, e1⟩ := R.fl.sl
  obtain ⟨A2, n2, c2, e2⟩ := R.nm.isSl
  obtain ⟨A3, n3, c3, e3⟩ := R.wa.sl
  refine ⟨A1, n1, c1, A2, n2, c2, A3, n3, c3, x.room, x.left, x.off, x.done, ?_⟩
  rw [R.eq, e1, e2, e3]; rfl
set_option maxRecDepth 4000 in
set_option maxHeartbeats 4000000 in
theorem do11_any (w : World) (T : Nat → Tag) (q : Nat) (m : M) (xv : Value) (x : X) (i K A B : Nat) (N : Int) (p : S) (Ax : Option Addr) (cx : Nat) (g : Nat) (hgT : T g = .none) (hgl : g < w.heap.size) (R : Rep w T q m) (RX : RXE w (mkg T g) xv x) (I : x.Inv i) (hi : i ≤ 100) (hd : m.done ≤ 1000) (hK : K < 256) (hA : A < 256) (hB : B < 256)
    (hN : (Lit.int .i64 N).wf = true) (hp : RdN w (mkg T g) Ax p) (hAx : Ax = none → cx = 0) (hcx : p.length ≤ cx) (hp60 : p.length ≤ 60) (hroom : -1000000000 ≤ m.room) (hk : K % 12 = 11) :
    Calls Try.prog 16 #[.pointer (some ⟨q, 0, none⟩), xv, .agg #[.int .u8 (K : Int), .int .u8 (A : Int), .int .u8 (B : Int), .int .i64 N, .slice Ax p.length cx]] w fun e w' =>
      ∃ T' xv' m' b, e = .returned (.tuple #[xv', .bool b]) ∧ m' = m.fall N (B : Int) ∧ Rep w' T' q m' ∧ RXE w' (mkg T' g) xv' (x.fall N (B : Int)) ∧ Ext w T w' T' := by
  have hT0 : ∀ b, T b ≠ .none → b < w.heap.size := by obtain ⟨⟨_, _, _, _, _, RV⟩, _⟩ := R; exact RV.old
  have hT : ∀ b, w.heap.size ≤ b → T b = .none := fun b hb => by
    cases e : T b with
    | none => rfl
    | _ => exact absurd (hT0 b (by rw [e]; intro h; cases h)) (by omega)
  have kN := bounds_i64 hN
  have hk5 : ((K : Int) % 12) = (((K % 12 : Nat)) : Int) := by omega
  have RX0 := Lib.hid RX
  have HP := Lib.hid hp
  have HT := Lib.hid hT
  have HI := Lib.hid I
  obtain ⟨lv, nv, wv, fs, ws, RR⟩ := RX
  obtain ⟨A1, n1, c1, e1⟩ := RR.fl.sl
  obtain ⟨A2, n2, c2, e2⟩ := RR.nm.isSl
  obtain ⟨A3, n3, c3, e3⟩ := RR.wa.sl
  have hxv := RR.eq
  subst e1 e2 e3
  obtain ⟨L, now, was, room, left, off, done⟩ := x
  simp only at hxv
  unfold RfV at hxv
  subst hxv
  obtain ⟨lx, hlx⟩ : ∃ n, n = p.length := ⟨_, rfl⟩
  rw [← hlx] at hcx hp60 ⊢
  have HLX := Lib.hid hlx
  have B1 : Below w.heap.size w (((w.alloc (.cells #[.slice A1 n1 c1, .slice A2 n2 c2, .slice A3 n3 c3, .int .i64 room, .int .i64 left, .bool off, .int .i64 done] 35)).alloc (.cells #[.int .u8 (K : Int), .int .u8 (A : Int), .int .u8 (B : Int), .int .i64 N, .slice Ax lx cx] 38)).alloc (.cells #[.slice none 0 0, .slice none 0 0, .slice none 0 0, .int .i64 0, .int .i64 0, .bool false, .int .i64 0] 35)) := below3 w _ _ _
  have z1 : (((w.alloc (.cells #[.slice A1 n1 c1, .slice A2 n2 c2, .slice A3 n3 c3, .int .i64 room, .int .i64 left, .bool off, .int .i64 done] 35)).alloc (.cells #[.int .u8 (K : Int), .int .u8 (A : Int), .int .u8 (B : Int), .int .i64 N, .slice Ax lx cx] 38)).alloc (.cells #[.slice none 0 0, .slice none 0 0, .slice none 0 0, .int .i64 0, .int .i64 0, .bool false, .int .i64 0] 35)).heap.size = w.heap.size + 3 := by simp
  have NZ := heap_alloc_new ((w.alloc (.cells #[.slice A1 n1 c1, .slice A2 n2 c2, .slice A3 n3 c3, .int .i64 room, .int .i64 left, .bool off, .int .i64 done] 35)).alloc (.cells #[.int .u8 (K : Int), .int .u8 (A : Int), .int .u8 (B : Int), .int .i64 N, .slice Ax lx cx] 38)) (.cells #[.slice none 0 0, .slice none 0 0, .slice none 0 0, .int .i64 0, .int .i64 0, .bool false, .int .i64 0] 35)
  have NA := (heap_alloc_old ((w.alloc (.cells #[.slice A1 n1 c1, .slice A2 n2 c2, .slice A3 n3 c3, .int .i64 room, .int .i64 left, .bool off, .int .i64 done] 35)).alloc (.cells #[.int .u8 (K : Int), .int .u8 (A : Int), .int .u8 (B : Int), .int .i64 N, .slice Ax lx cx] 38)) (.cells #[.slice none 0 0, .slice none 0 0, .slice none 0 0, .int .i64 0, .int .i64 0, .bool false, .int .i64 0] 35) (by simp)).trans (heap_alloc2_new w (.cells #[.slice A1 n1 c1, .slice A2 n2 c2, .slice A3 n3 c3, .int .i64 room, .int .i64 left, .bool off, .int .i64 done] 35) (.cells #[.int .u8 (K : Int), .int .u8 (A : Int), .int .u8 (B : Int), .int .i64 N, .slice Ax lx cx] 38))
  have NX := (heap_alloc_old ((w.alloc (.cells #[.slice A1 n1 c1, .slice A2 n2 c2, .slice A3 n3 c3, .int .i64 room, .int .i64 left, .bool off, .int .i64 done] 35)).alloc (.cells #[.int .u8 (K : Int), .int .u8 (A : Int), .int .u8 (B : Int), .int .i64 N, .slice Ax lx cx] 38)) (.cells #[.slice none 0 0, .slice none 0 0, .slice none 0 0, .int .i64 0, .int .i64 0, .bool false, .int .i64 0] 35) (by simp; omega)).trans (heap_alloc2_old w (.cells #[.slice A1 n1 c1, .slice A2 n2 c2, .slice A3 n3 c3, .int .i64 room, .int .i64 left, .bool off, .int .i64 done] 35) (.cells #[.int .u8 (K : Int), .int .u8 (A : Int), .int .u8 (B : Int), .int .i64 N, .slice Ax lx cx] 38))
  have e2' : ((w.alloc (.cells #[.slice A1 n1 c1, .slice A2 n2 c2, .slice A3 n3 c3, .int .i64 room, .int .i64 left, .bool off, .int .i64 done] 35)).alloc (.cells #[.int .u8 (K : Int), .int .u8 (A : Int), .int .u8 (B : Int), .int .i64 N, .slice Ax lx cx] 38)).heap.size = w.heap.size + 1 + 1 := by simp
  rw [e2'] at NZ
  have hwB : (Lit.int .i64 (B : Int)).wf = true := Go.WalkArith.wf_i64 (by omega)
  have HW := Lib.hid (And.intro hN hwB)
  clear hwB
  obtain ⟨xn, hxn⟩ : ∃ y : X, y = (X.mk L now was room left off done).fall N (B : Int) := ⟨_, rfl⟩
  have HXN := Lib.hid hxn
  clear hxn
  clear RR hp hlx hT0 hT e2' I hN
  rw [hk] at hk5
  rw [← HXN.out]
  have hBw : IntKind.i64.wrap (B : Int) = (B : Int) := by rw [IntKind.wrap_i64]; omega
  go_enter Try.func16, Try.ntmps16
  go_upto_region 3 with (fail)
  generalize ((w.alloc (.cells #[.slice A1 n1 c1, .slice A2 n2 c2, .slice A3 n3 c3, .int .i64 room, .int .i64 left, .bool off, .int .i64 done] 35)).alloc (.cells #[.int .u8 (K : Int), .int .u8 (A : Int), .int .u8 (B : Int), .int .i64 N, .slice Ax lx cx] 38)).alloc (.cells #[.slice none 0 0, .slice none 0 0, .slice none 0 0, .int .i64 0, .int .i64 0, .bool false, .int .i64 0] 35) = w1 at *
  obtain ⟨a0, a1, a2, a3, a4⟩ := row5 NA
  have HB1 := Lib.hid (And.intro B1 z1)
  have HN := Lib.hid (And.intro NX (And.intro NA NZ))
  have R1 := R.below B1
  go_wp2_with (first
    | (go_at_call 17; (with_reducible refine (fall_rep w1 T q m N (B : Int) R1 (by omega)).mono ?_); rintro e w2 ⟨rfl, T2, R2, X2⟩; have mid := both_mid RX0.out hgl HT.out HB1.out.1 (by have := HB1.out.2; omega) X2 R2; have NX2 := (mid.2.2 w.heap.size (Nat.le_refl _) (by have := HB1.out.2; omega)).1.trans HN.out.1; have NA2 := (mid.2.2 (w.heap.size + 1) (by omega) (by have := HB1.out.2; omega)).1.trans HN.out.2.1; have NZ2 := (mid.2.2 (w.heap.size + 1 + 1) (by omega) (by have := HB1.out.2; omega)).1.trans HN.out.2.2; have HM := Lib.hid (And.intro X2 (And.intro R2 (And.intro mid.1 (And.intro mid.2.1 (And.intro NX2 (And.intro NA2 NZ2)))))); clear X2 R2 mid; obtain ⟨y0, y1, y2, y3, y4, y5, y6, -⟩ := row7 NX2; clear NX2; obtain ⟨b0, b1, b2, b3, b4⟩ := row5 NA2; clear NA2 NZ2; have c44 := xfall_any w2 (mark (mkg T2 g) w.heap.size) _ _ N (B : Int) HM.out.2.2.1 (HI.out.fits (by omega)) HM.out.2.2.2.1 HI.out.good HI.out.okay (HI.out.short (by omega)) (HI.out.wasl (by omega)) HW.out.1 HW.out.2; rw [← HXN.out] at c44)
    | (go_at_call 44; (with_reducible refine c44.mono ?_); rintro e w3 ⟨v', rfl, RX3, B3⟩; obtain ⟨A4, n4, c4, A5, n5, c5, A6, n6, c6, rm, lf, of, dn, rfl⟩ := RX3.form11; have NX3 := (B3.block _ (Array.getElem?_eq_some_iff.1 HM.out.2.2.2.2.1).1).trans HM.out.2.2.2.2.1; have NZ3 := (B3.block _ (Array.getElem?_eq_some_iff.1 HM.out.2.2.2.2.2.2).1).trans HM.out.2.2.2.2.2.2; have HR3 := Lib.hid (And.intro RX3 B3); clear RX3 B3; clear c44)
    | (refine wpList_put35 rfl (.tmp 4) (.tmp 26) rfl w.heap.size rfl NX3 rfl ?_; intro w4 E4 G4; have NZ4 := (G4.block _ (Array.getElem?_eq_some_iff.1 NZ3).1 (by intro h; injection h with h; omega)).trans NZ3; clear NX3 NZ3; obtain ⟨p0, p1, p2, p3, p4, p5, p6, -⟩ := row7 E4; have HG4 := Lib.hid G4; clear E4 G4)
    | (refine wpList_put35 (x0 := .slice none 0 0) (x1 := .slice none 0 0) (x2 := .slice none 0 0) (x3 := .int .i64 0) (x4 := .int .i64 0) (x5 := .bool false) (x6 := .int .i64 0) rfl (.tmp 6) (.tmp 168) rfl (w.heap.size + 1 + 1) rfl NZ4 rfl ?_; intro w5 E5 G5; have HE5 := Lib.hid (And.intro E5 G5); clear E5 G5)
    | go_in)
  (try simp only [Exit.inBlock, Exit.then])
  refine bodyPost_ret (res35_tmp rfl _ _ (w.heap.size + 1 + 1) 35 _ (0, 0) rfl HE5.out.1 rfl) rfl ?_
  obtain ⟨h1, h2, h3⟩ := both_end HT.out HB1.out.1 (by have := HB1.out.2; omega) HM.out.1 HM.out.2.1 HR3.out.2 HR3.out.1 HG4.out HE5.out.2
  exact ⟨_, _, _, _, rfl, rfl, h1, h2, h3⟩
end Go.Proofs.Ytkalgonkaoiapaa.Shf

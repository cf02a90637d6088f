/- The law's own do: case 0. -/
import Derived.Test.YtkalgonkaoiapaaRfs
import Derived.Deep.RegionWith
import Derived.WalkArith
namespace Go.Proofs.Ytkalgonkaoiapaa.Shf
open Go.ChangeShapes Go.WideShapes Go.ChangeAt Go.RowKit

set_option linter.unusedVariables false
theorem RXE.form0 {w : World} {T : Nat → Tag} {v : Value} {x : X} (h : RXE w T v x) : ∃ A1 n1 c1 A2 n2 c2 A3 n3 c3 room left off done, v = .agg #[.slice A1 n1 c1, .slice A2 n2 c2, .slice A3 n3 c3, .int .i64 room, .int .i64 left, .bool off, .int .i64 done] := by
  obtain ⟨lv, nv, wv, fs, ws, R⟩ := h
  obtain ⟨A1, n1, c1, e1⟩ := R.fl.sl
  obtain ⟨A2, n2, c2, e2⟩ := R.nm.isSl
  obtain ⟨A3, n3, c3, e3⟩ := R.wa.sl
  refine ⟨A1, n1, c1, A2, n2, c2, A3, n3, c3, x.room, x.left, x.off, x.done, ?_⟩
  rw [R.eq, e1, e2, e3]; rfl
theorem set7_grown0 (w : World) (b : Nat) (y0 y1 y2 y3 y4 y5 y6 : Value) :
    w.grownBy (((((((w.setCell ⟨b, 0, none⟩ y0).setCell ⟨b, 1, none⟩ y1).setCell ⟨b, 2, none⟩ y2).setCell ⟨b, 3, none⟩ y3).setCell ⟨b, 4, none⟩ y4).setCell ⟨b, 5, none⟩ y5).setCell ⟨b, 6, none⟩ y6) (some b) :=
  (grown_set w b 0 y0).trans ((grown_set _ b 1 y1).trans ((grown_set _ b 2 y2).trans ((grown_set _ b 3 y3).trans ((grown_set _ b 4 y4).trans ((grown_set _ b 5 y5).trans (grown_set _ b 6 y6))))))
theorem ext_below0 {w w' : World} (T : Nat → Tag) (h : Below w.heap.size w w') : Ext w T w' T := ⟨h.os, h.tape, h.output, h.size, fun _ _ => rfl, fun b hb _ => h.block b hb⟩
set_option maxRecDepth 4000 in
set_option maxHeartbeats 4000000 in
theorem do0_any (w : World) (T : Nat → Tag) (q : Nat) (m : M) (xv : Value) (x : X) (i K A B : Nat) (N : Int) (p : S) (Ax : Option Addr) (cx : Nat) (g : Nat) (hgT : T g = .none) (hgl : g < w.heap.size) (R : Rep w T q m) (RX : RXE w (mkg T g) xv x) (I : x.Inv i) (hi : i ≤ 100) (hd : m.done ≤ 1000) (hK : K < 256) (hA : A < 256) (hB : B < 256)
    (hN : (Lit.int .i64 N).wf = true) (hp : RdN w (mkg T g) Ax p) (hAx : Ax = none → cx = 0) (hcx : p.length ≤ cx) (hp60 : p.length ≤ 60) (hroom : -1000000000 ≤ m.room) (hk : K % 12 = 0) :
    Calls Try.prog 16 #[.pointer (some ⟨q, 0, none⟩), xv, .agg #[.int .u8 (K : Int), .int .u8 (A : Int), .int .u8 (B : Int), .int .i64 N, .slice Ax p.length cx]] w fun e w' =>
      ∃ T' xv' m' b, e = .returned (.tuple #[xv', .bool b]) ∧ (∃ b, T b = .none ∧ m' = m.create (nameOf A) b) ∧ Rep w' T' q m' ∧ RXE w' (mkg T' g) xv' ((x.create (nameOf A)).1) ∧ Ext w T w' T' := by
  have hT0 : ∀ b, T b ≠ .none → b < w.heap.size := by obtain ⟨⟨_, _, _, _, _, RV⟩, _⟩ := R; exact RV.old
  have hT : ∀ b, w.heap.size ≤ b → T b = .none := fun b hb => by
    cases e : T b with
    | none => rfl
    | _ => exact absurd (hT0 b (by rw [e]; intro h; cases h)) (by omega)
  have kN := bounds_i64 hN
  have hk5 : ((K : Int) % 12) = (((K % 12 : Nat)) : Int) := by omega
  have RX0 := Lib.hid RX
  have HP := Lib.hid hp
  have HT := Lib.hid hT
  have HI := Lib.hid I
  obtain ⟨lv, nv, wv, fs, ws, RR⟩ := RX
  obtain ⟨A1, n1, c1, e1⟩ := RR.fl.sl
  obtain ⟨A2, n2, c2, e2⟩ := RR.nm.isSl
  obtain ⟨A3, n3, c3, e3⟩ := RR.wa.sl
  have hxv := RR.eq
  subst e1 e2 e3
  obtain ⟨L, now, was, room, left, off, done⟩ := x
  simp only at hxv
  unfold RfV at hxv
  subst hxv
  obtain ⟨lx, hlx⟩ : ∃ n, n = p.length := ⟨_, rfl⟩
  rw [← hlx] at hcx hp60 ⊢
  have HLX := Lib.hid hlx
  have B1 : Below w.heap.size w (((w.alloc (.cells #[.slice A1 n1 c1, .slice A2 n2 c2, .slice A3 n3 c3, .int .i64 room, .int .i64 left, .bool off, .int .i64 done] 35)).alloc (.cells #[.int .u8 (K : Int), .int .u8 (A : Int), .int .u8 (B : Int), .int .i64 N, .slice Ax lx cx] 38)).alloc (.cells #[.slice none 0 0, .slice none 0 0, .slice none 0 0, .int .i64 0, .int .i64 0, .bool false, .int .i64 0] 35)) := below3 w _ _ _
  have z1 : (((w.alloc (.cells #[.slice A1 n1 c1, .slice A2 n2 c2, .slice A3 n3 c3, .int .i64 room, .int .i64 left, .bool off, .int .i64 done] 35)).alloc (.cells #[.int .u8 (K : Int), .int .u8 (A : Int), .int .u8 (B : Int), .int .i64 N, .slice Ax lx cx] 38)).alloc (.cells #[.slice none 0 0, .slice none 0 0, .slice none 0 0, .int .i64 0, .int .i64 0, .bool false, .int .i64 0] 35)).heap.size = w.heap.size + 3 := by simp
  have NZ := heap_alloc_new ((w.alloc (.cells #[.slice A1 n1 c1, .slice A2 n2 c2, .slice A3 n3 c3, .int .i64 room, .int .i64 left, .bool off, .int .i64 done] 35)).alloc (.cells #[.int .u8 (K : Int), .int .u8 (A : Int), .int .u8 (B : Int), .int .i64 N, .slice Ax lx cx] 38)) (.cells #[.slice none 0 0, .slice none 0 0, .slice none 0 0, .int .i64 0, .int .i64 0, .bool false, .int .i64 0] 35)
  have NA := (heap_alloc_old ((w.alloc (.cells #[.slice A1 n1 c1, .slice A2 n2 c2, .slice A3 n3 c3, .int .i64 room, .int .i64 left, .bool off, .int .i64 done] 35)).alloc (.cells #[.int .u8 (K : Int), .int .u8 (A : Int), .int .u8 (B : Int), .int .i64 N, .slice Ax lx cx] 38)) (.cells #[.slice none 0 0, .slice none 0 0, .slice none 0 0, .int .i64 0, .int .i64 0, .bool false, .int .i64 0] 35) (by simp)).trans (heap_alloc2_new w (.cells #[.slice A1 n1 c1, .slice A2 n2 c2, .slice A3 n3 c3, .int .i64 room, .int .i64 left, .bool off, .int .i64 done] 35) (.cells #[.int .u8 (K : Int), .int .u8 (A : Int), .int .u8 (B : Int), .int .i64 N, .slice Ax lx cx] 38))
  have NX := (heap_alloc_old ((w.alloc (.cells #[.slice A1 n1 c1, .slice A2 n2 c2, .slice A3 n3 c3, .int .i64 room, .int .i64 left, .bool off, .int .i64 done] 35)).alloc (.cells #[.int .u8 (K : Int), .int .u8 (A : Int), .int .u8 (B : Int), .int .i64 N, .slice Ax lx cx] 38)) (.cells #[.slice none 0 0, .slice none 0 0, .slice none 0 0, .int .i64 0, .int .i64 0, .bool false, .int .i64 0] 35) (by simp; omega)).trans (heap_alloc2_old w (.cells #[.slice A1 n1 c1, .slice A2 n2 c2, .slice A3 n3 c3, .int .i64 room, .int .i64 left, .bool off, .int .i64 done] 35) (.cells #[.int .u8 (K : Int), .int .u8 (A : Int), .int .u8 (B : Int), .int .i64 N, .slice Ax lx cx] 38))
  have e2' : ((w.alloc (.cells #[.slice A1 n1 c1, .slice A2 n2 c2, .slice A3 n3 c3, .int .i64 room, .int .i64 left, .bool off, .int .i64 done] 35)).alloc (.cells #[.int .u8 (K : Int), .int .u8 (A : Int), .int .u8 (B : Int), .int .i64 N, .slice Ax lx cx] 38)).heap.size = w.heap.size + 1 + 1 := by simp
  rw [e2'] at NZ
  obtain ⟨xr, hxr⟩ : ∃ y : X × Int, y = ((X.mk L now was room left off done).create (nameOf A)) := ⟨_, rfl⟩
  have HXR := Lib.hid hxr
  clear hxr
  clear RR hp hlx hT0 hT e2' I hN
  rw [hk] at hk5
  rw [← HXR.out]
  have hne : w.heap.size + 1 + 1 ≠ w.heap.size := by omega
  obtain ⟨nm, hnm⟩ : ∃ n, n = str (nameOf A) := ⟨_, rfl⟩
  have hnl := nameOf_len A
  have CN : Hid (∀ W : World, Calls Try.prog 36 #[.int .u8 (A : Int)] W fun e w' => e = .returned (.string nm) ∧ Below W.heap.size W w') := fun W => by rw [hnm]; exact lname_any W A hA
  have CD : Hid (∀ W, Rep W T q m → Calls Try.prog 11 #[.pointer (some ⟨q, 0, none⟩), .string nm] W fun e w' => ∃ (z : Nat) (m' : M) (T' : Nat → Tag), e = .returned (.int .i64 (z : Int)) ∧ ((∃ b, T b = .none ∧ m' = m.create (nameOf A) b)) ∧ Rep w' T' q m' ∧ Ext W T w' T') := fun W RW => by
    rw [hnm]
    exact (create_rep W T q m (nameOf A) RW (by omega) (by omega)).mono fun e w' h => by
      obtain ⟨h1, T', b, h2, h3, h4⟩ := h
      have hb : T b = .none := by
        obtain ⟨⟨_, _, _, _, _, RV⟩, _⟩ := RW
        cases e : T b with
        | none => rfl
        | _ => exact absurd (RV.old b (by rw [e]; intro h; cases h)) (by omega)
      exact ⟨_, _, T', h1, ⟨b, hb, rfl⟩, h2, h3⟩
  have CR : Hid (∀ (W : World) (T' : Nat → Tag), RXE W T' (.agg #[.slice A1 n1 c1, .slice A2 n2 c2, .slice A3 n3 c3, .int .i64 room, .int .i64 left, .bool off, .int .i64 done]) ⟨L, now, was, room, left, off, done⟩ → (∀ b, T' b ≠ .none → b < W.heap.size) → Calls Try.prog 37 #[.agg #[.slice A1 n1 c1, .slice A2 n2 c2, .slice A3 n3 c3, .int .i64 room, .int .i64 left, .bool off, .int .i64 done], .string nm] W fun e w' => ∃ (f : Int) (v' : Value), e = .returned (.tuple #[v', .int .i64 f]) ∧ RXE w' T' v' xr.1 ∧ Below W.heap.size W w') := fun W T' RW hT' => by
    rw [hnm, HXR.out]
    exact (xcreate_any W T' _ _ (nameOf A) RW (HI.out.fits (by omega)) hT' (by omega)).mono fun e w' h => by
      obtain ⟨v', h1, h2, h3⟩ := h
      exact ⟨_, v', h1, h2, h3⟩
  clear hnm
  go_enter Try.func16, Try.ntmps16
  go_upto_region 3 with (fail)
  generalize ((w.alloc (.cells #[.slice A1 n1 c1, .slice A2 n2 c2, .slice A3 n3 c3, .int .i64 room, .int .i64 left, .bool off, .int .i64 done] 35)).alloc (.cells #[.int .u8 (K : Int), .int .u8 (A : Int), .int .u8 (B : Int), .int .i64 N, .slice Ax lx cx] 38)).alloc (.cells #[.slice none 0 0, .slice none 0 0, .slice none 0 0, .int .i64 0, .int .i64 0, .bool false, .int .i64 0] 35) = w1 at *
  obtain ⟨a0, a1, a2, a3, a4⟩ := row5 NA
  have HB1 := Lib.hid (And.intro B1 z1)
  have HN := Lib.hid (And.intro NX (And.intro NA NZ))
  have R1 := R.below B1
  go_wp2_with (first
    | (go_at_call 36; (with_reducible refine (CN.out w1).mono ?_); rintro e wn ⟨rfl, Bn⟩)
    | (go_at_call 11; (with_reducible refine (CD.out wn (R1.below Bn)).mono ?_); rintro e w2 ⟨z8, m2, T2, rfl, hm2, R2, X2'⟩; have X2 := (ext_below0 T Bn).trans X2'; have HM2 := Lib.hid hm2; clear hm2; have mid := both_mid RX0.out hgl HT.out HB1.out.1 (by have := HB1.out.2; omega) X2 R2; have NX2 := (mid.2.2 w.heap.size (Nat.le_refl _) (by have := HB1.out.2; omega)).1.trans HN.out.1; have NA2 := (mid.2.2 (w.heap.size + 1) (by omega) (by have := HB1.out.2; omega)).1.trans HN.out.2.1; have NZ2 := (mid.2.2 (w.heap.size + 1 + 1) (by omega) (by have := HB1.out.2; omega)).1.trans HN.out.2.2; have HM := Lib.hid (And.intro X2 (And.intro R2 (And.intro mid.1 (And.intro mid.2.1 (And.intro NX2 (And.intro NA2 NZ2)))))); clear X2 R2 mid; obtain ⟨y0, y1, y2, y3, y4, y5, y6, -⟩ := row7 NX2; clear NX2; obtain ⟨b0, b1, b2, b3, b4⟩ := row5 NA2; clear NA2 NZ2)
    | go_in)
  go_region_with (first
    | (go_at_call 36; (with_reducible refine (CN.out _).mono ?_); rintro e w6 ⟨rfl, B6⟩; have NX6 := (B6.block _ (Array.getElem?_eq_some_iff.1 HM.out.2.2.2.2.1).1).trans HM.out.2.2.2.2.1; have NZ6 := (B6.block _ (Array.getElem?_eq_some_iff.1 HM.out.2.2.2.2.2.2).1).trans HM.out.2.2.2.2.2.2; have HB6 : Hid (Below w2.heap.size w2 w6) := (Below.refl _ w2).drew.trans (B6.mono (Nat.le_refl _)); obtain ⟨r0, r1, r2, r3, r4, r5, r6, -⟩ := row7 NX6)
    | (go_at_call 37; (with_reducible refine (CR.out w6 (mark (mkg T2 g) w.heap.size) (HM.out.2.2.1.keep (Shf.Below.keep HB6.out _)) (fun b hb => Nat.lt_of_lt_of_le (HM.out.2.2.2.1 b hb) HB6.out.size)).mono ?_); rintro e w3 ⟨f9, v', rfl, RX3, B3⟩; obtain ⟨A4, n4, c4, A5, n5, c5, A6, n6, c6, rm, lf, of, dn, rfl⟩ := RX3.form0; have NX3 := (B3.block _ (Array.getElem?_eq_some_iff.1 NX6).1).trans NX6; have NZ3 := (B3.block _ (Array.getElem?_eq_some_iff.1 NZ6).1).trans NZ6; have HR3 := Lib.hid (And.intro RX3 (And.intro (HB6.out.trans (B3.mono HB6.out.size)) NZ3)); obtain ⟨t0, t1, t2, t3, t4, t5, t6, tf⟩ := row7 NX3; clear RX3 B3 NX3 NZ3; clear r0 r1 r2 r3 r4 r5 r6 y0 y1 y2 y3 y4 y5 y6))
  all_goals
    go_wp2_with (first
      | (refine wpList_put35 (x0 := .slice none 0 0) (x1 := .slice none 0 0) (x2 := .slice none 0 0) (x3 := .int .i64 0) (x4 := .int .i64 0) (x5 := .bool false) (x6 := .int .i64 0) rfl (.tmp 6) (.tmp 168) rfl (w.heap.size + 1 + 1) rfl ((set7_block _ hne ..).trans HR3.out.2.2) rfl ?_; intro w5 E5 G5; have HE5 := Lib.hid (And.intro E5 G5); clear E5 G5)
      | go_in)
    (try simp only [Exit.inBlock, Exit.then])
    refine bodyPost_ret (res35_tmp rfl _ _ (w.heap.size + 1 + 1) 35 _ (0, 0) rfl HE5.out.1 rfl) rfl ?_
    obtain ⟨h1, h2, h3⟩ := both_end HT.out HB1.out.1 (by have := HB1.out.2; omega) HM.out.1 HM.out.2.1 HR3.out.2.1 HR3.out.1 (set7_grown0 ..) HE5.out.2
    exact ⟨_, _, _, _, rfl, HM2.out, h1, h2, h3⟩
end Go.Proofs.Ytkalgonkaoiapaa.Shf

/- The law's own do: what is told. -/
import Derived.Test.YtkbhmdoichiinaaRs
namespace Go.Proofs.Ytkbhmdoichiinaa.Rts
open Pre Ser
open Go.Proofs.Ytkbhmdoichiinaa.Src (row1 row2)
open Go.ChangeShapes Go.WideShapes Go.ChangeAt Go.RowKit
set_option maxRecDepth 8000
set_option linter.unusedVariables false

open Go.Proofs.Ytkbhmdoichiinaa.Src (pA pN pA_lt pN_le)
theorem setm {w : World} {b : Nat} {x0 x1 : Value} (h : w.heap[b]? = some (.cells #[x0, x1] 41 (0, 0))) (y : Value) : (w.setCell ⟨b, 1, none⟩ y).heap[b]? = some (.cells #[x0, y] 41 (0, 0)) := by
  have := heap_setCell_same w b 1 _ 41 y h
  simpa using this
theorem own_mono {w : World} {B B' : Nat} {v : Value} {L : List E} (h : EOwn w B v L) (hB : B' ≤ B) : EOwn w B' v L := by
  rcases h with ⟨h0, h1 | ⟨g, cap, cur, hv, hb, h2⟩⟩
  · exact ⟨h0, Or.inl h1⟩
  · exact ⟨h0, Or.inr ⟨g, cap, cur, hv, Nat.le_trans hB hb, h2⟩⟩
theorem DX.other {lo : Nat} {w W W' : World} {q now : Nat} {v0 v vl : Value} {L l : List E} {R : List (Nat × Array Value × TypeId)} (h : DX lo w W q v0 L v vl l now R) {k : Nat} {x : Array Value} {t : TypeId} (hr : W.heap[k]? = some (.cells x t (0, 0))) (h1 : t ≠ 43) (h2 : t ≠ 72) (h3 : t ≠ 29) (hR : ∀ y ∈ R, y.2.2 ≠ t) (hs : w.heap.size ≤ k) (F : Fr (fun i => i = k) W W') : DX lo w W' q v0 L v vl l now R :=
  ⟨h.p.box hr h1 h2 F, h.f.later F (fun i hi e => by omega), h.lt, F.row h.r0 (fun e => row_ne h.r0 hr h3.symm e), fun y hy => by
    obtain ⟨a, b, c, d⟩ := h.rows y hy
    exact ⟨F.row a (fun e => row_ne a hr (hR y hy) e), b, c, d⟩⟩
theorem DX.esl {lo : Nat} {w W : World} {q now : Nat} {v0 v : Value} {L l : List E} {A : Option Addr} {n c : Nat} {R : List (Nat × Array Value × TypeId)} (h : DX lo w W q v0 L v (.slice A n c) l now R) : n = l.length ∧ ESl W A l ∧ (A = none → c = 0) := by
  obtain ⟨A', c', e, h1, h2, -⟩ := h.p.sl
  injection e with e1 e2 e3
  subst e1 e2 e3
  exact ⟨rfl, h1, h2⟩
set_option maxHeartbeats 8000000 in
theorem do_tellA (w : World) (lo q : Nat) (v : Value) (L l : List E) (A : Option Addr) (c n now : Nat) (d : ActD) (hn : n = l.length) (hP : PL lo w q L v (.slice A n c) l) (hI : Inv L l now) (hlen : n ≤ 100) (hd : d.Ok) (hnow : now < 1000000) (hk : d.K % 11 = 6) :
    Calls Try.prog 10 #[.pointer (some ⟨q, 0, none⟩), .agg #[.slice A n c, .int .u64 (now : Int)], .agg #[.int .u8 (d.K : Int), .int .u8 (d.B : Int), .int .u8 (d.P : Int), .int .u8 (d.Q : Int), .int .u16 (d.M : Int)]] w (DoSaid lo w q v (d.rts now L) (d.lst now l) (d.time now)) := by
  subst hn
  obtain ⟨K, B, P, Q, M⟩ := d
  obtain ⟨h1, h2, h3, h4, h5⟩ := hd
  simp only at h1 h2 h3 h4 h5 hk
  have HD0 := Lib.hid (DX.start (now := now) hP #[.int .u8 (K : Int), .int .u8 (B : Int), .int .u8 (P : Int), .int .u8 (Q : Int), .int .u16 (M : Int)])
  obtain ⟨W, hW⟩ : ∃ W, W = ((w.alloc (.cells #[.slice A l.length c, .int .u64 (now : Int)] 29)).alloc (.cells #[.int .u8 (K : Int), .int .u8 (B : Int), .int .u8 (P : Int), .int .u8 (Q : Int), .int .u16 (M : Int)] 34)).alloc (.cells #[.slice none 0 0, .int .u64 0] 29) := ⟨_, rfl⟩
  rw [← hW] at HD0
  have HWE := Lib.hid hW
  obtain ⟨x0, x1, x2, x3, x4⟩ := row5 (HD0.out.row (k := w.heap.size + 1) (x := #[.int .u8 (K : Int), .int .u8 (B : Int), .int .u8 (P : Int), .int .u8 (Q : Int), .int .u16 (M : Int)]) (t := 34) (by simp))
  obtain ⟨t0, t1, -⟩ := row2 HD0.out.r0
  have hws : w.heap.size + 2 < W.heap.size := (Array.getElem?_eq_some_iff.1 (HD0.out.row (k := w.heap.size + 2) (x := #[.slice none 0 0, .int .u64 0]) (t := 29) (by simp))).1
  rw [hW] at x0 x1 x2 x3 x4 t0 t1 hws
  obtain ⟨a, ha⟩ : ∃ a, a = pA P := ⟨_, rfl⟩
  obtain ⟨m, hm⟩ : ∃ m, m = pN P := ⟨_, rfl⟩
  obtain ⟨y, hy⟩ : ∃ y, y = B % 8 := ⟨_, rfl⟩
  obtain ⟨s, hs⟩ : ∃ s, s = Q % 4 := ⟨_, rfl⟩
  obtain ⟨nd, hnd⟩ : ∃ nd, nd = Q % 16 := ⟨_, rfl⟩
  obtain ⟨k0, hk0⟩ : ∃ k0, k0 = K % 11 := ⟨_, rfl⟩
  have CP : Hid (∀ W, Calls Try.prog 17 #[.int .u8 (P : Int)] W fun e w' => e = .returned (.agg #[.int .u32 (a : Int), .int .u8 (m : Int)]) ∧ Below W.heap.size W w') := Lib.hid fun W => by rw [ha, hm]; exact Src.prefix_n P h3 W
  have HPN : Hid (a < 4294967296 ∧ m < 256 ∧ Pre.right a m = true ∧ y < 16 ∧ nd < 16 ∧ s < 65536 ∧ now < 4000000000000000000) := Lib.hid ⟨by rw [ha]; exact pA_lt P, by rw [hm]; have := pN_le P; omega, by rw [ha, hm]; exact Src.p_right P, by omega, by omega, by omega, by omega⟩
  have hk1 : (K : Int) % 11 = (k0 : Int) := by omega
  have hk2 : (k0 : Int) < 7 := by omega
  have hk6 : ((k0 : Int) == 6) = true := by simp; omega
  have hby : (B : Int) % 8 = (y : Int) := by omega
  have hwy : IntKind.i64.wrap (y : Int) = (y : Int) := by rw [IntKind.wrap_i64]; omega
  have hwq : IntKind.u16.wrap (Q : Int) = (Q : Int) := by rw [IntKind.wrap_u16]; omega
  have hqs : (Q : Int) % 4 = (s : Int) := by omega
  have hqn : (Q : Int) % 16 = (nd : Int) := by omega
  have hwn : IntKind.i64.wrap (nd : Int) = (nd : Int) := by rw [IntKind.wrap_i64]; omega
  have hmet : ActD.met ⟨K, B, P, Q, M⟩ = 65535 := by unfold ActD.met; simp only; rw [if_pos hk]
  have hrts : ActD.rts ⟨K, B, P, Q, M⟩ now L = L.filter fun e => !(e.key == key a m y) := by unfold ActD.rts ActD.key; simp only; rw [if_pos (by omega), hmet, if_pos rfl, ha, hm, hy]
  have hlst : ActD.lst ⟨K, B, P, Q, M⟩ now l = wo (isOf a m y) l := by unfold ActD.lst; simp only; rw [if_pos (by omega), hmet, if_pos rfl, ha, hm, hy, List.append_nil]
  have htime : ActD.time ⟨K, B, P, Q, M⟩ now = now := by unfold ActD.time; simp only; rw [if_pos (by omega)]
  rw [hrts, hlst, htime]
  have hLl := hI.len
  have HI := Lib.hid (And.intro hI (And.intro h4 (And.intro h5 (And.intro hLl hlen))))
  clear hrts hlst htime hmet hk hy hs hnd hk0 ha hm hP hI hW hLl h4
  clear h5
  go_enter Try.func10, Try.ntmps10
  go_upto_region 3 with (go_at_call 17; (with_reducible refine (CP.out _).mono ?_); rintro en w3 ⟨rfl, B3⟩; rw [← HWE.out] at B3; have HD1 := Lib.hid ((HD0.out.step B3).step ((Below.refl _ _).alloc (Nat.le_refl _) (.cells #[.int .u32 (a : Int), .int .u8 (m : Int)] 39))); have HPR := Lib.hid (heap_alloc_new w3 (.cells #[.int .u32 (a : Int), .int .u8 (m : Int)] 39)); clear x0 x1 x2 x3 x4 t0 t1 hws)
  obtain ⟨x0, x1, x2, x3, x4⟩ := row5 (HD1.out.row (k := w.heap.size + 1) (x := #[.int .u8 (K : Int), .int .u8 (B : Int), .int .u8 (P : Int), .int .u8 (Q : Int), .int .u16 (M : Int)]) (t := 34) (by simp))
  obtain ⟨t0, t1, tf⟩ := row2 HD1.out.r0
  go_upto_region 12 with (fail)
  generalize w3.alloc _ = w4 at *
  generalize w3.heap.size = zp at *
  have HD2 := Lib.hid (HD1.out.add HPR.out (by decide) (by decide) (row_ne HPR.out HD1.out.r0 (by decide)))
  have HD3 := Lib.hid (HD2.out.step ((Below.refl _ _).alloc (Nat.le_refl _) (.cells #[.int .u16 (s : Int), .int .u16 (M : Int)] 41)))
  have HMR := Lib.hid (heap_alloc_new w4 (.cells #[.int .u16 (s : Int), .int .u16 (M : Int)] 41))
  have HSZ := Lib.hid HD1.out.f.size
  clear HD1 HD2 HPR
  go_upto_region 13 with (fail)
  clear x0 x1 x2 x3 x4 t0 t1 tf
  generalize w4.alloc _ = w5 at *
  generalize w4.heap.size = zm at *
  have hzm : zm < w5.heap.size := (Array.getElem?_eq_some_iff.1 HMR.out).1
  have FM : Fr (fun i => i = zm) w5 (w5.setCell ⟨zm, 1, none⟩ (.int .u16 65535)) := Fr.grown (Src.set_grown w5 ⟨zm, 1, none⟩ _) (fun k e => (Option.some.inj e).symm)
  have HMR2 := Lib.hid (setm HMR.out (.int .u16 65535))
  have HD4 := Lib.hid ((HD3.out.other HMR.out (by decide) (by decide) (by decide) (by simp) HSZ.out FM).add HMR2.out (by decide) (by decide) (row_ne HMR.out HD3.out.r0 (by decide)))
  obtain ⟨m0, m1, mf⟩ := row2 HMR.out
  clear FM
  go_upto_region 15 with (fail)
  clear m0 m1 mf
  generalize w5.setCell _ _ = w6 at *
  have hc26 : Calls Try.prog 26 #[.pointer (some ⟨q, 0, none⟩), .int .i64 (y : Int), .agg #[.int .u32 (a : Int), .int .u8 (m : Int)], .int .i64 (nd : Int), .agg #[.int .u16 (s : Int), .int .u16 65535], .int .u64 (now : Int)] w6 (MvSaid lo w6 q v (L.filter fun e => !(e.key == key a m y)) (.returned (.int .i64 0))) := tell_end w6 lo q v L HD4.out.p.r HI.out.1.up (by have := HI.out.2.2.2.1; have := HI.out.2.2.2.2; omega) HI.out.1.ok a m y nd s 65535 now HPN.out.1 HPN.out.2.1 HPN.out.2.2.1 HPN.out.2.2.2.1 HPN.out.2.2.2.2.1 HPN.out.2.2.2.2.2.1 HPN.out.2.2.2.2.2.2 rfl
  have HC := Lib.hid hc26
  clear hc26
  have HRW := Lib.hid (And.intro (HD4.out.row (k := zm) (x := #[.int .u16 (s : Int), .int .u16 65535]) (t := 41) (by simp)) (And.intro (HD4.out.row (k := zp) (x := #[.int .u32 (a : Int), .int .u8 (m : Int)]) (t := 39) (by simp)) (HD4.out.row (k := w.heap.size + 1) (x := #[.int .u8 (K : Int), .int .u8 (B : Int), .int .u8 (P : Int), .int .u8 (Q : Int), .int .u16 (M : Int)]) (t := 34) (by simp))))
  obtain ⟨m0, m1, mf⟩ := row2 HRW.out.1
  obtain ⟨p0, p1, pf⟩ := row2 HRW.out.2.1
  obtain ⟨x0, x1, x2, x3, x4⟩ := row5 HRW.out.2.2
  obtain ⟨t0, t1, tf⟩ := row2 HD4.out.r0
  go_upto_region 17 with (go_at_call 26; (with_reducible refine HC.out.mono ?_); rintro en w7 hmv; obtain ⟨v7, H7⟩ := HD4.out.mv hmv; obtain ⟨rfl, -⟩ := hmv; have HD5 := Lib.hid H7; clear H7)
  clear m0 m1 mf p0 p1 pf x0 x1 x2 x3 x4 t0 t1 tf HC HRW hzm
  have hws7 : w.heap.size + 2 < w7.heap.size := (Array.getElem?_eq_some_iff.1 (HD5.out.row (k := w.heap.size + 2) (x := #[.slice none 0 0, .int .u64 0]) (t := 29) (by simp))).1
  obtain ⟨t0, t1, tf⟩ := row2 HD5.out.r0
  obtain ⟨p0, p1, pf⟩ := row2 (HD5.out.row (k := zp) (x := #[.int .u32 (a : Int), .int .u8 (m : Int)]) (t := 39) (by simp))
  have HF := Lib.hid (lfind_any w7 A l.length c now l rfl (by have := HI.out.2.2.2.2; omega) HD5.out.esl.2.1 a m y)
  cases hany : l.any (isOf a m y) with
  | false =>
    have HV := Lib.hid (show wo (isOf a m y) l = l by unfold wo; rw [hany]; rfl)
    have hix : idxV (isOf a m y) l = -1 := by unfold idxV; rw [hany]; rfl
    rw [hix] at HF
    clear hix hany
    go_upto_region 20 with (go_at_call 12; (with_reducible refine HF.out.mono ?_); rintro en w8 ⟨rfl, B8⟩; have HD6 := Lib.hid (HD5.out.step B8); clear B8)
    clear t0 t1 tf p0 p1 pf hws7
    have hzmw : zm < w8.heap.size := (Array.getElem?_eq_some_iff.1 (HD6.out.row (k := zm) (x := #[.int .u16 (s : Int), .int .u16 65535]) (t := 41) (by simp))).1
    obtain ⟨m0, m1, mf⟩ := row2 (HD6.out.row (k := zm) (x := #[.int .u16 (s : Int), .int .u16 65535]) (t := 41) (by simp))
    obtain ⟨t0, t1, tf⟩ := row2 HD6.out.r0
    obtain ⟨s0, s1, sf⟩ := row2 (HD6.out.row (k := w.heap.size + 2) (x := #[.slice none 0 0, .int .u64 0]) (t := 29) (by simp))
    have hwsf : w.heap.size + 2 < _ := (Array.getElem?_eq_some_iff.1 (HD6.out.row (k := w.heap.size + 2) (x := #[.slice none 0 0, .int .u64 0]) (t := 29) (by simp))).1
    go_wp2
    exact bodyPost_ret (Src.results_ct rfl _ _ (w.heap.size + 2) 29 _ (0, 0) _ (.bool true) rfl rfl (Src.Tab_set2 (HD6.out.row (k := w.heap.size + 2) (x := #[.slice none 0 0, .int .u64 0]) (t := 29) (by simp)) _ _) Try.underlying29 rfl (by kernel_rfl)) rfl (by rw [HV.out]; exact HD6.out.fin (by simp))
  | true =>
    have hfl : l.findIdx (isOf a m y) < l.length := List.findIdx_lt_length_of_exists (by obtain ⟨x, h1, h2⟩ := List.any_eq_true.1 hany; exact ⟨x, h1, h2⟩)
    have hV0 : wo (isOf a m y) l = l.eraseIdx (l.findIdx (isOf a m y)) := by unfold wo; rw [hany]; rfl
    have hix : idxV (isOf a m y) l = (l.findIdx (isOf a m y) : Int) := by unfold idxV; rw [hany]; rfl
    obtain ⟨fi, hfi⟩ : ∃ fi, fi = l.findIdx (isOf a m y) := ⟨_, rfl⟩
    rw [hix, ← hfi] at HF
    rw [← hfi] at hV0 hfl
    have HV := Lib.hid hV0
    clear hix hany hfi hV0
    go_upto_region 18 with (go_at_call 12; (with_reducible refine HF.out.mono ?_); rintro en w8 ⟨rfl, B8⟩; have HD6 := Lib.hid (HD5.out.step B8); clear B8)
    clear t0 t1 tf p0 p1 pf hws7
    have hws8 : w.heap.size + 2 < w8.heap.size := (Array.getElem?_eq_some_iff.1 (HD6.out.row (k := w.heap.size + 2) (x := #[.slice none 0 0, .int .u64 0]) (t := 29) (by simp))).1
    obtain ⟨t0, t1, tf⟩ := row2 HD6.out.r0
    have HW := Lib.hid (without_any w8 A l.length c now l rfl (by have := HI.out.2.2.2.2; omega) HD6.out.esl.2.1 fi)
    go_upto_region 20 with (go_at_call 30; (with_reducible refine HW.out.mono ?_); rintro en w9 ⟨v9, rfl, O9, B9⟩; obtain ⟨A9, c9, hv9, -, -⟩ := O9.form; subst hv9; have HD7 := Lib.hid (HD6.out.put2 B9 O9 now); clear t0 t1 tf; obtain ⟨t0, t1, tf⟩ := row2 (brow B9 HD6.out.r0); have hws9 := Nat.lt_of_lt_of_le hws8 B9.size; clear O9 B9)
    clear t0 t1 tf hws8 hws9
    generalize (w9.setCell _ _).setCell _ _ = w10 at *
    have hle1 : (l.eraseIdx fi).length ≤ l.length := List.length_eraseIdx_le _ _
    have HLE2 := Lib.hid hle1
    clear hle1
    have hzmw : zm < w10.heap.size := (Array.getElem?_eq_some_iff.1 (HD7.out.row (k := zm) (x := #[.int .u16 (s : Int), .int .u16 65535]) (t := 41) (by simp))).1
    obtain ⟨m0, m1, mf⟩ := row2 (HD7.out.row (k := zm) (x := #[.int .u16 (s : Int), .int .u16 65535]) (t := 41) (by simp))
    obtain ⟨t0, t1, tf⟩ := row2 HD7.out.r0
    obtain ⟨s0, s1, sf⟩ := row2 (HD7.out.row (k := w.heap.size + 2) (x := #[.slice none 0 0, .int .u64 0]) (t := 29) (by simp))
    have hwsf : w.heap.size + 2 < _ := (Array.getElem?_eq_some_iff.1 (HD7.out.row (k := w.heap.size + 2) (x := #[.slice none 0 0, .int .u64 0]) (t := 29) (by simp))).1
    go_wp2
    exact bodyPost_ret (Src.results_ct rfl _ _ (w.heap.size + 2) 29 _ (0, 0) _ (.bool true) rfl rfl (Src.Tab_set2 (HD7.out.row (k := w.heap.size + 2) (x := #[.slice none 0 0, .int .u64 0]) (t := 29) (by simp)) _ _) Try.underlying29 rfl (by kernel_rfl)) rfl (by rw [HV.out]; exact HD7.out.fin (by simp))
set_option maxHeartbeats 8000000 in
theorem do_tellB (w : World) (lo q : Nat) (v : Value) (L l : List E) (A : Option Addr) (c n now : Nat) (d : ActD) (hn : n = l.length) (hP : PL lo w q L v (.slice A n c) l) (hI : Inv L l now) (hlen : n ≤ 100) (hd : d.Ok) (hnow : now < 1000000) (hk : d.K % 11 < 6) (hM : d.M = 65535) :
    Calls Try.prog 10 #[.pointer (some ⟨q, 0, none⟩), .agg #[.slice A n c, .int .u64 (now : Int)], .agg #[.int .u8 (d.K : Int), .int .u8 (d.B : Int), .int .u8 (d.P : Int), .int .u8 (d.Q : Int), .int .u16 (d.M : Int)]] w (DoSaid lo w q v (d.rts now L) (d.lst now l) (d.time now)) := by
  subst hn
  obtain ⟨K, B, P, Q, M⟩ := d
  obtain ⟨h1, h2, h3, h4, h5⟩ := hd
  simp only at h1 h2 h3 h4 h5 hk hM
  have HD0 := Lib.hid (DX.start (now := now) hP #[.int .u8 (K : Int), .int .u8 (B : Int), .int .u8 (P : Int), .int .u8 (Q : Int), .int .u16 (M : Int)])
  obtain ⟨W, hW⟩ : ∃ W, W = ((w.alloc (.cells #[.slice A l.length c, .int .u64 (now : Int)] 29)).alloc (.cells #[.int .u8 (K : Int), .int .u8 (B : Int), .int .u8 (P : Int), .int .u8 (Q : Int), .int .u16 (M : Int)] 34)).alloc (.cells #[.slice none 0 0, .int .u64 0] 29) := ⟨_, rfl⟩
  rw [← hW] at HD0
  have HWE := Lib.hid hW
  obtain ⟨x0, x1, x2, x3, x4⟩ := row5 (HD0.out.row (k := w.heap.size + 1) (x := #[.int .u8 (K : Int), .int .u8 (B : Int), .int .u8 (P : Int), .int .u8 (Q : Int), .int .u16 (M : Int)]) (t := 34) (by simp))
  obtain ⟨t0, t1, -⟩ := row2 HD0.out.r0
  have hws : w.heap.size + 2 < W.heap.size := (Array.getElem?_eq_some_iff.1 (HD0.out.row (k := w.heap.size + 2) (x := #[.slice none 0 0, .int .u64 0]) (t := 29) (by simp))).1
  rw [hW] at x0 x1 x2 x3 x4 t0 t1 hws
  obtain ⟨a, ha⟩ : ∃ a, a = pA P := ⟨_, rfl⟩
  obtain ⟨m, hm⟩ : ∃ m, m = pN P := ⟨_, rfl⟩
  obtain ⟨y, hy⟩ : ∃ y, y = B % 8 := ⟨_, rfl⟩
  obtain ⟨s, hs⟩ : ∃ s, s = Q % 4 := ⟨_, rfl⟩
  obtain ⟨nd, hnd⟩ : ∃ nd, nd = Q % 16 := ⟨_, rfl⟩
  obtain ⟨k0, hk0⟩ : ∃ k0, k0 = K % 11 := ⟨_, rfl⟩
  have CP : Hid (∀ W, Calls Try.prog 17 #[.int .u8 (P : Int)] W fun e w' => e = .returned (.agg #[.int .u32 (a : Int), .int .u8 (m : Int)]) ∧ Below W.heap.size W w') := Lib.hid fun W => by rw [ha, hm]; exact Src.prefix_n P h3 W
  have HPN : Hid (a < 4294967296 ∧ m < 256 ∧ Pre.right a m = true ∧ y < 16 ∧ nd < 16 ∧ s < 65536 ∧ now < 4000000000000000000) := Lib.hid ⟨by rw [ha]; exact pA_lt P, by rw [hm]; have := pN_le P; omega, by rw [ha, hm]; exact Src.p_right P, by omega, by omega, by omega, by omega⟩
  have hk1 : (K : Int) % 11 = (k0 : Int) := by omega
  have hk2 : (k0 : Int) < 7 := by omega
  have hk6 : ((k0 : Int) == 6) = false := by simp; omega
  have hby : (B : Int) % 8 = (y : Int) := by omega
  have hwy : IntKind.i64.wrap (y : Int) = (y : Int) := by rw [IntKind.wrap_i64]; omega
  have hwq : IntKind.u16.wrap (Q : Int) = (Q : Int) := by rw [IntKind.wrap_u16]; omega
  have hqs : (Q : Int) % 4 = (s : Int) := by omega
  have hqn : (Q : Int) % 16 = (nd : Int) := by omega
  have hwn : IntKind.i64.wrap (nd : Int) = (nd : Int) := by rw [IntKind.wrap_i64]; omega
  have hmet : ActD.met ⟨K, B, P, Q, M⟩ = M := by unfold ActD.met; simp only; rw [if_neg (by omega)]
  have hrts : ActD.rts ⟨K, B, P, Q, M⟩ now L = L.filter fun e => !(e.key == key a m y) := by unfold ActD.rts ActD.key; simp only; rw [if_pos (by omega), hmet, if_pos hM, ha, hm, hy]
  have hlst : ActD.lst ⟨K, B, P, Q, M⟩ now l = wo (isOf a m y) l := by unfold ActD.lst; simp only; rw [if_pos (by omega), hmet, if_pos hM, ha, hm, hy, List.append_nil]
  have htime : ActD.time ⟨K, B, P, Q, M⟩ now = now := by unfold ActD.time; simp only; rw [if_pos (by omega)]
  rw [hrts, hlst, htime]
  have hLl := hI.len
  have HI := Lib.hid (And.intro hI (And.intro h4 (And.intro h5 (And.intro hLl hlen))))
  clear hrts hlst htime hmet hk hy hs hnd hk0 ha hm hP hI hW hLl h4
  have HM := Lib.hid hM; clear hM
  go_enter Try.func10, Try.ntmps10
  go_upto_region 3 with (go_at_call 17; (with_reducible refine (CP.out _).mono ?_); rintro en w3 ⟨rfl, B3⟩; rw [← HWE.out] at B3; have HD1 := Lib.hid ((HD0.out.step B3).step ((Below.refl _ _).alloc (Nat.le_refl _) (.cells #[.int .u32 (a : Int), .int .u8 (m : Int)] 39))); have HPR := Lib.hid (heap_alloc_new w3 (.cells #[.int .u32 (a : Int), .int .u8 (m : Int)] 39)); clear x0 x1 x2 x3 x4 t0 t1 hws)
  obtain ⟨x0, x1, x2, x3, x4⟩ := row5 (HD1.out.row (k := w.heap.size + 1) (x := #[.int .u8 (K : Int), .int .u8 (B : Int), .int .u8 (P : Int), .int .u8 (Q : Int), .int .u16 (M : Int)]) (t := 34) (by simp))
  obtain ⟨t0, t1, tf⟩ := row2 HD1.out.r0
  go_upto_region 12 with (fail)
  generalize w3.alloc _ = w4 at *
  generalize w3.heap.size = zp at *
  have HD2 := Lib.hid (HD1.out.add HPR.out (by decide) (by decide) (row_ne HPR.out HD1.out.r0 (by decide)))
  have HD3 := Lib.hid (HD2.out.step ((Below.refl _ _).alloc (Nat.le_refl _) (.cells #[.int .u16 (s : Int), .int .u16 (M : Int)] 41)))
  have HMR := Lib.hid (heap_alloc_new w4 (.cells #[.int .u16 (s : Int), .int .u16 (M : Int)] 41))
  have HSZ := Lib.hid HD1.out.f.size
  clear HD1 HD2 HPR
  go_upto_region 13 with (fail)
  clear x0 x1 x2 x3 x4 t0 t1 tf
  generalize w4.alloc _ = w5 at *
  generalize w4.heap.size = zm at *
  have hzm : zm < w5.heap.size := (Array.getElem?_eq_some_iff.1 HMR.out).1
  have HD4 := Lib.hid (HD3.out.add HMR.out (by decide) (by decide) (row_ne HMR.out HD3.out.r0 (by decide)))
  go_upto_region 15 with (fail)
  have HMR2 := HMR
  have hc26 : Calls Try.prog 26 #[.pointer (some ⟨q, 0, none⟩), .int .i64 (y : Int), .agg #[.int .u32 (a : Int), .int .u8 (m : Int)], .int .i64 (nd : Int), .agg #[.int .u16 (s : Int), .int .u16 (M : Int)], .int .u64 (now : Int)] w5 (MvSaid lo w5 q v (L.filter fun e => !(e.key == key a m y)) (.returned (.int .i64 0))) := tell_end w5 lo q v L HD4.out.p.r HI.out.1.up (by have := HI.out.2.2.2.1; have := HI.out.2.2.2.2; omega) HI.out.1.ok a m y nd s M now HPN.out.1 HPN.out.2.1 HPN.out.2.2.1 HPN.out.2.2.2.1 HPN.out.2.2.2.2.1 HPN.out.2.2.2.2.2.1 HPN.out.2.2.2.2.2.2 HM.out
  have HC := Lib.hid hc26
  clear hc26
  have HRW := Lib.hid (And.intro (HD4.out.row (k := zm) (x := #[.int .u16 (s : Int), .int .u16 (M : Int)]) (t := 41) (by simp)) (And.intro (HD4.out.row (k := zp) (x := #[.int .u32 (a : Int), .int .u8 (m : Int)]) (t := 39) (by simp)) (HD4.out.row (k := w.heap.size + 1) (x := #[.int .u8 (K : Int), .int .u8 (B : Int), .int .u8 (P : Int), .int .u8 (Q : Int), .int .u16 (M : Int)]) (t := 34) (by simp))))
  obtain ⟨m0, m1, mf⟩ := row2 HRW.out.1
  obtain ⟨p0, p1, pf⟩ := row2 HRW.out.2.1
  obtain ⟨x0, x1, x2, x3, x4⟩ := row5 HRW.out.2.2
  obtain ⟨t0, t1, tf⟩ := row2 HD4.out.r0
  go_upto_region 17 with (go_at_call 26; (with_reducible refine HC.out.mono ?_); rintro en w7 hmv; obtain ⟨v7, H7⟩ := HD4.out.mv hmv; obtain ⟨rfl, -⟩ := hmv; have HD5 := Lib.hid H7; clear H7)
  clear m0 m1 mf p0 p1 pf x0 x1 x2 x3 x4 t0 t1 tf HC HRW hzm
  have hws7 : w.heap.size + 2 < w7.heap.size := (Array.getElem?_eq_some_iff.1 (HD5.out.row (k := w.heap.size + 2) (x := #[.slice none 0 0, .int .u64 0]) (t := 29) (by simp))).1
  obtain ⟨t0, t1, tf⟩ := row2 HD5.out.r0
  obtain ⟨p0, p1, pf⟩ := row2 (HD5.out.row (k := zp) (x := #[.int .u32 (a : Int), .int .u8 (m : Int)]) (t := 39) (by simp))
  have HF := Lib.hid (lfind_any w7 A l.length c now l rfl (by have := HI.out.2.2.2.2; omega) HD5.out.esl.2.1 a m y)
  cases hany : l.any (isOf a m y) with
  | false =>
    have HV := Lib.hid (show wo (isOf a m y) l = l by unfold wo; rw [hany]; rfl)
    have hix : idxV (isOf a m y) l = -1 := by unfold idxV; rw [hany]; rfl
    rw [hix] at HF
    clear hix hany
    go_upto_region 20 with (go_at_call 12; (with_reducible refine HF.out.mono ?_); rintro en w8 ⟨rfl, B8⟩; have HD6 := Lib.hid (HD5.out.step B8); clear B8)
    clear t0 t1 tf p0 p1 pf hws7
    have hzmw : zm < w8.heap.size := (Array.getElem?_eq_some_iff.1 (HD6.out.row (k := zm) (x := #[.int .u16 (s : Int), .int .u16 (M : Int)]) (t := 41) (by simp))).1
    obtain ⟨m0, m1, mf⟩ := row2 (HD6.out.row (k := zm) (x := #[.int .u16 (s : Int), .int .u16 (M : Int)]) (t := 41) (by simp))
    have hM2 : ((M : Int) != 65535) = false := by have := HM.out; simp; omega
    obtain ⟨t0, t1, tf⟩ := row2 HD6.out.r0
    obtain ⟨s0, s1, sf⟩ := row2 (HD6.out.row (k := w.heap.size + 2) (x := #[.slice none 0 0, .int .u64 0]) (t := 29) (by simp))
    have hwsf : w.heap.size + 2 < _ := (Array.getElem?_eq_some_iff.1 (HD6.out.row (k := w.heap.size + 2) (x := #[.slice none 0 0, .int .u64 0]) (t := 29) (by simp))).1
    go_wp2
    exact bodyPost_ret (Src.results_ct rfl _ _ (w.heap.size + 2) 29 _ (0, 0) _ (.bool true) rfl rfl (Src.Tab_set2 (HD6.out.row (k := w.heap.size + 2) (x := #[.slice none 0 0, .int .u64 0]) (t := 29) (by simp)) _ _) Try.underlying29 rfl (by kernel_rfl)) rfl (by rw [HV.out]; exact HD6.out.fin (by simp))
  | true =>
    have hfl : l.findIdx (isOf a m y) < l.length := List.findIdx_lt_length_of_exists (by obtain ⟨x, h1, h2⟩ := List.any_eq_true.1 hany; exact ⟨x, h1, h2⟩)
    have hV0 : wo (isOf a m y) l = l.eraseIdx (l.findIdx (isOf a m y)) := by unfold wo; rw [hany]; rfl
    have hix : idxV (isOf a m y) l = (l.findIdx (isOf a m y) : Int) := by unfold idxV; rw [hany]; rfl
    obtain ⟨fi, hfi⟩ : ∃ fi, fi = l.findIdx (isOf a m y) := ⟨_, rfl⟩
    rw [hix, ← hfi] at HF
    rw [← hfi] at hV0 hfl
    have HV := Lib.hid hV0
    clear hix hany hfi hV0
    go_upto_region 18 with (go_at_call 12; (with_reducible refine HF.out.mono ?_); rintro en w8 ⟨rfl, B8⟩; have HD6 := Lib.hid (HD5.out.step B8); clear B8)
    clear t0 t1 tf p0 p1 pf hws7
    have hws8 : w.heap.size + 2 < w8.heap.size := (Array.getElem?_eq_some_iff.1 (HD6.out.row (k := w.heap.size + 2) (x := #[.slice none 0 0, .int .u64 0]) (t := 29) (by simp))).1
    obtain ⟨t0, t1, tf⟩ := row2 HD6.out.r0
    have HW := Lib.hid (without_any w8 A l.length c now l rfl (by have := HI.out.2.2.2.2; omega) HD6.out.esl.2.1 fi)
    go_upto_region 20 with (go_at_call 30; (with_reducible refine HW.out.mono ?_); rintro en w9 ⟨v9, rfl, O9, B9⟩; obtain ⟨A9, c9, hv9, -, -⟩ := O9.form; subst hv9; have HD7 := Lib.hid (HD6.out.put2 B9 O9 now); clear t0 t1 tf; obtain ⟨t0, t1, tf⟩ := row2 (brow B9 HD6.out.r0); have hws9 := Nat.lt_of_lt_of_le hws8 B9.size; clear O9 B9)
    clear t0 t1 tf hws8 hws9
    generalize (w9.setCell _ _).setCell _ _ = w10 at *
    have hle1 : (l.eraseIdx fi).length ≤ l.length := List.length_eraseIdx_le _ _
    have HLE2 := Lib.hid hle1
    clear hle1
    have hzmw : zm < w10.heap.size := (Array.getElem?_eq_some_iff.1 (HD7.out.row (k := zm) (x := #[.int .u16 (s : Int), .int .u16 (M : Int)]) (t := 41) (by simp))).1
    obtain ⟨m0, m1, mf⟩ := row2 (HD7.out.row (k := zm) (x := #[.int .u16 (s : Int), .int .u16 (M : Int)]) (t := 41) (by simp))
    have hM2 : ((M : Int) != 65535) = false := by have := HM.out; simp; omega
    obtain ⟨t0, t1, tf⟩ := row2 HD7.out.r0
    obtain ⟨s0, s1, sf⟩ := row2 (HD7.out.row (k := w.heap.size + 2) (x := #[.slice none 0 0, .int .u64 0]) (t := 29) (by simp))
    have hwsf : w.heap.size + 2 < _ := (Array.getElem?_eq_some_iff.1 (HD7.out.row (k := w.heap.size + 2) (x := #[.slice none 0 0, .int .u64 0]) (t := 29) (by simp))).1
    go_wp2
    exact bodyPost_ret (Src.results_ct rfl _ _ (w.heap.size + 2) 29 _ (0, 0) _ (.bool true) rfl rfl (Src.Tab_set2 (HD7.out.row (k := w.heap.size + 2) (x := #[.slice none 0 0, .int .u64 0]) (t := 29) (by simp)) _ _) Try.underlying29 rfl (by kernel_rfl)) rfl (by rw [HV.out]; exact HD7.out.fin (by simp))
set_option maxHeartbeats 8000000 in
theorem do_tellC (w : World) (lo q : Nat) (v : Value) (L l : List E) (A : Option Addr) (c n now : Nat) (d : ActD) (hn : n = l.length) (hP : PL lo w q L v (.slice A n c) l) (hI : Inv L l now) (hlen : n ≤ 100) (hd : d.Ok) (hnow : now < 1000000) (hk : d.K % 11 < 6) (hM : d.M < 65535) :
    Calls Try.prog 10 #[.pointer (some ⟨q, 0, none⟩), .agg #[.slice A n c, .int .u64 (now : Int)], .agg #[.int .u8 (d.K : Int), .int .u8 (d.B : Int), .int .u8 (d.P : Int), .int .u8 (d.Q : Int), .int .u16 (d.M : Int)]] w (DoSaid lo w q v (d.rts now L) (d.lst now l) (d.time now)) := by
  subst hn
  obtain ⟨K, B, P, Q, M⟩ := d
  obtain ⟨h1, h2, h3, h4, h5⟩ := hd
  simp only at h1 h2 h3 h4 h5 hk hM
  have HD0 := Lib.hid (DX.start (now := now) hP #[.int .u8 (K : Int), .int .u8 (B : Int), .int .u8 (P : Int), .int .u8 (Q : Int), .int .u16 (M : Int)])
  obtain ⟨W, hW⟩ : ∃ W, W = ((w.alloc (.cells #[.slice A l.length c, .int .u64 (now : Int)] 29)).alloc (.cells #[.int .u8 (K : Int), .int .u8 (B : Int), .int .u8 (P : Int), .int .u8 (Q : Int), .int .u16 (M : Int)] 34)).alloc (.cells #[.slice none 0 0, .int .u64 0] 29) := ⟨_, rfl⟩
  rw [← hW] at HD0
  have HWE := Lib.hid hW
  obtain ⟨x0, x1, x2, x3, x4⟩ := row5 (HD0.out.row (k := w.heap.size + 1) (x := #[.int .u8 (K : Int), .int .u8 (B : Int), .int .u8 (P : Int), .int .u8 (Q : Int), .int .u16 (M : Int)]) (t := 34) (by simp))
  obtain ⟨t0, t1, -⟩ := row2 HD0.out.r0
  have hws : w.heap.size + 2 < W.heap.size := (Array.getElem?_eq_some_iff.1 (HD0.out.row (k := w.heap.size + 2) (x := #[.slice none 0 0, .int .u64 0]) (t := 29) (by simp))).1
  rw [hW] at x0 x1 x2 x3 x4 t0 t1 hws
  obtain ⟨a, ha⟩ : ∃ a, a = pA P := ⟨_, rfl⟩
  obtain ⟨m, hm⟩ : ∃ m, m = pN P := ⟨_, rfl⟩
  obtain ⟨y, hy⟩ : ∃ y, y = B % 8 := ⟨_, rfl⟩
  obtain ⟨s, hs⟩ : ∃ s, s = Q % 4 := ⟨_, rfl⟩
  obtain ⟨nd, hnd⟩ : ∃ nd, nd = Q % 16 := ⟨_, rfl⟩
  obtain ⟨k0, hk0⟩ : ∃ k0, k0 = K % 11 := ⟨_, rfl⟩
  have CP : Hid (∀ W, Calls Try.prog 17 #[.int .u8 (P : Int)] W fun e w' => e = .returned (.agg #[.int .u32 (a : Int), .int .u8 (m : Int)]) ∧ Below W.heap.size W w') := Lib.hid fun W => by rw [ha, hm]; exact Src.prefix_n P h3 W
  have HPN : Hid (a < 4294967296 ∧ m < 256 ∧ Pre.right a m = true ∧ y < 16 ∧ nd < 16 ∧ s < 65536 ∧ now < 4000000000000000000) := Lib.hid ⟨by rw [ha]; exact pA_lt P, by rw [hm]; have := pN_le P; omega, by rw [ha, hm]; exact Src.p_right P, by omega, by omega, by omega, by omega⟩
  have hk1 : (K : Int) % 11 = (k0 : Int) := by omega
  have hk2 : (k0 : Int) < 7 := by omega
  have hk6 : ((k0 : Int) == 6) = false := by simp; omega
  have hby : (B : Int) % 8 = (y : Int) := by omega
  have hwy : IntKind.i64.wrap (y : Int) = (y : Int) := by rw [IntKind.wrap_i64]; omega
  have hwq : IntKind.u16.wrap (Q : Int) = (Q : Int) := by rw [IntKind.wrap_u16]; omega
  have hqs : (Q : Int) % 4 = (s : Int) := by omega
  have hqn : (Q : Int) % 16 = (nd : Int) := by omega
  have hwn : IntKind.i64.wrap (nd : Int) = (nd : Int) := by rw [IntKind.wrap_i64]; omega
  have hmet : ActD.met ⟨K, B, P, Q, M⟩ = M := by unfold ActD.met; simp only; rw [if_neg (by omega)]
  have hrts : ActD.rts ⟨K, B, P, Q, M⟩ now L = putE L ⟨a, m, y, nd, s, M, now + 50⟩ := by unfold ActD.rts ActD.e; simp only; rw [if_pos (by omega), hmet, if_neg (by omega), ha, hm, hy, hs, hnd]
  have hlst : ActD.lst ⟨K, B, P, Q, M⟩ now l = wo (isOf a m y) l ++ [⟨a, m, y, nd, s, M, now + 50⟩] := by unfold ActD.lst ActD.e; simp only; rw [if_pos (by omega), hmet, if_neg (by omega), ha, hm, hy, hs, hnd]
  have htime : ActD.time ⟨K, B, P, Q, M⟩ now = now := by unfold ActD.time; simp only; rw [if_pos (by omega)]
  rw [hrts, hlst, htime]
  have hLl := hI.len
  have HI := Lib.hid (And.intro hI (And.intro h4 (And.intro h5 (And.intro hLl hlen))))
  clear hrts hlst htime hmet hk hy hs hnd hk0 ha hm hP hI hW hLl h4
  have HM := Lib.hid hM; clear hM
  go_enter Try.func10, Try.ntmps10
  go_upto_region 3 with (go_at_call 17; (with_reducible refine (CP.out _).mono ?_); rintro en w3 ⟨rfl, B3⟩; rw [← HWE.out] at B3; have HD1 := Lib.hid ((HD0.out.step B3).step ((Below.refl _ _).alloc (Nat.le_refl _) (.cells #[.int .u32 (a : Int), .int .u8 (m : Int)] 39))); have HPR := Lib.hid (heap_alloc_new w3 (.cells #[.int .u32 (a : Int), .int .u8 (m : Int)] 39)); clear x0 x1 x2 x3 x4 t0 t1 hws)
  obtain ⟨x0, x1, x2, x3, x4⟩ := row5 (HD1.out.row (k := w.heap.size + 1) (x := #[.int .u8 (K : Int), .int .u8 (B : Int), .int .u8 (P : Int), .int .u8 (Q : Int), .int .u16 (M : Int)]) (t := 34) (by simp))
  obtain ⟨t0, t1, tf⟩ := row2 HD1.out.r0
  go_upto_region 12 with (fail)
  generalize w3.alloc _ = w4 at *
  generalize w3.heap.size = zp at *
  have HD2 := Lib.hid (HD1.out.add HPR.out (by decide) (by decide) (row_ne HPR.out HD1.out.r0 (by decide)))
  have HD3 := Lib.hid (HD2.out.step ((Below.refl _ _).alloc (Nat.le_refl _) (.cells #[.int .u16 (s : Int), .int .u16 (M : Int)] 41)))
  have HMR := Lib.hid (heap_alloc_new w4 (.cells #[.int .u16 (s : Int), .int .u16 (M : Int)] 41))
  have HSZ := Lib.hid HD1.out.f.size
  clear HD1 HD2 HPR
  go_upto_region 13 with (fail)
  clear x0 x1 x2 x3 x4 t0 t1 tf
  generalize w4.alloc _ = w5 at *
  generalize w4.heap.size = zm at *
  have hzm : zm < w5.heap.size := (Array.getElem?_eq_some_iff.1 HMR.out).1
  have HD4 := Lib.hid (HD3.out.add HMR.out (by decide) (by decide) (row_ne HMR.out HD3.out.r0 (by decide)))
  go_upto_region 15 with (fail)
  have HMR2 := HMR
  have hc26 : Calls Try.prog 26 #[.pointer (some ⟨q, 0, none⟩), .int .i64 (y : Int), .agg #[.int .u32 (a : Int), .int .u8 (m : Int)], .int .i64 (nd : Int), .agg #[.int .u16 (s : Int), .int .u16 (M : Int)], .int .u64 (now : Int)] w5 (MvSaid lo w5 q v (putE L ⟨a, m, y, nd, s, M, now + 50⟩) (.returned (.int .i64 0))) := tell_put w5 lo q v L HD4.out.p.r HI.out.1.up (by have := HI.out.2.2.2.1; have := HI.out.2.2.2.2; omega) HI.out.1.ok a m y nd s M now HPN.out.1 HPN.out.2.1 HPN.out.2.2.1 HPN.out.2.2.2.1 HPN.out.2.2.2.2.1 HPN.out.2.2.2.2.2.1 HPN.out.2.2.2.2.2.2 HM.out
  have HC := Lib.hid hc26
  clear hc26
  have HRW := Lib.hid (And.intro (HD4.out.row (k := zm) (x := #[.int .u16 (s : Int), .int .u16 (M : Int)]) (t := 41) (by simp)) (And.intro (HD4.out.row (k := zp) (x := #[.int .u32 (a : Int), .int .u8 (m : Int)]) (t := 39) (by simp)) (HD4.out.row (k := w.heap.size + 1) (x := #[.int .u8 (K : Int), .int .u8 (B : Int), .int .u8 (P : Int), .int .u8 (Q : Int), .int .u16 (M : Int)]) (t := 34) (by simp))))
  obtain ⟨m0, m1, mf⟩ := row2 HRW.out.1
  obtain ⟨p0, p1, pf⟩ := row2 HRW.out.2.1
  obtain ⟨x0, x1, x2, x3, x4⟩ := row5 HRW.out.2.2
  obtain ⟨t0, t1, tf⟩ := row2 HD4.out.r0
  go_upto_region 17 with (go_at_call 26; (with_reducible refine HC.out.mono ?_); rintro en w7 hmv; obtain ⟨v7, H7⟩ := HD4.out.mv hmv; obtain ⟨rfl, -⟩ := hmv; have HD5 := Lib.hid H7; clear H7)
  clear m0 m1 mf p0 p1 pf x0 x1 x2 x3 x4 t0 t1 tf HC HRW hzm
  have hws7 : w.heap.size + 2 < w7.heap.size := (Array.getElem?_eq_some_iff.1 (HD5.out.row (k := w.heap.size + 2) (x := #[.slice none 0 0, .int .u64 0]) (t := 29) (by simp))).1
  obtain ⟨t0, t1, tf⟩ := row2 HD5.out.r0
  obtain ⟨p0, p1, pf⟩ := row2 (HD5.out.row (k := zp) (x := #[.int .u32 (a : Int), .int .u8 (m : Int)]) (t := 39) (by simp))
  have HF := Lib.hid (lfind_any w7 A l.length c now l rfl (by have := HI.out.2.2.2.2; omega) HD5.out.esl.2.1 a m y)
  cases hany : l.any (isOf a m y) with
  | false =>
    have HV := Lib.hid (show wo (isOf a m y) l = l by unfold wo; rw [hany]; rfl)
    have hix : idxV (isOf a m y) l = -1 := by unfold idxV; rw [hany]; rfl
    rw [hix] at HF
    clear hix hany
    go_upto_region 20 with (go_at_call 12; (with_reducible refine HF.out.mono ?_); rintro en w8 ⟨rfl, B8⟩; have HD6 := Lib.hid (HD5.out.step B8); clear B8)
    clear t0 t1 tf p0 p1 pf hws7
    have hzmw : zm < w8.heap.size := (Array.getElem?_eq_some_iff.1 (HD6.out.row (k := zm) (x := #[.int .u16 (s : Int), .int .u16 (M : Int)]) (t := 41) (by simp))).1
    obtain ⟨m0, m1, mf⟩ := row2 (HD6.out.row (k := zm) (x := #[.int .u16 (s : Int), .int .u16 (M : Int)]) (t := 41) (by simp))
    have hM2 : ((M : Int) != 65535) = true := by have := HM.out; simp; omega
    have hM3 : ¬ ((M : Int) = 65535) := by have := HM.out; omega
    go_upto_region 21 with (fail)
    clear m0 m1 mf hzmw hM2 hM3
    have HQ1 := HD6
    have HSL := Lib.hid HD6.out.esl.2.1
    have HNL := Lib.hid HD6.out.esl.2.2
    have HLE : Hid ((l).length ≤ 1000) := Lib.hid (by have := HI.out.2.2.2.2; omega)
    have HNE := Lib.hid (And.intro (HD6.out.rows (zp, #[.int .u32 (a : Int), .int .u8 (m : Int)], 39) (by simp)).2.2.2 (HD6.out.rows (zm, #[.int .u16 (s : Int), .int .u16 (M : Int)], 41) (by simp)).2.2.2)
    obtain ⟨T5, hT5⟩ : ∃ T5, T5 = now + 50 := ⟨_, rfl⟩
    have HLST := Lib.hid (show (l) ++ [(⟨a, m, y, nd, s, M, T5⟩ : E)] = wo (isOf a m y) l ++ [⟨a, m, y, nd, s, M, now + 50⟩] by rw [HV.out, hT5])
    have hwt : IntKind.u64.wrap ((now : Int) + 50) = (T5 : Int) := by rw [IntKind.wrap_u64]; have := HPN.out.2.2.2.2.2.2; omega
    clear hT5
    replace HQ1 := Lib.hid (HQ1.out.step ((Below.refl w8.heap.size w8).drew))
    replace HSL := Lib.hid (HSL.out.below ((Below.refl w8.heap.size w8).drew))
    have HX1 := Lib.hid (HQ1.out.row (k := w.heap.size + 1) (x := #[.int .u8 (K : Int), .int .u8 (B : Int), .int .u8 (P : Int), .int .u8 (Q : Int), .int .u16 (M : Int)]) (t := 34) (by simp))
    have HXN := Lib.hid (show ¬ w.heap.size + 1 = w.heap.size by omega)
    have HQT : Hid ((Q : Int).tmod 16 = (nd : Int)) := Lib.hid (by rw [Int.tmod_eq_emod_of_nonneg (by omega)]; exact hqn)
    refine wp_region_noPanic ?_
    refine wp_region_held_drew (S := fun y : World => Fr (fun k => k = w.heap.size) w8.drew y ∧ ∃ u, y.heap[w.heap.size]? = some (.cells #[u, .int .u64 (now : Int)] 29 (0, 0))) (by kernel_rfl) ⟨Fr.refl _ _, _, HQ1.out.r0⟩ (fun hHeld => ?_)
    generalize w8.drew = wz at *
    refine wpAnyH_take (i := 0) (oi := { dst := some 95, op := Op.fieldAddr 29 (Operand.tmp 4) 0, type := 0, pos := "law.go:89", after := #[], guard := none }) (v := .pointer (some ⟨w.heap.size, 0, none⟩)) rfl (by kernel_rfl) (by kernel_rfl) (by kernel_rfl) (fun _ _ _ h => h) (Or.inl ⟨by rfl, fun w hSw => by go_simp⟩) (by assumption) ?_
    try simp only [Act.put, List.setIfInBounds_toArray, List.set_cons_zero, List.set_cons_succ]
    refine wpAnyH_take (i := 3) (oi := { dst := some 98, op := Op.load 39 (Operand.tmp 9), type := 39, pos := "law.go:89", after := #[], guard := none }) (v := .agg #[.int .u32 (a : Int), .int .u8 (m : Int)]) rfl (by kernel_rfl) (by kernel_rfl) (by kernel_rfl) (fun _ _ _ h => h) (Or.inl ⟨by rfl, fun w hSw => by obtain ⟨p0, p1, -⟩ := row2 (hSw.1.row (HQ1.out.row (k := zp) (x := #[.int .u32 (a : Int), .int .u8 (m : Int)]) (t := 39) (by simp)) (HNE.out.1)); go_simp⟩) (by assumption) ?_
    try simp only [Act.put, List.setIfInBounds_toArray, List.set_cons_zero, List.set_cons_succ]
    refine wpAnyH_take (i := 4) (oi := { dst := some 99, op := Op.move (Operand.tmp 8), type := 3, pos := "law.go:89", after := #[], guard := none }) (v := .int .i64 (y : Int)) rfl (by kernel_rfl) (by kernel_rfl) (by kernel_rfl) (fun _ _ _ h => h) (Or.inl ⟨by rfl, fun w hSw => by go_simp⟩) (by assumption) ?_
    try simp only [Act.put, List.setIfInBounds_toArray, List.set_cons_zero, List.set_cons_succ]
    refine wpAnyH_take (i := 5) (oi := { dst := some 100, op := Op.fieldAddr 34 (Operand.tmp 5) 3, type := 0, pos := "law.go:89", after := #[], guard := none }) (v := .pointer (some ⟨w.heap.size + 1, 3, none⟩)) rfl (by kernel_rfl) (by kernel_rfl) (by kernel_rfl) (fun _ _ _ h => h) (Or.inl ⟨by rfl, fun w hSw => by go_simp⟩) (by assumption) ?_
    try simp only [Act.put, List.setIfInBounds_toArray, List.set_cons_zero, List.set_cons_succ]
    refine wpAnyH_take (i := 6) (oi := { dst := some 101, op := Op.load 5 (Operand.tmp 100), type := 5, pos := "law.go:89", after := #[{ on := 5, ground := Ground.data }], guard := none }) (v := .int .u8 (Q : Int)) rfl (by kernel_rfl) (by kernel_rfl) (by kernel_rfl) (fun _ _ _ h => h) (Or.inl ⟨by rfl, fun w hSw => by obtain ⟨x0, x1, x2, x3, x4⟩ := row5 (hSw.1.row HX1.out HXN.out); go_simp⟩) (by assumption) ?_
    try simp only [Act.put, List.setIfInBounds_toArray, List.set_cons_zero, List.set_cons_succ]
    refine wpAnyH_take (i := 7) (oi := { dst := some 102, op := Op.binOp BinOp.rem 5 (Operand.tmp 101) (Operand.const (Value.int IntKind.u8 16)) 5, type := 5, pos := "law.go:89", after := #[{ on := 6, ground := Ground.data }], guard := none }) (v := .int .u8 (nd : Int)) rfl (by kernel_rfl) (by kernel_rfl) (by kernel_rfl) (fun _ _ _ h => h) (Or.inl ⟨by rfl, fun w hSw => by go_simp; exact HQT.out⟩) (by assumption) ?_
    try simp only [Act.put, List.setIfInBounds_toArray, List.set_cons_zero, List.set_cons_succ]
    refine wpAnyH_take (i := 8) (oi := { dst := some 103, op := Op.convert 5 3 (Operand.tmp 102), type := 3, pos := "law.go:89", after := #[{ on := 7, ground := Ground.data }], guard := none }) (v := .int .i64 (nd : Int)) rfl (by kernel_rfl) (by kernel_rfl) (by kernel_rfl) (fun _ _ _ h => h) (Or.inl ⟨by rfl, fun w hSw => by go_simp⟩) (by assumption) ?_
    try simp only [Act.put, List.setIfInBounds_toArray, List.set_cons_zero, List.set_cons_succ]
    refine wpAnyH_take (i := 9) (oi := { dst := some 104, op := Op.load 41 (Operand.tmp 11), type := 41, pos := "law.go:89", after := #[], guard := none }) (v := .agg #[.int .u16 (s : Int), .int .u16 (M : Int)]) rfl (by kernel_rfl) (by kernel_rfl) (by kernel_rfl) (fun _ _ _ h => h) (Or.inl ⟨by rfl, fun w hSw => by obtain ⟨p0, p1, -⟩ := row2 (hSw.1.row (HQ1.out.row (k := zm) (x := #[.int .u16 (s : Int), .int .u16 (M : Int)]) (t := 41) (by simp)) (HNE.out.2)); go_simp⟩) (by assumption) ?_
    try simp only [Act.put, List.setIfInBounds_toArray, List.set_cons_zero, List.set_cons_succ]
    refine wpAnyH_take (i := 10) (oi := { dst := some 105, op := Op.fieldAddr 29 (Operand.tmp 4) 1, type := 0, pos := "law.go:89", after := #[], guard := none }) (v := .pointer (some ⟨w.heap.size, 1, none⟩)) rfl (by kernel_rfl) (by kernel_rfl) (by kernel_rfl) (fun _ _ _ h => h) (Or.inl ⟨by rfl, fun w hSw => by go_simp⟩) (by assumption) ?_
    try simp only [Act.put, List.setIfInBounds_toArray, List.set_cons_zero, List.set_cons_succ]
    refine wpAnyH_take (i := 11) (oi := { dst := some 106, op := Op.load 27 (Operand.tmp 105), type := 27, pos := "law.go:89", after := #[{ on := 10, ground := Ground.data }], guard := none }) (v := .int .u64 (now : Int)) rfl (by kernel_rfl) (by kernel_rfl) (by kernel_rfl) (fun _ _ _ h => h) (Or.inl ⟨by rfl, fun w hSw => by obtain ⟨-, u, hu⟩ := hSw; obtain ⟨-, p1, -⟩ := row2 hu; go_simp⟩) (by assumption) ?_
    try simp only [Act.put, List.setIfInBounds_toArray, List.set_cons_zero, List.set_cons_succ]
    refine wpAnyH_take (i := 12) (oi := { dst := some 107, op := Op.binOp BinOp.add 27 (Operand.tmp 106) (Operand.const (Value.int IntKind.u64 50)) 27, type := 27, pos := "law.go:89", after := #[{ on := 11, ground := Ground.data }], guard := none }) (v := .int .u64 (T5 : Int)) rfl (by kernel_rfl) (by kernel_rfl) (by kernel_rfl) (fun _ _ _ h => h) (Or.inl ⟨by rfl, fun w hSw => by go_simp⟩) (by assumption) ?_
    try simp only [Act.put, List.setIfInBounds_toArray, List.set_cons_zero, List.set_cons_succ]
    refine wpAnyH_take (i := 13) (oi := { dst := some 108, op := Op.build 43 #[(0, Operand.tmp 98), (1, Operand.tmp 99), (2, Operand.tmp 103), (3, Operand.tmp 104), (4, Operand.tmp 107)], type := 43, pos := "law.go:89", after := #[{ on := 3, ground := Ground.data }, { on := 4, ground := Ground.data }, { on := 8, ground := Ground.data }, { on := 9, ground := Ground.data }, { on := 12, ground := Ground.data }], guard := none }) (v := .agg #[.int .u32 (a : Int), .int .u8 (m : Int), .int .i64 (y : Int), .int .i64 (nd : Int), .int .u16 (s : Int), .int .u16 (M : Int), .int .u64 (T5 : Int)]) rfl (by kernel_rfl) (by kernel_rfl) (by kernel_rfl) (fun _ _ _ h => h) (Or.inl ⟨by rfl, fun w hSw => by go_simp⟩) (by assumption) ?_
    try simp only [Act.put, List.setIfInBounds_toArray, List.set_cons_zero, List.set_cons_succ]
    have HB := Lib.hid (Below.refl wz.heap.size wz)
    refine wpAnyH_ready (rs := [1, 14]) (by kernel_rfl) (by simp) ?_
    refine (AllReadyH.cons (o := { dst := some 96, op := Op.load 26 (Operand.tmp 95), type := 26, pos := "law.go:89", after := #[{ on := 0, ground := Ground.data }], guard := none }) rfl (fun K hK => ?_) (AllReadyH.cons (o := { dst := some 109, op := Op.buildSlice 26 1 #[(0, Operand.tmp 108)], type := 26, pos := "law.go:89", after := #[{ on := 13, ground := Ground.data }], guard := none }) rfl (fun K hK => ?_) AllReadyH.nil))
    · obtain ⟨t0, t1, -⟩ := row2 (brow HB.out HQ1.out.r0)
      go_simp
      have hS2 := hHeld
      refine hK.out _ _ hS2 (fun hHeld2 => ?_)
      clear hK K hHeld hS2
      have hHeld := hHeld2
      clear hHeld2
      try simp only [Act.put, List.setIfInBounds_toArray, List.set_cons_zero, List.set_cons_succ]
      clear t0 t1
      refine wpAnyH_ready (rs := [2, 14]) (by kernel_rfl) (by simp) ?_
      refine (AllReadyH.cons (o := { dst := some 97, op := Op.call { callee := Callee.builtin Builtin.append, args := #[Operand.const (Value.slice none 0 0), Operand.tmp 96], argTypes := #[26, 26] }, type := 26, pos := "law.go:89", after := #[{ on := 1, ground := Ground.data }], guard := none }) rfl (fun K hK => ?_) (AllReadyH.cons (o := { dst := some 109, op := Op.buildSlice 26 1 #[(0, Operand.tmp 108)], type := 26, pos := "law.go:89", after := #[{ on := 13, ground := Ground.data }], guard := none }) rfl (fun K hK => ?_) AllReadyH.nil))
      · obtain ⟨v2, w2, hrun2, O2, Bx⟩ := app_nil_run wz A (l).length c (l) rfl (HSL.out.below HB.out) HNL.out HLE.out
        refine Lib.wp_append_run _ (.const (.slice none 0 0)) (.tmp 96) 26 26 rfl _ _ rfl rfl _ _ hrun2 ?_
        have HO := Lib.hid (own_mono O2 HB.out.size)
        obtain ⟨A9, c9, hv9, -, -⟩ := O2.form
        replace HB := Lib.hid (HB.out.trans (Bx.mono HB.out.size))
        try replace HBX := Lib.hid (brow Bx HBX.out)
        have hS2 := And.intro (hHeld.1.step Bx) (hHeld.2.imp fun _ h => brow Bx h)
        subst hv9
        clear O2 Bx hrun2
        refine hK.out _ _ hS2 (fun hHeld2 => ?_)
        clear hK K hHeld hS2
        have hHeld := hHeld2
        clear hHeld2
        try simp only [Act.put, List.setIfInBounds_toArray, List.set_cons_zero, List.set_cons_succ]
        refine wpAnyH_ready (rs := [14]) (by kernel_rfl) (by simp) ?_
        refine (AllReadyH.cons (o := { dst := some 109, op := Op.buildSlice 26 1 #[(0, Operand.tmp 108)], type := 26, pos := "law.go:89", after := #[{ on := 13, ground := Ground.data }], guard := none }) rfl (fun K hK => ?_) AllReadyH.nil)
        go_simp
        have Bx := (Below.refl w2.heap.size w2).alloc (Nat.le_refl _) (.cells #[.int .u32 (a : Int), .int .u8 (m : Int), .int .i64 (y : Int), .int .i64 (nd : Int), .int .u16 (s : Int), .int .u16 (M : Int), .int .u64 (T5 : Int)] 43)
        have HBX := Lib.hid (heap_alloc_new w2 (.cells #[.int .u32 (a : Int), .int .u8 (m : Int), .int .i64 (y : Int), .int .i64 (nd : Int), .int .u16 (s : Int), .int .u16 (M : Int), .int .u64 (T5 : Int)] 43))
        try replace HO := Lib.hid (HO.out.kept Bx)
        replace HB := Lib.hid (HB.out.trans (Bx.mono HB.out.size))
        have hS2 := And.intro (hHeld.1.step Bx) (hHeld.2.imp fun _ h => brow Bx h)
        clear Bx
        obtain ⟨bx, hbx⟩ : ∃ bx, bx = w2.heap.size := ⟨_, rfl⟩
        rw [← hbx] at HBX ⊢
        clear hbx
        generalize w2.alloc _ = wa at *
        refine hK.out _ _ hS2 (fun hHeld2 => ?_)
        clear hK K hHeld hS2
        have hHeld := hHeld2
        clear hHeld2
        try simp only [Act.put, List.setIfInBounds_toArray, List.set_cons_zero, List.set_cons_succ]
        refine wpAnyH_ready (rs := [15]) (by kernel_rfl) (by simp) ?_
        refine AllReadyH.cons (o := { dst := some 110, op := Op.call { callee := Callee.builtin Builtin.append, args := #[Operand.tmp 97, Operand.tmp 109], argTypes := #[26, 26] }, type := 26, pos := "law.go:89", after := #[{ on := 2, ground := Ground.data }, { on := 14, ground := Ground.data }, { on := 2, ground := Ground.chain }], guard := none }) rfl (fun K hK => ?_) AllReadyH.nil
        obtain ⟨v5, w5, hrun5, O5, G5⟩ := app_one_run wa wz.heap.size (.slice A9 (l).length c9) (l) ⟨a, m, y, nd, s, M, T5⟩ bx HO.out (cl_at HBX.out) HLE.out HB.out.size
        refine Lib.wp_append_run _ (.tmp 97) (.tmp 109) 26 26 rfl _ _ rfl rfl _ _ hrun5 ?_
        have HB5 := Lib.hid (HB.out.trans (Fr.below (X := fun k => (Value.slice A9 (l).length c9).ownBlock = some k) (Fr.grown G5 (fun k e => e)) HB.out.size (fun k e => (own_lt HO.out e).1)))
        have HO5 := Lib.hid O5
        obtain ⟨A5, c5, hv5, -, -⟩ := O5.form
        obtain ⟨n5, hn5⟩ : ∃ n5, n5 = ((l) ++ [(⟨a, m, y, nd, s, M, T5⟩ : E)]).length := ⟨_, rfl⟩
        rw [← hn5] at hv5
        subst hv5
        have HN5 := Lib.hid hn5
        have hS2 : (fun y : World => Fr (fun k => k = w.heap.size) wz y ∧ ∃ u, y.heap[w.heap.size]? = some (.cells #[u, .int .u64 (now : Int)] 29 (0, 0))) w5 := ⟨Fr.of HB5.out, _, brow HB5.out HQ1.out.r0⟩
        clear hn5 hrun5 O5 G5
        refine hK.out _ _ hS2 (fun hHeld2 => ?_)
        clear hK K hHeld hS2
        have hHeld := hHeld2
        clear hHeld2
        try simp only [Act.put, List.setIfInBounds_toArray, List.set_cons_zero, List.set_cons_succ]
        refine wpAnyH_take (i := 16) (oi := { dst := some 111, op := Op.fieldAddr 29 (Operand.tmp 4) 0, type := 0, pos := "law.go:89", after := #[{ on := 0, ground := Ground.phase }, { on := 1, ground := Ground.phase }, { on := 2, ground := Ground.phase }, { on := 3, ground := Ground.phase }, { on := 4, ground := Ground.phase }, { on := 5, ground := Ground.phase }, { on := 6, ground := Ground.phase }, { on := 7, ground := Ground.phase }, { on := 8, ground := Ground.phase }, { on := 9, ground := Ground.phase }, { on := 10, ground := Ground.phase }, { on := 11, ground := Ground.phase }, { on := 12, ground := Ground.phase }, { on := 13, ground := Ground.phase }, { on := 14, ground := Ground.phase }, { on := 15, ground := Ground.phase }], guard := none }) (v := .pointer (some ⟨w.heap.size, 0, none⟩)) rfl (by kernel_rfl) (by kernel_rfl) (by kernel_rfl) (fun _ _ _ h => h) (Or.inl ⟨by rfl, fun w hSw => by go_simp⟩) (by assumption) ?_
        try simp only [Act.put, List.setIfInBounds_toArray, List.set_cons_zero, List.set_cons_succ]
        refine wpAnyH_ready (rs := [17]) (by kernel_rfl) (by simp) ?_
        refine AllReadyH.cons (o := { dst := none, op := Op.store 26 (Operand.tmp 111) (Operand.tmp 110), type := 0, pos := "law.go:89", after := #[{ on := 16, ground := Ground.data }, { on := 15, ground := Ground.data }, { on := 15, ground := Ground.chain }, { on := 0, ground := Ground.phase }, { on := 1, ground := Ground.phase }, { on := 2, ground := Ground.phase }, { on := 3, ground := Ground.phase }, { on := 4, ground := Ground.phase }, { on := 5, ground := Ground.phase }, { on := 6, ground := Ground.phase }, { on := 7, ground := Ground.phase }, { on := 8, ground := Ground.phase }, { on := 9, ground := Ground.phase }, { on := 10, ground := Ground.phase }, { on := 11, ground := Ground.phase }, { on := 12, ground := Ground.phase }, { on := 13, ground := Ground.phase }, { on := 14, ground := Ground.phase }, { on := 15, ground := Ground.phase }], guard := none }) rfl (fun K hK => ?_) AllReadyH.nil
        have HZD := Lib.hid (HQ1.out.put1 HB5.out HO5.out)
        obtain ⟨t0, t1, tf⟩ := row2 (brow HB5.out HQ1.out.r0)
        have hw5 : w.heap.size < w5.heap.size := (Array.getElem?_eq_some_iff.1 (brow HB5.out HQ1.out.r0)).1
        go_simp
        refine hK.out _ _ ⟨hHeld.1.trans (Fr.grown (Src.set_grown w5 ⟨w.heap.size, 0, none⟩ _) (fun k e => (Option.some.inj e).symm)), _, HZD.out.r0⟩ (fun hHeld2 => ?_)
        clear hK K hHeld hHeld2 t0 t1 tf hw5
        try simp only [Act.put, List.setIfInBounds_toArray, List.set_cons_zero, List.set_cons_succ]
        generalize w5.setCell _ _ = w6 at *
        refine wpAnyH_done (by kernel_rfl) ?_ _
        try unfold NoPanic
        obtain ⟨t0, t1, tf⟩ := row2 HZD.out.r0
        obtain ⟨s0, s1, sf⟩ := row2 (HZD.out.row (k := w.heap.size + 2) (x := #[.slice none 0 0, .int .u64 0]) (t := 29) (by simp))
        have hwsf : w.heap.size + 2 < _ := (Array.getElem?_eq_some_iff.1 (HZD.out.row (k := w.heap.size + 2) (x := #[.slice none 0 0, .int .u64 0]) (t := 29) (by simp))).1
        go_wp2
        exact bodyPost_ret (Src.results_ct rfl _ _ (w.heap.size + 2) 29 _ (0, 0) _ (.bool true) rfl rfl (Src.Tab_set2 (HZD.out.row (k := w.heap.size + 2) (x := #[.slice none 0 0, .int .u64 0]) (t := 29) (by simp)) _ _) Try.underlying29 rfl (by kernel_rfl)) rfl (by rw [← HLST.out]; have := HN5.out; subst this; exact HZD.out.fin (by simp))
      · go_simp
        have Bx := (Below.refl wz.heap.size wz).alloc (Nat.le_refl _) (.cells #[.int .u32 (a : Int), .int .u8 (m : Int), .int .i64 (y : Int), .int .i64 (nd : Int), .int .u16 (s : Int), .int .u16 (M : Int), .int .u64 (T5 : Int)] 43)
        have HBX := Lib.hid (heap_alloc_new wz (.cells #[.int .u32 (a : Int), .int .u8 (m : Int), .int .i64 (y : Int), .int .i64 (nd : Int), .int .u16 (s : Int), .int .u16 (M : Int), .int .u64 (T5 : Int)] 43))
        try replace HO := Lib.hid (HO.out.kept Bx)
        replace HB := Lib.hid (HB.out.trans (Bx.mono HB.out.size))
        have hS2 := And.intro (hHeld.1.step Bx) (hHeld.2.imp fun _ h => brow Bx h)
        clear Bx
        obtain ⟨bx, hbx⟩ : ∃ bx, bx = wz.heap.size := ⟨_, rfl⟩
        rw [← hbx] at HBX ⊢
        clear hbx
        generalize wz.alloc _ = wa at *
        refine hK.out _ _ hS2 (fun hHeld2 => ?_)
        clear hK K hHeld hS2
        have hHeld := hHeld2
        clear hHeld2
        try simp only [Act.put, List.setIfInBounds_toArray, List.set_cons_zero, List.set_cons_succ]
        refine wpAnyH_ready (rs := [2]) (by kernel_rfl) (by simp) ?_
        refine (AllReadyH.cons (o := { dst := some 97, op := Op.call { callee := Callee.builtin Builtin.append, args := #[Operand.const (Value.slice none 0 0), Operand.tmp 96], argTypes := #[26, 26] }, type := 26, pos := "law.go:89", after := #[{ on := 1, ground := Ground.data }], guard := none }) rfl (fun K hK => ?_) AllReadyH.nil)
        obtain ⟨v2, w2, hrun2, O2, Bx⟩ := app_nil_run wa A (l).length c (l) rfl (HSL.out.below HB.out) HNL.out HLE.out
        refine Lib.wp_append_run _ (.const (.slice none 0 0)) (.tmp 96) 26 26 rfl _ _ rfl rfl _ _ hrun2 ?_
        have HO := Lib.hid (own_mono O2 HB.out.size)
        obtain ⟨A9, c9, hv9, -, -⟩ := O2.form
        replace HB := Lib.hid (HB.out.trans (Bx.mono HB.out.size))
        try replace HBX := Lib.hid (brow Bx HBX.out)
        have hS2 := And.intro (hHeld.1.step Bx) (hHeld.2.imp fun _ h => brow Bx h)
        subst hv9
        clear O2 Bx hrun2
        refine hK.out _ _ hS2 (fun hHeld2 => ?_)
        clear hK K hHeld hS2
        have hHeld := hHeld2
        clear hHeld2
        try simp only [Act.put, List.setIfInBounds_toArray, List.set_cons_zero, List.set_cons_succ]
        refine wpAnyH_ready (rs := [15]) (by kernel_rfl) (by simp) ?_
        refine AllReadyH.cons (o := { dst := some 110, op := Op.call { callee := Callee.builtin Builtin.append, args := #[Operand.tmp 97, Operand.tmp 109], argTypes := #[26, 26] }, type := 26, pos := "law.go:89", after := #[{ on := 2, ground := Ground.data }, { on := 14, ground := Ground.data }, { on := 2, ground := Ground.chain }], guard := none }) rfl (fun K hK => ?_) AllReadyH.nil
        obtain ⟨v5, w5, hrun5, O5, G5⟩ := app_one_run w2 wz.heap.size (.slice A9 (l).length c9) (l) ⟨a, m, y, nd, s, M, T5⟩ bx HO.out (cl_at HBX.out) HLE.out HB.out.size
        refine Lib.wp_append_run _ (.tmp 97) (.tmp 109) 26 26 rfl _ _ rfl rfl _ _ hrun5 ?_
        have HB5 := Lib.hid (HB.out.trans (Fr.below (X := fun k => (Value.slice A9 (l).length c9).ownBlock = some k) (Fr.grown G5 (fun k e => e)) HB.out.size (fun k e => (own_lt HO.out e).1)))
        have HO5 := Lib.hid O5
        obtain ⟨A5, c5, hv5, -, -⟩ := O5.form
        obtain ⟨n5, hn5⟩ : ∃ n5, n5 = ((l) ++ [(⟨a, m, y, nd, s, M, T5⟩ : E)]).length := ⟨_, rfl⟩
        rw [← hn5] at hv5
        subst hv5
        have HN5 := Lib.hid hn5
        have hS2 : (fun y : World => Fr (fun k => k = w.heap.size) wz y ∧ ∃ u, y.heap[w.heap.size]? = some (.cells #[u, .int .u64 (now : Int)] 29 (0, 0))) w5 := ⟨Fr.of HB5.out, _, brow HB5.out HQ1.out.r0⟩
        clear hn5 hrun5 O5 G5
        refine hK.out _ _ hS2 (fun hHeld2 => ?_)
        clear hK K hHeld hS2
        have hHeld := hHeld2
        clear hHeld2
        try simp only [Act.put, List.setIfInBounds_toArray, List.set_cons_zero, List.set_cons_succ]
        refine wpAnyH_take (i := 16) (oi := { dst := some 111, op := Op.fieldAddr 29 (Operand.tmp 4) 0, type := 0, pos := "law.go:89", after := #[{ on := 0, ground := Ground.phase }, { on := 1, ground := Ground.phase }, { on := 2, ground := Ground.phase }, { on := 3, ground := Ground.phase }, { on := 4, ground := Ground.phase }, { on := 5, ground := Ground.phase }, { on := 6, ground := Ground.phase }, { on := 7, ground := Ground.phase }, { on := 8, ground := Ground.phase }, { on := 9, ground := Ground.phase }, { on := 10, ground := Ground.phase }, { on := 11, ground := Ground.phase }, { on := 12, ground := Ground.phase }, { on := 13, ground := Ground.phase }, { on := 14, ground := Ground.phase }, { on := 15, ground := Ground.phase }], guard := none }) (v := .pointer (some ⟨w.heap.size, 0, none⟩)) rfl (by kernel_rfl) (by kernel_rfl) (by kernel_rfl) (fun _ _ _ h => h) (Or.inl ⟨by rfl, fun w hSw => by go_simp⟩) (by assumption) ?_
        try simp only [Act.put, List.setIfInBounds_toArray, List.set_cons_zero, List.set_cons_succ]
        refine wpAnyH_ready (rs := [17]) (by kernel_rfl) (by simp) ?_
        refine AllReadyH.cons (o := { dst := none, op := Op.store 26 (Operand.tmp 111) (Operand.tmp 110), type := 0, pos := "law.go:89", after := #[{ on := 16, ground := Ground.data }, { on := 15, ground := Ground.data }, { on := 15, ground := Ground.chain }, { on := 0, ground := Ground.phase }, { on := 1, ground := Ground.phase }, { on := 2, ground := Ground.phase }, { on := 3, ground := Ground.phase }, { on := 4, ground := Ground.phase }, { on := 5, ground := Ground.phase }, { on := 6, ground := Ground.phase }, { on := 7, ground := Ground.phase }, { on := 8, ground := Ground.phase }, { on := 9, ground := Ground.phase }, { on := 10, ground := Ground.phase }, { on := 11, ground := Ground.phase }, { on := 12, ground := Ground.phase }, { on := 13, ground := Ground.phase }, { on := 14, ground := Ground.phase }, { on := 15, ground := Ground.phase }], guard := none }) rfl (fun K hK => ?_) AllReadyH.nil
        have HZD := Lib.hid (HQ1.out.put1 HB5.out HO5.out)
        obtain ⟨t0, t1, tf⟩ := row2 (brow HB5.out HQ1.out.r0)
        have hw5 : w.heap.size < w5.heap.size := (Array.getElem?_eq_some_iff.1 (brow HB5.out HQ1.out.r0)).1
        go_simp
        refine hK.out _ _ ⟨hHeld.1.trans (Fr.grown (Src.set_grown w5 ⟨w.heap.size, 0, none⟩ _) (fun k e => (Option.some.inj e).symm)), _, HZD.out.r0⟩ (fun hHeld2 => ?_)
        clear hK K hHeld hHeld2 t0 t1 tf hw5
        try simp only [Act.put, List.setIfInBounds_toArray, List.set_cons_zero, List.set_cons_succ]
        generalize w5.setCell _ _ = w6 at *
        refine wpAnyH_done (by kernel_rfl) ?_ _
        try unfold NoPanic
        obtain ⟨t0, t1, tf⟩ := row2 HZD.out.r0
        obtain ⟨s0, s1, sf⟩ := row2 (HZD.out.row (k := w.heap.size + 2) (x := #[.slice none 0 0, .int .u64 0]) (t := 29) (by simp))
        have hwsf : w.heap.size + 2 < _ := (Array.getElem?_eq_some_iff.1 (HZD.out.row (k := w.heap.size + 2) (x := #[.slice none 0 0, .int .u64 0]) (t := 29) (by simp))).1
        go_wp2
        exact bodyPost_ret (Src.results_ct rfl _ _ (w.heap.size + 2) 29 _ (0, 0) _ (.bool true) rfl rfl (Src.Tab_set2 (HZD.out.row (k := w.heap.size + 2) (x := #[.slice none 0 0, .int .u64 0]) (t := 29) (by simp)) _ _) Try.underlying29 rfl (by kernel_rfl)) rfl (by rw [← HLST.out]; have := HN5.out; subst this; exact HZD.out.fin (by simp))
    · go_simp
      have Bx := (Below.refl wz.heap.size wz).alloc (Nat.le_refl _) (.cells #[.int .u32 (a : Int), .int .u8 (m : Int), .int .i64 (y : Int), .int .i64 (nd : Int), .int .u16 (s : Int), .int .u16 (M : Int), .int .u64 (T5 : Int)] 43)
      have HBX := Lib.hid (heap_alloc_new wz (.cells #[.int .u32 (a : Int), .int .u8 (m : Int), .int .i64 (y : Int), .int .i64 (nd : Int), .int .u16 (s : Int), .int .u16 (M : Int), .int .u64 (T5 : Int)] 43))
      try replace HO := Lib.hid (HO.out.kept Bx)
      replace HB := Lib.hid (HB.out.trans (Bx.mono HB.out.size))
      have hS2 := And.intro (hHeld.1.step Bx) (hHeld.2.imp fun _ h => brow Bx h)
      clear Bx
      obtain ⟨bx, hbx⟩ : ∃ bx, bx = wz.heap.size := ⟨_, rfl⟩
      rw [← hbx] at HBX ⊢
      clear hbx
      generalize wz.alloc _ = wa at *
      refine hK.out _ _ hS2 (fun hHeld2 => ?_)
      clear hK K hHeld hS2
      have hHeld := hHeld2
      clear hHeld2
      try simp only [Act.put, List.setIfInBounds_toArray, List.set_cons_zero, List.set_cons_succ]
      refine wpAnyH_ready (rs := [1]) (by kernel_rfl) (by simp) ?_
      refine (AllReadyH.cons (o := { dst := some 96, op := Op.load 26 (Operand.tmp 95), type := 26, pos := "law.go:89", after := #[{ on := 0, ground := Ground.data }], guard := none }) rfl (fun K hK => ?_) AllReadyH.nil)
      obtain ⟨t0, t1, -⟩ := row2 (brow HB.out HQ1.out.r0)
      go_simp
      have hS2 := hHeld
      refine hK.out _ _ hS2 (fun hHeld2 => ?_)
      clear hK K hHeld hS2
      have hHeld := hHeld2
      clear hHeld2
      try simp only [Act.put, List.setIfInBounds_toArray, List.set_cons_zero, List.set_cons_succ]
      clear t0 t1
      refine wpAnyH_ready (rs := [2]) (by kernel_rfl) (by simp) ?_
      refine (AllReadyH.cons (o := { dst := some 97, op := Op.call { callee := Callee.builtin Builtin.append, args := #[Operand.const (Value.slice none 0 0), Operand.tmp 96], argTypes := #[26, 26] }, type := 26, pos := "law.go:89", after := #[{ on := 1, ground := Ground.data }], guard := none }) rfl (fun K hK => ?_) AllReadyH.nil)
      obtain ⟨v2, w2, hrun2, O2, Bx⟩ := app_nil_run wa A (l).length c (l) rfl (HSL.out.below HB.out) HNL.out HLE.out
      refine Lib.wp_append_run _ (.const (.slice none 0 0)) (.tmp 96) 26 26 rfl _ _ rfl rfl _ _ hrun2 ?_
      have HO := Lib.hid (own_mono O2 HB.out.size)
      obtain ⟨A9, c9, hv9, -, -⟩ := O2.form
      replace HB := Lib.hid (HB.out.trans (Bx.mono HB.out.size))
      try replace HBX := Lib.hid (brow Bx HBX.out)
      have hS2 := And.intro (hHeld.1.step Bx) (hHeld.2.imp fun _ h => brow Bx h)
      subst hv9
      clear O2 Bx hrun2
      refine hK.out _ _ hS2 (fun hHeld2 => ?_)
      clear hK K hHeld hS2
      have hHeld := hHeld2
      clear hHeld2
      try simp only [Act.put, List.setIfInBounds_toArray, List.set_cons_zero, List.set_cons_succ]
      refine wpAnyH_ready (rs := [15]) (by kernel_rfl) (by simp) ?_
      refine AllReadyH.cons (o := { dst := some 110, op := Op.call { callee := Callee.builtin Builtin.append, args := #[Operand.tmp 97, Operand.tmp 109], argTypes := #[26, 26] }, type := 26, pos := "law.go:89", after := #[{ on := 2, ground := Ground.data }, { on := 14, ground := Ground.data }, { on := 2, ground := Ground.chain }], guard := none }) rfl (fun K hK => ?_) AllReadyH.nil
      obtain ⟨v5, w5, hrun5, O5, G5⟩ := app_one_run w2 wz.heap.size (.slice A9 (l).length c9) (l) ⟨a, m, y, nd, s, M, T5⟩ bx HO.out (cl_at HBX.out) HLE.out HB.out.size
      refine Lib.wp_append_run _ (.tmp 97) (.tmp 109) 26 26 rfl _ _ rfl rfl _ _ hrun5 ?_
      have HB5 := Lib.hid (HB.out.trans (Fr.below (X := fun k => (Value.slice A9 (l).length c9).ownBlock = some k) (Fr.grown G5 (fun k e => e)) HB.out.size (fun k e => (own_lt HO.out e).1)))
      have HO5 := Lib.hid O5
      obtain ⟨A5, c5, hv5, -, -⟩ := O5.form
      obtain ⟨n5, hn5⟩ : ∃ n5, n5 = ((l) ++ [(⟨a, m, y, nd, s, M, T5⟩ : E)]).length := ⟨_, rfl⟩
      rw [← hn5] at hv5
      subst hv5
      have HN5 := Lib.hid hn5
      have hS2 : (fun y : World => Fr (fun k => k = w.heap.size) wz y ∧ ∃ u, y.heap[w.heap.size]? = some (.cells #[u, .int .u64 (now : Int)] 29 (0, 0))) w5 := ⟨Fr.of HB5.out, _, brow HB5.out HQ1.out.r0⟩
      clear hn5 hrun5 O5 G5
      refine hK.out _ _ hS2 (fun hHeld2 => ?_)
      clear hK K hHeld hS2
      have hHeld := hHeld2
      clear hHeld2
      try simp only [Act.put, List.setIfInBounds_toArray, List.set_cons_zero, List.set_cons_succ]
      refine wpAnyH_take (i := 16) (oi := { dst := some 111, op := Op.fieldAddr 29 (Operand.tmp 4) 0, type := 0, pos := "law.go:89", after := #[{ on := 0, ground := Ground.phase }, { on := 1, ground := Ground.phase }, { on := 2, ground := Ground.phase }, { on := 3, ground := Ground.phase }, { on := 4, ground := Ground.phase }, { on := 5, ground := Ground.phase }, { on := 6, ground := Ground.phase }, { on := 7, ground := Ground.phase }, { on := 8, ground := Ground.phase }, { on := 9, ground := Ground.phase }, { on := 10, ground := Ground.phase }, { on := 11, ground := Ground.phase }, { on := 12, ground := Ground.phase }, { on := 13, ground := Ground.phase }, { on := 14, ground := Ground.phase }, { on := 15, ground := Ground.phase }], guard := none }) (v := .pointer (some ⟨w.heap.size, 0, none⟩)) rfl (by kernel_rfl) (by kernel_rfl) (by kernel_rfl) (fun _ _ _ h => h) (Or.inl ⟨by rfl, fun w hSw => by go_simp⟩) (by assumption) ?_
      try simp only [Act.put, List.setIfInBounds_toArray, List.set_cons_zero, List.set_cons_succ]
      refine wpAnyH_ready (rs := [17]) (by kernel_rfl) (by simp) ?_
      refine AllReadyH.cons (o := { dst := none, op := Op.store 26 (Operand.tmp 111) (Operand.tmp 110), type := 0, pos := "law.go:89", after := #[{ on := 16, ground := Ground.data }, { on := 15, ground := Ground.data }, { on := 15, ground := Ground.chain }, { on := 0, ground := Ground.phase }, { on := 1, ground := Ground.phase }, { on := 2, ground := Ground.phase }, { on := 3, ground := Ground.phase }, { on := 4, ground := Ground.phase }, { on := 5, ground := Ground.phase }, { on := 6, ground := Ground.phase }, { on := 7, ground := Ground.phase }, { on := 8, ground := Ground.phase }, { on := 9, ground := Ground.phase }, { on := 10, ground := Ground.phase }, { on := 11, ground := Ground.phase }, { on := 12, ground := Ground.phase }, { on := 13, ground := Ground.phase }, { on := 14, ground := Ground.phase }, { on := 15, ground := Ground.phase }], guard := none }) rfl (fun K hK => ?_) AllReadyH.nil
      have HZD := Lib.hid (HQ1.out.put1 HB5.out HO5.out)
      obtain ⟨t0, t1, tf⟩ := row2 (brow HB5.out HQ1.out.r0)
      have hw5 : w.heap.size < w5.heap.size := (Array.getElem?_eq_some_iff.1 (brow HB5.out HQ1.out.r0)).1
      go_simp
      refine hK.out _ _ ⟨hHeld.1.trans (Fr.grown (Src.set_grown w5 ⟨w.heap.size, 0, none⟩ _) (fun k e => (Option.some.inj e).symm)), _, HZD.out.r0⟩ (fun hHeld2 => ?_)
      clear hK K hHeld hHeld2 t0 t1 tf hw5
      try simp only [Act.put, List.setIfInBounds_toArray, List.set_cons_zero, List.set_cons_succ]
      generalize w5.setCell _ _ = w6 at *
      refine wpAnyH_done (by kernel_rfl) ?_ _
      try unfold NoPanic
      obtain ⟨t0, t1, tf⟩ := row2 HZD.out.r0
      obtain ⟨s0, s1, sf⟩ := row2 (HZD.out.row (k := w.heap.size + 2) (x := #[.slice none 0 0, .int .u64 0]) (t := 29) (by simp))
      have hwsf : w.heap.size + 2 < _ := (Array.getElem?_eq_some_iff.1 (HZD.out.row (k := w.heap.size + 2) (x := #[.slice none 0 0, .int .u64 0]) (t := 29) (by simp))).1
      go_wp2
      exact bodyPost_ret (Src.results_ct rfl _ _ (w.heap.size + 2) 29 _ (0, 0) _ (.bool true) rfl rfl (Src.Tab_set2 (HZD.out.row (k := w.heap.size + 2) (x := #[.slice none 0 0, .int .u64 0]) (t := 29) (by simp)) _ _) Try.underlying29 rfl (by kernel_rfl)) rfl (by rw [← HLST.out]; have := HN5.out; subst this; exact HZD.out.fin (by simp))
  | true =>
    have hfl : l.findIdx (isOf a m y) < l.length := List.findIdx_lt_length_of_exists (by obtain ⟨x, h1, h2⟩ := List.any_eq_true.1 hany; exact ⟨x, h1, h2⟩)
    have hV0 : wo (isOf a m y) l = l.eraseIdx (l.findIdx (isOf a m y)) := by unfold wo; rw [hany]; rfl
    have hix : idxV (isOf a m y) l = (l.findIdx (isOf a m y) : Int) := by unfold idxV; rw [hany]; rfl
    obtain ⟨fi, hfi⟩ : ∃ fi, fi = l.findIdx (isOf a m y) := ⟨_, rfl⟩
    rw [hix, ← hfi] at HF
    rw [← hfi] at hV0 hfl
    have HV := Lib.hid hV0
    clear hix hany hfi hV0
    go_upto_region 18 with (go_at_call 12; (with_reducible refine HF.out.mono ?_); rintro en w8 ⟨rfl, B8⟩; have HD6 := Lib.hid (HD5.out.step B8); clear B8)
    clear t0 t1 tf p0 p1 pf hws7
    have hws8 : w.heap.size + 2 < w8.heap.size := (Array.getElem?_eq_some_iff.1 (HD6.out.row (k := w.heap.size + 2) (x := #[.slice none 0 0, .int .u64 0]) (t := 29) (by simp))).1
    obtain ⟨t0, t1, tf⟩ := row2 HD6.out.r0
    have HW := Lib.hid (without_any w8 A l.length c now l rfl (by have := HI.out.2.2.2.2; omega) HD6.out.esl.2.1 fi)
    go_upto_region 20 with (go_at_call 30; (with_reducible refine HW.out.mono ?_); rintro en w9 ⟨v9, rfl, O9, B9⟩; obtain ⟨A9, c9, hv9, -, -⟩ := O9.form; subst hv9; have HD7 := Lib.hid (HD6.out.put2 B9 O9 now); clear t0 t1 tf; obtain ⟨t0, t1, tf⟩ := row2 (brow B9 HD6.out.r0); have hws9 := Nat.lt_of_lt_of_le hws8 B9.size; clear O9 B9)
    clear t0 t1 tf hws8 hws9
    generalize (w9.setCell _ _).setCell _ _ = w10 at *
    have hle1 : (l.eraseIdx fi).length ≤ l.length := List.length_eraseIdx_le _ _
    have HLE2 := Lib.hid hle1
    clear hle1
    have hzmw : zm < w10.heap.size := (Array.getElem?_eq_some_iff.1 (HD7.out.row (k := zm) (x := #[.int .u16 (s : Int), .int .u16 (M : Int)]) (t := 41) (by simp))).1
    obtain ⟨m0, m1, mf⟩ := row2 (HD7.out.row (k := zm) (x := #[.int .u16 (s : Int), .int .u16 (M : Int)]) (t := 41) (by simp))
    have hM2 : ((M : Int) != 65535) = true := by have := HM.out; simp; omega
    have hM3 : ¬ ((M : Int) = 65535) := by have := HM.out; omega
    go_upto_region 21 with (fail)
    clear m0 m1 mf hzmw hM2 hM3
    have HQ1 := HD7
    have HSL := Lib.hid HD7.out.esl.2.1
    have HNL := Lib.hid HD7.out.esl.2.2
    have HLE : Hid ((l.eraseIdx fi).length ≤ 1000) := Lib.hid (by have := HI.out.2.2.2.2; have := HLE2.out; omega)
    have HNE := Lib.hid (And.intro (HD7.out.rows (zp, #[.int .u32 (a : Int), .int .u8 (m : Int)], 39) (by simp)).2.2.2 (HD7.out.rows (zm, #[.int .u16 (s : Int), .int .u16 (M : Int)], 41) (by simp)).2.2.2)
    obtain ⟨T5, hT5⟩ : ∃ T5, T5 = now + 50 := ⟨_, rfl⟩
    have HLST := Lib.hid (show (l.eraseIdx fi) ++ [(⟨a, m, y, nd, s, M, T5⟩ : E)] = wo (isOf a m y) l ++ [⟨a, m, y, nd, s, M, now + 50⟩] by rw [HV.out, hT5])
    have hwt : IntKind.u64.wrap ((now : Int) + 50) = (T5 : Int) := by rw [IntKind.wrap_u64]; have := HPN.out.2.2.2.2.2.2; omega
    clear hT5
    replace HQ1 := Lib.hid (HQ1.out.step ((Below.refl w10.heap.size w10).drew))
    replace HSL := Lib.hid (HSL.out.below ((Below.refl w10.heap.size w10).drew))
    have HX1 := Lib.hid (HQ1.out.row (k := w.heap.size + 1) (x := #[.int .u8 (K : Int), .int .u8 (B : Int), .int .u8 (P : Int), .int .u8 (Q : Int), .int .u16 (M : Int)]) (t := 34) (by simp))
    have HXN := Lib.hid (show ¬ w.heap.size + 1 = w.heap.size by omega)
    have HQT : Hid ((Q : Int).tmod 16 = (nd : Int)) := Lib.hid (by rw [Int.tmod_eq_emod_of_nonneg (by omega)]; exact hqn)
    refine wp_region_noPanic ?_
    refine wp_region_held_drew (S := fun y : World => Fr (fun k => k = w.heap.size) w10.drew y ∧ ∃ u, y.heap[w.heap.size]? = some (.cells #[u, .int .u64 (now : Int)] 29 (0, 0))) (by kernel_rfl) ⟨Fr.refl _ _, _, HQ1.out.r0⟩ (fun hHeld => ?_)
    generalize w10.drew = wz at *
    refine wpAnyH_take (i := 0) (oi := { dst := some 95, op := Op.fieldAddr 29 (Operand.tmp 4) 0, type := 0, pos := "law.go:89", after := #[], guard := none }) (v := .pointer (some ⟨w.heap.size, 0, none⟩)) rfl (by kernel_rfl) (by kernel_rfl) (by kernel_rfl) (fun _ _ _ h => h) (Or.inl ⟨by rfl, fun w hSw => by go_simp⟩) (by assumption) ?_
    try simp only [Act.put, List.setIfInBounds_toArray, List.set_cons_zero, List.set_cons_succ]
    refine wpAnyH_take (i := 3) (oi := { dst := some 98, op := Op.load 39 (Operand.tmp 9), type := 39, pos := "law.go:89", after := #[], guard := none }) (v := .agg #[.int .u32 (a : Int), .int .u8 (m : Int)]) rfl (by kernel_rfl) (by kernel_rfl) (by kernel_rfl) (fun _ _ _ h => h) (Or.inl ⟨by rfl, fun w hSw => by obtain ⟨p0, p1, -⟩ := row2 (hSw.1.row (HQ1.out.row (k := zp) (x := #[.int .u32 (a : Int), .int .u8 (m : Int)]) (t := 39) (by simp)) (HNE.out.1)); go_simp⟩) (by assumption) ?_
    try simp only [Act.put, List.setIfInBounds_toArray, List.set_cons_zero, List.set_cons_succ]
    refine wpAnyH_take (i := 4) (oi := { dst := some 99, op := Op.move (Operand.tmp 8), type := 3, pos := "law.go:89", after := #[], guard := none }) (v := .int .i64 (y : Int)) rfl (by kernel_rfl) (by kernel_rfl) (by kernel_rfl) (fun _ _ _ h => h) (Or.inl ⟨by rfl, fun w hSw => by go_simp⟩) (by assumption) ?_
    try simp only [Act.put, List.setIfInBounds_toArray, List.set_cons_zero, List.set_cons_succ]
    refine wpAnyH_take (i := 5) (oi := { dst := some 100, op := Op.fieldAddr 34 (Operand.tmp 5) 3, type := 0, pos := "law.go:89", after := #[], guard := none }) (v := .pointer (some ⟨w.heap.size + 1, 3, none⟩)) rfl (by kernel_rfl) (by kernel_rfl) (by kernel_rfl) (fun _ _ _ h => h) (Or.inl ⟨by rfl, fun w hSw => by go_simp⟩) (by assumption) ?_
    try simp only [Act.put, List.setIfInBounds_toArray, List.set_cons_zero, List.set_cons_succ]
    refine wpAnyH_take (i := 6) (oi := { dst := some 101, op := Op.load 5 (Operand.tmp 100), type := 5, pos := "law.go:89", after := #[{ on := 5, ground := Ground.data }], guard := none }) (v := .int .u8 (Q : Int)) rfl (by kernel_rfl) (by kernel_rfl) (by kernel_rfl) (fun _ _ _ h => h) (Or.inl ⟨by rfl, fun w hSw => by obtain ⟨x0, x1, x2, x3, x4⟩ := row5 (hSw.1.row HX1.out HXN.out); go_simp⟩) (by assumption) ?_
    try simp only [Act.put, List.setIfInBounds_toArray, List.set_cons_zero, List.set_cons_succ]
    refine wpAnyH_take (i := 7) (oi := { dst := some 102, op := Op.binOp BinOp.rem 5 (Operand.tmp 101) (Operand.const (Value.int IntKind.u8 16)) 5, type := 5, pos := "law.go:89", after := #[{ on := 6, ground := Ground.data }], guard := none }) (v := .int .u8 (nd : Int)) rfl (by kernel_rfl) (by kernel_rfl) (by kernel_rfl) (fun _ _ _ h => h) (Or.inl ⟨by rfl, fun w hSw => by go_simp; exact HQT.out⟩) (by assumption) ?_
    try simp only [Act.put, List.setIfInBounds_toArray, List.set_cons_zero, List.set_cons_succ]
    refine wpAnyH_take (i := 8) (oi := { dst := some 103, op := Op.convert 5 3 (Operand.tmp 102), type := 3, pos := "law.go:89", after := #[{ on := 7, ground := Ground.data }], guard := none }) (v := .int .i64 (nd : Int)) rfl (by kernel_rfl) (by kernel_rfl) (by kernel_rfl) (fun _ _ _ h => h) (Or.inl ⟨by rfl, fun w hSw => by go_simp⟩) (by assumption) ?_
    try simp only [Act.put, List.setIfInBounds_toArray, List.set_cons_zero, List.set_cons_succ]
    refine wpAnyH_take (i := 9) (oi := { dst := some 104, op := Op.load 41 (Operand.tmp 11), type := 41, pos := "law.go:89", after := #[], guard := none }) (v := .agg #[.int .u16 (s : Int), .int .u16 (M : Int)]) rfl (by kernel_rfl) (by kernel_rfl) (by kernel_rfl) (fun _ _ _ h => h) (Or.inl ⟨by rfl, fun w hSw => by obtain ⟨p0, p1, -⟩ := row2 (hSw.1.row (HQ1.out.row (k := zm) (x := #[.int .u16 (s : Int), .int .u16 (M : Int)]) (t := 41) (by simp)) (HNE.out.2)); go_simp⟩) (by assumption) ?_
    try simp only [Act.put, List.setIfInBounds_toArray, List.set_cons_zero, List.set_cons_succ]
    refine wpAnyH_take (i := 10) (oi := { dst := some 105, op := Op.fieldAddr 29 (Operand.tmp 4) 1, type := 0, pos := "law.go:89", after := #[], guard := none }) (v := .pointer (some ⟨w.heap.size, 1, none⟩)) rfl (by kernel_rfl) (by kernel_rfl) (by kernel_rfl) (fun _ _ _ h => h) (Or.inl ⟨by rfl, fun w hSw => by go_simp⟩) (by assumption) ?_
    try simp only [Act.put, List.setIfInBounds_toArray, List.set_cons_zero, List.set_cons_succ]
    refine wpAnyH_take (i := 11) (oi := { dst := some 106, op := Op.load 27 (Operand.tmp 105), type := 27, pos := "law.go:89", after := #[{ on := 10, ground := Ground.data }], guard := none }) (v := .int .u64 (now : Int)) rfl (by kernel_rfl) (by kernel_rfl) (by kernel_rfl) (fun _ _ _ h => h) (Or.inl ⟨by rfl, fun w hSw => by obtain ⟨-, u, hu⟩ := hSw; obtain ⟨-, p1, -⟩ := row2 hu; go_simp⟩) (by assumption) ?_
    try simp only [Act.put, List.setIfInBounds_toArray, List.set_cons_zero, List.set_cons_succ]
    refine wpAnyH_take (i := 12) (oi := { dst := some 107, op := Op.binOp BinOp.add 27 (Operand.tmp 106) (Operand.const (Value.int IntKind.u64 50)) 27, type := 27, pos := "law.go:89", after := #[{ on := 11, ground := Ground.data }], guard := none }) (v := .int .u64 (T5 : Int)) rfl (by kernel_rfl) (by kernel_rfl) (by kernel_rfl) (fun _ _ _ h => h) (Or.inl ⟨by rfl, fun w hSw => by go_simp⟩) (by assumption) ?_
    try simp only [Act.put, List.setIfInBounds_toArray, List.set_cons_zero, List.set_cons_succ]
    refine wpAnyH_take (i := 13) (oi := { dst := some 108, op := Op.build 43 #[(0, Operand.tmp 98), (1, Operand.tmp 99), (2, Operand.tmp 103), (3, Operand.tmp 104), (4, Operand.tmp 107)], type := 43, pos := "law.go:89", after := #[{ on := 3, ground := Ground.data }, { on := 4, ground := Ground.data }, { on := 8, ground := Ground.data }, { on := 9, ground := Ground.data }, { on := 12, ground := Ground.data }], guard := none }) (v := .agg #[.int .u32 (a : Int), .int .u8 (m : Int), .int .i64 (y : Int), .int .i64 (nd : Int), .int .u16 (s : Int), .int .u16 (M : Int), .int .u64 (T5 : Int)]) rfl (by kernel_rfl) (by kernel_rfl) (by kernel_rfl) (fun _ _ _ h => h) (Or.inl ⟨by rfl, fun w hSw => by go_simp⟩) (by assumption) ?_
    try simp only [Act.put, List.setIfInBounds_toArray, List.set_cons_zero, List.set_cons_succ]
    have HB := Lib.hid (Below.refl wz.heap.size wz)
    refine wpAnyH_ready (rs := [1, 14]) (by kernel_rfl) (by simp) ?_
    refine (AllReadyH.cons (o := { dst := some 96, op := Op.load 26 (Operand.tmp 95), type := 26, pos := "law.go:89", after := #[{ on := 0, ground := Ground.data }], guard := none }) rfl (fun K hK => ?_) (AllReadyH.cons (o := { dst := some 109, op := Op.buildSlice 26 1 #[(0, Operand.tmp 108)], type := 26, pos := "law.go:89", after := #[{ on := 13, ground := Ground.data }], guard := none }) rfl (fun K hK => ?_) AllReadyH.nil))
    · obtain ⟨t0, t1, -⟩ := row2 (brow HB.out HQ1.out.r0)
      go_simp
      have hS2 := hHeld
      refine hK.out _ _ hS2 (fun hHeld2 => ?_)
      clear hK K hHeld hS2
      have hHeld := hHeld2
      clear hHeld2
      try simp only [Act.put, List.setIfInBounds_toArray, List.set_cons_zero, List.set_cons_succ]
      clear t0 t1
      refine wpAnyH_ready (rs := [2, 14]) (by kernel_rfl) (by simp) ?_
      refine (AllReadyH.cons (o := { dst := some 97, op := Op.call { callee := Callee.builtin Builtin.append, args := #[Operand.const (Value.slice none 0 0), Operand.tmp 96], argTypes := #[26, 26] }, type := 26, pos := "law.go:89", after := #[{ on := 1, ground := Ground.data }], guard := none }) rfl (fun K hK => ?_) (AllReadyH.cons (o := { dst := some 109, op := Op.buildSlice 26 1 #[(0, Operand.tmp 108)], type := 26, pos := "law.go:89", after := #[{ on := 13, ground := Ground.data }], guard := none }) rfl (fun K hK => ?_) AllReadyH.nil))
      · obtain ⟨v2, w2, hrun2, O2, Bx⟩ := app_nil_run wz A9 (l.eraseIdx fi).length c9 (l.eraseIdx fi) rfl (HSL.out.below HB.out) HNL.out HLE.out
        refine Lib.wp_append_run _ (.const (.slice none 0 0)) (.tmp 96) 26 26 rfl _ _ rfl rfl _ _ hrun2 ?_
        have HO := Lib.hid (own_mono O2 HB.out.size)
        obtain ⟨A9, c9, hv9, -, -⟩ := O2.form
        replace HB := Lib.hid (HB.out.trans (Bx.mono HB.out.size))
        try replace HBX := Lib.hid (brow Bx HBX.out)
        have hS2 := And.intro (hHeld.1.step Bx) (hHeld.2.imp fun _ h => brow Bx h)
        subst hv9
        clear O2 Bx hrun2
        refine hK.out _ _ hS2 (fun hHeld2 => ?_)
        clear hK K hHeld hS2
        have hHeld := hHeld2
        clear hHeld2
        try simp only [Act.put, List.setIfInBounds_toArray, List.set_cons_zero, List.set_cons_succ]
        refine wpAnyH_ready (rs := [14]) (by kernel_rfl) (by simp) ?_
        refine (AllReadyH.cons (o := { dst := some 109, op := Op.buildSlice 26 1 #[(0, Operand.tmp 108)], type := 26, pos := "law.go:89", after := #[{ on := 13, ground := Ground.data }], guard := none }) rfl (fun K hK => ?_) AllReadyH.nil)
        go_simp
        have Bx := (Below.refl w2.heap.size w2).alloc (Nat.le_refl _) (.cells #[.int .u32 (a : Int), .int .u8 (m : Int), .int .i64 (y : Int), .int .i64 (nd : Int), .int .u16 (s : Int), .int .u16 (M : Int), .int .u64 (T5 : Int)] 43)
        have HBX := Lib.hid (heap_alloc_new w2 (.cells #[.int .u32 (a : Int), .int .u8 (m : Int), .int .i64 (y : Int), .int .i64 (nd : Int), .int .u16 (s : Int), .int .u16 (M : Int), .int .u64 (T5 : Int)] 43))
        try replace HO := Lib.hid (HO.out.kept Bx)
        replace HB := Lib.hid (HB.out.trans (Bx.mono HB.out.size))
        have hS2 := And.intro (hHeld.1.step Bx) (hHeld.2.imp fun _ h => brow Bx h)
        clear Bx
        obtain ⟨bx, hbx⟩ : ∃ bx, bx = w2.heap.size := ⟨_, rfl⟩
        rw [← hbx] at HBX ⊢
        clear hbx
        generalize w2.alloc _ = wa at *
        refine hK.out _ _ hS2 (fun hHeld2 => ?_)
        clear hK K hHeld hS2
        have hHeld := hHeld2
        clear hHeld2
        try simp only [Act.put, List.setIfInBounds_toArray, List.set_cons_zero, List.set_cons_succ]
        refine wpAnyH_ready (rs := [15]) (by kernel_rfl) (by simp) ?_
        refine AllReadyH.cons (o := { dst := some 110, op := Op.call { callee := Callee.builtin Builtin.append, args := #[Operand.tmp 97, Operand.tmp 109], argTypes := #[26, 26] }, type := 26, pos := "law.go:89", after := #[{ on := 2, ground := Ground.data }, { on := 14, ground := Ground.data }, { on := 2, ground := Ground.chain }], guard := none }) rfl (fun K hK => ?_) AllReadyH.nil
        obtain ⟨v5, w5, hrun5, O5, G5⟩ := app_one_run wa wz.heap.size (.slice A9 (l.eraseIdx fi).length c9) (l.eraseIdx fi) ⟨a, m, y, nd, s, M, T5⟩ bx HO.out (cl_at HBX.out) HLE.out HB.out.size
        refine Lib.wp_append_run _ (.tmp 97) (.tmp 109) 26 26 rfl _ _ rfl rfl _ _ hrun5 ?_
        have HB5 := Lib.hid (HB.out.trans (Fr.below (X := fun k => (Value.slice A9 (l.eraseIdx fi).length c9).ownBlock = some k) (Fr.grown G5 (fun k e => e)) HB.out.size (fun k e => (own_lt HO.out e).1)))
        have HO5 := Lib.hid O5
        obtain ⟨A5, c5, hv5, -, -⟩ := O5.form
        obtain ⟨n5, hn5⟩ : ∃ n5, n5 = ((l.eraseIdx fi) ++ [(⟨a, m, y, nd, s, M, T5⟩ : E)]).length := ⟨_, rfl⟩
        rw [← hn5] at hv5
        subst hv5
        have HN5 := Lib.hid hn5
        have hS2 : (fun y : World => Fr (fun k => k = w.heap.size) wz y ∧ ∃ u, y.heap[w.heap.size]? = some (.cells #[u, .int .u64 (now : Int)] 29 (0, 0))) w5 := ⟨Fr.of HB5.out, _, brow HB5.out HQ1.out.r0⟩
        clear hn5 hrun5 O5 G5
        refine hK.out _ _ hS2 (fun hHeld2 => ?_)
        clear hK K hHeld hS2
        have hHeld := hHeld2
        clear hHeld2
        try simp only [Act.put, List.setIfInBounds_toArray, List.set_cons_zero, List.set_cons_succ]
        refine wpAnyH_take (i := 16) (oi := { dst := some 111, op := Op.fieldAddr 29 (Operand.tmp 4) 0, type := 0, pos := "law.go:89", after := #[{ on := 0, ground := Ground.phase }, { on := 1, ground := Ground.phase }, { on := 2, ground := Ground.phase }, { on := 3, ground := Ground.phase }, { on := 4, ground := Ground.phase }, { on := 5, ground := Ground.phase }, { on := 6, ground := Ground.phase }, { on := 7, ground := Ground.phase }, { on := 8, ground := Ground.phase }, { on := 9, ground := Ground.phase }, { on := 10, ground := Ground.phase }, { on := 11, ground := Ground.phase }, { on := 12, ground := Ground.phase }, { on := 13, ground := Ground.phase }, { on := 14, ground := Ground.phase }, { on := 15, ground := Ground.phase }], guard := none }) (v := .pointer (some ⟨w.heap.size, 0, none⟩)) rfl (by kernel_rfl) (by kernel_rfl) (by kernel_rfl) (fun _ _ _ h => h) (Or.inl ⟨by rfl, fun w hSw => by go_simp⟩) (by assumption) ?_
        try simp only [Act.put, List.setIfInBounds_toArray, List.set_cons_zero, List.set_cons_succ]
        refine wpAnyH_ready (rs := [17]) (by kernel_rfl) (by simp) ?_
        refine AllReadyH.cons (o := { dst := none, op := Op.store 26 (Operand.tmp 111) (Operand.tmp 110), type := 0, pos := "law.go:89", after := #[{ on := 16, ground := Ground.data }, { on := 15, ground := Ground.data }, { on := 15, ground := Ground.chain }, { on := 0, ground := Ground.phase }, { on := 1, ground := Ground.phase }, { on := 2, ground := Ground.phase }, { on := 3, ground := Ground.phase }, { on := 4, ground := Ground.phase }, { on := 5, ground := Ground.phase }, { on := 6, ground := Ground.phase }, { on := 7, ground := Ground.phase }, { on := 8, ground := Ground.phase }, { on := 9, ground := Ground.phase }, { on := 10, ground := Ground.phase }, { on := 11, ground := Ground.phase }, { on := 12, ground := Ground.phase }, { on := 13, ground := Ground.phase }, { on := 14, ground := Ground.phase }, { on := 15, ground := Ground.phase }], guard := none }) rfl (fun K hK => ?_) AllReadyH.nil
        have HZD := Lib.hid (HQ1.out.put1 HB5.out HO5.out)
        obtain ⟨t0, t1, tf⟩ := row2 (brow HB5.out HQ1.out.r0)
        have hw5 : w.heap.size < w5.heap.size := (Array.getElem?_eq_some_iff.1 (brow HB5.out HQ1.out.r0)).1
        go_simp
        refine hK.out _ _ ⟨hHeld.1.trans (Fr.grown (Src.set_grown w5 ⟨w.heap.size, 0, none⟩ _) (fun k e => (Option.some.inj e).symm)), _, HZD.out.r0⟩ (fun hHeld2 => ?_)
        clear hK K hHeld hHeld2 t0 t1 tf hw5
        try simp only [Act.put, List.setIfInBounds_toArray, List.set_cons_zero, List.set_cons_succ]
        generalize w5.setCell _ _ = w6 at *
        refine wpAnyH_done (by kernel_rfl) ?_ _
        try unfold NoPanic
        obtain ⟨t0, t1, tf⟩ := row2 HZD.out.r0
        obtain ⟨s0, s1, sf⟩ := row2 (HZD.out.row (k := w.heap.size + 2) (x := #[.slice none 0 0, .int .u64 0]) (t := 29) (by simp))
        have hwsf : w.heap.size + 2 < _ := (Array.getElem?_eq_some_iff.1 (HZD.out.row (k := w.heap.size + 2) (x := #[.slice none 0 0, .int .u64 0]) (t := 29) (by simp))).1
        go_wp2
        exact bodyPost_ret (Src.results_ct rfl _ _ (w.heap.size + 2) 29 _ (0, 0) _ (.bool true) rfl rfl (Src.Tab_set2 (HZD.out.row (k := w.heap.size + 2) (x := #[.slice none 0 0, .int .u64 0]) (t := 29) (by simp)) _ _) Try.underlying29 rfl (by kernel_rfl)) rfl (by rw [← HLST.out]; have := HN5.out; subst this; exact HZD.out.fin (by simp))
      · go_simp
        have Bx := (Below.refl wz.heap.size wz).alloc (Nat.le_refl _) (.cells #[.int .u32 (a : Int), .int .u8 (m : Int), .int .i64 (y : Int), .int .i64 (nd : Int), .int .u16 (s : Int), .int .u16 (M : Int), .int .u64 (T5 : Int)] 43)
        have HBX := Lib.hid (heap_alloc_new wz (.cells #[.int .u32 (a : Int), .int .u8 (m : Int), .int .i64 (y : Int), .int .i64 (nd : Int), .int .u16 (s : Int), .int .u16 (M : Int), .int .u64 (T5 : Int)] 43))
        try replace HO := Lib.hid (HO.out.kept Bx)
        replace HB := Lib.hid (HB.out.trans (Bx.mono HB.out.size))
        have hS2 := And.intro (hHeld.1.step Bx) (hHeld.2.imp fun _ h => brow Bx h)
        clear Bx
        obtain ⟨bx, hbx⟩ : ∃ bx, bx = wz.heap.size := ⟨_, rfl⟩
        rw [← hbx] at HBX ⊢
        clear hbx
        generalize wz.alloc _ = wa at *
        refine hK.out _ _ hS2 (fun hHeld2 => ?_)
        clear hK K hHeld hS2
        have hHeld := hHeld2
        clear hHeld2
        try simp only [Act.put, List.setIfInBounds_toArray, List.set_cons_zero, List.set_cons_succ]
        refine wpAnyH_ready (rs := [2]) (by kernel_rfl) (by simp) ?_
        refine (AllReadyH.cons (o := { dst := some 97, op := Op.call { callee := Callee.builtin Builtin.append, args := #[Operand.const (Value.slice none 0 0), Operand.tmp 96], argTypes := #[26, 26] }, type := 26, pos := "law.go:89", after := #[{ on := 1, ground := Ground.data }], guard := none }) rfl (fun K hK => ?_) AllReadyH.nil)
        obtain ⟨v2, w2, hrun2, O2, Bx⟩ := app_nil_run wa A9 (l.eraseIdx fi).length c9 (l.eraseIdx fi) rfl (HSL.out.below HB.out) HNL.out HLE.out
        refine Lib.wp_append_run _ (.const (.slice none 0 0)) (.tmp 96) 26 26 rfl _ _ rfl rfl _ _ hrun2 ?_
        have HO := Lib.hid (own_mono O2 HB.out.size)
        obtain ⟨A9, c9, hv9, -, -⟩ := O2.form
        replace HB := Lib.hid (HB.out.trans (Bx.mono HB.out.size))
        try replace HBX := Lib.hid (brow Bx HBX.out)
        have hS2 := And.intro (hHeld.1.step Bx) (hHeld.2.imp fun _ h => brow Bx h)
        subst hv9
        clear O2 Bx hrun2
        refine hK.out _ _ hS2 (fun hHeld2 => ?_)
        clear hK K hHeld hS2
        have hHeld := hHeld2
        clear hHeld2
        try simp only [Act.put, List.setIfInBounds_toArray, List.set_cons_zero, List.set_cons_succ]
        refine wpAnyH_ready (rs := [15]) (by kernel_rfl) (by simp) ?_
        refine AllReadyH.cons (o := { dst := some 110, op := Op.call { callee := Callee.builtin Builtin.append, args := #[Operand.tmp 97, Operand.tmp 109], argTypes := #[26, 26] }, type := 26, pos := "law.go:89", after := #[{ on := 2, ground := Ground.data }, { on := 14, ground := Ground.data }, { on := 2, ground := Ground.chain }], guard := none }) rfl (fun K hK => ?_) AllReadyH.nil
        obtain ⟨v5, w5, hrun5, O5, G5⟩ := app_one_run w2 wz.heap.size (.slice A9 (l.eraseIdx fi).length c9) (l.eraseIdx fi) ⟨a, m, y, nd, s, M, T5⟩ bx HO.out (cl_at HBX.out) HLE.out HB.out.size
        refine Lib.wp_append_run _ (.tmp 97) (.tmp 109) 26 26 rfl _ _ rfl rfl _ _ hrun5 ?_
        have HB5 := Lib.hid (HB.out.trans (Fr.below (X := fun k => (Value.slice A9 (l.eraseIdx fi).length c9).ownBlock = some k) (Fr.grown G5 (fun k e => e)) HB.out.size (fun k e => (own_lt HO.out e).1)))
        have HO5 := Lib.hid O5
        obtain ⟨A5, c5, hv5, -, -⟩ := O5.form
        obtain ⟨n5, hn5⟩ : ∃ n5, n5 = ((l.eraseIdx fi) ++ [(⟨a, m, y, nd, s, M, T5⟩ : E)]).length := ⟨_, rfl⟩
        rw [← hn5] at hv5
        subst hv5
        have HN5 := Lib.hid hn5
        have hS2 : (fun y : World => Fr (fun k => k = w.heap.size) wz y ∧ ∃ u, y.heap[w.heap.size]? = some (.cells #[u, .int .u64 (now : Int)] 29 (0, 0))) w5 := ⟨Fr.of HB5.out, _, brow HB5.out HQ1.out.r0⟩
        clear hn5 hrun5 O5 G5
        refine hK.out _ _ hS2 (fun hHeld2 => ?_)
        clear hK K hHeld hS2
        have hHeld := hHeld2
        clear hHeld2
        try simp only [Act.put, List.setIfInBounds_toArray, List.set_cons_zero, List.set_cons_succ]
        refine wpAnyH_take (i := 16) (oi := { dst := some 111, op := Op.fieldAddr 29 (Operand.tmp 4) 0, type := 0, pos := "law.go:89", after := #[{ on := 0, ground := Ground.phase }, { on := 1, ground := Ground.phase }, { on := 2, ground := Ground.phase }, { on := 3, ground := Ground.phase }, { on := 4, ground := Ground.phase }, { on := 5, ground := Ground.phase }, { on := 6, ground := Ground.phase }, { on := 7, ground := Ground.phase }, { on := 8, ground := Ground.phase }, { on := 9, ground := Ground.phase }, { on := 10, ground := Ground.phase }, { on := 11, ground := Ground.phase }, { on := 12, ground := Ground.phase }, { on := 13, ground := Ground.phase }, { on := 14, ground := Ground.phase }, { on := 15, ground := Ground.phase }], guard := none }) (v := .pointer (some ⟨w.heap.size, 0, none⟩)) rfl (by kernel_rfl) (by kernel_rfl) (by kernel_rfl) (fun _ _ _ h => h) (Or.inl ⟨by rfl, fun w hSw => by go_simp⟩) (by assumption) ?_
        try simp only [Act.put, List.setIfInBounds_toArray, List.set_cons_zero, List.set_cons_succ]
        refine wpAnyH_ready (rs := [17]) (by kernel_rfl) (by simp) ?_
        refine AllReadyH.cons (o := { dst := none, op := Op.store 26 (Operand.tmp 111) (Operand.tmp 110), type := 0, pos := "law.go:89", after := #[{ on := 16, ground := Ground.data }, { on := 15, ground := Ground.data }, { on := 15, ground := Ground.chain }, { on := 0, ground := Ground.phase }, { on := 1, ground := Ground.phase }, { on := 2, ground := Ground.phase }, { on := 3, ground := Ground.phase }, { on := 4, ground := Ground.phase }, { on := 5, ground := Ground.phase }, { on := 6, ground := Ground.phase }, { on := 7, ground := Ground.phase }, { on := 8, ground := Ground.phase }, { on := 9, ground := Ground.phase }, { on := 10, ground := Ground.phase }, { on := 11, ground := Ground.phase }, { on := 12, ground := Ground.phase }, { on := 13, ground := Ground.phase }, { on := 14, ground := Ground.phase }, { on := 15, ground := Ground.phase }], guard := none }) rfl (fun K hK => ?_) AllReadyH.nil
        have HZD := Lib.hid (HQ1.out.put1 HB5.out HO5.out)
        obtain ⟨t0, t1, tf⟩ := row2 (brow HB5.out HQ1.out.r0)
        have hw5 : w.heap.size < w5.heap.size := (Array.getElem?_eq_some_iff.1 (brow HB5.out HQ1.out.r0)).1
        go_simp
        refine hK.out _ _ ⟨hHeld.1.trans (Fr.grown (Src.set_grown w5 ⟨w.heap.size, 0, none⟩ _) (fun k e => (Option.some.inj e).symm)), _, HZD.out.r0⟩ (fun hHeld2 => ?_)
        clear hK K hHeld hHeld2 t0 t1 tf hw5
        try simp only [Act.put, List.setIfInBounds_toArray, List.set_cons_zero, List.set_cons_succ]
        generalize w5.setCell _ _ = w6 at *
        refine wpAnyH_done (by kernel_rfl) ?_ _
        try unfold NoPanic
        obtain ⟨t0, t1, tf⟩ := row2 HZD.out.r0
        obtain ⟨s0, s1, sf⟩ := row2 (HZD.out.row (k := w.heap.size + 2) (x := #[.slice none 0 0, .int .u64 0]) (t := 29) (by simp))
        have hwsf : w.heap.size + 2 < _ := (Array.getElem?_eq_some_iff.1 (HZD.out.row (k := w.heap.size + 2) (x := #[.slice none 0 0, .int .u64 0]) (t := 29) (by simp))).1
        go_wp2
        exact bodyPost_ret (Src.results_ct rfl _ _ (w.heap.size + 2) 29 _ (0, 0) _ (.bool true) rfl rfl (Src.Tab_set2 (HZD.out.row (k := w.heap.size + 2) (x := #[.slice none 0 0, .int .u64 0]) (t := 29) (by simp)) _ _) Try.underlying29 rfl (by kernel_rfl)) rfl (by rw [← HLST.out]; have := HN5.out; subst this; exact HZD.out.fin (by simp))
    · go_simp
      have Bx := (Below.refl wz.heap.size wz).alloc (Nat.le_refl _) (.cells #[.int .u32 (a : Int), .int .u8 (m : Int), .int .i64 (y : Int), .int .i64 (nd : Int), .int .u16 (s : Int), .int .u16 (M : Int), .int .u64 (T5 : Int)] 43)
      have HBX := Lib.hid (heap_alloc_new wz (.cells #[.int .u32 (a : Int), .int .u8 (m : Int), .int .i64 (y : Int), .int .i64 (nd : Int), .int .u16 (s : Int), .int .u16 (M : Int), .int .u64 (T5 : Int)] 43))
      try replace HO := Lib.hid (HO.out.kept Bx)
      replace HB := Lib.hid (HB.out.trans (Bx.mono HB.out.size))
      have hS2 := And.intro (hHeld.1.step Bx) (hHeld.2.imp fun _ h => brow Bx h)
      clear Bx
      obtain ⟨bx, hbx⟩ : ∃ bx, bx = wz.heap.size := ⟨_, rfl⟩
      rw [← hbx] at HBX ⊢
      clear hbx
      generalize wz.alloc _ = wa at *
      refine hK.out _ _ hS2 (fun hHeld2 => ?_)
      clear hK K hHeld hS2
      have hHeld := hHeld2
      clear hHeld2
      try simp only [Act.put, List.setIfInBounds_toArray, List.set_cons_zero, List.set_cons_succ]
      refine wpAnyH_ready (rs := [1]) (by kernel_rfl) (by simp) ?_
      refine (AllReadyH.cons (o := { dst := some 96, op := Op.load 26 (Operand.tmp 95), type := 26, pos := "law.go:89", after := #[{ on := 0, ground := Ground.data }], guard := none }) rfl (fun K hK => ?_) AllReadyH.nil)
      obtain ⟨t0, t1, -⟩ := row2 (brow HB.out HQ1.out.r0)
      go_simp
      have hS2 := hHeld
      refine hK.out _ _ hS2 (fun hHeld2 => ?_)
      clear hK K hHeld hS2
      have hHeld := hHeld2
      clear hHeld2
      try simp only [Act.put, List.setIfInBounds_toArray, List.set_cons_zero, List.set_cons_succ]
      clear t0 t1
      refine wpAnyH_ready (rs := [2]) (by kernel_rfl) (by simp) ?_
      refine (AllReadyH.cons (o := { dst := some 97, op := Op.call { callee := Callee.builtin Builtin.append, args := #[Operand.const (Value.slice none 0 0), Operand.tmp 96], argTypes := #[26, 26] }, type := 26, pos := "law.go:89", after := #[{ on := 1, ground := Ground.data }], guard := none }) rfl (fun K hK => ?_) AllReadyH.nil)
      obtain ⟨v2, w2, hrun2, O2, Bx⟩ := app_nil_run wa A9 (l.eraseIdx fi).length c9 (l.eraseIdx fi) rfl (HSL.out.below HB.out) HNL.out HLE.out
      refine Lib.wp_append_run _ (.const (.slice none 0 0)) (.tmp 96) 26 26 rfl _ _ rfl rfl _ _ hrun2 ?_
      have HO := Lib.hid (own_mono O2 HB.out.size)
      obtain ⟨A9, c9, hv9, -, -⟩ := O2.form
      replace HB := Lib.hid (HB.out.trans (Bx.mono HB.out.size))
      try replace HBX := Lib.hid (brow Bx HBX.out)
      have hS2 := And.intro (hHeld.1.step Bx) (hHeld.2.imp fun _ h => brow Bx h)
      subst hv9
      clear O2 Bx hrun2
      refine hK.out _ _ hS2 (fun hHeld2 => ?_)
      clear hK K hHeld hS2
      have hHeld := hHeld2
      clear hHeld2
      try simp only [Act.put, List.setIfInBounds_toArray, List.set_cons_zero, List.set_cons_succ]
      refine wpAnyH_ready (rs := [15]) (by kernel_rfl) (by simp) ?_
      refine AllReadyH.cons (o := { dst := some 110, op := Op.call { callee := Callee.builtin Builtin.append, args := #[Operand.tmp 97, Operand.tmp 109], argTypes := #[26, 26] }, type := 26, pos := "law.go:89", after := #[{ on := 2, ground := Ground.data }, { on := 14, ground := Ground.data }, { on := 2, ground := Ground.chain }], guard := none }) rfl (fun K hK => ?_) AllReadyH.nil
      obtain ⟨v5, w5, hrun5, O5, G5⟩ := app_one_run w2 wz.heap.size (.slice A9 (l.eraseIdx fi).length c9) (l.eraseIdx fi) ⟨a, m, y, nd, s, M, T5⟩ bx HO.out (cl_at HBX.out) HLE.out HB.out.size
      refine Lib.wp_append_run _ (.tmp 97) (.tmp 109) 26 26 rfl _ _ rfl rfl _ _ hrun5 ?_
      have HB5 := Lib.hid (HB.out.trans (Fr.below (X := fun k => (Value.slice A9 (l.eraseIdx fi).length c9).ownBlock = some k) (Fr.grown G5 (fun k e => e)) HB.out.size (fun k e => (own_lt HO.out e).1)))
      have HO5 := Lib.hid O5
      obtain ⟨A5, c5, hv5, -, -⟩ := O5.form
      obtain ⟨n5, hn5⟩ : ∃ n5, n5 = ((l.eraseIdx fi) ++ [(⟨a, m, y, nd, s, M, T5⟩ : E)]).length := ⟨_, rfl⟩
      rw [← hn5] at hv5
      subst hv5
      have HN5 := Lib.hid hn5
      have hS2 : (fun y : World => Fr (fun k => k = w.heap.size) wz y ∧ ∃ u, y.heap[w.heap.size]? = some (.cells #[u, .int .u64 (now : Int)] 29 (0, 0))) w5 := ⟨Fr.of HB5.out, _, brow HB5.out HQ1.out.r0⟩
      clear hn5 hrun5 O5 G5
      refine hK.out _ _ hS2 (fun hHeld2 => ?_)
      clear hK K hHeld hS2
      have hHeld := hHeld2
      clear hHeld2
      try simp only [Act.put, List.setIfInBounds_toArray, List.set_cons_zero, List.set_cons_succ]
      refine wpAnyH_take (i := 16) (oi := { dst := some 111, op := Op.fieldAddr 29 (Operand.tmp 4) 0, type := 0, pos := "law.go:89", after := #[{ on := 0, ground := Ground.phase }, { on := 1, ground := Ground.phase }, { on := 2, ground := Ground.phase }, { on := 3, ground := Ground.phase }, { on := 4, ground := Ground.phase }, { on := 5, ground := Ground.phase }, { on := 6, ground := Ground.phase }, { on := 7, ground := Ground.phase }, { on := 8, ground := Ground.phase }, { on := 9, ground := Ground.phase }, { on := 10, ground := Ground.phase }, { on := 11, ground := Ground.phase }, { on := 12, ground := Ground.phase }, { on := 13, ground := Ground.phase }, { on := 14, ground := Ground.phase }, { on := 15, ground := Ground.phase }], guard := none }) (v := .pointer (some ⟨w.heap.size, 0, none⟩)) rfl (by kernel_rfl) (by kernel_rfl) (by kernel_rfl) (fun _ _ _ h => h) (Or.inl ⟨by rfl, fun w hSw => by go_simp⟩) (by assumption) ?_
      try simp only [Act.put, List.setIfInBounds_toArray, List.set_cons_zero, List.set_cons_succ]
      refine wpAnyH_ready (rs := [17]) (by kernel_rfl) (by simp) ?_
      refine AllReadyH.cons (o := { dst := none, op := Op.store 26 (Operand.tmp 111) (Operand.tmp 110), type := 0, pos := "law.go:89", after := #[{ on := 16, ground := Ground.data }, { on := 15, ground := Ground.data }, { on := 15, ground := Ground.chain }, { on := 0, ground := Ground.phase }, { on := 1, ground := Ground.phase }, { on := 2, ground := Ground.phase }, { on := 3, ground := Ground.phase }, { on := 4, ground := Ground.phase }, { on := 5, ground := Ground.phase }, { on := 6, ground := Ground.phase }, { on := 7, ground := Ground.phase }, { on := 8, ground := Ground.phase }, { on := 9, ground := Ground.phase }, { on := 10, ground := Ground.phase }, { on := 11, ground := Ground.phase }, { on := 12, ground := Ground.phase }, { on := 13, ground := Ground.phase }, { on := 14, ground := Ground.phase }, { on := 15, ground := Ground.phase }], guard := none }) rfl (fun K hK => ?_) AllReadyH.nil
      have HZD := Lib.hid (HQ1.out.put1 HB5.out HO5.out)
      obtain ⟨t0, t1, tf⟩ := row2 (brow HB5.out HQ1.out.r0)
      have hw5 : w.heap.size < w5.heap.size := (Array.getElem?_eq_some_iff.1 (brow HB5.out HQ1.out.r0)).1
      go_simp
      refine hK.out _ _ ⟨hHeld.1.trans (Fr.grown (Src.set_grown w5 ⟨w.heap.size, 0, none⟩ _) (fun k e => (Option.some.inj e).symm)), _, HZD.out.r0⟩ (fun hHeld2 => ?_)
      clear hK K hHeld hHeld2 t0 t1 tf hw5
      try simp only [Act.put, List.setIfInBounds_toArray, List.set_cons_zero, List.set_cons_succ]
      generalize w5.setCell _ _ = w6 at *
      refine wpAnyH_done (by kernel_rfl) ?_ _
      try unfold NoPanic
      obtain ⟨t0, t1, tf⟩ := row2 HZD.out.r0
      obtain ⟨s0, s1, sf⟩ := row2 (HZD.out.row (k := w.heap.size + 2) (x := #[.slice none 0 0, .int .u64 0]) (t := 29) (by simp))
      have hwsf : w.heap.size + 2 < _ := (Array.getElem?_eq_some_iff.1 (HZD.out.row (k := w.heap.size + 2) (x := #[.slice none 0 0, .int .u64 0]) (t := 29) (by simp))).1
      go_wp2
      exact bodyPost_ret (Src.results_ct rfl _ _ (w.heap.size + 2) 29 _ (0, 0) _ (.bool true) rfl rfl (Src.Tab_set2 (HZD.out.row (k := w.heap.size + 2) (x := #[.slice none 0 0, .int .u64 0]) (t := 29) (by simp)) _ _) Try.underlying29 rfl (by kernel_rfl)) rfl (by rw [← HLST.out]; have := HN5.out; subst this; exact HZD.out.fin (by simp))
end Go.Proofs.Ytkbhmdoichiinaa.Rts

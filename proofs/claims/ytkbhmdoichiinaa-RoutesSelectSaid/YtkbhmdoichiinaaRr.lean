/- The law's own do: what is dropped, and time that goes by. -/
import Derived.Test.YtkbhmdoichiinaaRq
namespace Go.Proofs.Ytkbhmdoichiinaa.Rts
open Pre Ser
open Go.Proofs.Ytkbhmdoichiinaa.Src (row1 row2)
open Go.ChangeShapes Go.WideShapes Go.ChangeAt Go.RowKit
set_option maxRecDepth 8000
set_option linter.unusedVariables false

open Go.Proofs.Ytkbhmdoichiinaa.Src (pA pN pA_lt pN_le)
theorem row5 {w : World} {b : Nat} {t : TypeId} {x0 x1 x2 x3 x4 : Value} (h : w.heap[b]? = some (.cells #[x0, x1, x2, x3, x4] t (0, 0))) : w.cell? ⟨b, 0, none⟩ = some x0 ∧ w.cell? ⟨b, 1, none⟩ = some x1 ∧ w.cell? ⟨b, 2, none⟩ = some x2 ∧ w.cell? ⟨b, 3, none⟩ = some x3 ∧ w.cell? ⟨b, 4, none⟩ = some x4 :=
  ⟨cell_of_row w b 0 _ t (0, 0) h, cell_of_row w b 1 _ t (0, 0) h, cell_of_row w b 2 _ t (0, 0) h, cell_of_row w b 3 _ t (0, 0) h, cell_of_row w b 4 _ t (0, 0) h⟩
set_option maxHeartbeats 4000000 in
theorem do_drop (w : World) (lo q : Nat) (v : Value) (L l : List E) (A : Option Addr) (c n now : Nat) (d : ActD) (hn : n = l.length) (hP : PL lo w q L v (.slice A n c) l) (hI : Inv L l now) (hlen : n ≤ 100) (hd : d.Ok) (hnow : now < 1000000) (hk : d.K % 11 = 7) :
    Calls Try.prog 10 #[.pointer (some ⟨q, 0, none⟩), .agg #[.slice A n c, .int .u64 (now : Int)], .agg #[.int .u8 (d.K : Int), .int .u8 (d.B : Int), .int .u8 (d.P : Int), .int .u8 (d.Q : Int), .int .u16 (d.M : Int)]] w (DoSaid lo w q v (d.rts now L) (d.lst now l) (d.time now)) := by
  have hinv := ActD.inv hd hI (by omega)
  obtain ⟨K, B, P, Q, M⟩ := d
  obtain ⟨h1, h2, h3, h4, h5⟩ := hd
  simp only at h1 h2 h3 h4 h5 hk
  have HD0 := Lib.hid (DX.start (now := now) hP #[.int .u8 (K : Int), .int .u8 (B : Int), .int .u8 (P : Int), .int .u8 (Q : Int), .int .u16 (M : Int)])
  obtain ⟨W, hW⟩ : ∃ W, W = ((w.alloc (.cells #[.slice A n c, .int .u64 (now : Int)] 29)).alloc (.cells #[.int .u8 (K : Int), .int .u8 (B : Int), .int .u8 (P : Int), .int .u8 (Q : Int), .int .u16 (M : Int)] 34)).alloc (.cells #[.slice none 0 0, .int .u64 0] 29) := ⟨_, rfl⟩
  rw [← hW] at HD0
  have HWE := Lib.hid hW
  obtain ⟨x0, x1, x2, x3, x4⟩ := row5 (HD0.out.row (k := w.heap.size + 1) (x := #[.int .u8 (K : Int), .int .u8 (B : Int), .int .u8 (P : Int), .int .u8 (Q : Int), .int .u16 (M : Int)]) (t := 34) (by simp))
  obtain ⟨t0, t1, -⟩ := row2 HD0.out.r0
  have hws : w.heap.size + 2 < W.heap.size := (Array.getElem?_eq_some_iff.1 (HD0.out.row (k := w.heap.size + 2) (x := #[.slice none 0 0, .int .u64 0]) (t := 29) (by simp))).1
  rw [hW] at x0 x1 x2 x3 x4 t0 t1 hws
  have CP : Hid (∀ W, Calls Try.prog 17 #[.int .u8 (P : Int)] W fun e w' => e = .returned (.agg #[.int .u32 (pA P : Nat), .int .u8 (pN P : Nat)]) ∧ Below W.heap.size W w') := Lib.hid fun W => Src.prefix_n P h3 W
  have hLl := hI.len
  have HI := Lib.hid (And.intro hI (And.intro hn (And.intro hinv (And.intro h4 (And.intro h5 hLl)))))
  clear hP hI hn hW hinv h4 h5 hLl
  obtain ⟨y, hy⟩ : ∃ y, y = B % 8 := ⟨_, rfl⟩
  have hk1 : (K : Int) % 11 = 7 := by omega
  have hby : (B : Int) % 8 = (y : Int) := by omega
  have hwy : IntKind.i64.wrap (y : Int) = (y : Int) := by rw [IntKind.wrap_i64]; omega
  have hrts : ActD.rts ⟨K, B, P, Q, M⟩ now L = L.filter fun e => !(e.b == y) := by unfold ActD.rts; simp only; rw [if_neg (by omega), if_pos hk, hy]
  have hlst : ActD.lst ⟨K, B, P, Q, M⟩ now l = l.filter fun e => !(e.b == y) := by unfold ActD.lst; simp only; rw [if_neg (by omega), if_pos hk, hy]
  have htime : ActD.time ⟨K, B, P, Q, M⟩ now = now := by unfold ActD.time; simp only; rw [if_pos (by omega)]
  rw [hrts, hlst, htime]
  clear hrts hlst htime hk hy
  go_enter Try.func10, Try.ntmps10
  go_upto_region 3 with (go_at_call 17; (with_reducible refine (CP.out _).mono ?_); rintro en w3 ⟨rfl, B3⟩; rw [← HWE.out] at B3; have HD1 := Lib.hid ((HD0.out.step B3).step ((Below.refl _ _).alloc (Nat.le_refl _) (.cells #[.int .u32 (pA P : Nat), .int .u8 (pN P : Nat)] 39))); have HPR := Lib.hid (heap_alloc_new w3 (.cells #[.int .u32 (pA P : Nat), .int .u8 (pN P : Nat)] 39)); clear x0 x1 x2 x3 x4 t0 t1 hws)
  obtain ⟨x0, x1, x2, x3, x4⟩ := row5 (HD1.out.row (k := w.heap.size + 1) (x := #[.int .u8 (K : Int), .int .u8 (B : Int), .int .u8 (P : Int), .int .u8 (Q : Int), .int .u16 (M : Int)]) (t := 34) (by simp))
  obtain ⟨t0, t1, tf⟩ := row2 HD1.out.r0
  go_upto_region 23 with (fail)
  generalize w3.alloc _ = w4 at *
  generalize w3.heap.size = z at *
  go_upto_region 24 with (go_at_call 31; (with_reducible refine (drop_any w4 lo q v L HD1.out.p.r (by have := HI.out.2.1; have := HI.out.2.2.2.2.2; omega) HI.out.1.ok y).mono ?_); rintro en w5 hmv; obtain ⟨v5, H5⟩ := HD1.out.mv hmv; obtain ⟨rfl, -⟩ := hmv; have HD2 := Lib.hid H5; clear H5)
  clear x0 x1 x2 x3 x4 t0 t1 tf
  obtain ⟨t0, t1, tf⟩ := row2 HD2.out.r0
  have hwn : IntKind.i64.wrap ((n : Int) - 1) = (n : Int) - 1 := by rw [IntKind.wrap_i64]; omega
  go_wp2
  clear hwn t0 t1 tf hk1 hby
  go_loopw [13] (fun i wr => ∃ j : Nat, j ≤ n ∧ ∃ z : Int, i = .int .i64 z ∧ z = (j : Int) - 1 ∧ ∃ vv, Hid (DX lo w wr q v (L.filter fun e => !(e.b == y)) v5 vv (dn (fun e => e.b == y) l j) now [(w.heap.size + 1, #[.int .u8 (K : Int), .int .u8 (B : Int), .int .u8 (P : Int), .int .u8 (Q : Int), .int .u16 (M : Int)], 34), (w.heap.size + 2, #[.slice none 0 0, .int .u64 0], 29)])) (fun i _ => (intOf i + 1).toNat)
  case atStart => exact ⟨n, Nat.le_refl _, _, rfl, rfl, .slice A n c, by have := HD2.out; rw [HI.out.2.1, dn_all, ← HI.out.2.1]; exact this⟩
  case round =>
    obtain ⟨j, hj, zz, rfl, hz, vv, HR⟩ := hrel
    clear HD2
    obtain ⟨A6, c6, rfl, hsl, -⟩ := HR.out.p.sl
    obtain ⟨t0, t1, tf⟩ := row2 HR.out.r0
    have hws : w.heap.size + 2 < wr.heap.size := (Array.getElem?_eq_some_iff.1 (HR.out.row (k := w.heap.size + 2) (x := #[.slice none 0 0, .int .u64 0]) (t := 29) (by simp))).1
    have hdl : (dn (fun e => e.b == y) l j).length ≤ n := by rw [HI.out.2.1]; exact dn_length _ _ _
    rcases j with _ | k
    · obtain rfl : zz = -1 := by omega
      have HZ := Lib.hid (dn_zero (fun e => e.b == y) l)
      clear hz
      obtain ⟨M6, hM6⟩ : ∃ M6, M6 = dn (fun e => e.b == y) l 0 := ⟨_, rfl⟩
      rw [← hM6] at HR HZ t0 hsl hdl
      obtain ⟨s0, s1, sf⟩ := row2 (HR.out.row (k := w.heap.size + 2) (x := #[.slice none 0 0, .int .u64 0]) (t := 29) (by simp))
      clear hM6 hdl hsl
      go_wp2
      exact bodyPost_ret (Src.results_ct rfl _ _ (w.heap.size + 2) 29 _ (0, 0) _ (.bool true) rfl rfl (Src.Tab_set2 (HR.out.row (k := w.heap.size + 2) (x := #[.slice none 0 0, .int .u64 0]) (t := 29) (by simp)) _ _) Try.underlying29 rfl (by kernel_rfl)) rfl (by rw [← HZ.out]; exact HR.out.fin (by simp))
    · obtain rfl : zz = (k : Int) := by omega
      clear hz
      have hkl : k < l.length := by have := HI.out.2.1; omega
      obtain ⟨hkm, hat⟩ := dn_at (p := fun e => e.b == y) hkl
      obtain ⟨b, o, rfl, hb, hE⟩ := hsl k hkm
      rw [hat] at hE
      have HG := Lib.hid (fun (h : l[k].b = y) => dn_gone (p := fun e => e.b == y) hkl (by simpa using h))
      have HS := Lib.hid (fun (h : l[k].b ≠ y) => dn_stays (p := fun e => e.b == y) hkl (by simpa using h))
      have HSL := Lib.hid hsl
      generalize l[k] = e at hE HG HS
      obtain ⟨M6, hM6⟩ : ∃ M6, M6 = dn (fun e => e.b == y) l (k + 1) := ⟨_, rfl⟩
      rw [← hM6] at HR HG HS t0 hkm HSL hdl
      clear hM6 hat hsl
      obtain ⟨k0, k1, k2, k3, k4, k5, k6⟩ := hE
      by_cases hey : e.b = y
      · have HG2 := Lib.hid (HG.out hey)
        subst hey
        clear HG HS
        have hkw : IntKind.i64.wrap ((k : Int) - 1) = (k : Int) - 1 := by rw [IntKind.wrap_i64]; omega
        go_wp2_with (go_at_call 30; (with_reducible refine (without_any wr (some ⟨b, o, none⟩) M6.length c6 now M6 rfl (by omega) HSL.out k).mono ?_); rintro en w6 ⟨v6, rfl, O6, B6⟩; obtain ⟨A7, c7, hv7, -, -⟩ := O6.form; subst hv7; have H7 := Lib.hid (HR.out.put2 B6 O6 now); obtain ⟨t0, t1, tf⟩ := row2 (brow B6 HR.out.r0); have hws6 := Nat.lt_of_lt_of_le hws B6.size; clear O6 B6 k0 k1 k2 k3 k4 k5 k6)
        go_roundw
        case rel => exact ⟨k, by omega, _, rfl, rfl, .slice A7 (M6.eraseIdx k).length c7, by rw [← HG2.out]; exact H7.out⟩
        case measure => simp [intOf]
      · have HS2 := Lib.hid (HS.out hey)
        have hey2 : ¬ (e.b : Int) = (y : Int) := by omega
        clear HG HS
        have hkw : IntKind.i64.wrap ((k : Int) - 1) = (k : Int) - 1 := by rw [IntKind.wrap_i64]; omega
        go_wp2
        go_roundw
        case rel => exact ⟨k, by omega, _, rfl, rfl, _, HS2.out ▸ HR.out⟩
        case measure => simp [intOf]
set_option maxHeartbeats 4000000 in
theorem do_tick (w : World) (lo q : Nat) (v : Value) (L l : List E) (A : Option Addr) (c n now : Nat) (d : ActD) (hn : n = l.length) (hP : PL lo w q L v (.slice A n c) l) (hI : Inv L l now) (hlen : n ≤ 100) (hd : d.Ok) (hnow : now < 1000000) (hk : 7 < d.K % 11) :
    Calls Try.prog 10 #[.pointer (some ⟨q, 0, none⟩), .agg #[.slice A n c, .int .u64 (now : Int)], .agg #[.int .u8 (d.K : Int), .int .u8 (d.B : Int), .int .u8 (d.P : Int), .int .u8 (d.Q : Int), .int .u16 (d.M : Int)]] w (DoSaid lo w q v (d.rts now L) (d.lst now l) (d.time now)) := by
  have hinv := ActD.inv hd hI (by omega)
  obtain ⟨K, B, P, Q, M⟩ := d
  obtain ⟨h1, h2, h3, h4, h5⟩ := hd
  simp only at h1 h2 h3 h4 h5 hk
  have HD0 := Lib.hid (DX.start (now := now) hP #[.int .u8 (K : Int), .int .u8 (B : Int), .int .u8 (P : Int), .int .u8 (Q : Int), .int .u16 (M : Int)])
  obtain ⟨W, hW⟩ : ∃ W, W = ((w.alloc (.cells #[.slice A n c, .int .u64 (now : Int)] 29)).alloc (.cells #[.int .u8 (K : Int), .int .u8 (B : Int), .int .u8 (P : Int), .int .u8 (Q : Int), .int .u16 (M : Int)] 34)).alloc (.cells #[.slice none 0 0, .int .u64 0] 29) := ⟨_, rfl⟩
  rw [← hW] at HD0
  have HWE := Lib.hid hW
  obtain ⟨x0, x1, x2, x3, x4⟩ := row5 (HD0.out.row (k := w.heap.size + 1) (x := #[.int .u8 (K : Int), .int .u8 (B : Int), .int .u8 (P : Int), .int .u8 (Q : Int), .int .u16 (M : Int)]) (t := 34) (by simp))
  obtain ⟨t0, t1, -⟩ := row2 HD0.out.r0
  have hws : w.heap.size + 2 < W.heap.size := (Array.getElem?_eq_some_iff.1 (HD0.out.row (k := w.heap.size + 2) (x := #[.slice none 0 0, .int .u64 0]) (t := 29) (by simp))).1
  rw [hW] at x0 x1 x2 x3 x4 t0 t1 hws
  have CP : Hid (∀ W, Calls Try.prog 17 #[.int .u8 (P : Int)] W fun e w' => e = .returned (.agg #[.int .u32 (pA P : Nat), .int .u8 (pN P : Nat)]) ∧ Below W.heap.size W w') := Lib.hid fun W => Src.prefix_n P h3 W
  have hLl := hI.len
  have HI := Lib.hid (And.intro hI (And.intro hn (And.intro hinv (And.intro h4 (And.intro h5 hLl)))))
  clear hP hI hn hW hinv h4 h5 hLl
  obtain ⟨y, hy⟩ : ∃ y, y = B % 8 := ⟨_, rfl⟩
  obtain ⟨T, hT⟩ : ∃ T, T = now + Q % 40 := ⟨_, rfl⟩
  obtain ⟨k0, hk0⟩ : ∃ k0, k0 = K % 11 := ⟨_, rfl⟩
  obtain ⟨q0, hq0⟩ : ∃ q0, q0 = Q % 40 := ⟨_, rfl⟩
  have hk1 : (K : Int) % 11 = (k0 : Int) := by omega
  have hk2 : ¬ (k0 : Int) < 7 := by omega
  have hk3 : ((k0 : Int) == 7) = false := by simp; omega
  have hq1 : (Q : Int) % 40 = (q0 : Int) := by omega
  have hby : (B : Int) % 8 = (y : Int) := by omega
  have hwy : IntKind.i64.wrap (y : Int) = (y : Int) := by rw [IntKind.wrap_i64]; omega
  have hwq : IntKind.u64.wrap (q0 : Int) = (q0 : Int) := by rw [IntKind.wrap_u64]; omega
  have hwt : IntKind.u64.wrap ((now : Int) + (q0 : Int)) = (T : Int) := by rw [IntKind.wrap_u64]; omega
  have hrts : ActD.rts ⟨K, B, P, Q, M⟩ now L = L.filter fun e => !(decide (e.u ≤ T)) := by unfold ActD.rts ActD.time; simp only; rw [if_neg (by omega), if_neg (by omega), if_neg (by omega), hT]
  have hlst : ActD.lst ⟨K, B, P, Q, M⟩ now l = l.filter fun e => !(decide (e.u ≤ T)) := by unfold ActD.lst ActD.time; simp only; rw [if_neg (by omega), if_neg (by omega), if_neg (by omega), hT]
  have htime : ActD.time ⟨K, B, P, Q, M⟩ now = T := by unfold ActD.time; simp only; rw [if_neg (by omega), hT]
  rw [hrts, hlst, htime]
  clear hrts hlst htime hk hy hk0 hq0 hT
  go_enter Try.func10, Try.ntmps10
  go_upto_region 3 with (go_at_call 17; (with_reducible refine (CP.out _).mono ?_); rintro en w3 ⟨rfl, B3⟩; rw [← HWE.out] at B3; have HD1 := Lib.hid ((HD0.out.step B3).step ((Below.refl _ _).alloc (Nat.le_refl _) (.cells #[.int .u32 (pA P : Nat), .int .u8 (pN P : Nat)] 39))); have HPR := Lib.hid (heap_alloc_new w3 (.cells #[.int .u32 (pA P : Nat), .int .u8 (pN P : Nat)] 39)); clear x0 x1 x2 x3 x4 t0 t1 hws)
  obtain ⟨x0, x1, x2, x3, x4⟩ := row5 (HD1.out.row (k := w.heap.size + 1) (x := #[.int .u8 (K : Int), .int .u8 (B : Int), .int .u8 (P : Int), .int .u8 (Q : Int), .int .u16 (M : Int)]) (t := 34) (by simp))
  obtain ⟨t0, t1, tf⟩ := row2 HD1.out.r0
  go_upto_region 4 with (fail)
  generalize w3.alloc _ = w4 at *
  generalize w3.heap.size = z at *
  have hw4 : w.heap.size < w4.heap.size := (Array.getElem?_eq_some_iff.1 HD1.out.r0).1
  have HD1t := Lib.hid (HD1.out.time T)
  go_upto_region 5 with (fail)
  clear x0 x1 x2 x3 x4 t0 t1 tf
  generalize w4.setCell _ _ = w4t at *
  obtain ⟨t0, t1, tf⟩ := row2 HD1t.out.r0
  go_upto_region 6 with (go_at_call 27; (with_reducible refine (tick_any w4t lo q v L HD1t.out.p.r (by have := HI.out.2.1; have := HI.out.2.2.2.2.2; omega) HI.out.1.ok T).mono ?_); rintro en w5 hmv; obtain ⟨v5, H5⟩ := HD1t.out.mv hmv; obtain ⟨rfl, -⟩ := hmv; have HD2 := Lib.hid H5; clear H5)
  clear t0 t1 tf
  obtain ⟨t0, t1, tf⟩ := row2 HD2.out.r0
  have hwn : IntKind.i64.wrap ((n : Int) - 1) = (n : Int) - 1 := by rw [IntKind.wrap_i64]; omega
  go_wp2
  clear hwn t0 t1 tf hk1 hby hk2 hk3 hq1 hwy hwq hwt hw4
  go_loopw [14] (fun i wr => ∃ j : Nat, j ≤ n ∧ ∃ z : Int, i = .int .i64 z ∧ z = (j : Int) - 1 ∧ ∃ vv, Hid (DX lo w wr q v (L.filter fun e => !(decide (e.u ≤ T))) v5 vv (dn (fun e : E => decide (e.u ≤ T)) l j) T [(w.heap.size + 1, #[.int .u8 (K : Int), .int .u8 (B : Int), .int .u8 (P : Int), .int .u8 (Q : Int), .int .u16 (M : Int)], 34), (w.heap.size + 2, #[.slice none 0 0, .int .u64 0], 29)])) (fun i _ => (intOf i + 1).toNat)
  case atStart => exact ⟨n, Nat.le_refl _, _, rfl, rfl, .slice A n c, by have := HD2.out; rw [HI.out.2.1, dn_all, ← HI.out.2.1]; exact this⟩
  case round =>
    obtain ⟨j, hj, zz, rfl, hz, vv, HR⟩ := hrel
    clear HD2
    obtain ⟨A6, c6, rfl, hsl, -⟩ := HR.out.p.sl
    have hws : w.heap.size + 2 < wr.heap.size := (Array.getElem?_eq_some_iff.1 (HR.out.row (k := w.heap.size + 2) (x := #[.slice none 0 0, .int .u64 0]) (t := 29) (by simp))).1
    have hdl : (dn (fun e : E => decide (e.u ≤ T)) l j).length ≤ n := by rw [HI.out.2.1]; exact dn_length _ _ _
    rcases j with _ | k
    · obtain rfl : zz = -1 := by omega
      have HZ := Lib.hid (dn_zero (fun e : E => decide (e.u ≤ T)) l)
      clear hz
      obtain ⟨M6, hM6⟩ : ∃ M6, M6 = dn (fun e : E => decide (e.u ≤ T)) l 0 := ⟨_, rfl⟩
      rw [← hM6] at HR HZ hsl hdl
      obtain ⟨t0, t1, tf⟩ := row2 HR.out.r0
      obtain ⟨s0, s1, sf⟩ := row2 (HR.out.row (k := w.heap.size + 2) (x := #[.slice none 0 0, .int .u64 0]) (t := 29) (by simp))
      clear hM6 hdl hsl
      go_wp2
      exact bodyPost_ret (Src.results_ct rfl _ _ (w.heap.size + 2) 29 _ (0, 0) _ (.bool true) rfl rfl (Src.Tab_set2 (HR.out.row (k := w.heap.size + 2) (x := #[.slice none 0 0, .int .u64 0]) (t := 29) (by simp)) _ _) Try.underlying29 rfl (by kernel_rfl)) rfl (by rw [← HZ.out]; exact HR.out.fin (by simp))
    · obtain rfl : zz = (k : Int) := by omega
      clear hz
      have hkl : k < l.length := by have := HI.out.2.1; omega
      obtain ⟨hkm, hat⟩ := dn_at (p := (fun e : E => decide (e.u ≤ T))) hkl
      obtain ⟨b, o, rfl, hb, hE0⟩ := hsl k hkm
      rw [hat] at hE0
      have HG := Lib.hid (fun (h : l[k].u ≤ T) => dn_gone (p := (fun e : E => decide (e.u ≤ T))) hkl (by simpa using h))
      have HS := Lib.hid (fun (h : ¬ l[k].u ≤ T) => dn_stays (p := (fun e : E => decide (e.u ≤ T))) hkl (by simpa using h))
      have HSL := Lib.hid hsl
      generalize l[k] = e at hE0 HG HS
      obtain ⟨M6, hM6⟩ : ∃ M6, M6 = dn (fun e : E => decide (e.u ≤ T)) l (k + 1) := ⟨_, rfl⟩
      rw [← hM6] at HR HG HS hkm HSL hdl
      have HE := Lib.hid (And.intro hb hE0)
      clear hM6 hat hsl hE0 hb
      have hkw : IntKind.i64.wrap ((k : Int) - 1) = (k : Int) - 1 := by rw [IntKind.wrap_i64]; omega
      go_upto_region 9 with (fail)
      clear hkw
      have hks : (k : Int) < M6.length := by omega
      by_cases hey : e.u ≤ T
      · have HG2 := Lib.hid (HG.out hey)
        have hle : (e.u : Int) ≤ (T : Int) := by omega
        clear HG HS hey
        refine wp_region_noPanic ?_
        refine wp_region_held_drew (S := fun y : World => Below wr.heap.size wr y) (by kernel_rfl) ((Below.refl _ _).drew) (fun hHeld => ?_)
        generalize wr.drew = wd at *
        refine wpAnyH_take (i := 0) (oi := { dst := some 45, op := Op.fieldAddr 29 (Operand.tmp 4) 1, type := 0, pos := "law.go:102", after := #[], guard := none }) (v := .pointer (some ⟨w.heap.size, 1, none⟩)) rfl (by kernel_rfl) (by kernel_rfl) (by kernel_rfl) (fun _ _ _ h => h) (Or.inl ⟨by rfl, fun w hSw => by go_simp⟩) (by assumption) ?_
        try simp only [Act.put, List.setIfInBounds_toArray, List.set_cons_zero, List.set_cons_succ]
        refine wpAnyH_take (i := 1) (oi := { dst := some 46, op := Op.load 27 (Operand.tmp 45), type := 27, pos := "law.go:102", after := #[{ on := 0, ground := Ground.data }], guard := none }) (v := .int .u64 (T : Int)) rfl (by kernel_rfl) (by kernel_rfl) (by kernel_rfl) (fun _ _ _ h => h) (Or.inl ⟨by rfl, fun w hSw => by obtain ⟨p0, p1, -⟩ := row2 (brow hSw HR.out.r0); go_simp⟩) (by assumption) ?_
        try simp only [Act.put, List.setIfInBounds_toArray, List.set_cons_zero, List.set_cons_succ]
        refine wpAnyH_take (i := 2) (oi := { dst := some 47, op := Op.fieldAddr 29 (Operand.tmp 4) 0, type := 0, pos := "law.go:102", after := #[], guard := none }) (v := .pointer (some ⟨w.heap.size, 0, none⟩)) rfl (by kernel_rfl) (by kernel_rfl) (by kernel_rfl) (fun _ _ _ h => h) (Or.inl ⟨by rfl, fun w hSw => by go_simp⟩) (by assumption) ?_
        try simp only [Act.put, List.setIfInBounds_toArray, List.set_cons_zero, List.set_cons_succ]
        refine wpAnyH_take (i := 3) (oi := { dst := some 48, op := Op.load 26 (Operand.tmp 47), type := 26, pos := "law.go:102", after := #[{ on := 2, ground := Ground.data }], guard := none }) (v := .slice (some ⟨b, o, none⟩) M6.length c6) rfl (by kernel_rfl) (by kernel_rfl) (by kernel_rfl) (fun _ _ _ h => h) (Or.inl ⟨by rfl, fun w hSw => by obtain ⟨p0, p1, -⟩ := row2 (brow hSw HR.out.r0); go_simp⟩) (by assumption) ?_
        try simp only [Act.put, List.setIfInBounds_toArray, List.set_cons_zero, List.set_cons_succ]
        refine wpAnyH_take (i := 4) (oi := { dst := some 49, op := Op.move (Operand.tmp 14), type := 3, pos := "law.go:102", after := #[], guard := none }) (v := .int .i64 (k : Int)) rfl (by kernel_rfl) (by kernel_rfl) (by kernel_rfl) (fun _ _ _ h => h) (Or.inl ⟨by rfl, fun w hSw => by go_simp⟩) (by assumption) ?_
        try simp only [Act.put, List.setIfInBounds_toArray, List.set_cons_zero, List.set_cons_succ]
        refine wpAnyH_take (i := 5) (oi := { dst := some 50, op := Op.indexAddr 26 (Operand.tmp 48) (Operand.tmp 49), type := 0, pos := "law.go:102", after := #[{ on := 3, ground := Ground.data }, { on := 4, ground := Ground.data }], guard := none }) (v := .pointer (some ⟨b, o + k * 7, none⟩)) rfl (by kernel_rfl) (by kernel_rfl) (by kernel_rfl) (fun _ _ _ h => h) (Or.inl ⟨by rfl, fun w hSw => by go_simp⟩) (by assumption) ?_
        try simp only [Act.put, List.setIfInBounds_toArray, List.set_cons_zero, List.set_cons_succ]
        refine wpAnyH_take (i := 6) (oi := { dst := some 51, op := Op.fieldAddr 43 (Operand.tmp 50) 4, type := 0, pos := "law.go:102", after := #[{ on := 5, ground := Ground.data }], guard := none }) (v := .pointer (some ⟨b, o + k * 7 + 6, none⟩)) rfl (by kernel_rfl) (by kernel_rfl) (by kernel_rfl) (fun _ _ _ h => h) (Or.inl ⟨by rfl, fun w hSw => by go_simp⟩) (by assumption) ?_
        try simp only [Act.put, List.setIfInBounds_toArray, List.set_cons_zero, List.set_cons_succ]
        refine wpAnyH_take (i := 7) (oi := { dst := some 52, op := Op.load 27 (Operand.tmp 51), type := 27, pos := "law.go:102", after := #[{ on := 6, ground := Ground.data }], guard := none }) (v := .int .u64 (e.u : Int)) rfl (by kernel_rfl) (by kernel_rfl) (by kernel_rfl) (fun _ _ _ h => h) (Or.inl ⟨by rfl, fun w hSw => by obtain ⟨k0, k1, k2, k3, k4, k5, k6⟩ := HE.out.2.keep (hSw.block b HE.out.1); go_simp⟩) (by assumption) ?_
        try simp only [Act.put, List.setIfInBounds_toArray, List.set_cons_zero, List.set_cons_succ]
        refine wpAnyH_take (i := 8) (oi := { dst := some 53, op := Op.binOp BinOp.geq 27 (Operand.tmp 46) (Operand.tmp 52) 27, type := 4, pos := "law.go:102", after := #[{ on := 1, ground := Ground.data }, { on := 7, ground := Ground.data }], guard := none }) (v := .bool true) rfl (by kernel_rfl) (by kernel_rfl) (by kernel_rfl) (fun _ _ _ h => h) (Or.inl ⟨by rfl, fun w hSw => by go_simp⟩) (by assumption) ?_
        try simp only [Act.put, List.setIfInBounds_toArray, List.set_cons_zero, List.set_cons_succ]
        refine wpAnyH_done (by kernel_rfl) ?_ _
        try unfold NoPanic
        have HRd := Lib.hid (HR.out.step hHeld)
        have hsd := hHeld.size
        have HSd := Lib.hid (HSL.out.below hHeld)
        clear hHeld
        have hwsd : w.heap.size + 2 < wd.heap.size := Nat.lt_of_lt_of_le hws hsd
        have hkw : IntKind.i64.wrap ((k : Int) - 1) = (k : Int) - 1 := by rw [IntKind.wrap_i64]; omega
        obtain ⟨t0, t1, tf⟩ := row2 HRd.out.r0
        go_wp2_with (go_at_call 30; (with_reducible refine (without_any wd (some ⟨b, o, none⟩) M6.length c6 T M6 rfl (by omega) HSd.out k).mono ?_); rintro en w6 ⟨v6, rfl, O6, B6⟩; obtain ⟨A7, c7, hv7, -, -⟩ := O6.form; subst hv7; have H7 := Lib.hid (HRd.out.put2 B6 O6 T); clear t0 t1 tf; obtain ⟨t0, t1, tf⟩ := row2 (brow B6 HRd.out.r0); have hws6 := Nat.lt_of_lt_of_le hwsd B6.size; clear O6 B6)
        go_roundw
        case rel => exact ⟨k, by omega, _, rfl, rfl, .slice A7 (M6.eraseIdx k).length c7, by rw [← HG2.out]; exact H7.out⟩
        case measure => simp [intOf]
      · have HS2 := Lib.hid (HS.out hey)
        have hle : ¬ (e.u : Int) ≤ (T : Int) := by omega
        clear HG HS hey
        refine wp_region_noPanic ?_
        refine wp_region_held_drew (S := fun y : World => Below wr.heap.size wr y) (by kernel_rfl) ((Below.refl _ _).drew) (fun hHeld => ?_)
        generalize wr.drew = wd at *
        refine wpAnyH_take (i := 0) (oi := { dst := some 45, op := Op.fieldAddr 29 (Operand.tmp 4) 1, type := 0, pos := "law.go:102", after := #[], guard := none }) (v := .pointer (some ⟨w.heap.size, 1, none⟩)) rfl (by kernel_rfl) (by kernel_rfl) (by kernel_rfl) (fun _ _ _ h => h) (Or.inl ⟨by rfl, fun w hSw => by go_simp⟩) (by assumption) ?_
        try simp only [Act.put, List.setIfInBounds_toArray, List.set_cons_zero, List.set_cons_succ]
        refine wpAnyH_take (i := 1) (oi := { dst := some 46, op := Op.load 27 (Operand.tmp 45), type := 27, pos := "law.go:102", after := #[{ on := 0, ground := Ground.data }], guard := none }) (v := .int .u64 (T : Int)) rfl (by kernel_rfl) (by kernel_rfl) (by kernel_rfl) (fun _ _ _ h => h) (Or.inl ⟨by rfl, fun w hSw => by obtain ⟨p0, p1, -⟩ := row2 (brow hSw HR.out.r0); go_simp⟩) (by assumption) ?_
        try simp only [Act.put, List.setIfInBounds_toArray, List.set_cons_zero, List.set_cons_succ]
        refine wpAnyH_take (i := 2) (oi := { dst := some 47, op := Op.fieldAddr 29 (Operand.tmp 4) 0, type := 0, pos := "law.go:102", after := #[], guard := none }) (v := .pointer (some ⟨w.heap.size, 0, none⟩)) rfl (by kernel_rfl) (by kernel_rfl) (by kernel_rfl) (fun _ _ _ h => h) (Or.inl ⟨by rfl, fun w hSw => by go_simp⟩) (by assumption) ?_
        try simp only [Act.put, List.setIfInBounds_toArray, List.set_cons_zero, List.set_cons_succ]
        refine wpAnyH_take (i := 3) (oi := { dst := some 48, op := Op.load 26 (Operand.tmp 47), type := 26, pos := "law.go:102", after := #[{ on := 2, ground := Ground.data }], guard := none }) (v := .slice (some ⟨b, o, none⟩) M6.length c6) rfl (by kernel_rfl) (by kernel_rfl) (by kernel_rfl) (fun _ _ _ h => h) (Or.inl ⟨by rfl, fun w hSw => by obtain ⟨p0, p1, -⟩ := row2 (brow hSw HR.out.r0); go_simp⟩) (by assumption) ?_
        try simp only [Act.put, List.setIfInBounds_toArray, List.set_cons_zero, List.set_cons_succ]
        refine wpAnyH_take (i := 4) (oi := { dst := some 49, op := Op.move (Operand.tmp 14), type := 3, pos := "law.go:102", after := #[], guard := none }) (v := .int .i64 (k : Int)) rfl (by kernel_rfl) (by kernel_rfl) (by kernel_rfl) (fun _ _ _ h => h) (Or.inl ⟨by rfl, fun w hSw => by go_simp⟩) (by assumption) ?_
        try simp only [Act.put, List.setIfInBounds_toArray, List.set_cons_zero, List.set_cons_succ]
        refine wpAnyH_take (i := 5) (oi := { dst := some 50, op := Op.indexAddr 26 (Operand.tmp 48) (Operand.tmp 49), type := 0, pos := "law.go:102", after := #[{ on := 3, ground := Ground.data }, { on := 4, ground := Ground.data }], guard := none }) (v := .pointer (some ⟨b, o + k * 7, none⟩)) rfl (by kernel_rfl) (by kernel_rfl) (by kernel_rfl) (fun _ _ _ h => h) (Or.inl ⟨by rfl, fun w hSw => by go_simp⟩) (by assumption) ?_
        try simp only [Act.put, List.setIfInBounds_toArray, List.set_cons_zero, List.set_cons_succ]
        refine wpAnyH_take (i := 6) (oi := { dst := some 51, op := Op.fieldAddr 43 (Operand.tmp 50) 4, type := 0, pos := "law.go:102", after := #[{ on := 5, ground := Ground.data }], guard := none }) (v := .pointer (some ⟨b, o + k * 7 + 6, none⟩)) rfl (by kernel_rfl) (by kernel_rfl) (by kernel_rfl) (fun _ _ _ h => h) (Or.inl ⟨by rfl, fun w hSw => by go_simp⟩) (by assumption) ?_
        try simp only [Act.put, List.setIfInBounds_toArray, List.set_cons_zero, List.set_cons_succ]
        refine wpAnyH_take (i := 7) (oi := { dst := some 52, op := Op.load 27 (Operand.tmp 51), type := 27, pos := "law.go:102", after := #[{ on := 6, ground := Ground.data }], guard := none }) (v := .int .u64 (e.u : Int)) rfl (by kernel_rfl) (by kernel_rfl) (by kernel_rfl) (fun _ _ _ h => h) (Or.inl ⟨by rfl, fun w hSw => by obtain ⟨k0, k1, k2, k3, k4, k5, k6⟩ := HE.out.2.keep (hSw.block b HE.out.1); go_simp⟩) (by assumption) ?_
        try simp only [Act.put, List.setIfInBounds_toArray, List.set_cons_zero, List.set_cons_succ]
        refine wpAnyH_take (i := 8) (oi := { dst := some 53, op := Op.binOp BinOp.geq 27 (Operand.tmp 46) (Operand.tmp 52) 27, type := 4, pos := "law.go:102", after := #[{ on := 1, ground := Ground.data }, { on := 7, ground := Ground.data }], guard := none }) (v := .bool false) rfl (by kernel_rfl) (by kernel_rfl) (by kernel_rfl) (fun _ _ _ h => h) (Or.inl ⟨by rfl, fun w hSw => by go_simp⟩) (by assumption) ?_
        try simp only [Act.put, List.setIfInBounds_toArray, List.set_cons_zero, List.set_cons_succ]
        refine wpAnyH_done (by kernel_rfl) ?_ _
        try unfold NoPanic
        have HRd := Lib.hid (HR.out.step hHeld)
        have hsd := hHeld.size
        have HSd := Lib.hid (HSL.out.below hHeld)
        clear hHeld
        have hkw : IntKind.i64.wrap ((k : Int) - 1) = (k : Int) - 1 := by rw [IntKind.wrap_i64]; omega
        go_wp2
        go_roundw
        case rel => exact ⟨k, by omega, _, rfl, rfl, _, HS2.out ▸ HRd.out⟩
        case measure => simp [intOf]
end Go.Proofs.Ytkbhmdoichiinaa.Rts

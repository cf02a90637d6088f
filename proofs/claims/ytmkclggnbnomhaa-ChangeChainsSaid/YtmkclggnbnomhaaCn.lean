/- Contract: a change that follows another one, as bytes: the program's. -/
import Derived.Test.YtmkclggnbnomhaaCe
namespace Go.Proofs.Ytmkclggnbnomhaa.Chg
open Coin
open Go.ChangeShapes Go.WideShapes Go.ChangeAt Go.RowKit

/-- A change as a value, cell by cell. -/
def C.cells (c : C) : Array Value := #[.int .u64 c.no, .int .u64 c.time, .bool c.gone, .int .u32 c.addr, .int .u8 c.len, .int .i64 c.via, .int .u16 c.metric, .int .u16 c.seq]
/-- Two boxes, and all that was ahead of them. -/
structure Bx (w0 w : World) (x y : Array Value) : Prop where
  r0 : w.heap[w0.heap.size]? = some (.cells x 34 (0, 0))
  r1 : w.heap[w0.heap.size + 1]? = some (.cells y 34 (0, 0))
  be : Below w0.heap.size w0 w
theorem Bx.new (w : World) (x y : Array Value) : Bx w ((w.alloc (.cells x 34)).alloc (.cells y 34)) x y := by
  have h1 := heap_alloc_new w (.cells x 34)
  refine ⟨(heap_alloc_old _ _ (Array.getElem?_eq_some_iff.1 h1).1).trans h1, ?_, ((Below.refl _ _).alloc (Nat.le_refl _) _).alloc (by simp) _⟩
  have := heap_alloc_new (w.alloc (.cells x 34)) (.cells y 34)
  have e : (w.alloc (.cells x 34)).heap.size = w.heap.size + 1 := by simp
  rw [e] at this
  exact this
theorem Bx.step {w0 w w' : World} {x y : Array Value} (h : Bx w0 w x y) (B : Below w.heap.size w w') : Bx w0 w' x y :=
  ⟨(B.block _ (Array.getElem?_eq_some_iff.1 h.r0).1).trans h.r0, (B.block _ (Array.getElem?_eq_some_iff.1 h.r1).1).trans h.r1, h.be.trans (B.mono h.be.size)⟩
theorem row8 {w : World} {b : Nat} {t : TypeId} {x0 x1 x2 x3 x4 x5 x6 x7 : Value} (h : w.heap[b]? = some (.cells #[x0, x1, x2, x3, x4, x5, x6, x7] t (0, 0))) :
    w.cell? ⟨b, 0, none⟩ = some x0 ∧ w.cell? ⟨b, 1, none⟩ = some x1 ∧ w.cell? ⟨b, 2, none⟩ = some x2 ∧ w.cell? ⟨b, 3, none⟩ = some x3 ∧ w.cell? ⟨b, 4, none⟩ = some x4 ∧ w.cell? ⟨b, 5, none⟩ = some x5 ∧ w.cell? ⟨b, 6, none⟩ = some x6 ∧ w.cell? ⟨b, 7, none⟩ = some x7 :=
  ⟨cell_of_row w b 0 _ t (0, 0) h, cell_of_row w b 1 _ t (0, 0) h, cell_of_row w b 2 _ t (0, 0) h, cell_of_row w b 3 _ t (0, 0) h, cell_of_row w b 4 _ t (0, 0) h, cell_of_row w b 5 _ t (0, 0) h, cell_of_row w b 6 _ t (0, 0) h, cell_of_row w b 7 _ t (0, 0) h⟩
theorem row5 {w : World} {b : Nat} {t : TypeId} {x0 x1 x2 x3 x4 : Value} (h : w.heap[b]? = some (.cells #[x0, x1, x2, x3, x4] t (0, 0))) :
    w.cell? ⟨b, 0, none⟩ = some x0 ∧ w.cell? ⟨b, 1, none⟩ = some x1 ∧ w.cell? ⟨b, 2, none⟩ = some x2 ∧ w.cell? ⟨b, 3, none⟩ = some x3 ∧ w.cell? ⟨b, 4, none⟩ = some x4 :=
  ⟨cell_of_row w b 0 _ t (0, 0) h, cell_of_row w b 1 _ t (0, 0) h, cell_of_row w b 2 _ t (0, 0) h, cell_of_row w b 3 _ t (0, 0) h, cell_of_row w b 4 _ t (0, 0) h⟩
theorem Bx.grown {w0 w w' : World} {x y : Array Value} {g : Nat} (h : Bx w0 w x y) (G : w.grownBy w' (some g)) (hg : w0.heap.size + 1 < g) : Bx w0 w' x y :=
  ⟨(G.block _ (Array.getElem?_eq_some_iff.1 h.r0).1 (fun e => by injection e with e; omega)).trans h.r0, (G.block _ (Array.getElem?_eq_some_iff.1 h.r1).1 (fun e => by injection e with e; omega)).trans h.r1, h.be.grown G h.be.size (fun k e => by injection e with e; omega)⟩
theorem Bx.lt {w0 w : World} {x y : Array Value} (h : Bx w0 w x y) : w0.heap.size + 1 < w.heap.size := (Array.getElem?_eq_some_iff.1 h.r1).1
theorem put_g (A : Option Addr) (k c : Nat) (l : List UInt8) (n : Nat) (w : World) (hn : n < 18446744073709551616) (hk : k = l.length) (hl : l.length ≤ 900000) (R : Rd w w.heap.size A l) :
    Calls Try.prog 17 #[.slice A k c, .int .u64 n] w fun e w' => ∃ g' k', e = .returned (.slice (some ⟨g', 0, none⟩) k' k') ∧ k' = (l ++ coin n).length ∧ Row w' g' (l ++ coin n) ∧ w.heap.size ≤ g' ∧ Below w.heap.size w w' := by
  subst hk
  refine (put_any A c l n w hn hl R).mono ?_
  rintro e w' ⟨rfl, R', B⟩
  exact ⟨_, _, rfl, by rw [List.length_append, length_coin], R', Nat.le_refl _, B⟩
set_option maxRecDepth 8000 in
set_option maxHeartbeats 2000000 in
theorem enc_true (l c : C) (hg : c.gone = true) (hl : l.Ok) (hc : c.Ok) (ha : l.After c) (w : World) : Calls Try.prog 9 #[.agg l.cells, .agg c.cells] w (CoinOwn w (l.enc c)) := by
  have hso := same4 l c hc.2.2.2.1
  have hhd := head_lt l c hc.2.2.2.1
  have hO := begun_len c.addr c.len hc.2.2.2.1
  have hP := begun_len l.addr l.len hl.2.2.2.1
  have hel := enc_len l c hc.2.2.2.1
  have cO := fun W => begun_any c.addr c.len hc.2.2.1 hc.2.2.2.1 W
  have cP := fun W => begun_any l.addr l.len hl.2.2.1 hl.2.2.2.1 W
  unfold C.same at hso
  unfold C.head C.same at hhd
  unfold C.enc C.tail C.head C.same at hel ⊢
  unfold C.cells
  obtain ⟨no, time, g, a, n, via, mt, sq⟩ := l
  obtain ⟨no', time', g', a', n', via', mt', sq'⟩ := c
  obtain ⟨l1, l2, l3, l4, l5, l6, l7, l8, l9⟩ := hl
  obtain ⟨c1, c2, c3, c4, c5, c6, c7, c8, c9⟩ := hc
  obtain ⟨e1, e2⟩ := ha
  replace hg : g' = true := hg
  subst hg
  obtain ⟨rfl, rfl, rfl⟩ := c9 rfl
  clear c9
  have HL9 := Lib.hid l9
  clear l9
  try dsimp only at *
  simp only [if_true] at hhd hel ⊢
  obtain ⟨dt, hdt0⟩ : ∃ dt, dt = time' - time := ⟨_, rfl⟩
  rw [← hdt0] at hel ⊢
  have hdl : dt < 18446744073709551616 := by omega
  have hdt : (time' : Int) - time = dt := by omega
  clear hdt0 e1 e2
  generalize begun a' n' = O at *
  generalize begun a n = P at *
  obtain ⟨kO, hkO⟩ : ∃ k, O.length = k := ⟨_, rfl⟩
  obtain ⟨kP, hkP⟩ : ∃ k, P.length = k := ⟨_, rfl⟩
  unfold BegunSaid at cO cP
  rw [hkO] at cO
  rw [hkP] at cP
  rw [hkO] at hO
  rw [hkP] at hP
  have hkO4 : kO ≤ 4 := by omega
  have hkP4 : kP ≤ 4 := by omega
  have HKO := Lib.hid hkO
  have HKP := Lib.hid hkP
  obtain ⟨s, hs⟩ : ∃ s, s = same P O := ⟨_, rfl⟩
  rw [← hs] at hso hhd hel ⊢
  have hsO : s ≤ kO := by omega
  have HS := Lib.hid hs
  obtain ⟨hd, hhd2⟩ : ∃ h, h = 16 * n' + 2 * s + 1 := ⟨_, rfl⟩
  rw [← hhd2] at hhd hel ⊢
  have HH := Lib.hid hhd2
  have HB := Bx.new w #[.int .u64 no, .int .u64 time, .bool g, .int .u32 a, .int .u8 n, .int .i64 via, .int .u16 mt, .int .u16 sq] #[.int .u64 no', .int .u64 time', .bool true, .int .u32 a', .int .u8 n', .int .i64 0, .int .u16 0, .int .u16 0]
  have HEL := Lib.hid hel
  obtain ⟨p0, p1, p2, p3, p4, p5, p6, p7⟩ := row8 HB.r0
  obtain ⟨q0, q1, q2, q3, q4, q5, q6, q7⟩ := row8 HB.r1
  clear hkO hkP hs hhd2 hel hO hP
  go_enter Try.func9, Try.ntmps9
  go_wp2_with (first
    | (go_at_call 15; (with_reducible refine (cO _).mono ?_); rintro e w1 ⟨g1, hg1, rfl, RO, B1⟩; clear cO; clear p0 p1 p2 p3 p4 p5 p6 p7 q0 q1 q2 q3 q4 q5 q6 q7; have HB := HB.step B1; obtain ⟨p0, p1, p2, p3, p4, p5, p6, p7⟩ := row8 HB.r0; obtain ⟨q0, q1, q2, q3, q4, q5, q6, q7⟩ := row8 HB.r1; have hg1 : w.heap.size ≤ g1 := by simp at hg1; omega)
    | (go_at_call 15; (with_reducible refine (cP _).mono ?_); rintro e w2 ⟨g2, hg2, rfl, RP, B2⟩; clear cP; clear p0 p1 p2 p3 p4 p5 p6 p7 q0 q1 q2 q3 q4 q5 q6 q7; have HB := HB.step B2; obtain ⟨p0, p1, p2, p3, p4, p5, p6, p7⟩ := row8 HB.r0; obtain ⟨q0, q1, q2, q3, q4, q5, q6, q7⟩ := row8 HB.r1; have RO := RO.below B2 (Nat.le_refl _); have c16 := alike_any (some ⟨g2, 0, none⟩) (some ⟨g1, 0, none⟩) 4 4 P O w2 RP (RO.more B2.size) (by rw [HKP.out]; exact hkP4) (by rw [HKO.out]; exact hkO4) kP kO HKP.out.symm HKO.out.symm; rw [← HS.out] at c16)
    | (go_at_call 16; (with_reducible refine c16.mono ?_); rintro e w3 ⟨rfl, B3⟩; clear c16; clear p0 p1 p2 p3 p4 p5 p6 p7 q0 q1 q2 q3 q4 q5 q6 q7; have HB := HB.step B3; obtain ⟨p0, p1, p2, p3, p4, p5, p6, p7⟩ := row8 HB.r0; obtain ⟨q0, q1, q2, q3, q4, q5, q6, q7⟩ := row8 HB.r1; have RO := (RO.more B2.size).below B3 (Nat.le_refl _); have c17 := put_g none 0 0 [] dt w3 hdl rfl (Nat.zero_le _) (Rd.nil _ _ _); rw [List.nil_append] at c17)
    | (go_at_call 17; (with_reducible refine c17.mono ?_); rintro e w4 ⟨g4, k4, rfl, hk4, R4, hg4, B4⟩; clear c17; clear p0 p1 p2 p3 p4 p5 p6 p7 q0 q1 q2 q3 q4 q5 q6 q7; have HB := HB.step B4; obtain ⟨p0, p1, p2, p3, p4, p5, p6, p7⟩ := row8 HB.r0; obtain ⟨q0, q1, q2, q3, q4, q5, q6, q7⟩ := row8 HB.r1; have RO := (RO.more B3.size).below B4 (Nat.le_refl _); have c18 : Calls Try.prog 18 #[.agg #[.int .u64 no', .int .u64 time', .bool true, .int .u32 a', .int .u8 n', .int .i64 0, .int .u16 0, .int .u16 0], .int .i64 s] w4 (fun e w' => e = .returned (.int .u64 hd) ∧ Below w4.heap.size w4 w') := (head_any no' time' a' n' 0 0 0 true s (by omega) c4 w4).mono fun e w' h => ⟨by rw [h.1, HH.out]; rfl, h.2⟩; have HK4 := Lib.hid hk4; clear hk4)
    | (go_at_call 18; (with_reducible refine c18.mono ?_); rintro e w5 ⟨rfl, B5⟩; clear c18; clear p0 p1 p2 p3 p4 p5 p6 p7 q0 q1 q2 q3 q4 q5 q6 q7; have HB := HB.step B5; obtain ⟨p0, p1, p2, p3, p4, p5, p6, p7⟩ := row8 HB.r0; obtain ⟨q0, q1, q2, q3, q4, q5, q6, q7⟩ := row8 HB.r1; have RO := (RO.more B4.size).below B5 (Nat.le_refl _); have hs5 := HB.lt; have R5 := R4.below B5 R4.lt; have c17 := put_g (some ⟨g4, 0, none⟩) k4 k4 (coin dt) hd w5 (by omega) HK4.out (by rw [length_coin]; have := sz_le dt; omega) R5.rd)
    | (go_at_call 17; (with_reducible refine c17.mono ?_); rintro e w6 ⟨g6, k6, rfl, hk6, R6, hg6, B6⟩; clear c17; clear p0 p1 p2 p3 p4 p5 p6 p7 q0 q1 q2 q3 q4 q5 q6 q7; have HB := HB.step B6; obtain ⟨p0, p1, p2, p3, p4, p5, p6, p7⟩ := row8 HB.r0; obtain ⟨q0, q1, q2, q3, q4, q5, q6, q7⟩ := row8 HB.r1; have RO := (RO.more B5.size).below B6 (Nat.le_refl _); have HK6 := Lib.hid hk6; have O6 := R6.own (B := w.heap.size) (by omega) (by rw [List.length_append, length_coin, length_coin]; have := sz_le dt; have := sz_le hd; omega); rw [← hk6] at O6; obtain ⟨AC, hcut, RC, hAC⟩ := cut_any (RO.more B6.size) kO 4 s HKO.out.symm hkO4 (by simp) hsO; clear hk6; have hs6 := HB.be.size; have hl6 : (coin dt ++ coin hd).length + (O.drop s).length ≤ 1000000 := (by have := HEL.out; simp only [List.length_append] at this ⊢; omega))
    | (at_builtin; (with_reducible refine app_any rfl (.tmp 30) (.tmp 33) rfl w.heap.size (.slice (some ⟨g6, 0, none⟩) k6 k6) (coin dt ++ coin hd) (O.drop s) AC (kO - s) (4 - s) _ rfl rfl O6 RC (by rw [List.length_drop, HKO.out]) hAC hl6 hs6 w.heap.size w HB.be (Nat.le_refl _) ?_)))
  intro v' w7 O7 B7 G7
  replace G7 : World.grownBy _ w7 (some g6) := G7
  clear O6 RC hcut RO R6 R5 R4 RP
  clear p0 p1 p2 p3 p4 p5 p6 p7 q0 q1 q2 q3 q4 q5 q6 q7
  have HB := HB.grown G7 (by omega)
  obtain ⟨p0, p1, p2, p3, p4, p5, p6, p7⟩ := row8 HB.r0
  obtain ⟨q0, q1, q2, q3, q4, q5, q6, q7⟩ := row8 HB.r1
  go_wp2
  go_ret
  exact ⟨v', rfl, (by simpa [List.append_assoc] using O7), B7⟩
set_option maxRecDepth 8000 in
set_option maxHeartbeats 2000000 in
theorem enc_false (l c : C) (hg : c.gone = false) (hl : l.Ok) (hc : c.Ok) (ha : l.After c) (w : World) : Calls Try.prog 9 #[.agg l.cells, .agg c.cells] w (CoinOwn w (l.enc c)) := by
  have hso := same4 l c hc.2.2.2.1
  have hhd := head_lt l c hc.2.2.2.1
  have hO := begun_len c.addr c.len hc.2.2.2.1
  have hP := begun_len l.addr l.len hl.2.2.2.1
  have hel := enc_len l c hc.2.2.2.1
  have cO := fun W => begun_any c.addr c.len hc.2.2.1 hc.2.2.2.1 W
  have cP := fun W => begun_any l.addr l.len hl.2.2.1 hl.2.2.2.1 W
  unfold C.same at hso
  unfold C.head C.same at hhd
  unfold C.enc C.tail C.head C.same at hel ⊢
  unfold C.cells
  obtain ⟨no, time, g, a, n, via, mt, sq⟩ := l
  obtain ⟨no', time', g', a', n', via', mt', sq'⟩ := c
  obtain ⟨l1, l2, l3, l4, l5, l6, l7, l8, l9⟩ := hl
  obtain ⟨c1, c2, c3, c4, c5, c6, c7, c8, c9⟩ := hc
  obtain ⟨e1, e2⟩ := ha
  replace hg : g' = false := hg
  subst hg
  clear c9
  have HL9 := Lib.hid l9
  clear l9
  try dsimp only at *
  simp only [Bool.false_eq_true, if_false] at hhd hel ⊢
  obtain ⟨dt, hdt0⟩ : ∃ dt, dt = time' - time := ⟨_, rfl⟩
  rw [← hdt0] at hel ⊢
  have hdl : dt < 18446744073709551616 := by omega
  have hdt : (time' : Int) - time = dt := by omega
  clear hdt0 e1 e2
  generalize begun a' n' = O at *
  generalize begun a n = P at *
  obtain ⟨kO, hkO⟩ : ∃ k, O.length = k := ⟨_, rfl⟩
  obtain ⟨kP, hkP⟩ : ∃ k, P.length = k := ⟨_, rfl⟩
  unfold BegunSaid at cO cP
  rw [hkO] at cO
  rw [hkP] at cP
  rw [hkO] at hO
  rw [hkP] at hP
  have hkO4 : kO ≤ 4 := by omega
  have hkP4 : kP ≤ 4 := by omega
  have HKO := Lib.hid hkO
  have HKP := Lib.hid hkP
  obtain ⟨s, hs⟩ : ∃ s, s = same P O := ⟨_, rfl⟩
  rw [← hs] at hso hhd hel ⊢
  have hsO : s ≤ kO := by omega
  have HS := Lib.hid hs
  obtain ⟨hd, hhd2⟩ : ∃ h, h = 16 * n' + 2 * s + 0 := ⟨_, rfl⟩
  rw [← hhd2] at hhd hel ⊢
  have HH := Lib.hid hhd2
  have hv1 : wrap64 ((via' : Int) - via) = (via' : Int) - via := IntWalk.wrap64_in _ ⟨by omega, by omega⟩
  have hv2 : wrap64 ((mt' : Int) - mt) = (mt' : Int) - mt := IntWalk.wrap64_in _ ⟨by omega, by omega⟩
  have hv3 : IntKind.u16.wrap ((sq' : Int) - sq) = (((sq' + 65536 - sq) % 65536 : Nat) : Int) := by rw [IntKind.wrap_u16]; omega
  have hfo1 := fold_lt ((via' : Int) - via) (by omega) (by omega)
  have hfo2 := fold_lt ((mt' : Int) - mt) (by omega) (by omega)
  have HB := Bx.new w #[.int .u64 no, .int .u64 time, .bool g, .int .u32 a, .int .u8 n, .int .i64 via, .int .u16 mt, .int .u16 sq] #[.int .u64 no', .int .u64 time', .bool false, .int .u32 a', .int .u8 n', .int .i64 via', .int .u16 mt', .int .u16 sq']
  obtain ⟨f1, hf1⟩ : ∃ f, f = fold ((via' : Int) - via) := ⟨_, rfl⟩
  obtain ⟨f2, hf2⟩ : ∃ f, f = fold ((mt' : Int) - mt) := ⟨_, rfl⟩
  obtain ⟨f3, hf3⟩ : ∃ f, f = (sq' + 65536 - sq) % 65536 := ⟨_, rfl⟩
  have hf3l : f3 < 65536 := by omega
  have c20a := fun W => fold_nn ((via' : Int) - via) (by omega) (by omega) W
  have c20b := fun W => fold_nn ((mt' : Int) - mt) (by omega) (by omega) W
  rw [← hf1] at c20a hfo1 hel ⊢
  rw [← hf2] at c20b hfo2 hel ⊢
  rw [← hf3] at hv3 hel ⊢
  clear hf1 hf2 hf3
  have HEL := Lib.hid hel
  obtain ⟨p0, p1, p2, p3, p4, p5, p6, p7⟩ := row8 HB.r0
  obtain ⟨q0, q1, q2, q3, q4, q5, q6, q7⟩ := row8 HB.r1
  clear hkO hkP hs hhd2 hel hO hP
  go_enter Try.func9, Try.ntmps9
  go_wp2_with (first
    | (go_at_call 15; (with_reducible refine (cO _).mono ?_); rintro e w1 ⟨g1, hg1, rfl, RO, B1⟩; clear cO; clear p0 p1 p2 p3 p4 p5 p6 p7 q0 q1 q2 q3 q4 q5 q6 q7; have HB := HB.step B1; obtain ⟨p0, p1, p2, p3, p4, p5, p6, p7⟩ := row8 HB.r0; obtain ⟨q0, q1, q2, q3, q4, q5, q6, q7⟩ := row8 HB.r1; have hg1 : w.heap.size ≤ g1 := by simp at hg1; omega)
    | (go_at_call 15; (with_reducible refine (cP _).mono ?_); rintro e w2 ⟨g2, hg2, rfl, RP, B2⟩; clear cP; clear p0 p1 p2 p3 p4 p5 p6 p7 q0 q1 q2 q3 q4 q5 q6 q7; have HB := HB.step B2; obtain ⟨p0, p1, p2, p3, p4, p5, p6, p7⟩ := row8 HB.r0; obtain ⟨q0, q1, q2, q3, q4, q5, q6, q7⟩ := row8 HB.r1; have RO := RO.below B2 (Nat.le_refl _); have c16 := alike_any (some ⟨g2, 0, none⟩) (some ⟨g1, 0, none⟩) 4 4 P O w2 RP (RO.more B2.size) (by rw [HKP.out]; exact hkP4) (by rw [HKO.out]; exact hkO4) kP kO HKP.out.symm HKO.out.symm; rw [← HS.out] at c16)
    | (go_at_call 16; (with_reducible refine c16.mono ?_); rintro e w3 ⟨rfl, B3⟩; clear c16; clear p0 p1 p2 p3 p4 p5 p6 p7 q0 q1 q2 q3 q4 q5 q6 q7; have HB := HB.step B3; obtain ⟨p0, p1, p2, p3, p4, p5, p6, p7⟩ := row8 HB.r0; obtain ⟨q0, q1, q2, q3, q4, q5, q6, q7⟩ := row8 HB.r1; have RO := (RO.more B2.size).below B3 (Nat.le_refl _); have c17 := put_g none 0 0 [] dt w3 hdl rfl (Nat.zero_le _) (Rd.nil _ _ _); rw [List.nil_append] at c17)
    | (go_at_call 17; (with_reducible refine c17.mono ?_); rintro e w4 ⟨g4, k4, rfl, hk4, R4, hg4, B4⟩; clear c17; clear p0 p1 p2 p3 p4 p5 p6 p7 q0 q1 q2 q3 q4 q5 q6 q7; have HB := HB.step B4; obtain ⟨p0, p1, p2, p3, p4, p5, p6, p7⟩ := row8 HB.r0; obtain ⟨q0, q1, q2, q3, q4, q5, q6, q7⟩ := row8 HB.r1; have RO := (RO.more B3.size).below B4 (Nat.le_refl _); have c18 : Calls Try.prog 18 #[.agg #[.int .u64 no', .int .u64 time', .bool false, .int .u32 a', .int .u8 n', .int .i64 via', .int .u16 mt', .int .u16 sq'], .int .i64 s] w4 (fun e w' => e = .returned (.int .u64 hd) ∧ Below w4.heap.size w4 w') := (head_any no' time' a' n' via' mt' sq' false s (by omega) c4 w4).mono fun e w' h => ⟨by rw [h.1, HH.out]; rfl, h.2⟩; have HK4 := Lib.hid hk4; clear hk4)
    | (go_at_call 18; (with_reducible refine c18.mono ?_); rintro e w5 ⟨rfl, B5⟩; clear c18; clear p0 p1 p2 p3 p4 p5 p6 p7 q0 q1 q2 q3 q4 q5 q6 q7; have HB := HB.step B5; obtain ⟨p0, p1, p2, p3, p4, p5, p6, p7⟩ := row8 HB.r0; obtain ⟨q0, q1, q2, q3, q4, q5, q6, q7⟩ := row8 HB.r1; have RO := (RO.more B4.size).below B5 (Nat.le_refl _); have hs5 := HB.lt; have R5 := R4.below B5 R4.lt; have c17 := put_g (some ⟨g4, 0, none⟩) k4 k4 (coin dt) hd w5 (by omega) HK4.out (by rw [length_coin]; have := sz_le dt; omega) R5.rd)
    | (go_at_call 17; (with_reducible refine c17.mono ?_); rintro e w6 ⟨g6, k6, rfl, hk6, R6, hg6, B6⟩; clear c17; clear p0 p1 p2 p3 p4 p5 p6 p7 q0 q1 q2 q3 q4 q5 q6 q7; have HB := HB.step B6; obtain ⟨p0, p1, p2, p3, p4, p5, p6, p7⟩ := row8 HB.r0; obtain ⟨q0, q1, q2, q3, q4, q5, q6, q7⟩ := row8 HB.r1; have RO := (RO.more B5.size).below B6 (Nat.le_refl _); have HK6 := Lib.hid hk6; have O6 := R6.own (B := w.heap.size) (by omega) (by rw [List.length_append, length_coin, length_coin]; have := sz_le dt; have := sz_le hd; omega); rw [← hk6] at O6; obtain ⟨AC, hcut, RC, hAC⟩ := cut_any (RO.more B6.size) kO 4 s HKO.out.symm hkO4 (by simp) hsO; clear hk6; have hs6 := HB.be.size; have hl6 : (coin dt ++ coin hd).length + (O.drop s).length ≤ 1000000 := (by have := HEL.out; simp only [List.length_append] at this ⊢; omega))
    | (at_builtin; (with_reducible refine app_any rfl (.tmp 30) (.tmp 33) rfl w.heap.size (.slice (some ⟨g6, 0, none⟩) k6 k6) (coin dt ++ coin hd) (O.drop s) AC (kO - s) (4 - s) _ rfl rfl O6 RC (by rw [List.length_drop, HKO.out]) hAC hl6 hs6 w.heap.size w HB.be (Nat.le_refl _) ?_)))
  intro v' w7 O7 B7 G7
  replace G7 : World.grownBy _ w7 (some g6) := G7
  clear O6 RC hcut RO R6 R5 R4 RP
  clear p0 p1 p2 p3 p4 p5 p6 p7 q0 q1 q2 q3 q4 q5 q6 q7
  have HB := HB.grown G7 (by omega)
  obtain ⟨p0, p1, p2, p3, p4, p5, p6, p7⟩ := row8 HB.r0
  obtain ⟨q0, q1, q2, q3, q4, q5, q6, q7⟩ := row8 HB.r1
  obtain ⟨A7, c7, hv7, r7, hc7, hn7⟩ := O7.form
  obtain ⟨k7, hk7⟩ : ∃ k, k = (coin dt ++ (coin hd ++ O.drop s)).length := ⟨_, rfl⟩
  rw [← hk7] at hv7
  subst hv7
  have HK7 := Lib.hid hk7
  clear hk7 hc7 hn7 O7 hl6
  have c19 := ahead_any no time a n via mt sq g HL9.out w7
  go_wp2_with (first
    | (go_at_call 19; (with_reducible refine c19.mono ?_); rintro e w8 ⟨rfl, B8⟩; clear c19; clear p0 p1 p2 p3 p4 p5 p6 p7 q0 q1 q2 q3 q4 q5 q6 q7; have Ba := (Below.refl w8.heap.size w8).alloc (Nat.le_refl _) (.cells #[.int .u32 a, .int .u8 n, .int .i64 via, .int .u16 mt, .int .u16 sq] 32); have HB := (HB.step B8).step Ba; have Z9 := heap_alloc_new w8 (.cells #[.int .u32 a, .int .u8 n, .int .i64 via, .int .u16 mt, .int .u16 sq] 32); obtain ⟨p0, p1, p2, p3, p4, p5, p6, p7⟩ := row8 HB.r0; obtain ⟨q0, q1, q2, q3, q4, q5, q6, q7⟩ := row8 HB.r1; obtain ⟨z0, z1, z2, z3, z4⟩ := row5 Z9; have r9 := ((r7.below B8 (Nat.le_refl _)).more B8.size).below Ba (Nat.le_refl _); have c17 := put_g A7 k7 c7 _ f1 _ (by omega) HK7.out (by have := HEL.out; simp only [List.length_append] at this ⊢; omega) (r9.more Ba.size))
    | (go_at_call 20; (with_reducible refine (c20a _).mono ?_); rintro e w' ⟨rfl, rfl⟩; clear c20a)
    | (go_at_call 17; (with_reducible refine c17.mono ?_); rintro e w10 ⟨g10, k10, rfl, hk10, R10, hg10, B10⟩; clear c17; clear p0 p1 p2 p3 p4 p5 p6 p7 q0 q1 q2 q3 q4 q5 q6 q7 z0 z1 z2 z3 z4; have HB := HB.step B10; have Z10 := (B10.block _ (by simp)).trans Z9; obtain ⟨p0, p1, p2, p3, p4, p5, p6, p7⟩ := row8 HB.r0; obtain ⟨q0, q1, q2, q3, q4, q5, q6, q7⟩ := row8 HB.r1; obtain ⟨z0, z1, z2, z3, z4⟩ := row5 Z10; have HK10 := Lib.hid hk10; clear hk10; have c17 := put_g (some ⟨g10, 0, none⟩) k10 k10 _ f2 w10 (by omega) HK10.out (by have := HEL.out; simp only [List.length_append] at this ⊢; omega) R10.rd)
    | (go_at_call 20; (with_reducible refine (c20b _).mono ?_); rintro e w' ⟨rfl, rfl⟩; clear c20b)
    | (go_at_call 17; (with_reducible refine c17.mono ?_); rintro e w11 ⟨g11, k11, rfl, hk11, R11, hg11, B11⟩; clear c17; clear p0 p1 p2 p3 p4 p5 p6 p7 q0 q1 q2 q3 q4 q5 q6 q7 z0 z1 z2 z3 z4; have HB := HB.step B11; have Z11 := (B11.block _ (Array.getElem?_eq_some_iff.1 Z10).1).trans Z10; obtain ⟨p0, p1, p2, p3, p4, p5, p6, p7⟩ := row8 HB.r0; obtain ⟨q0, q1, q2, q3, q4, q5, q6, q7⟩ := row8 HB.r1; obtain ⟨z0, z1, z2, z3, z4⟩ := row5 Z11; have HK11 := Lib.hid hk11; clear hk11; have c17 := put_g (some ⟨g11, 0, none⟩) k11 k11 _ f3 w11 (by omega) HK11.out (by have := HEL.out; simp only [List.length_append] at this ⊢; omega) R11.rd; have hs11 := HB.be.size)
    | (go_at_call 17; (with_reducible refine c17.mono ?_); rintro e w12 ⟨g12, k12, rfl, hk12, R12, hg12, B12⟩; clear c17; clear p0 p1 p2 p3 p4 p5 p6 p7 q0 q1 q2 q3 q4 q5 q6 q7 z0 z1 z2 z3 z4; have HB := HB.step B12; have HK12 := Lib.hid hk12; clear hk12))
  go_ret
  have O12 := R12.own (B := w.heap.size) (by omega) (by have := HEL.out; simp only [List.length_append] at this ⊢; omega)
  rw [← HK12.out] at O12
  exact ⟨_, rfl, (by simpa [List.append_assoc] using O12), HB.be⟩
theorem enc_any (l c : C) (hl : l.Ok) (hc : c.Ok) (ha : l.After c) (w : World) : Calls Try.prog 9 #[.agg l.cells, .agg c.cells] w (CoinOwn w (l.enc c)) := by
  cases h : c.gone
  · exact enc_false l c h hl hc ha w
  · exact enc_true l c h hl hc ha w
end Go.Proofs.Ytmkclggnbnomhaa.Chg

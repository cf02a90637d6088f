/- Contract: a change's bytes, and back. -/
import Derived.Test.YtmkclggnbnomhaaCq
namespace Go.Proofs.Ytmkclggnbnomhaa.Chg
open Coin
open Go.ChangeShapes Go.WideShapes Go.ChangeAt Go.RowKit

/-- Two boxes, and a third one. -/
structure DK (w wx : World) (gc : Nat) (x y z : Array Value) : Prop where
  bx : Bx w wx x y
  rc : wx.heap[gc]? = some (.cells z 34 (0, 0))
theorem DK.step {w wx w' : World} {gc : Nat} {x y z : Array Value} (h : DK w wx gc x y z) (B : Below wx.heap.size wx w') : DK w w' gc x y z :=
  ⟨h.bx.step B, (B.block _ (Array.getElem?_eq_some_iff.1 h.rc).1).trans h.rc⟩
set_option maxRecDepth 8000 in
set_option maxHeartbeats 8000000 in
theorem decode_any (l c : C) (hl : l.Ok) (hc : c.Ok) (ha : l.After c) (A : Option Addr) (k cap : Nat) (hk : k = (l.enc c).length) (w : World) (R : Rd w w.heap.size A (l.enc c)) :
    Calls Try.prog 10 #[.agg l.cells, .slice A k cap] w fun e w' => e = .returned (.tuple #[.agg c.cells, .int .i64 0]) ∧ Below w.heap.size w w' := by
  have c9 := fun W => enc_any l c hl hc ha W
  have c22 := fun W q h => taken_any l c hl hc ha [] W q h
  have c24 := fun W => right_cany c hc W
  have c21 := fun W R => new_any A cap (l.enc c) W (by have := enc_len l c hc.2.2.2.1; omega) R
  have c13 := fun W => follows_any l.no l.time l.addr l.len l.via l.metric l.seq c.no c.time c.addr c.len c.via c.metric c.seq l.gone c.gone ha.1 ha.2 hc.1 W
  obtain ⟨E, hE⟩ : ∃ E, E = l.enc c := ⟨_, rfl⟩
  rw [← hE] at c9 c22 c21 hk R
  clear hE
  rw [← hk] at c21
  unfold C.cells at c9 c22 c24 ⊢
  obtain ⟨no0, time0, g0, a0, n0, via0, mt0, sq0⟩ := l
  obtain ⟨no, time, g, a, n, via, mt, sq⟩ := c
  dsimp only at c9 c22 c24 c13 ⊢
  clear hl hc ha
  have HK := Lib.hid hk
  clear hk
  have HB0 := Bx.new w #[.int .u64 (no0 : Int), .int .u64 (time0 : Int), .bool g0, .int .u32 (a0 : Int), .int .u8 (n0 : Int), .int .i64 (via0 : Int), .int .u16 (mt0 : Int), .int .u16 (sq0 : Int)] #[.int .u64 0, .int .u64 0, .bool false, .int .u32 0, .int .u8 0, .int .i64 0, .int .u16 0, .int .u16 0]
  go_enter Try.func10, Try.ntmps10
  go_upto_region 1 with (fail)
  generalize ((w.alloc _).alloc _) = wv at *
  obtain ⟨p0, p1, p2, p3, p4, p5, p6, p7⟩ := row8 HB0.r0
  go_upto_region 2 with (first
    | (go_at_call 21; (with_reducible refine (c21 _ ((R.below HB0.be (Nat.le_refl _)).more HB0.be.size)).mono ?_); rintro e w1 ⟨q, rfl, P1, hq1, hq2, B1⟩))
  clear p0 p1 p2 p3 p4 p5 p6 p7
  have hq3 := HB0.lt
  have HB1 := HB0.step B1
  obtain ⟨p0, p1, p2, p3, p4, p5, p6, p7⟩ := row8 HB1.r0
  rw [← List.append_nil E] at P1
  go_upto_region 3 with (first
    | (go_at_call 22; (with_reducible refine (c22 _ q P1).mono ?_); rintro e w2 ⟨rfl, P2, G2⟩; have HB2 := HB1.grown G2 (by omega)))
  clear p0 p1 p2 p3 p4 p5 p6 p7
  have hD : DK w (w2.alloc (.cells #[.int .u64 (no : Int), .int .u64 (time : Int), .bool g, .int .u32 (a : Int), .int .u8 (n : Int), .int .i64 (via : Int), .int .u16 (mt : Int), .int .u16 (sq : Int)] 34)) w2.heap.size #[.int .u64 (no0 : Int), .int .u64 (time0 : Int), .bool g0, .int .u32 (a0 : Int), .int .u8 (n0 : Int), .int .i64 (via0 : Int), .int .u16 (mt0 : Int), .int .u16 (sq0 : Int)] #[.int .u64 0, .int .u64 0, .bool false, .int .u32 0, .int .u8 0, .int .i64 0, .int .u16 0, .int .u16 0] #[.int .u64 (no : Int), .int .u64 (time : Int), .bool g, .int .u32 (a : Int), .int .u8 (n : Int), .int .i64 (via : Int), .int .u16 (mt : Int), .int .u16 (sq : Int)] := ⟨HB2.step ((Below.refl _ _).alloc (Nat.le_refl _) _), heap_alloc_new _ _⟩
  have P3 := P2.below ((Below.refl w2.heap.size w2).alloc (Nat.le_refl _) (.cells #[.int .u64 (no : Int), .int .u64 (time : Int), .bool g, .int .u32 (a : Int), .int .u8 (n : Int), .int .i64 (via : Int), .int .u16 (mt : Int), .int .u16 (sq : Int)] 34))
  clear P1 P2 G2 B1
  generalize w2.alloc _ = w3 at *
  generalize w2.heap.size = gc at *
  have c23 := end_any w3 q [] 0 P3
  rw [show endV [] 0 = 0 from rfl] at c23
  obtain ⟨z0, z1, z2, z3, z4, z5, z6, z7⟩ := row8 hD.rc
  obtain ⟨p0, p1, p2, p3, p4, p5, p6, p7⟩ := row8 hD.bx.r0
  have c23' : Calls Try.prog 23 #[.pointer (some ⟨q, 0, none⟩)] w3 fun e w' => e = .returned (.int .i64 0) ∧ w3 = w' := c23
  clear c23
  go_upto_region 6 with (first
    | (go_at_call 23; (with_reducible refine c23'.mono ?_); rintro e w4 ⟨rfl, rfl⟩))
  go_upto_region 8 with (first
    | (go_at_call 24; (with_reducible refine (c24 _).mono ?_); rintro e w5 ⟨rfl, B5⟩; clear z0 z1 z2 z3 z4 z5 z6 z7 p0 p1 p2 p3 p4 p5 p6 p7; replace hD := hD.step B5; obtain ⟨z0, z1, z2, z3, z4, z5, z6, z7⟩ := row8 hD.rc; obtain ⟨p0, p1, p2, p3, p4, p5, p6, p7⟩ := row8 hD.bx.r0)
    | (go_at_call 13; (with_reducible refine (c13 _).mono ?_); rintro e w6 ⟨rfl, B6⟩; clear z0 z1 z2 z3 z4 z5 z6 z7 p0 p1 p2 p3 p4 p5 p6 p7; replace hD := hD.step B6; obtain ⟨z0, z1, z2, z3, z4, z5, z6, z7⟩ := row8 hD.rc; obtain ⟨p0, p1, p2, p3, p4, p5, p6, p7⟩ := row8 hD.bx.r0)
    | (go_at_call 9; (with_reducible refine (c9 _).mono ?_); rintro e w7 ⟨v7, rfl, O7, B7⟩; obtain ⟨A7, c7, rfl, R7, -, -⟩ := O7.form; rw [← HK.out]; clear z0 z1 z2 z3 z4 z5 z6 z7 p0 p1 p2 p3 p4 p5 p6 p7; replace hD := hD.step B7; obtain ⟨z0, z1, z2, z3, z4, z5, z6, z7⟩ := row8 hD.rc; obtain ⟨p0, p1, p2, p3, p4, p5, p6, p7⟩ := row8 hD.bx.r0; have c25 := equal_any A7 A c7 cap E E w7 R7 ((R.below hD.bx.be (Nat.le_refl _)).more hD.bx.be.size) k k HK.out HK.out; rw [show (E == E) = true by simp] at c25)
    | (go_at_call 25; (with_reducible refine c25.mono ?_); rintro e w8 ⟨rfl, rfl⟩; clear c25))
  obtain ⟨h0, h1, h2, h3, h4, h5, h6, h7⟩ := row8 hD.bx.r1
  have hf := fun i => frozen_of_row _ (w.heap.size + 1) i _ 34 hD.bx.r1
  go_wp2
  exact bodyPost_ret (v := .tuple #[.agg #[.int .u64 (no : Int), .int .u64 (time : Int), .bool g, .int .u32 (a : Int), .int .u8 (n : Int), .int .i64 (via : Int), .int .u16 (mt : Int), .int .u16 (sq : Int)], .int .i64 0]) (by simp [results, Try.results10, go_sem, h0, h1, h2, h3, h4, h5, h6, h7]) rfl ⟨rfl, hD.bx.be.trans ((set8b _ (w.heap.size + 1) ..).mono (by omega))⟩
end Go.Proofs.Ytmkclggnbnomhaa.Chg

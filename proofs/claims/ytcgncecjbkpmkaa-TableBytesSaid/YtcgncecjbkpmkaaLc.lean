/- Contracts: a row out of a purse. -/
import Derived.Test.YtcgncecjbkpmkaaLb
namespace Go.Proofs.Ytcgncecjbkpmkaa.Tab
open Pre Ser Chg Coin
open Go.ChangeShapes Go.WideShapes Go.ChangeAt Go.RowKit
set_option maxRecDepth 8000

theorem tk_facts (l : List UInt8) (f most : Nat) (hf : f ≤ 12) : (takeV l f most).1 ≤ most ∧ (takeV l f most).2.2 ≤ 12 ∧ (takeV l f most).2.1.length ≤ l.length := by
  have hg := got_lt l
  unfold takeV
  split
  · exact ⟨Nat.zero_le _, hf, Nat.le_refl _⟩
  · split
    · exact ⟨Nat.zero_le _, (by show (got l).2.2 ≤ 12; omega), Nat.le_refl _⟩
    · split
      · exact ⟨Nat.zero_le _, (by show 6 ≤ 12; decide), Nat.le_refl _⟩
      · exact ⟨(by show (got l).1 ≤ most; omega), (by show 0 ≤ 12; decide), (by rw [List.length_drop]; omega)⟩
/-- A row, what is left, and the fault. -/
def tr (l : List UInt8) (f : Nat) : R × List UInt8 × Nat :=
  let a := takeV l f 4294967295
  let n := takeV a.2.1 a.2.2 255
  let s := takeV n.2.1 n.2.2 65535
  let m := takeV s.2.1 s.2.2 65534
  let v := takeV m.2.1 m.2.2 9223372036854775808
  if v.1 = 0 then (⟨a.1, n.1, false, 0, 0, 0, s.1, m.1⟩, v.2.1, v.2.2)
  else
    let mt := takeV v.2.1 v.2.2 65534
    let sq := takeV mt.2.1 mt.2.2 65535
    (⟨a.1, n.1, true, v.1 - 1, mt.1, sq.1, s.1, m.1⟩, sq.2.1, sq.2.2)
/-- A call of Take, told. -/
abbrev TkC (f0 : Nat) (args : Array Value) (k : IntKind) (q : Nat) (l : List UInt8) (f n : Nat) (l' : List UInt8) (f' : Nat) : Prop :=
  ∀ W, Pur W q l f → Calls Try.prog f0 args W fun e w' => e = .returned (.int k (n : Int)) ∧ Pur w' q l' f' ∧ W.grownBy w' (some q)
theorem tkc (q : Nat) (l : List UInt8) (f most : Nat) (hf : f ≤ 12) (hm : most < 18446744073709551616) : TkC 33 #[.pointer (some ⟨q, 0, none⟩), .int .u64 (most : Int)] .u64 q l f (takeV l f most).1 (takeV l f most).2.1 (takeV l f most).2.2 :=
  fun W h => take_any W q l f most h hf hm
theorem take_serial (q : Nat) (l : List UInt8) (f : Nat) (hf : f ≤ 12) : TkC 52 #[.pointer (some ⟨q, 0, none⟩)] .u16 q l f (takeV l f 65535).1 (takeV l f 65535).2.1 (takeV l f 65535).2.2 := fun W h => by
  have c : TkC 33 #[.pointer (some ⟨q, 0, none⟩), .int .u64 65535] .u64 q l f (takeV l f 65535).1 (takeV l f 65535).2.1 (takeV l f 65535).2.2 := tkc q l f 65535 hf (by decide)
  have hb := (tk_facts l f 65535 hf).1
  obtain ⟨n, hn⟩ : ∃ n, n = (takeV l f 65535).1 := ⟨_, rfl⟩
  rw [← hn] at hb c ⊢
  have C := Lib.hid (And.intro c h)
  have hw : IntKind.u16.wrap (n : Int) = n := by rw [IntKind.wrap_u16]; omega
  clear c h hn
  go_enter Try.func52, Try.ntmps52
  go_wp2_with (go_at_call 33; (with_reducible refine (C.out.1 _ C.out.2).mono ?_); rintro e w1 ⟨rfl, P1, G1⟩; have HZ := Lib.hid (And.intro P1 G1); clear P1 G1)
  go_ret
  exact ⟨rfl, HZ.out.1, HZ.out.2⟩
theorem take_metric (q : Nat) (l : List UInt8) (f : Nat) (hf : f ≤ 12) : TkC 53 #[.pointer (some ⟨q, 0, none⟩)] .u16 q l f (takeV l f 65534).1 (takeV l f 65534).2.1 (takeV l f 65534).2.2 := fun W h => by
  have c : TkC 33 #[.pointer (some ⟨q, 0, none⟩), .int .u64 65534] .u64 q l f (takeV l f 65534).1 (takeV l f 65534).2.1 (takeV l f 65534).2.2 := tkc q l f 65534 hf (by decide)
  have hb := (tk_facts l f 65534 hf).1
  obtain ⟨n, hn⟩ : ∃ n, n = (takeV l f 65534).1 := ⟨_, rfl⟩
  rw [← hn] at hb c ⊢
  have C := Lib.hid (And.intro c h)
  have hw : IntKind.u16.wrap (n : Int) = n := by rw [IntKind.wrap_u16]; omega
  clear c h hn
  go_enter Try.func53, Try.ntmps53
  go_wp2_with (go_at_call 33; (with_reducible refine (C.out.1 _ C.out.2).mono ?_); rintro e w1 ⟨rfl, P1, G1⟩; have HZ := Lib.hid (And.intro P1 G1); clear P1 G1)
  go_ret
  exact ⟨rfl, HZ.out.1, HZ.out.2⟩
/-- What takeRow has in memory. -/
structure Tk (w wx : World) (q : Nat) (x : Array Value) (l : List UInt8) (f : Nat) : Prop where
  gq : w.grownBy wx (some q)
  pu : Pur wx q l f
  r0 : wx.heap[w.heap.size]? = some (.cells #[.int .u32 0, .int .u8 0, .bool false, .int .u32 0, .int .u8 0, .int .i64 0, .int .u16 0, .int .u16 0, .int .u16 0, .int .u16 0] 43 (0, 0))
  r1 : wx.heap[w.heap.size + 1]? = some (.cells x 43 (0, 0))
  lt : q < w.heap.size
theorem Tk.call {w wx w' : World} {q : Nat} {x : Array Value} {l l' : List UInt8} {f f' : Nat} (h : Tk w wx q x l f) (P : Pur w' q l' f') (G : wx.grownBy w' (some q)) : Tk w w' q x l' f' := by
  have l2 := h.lt
  have ne : ∀ k, k ≠ q → some k ≠ some q := fun k hk e => hk (by injection e)
  exact ⟨grown_trans h.gq G, P, (G.block _ (Array.getElem?_eq_some_iff.1 h.r0).1 (ne _ (by omega))).trans h.r0, (G.block _ (Array.getElem?_eq_some_iff.1 h.r1).1 (ne _ (by omega))).trans h.r1, l2⟩
theorem Tk.set {w wx : World} {q : Nat} {x : Array Value} {l : List UInt8} {f : Nat} (h : Tk w wx q x l f) (i : Nat) (v : Value) : Tk w (wx.setCell ⟨w.heap.size + 1, i, none⟩ v) q (x.setIfInBounds i v) l f := by
  have l2 := h.lt
  have hs := Below.heap_setCell wx ⟨w.heap.size + 1, i, none⟩ v
  refine ⟨⟨h.gq.os, h.gq.tape, h.gq.output, Nat.le_trans h.gq.size ((Below.refl 0 wx).setCell (p := ⟨w.heap.size + 1, i, none⟩) (Nat.zero_le _) v).size, fun k hk hn => (hs k (by show k ≠ w.heap.size + 1; omega)).trans (h.gq.block k hk hn)⟩, h.pu.far fun k hk => hs k (by show k ≠ w.heap.size + 1; omega), (hs _ (by show w.heap.size ≠ w.heap.size + 1; omega)).trans h.r0, heap_setCell_same wx (w.heap.size + 1) i x 43 v h.r1, l2⟩
theorem Tk.new {w : World} {q : Nat} {l : List UInt8} {f : Nat} (h : Pur w q l f) : Tk w ((w.alloc (.cells #[.int .u32 0, .int .u8 0, .bool false, .int .u32 0, .int .u8 0, .int .i64 0, .int .u16 0, .int .u16 0, .int .u16 0, .int .u16 0] 43)).alloc (.cells #[.int .u32 0, .int .u8 0, .bool false, .int .u32 0, .int .u8 0, .int .i64 0, .int .u16 0, .int .u16 0, .int .u16 0, .int .u16 0] 43)) q #[.int .u32 0, .int .u8 0, .bool false, .int .u32 0, .int .u8 0, .int .i64 0, .int .u16 0, .int .u16 0, .int .u16 0, .int .u16 0] l f := by
  have B : Below w.heap.size w ((w.alloc (.cells #[.int .u32 0, .int .u8 0, .bool false, .int .u32 0, .int .u8 0, .int .i64 0, .int .u16 0, .int .u16 0, .int .u16 0, .int .u16 0] 43)).alloc (.cells #[.int .u32 0, .int .u8 0, .bool false, .int .u32 0, .int .u8 0, .int .i64 0, .int .u16 0, .int .u16 0, .int .u16 0, .int .u16 0] 43)) := ((Below.refl _ _).alloc (Nat.le_refl _) _).alloc (by simp) _
  exact ⟨⟨B.os, B.tape, B.output, B.size, fun k hk _ => B.block k hk⟩, h.below B, heap_new0 .., heap_new1 .., h.lt⟩
theorem Tk.res {w wx : World} {q : Nat} {x : Array Value} {l : List UInt8} {f : Nat} (h : Tk w wx q x l f) (y0 y1 y2 y3 y4 y5 y6 y7 y8 y9 : Value) :
    w.grownBy ((((((((((wx.setCell ⟨w.heap.size, 0, none⟩ y0).setCell ⟨w.heap.size, 1, none⟩ y1).setCell ⟨w.heap.size, 2, none⟩ y2).setCell ⟨w.heap.size, 3, none⟩ y3).setCell ⟨w.heap.size, 4, none⟩ y4).setCell ⟨w.heap.size, 5, none⟩ y5).setCell ⟨w.heap.size, 6, none⟩ y6).setCell ⟨w.heap.size, 7, none⟩ y7).setCell ⟨w.heap.size, 8, none⟩ y8).setCell ⟨w.heap.size, 9, none⟩ y9) (some q) ∧ Pur ((((((((((wx.setCell ⟨w.heap.size, 0, none⟩ y0).setCell ⟨w.heap.size, 1, none⟩ y1).setCell ⟨w.heap.size, 2, none⟩ y2).setCell ⟨w.heap.size, 3, none⟩ y3).setCell ⟨w.heap.size, 4, none⟩ y4).setCell ⟨w.heap.size, 5, none⟩ y5).setCell ⟨w.heap.size, 6, none⟩ y6).setCell ⟨w.heap.size, 7, none⟩ y7).setCell ⟨w.heap.size, 8, none⟩ y8).setCell ⟨w.heap.size, 9, none⟩ y9) q l f := by
  have l2 := h.lt
  have B := sets10_below (Below.refl w.heap.size wx) w.heap.size (Nat.le_refl _) y0 y1 y2 y3 y4 y5 y6 y7 y8 y9
  exact ⟨⟨B.os.trans h.gq.os, B.tape.trans h.gq.tape, B.output.trans h.gq.output, Nat.le_trans h.gq.size B.size, fun k hk hn => (B.block k hk).trans (h.gq.block k hk hn)⟩, h.pu.far fun k hk => B.block k (by omega)⟩
set_option maxHeartbeats 2000000 in
theorem take_row_no (w : World) (q : Nat) (l0 l1 l2 l3 l4 l5 : List UInt8) (f0 f1 f2 f3 f4 f5 n1 n2 n3 n4 : Nat) (h : Pur w q l0 f0) (c1 : TkC 33 #[.pointer (some ⟨q, 0, none⟩), .int .u64 4294967295] .u64 q l0 f0 n1 l1 f1) (c2 : TkC 33 #[.pointer (some ⟨q, 0, none⟩), .int .u64 255] .u64 q l1 f1 n2 l2 f2) (c3 : TkC 52 #[.pointer (some ⟨q, 0, none⟩)] .u16 q l2 f2 n3 l3 f3) (c4 : TkC 53 #[.pointer (some ⟨q, 0, none⟩)] .u16 q l3 f3 n4 l4 f4) (c5 : TkC 33 #[.pointer (some ⟨q, 0, none⟩), .int .u64 9223372036854775808] .u64 q l4 f4 0 l5 f5) (h1 : n1 < 4294967296) (h2 : n2 < 256) :
    Calls Try.prog 35 #[.pointer (some ⟨q, 0, none⟩)] w fun e w' => e = .returned (.agg #[.int .u32 (n1 : Int), .int .u8 (n2 : Int), .bool false, .int .u32 (n1 : Int), .int .u8 (n2 : Int), .int .i64 0, .int .u16 0, .int .u16 0, .int .u16 (n3 : Int), .int .u16 (n4 : Int)]) ∧ Pur w' q l5 f5 ∧ w.grownBy w' (some q) := by
  have HT0 := Lib.hid (Tk.new h)
  have C1 := Lib.hid c1
  have C2 := Lib.hid c2
  have C3 := Lib.hid c3
  have C4 := Lib.hid c4
  have C5 := Lib.hid c5
  have hw1 : IntKind.u32.wrap (n1 : Int) = n1 := by rw [IntKind.wrap_u32]; omega
  have hw2 : IntKind.u8.wrap (n2 : Int) = n2 := by rw [IntKind.wrap_u8]; omega
  have e0 : w.heap.size + 1 < ((w.alloc (.cells #[.int .u32 0, .int .u8 0, .bool false, .int .u32 0, .int .u8 0, .int .i64 0, .int .u16 0, .int .u16 0, .int .u16 0, .int .u16 0] 43)).alloc (.cells #[.int .u32 0, .int .u8 0, .bool false, .int .u32 0, .int .u8 0, .int .i64 0, .int .u16 0, .int .u16 0, .int .u16 0, .int .u16 0] 43)).heap.size := by simp
  obtain ⟨⟨m0, m1, m2, m3, m4, m5, m6, m7, m8, m9⟩, mf⟩ := Tab.row10 HT0.out.r1
  clear h c1 c2 c3 c4 c5
  go_enter Try.func35, Try.ntmps35
  go_wp2_with (first
    | (go_at_call 33; (with_reducible refine (C1.out _ HT0.out.pu).mono ?_); rintro e w1 ⟨rfl, P1, G1⟩; clear m0 m1 m2 m3 m4 m5 m6 m7 m8 m9 mf; obtain ⟨⟨m0, m1, m2, m3, m4, m5, m6, m7, m8, m9⟩, mf⟩ := Tab.row10 (HT0.out.call P1 G1).r1; have e1 : w.heap.size + 1 < w1.heap.size := (Array.getElem?_eq_some_iff.1 (HT0.out.call P1 G1).r1).1; have HT1 := Lib.hid (show Tk w (w1.setCell ⟨w.heap.size + 1, 0, none⟩ (.int .u32 (n1 : Int))) q #[.int .u32 (n1 : Int), .int .u8 0, .bool false, .int .u32 0, .int .u8 0, .int .i64 0, .int .u16 0, .int .u16 0, .int .u16 0, .int .u16 0] l1 f1 by have := ((HT0.out.call P1 G1).set 0 (.int .u32 (n1 : Int))); simpa using this); clear P1 G1)
    | (go_at_call 33; (with_reducible refine (C2.out _ HT1.out.pu).mono ?_); rintro e w2 ⟨rfl, P2, G2⟩; clear m0 m1 m2 m3 m4 m5 m6 m7 m8 m9 mf; obtain ⟨⟨m0, m1, m2, m3, m4, m5, m6, m7, m8, m9⟩, mf⟩ := Tab.row10 (HT1.out.call P2 G2).r1; have e2 : w.heap.size + 1 < w2.heap.size := (Array.getElem?_eq_some_iff.1 (HT1.out.call P2 G2).r1).1; have HT2 := Lib.hid (show Tk w (w2.setCell ⟨w.heap.size + 1, 1, none⟩ (.int .u8 (n2 : Int))) q #[.int .u32 (n1 : Int), .int .u8 (n2 : Int), .bool false, .int .u32 0, .int .u8 0, .int .i64 0, .int .u16 0, .int .u16 0, .int .u16 0, .int .u16 0] l2 f2 by have := ((HT1.out.call P2 G2).set 1 (.int .u8 (n2 : Int))); simpa using this); clear P2 G2)
    | (go_at_call 52; (with_reducible refine (C3.out _ HT2.out.pu).mono ?_); rintro e w3 ⟨rfl, P3, G3⟩; clear m0 m1 m2 m3 m4 m5 m6 m7 m8 m9 mf; obtain ⟨⟨m0, m1, m2, m3, m4, m5, m6, m7, m8, m9⟩, mf⟩ := Tab.row10 (HT2.out.call P3 G3).r1; have e3 : w.heap.size + 1 < w3.heap.size := (Array.getElem?_eq_some_iff.1 (HT2.out.call P3 G3).r1).1; have HT3 := Lib.hid (show Tk w (w3.setCell ⟨w.heap.size + 1, 8, none⟩ (.int .u16 (n3 : Int))) q #[.int .u32 (n1 : Int), .int .u8 (n2 : Int), .bool false, .int .u32 0, .int .u8 0, .int .i64 0, .int .u16 0, .int .u16 0, .int .u16 (n3 : Int), .int .u16 0] l3 f3 by have := ((HT2.out.call P3 G3).set 8 (.int .u16 (n3 : Int))); simpa using this); clear P3 G3)
    | (go_at_call 53; (with_reducible refine (C4.out _ HT3.out.pu).mono ?_); rintro e w4 ⟨rfl, P4, G4⟩; clear m0 m1 m2 m3 m4 m5 m6 m7 m8 m9 mf; obtain ⟨⟨m0, m1, m2, m3, m4, m5, m6, m7, m8, m9⟩, mf⟩ := Tab.row10 (HT3.out.call P4 G4).r1; have e4 : w.heap.size + 1 < w4.heap.size := (Array.getElem?_eq_some_iff.1 (HT3.out.call P4 G4).r1).1; have HT4 := Lib.hid (show Tk w (((w4.setCell ⟨w.heap.size + 1, 9, none⟩ (.int .u16 (n4 : Int))).setCell ⟨w.heap.size + 1, 3, none⟩ (.int .u32 (n1 : Int))).setCell ⟨w.heap.size + 1, 4, none⟩ (.int .u8 (n2 : Int))) q #[.int .u32 (n1 : Int), .int .u8 (n2 : Int), .bool false, .int .u32 (n1 : Int), .int .u8 (n2 : Int), .int .i64 0, .int .u16 0, .int .u16 0, .int .u16 (n3 : Int), .int .u16 (n4 : Int)] l4 f4 by have := ((((HT3.out.call P4 G4).set 9 (.int .u16 (n4 : Int))).set 3 (.int .u32 (n1 : Int))).set 4 (.int .u8 (n2 : Int))); simpa using this); clear P4 G4)
    | (go_at_call 33; (with_reducible refine (C5.out _ HT4.out.pu).mono ?_); rintro e w5 ⟨rfl, P5, G5⟩; clear m0 m1 m2 m3 m4 m5 m6 m7 m8 m9 mf; obtain ⟨⟨m0, m1, m2, m3, m4, m5, m6, m7, m8, m9⟩, mf⟩ := Tab.row10 (HT4.out.call P5 G5).r1; have e5 : w.heap.size + 1 < w5.heap.size := (Array.getElem?_eq_some_iff.1 (HT4.out.call P5 G5).r1).1; have HT5 := Lib.hid (show Tk w w5 q #[.int .u32 (n1 : Int), .int .u8 (n2 : Int), .bool false, .int .u32 (n1 : Int), .int .u8 (n2 : Int), .int .i64 0, .int .u16 0, .int .u16 0, .int .u16 (n3 : Int), .int .u16 (n4 : Int)] l5 f5 by have := (HT4.out.call P5 G5); simpa using this); obtain ⟨⟨u0, u1, u2, u3, u4, u5, u6, u7, u8, u9⟩, uf⟩ := Tab.row10 (HT4.out.call P5 G5).r0; clear P5 G5))
  exact bodyPost_ret (v := .agg #[.int .u32 (n1 : Int), .int .u8 (n2 : Int), .bool false, .int .u32 (n1 : Int), .int .u8 (n2 : Int), .int .i64 0, .int .u16 0, .int .u16 0, .int .u16 (n3 : Int), .int .u16 (n4 : Int)]) (by simp [results, Try.results35, go_sem, u0, u1, u2, u3, u4, u5, u6, u7, u8, u9]) rfl ⟨rfl, (Tk.res HT5.out _ _ _ _ _ _ _ _ _ _).2, (Tk.res HT5.out _ _ _ _ _ _ _ _ _ _).1⟩
set_option maxHeartbeats 2000000 in
theorem take_row_yes (w : World) (q : Nat) (l0 l1 l2 l3 l4 l5 l6 l7 : List UInt8) (f0 f1 f2 f3 f4 f5 f6 f7 n1 n2 n3 n4 n5 n6 n7 : Nat) (h : Pur w q l0 f0) (c1 : TkC 33 #[.pointer (some ⟨q, 0, none⟩), .int .u64 4294967295] .u64 q l0 f0 n1 l1 f1) (c2 : TkC 33 #[.pointer (some ⟨q, 0, none⟩), .int .u64 255] .u64 q l1 f1 n2 l2 f2) (c3 : TkC 52 #[.pointer (some ⟨q, 0, none⟩)] .u16 q l2 f2 n3 l3 f3) (c4 : TkC 53 #[.pointer (some ⟨q, 0, none⟩)] .u16 q l3 f3 n4 l4 f4) (c5 : TkC 33 #[.pointer (some ⟨q, 0, none⟩), .int .u64 9223372036854775808] .u64 q l4 f4 n5 l5 f5) (c6 : TkC 53 #[.pointer (some ⟨q, 0, none⟩)] .u16 q l5 f5 n6 l6 f6) (c7 : TkC 52 #[.pointer (some ⟨q, 0, none⟩)] .u16 q l6 f6 n7 l7 f7) (h1 : n1 < 4294967296) (h2 : n2 < 256) (v5 : Nat) (hv : n5 = v5 + 1) (hv5 : v5 < 9223372036854775808) :
    Calls Try.prog 35 #[.pointer (some ⟨q, 0, none⟩)] w fun e w' => e = .returned (.agg #[.int .u32 (n1 : Int), .int .u8 (n2 : Int), .bool true, .int .u32 (n1 : Int), .int .u8 (n2 : Int), .int .i64 (v5 : Int), .int .u16 (n6 : Int), .int .u16 (n7 : Int), .int .u16 (n3 : Int), .int .u16 (n4 : Int)]) ∧ Pur w' q l7 f7 ∧ w.grownBy w' (some q) := by
  have HT0 := Lib.hid (Tk.new h)
  have C1 := Lib.hid c1
  have C2 := Lib.hid c2
  have C3 := Lib.hid c3
  have C4 := Lib.hid c4
  have C5 := Lib.hid c5
  have C6 := Lib.hid c6
  have C7 := Lib.hid c7
  have hw1 : IntKind.u32.wrap (n1 : Int) = n1 := by rw [IntKind.wrap_u32]; omega
  have hw2 : IntKind.u8.wrap (n2 : Int) = n2 := by rw [IntKind.wrap_u8]; omega
  have hq5 : ((n5 : Int) == 0) = false := by simp; omega
  have hq6 : ¬ n5 = 0 := by omega
  have hv6 : (n5 : Int) - 1 = v5 := by omega
  have hv7 : IntKind.u64.wrap (v5 : Int) = v5 := by rw [wrap_u64]; omega
  have hv8 : IntKind.i64.wrap (v5 : Int) = v5 := by rw [IntKind.wrap_i64]; omega
  clear hv
  have e0 : w.heap.size + 1 < ((w.alloc (.cells #[.int .u32 0, .int .u8 0, .bool false, .int .u32 0, .int .u8 0, .int .i64 0, .int .u16 0, .int .u16 0, .int .u16 0, .int .u16 0] 43)).alloc (.cells #[.int .u32 0, .int .u8 0, .bool false, .int .u32 0, .int .u8 0, .int .i64 0, .int .u16 0, .int .u16 0, .int .u16 0, .int .u16 0] 43)).heap.size := by simp
  obtain ⟨⟨m0, m1, m2, m3, m4, m5, m6, m7, m8, m9⟩, mf⟩ := Tab.row10 HT0.out.r1
  clear h c1 c2 c3 c4 c5 c6 c7
  go_enter Try.func35, Try.ntmps35
  go_wp2_with (first
    | (go_at_call 33; (with_reducible refine (C1.out _ HT0.out.pu).mono ?_); rintro e w1 ⟨rfl, P1, G1⟩; clear m0 m1 m2 m3 m4 m5 m6 m7 m8 m9 mf; obtain ⟨⟨m0, m1, m2, m3, m4, m5, m6, m7, m8, m9⟩, mf⟩ := Tab.row10 (HT0.out.call P1 G1).r1; have e1 : w.heap.size + 1 < w1.heap.size := (Array.getElem?_eq_some_iff.1 (HT0.out.call P1 G1).r1).1; have HT1 := Lib.hid (show Tk w (w1.setCell ⟨w.heap.size + 1, 0, none⟩ (.int .u32 (n1 : Int))) q #[.int .u32 (n1 : Int), .int .u8 0, .bool false, .int .u32 0, .int .u8 0, .int .i64 0, .int .u16 0, .int .u16 0, .int .u16 0, .int .u16 0] l1 f1 by have := ((HT0.out.call P1 G1).set 0 (.int .u32 (n1 : Int))); simpa using this); clear P1 G1)
    | (go_at_call 33; (with_reducible refine (C2.out _ HT1.out.pu).mono ?_); rintro e w2 ⟨rfl, P2, G2⟩; clear m0 m1 m2 m3 m4 m5 m6 m7 m8 m9 mf; obtain ⟨⟨m0, m1, m2, m3, m4, m5, m6, m7, m8, m9⟩, mf⟩ := Tab.row10 (HT1.out.call P2 G2).r1; have e2 : w.heap.size + 1 < w2.heap.size := (Array.getElem?_eq_some_iff.1 (HT1.out.call P2 G2).r1).1; have HT2 := Lib.hid (show Tk w (w2.setCell ⟨w.heap.size + 1, 1, none⟩ (.int .u8 (n2 : Int))) q #[.int .u32 (n1 : Int), .int .u8 (n2 : Int), .bool false, .int .u32 0, .int .u8 0, .int .i64 0, .int .u16 0, .int .u16 0, .int .u16 0, .int .u16 0] l2 f2 by have := ((HT1.out.call P2 G2).set 1 (.int .u8 (n2 : Int))); simpa using this); clear P2 G2)
    | (go_at_call 52; (with_reducible refine (C3.out _ HT2.out.pu).mono ?_); rintro e w3 ⟨rfl, P3, G3⟩; clear m0 m1 m2 m3 m4 m5 m6 m7 m8 m9 mf; obtain ⟨⟨m0, m1, m2, m3, m4, m5, m6, m7, m8, m9⟩, mf⟩ := Tab.row10 (HT2.out.call P3 G3).r1; have e3 : w.heap.size + 1 < w3.heap.size := (Array.getElem?_eq_some_iff.1 (HT2.out.call P3 G3).r1).1; have HT3 := Lib.hid (show Tk w (w3.setCell ⟨w.heap.size + 1, 8, none⟩ (.int .u16 (n3 : Int))) q #[.int .u32 (n1 : Int), .int .u8 (n2 : Int), .bool false, .int .u32 0, .int .u8 0, .int .i64 0, .int .u16 0, .int .u16 0, .int .u16 (n3 : Int), .int .u16 0] l3 f3 by have := ((HT2.out.call P3 G3).set 8 (.int .u16 (n3 : Int))); simpa using this); clear P3 G3)
    | (go_at_call 53; (with_reducible refine (C4.out _ HT3.out.pu).mono ?_); rintro e w4 ⟨rfl, P4, G4⟩; clear m0 m1 m2 m3 m4 m5 m6 m7 m8 m9 mf; obtain ⟨⟨m0, m1, m2, m3, m4, m5, m6, m7, m8, m9⟩, mf⟩ := Tab.row10 (HT3.out.call P4 G4).r1; have e4 : w.heap.size + 1 < w4.heap.size := (Array.getElem?_eq_some_iff.1 (HT3.out.call P4 G4).r1).1; have HT4 := Lib.hid (show Tk w (((w4.setCell ⟨w.heap.size + 1, 9, none⟩ (.int .u16 (n4 : Int))).setCell ⟨w.heap.size + 1, 3, none⟩ (.int .u32 (n1 : Int))).setCell ⟨w.heap.size + 1, 4, none⟩ (.int .u8 (n2 : Int))) q #[.int .u32 (n1 : Int), .int .u8 (n2 : Int), .bool false, .int .u32 (n1 : Int), .int .u8 (n2 : Int), .int .i64 0, .int .u16 0, .int .u16 0, .int .u16 (n3 : Int), .int .u16 (n4 : Int)] l4 f4 by have := ((((HT3.out.call P4 G4).set 9 (.int .u16 (n4 : Int))).set 3 (.int .u32 (n1 : Int))).set 4 (.int .u8 (n2 : Int))); simpa using this); clear P4 G4)
    | (go_at_call 33; (with_reducible refine (C5.out _ HT4.out.pu).mono ?_); rintro e w5 ⟨rfl, P5, G5⟩; clear m0 m1 m2 m3 m4 m5 m6 m7 m8 m9 mf; obtain ⟨⟨m0, m1, m2, m3, m4, m5, m6, m7, m8, m9⟩, mf⟩ := Tab.row10 (HT4.out.call P5 G5).r1; have e5 : w.heap.size + 1 < w5.heap.size := (Array.getElem?_eq_some_iff.1 (HT4.out.call P5 G5).r1).1; have HT5 := Lib.hid (show Tk w ((w5.setCell ⟨w.heap.size + 1, 2, none⟩ (.bool true)).setCell ⟨w.heap.size + 1, 5, none⟩ (.int .i64 (v5 : Int))) q #[.int .u32 (n1 : Int), .int .u8 (n2 : Int), .bool true, .int .u32 (n1 : Int), .int .u8 (n2 : Int), .int .i64 (v5 : Int), .int .u16 0, .int .u16 0, .int .u16 (n3 : Int), .int .u16 (n4 : Int)] l5 f5 by have := (((HT4.out.call P5 G5).set 2 (.bool true)).set 5 (.int .i64 (v5 : Int))); simpa using this); clear P5 G5)
    | (go_at_call 53; (with_reducible refine (C6.out _ HT5.out.pu).mono ?_); rintro e w6 ⟨rfl, P6, G6⟩; clear m0 m1 m2 m3 m4 m5 m6 m7 m8 m9 mf; obtain ⟨⟨m0, m1, m2, m3, m4, m5, m6, m7, m8, m9⟩, mf⟩ := Tab.row10 (HT5.out.call P6 G6).r1; have e6 : w.heap.size + 1 < w6.heap.size := (Array.getElem?_eq_some_iff.1 (HT5.out.call P6 G6).r1).1; have HT6 := Lib.hid (show Tk w (w6.setCell ⟨w.heap.size + 1, 6, none⟩ (.int .u16 (n6 : Int))) q #[.int .u32 (n1 : Int), .int .u8 (n2 : Int), .bool true, .int .u32 (n1 : Int), .int .u8 (n2 : Int), .int .i64 (v5 : Int), .int .u16 (n6 : Int), .int .u16 0, .int .u16 (n3 : Int), .int .u16 (n4 : Int)] l6 f6 by have := ((HT5.out.call P6 G6).set 6 (.int .u16 (n6 : Int))); simpa using this); clear P6 G6)
    | (go_at_call 52; (with_reducible refine (C7.out _ HT6.out.pu).mono ?_); rintro e w7 ⟨rfl, P7, G7⟩; clear m0 m1 m2 m3 m4 m5 m6 m7 m8 m9 mf; obtain ⟨⟨m0, m1, m2, m3, m4, m5, m6, m7, m8, m9⟩, mf⟩ := Tab.row10 (HT6.out.call P7 G7).r1; have e7 : w.heap.size + 1 < w7.heap.size := (Array.getElem?_eq_some_iff.1 (HT6.out.call P7 G7).r1).1; have HT7 := Lib.hid (show Tk w (w7.setCell ⟨w.heap.size + 1, 7, none⟩ (.int .u16 (n7 : Int))) q #[.int .u32 (n1 : Int), .int .u8 (n2 : Int), .bool true, .int .u32 (n1 : Int), .int .u8 (n2 : Int), .int .i64 (v5 : Int), .int .u16 (n6 : Int), .int .u16 (n7 : Int), .int .u16 (n3 : Int), .int .u16 (n4 : Int)] l7 f7 by have := ((HT6.out.call P7 G7).set 7 (.int .u16 (n7 : Int))); simpa using this); obtain ⟨⟨u0, u1, u2, u3, u4, u5, u6, u7, u8, u9⟩, uf⟩ := Tab.row10 (HT6.out.call P7 G7).r0; clear P7 G7))
  exact bodyPost_ret (v := .agg #[.int .u32 (n1 : Int), .int .u8 (n2 : Int), .bool true, .int .u32 (n1 : Int), .int .u8 (n2 : Int), .int .i64 (v5 : Int), .int .u16 (n6 : Int), .int .u16 (n7 : Int), .int .u16 (n3 : Int), .int .u16 (n4 : Int)]) (by simp [results, Try.results35, go_sem, u0, u1, u2, u3, u4, u5, u6, u7, u8, u9]) rfl ⟨rfl, (Tk.res HT7.out _ _ _ _ _ _ _ _ _ _).2, (Tk.res HT7.out _ _ _ _ _ _ _ _ _ _).1⟩
end Go.Proofs.Ytcgncecjbkpmkaa.Tab

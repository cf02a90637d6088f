/- Lower, First, awake. -/
import Derived.Test.YtkbhmdoichiinaaSd
namespace Go.Proofs.Ytkbhmdoichiinaa.Src
open Pre Ser
open Go.ChangeShapes Go.WideShapes Go.ChangeAt Go.RowKit
set_option maxRecDepth 8000
variable {lo : Nat}
theorem Lower_end (u : World) (q : Nat) (a n : Nat) (ha : a < 4294967296) (hn : n < 256) (hr : Pre.right a n = true) (m1 : Nat) :
    Calls Try.prog 22 #[.pointer (some ⟨q, 0, none⟩), pv a n, mv (m1, 65535)] u fun e w' => e = .returned (.int .i64 1) ∧ Below u.heap.size u w' := by
  have HM := Lib.hid (fun W => Pre.right_any a n ha (by omega) W)
  rw [hr] at HM
  have B1 := Lib.hid (((Below.refl u.heap.size u).alloc (Nat.le_refl _) (.cells #[.int .u32 (a : Int), .int .u8 (n : Int)] 39)).alloc (by simp) (.cells #[.int .u16 (m1 : Int), .int .u16 65535] 41))
  have r0 : ((u.alloc (.cells #[.int .u32 (a : Int), .int .u8 (n : Int)] 39)).alloc (.cells #[.int .u16 (m1 : Int), .int .u16 65535] 41)).heap[u.heap.size]? = some (.cells #[.int .u32 (a : Int), .int .u8 (n : Int)] 39 (0, 0)) := (heap_alloc_old _ (.cells #[.int .u16 (m1 : Int), .int .u16 65535] 41) (by simp)).trans (heap_alloc_new u (.cells #[.int .u32 (a : Int), .int .u8 (n : Int)] 39))
  have r1 := heap_new1 u (.cells #[.int .u32 (a : Int), .int .u8 (n : Int)] 39) (.cells #[.int .u16 (m1 : Int), .int .u16 65535] 41)
  have HR1 := Lib.hid r1
  clear r1 r0
  unfold pv mv
  simp only
  go_enter Try.func22, Try.ntmps22
  go_wp2_with (first
    | (go_at_call 41; (with_reducible refine (HM.out _).mono ?_); rintro e w1 ⟨rfl, B2⟩; have HB := Lib.hid (B1.out.trans (B2.mono B1.out.size)); obtain ⟨p0, p1, pf⟩ := row2 ((B2.block _ (Array.getElem?_eq_some_iff.1 HR1.out).1).trans HR1.out); have hsz : u.heap.size + 1 < w1.heap.size := Nat.lt_of_lt_of_le (by simp) B2.size; clear B2))
  go_ret
  exact ⟨rfl, HB.out⟩
/-- What stands between the calls. -/
structure LB (lo : Nat) (u w : World) (q a n : Nat) (m : Nat × Nat) (f : Mk) (c : Nat) : Prop where
  b : Below u.heap.size u w
  s : SrcAt lo w q f c
  r0 : w.heap[u.heap.size]? = some (.cells #[.int .u32 (a : Int), .int .u8 (n : Int)] 39 (0, 0))
  r1 : w.heap[u.heap.size + 1]? = some (.cells #[.int .u16 (m.1 : Int), .int .u16 (m.2 : Int)] 41 (0, 0))
theorem LB.step {u w w' : World} {q a n : Nat} {m : Nat × Nat} {f : Mk} {c : Nat} (h : LB lo u w q a n m f c) (B : Below w.heap.size w w') : LB lo u w' q a n m f c :=
  ⟨h.b.trans (B.mono h.b.size), h.s.below B, (B.block _ (Array.getElem?_eq_some_iff.1 h.r0).1).trans h.r0, (B.block _ (Array.getElem?_eq_some_iff.1 h.r1).1).trans h.r1⟩
theorem LB.start {u : World} {q a n : Nat} {m1 m2 : Nat} {f : Mk} {c : Nat} (h : SrcAt lo u q f c) : LB lo u ((u.alloc (.cells #[.int .u32 (a : Int), .int .u8 (n : Int)] 39)).alloc (.cells #[.int .u16 (m1 : Int), .int .u16 (m2 : Int)] 41)) q a n (m1, m2) f c := by
  have B1 := ((Below.refl u.heap.size u).alloc (Nat.le_refl _) (.cells #[.int .u32 (a : Int), .int .u8 (n : Int)] 39)).alloc (by simp) (.cells #[.int .u16 (m1 : Int), .int .u16 (m2 : Int)] 41)
  exact ⟨B1, h.below B1, (heap_alloc_old _ (.cells #[.int .u16 (m1 : Int), .int .u16 (m2 : Int)] 41) (by simp)).trans (heap_alloc_new u (.cells #[.int .u32 (a : Int), .int .u8 (n : Int)] 39)), heap_new1 u (.cells #[.int .u32 (a : Int), .int .u8 (n : Int)] 39) (.cells #[.int .u16 (m1 : Int), .int .u16 (m2 : Int)] 41)⟩
theorem LB.set {u w : World} {q a n : Nat} {m : Nat × Nat} {f : Mk} {c : Nat} (h : LB lo u w q a n m f c) (y0 y1 : Nat) : LB lo u ((w.setCell ⟨u.heap.size + 1, 0, none⟩ (.int .u16 (y0 : Int))).setCell ⟨u.heap.size + 1, 1, none⟩ (.int .u16 (y1 : Int))) q a n (y0, y1) f c := by
  have G1 := set_grown w ⟨u.heap.size + 1, 0, none⟩ (.int .u16 (y0 : Int))
  have G2 := set_grown (w.setCell ⟨u.heap.size + 1, 0, none⟩ (.int .u16 (y0 : Int))) ⟨u.heap.size + 1, 1, none⟩ (.int .u16 (y1 : Int))
  have e1 := heap_setCell_same w (u.heap.size + 1) 0 _ 41 (.int .u16 (y0 : Int)) h.r1
  refine ⟨(h.b.setCell (p := ⟨u.heap.size + 1, 0, none⟩) (by show u.heap.size ≤ u.heap.size + 1; omega) _).setCell (p := ⟨u.heap.size + 1, 1, none⟩) (by show u.heap.size ≤ u.heap.size + 1; omega) _, (h.s.kept G1 h.r1 (by decide)).kept G2 e1 (by decide), (set2_other w (by omega) _ _).trans h.r0, Tab_set2 h.r1 _ _⟩
set_option maxHeartbeats 1000000 in
theorem Lower_any (u : World) (q : Nat) (f : Mk) (c : Nat) (h : SrcAt lo u q f c) (hlu : lo ≤ u.heap.size) (a n : Nat) (ha : a < 4294967296) (hn : n < 256) (hr : Pre.right a n = true) (m1 m2 : Nat) (hm : m2 < 65535) (hc : c < 256) :
    Calls Try.prog 22 #[.pointer (some ⟨q, 0, none⟩), pv a n, mv (m1, m2)] u fun e w' => e = .returned (.int .i64 0) ∧ SrcAt lo w' q (f.put a n (f.best a n (m1, m2))) (if (f a n).isSome then c else c + 1) ∧ K lo u w' := by
  obtain ⟨c', hc'⟩ : ∃ c', c' = if (f a n).isSome then c else c + 1 := ⟨_, rfl⟩
  rw [← hc']
  obtain ⟨b1, b2, hb⟩ : ∃ b1 b2, f.best a n (m1, m2) = (b1, b2) := ⟨_, _, rfl⟩
  rw [hb]
  have HC := Lib.hid hc'
  have HBE := Lib.hid hb
  clear hc' hb
  have HM := Lib.hid (fun W => Pre.right_any a n ha (by omega) W)
  rw [hr] at HM
  obtain ⟨x, hx, hx2⟩ := look_form f a n
  have HK : Hid (∀ W, SrcAt lo W q f c → Calls Try.prog 23 #[.pointer (some ⟨q, 0, none⟩), .agg #[.int .u32 (a : Int), .int .u8 (n : Int)]] W fun e w' => e = .returned (.tuple #[.agg #[.int .u16 (x.1 : Int), .int .u16 (x.2 : Int)], .bool (f a n).isSome]) ∧ Below W.heap.size W w') := Lib.hid fun W hW => hx ▸ Mark_any W q f c hW a n ha hn
  have HS : Hid (∀ W, SrcAt lo W q f c → lo ≤ W.heap.size → ∀ m1 m2 : Nat, Calls Try.prog 44 #[.pointer (some ⟨q, 0, none⟩), .agg #[.int .u32 (a : Int), .int .u8 (n : Int)], .agg #[.int .u16 (m1 : Int), .int .u16 (m2 : Int)]] W fun e w' => e = .returned (.tuple #[]) ∧ SrcAt lo w' q (f.put a n (m1, m2)) c' ∧ K lo W w') := Lib.hid fun W hW hl m1 m2 => HC.out ▸ set_any W q f c hW hl a n ha hn (m1, m2) (by omega)
  have L0 := Lib.hid (LB.start (a := a) (n := n) (m1 := m1) (m2 := m2) h)
  have e5 : ((m2 : Int) == 65535) = false := by simp; omega
  have HX2 := Lib.hid hx2
  have HLU := Lib.hid hlu
  have HQ := Lib.hid h
  clear hx hx2 hr hlu h
  unfold pv mv
  simp only
  cases hf : f a n with
  | none =>
    rw [hf] at HK
    have e7 : decide (256 ≤ (c : Int)) = false := by simp; omega
    have e8 : (b1, b2) = (m1, m2) := by rw [← HBE.out]; unfold Mk.best; rw [hf]
    obtain ⟨rfl, rfl⟩ : b1 = m1 ∧ b2 = m2 := by injection e8 with e1 e2; exact ⟨e1, e2⟩
    clear HX2 HBE e8 hf hc hm
    go_enter Try.func22, Try.ntmps22
    go_wp2_with (first
      | (go_at_call 41; (with_reducible refine (HM.out _).mono ?_); rintro e w1 ⟨rfl, B2⟩; have L1 := Lib.hid (L0.out.step B2); clear B2; obtain ⟨p0, p1, pf⟩ := row2 L1.out.r1; obtain ⟨t0, t1, -⟩ := row2 L1.out.r0; have hsz : u.heap.size + 1 < w1.heap.size := (Array.getElem?_eq_some_iff.1 L1.out.r1).1)
      | (go_at_call 23; (with_reducible refine (HK.out _ L1.out.s).mono ?_); rintro e w2 ⟨rfl, B3⟩; have L2 := Lib.hid ((L1.out.step B3).step ((Below.refl _ _).alloc (Nat.le_refl _) (.cells #[.int .u16 (x.1 : Int), .int .u16 (x.2 : Int)] 41))); have hsz2 := Nat.lt_of_lt_of_le hsz B3.size; clear B3 p0 p1 pf t0 t1; obtain ⟨p0, p1, pf⟩ := row2 L2.out.r1; obtain ⟨t0, t1, -⟩ := row2 L2.out.r0; obtain ⟨s0, s1, sf⟩ := row2 (heap_alloc_new w2 (.cells #[.int .u16 (x.1 : Int), .int .u16 (x.2 : Int)] 41)))
      | (go_at_call 42; (with_reducible refine (Len_any _ q f c L2.out.s).mono ?_); rintro e w3 ⟨rfl, rfl⟩)
      | (go_at_call 44; (with_reducible refine (HS.out _ L2.out.s (Nat.le_trans HLU.out L2.out.b.size) b1 b2).mono ?_); rintro e w5 ⟨rfl, S5, K5⟩; have H5 := Lib.hid (And.intro S5 ((K.of L2.out.b HLU.out).trans K5)); clear S5 K5))
    go_ret
    exact ⟨rfl, H5.out⟩
  | some y =>
    obtain rfl := HX2.out y hf
    rw [hf] at HK
    cases hnr : nearer (m1 : Int) (m2 : Int) (x.1 : Int) (x.2 : Int) with
    | true =>
      have e8 : (b1, b2) = (m1, m2) := by rw [← HBE.out]; unfold Mk.best; rw [hf]; simp [hnr]
      obtain ⟨rfl, rfl⟩ : b1 = m1 ∧ b2 = m2 := by injection e8 with e1 e2; exact ⟨e1, e2⟩
      clear HX2 HBE e8 hf hc hm
      go_enter Try.func22, Try.ntmps22
      go_wp2_with (first
        | (go_at_call 41; (with_reducible refine (HM.out _).mono ?_); rintro e w1 ⟨rfl, B2⟩; have L1 := Lib.hid (L0.out.step B2); clear B2; obtain ⟨p0, p1, pf⟩ := row2 L1.out.r1; obtain ⟨t0, t1, -⟩ := row2 L1.out.r0; have hsz : u.heap.size + 1 < w1.heap.size := (Array.getElem?_eq_some_iff.1 L1.out.r1).1)
        | (go_at_call 23; (with_reducible refine (HK.out _ L1.out.s).mono ?_); rintro e w2 ⟨rfl, B3⟩; have L2 := Lib.hid ((L1.out.step B3).step ((Below.refl _ _).alloc (Nat.le_refl _) (.cells #[.int .u16 (x.1 : Int), .int .u16 (x.2 : Int)] 41))); have hsz2 := Nat.lt_of_lt_of_le hsz B3.size; clear B3 p0 p1 pf t0 t1; obtain ⟨p0, p1, pf⟩ := row2 L2.out.r1; obtain ⟨t0, t1, -⟩ := row2 L2.out.r0; obtain ⟨s0, s1, sf⟩ := row2 (heap_alloc_new w2 (.cells #[.int .u16 (x.1 : Int), .int .u16 (x.2 : Int)] 41)))
        | (go_at_call 42; (with_reducible refine (Len_any _ q f c L2.out.s).mono ?_); rintro e w3 ⟨rfl, rfl⟩)
        | (go_at_call 43; (with_reducible refine (best_yes _ _ _ _ hnr _).mono ?_); rintro e w4 ⟨rfl, B4⟩; have L4 := Lib.hid ((L2.out.step B4).set b1 b2); have L3 := Lib.hid (L2.out.step B4); clear B4 p0 p1 pf t0 t1 s0 s1 sf; obtain ⟨p0, p1, pf⟩ := row2 L3.out.r1; obtain ⟨t0, t1, -⟩ := row2 L3.out.r0; obtain ⟨c0, c1, -⟩ := row2 L4.out.r1; obtain ⟨d0, d1, -⟩ := row2 L4.out.r0; have hsz4 : u.heap.size + 1 < w4.heap.size := (Array.getElem?_eq_some_iff.1 L3.out.r1).1)
        | (go_at_call 44; (with_reducible refine (HS.out _ L4.out.s (Nat.le_trans HLU.out L4.out.b.size) b1 b2).mono ?_); rintro e w5 ⟨rfl, S5, K5⟩; have H5 := Lib.hid (And.intro S5 ((K.of L4.out.b HLU.out).trans K5)); clear S5 K5))
      go_ret
      exact ⟨rfl, H5.out⟩
    | false =>
      have e8 : (b1, b2) = x := by rw [← HBE.out]; unfold Mk.best; rw [hf]; simp [hnr]
      subst e8
      clear HX2 HBE hf hc hm
      go_enter Try.func22, Try.ntmps22
      go_wp2_with (first
        | (go_at_call 41; (with_reducible refine (HM.out _).mono ?_); rintro e w1 ⟨rfl, B2⟩; have L1 := Lib.hid (L0.out.step B2); clear B2; obtain ⟨p0, p1, pf⟩ := row2 L1.out.r1; obtain ⟨t0, t1, -⟩ := row2 L1.out.r0; have hsz : u.heap.size + 1 < w1.heap.size := (Array.getElem?_eq_some_iff.1 L1.out.r1).1)
        | (go_at_call 23; (with_reducible refine (HK.out _ L1.out.s).mono ?_); rintro e w2 ⟨rfl, B3⟩; have L2 := Lib.hid ((L1.out.step B3).step ((Below.refl _ _).alloc (Nat.le_refl _) (.cells #[.int .u16 (b1 : Int), .int .u16 (b2 : Int)] 41))); have hsz2 := Nat.lt_of_lt_of_le hsz B3.size; clear B3 p0 p1 pf t0 t1; obtain ⟨p0, p1, pf⟩ := row2 L2.out.r1; obtain ⟨t0, t1, -⟩ := row2 L2.out.r0; obtain ⟨s0, s1, sf⟩ := row2 (heap_alloc_new w2 (.cells #[.int .u16 (b1 : Int), .int .u16 (b2 : Int)] 41)))
        | (go_at_call 42; (with_reducible refine (Len_any _ q f c L2.out.s).mono ?_); rintro e w3 ⟨rfl, rfl⟩)
        | (go_at_call 43; (with_reducible refine (best_no _ _ _ _ hnr _).mono ?_); rintro e w4 ⟨rfl, B4⟩; have L4 := Lib.hid ((L2.out.step B4).set b1 b2); have L3 := Lib.hid (L2.out.step B4); clear B4 p0 p1 pf t0 t1 s0 s1 sf; obtain ⟨p0, p1, pf⟩ := row2 L3.out.r1; obtain ⟨t0, t1, -⟩ := row2 L3.out.r0; obtain ⟨c0, c1, -⟩ := row2 L4.out.r1; obtain ⟨d0, d1, -⟩ := row2 L4.out.r0; have hsz4 : u.heap.size + 1 < w4.heap.size := (Array.getElem?_eq_some_iff.1 L3.out.r1).1)
        | (go_at_call 44; (with_reducible refine (HS.out _ L4.out.s (Nat.le_trans HLU.out L4.out.b.size) b1 b2).mono ?_); rintro e w5 ⟨rfl, S5, K5⟩; have H5 := Lib.hid (And.intro S5 ((K.of L4.out.b HLU.out).trans K5)); clear S5 K5))
      go_ret
      exact ⟨rfl, H5.out⟩
end Go.Proofs.Ytkbhmdoichiinaa.Src

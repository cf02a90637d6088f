/- Numbers taken out of a frame, and laid where they are asked. -/
import Derived.Test.YtdbhgkbmbbjpdaaGreatDoorNc
import Derived.Test.YtdbhgkbmbbjpdaaGreatDoorFSc
namespace Go.Proofs.YtdbhgkbmbbjpdaaGreatDoor.Chr
open Go.ChangeShapes Go.WideShapes Go.ChangeAt Go.RowKit
open Shf (S str)
open Coin (Rd Row Own sz coin got Pur takeV endV CoinSaid)
open Frm (pack err size kind cnt body noItem itemV OneSaid)
set_option maxRecDepth 8000
def mx : Nat := 18446744073709551615
def stP (l : S) : Nat → S × Nat
  | 0 => (l, 0)
  | j + 1 => (takeV (stP l j).1 (stP l j).2 mx).2
def valP (l : S) (j : Nat) : Nat := (takeV (stP l j).1 (stP l j).2 mx).1
def setJ (cs : Array Value) (o : Nat) (l : S) : Nat → Array Value
  | 0 => cs
  | j + 1 => (setJ cs o l j).setIfInBounds (o + j) (.int .u64 (valP l j : Int))
theorem setJ_size (cs : Array Value) (o : Nat) (l : S) : ∀ j, (setJ cs o l j).size = cs.size
  | 0 => rfl
  | j + 1 => by unfold setJ; rw [Array.size_setIfInBounds, setJ_size cs o l j]
def NoB (cs : Array Value) : Prop := ∀ (i : Nat) (b : UInt8), cs[i]? ≠ some (Coin.b8 b)
theorem NoB.set {cs : Array Value} (h : NoB cs) (i n : Nat) : NoB (cs.setIfInBounds i (.int .u64 (n : Int))) := fun k b e => by
  rw [Array.getElem?_setIfInBounds] at e
  split at e
  · split at e
    · injection e with e
      cases e
    · cases e
  · exact h k b e
theorem NoB.setJ {cs : Array Value} (h : NoB cs) (o : Nat) (l : S) : ∀ j, NoB (setJ cs o l j)
  | 0 => h
  | j + 1 => (NoB.setJ h o l j).set _ _
theorem pur_set {w : World} {q gT : Nat} {l : S} {f : Nat} {cs : Array Value} {t : TypeId} (h : Pur w q l f) (hg : w.heap[gT]? = some (.cells cs t)) (hcs : NoB cs) (hne : gT ≠ q) (i : Nat) (v : Value) : Pur (w.setCell ⟨gT, i, none⟩ v) q l f := by
  obtain ⟨g, off, cap, hq, h1, h2, h3, h4⟩ := h
  refine ⟨g, off, cap, (heap_setCell_other w ⟨gT, i, none⟩ q v (fun e => hne e.symm)).trans hq, h1, h2, h3, fun j hj => ?_⟩
  have hgn : g ≠ gT := fun e => by
    have h5 := h4 j hj
    rw [e, cell_of_row w gT _ _ t (0, 0) hg] at h5
    exact hcs _ _ h5
  exact (World.cell?_of_block (a := ⟨g, off + j, none⟩) (heap_setCell_other w ⟨gT, i, none⟩ g v hgn)).trans (h4 j hj)
theorem takeV_le (l : S) (f most : Nat) (hf : f ≤ 12) : (takeV l f most).2.2 ≤ 12 := by
  unfold Coin.takeV
  split
  · exact hf
  · split
    · have := (Coin.got_lt l).2.2.2
      show (got l).2.2 ≤ 12
      omega
    · split
      · show 6 ≤ 12; decide
      · show 0 ≤ 12; decide
theorem stP_le (l : S) : ∀ j, (stP l j).2 ≤ 12
  | 0 => Nat.zero_le _
  | j + 1 => takeV_le _ _ _ (stP_le l j)
def ptrs (g o k : Nat) : Array Value := ((List.range k).map fun j => Value.pointer (some ⟨g, o + j, none⟩)).toArray
theorem grown_two {a b c : World} {g q : Nat} (h : a.grownBy b (some g)) (k : b.grownBy c (some q)) (hq : a.heap.size ≤ q) : a.grownBy c (some g) :=
  ⟨k.os.trans h.os, k.tape.trans h.tape, k.output.trans h.output, Nat.le_trans h.size k.size, fun i hi hne => (k.block i (Nat.lt_of_lt_of_le hi h.size) (fun e => by injection e with e; omega)).trans (h.block i hi hne)⟩
set_option maxHeartbeats 1000000 in
theorem takeN_any (w : World) (ki n c ai bi : Nat) (kk : Int) (A : Option Addr) (l : S) (hn : n = l.length) (hl : l.length ≤ 900000) (hr : Rd w w.heap.size A l)
    (bp kp g o : Nat) (t : TypeId) (cs : Array Value) (hbp : w.heap[bp]? = some (.cells (ptrs g o kp) 114)) (hg : w.heap[g]? = some (.cells cs t)) (hgb : g ≠ bp) (ho : o + kp ≤ cs.size) (hcs : NoB cs) (hkp : kp ≤ 9) :
    Calls Tryz.prog 70 #[.agg #[.int .u8 (ki : Int), .slice A n c, .int .i64 (ai : Int), .int .i64 (bi : Int)], .int .u8 kk, .slice (some ⟨bp, 0, none⟩) kp kp] w fun e w' =>
      e = .returned (.bool (decide ((ki : Int) = kk ∧ endV (stP l kp).1 (stP l kp).2 = 0))) ∧ w'.heap[g]? = some (.cells (setJ cs o l kp) t) ∧ w.grownBy w' (some g) := by
  have hgl : g < w.heap.size := (Array.getElem?_eq_some_iff.1 hg).1
  have hbl : bp < w.heap.size := (Array.getElem?_eq_some_iff.1 hbp).1
  have N1 := heap_alloc_new w (.cells #[.int .u8 (ki : Int), .slice A n c, .int .i64 (ai : Int), .int .i64 (bi : Int)] 75)
  have B1 : Below w.heap.size w (w.alloc (.cells #[.int .u8 (ki : Int), .slice A n c, .int .i64 (ai : Int), .int .i64 (bi : Int)] 75)) := (Below.refl _ _).alloc (Nat.le_refl _) _
  have z1 : (w.alloc (.cells #[.int .u8 (ki : Int), .slice A n c, .int .i64 (ai : Int), .int .i64 (bi : Int)] 75)).heap.size = w.heap.size + 1 := by simp
  have c96 := Coin.new_any A c l (w.alloc (.cells #[.int .u8 (ki : Int), .slice A n c, .int .i64 (ai : Int), .int .i64 (bi : Int)] 75)) hl ((hr.below B1 (Nat.le_refl _)).more B1.size)
  rw [← hn] at c96
  have HG := Lib.hid (And.intro (B1.block g hgl |>.trans hg) (And.intro ((B1.block bp hbl).trans hbp) (And.intro hgb (And.intro ho (And.intro hcs (And.intro hgl hbl))))))
  have HB1 := Lib.hid (And.intro B1 z1)
  have HN1 := Lib.hid N1
  clear hr hn hl hbp hg hgb ho hcs B1 z1 N1 hgl hbl
  go_enter Tryz.func70, Tryz.ntmps70
  go_upto_region 1 with (fail)
  generalize w.alloc (.cells #[.int .u8 (ki : Int), .slice A n c, .int .i64 (ai : Int), .int .i64 (bi : Int)] 75) = w1 at *
  obtain ⟨p0, p1, p2, p3, -⟩ := Frm.cells4 HN1.out
  go_upto_region 2 with (go_at_call 96; (with_reducible refine c96.mono ?_); rintro e w2 ⟨q, rfl, P2, q1, q2, B2⟩; have HP2 := Lib.hid (And.intro P2 (And.intro q1 (And.intro q2 B2))); clear P2 q1 q2 B2 c96)
  go_wp2
  clear p0 p1 p2 p3
  go_loopw [15] (fun i wr => ∃ j : Nat, j ≤ kp ∧ i = .int .i64 j ∧ Hid (Pur wr q (stP l j).1 (stP l j).2 ∧ wr.heap[g]? = some (.cells (setJ cs o l j) t) ∧ w1.grownBy wr (some g))) (fun i _ => kp - (intOf i).toNat)
  case atStart => exact ⟨0, Nat.zero_le _, rfl, HP2.out.1, (HP2.out.2.2.2.block g (Array.getElem?_eq_some_iff.1 HG.out.1).1).trans HG.out.1, ⟨HP2.out.2.2.2.os, HP2.out.2.2.2.tape, HP2.out.2.2.2.output, HP2.out.2.2.2.size, fun k hk _ => HP2.out.2.2.2.block k hk⟩⟩
  case round =>
    obtain ⟨j, hj, rfl, HR⟩ := hrel
    by_cases hlt : j < kp
    · have hlt' : (j : Int) < kp := by omega
      have hcb : wr.cell? ⟨bp, j, none⟩ = some (.pointer (some ⟨g, o + j, none⟩)) := by
        rw [cell_of_row wr bp j _ 114 (0, 0) ((HR.out.2.2.block bp (Array.getElem?_eq_some_iff.1 HG.out.2.1).1 (fun e => HG.out.2.2.1 (by injection e with e; exact e.symm))).trans HG.out.2.1)]
        unfold ptrs
        simp [hlt]
      have c97 : Calls Tryz.prog 97 #[.pointer (some ⟨q, 0, none⟩), .int .u64 18446744073709551615] wr _ := Coin.take_any wr q _ _ mx HR.out.1 (stP_le l j) (by decide)
      have hq1 : w1.heap.size ≤ q := HP2.out.2.1
      have HST : Hid (∀ w3, Pur w3 q (takeV (stP l j).1 (stP l j).2 mx).2.1 (takeV (stP l j).1 (stP l j).2 mx).2.2 → wr.grownBy w3 (some q) → Pur (w3.setCell ⟨g, o + j, none⟩ (.int .u64 (valP l j : Int))) q (stP l (j + 1)).1 (stP l (j + 1)).2 ∧ (w3.setCell ⟨g, o + j, none⟩ (.int .u64 (valP l j : Int))).heap[g]? = some (.cells (setJ cs o l (j + 1)) t) ∧ w1.grownBy (w3.setCell ⟨g, o + j, none⟩ (.int .u64 (valP l j : Int))) (some g) ∧ (∃ x, w3.cell? ⟨g, o + j, none⟩ = some x) ∧ w3.frozen? ⟨g, o + j, none⟩ = false) := by
        intro w3 hp hgr
        have hgq : g ≠ q := by have := (Array.getElem?_eq_some_iff.1 HG.out.1).1; omega
        have h3 : w3.heap[g]? = some (.cells (setJ cs o l j) t) := (hgr.block g (Array.getElem?_eq_some_iff.1 HR.out.2.1).1 (fun e => hgq (by injection e))).trans HR.out.2.1
        refine ⟨pur_set hp h3 (NoB.setJ HG.out.2.2.2.2.1 o l j) hgq _ _, ?_, (grown_two HR.out.2.2 hgr hq1).trans (Shf.grown_set w3 g (o + j) _), ?_, frozen_of_row w3 g (o + j) _ t h3⟩
        · rw [heap_setCell_same w3 g (o + j) _ t _ h3]; rfl
        · rw [cell_of_row w3 g (o + j) _ t (0, 0) h3]
          have : o + j < (setJ cs o l j).size := by rw [setJ_size]; have := HG.out.2.2.2.1; omega
          exact ⟨_, Array.getElem?_eq_getElem this⟩
      have hval : (takeV (stP l j).1 (stP l j).2 mx).1 = valP l j := rfl
      rw [hval] at c97
      generalize valP l j = vj at *
      clear hval
      go_wp2_with (go_at_call 97; (with_reducible refine c97.mono ?_); rintro e w3 ⟨rfl, P3, G3⟩; obtain ⟨s1, s2, s3, ⟨x5, s4⟩, s5⟩ := HST.out w3 P3 G3; have HS := Lib.hid (And.intro s1 (And.intro s2 s3)); clear c97 P3 G3 s1 s2 s3)
      go_roundw
      case rel => exact ⟨j + 1, by omega, by go_num, HS.out⟩
      case measure => simp [intOf]; omega
    · obtain rfl : j = kp := by omega
      obtain ⟨p0, p1, p2, p3, -⟩ := Frm.cells4 ((HR.out.2.2.block _ (Array.getElem?_eq_some_iff.1 HN1.out).1 (fun e => by have := HG.out.2.2.2.2.2.1; injection e with e; omega)).trans HN1.out)
      have c98 := Coin.end_any wr q _ _ HR.out.1
      have hG2 : w.grownBy wr (some g) := ⟨HR.out.2.2.os.trans HB1.out.1.os, HR.out.2.2.tape.trans HB1.out.1.tape, HR.out.2.2.output.trans HB1.out.1.output, Nat.le_trans HB1.out.1.size HR.out.2.2.size, fun k hk hne => (HR.out.2.2.block k (Nat.lt_of_lt_of_le hk HB1.out.1.size) hne).trans (HB1.out.1.block k hk)⟩
      have HF := Lib.hid (And.intro HR.out.2.1 hG2)
      clear hG2 HR
      obtain ⟨en, hen⟩ : ∃ en, en = endV (stP l j).1 (stP l j).2 := ⟨_, rfl⟩
      rw [← hen] at c98
      have HEN := Lib.hid hen
      clear hen
      by_cases hk : (ki : Int) = kk
      · have hd : decide ((ki : Int) = kk ∧ en = 0) = ((en : Int) == 0) := by
          by_cases h0 : en = 0 <;> simp [hk, h0]
        have HD := Lib.hid hd
        clear hd
        have hk2 : ((ki : Int) == kk) = true := by simp [hk]
        go_wp2_with (go_at_call 98; (with_reducible refine c98.mono ?_); rintro e w4 ⟨rfl, rfl⟩; clear c98)
        go_ret
        refine ⟨?_, HF.out.1, HF.out.2⟩
        rw [← HEN.out, HD.out]
        simp
      · have hk2 : ((ki : Int) == kk) = false := by simp [hk]
        go_wp2
        go_ret
        refine ⟨?_, HF.out.1, HF.out.2⟩
        simp [hk]
end Go.Proofs.YtdbhgkbmbbjpdaaGreatDoor.Chr

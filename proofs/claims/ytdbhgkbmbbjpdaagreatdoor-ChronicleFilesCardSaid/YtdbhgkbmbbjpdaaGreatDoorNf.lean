/- Numbers taken out of a frame, and laid where they are asked. A chronicle in memory: its records, its volumes, itself. A chronicle in memory, and what leaves it as it was. -/
import Derived.Test.YtdbhgkbmbbjpdaaGreatDoorNc
import Derived.Test.YtdbhgkbmbbjpdaaGreatDoorFSc
import Derived.ArgAppend
namespace Go.Proofs.YtdbhgkbmbbjpdaaGreatDoor.Chr
open Go.ChangeShapes Go.WideShapes Go.ChangeAt Go.RowKit
open Shf (S str)
open Coin (Rd Row Own sz coin got Pur takeV endV CoinSaid)
open Frm (pack err size kind cnt body noItem itemV OneSaid)
set_option maxRecDepth 8000
theorem stA {α : Type} (l : List α) (i : Nat) (a : α) : l.toArray.setIfInBounds i a = (l.set i a).toArray := List.setIfInBounds_toArray l i a
theorem stB {α : Type} (a b : α) (l : List α) : (a :: l).set 0 b = b :: l := rfl
theorem stC {α : Type} (a b : α) (n : Nat) (l : List α) : (a :: l).set (n + 1) b = a :: l.set n b := rfl
def mx : Nat := 18446744073709551615
def stP (l : S) : Nat → S × Nat
  | 0 => (l, 0)
  | j + 1 => (takeV (stP l j).1 (stP l j).2 mx).2
def valP (l : S) (j : Nat) : Nat := (takeV (stP l j).1 (stP l j).2 mx).1
def setJ (cs : Array Value) (o : Nat) (l : S) : Nat → Array Value
  | 0 => cs
  | j + 1 => (setJ cs o l j).setIfInBounds (o + j) (.int .u64 (valP l j : Int))
theorem setJ_size (cs : Array Value) (o : Nat) (l : S) : ∀ j, (setJ cs o l j).size = cs.size
  | 0 => rfl
  | j + 1 => by unfold setJ; rw [Array.size_setIfInBounds, setJ_size cs o l j]
def NoB (cs : Array Value) : Prop := ∀ (i : Nat) (b : UInt8), cs[i]? ≠ some (Coin.b8 b)
theorem NoB.set {cs : Array Value} (h : NoB cs) (i n : Nat) : NoB (cs.setIfInBounds i (.int .u64 (n : Int))) := fun k b e => by
  rw [Array.getElem?_setIfInBounds] at e
  split at e
  · split at e
    · injection e with e
      cases e
    · cases e
  · exact h k b e
theorem NoB.setJ {cs : Array Value} (h : NoB cs) (o : Nat) (l : S) : ∀ j, NoB (setJ cs o l j)
  | 0 => h
  | j + 1 => (NoB.setJ h o l j).set _ _
theorem pur_set {w : World} {q gT : Nat} {l : S} {f : Nat} {cs : Array Value} {t : TypeId} (h : Pur w q l f) (hg : w.heap[gT]? = some (.cells cs t)) (hcs : NoB cs) (hne : gT ≠ q) (i : Nat) (v : Value) : Pur (w.setCell ⟨gT, i, none⟩ v) q l f := by
  obtain ⟨g, off, cap, hq, h1, h2, h3, h4⟩ := h
  refine ⟨g, off, cap, (heap_setCell_other w ⟨gT, i, none⟩ q v (fun e => hne e.symm)).trans hq, h1, h2, h3, fun j hj => ?_⟩
  have hgn : g ≠ gT := fun e => by
    have h5 := h4 j hj
    rw [e, cell_of_row w gT _ _ t (0, 0) hg] at h5
    exact hcs _ _ h5
  exact (World.cell?_of_block (a := ⟨g, off + j, none⟩) (heap_setCell_other w ⟨gT, i, none⟩ g v hgn)).trans (h4 j hj)
theorem takeV_le (l : S) (f most : Nat) (hf : f ≤ 12) : (takeV l f most).2.2 ≤ 12 := by
  unfold Coin.takeV
  split
  · exact hf
  · split
    · have := (Coin.got_lt l).2.2.2
      show (got l).2.2 ≤ 12
      omega
    · split
      · show 6 ≤ 12; decide
      · show 0 ≤ 12; decide
theorem stP_le (l : S) : ∀ j, (stP l j).2 ≤ 12
  | 0 => Nat.zero_le _
  | j + 1 => takeV_le _ _ _ (stP_le l j)
def ptrs (g o k : Nat) : Array Value := ((List.range k).map fun j => Value.pointer (some ⟨g, o + j, none⟩)).toArray
theorem grown_two {a b c : World} {g q : Nat} (h : a.grownBy b (some g)) (k : b.grownBy c (some q)) (hq : a.heap.size ≤ q) : a.grownBy c (some g) :=
  ⟨k.os.trans h.os, k.tape.trans h.tape, k.output.trans h.output, Nat.le_trans h.size k.size, fun i hi hne => (k.block i (Nat.lt_of_lt_of_le hi h.size) (fun e => by injection e with e; omega)).trans (h.block i hi hne)⟩
set_option maxHeartbeats 1000000 in
theorem takeN_any (w : World) (ki n c ai bi : Nat) (kk : Int) (A : Option Addr) (l : S) (hn : n = l.length) (hl : l.length ≤ 900000) (hr : Rd w w.heap.size A l)
    (bp kp g o : Nat) (t : TypeId) (cs : Array Value) (hbp : w.heap[bp]? = some (.cells (ptrs g o kp) 114)) (hg : w.heap[g]? = some (.cells cs t)) (hgb : g ≠ bp) (ho : o + kp ≤ cs.size) (hcs : NoB cs) (hkp : kp ≤ 9) :
    Calls Tryz.prog 70 #[.agg #[.int .u8 (ki : Int), .slice A n c, .int .i64 (ai : Int), .int .i64 (bi : Int)], .int .u8 kk, .slice (some ⟨bp, 0, none⟩) kp kp] w fun e w' =>
      e = .returned (.bool (decide ((ki : Int) = kk ∧ endV (stP l kp).1 (stP l kp).2 = 0))) ∧ w'.heap[g]? = some (.cells (setJ cs o l kp) t) ∧ w.grownBy w' (some g) := by
  have hgl : g < w.heap.size := (Array.getElem?_eq_some_iff.1 hg).1
  have hbl : bp < w.heap.size := (Array.getElem?_eq_some_iff.1 hbp).1
  have N1 := heap_alloc_new w (.cells #[.int .u8 (ki : Int), .slice A n c, .int .i64 (ai : Int), .int .i64 (bi : Int)] 75)
  have B1 : Below w.heap.size w (w.alloc (.cells #[.int .u8 (ki : Int), .slice A n c, .int .i64 (ai : Int), .int .i64 (bi : Int)] 75)) := (Below.refl _ _).alloc (Nat.le_refl _) _
  have z1 : (w.alloc (.cells #[.int .u8 (ki : Int), .slice A n c, .int .i64 (ai : Int), .int .i64 (bi : Int)] 75)).heap.size = w.heap.size + 1 := by simp
  have c96 := Coin.new_any A c l (w.alloc (.cells #[.int .u8 (ki : Int), .slice A n c, .int .i64 (ai : Int), .int .i64 (bi : Int)] 75)) hl ((hr.below B1 (Nat.le_refl _)).more B1.size)
  rw [← hn] at c96
  have HG := Lib.hid (And.intro (B1.block g hgl |>.trans hg) (And.intro ((B1.block bp hbl).trans hbp) (And.intro hgb (And.intro ho (And.intro hcs (And.intro hgl hbl))))))
  have HB1 := Lib.hid (And.intro B1 z1)
  have HN1 := Lib.hid N1
  clear hr hn hl hbp hg hgb ho hcs B1 z1 N1 hgl hbl
  go_enter Tryz.func70, Tryz.ntmps70
  go_upto_region 1 with (fail)
  generalize w.alloc (.cells #[.int .u8 (ki : Int), .slice A n c, .int .i64 (ai : Int), .int .i64 (bi : Int)] 75) = w1 at *
  obtain ⟨p0, p1, p2, p3, -⟩ := Frm.cells4 HN1.out
  go_upto_region 2 with (go_at_call 96; (with_reducible refine c96.mono ?_); rintro e w2 ⟨q, rfl, P2, q1, q2, B2⟩; have HP2 := Lib.hid (And.intro P2 (And.intro q1 (And.intro q2 B2))); clear P2 q1 q2 B2 c96)
  go_wp2
  clear p0 p1 p2 p3
  go_loopw [15] (fun i wr => ∃ j : Nat, j ≤ kp ∧ i = .int .i64 j ∧ Hid (Pur wr q (stP l j).1 (stP l j).2 ∧ wr.heap[g]? = some (.cells (setJ cs o l j) t) ∧ w1.grownBy wr (some g))) (fun i _ => kp - (intOf i).toNat)
  case atStart => exact ⟨0, Nat.zero_le _, rfl, HP2.out.1, (HP2.out.2.2.2.block g (Array.getElem?_eq_some_iff.1 HG.out.1).1).trans HG.out.1, ⟨HP2.out.2.2.2.os, HP2.out.2.2.2.tape, HP2.out.2.2.2.output, HP2.out.2.2.2.size, fun k hk _ => HP2.out.2.2.2.block k hk⟩⟩
  case round =>
    obtain ⟨j, hj, rfl, HR⟩ := hrel
    by_cases hlt : j < kp
    · have hlt' : (j : Int) < kp := by omega
      have hcb : wr.cell? ⟨bp, j, none⟩ = some (.pointer (some ⟨g, o + j, none⟩)) := by
        rw [cell_of_row wr bp j _ 114 (0, 0) ((HR.out.2.2.block bp (Array.getElem?_eq_some_iff.1 HG.out.2.1).1 (fun e => HG.out.2.2.1 (by injection e with e; exact e.symm))).trans HG.out.2.1)]
        unfold ptrs
        simp [hlt]
      have c97 : Calls Tryz.prog 97 #[.pointer (some ⟨q, 0, none⟩), .int .u64 18446744073709551615] wr _ := Coin.take_any wr q _ _ mx HR.out.1 (stP_le l j) (by decide)
      have hq1 : w1.heap.size ≤ q := HP2.out.2.1
      have HST : Hid (∀ w3, Pur w3 q (takeV (stP l j).1 (stP l j).2 mx).2.1 (takeV (stP l j).1 (stP l j).2 mx).2.2 → wr.grownBy w3 (some q) → Pur (w3.setCell ⟨g, o + j, none⟩ (.int .u64 (valP l j : Int))) q (stP l (j + 1)).1 (stP l (j + 1)).2 ∧ (w3.setCell ⟨g, o + j, none⟩ (.int .u64 (valP l j : Int))).heap[g]? = some (.cells (setJ cs o l (j + 1)) t) ∧ w1.grownBy (w3.setCell ⟨g, o + j, none⟩ (.int .u64 (valP l j : Int))) (some g) ∧ (∃ x, w3.cell? ⟨g, o + j, none⟩ = some x) ∧ w3.frozen? ⟨g, o + j, none⟩ = false) := by
        intro w3 hp hgr
        have hgq : g ≠ q := by have := (Array.getElem?_eq_some_iff.1 HG.out.1).1; omega
        have h3 : w3.heap[g]? = some (.cells (setJ cs o l j) t) := (hgr.block g (Array.getElem?_eq_some_iff.1 HR.out.2.1).1 (fun e => hgq (by injection e))).trans HR.out.2.1
        refine ⟨pur_set hp h3 (NoB.setJ HG.out.2.2.2.2.1 o l j) hgq _ _, ?_, (grown_two HR.out.2.2 hgr hq1).trans (Shf.grown_set w3 g (o + j) _), ?_, frozen_of_row w3 g (o + j) _ t h3⟩
        · rw [heap_setCell_same w3 g (o + j) _ t _ h3]; rfl
        · rw [cell_of_row w3 g (o + j) _ t (0, 0) h3]
          have : o + j < (setJ cs o l j).size := by rw [setJ_size]; have := HG.out.2.2.2.1; omega
          exact ⟨_, Array.getElem?_eq_getElem this⟩
      have hval : (takeV (stP l j).1 (stP l j).2 mx).1 = valP l j := rfl
      rw [hval] at c97
      generalize valP l j = vj at *
      clear hval
      go_wp2_with (go_at_call 97; (with_reducible refine c97.mono ?_); rintro e w3 ⟨rfl, P3, G3⟩; obtain ⟨s1, s2, s3, ⟨x5, s4⟩, s5⟩ := HST.out w3 P3 G3; have HS := Lib.hid (And.intro s1 (And.intro s2 s3)); clear c97 P3 G3 s1 s2 s3)
      go_roundw
      case rel => exact ⟨j + 1, by omega, by go_num, HS.out⟩
      case measure => simp [intOf]; omega
    · obtain rfl : j = kp := by omega
      obtain ⟨p0, p1, p2, p3, -⟩ := Frm.cells4 ((HR.out.2.2.block _ (Array.getElem?_eq_some_iff.1 HN1.out).1 (fun e => by have := HG.out.2.2.2.2.2.1; injection e with e; omega)).trans HN1.out)
      have c98 := Coin.end_any wr q _ _ HR.out.1
      have hG2 : w.grownBy wr (some g) := ⟨HR.out.2.2.os.trans HB1.out.1.os, HR.out.2.2.tape.trans HB1.out.1.tape, HR.out.2.2.output.trans HB1.out.1.output, Nat.le_trans HB1.out.1.size HR.out.2.2.size, fun k hk hne => (HR.out.2.2.block k (Nat.lt_of_lt_of_le hk HB1.out.1.size) hne).trans (HB1.out.1.block k hk)⟩
      have HF := Lib.hid (And.intro HR.out.2.1 hG2)
      clear hG2 HR
      obtain ⟨en, hen⟩ : ∃ en, en = endV (stP l j).1 (stP l j).2 := ⟨_, rfl⟩
      rw [← hen] at c98
      have HEN := Lib.hid hen
      clear hen
      by_cases hk : (ki : Int) = kk
      · have hd : decide ((ki : Int) = kk ∧ en = 0) = ((en : Int) == 0) := by
          by_cases h0 : en = 0 <;> simp [hk, h0]
        have HD := Lib.hid hd
        clear hd
        have hk2 : ((ki : Int) == kk) = true := by simp [hk]
        go_wp2_with (go_at_call 98; (with_reducible refine c98.mono ?_); rintro e w4 ⟨rfl, rfl⟩; clear c98)
        go_ret
        refine ⟨?_, HF.out.1, HF.out.2⟩
        rw [← HEN.out, HD.out]
        simp
      · have hk2 : ((ki : Int) == kk) = false := by simp [hk]
        go_wp2
        go_ret
        refine ⟨?_, HF.out.1, HF.out.2⟩
        simp [hk]
end Go.Proofs.YtdbhgkbmbbjpdaaGreatDoor.Chr
namespace Go.Proofs.YtdbhgkbmbbjpdaaGreatDoor.Chr
open Go.ChangeShapes Go.WideShapes Go.ChangeAt Go.RowKit
open Shf (S str)
open Coin (Rd Row Own sz coin got Pur takeV endV CoinSaid)
open Frm (pack err size kind cnt body noItem itemV OneSaid)
set_option maxRecDepth 8000
open Shf (Tag)
def OwnO (w : World) (e : TypeId) (sz : Nat) (v : Value) (n : Nat) (xs : List Value) (gl : Option Nat) : Prop :=
  xs.length = n * sz ∧ ∃ A cap, v = .slice A n cap ∧ n ≤ cap ∧ cap ≤ maxLen ∧ (A = none → cap = 0) ∧ (cap = 0 → gl = none) ∧
    (0 < cap → ∃ g off cur, A = some ⟨g, off, none⟩ ∧ gl = some g ∧ w.heap[g]? = some (.cells cur e (0, 0)) ∧ off + cap * sz ≤ cur.size ∧ (cur.toList.drop off).take (n * sz) = xs)
theorem OwnO.nil (w : World) (e : TypeId) (sz : Nat) : OwnO w e sz (.slice none 0 0) 0 [] none :=
  ⟨by simp, none, 0, rfl, Nat.le_refl _, Nat.zero_le _, fun _ => rfl, fun _ => rfl, fun h => absurd h (by decide)⟩
theorem OwnO.keep {w w' : World} {e : TypeId} {sz : Nat} {v : Value} {n : Nat} {xs : List Value} {gl : Option Nat} (h : OwnO w e sz v n xs gl) (hk : ∀ g, gl = some g → w'.heap[g]? = w.heap[g]?) : OwnO w' e sz v n xs gl := by
  obtain ⟨h0, A, cap, h1, h2, h3, h4, h5, h6⟩ := h
  refine ⟨h0, A, cap, h1, h2, h3, h4, h5, fun hc => ?_⟩
  obtain ⟨g, off, cur, k1, k2, k3, k4, k5⟩ := h6 hc
  exact ⟨g, off, cur, k1, k2, (hk g k2).trans k3, k4, k5⟩
theorem OwnO.lt {w : World} {e : TypeId} {sz : Nat} {v : Value} {n : Nat} {xs : List Value} {gl : Option Nat} (h : OwnO w e sz v n xs gl) : ∀ g, gl = some g → g < w.heap.size ∧ ∃ cur, w.heap[g]? = some (.cells cur e (0, 0)) := fun g hg => by
  obtain ⟨h0, A, cap, h1, h2, h3, h4, h5, h6⟩ := h
  rcases Nat.eq_zero_or_pos cap with hc | hc
  · rw [h5 hc] at hg; cases hg
  · obtain ⟨g', off, cur, k1, k2, k3, k4, k5⟩ := h6 hc
    rw [hg] at k2
    injection k2 with k2
    subst k2
    exact ⟨(Array.getElem?_eq_some_iff.1 k3).1, cur, k3⟩
theorem OwnO.of {w : World} {base : Nat} {e : TypeId} {sz : Nat} {v : Value} {n : Nat} {xs : List Value} (h : w.ownsRow base e sz v n xs) : ∃ gl, OwnO w e sz v n xs gl ∧ ∀ g, gl = some g → base ≤ g := by
  obtain ⟨h0, ⟨rfl, rfl⟩ | ⟨g, cap, cur, rfl, hb, hg, hn, hm, hs, ht⟩⟩ := h
  · refine ⟨none, ?_, fun g h => by cases h⟩
    obtain rfl : xs = [] := List.eq_nil_of_length_eq_zero (by simpa using h0)
    exact OwnO.nil w e sz
  · rcases Nat.eq_zero_or_pos cap with hc | hc
    · exact ⟨none, ⟨h0, _, cap, rfl, hn, hm, (fun h => by cases h), fun _ => rfl, fun h => absurd h (by omega)⟩, fun g h => by cases h⟩
    · exact ⟨some g, ⟨h0, _, cap, rfl, hn, hm, (fun h => by cases h), fun h => absurd h (by omega), fun _ => ⟨g, 0, cur, rfl, rfl, hg, by omega, by rw [List.drop_zero]; exact ht⟩⟩, fun k h => by injection h with h; rw [← h]; exact hb⟩
theorem OwnO.form {w : World} {e : TypeId} {sz : Nat} {v : Value} {n : Nat} {xs : List Value} {gl : Option Nat} (h : OwnO w e sz v n xs gl) : ∃ A cap, v = .slice A n cap ∧ n ≤ cap ∧ (A = none → cap = 0) := by
  obtain ⟨h0, A, cap, h1, h2, h3, h4, h5, h6⟩ := h
  exact ⟨A, cap, h1, h2, h4⟩
theorem OwnO.cell {w : World} {e : TypeId} {sz : Nat} {v : Value} {n : Nat} {xs : List Value} {gl : Option Nat} (h : OwnO w e sz v n xs gl) (i : Nat) (hi : i < xs.length) :
    ∃ g off cap, v = .slice (some ⟨g, off, none⟩) n cap ∧ gl = some g ∧ w.cell? ⟨g, off + i, none⟩ = some xs[i] ∧ ∀ j, w.frozen? ⟨g, j, none⟩ = false := by
  obtain ⟨h0, A, cap, h1, h2, h3, h4, h5, h6⟩ := h
  have hn : 0 < n := by
    rcases Nat.eq_zero_or_pos n with h | h
    · subst h; simp at h0; subst h0; simp at hi
    · exact h
  obtain ⟨g, off, cur, rfl, k2, k3, k4, k5⟩ := h6 (by omega)
  refine ⟨g, off, cap, h1, k2, ?_, fun j => frozen_of_row w g j _ e k3⟩
  rw [cell_of_row w g (off + i) _ e (0, 0) k3]
  have hle : ((cur.toList.drop off).take (n * sz))[i]? = some xs[i] := by rw [k5]; exact List.getElem?_eq_getElem hi
  rw [List.getElem?_take_of_lt (by omega), List.getElem?_drop] at hle
  simpa using hle
theorem run_room_off {P : Program} (w : World) (t ty e : TypeId) (i : TypeInfo) (ht : P.underlying t = some (.slice e)) (hi : P.info? e = some i)
    (g off n cap : Nat) (cur : Array Value) (hg : w.heap[g]? = some (.cells cur e (0, 0))) (a : Addr) (m c : Nat) (news : List Value) (hl : news.length = m * i.size) (hnews : ∀ j u, news[j]? = some u → w.cell? (a.add j) = some u) (h1 : ∀ u ∈ news, u.oneCell' = true)
    (hroom : n + m ≤ cap) (hfit : off + n * i.size + news.length ≤ cur.size) :
    (Builtin.append_ #[t, t] ty #[.slice (some ⟨g, off, none⟩) n cap, .slice (some a) m c]).run P w =
      .ok (.slice (some ⟨g, off, none⟩) (n + m) cap) (w.setRow g (cur.toList.take (off + n * i.size) ++ news ++ cur.toList.drop (off + n * i.size + news.length)).toArray) := by
  have hf := run_firstCells_some (P := P) w i.size m a m c news hl hnews
  have hst := run_storeCells_at P g (off + n * i.size) e news 0 cur w hg (by simpa using hfit) h1
  simp only [Nat.add_zero] at hst
  simp [Builtin.append_, run_underlying ht, sizeOf, typeInfo, hi, Builtin.lenOf, hroom, hf, Addr.add_lit, hst]
theorem OwnO.app {P : Program} {w : World} {e : TypeId} {sz : Nat} {v : Value} {n : Nat} {xs : List Value} {gl : Option Nat} (h : OwnO w e sz v n xs gl) (t ty : TypeId) (i : TypeInfo) (z : Value) (bytes : Nat) (ht : P.underlying t = some (.slice e)) (hi : P.info? e = some i) (hz : i.zero = some z) (hsize : i.size = sz) (hby : i.bytes = bytes) (hzs : z.cells.size = sz) (hsz : 0 < sz)
    (a : Addr) (c : Nat) (news : List Value) (hl : news.length = sz) (hnews : ∀ j u, news[j]? = some u → w.cell? (a.add j) = some u) (h1 : ∀ u ∈ news, u.oneCell' = true) (hn : n ≤ 1000000) (hb : bytes ≤ 1000) :
    ∃ v' w' gl', (Builtin.append_ #[t, t] ty #[v, .slice (some a) 1 c]).run P w = .ok v' w' ∧ OwnO w' e sz v' (n + 1) (xs ++ news) gl' ∧ w.grownBy w' gl ∧ (gl' = gl ∨ ∀ g, gl' = some g → w.heap.size ≤ g) := by
  obtain ⟨h0, A, cap, rfl, h2, h3, h4, h5, h6⟩ := h
  have hlen : (xs ++ news).length = (n + 1) * sz := by rw [List.length_append, h0, hl, Nat.succ_mul]
  have hbb : (n + 1) * bytes ≤ 140737488355328 := Nat.le_trans (Nat.mul_le_mul (show n + 1 ≤ 1000001 by omega) hb) (by decide)
  have hmx : n + 1 ≤ maxLen := by unfold maxLen; omega
  by_cases hr : n + 1 ≤ cap
  · obtain ⟨g, off, cur, rfl, k2, k3, k4, k5⟩ := h6 (by omega)
    have hmul : (n + 1) * sz ≤ cap * sz := Nat.mul_le_mul_right _ hr
    rw [Nat.succ_mul] at hmul
    have hrun := run_room_off (P := P) w t ty e i ht hi g off n cap cur k3 a 1 c news (by rw [hl, hsize]; omega) hnews h1 hr (by rw [hsize, hl]; omega)
    rw [hsize] at hrun
    refine ⟨_, _, gl, hrun, ⟨hlen, _, cap, rfl, hr, h3, (fun h => by cases h), h5, fun _ => ⟨g, off, _, rfl, k2, setRow_heap w g cur _ e _ k3, ?_, ?_⟩⟩, ?_, Or.inl rfl⟩
    · simp only [List.size_toArray, List.length_append, List.length_take, List.length_drop, Array.length_toList]
      omega
    · have hle : off + n * sz ≤ cur.toList.length := by rw [Array.length_toList]; omega
      simp only [List.append_assoc]
      rw [List.drop_append_of_le_length (by rw [List.length_take]; omega), List.drop_take, Nat.add_sub_cancel_left, k5, ← List.append_assoc, ← hlen]
      exact List.take_left
    · rw [k2]
      exact ⟨rfl, rfl, rfl, by simp, fun k _ hk => setRow_other w g k _ (fun e => hk (by rw [e]))⟩
  · have fresh : ∀ v' w', w'.ownsRow w.heap.size e sz v' (n + 1) (xs ++ news) → w.grownBy w' none → ∃ gl', OwnO w' e sz v' (n + 1) (xs ++ news) gl' ∧ w.grownBy w' gl ∧ (gl' = gl ∨ ∀ g, gl' = some g → w.heap.size ≤ g) := fun v' w' ho hg => by
      obtain ⟨gl', k1, k2⟩ := OwnO.of ho
      exact ⟨gl', k1, ⟨hg.os, hg.tape, hg.output, hg.size, fun k hk _ => hg.block k hk (by simp)⟩, Or.inr k2⟩
    cases A with
    | none =>
      have hc0 := h4 rfl
      subst hc0
      obtain rfl : n = 0 := by omega
      obtain rfl : xs = [] := List.eq_nil_of_length_eq_zero (by simpa using h0)
      obtain ⟨v', w', hrun, r1, r2, _⟩ := run_append_own (P := P) w w.heap.size t ty e i z sz bytes ht hi hz hsize hby hzs hsz (.slice none 0 0) 0 [] (World.ownsRow_nil w _ e sz) a 1 c news (by omega) hnews h1 (by omega) (by simpa using hbb) (Nat.le_refl _)
      rw [Nat.zero_add] at r1
      obtain ⟨gl', k1, k2, k3⟩ := fresh v' w' r1 ⟨r2.os, r2.tape, r2.output, r2.size, fun k hk _ => r2.block k hk (by simp [Value.ownBlock])⟩
      exact ⟨v', w', gl', hrun, k1, k2, k3⟩
    | some b =>
      have holds : ∀ j u, xs[j]? = some u → w.cell? (b.add j) = some u := fun j u hj => by
        have hjl := (List.getElem?_eq_some_iff.1 hj).1
        have hn0 : 0 < n := by
          rcases Nat.eq_zero_or_pos n with h | h
          · subst h; simp at h0; subst h0; simp at hjl
          · exact h
        obtain ⟨g, off, cur, e1, k2, k3, k4, k5⟩ := h6 (by omega)
        injection e1 with e1
        subst e1
        rw [Addr.add_lit, cell_of_row w g (off + j) _ e (0, 0) k3]
        have hle : ((cur.toList.drop off).take (n * sz))[j]? = some u := by rw [k5]; exact hj
        rw [List.getElem?_take_of_lt (by omega), List.getElem?_drop] at hle
        simpa using hle
      obtain ⟨v', w', hrun, r1, r2⟩ := run_append_arg_grows (P := P) w t ty e i z sz bytes ht hi hz hsize hby hzs hsz b n cap xs h0 holds a 1 c news (by omega) hnews (by omega) hmx hbb
      obtain ⟨gl', k1, k2, k3⟩ := fresh v' w' r1 r2
      exact ⟨v', w', gl', hrun, k1, k2, k3⟩
end Go.Proofs.YtdbhgkbmbbjpdaaGreatDoor.Chr
namespace Go.Proofs.YtdbhgkbmbbjpdaaGreatDoor.Chr
variable {lo : Nat}
open Go.ChangeShapes Go.WideShapes Go.ChangeAt Go.RowKit
open Shf (S str)
open Coin (Rd Row Own sz coin got Pur takeV endV CoinSaid)
open Frm (pack err size kind cnt body noItem itemV OneSaid)
set_option maxRecDepth 8000
open Shf (Tag Ext)
structure ItD where
  k : UInt8
  p : S
  a : Nat
  b : Nat
structure VolD where
  no : Nat
  first : Nat
  its : List ItD
  size : Nat
structure CD where
  most : Nat
  hF : Nat
  hB : Nat
  hU : Nat
  base : S
  vols : List VolD
  full : Bool
def PAt (w : World) (T : Nat → Tag) (A : Option Addr) (c : Nat) (p : S) : Prop :=
  (A = none → c = 0) ∧ p.length ≤ c ∧ (0 < p.length → ∃ g o cur, A = some ⟨g, o, none⟩ ∧ w.heap[g]? = some (.cells cur 5 (0, 0)) ∧ T g = .none ∧ ∀ j (hj : j < p.length), cur[o + j]? = some (Coin.b8 p[j]))
def itP (x : ItD × Option Addr × Nat) : List Value := [.int .u8 (x.1.k.toNat : Int), .slice x.2.1 x.1.p.length x.2.2, .int .i64 (x.1.a : Int), .int .i64 (x.1.b : Int)]
def LAt (w : World) (T : Nat → Tag) (v : Value) (its : List ItD) (gl : Option Nat) : Prop :=
  ∃ ds : List (ItD × Option Addr × Nat), ds.map (·.1) = its ∧ OwnO w 75 4 v its.length (ds.flatMap itP) gl ∧ (∀ g, gl = some g → T g = .none) ∧ ∀ x ∈ ds, PAt w T x.2.1 x.2.2 x.1.p
def volP (x : VolD × Value × Option Nat) : List Value := [.int .u64 (x.1.no : Int), .int .u64 (x.1.first : Int), x.2.1, .int .i64 (x.1.size : Int)]
def VsAt (lo : Nat) (w : World) (T : Nat → Tag) (v : Value) (vols : List VolD) (gv : Option Nat) : Prop :=
  ∃ vs : List (VolD × Value × Option Nat), vs.map (·.1) = vols ∧ OwnO w 60 4 v vols.length (vs.flatMap volP) gv ∧ (∀ g, gv = some g → T g = .none) ∧ (∀ x ∈ vs, LAt w T x.2.1 x.1.its x.2.2) ∧
    (vs.Pairwise (fun x y => x.2.2 = none ∨ x.2.2 ≠ y.2.2) ∧ (∀ g, gv = some g → lo ≤ g) ∧ ∀ x ∈ vs, ∀ g, x.2.2 = some g → lo ≤ g)
def cC (q : Nat) (c : CD) (bA : Option Addr) (bc : Nat) (vv : Value) : Array Value := #[.pointer (some ⟨q, 0, none⟩), .int .i64 (c.most : Int), .int .u64 (c.hF : Int), .int .u64 (c.hB : Int), .int .u64 (c.hU : Int), .slice bA c.base.length bc, vv, .bool c.full]
structure CAtV (lo : Nat) (w : World) (T : Nat → Tag) (p q : Nat) (c : CD) (bA : Option Addr) (bc : Nat) (vv : Value) (gv : Option Nat) : Prop where
  row : w.heap[p]? = some (.cells (cC q c bA bc vv) 82)
  tp : T p = .none
  ba : PAt w T bA bc c.base
  vs : VsAt lo w T vv c.vols gv
  lp : lo ≤ p
def CAt (lo : Nat) (w : World) (T : Nat → Tag) (p q : Nat) (c : CD) : Prop := ∃ bA bc vv gv, CAtV lo w T p q c bA bc vv gv
structure Kp (w : World) (T : Nat → Tag) (w' : World) (T' : Nat → Tag) : Prop where
  size : w.heap.size ≤ w'.heap.size
  block : ∀ b, b < w.heap.size → T b = .none → w'.heap[b]? = w.heap[b]? ∧ T' b = .none
  os : w'.os = w.os
  tape : w'.tape = w.tape
  output : w'.output = w.output
theorem kp_ext {w w' : World} {T T' : Nat → Tag} (h : Ext w T w' T') : Kp w T w' T' := ⟨h.size, fun b hb hn => ⟨h.block b hb hn, (h.tags b hb).trans hn⟩, h.os, h.tape, h.output⟩
theorem kp_below {w w' : World} (h : Below w.heap.size w w') (T : Nat → Tag) : Kp w T w' T := ⟨h.size, fun b hb hn => ⟨h.block b hb, hn⟩, h.os, h.tape, h.output⟩
theorem Kp.refl (w : World) (T : Nat → Tag) : Kp w T w T := ⟨Nat.le_refl _, fun _ _ h => ⟨rfl, h⟩, rfl, rfl, rfl⟩
theorem Kp.trans {a b c : World} {T U V : Nat → Tag} (h : Kp a T b U) (k : Kp b U c V) : Kp a T c V :=
  ⟨Nat.le_trans h.size k.size, fun i hi hn => by
    obtain ⟨h1, h2⟩ := h.block i hi hn
    obtain ⟨k1, k2⟩ := k.block i (Nat.lt_of_lt_of_le hi h.size) h2
    exact ⟨k1.trans h1, k2⟩, k.os.trans h.os, k.tape.trans h.tape, k.output.trans h.output⟩
theorem PAt.keep {w w' : World} {T T' : Nat → Tag} {A : Option Addr} {c : Nat} {p : S} (h : PAt w T A c p) (K : Kp w T w' T') : PAt w' T' A c p := by
  obtain ⟨h1, h2, h3⟩ := h
  refine ⟨h1, h2, fun h0 => ?_⟩
  obtain ⟨g, o, cur, e, k1, k2, k3⟩ := h3 h0
  obtain ⟨b1, b2⟩ := K.block g (Array.getElem?_eq_some_iff.1 k1).1 k2
  exact ⟨g, o, cur, e, b1.trans k1, b2, k3⟩
theorem LAt.keep {w w' : World} {T T' : Nat → Tag} {v : Value} {its : List ItD} {gl : Option Nat} (h : LAt w T v its gl) (K : Kp w T w' T') : LAt w' T' v its gl := by
  obtain ⟨ds, h1, h2, h3, h4⟩ := h
  exact ⟨ds, h1, h2.keep fun g hg => (K.block g (h2.lt g hg).1 (h3 g hg)).1, fun g hg => (K.block g (h2.lt g hg).1 (h3 g hg)).2, fun x hx => (h4 x hx).keep K⟩
theorem VsAt.keep {w w' : World} {T T' : Nat → Tag} {v : Value} {vols : List VolD} {gv : Option Nat} (h : VsAt lo w T v vols gv) (K : Kp w T w' T') : VsAt lo w' T' v vols gv := by
  obtain ⟨vs, h1, h2, h3, h4, h5⟩ := h
  exact ⟨vs, h1, h2.keep fun g hg => (K.block g (h2.lt g hg).1 (h3 g hg)).1, fun g hg => (K.block g (h2.lt g hg).1 (h3 g hg)).2, fun x hx => (h4 x hx).keep K, h5⟩
theorem CAtV.keep {w w' : World} {T T' : Nat → Tag} {p q : Nat} {c : CD} {bA : Option Addr} {bc : Nat} {vv : Value} {gv : Option Nat} (h : CAtV lo w T p q c bA bc vv gv) (K : Kp w T w' T') : CAtV lo w' T' p q c bA bc vv gv := by
  obtain ⟨b1, b2⟩ := K.block p (Array.getElem?_eq_some_iff.1 h.row).1 h.tp
  exact ⟨b1.trans h.row, b2, h.ba.keep K, h.vs.keep K, h.lp⟩
theorem CAt.keep {w w' : World} {T T' : Nat → Tag} {p q : Nat} {c : CD} (h : CAt lo w T p q c) (K : Kp w T w' T') : CAt lo w' T' p q c := by
  obtain ⟨bA, bc, vv, gv, h⟩ := h
  exact ⟨bA, bc, vv, gv, h.keep K⟩
def NotTy (w : World) (X : Nat) (t : TypeId) : Prop := ∀ cur, w.heap[X]? ≠ some (.cells cur t (0, 0))
theorem notTy {w : World} {X : Nat} {cur : Array Value} {s t : TypeId} (h : w.heap[X]? = some (.cells cur s (0, 0))) (hne : s ≠ t) : NotTy w X t := fun cur' e => by
  rw [h] at e
  injection e with e
  injection e with e1 e2
  exact hne e2
theorem PAt.grown {w w' : World} {T : Nat → Tag} {A : Option Addr} {c : Nat} {p : S} {X : Nat} (h : PAt w T A c p) (G : w.grownBy w' (some X)) (hX : NotTy w X 5) : PAt w' T A c p := by
  obtain ⟨h1, h2, h3⟩ := h
  refine ⟨h1, h2, fun h0 => ?_⟩
  obtain ⟨g, o, cur, e, k1, k2, k3⟩ := h3 h0
  exact ⟨g, o, cur, e, (G.block g (Array.getElem?_eq_some_iff.1 k1).1 (fun e => by injection e with e; rw [e] at k1; exact hX _ k1)).trans k1, k2, k3⟩
theorem LAt.grown {w w' : World} {T : Nat → Tag} {v : Value} {its : List ItD} {gl : Option Nat} {X : Nat} (h : LAt w T v its gl) (G : w.grownBy w' (some X)) (hX : NotTy w X 5) (hg : gl ≠ some X) : LAt w' T v its gl := by
  obtain ⟨ds, h1, h2, h3, h4⟩ := h
  exact ⟨ds, h1, h2.keep fun g e => G.block g (h2.lt g e).1 (fun e' => hg (by rw [e]; exact e')), h3, fun x hx => (h4 x hx).grown G hX⟩
theorem LAt.ne {w : World} {T : Nat → Tag} {v : Value} {its : List ItD} {gl : Option Nat} {X : Nat} (h : LAt w T v its gl) (hX : NotTy w X 75) : gl ≠ some X := fun e => by
  obtain ⟨ds, h1, h2, h3, h4⟩ := h
  obtain ⟨cur, hc⟩ := (h2.lt X e).2
  exact hX _ hc
theorem VsAt.grown {w w' : World} {T : Nat → Tag} {v : Value} {vols : List VolD} {gv : Option Nat} {X : Nat} (h : VsAt lo w T v vols gv) (G : w.grownBy w' (some X)) (h5 : NotTy w X 5) (h75 : NotTy w X 75) (h60 : NotTy w X 60) : VsAt lo w' T v vols gv := by
  obtain ⟨vs, h1, h2, h3, h4, h6⟩ := h
  exact ⟨vs, h1, h2.keep fun g e => G.block g (h2.lt g e).1 (fun e' => by injection e' with e'; subst e'; obtain ⟨cur, hc⟩ := (h2.lt g e).2; exact h60 _ hc), h3, fun x hx => (h4 x hx).grown G h5 ((h4 x hx).ne h75), h6⟩
theorem row8 {w : World} {b : Nat} {t : TypeId} {x0 x1 x2 x3 x4 x5 x6 x7 : Value} (h : w.heap[b]? = some (.cells #[x0, x1, x2, x3, x4, x5, x6, x7] t)) :
    w.cell? ⟨b, 0, none⟩ = some x0 ∧ w.cell? ⟨b, 1, none⟩ = some x1 ∧ w.cell? ⟨b, 2, none⟩ = some x2 ∧ w.cell? ⟨b, 3, none⟩ = some x3 ∧ w.cell? ⟨b, 4, none⟩ = some x4 ∧ w.cell? ⟨b, 5, none⟩ = some x5 ∧ w.cell? ⟨b, 6, none⟩ = some x6 ∧ w.cell? ⟨b, 7, none⟩ = some x7 ∧ ∀ i, w.frozen? ⟨b, i, none⟩ = false :=
  ⟨cell_of_row w b 0 _ t (0, 0) h, cell_of_row w b 1 _ t (0, 0) h, cell_of_row w b 2 _ t (0, 0) h, cell_of_row w b 3 _ t (0, 0) h, cell_of_row w b 4 _ t (0, 0) h, cell_of_row w b 5 _ t (0, 0) h, cell_of_row w b 6 _ t (0, 0) h, cell_of_row w b 7 _ t (0, 0) h, fun i => frozen_of_row w b i _ t h⟩
theorem CAtV.set {w : World} {T : Nat → Tag} {p q : Nat} {c : CD} {bA : Option Addr} {bc : Nat} {vv : Value} {gv : Option Nat} (h : CAtV lo w T p q c bA bc vv gv) (i : Nat) (u : Value) (c' : CD) (bA' : Option Addr) (bc' : Nat) (vv' : Value) (gv' : Option Nat)
    (e : (cC q c bA bc vv).setIfInBounds i u = cC q c' bA' bc' vv') (h1 : PAt w T bA' bc' c'.base) (h2 : VsAt lo w T vv' c'.vols gv') : CAtV lo (w.setCell ⟨p, i, none⟩ u) T p q c' bA' bc' vv' gv' := by
  have G := Shf.grown_set w p i u
  exact ⟨by rw [heap_setCell_same w p i _ 82 _ h.row, e], h.tp, h1.grown G (notTy h.row (by decide)), h2.grown G (notTy h.row (by decide)) (notTy h.row (by decide)) (notTy h.row (by decide)), h.lp⟩
theorem PAt.rd {w : World} {T : Nat → Tag} {A : Option Addr} {c : Nat} {p : S} (h : PAt w T A c p) : Rd w w.heap.size A p := fun h0 => by
  obtain ⟨g, o, cur, e, k1, k2, k3⟩ := h.2.2 h0
  refine ⟨_, e, (Array.getElem?_eq_some_iff.1 k1).1, fun j hj => ?_⟩
  rw [Addr.add_lit, cell_of_row w g (o + j) _ 5 (0, 0) k1]
  exact k3 j hj
end Go.Proofs.YtdbhgkbmbbjpdaaGreatDoor.Chr

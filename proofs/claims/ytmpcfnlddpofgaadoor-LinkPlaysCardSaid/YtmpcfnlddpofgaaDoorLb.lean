/- Links: what a link's calls do. -/
import Derived.Test.YtmpcfnlddpofgaaDoorLa
import Derived.Handy
namespace Go.Proofs.YtmpcfnlddpofgaaDoor.Lk
open Go.ChangeShapes Go.WideShapes Go.ChangeAt Go.RowKit

/-- A link: its five cells. -/
structure L where
  c : Nat
  n : Nat
  m : Nat
  t : Nat
  h : Nat
structure L.Ok (l : L) : Prop where
  c : l.c < 65536
  n : l.n ≤ 4611686018427387904
  m : l.m ≤ 4611686018427387904
  t : l.t < 65536
  h : l.h ≤ 4611686018427387904
def LkAt (w : World) (q : Nat) (l : L) : Prop := w.heap[q]? = some (.cells #[.int .u16 (l.c : Int), .int .u64 (l.n : Int), .int .u64 (l.m : Int), .int .u16 (l.t : Int), .int .u64 (l.h : Int)] 41 (0, 0))

def tz (c : Nat) : Nat := Lib.ctz 16 c
theorem tz_le (c : Nat) (h : c < 65536) : tz c ≤ 16 := by
  unfold tz
  by_cases h0 : c = 0
  · simp [Lib.ctz, h0]
  · exact Nat.le_of_lt (Lib.lowest_bit 16 c h0 h).2
def sh (c s : Nat) : Nat := c * 2 ^ min s 16 % 65536
def L.steps (l : L) (n : Nat) : Nat := if n < l.n ∨ n - l.n ≤ tz l.c then 16 else n - l.n - tz l.c
theorem steps_pos (l : L) (n : Nat) : 1 ≤ l.steps n := by unfold L.steps; split <;> omega
theorem sh_even (c s : Nat) (h : 1 ≤ s) : sh c s % 2 = 0 ∧ sh c s < 65536 := by
  unfold sh
  refine ⟨?_, Nat.mod_lt _ (by decide)⟩
  obtain ⟨k, hk⟩ : ∃ k, min s 16 = k + 1 := ⟨min s 16 - 1, by omega⟩
  rw [hk, Nat.pow_succ, ← Nat.mul_assoc]
  omega
theorem shift_any (c s : Nat) : Op.shift .shl .u16 (c : Int) .u64 (s : Int) = pure (.int .u16 ((sh c s : Nat) : Int)) := by
  have e : ¬ ((s : Int) < 0) := by omega
  have hb : IntKind.u16.bits = 16 := rfl
  simp only [Op.shift, e, if_false, Int.toNat_natCast, hb, IntKind.wrap_u16]
  unfold sh
  congr 2
def L.new (now : Nat) : L := ⟨0, 0, now + 6, 65535, 0⟩
def L.hello (l : L) (n now : Nat) : L := { l with c := sh l.c (l.steps n) + 1, n := n, m := now + 6 }
def L.heard (l : L) (cost now : Nat) : L := { l with t := max cost 1, h := now + 20 }
def recv (c : Nat) : Nat := if 2 ≤ c % 2 + c / 2 % 2 + c / 4 % 2 then 96 else 65535
def L.cost (l : L) : Nat := if recv l.c = 96 then l.t else 65535

theorem LkAt.lt {w : World} {q : Nat} {l : L} (h : LkAt w q l) : q < w.heap.size := by
  rcases Nat.lt_or_ge q w.heap.size with hlt | hge
  · exact hlt
  · unfold LkAt at h; rw [Array.getElem?_eq_none hge] at h; cases h
theorem LkAt.keep {w w' : World} {q : Nat} {l : L} (h : LkAt w q l) (hb : w'.heap[q]? = w.heap[q]?) : LkAt w' q l := hb.trans h
theorem grown_set (w : World) (q i : Nat) (v : Value) : w.grownBy (w.setCell ⟨q, i, none⟩ v) (some q) :=
  ⟨rfl, rfl, rfl, by simp [World.setCell], fun k _ hne => heap_setCell_other w ⟨q, i, none⟩ k v (fun e => hne (by rw [e]))⟩
theorem grown_trans {a b c : World} {q : Nat} (h : a.grownBy b (some q)) (k : b.grownBy c (some q)) : a.grownBy c (some q) :=
  ⟨k.os.trans h.os, k.tape.trans h.tape, k.output.trans h.output, Nat.le_trans h.size k.size, fun i hi hne => (k.block i (Nat.lt_of_lt_of_le hi h.size) hne).trans (h.block i hi hne)⟩
theorem grown_drewN (w : World) (n : Nat) (r : Option Nat) : w.grownBy (w.drewN n) r := ⟨rfl, rfl, rfl, Nat.le_refl _, fun _ _ _ => rfl⟩
theorem below_grown {w W W' : World} {q : Nat} (hb : Below w.heap.size w W) (hg : W.grownBy W' (some q)) (hq : w.heap.size ≤ q) : Below w.heap.size w W' :=
  ⟨hg.os.trans hb.os, hg.tape.trans hb.tape, hg.output.trans hb.output, Nat.le_trans hb.size hg.size, fun i hi => (hg.block i (Nat.lt_of_lt_of_le hi hb.size) (by simp; omega)).trans (hb.block i hi)⟩
theorem LkAt.cells {w : World} {q : Nat} {l : L} (h : LkAt w q l) : w.cell? ⟨q, 0, none⟩ = some (.int .u16 (l.c : Int)) ∧ w.cell? ⟨q, 1, none⟩ = some (.int .u64 (l.n : Int)) ∧ w.cell? ⟨q, 2, none⟩ = some (.int .u64 (l.m : Int)) ∧ w.cell? ⟨q, 3, none⟩ = some (.int .u16 (l.t : Int)) ∧ w.cell? ⟨q, 4, none⟩ = some (.int .u64 (l.h : Int)) := by
  refine ⟨?_, ?_, ?_, ?_, ?_⟩ <;> (rw [cell_of_row w q _ _ 41 (0, 0) h]; rfl)
theorem LkAt.set0 {w : World} {q : Nat} {l : L} (h : LkAt w q l) (c : Nat) : LkAt (w.setCell ⟨q, 0, none⟩ (.int .u16 (c : Int))) q { l with c := c } := by
  unfold LkAt; rw [heap_setCell_same w q 0 _ 41 _ h]; rfl
theorem LkAt.set1 {w : World} {q : Nat} {l : L} (h : LkAt w q l) (c : Nat) : LkAt (w.setCell ⟨q, 1, none⟩ (.int .u64 (c : Int))) q { l with n := c } := by
  unfold LkAt; rw [heap_setCell_same w q 1 _ 41 _ h]; rfl
theorem LkAt.set2 {w : World} {q : Nat} {l : L} (h : LkAt w q l) (c : Nat) : LkAt (w.setCell ⟨q, 2, none⟩ (.int .u64 (c : Int))) q { l with m := c } := by
  unfold LkAt; rw [heap_setCell_same w q 2 _ 41 _ h]; rfl
theorem LkAt.set3 {w : World} {q : Nat} {l : L} (h : LkAt w q l) (c : Nat) : LkAt (w.setCell ⟨q, 3, none⟩ (.int .u16 (c : Int))) q { l with t := c } := by
  unfold LkAt; rw [heap_setCell_same w q 3 _ 41 _ h]; rfl
theorem LkAt.set4 {w : World} {q : Nat} {l : L} (h : LkAt w q l) (c : Nat) : LkAt (w.setCell ⟨q, 4, none⟩ (.int .u64 (c : Int))) q { l with h := c } := by
  unfold LkAt; rw [heap_setCell_same w q 4 _ 41 _ h]; rfl
theorem LkAt.froz {w : World} {q : Nat} {l : L} (h : LkAt w q l) (j : Nat) : w.frozen? ⟨q, j, none⟩ = false := frozen_of_row w q j _ 41 h
theorem LkAt.drew {w : World} {q : Nat} {l : L} (h : LkAt w q l) (n : Nat) : LkAt (w.drewN n) q l := h

theorem new_any (now : Nat) (hnow : now ≤ 4611686018427387000) (w : World) :
    Calls Tryd.prog 9 #[.int .u64 now] w fun e w' => e = .returned (.pointer (some ⟨w.heap.size, 0, none⟩)) ∧ LkAt w' w.heap.size (L.new now) ∧ Below w.heap.size w w' := by
  have hw : IntKind.u64.wrap ((now : Int) + 6) = ((now + 6 : Nat) : Int) := by rw [IntKind.wrap_u64]; omega
  go_enter Tryd.func9, Tryd.ntmps9
  go_wp2_with (simp only [hw])
  go_ret
  refine ⟨rfl, ?_, (Below.refl _ _).alloc (Nat.le_refl _) _⟩
  unfold LkAt
  rw [heap_alloc_new]
  rfl

set_option linter.unusedSimpArgs false in
theorem steps_any (w : World) (q : Nat) (l : L) (n : Nat) (h : LkAt w q l) (hok : l.Ok) (hT : Tab w) (hn : n ≤ 4611686018427387904) :
    Calls Tryd.prog 16 #[.pointer (some ⟨q, 0, none⟩), .int .u64 n] w fun e w' => e = .returned (.int .u64 (l.steps n : Nat)) ∧ w = w' := by
  obtain ⟨h0, h1, -, -, -⟩ := h.cells
  have c18 := tz16_any l.c hok.c w hT
  have hz := tz_le l.c hok.c
  change Calls Tryd.prog 18 #[.int .u16 (l.c : Int)] w fun e w' => e = .returned (.int .i64 (tz l.c : Nat)) ∧ w = w' at c18
  have hn1 := hok.n
  obtain ⟨s, hs⟩ : ∃ s, l.steps n = s := ⟨_, rfl⟩
  rw [hs]
  have HS := Lib.hid hs
  unfold L.steps at hs
  clear hok h hT
  generalize l.c = c at *
  generalize l.n = N at *
  generalize tz c = z at *
  by_cases hlt : n < N
  · rw [if_pos (.inl hlt)] at hs
    subst hs
    have hd : decide ((n : Int) < (N : Int)) = true := by simp; omega
    clear HS
    go_enter Tryd.func16, Tryd.ntmps16
    go_wp2_with (go_at_call 18; refine c18.mono ?_; rintro e w' ⟨rfl, rfl⟩)
    go_ret
    exact ⟨rfl, rfl⟩
  · have hd : decide ((n : Int) < (N : Int)) = false := by simp; omega
    have hw1 : IntKind.u64.wrap ((n : Int) - (N : Int)) = ((n - N : Nat) : Int) := by rw [IntKind.wrap_u64]; omega
    generalize hk : n - N = k at *
    by_cases hle : k ≤ z
    · rw [if_pos (.inr hle)] at hs
      subst hs
      have hd2 : decide ((k : Int) ≤ (z : Int)) = true := by simp; omega
      clear HS hk
      go_enter Tryd.func16, Tryd.ntmps16
      go_wp2_with (first | (go_at_call 18; refine c18.mono ?_; rintro e w' ⟨rfl, rfl⟩) | simp only [hw1])
      go_ret
      exact ⟨rfl, rfl⟩
    · rw [if_neg (by omega)] at hs
      have hd2 : decide ((k : Int) ≤ (z : Int)) = false := by simp; omega
      have hw2 : IntKind.u64.wrap ((k : Int) - (z : Int)) = (s : Int) := by rw [IntKind.wrap_u64]; omega
      clear HS hk hs
      go_enter Tryd.func16, Tryd.ntmps16
      go_wp2_with (first | (go_at_call 18; refine c18.mono ?_; rintro e w' ⟨rfl, rfl⟩) | simp only [hw1, hw2])
      go_ret
      exact ⟨rfl, rfl⟩
theorem hello_nil (n now : Int) (w : World) : Calls Tryd.prog 10 #[.pointer none, .int .u64 n, .int .u64 now] w fun e w' => e = .returned (.tuple #[]) ∧ w = w' := by
  go_enter Tryd.func10, Tryd.ntmps10
  go_wp2
  go_returns
  exact ⟨rfl, rfl⟩
theorem heard_nil (n now : Int) (w : World) : Calls Tryd.prog 11 #[.pointer none, .int .u16 n, .int .u64 now] w fun e w' => e = .returned (.tuple #[]) ∧ w = w' := by
  go_enter Tryd.func11, Tryd.ntmps11
  go_wp2
  go_returns
  exact ⟨rfl, rfl⟩
theorem tick_nil (now : Int) (w : World) : Calls Tryd.prog 12 #[.pointer none, .int .u64 now] w fun e w' => e = .returned (.tuple #[]) ∧ w = w' := by
  go_enter Tryd.func12, Tryd.ntmps12
  go_wp2
  go_returns
  exact ⟨rfl, rfl⟩
theorem receives_nil (w : World) : Calls Tryd.prog 13 #[.pointer none] w fun e w' => e = .returned (.int .u16 65535) ∧ w = w' := by
  go_enter Tryd.func13, Tryd.ntmps13
  go_wp2
  go_ret
  exact ⟨rfl, rfl⟩
theorem cost_nil (w : World) : Calls Tryd.prog 14 #[.pointer none] w fun e w' => e = .returned (.int .u16 65535) ∧ w = w' := by
  go_enter Tryd.func14, Tryd.ntmps14
  go_wp2_with (go_at_call 13; refine (receives_nil _).mono ?_; rintro e w' ⟨rfl, rfl⟩)
  go_ret
  exact ⟨rfl, rfl⟩
theorem alive_nil (w : World) : Calls Tryd.prog 15 #[.pointer none] w fun e w' => e = .returned (.bool false) ∧ w = w' := by
  go_enter Tryd.func15, Tryd.ntmps15
  go_wp2
  go_ret
  exact ⟨rfl, rfl⟩

theorem heard_any (w : World) (q : Nat) (l : L) (cost now : Nat) (h : LkAt w q l) (hc : cost < 65536) (hnow : now ≤ 4611686018427387000) :
    Calls Tryd.prog 11 #[.pointer (some ⟨q, 0, none⟩), .int .u16 cost, .int .u64 now] w fun e w' => e = .returned (.tuple #[]) ∧ LkAt w' q (l.heard cost now) ∧ w.grownBy w' (some q) := by
  obtain ⟨-, -, -, h3, h4⟩ := h.cells
  have f3 := h.froz 3
  have f4 := h.froz 4
  have hw : IntKind.u64.wrap ((now : Int) + 20) = ((now + 20 : Nat) : Int) := by rw [IntKind.wrap_u64]; omega
  have HS := Lib.hid ((h.set3 (max cost 1)).set4 (now + 20))
  have HG := Lib.hid (grown_trans (grown_set w q 3 (.int .u16 ((max cost 1 : Nat) : Int))) (grown_set _ q 4 (.int .u64 ((now + 20 : Nat) : Int))))
  clear h
  go_enter Tryd.func11, Tryd.ntmps11
  go_wp2_with (simp only [hw])
  all_goals
    go_returns
    refine ⟨rfl, ?_, ?_⟩
  · have := HS.out
    unfold L.heard
    rw [show max cost 1 = 1 by omega] at this ⊢
    exact this
  · have := HG.out
    rw [show max cost 1 = 1 by omega] at this
    exact this
  · have := HS.out
    unfold L.heard
    rw [show max cost 1 = cost by omega] at this ⊢
    exact this
  · have := HG.out
    rw [show max cost 1 = cost by omega] at this
    exact this

theorem hello_any (w : World) (q : Nat) (l : L) (n now : Nat) (h : LkAt w q l) (hok : l.Ok) (hT : Tab w) (hn : n ≤ 4611686018427387904) (hnow : now ≤ 4611686018427387000) :
    Calls Tryd.prog 10 #[.pointer (some ⟨q, 0, none⟩), .int .u64 n, .int .u64 now] w fun e w' => e = .returned (.tuple #[]) ∧ LkAt w' q (l.hello n now) ∧ w.grownBy w' (some q) := by
  have c16 := (steps_any w.drew q l n (h.drew 1) hok (tab_keep hT rfl) hn).mono fun _ _ h => And.intro h.1 h.2.symm
  have hs := steps_pos l n
  obtain ⟨ev, lt⟩ := sh_even l.c (l.steps n) hs
  have hor := bits_or_one _ lt ev
  have hsh := shift_any l.c (l.steps n)
  have HL := Lib.hid (show l.hello n now = { l with c := sh l.c (l.steps n) + 1, n := n, m := now + 6 } from rfl)
  generalize l.hello n now = l' at *
  have hw : IntKind.u64.wrap ((now : Int) + 6) = ((now + 6 : Nat) : Int) := by rw [IntKind.wrap_u64]; omega
  have S1 := (h.drew 1).set0 (sh l.c (l.steps n) + 1)
  have HS := Lib.hid ((S1.set1 n).set2 (now + 6))
  have HG := Lib.hid (grown_trans (grown_trans (grown_trans (grown_drewN w 1 (some q)) (grown_set (w.drewN 1) q 0 (.int .u16 ((sh l.c (l.steps n) + 1 : Nat) : Int)))) (grown_set _ q 1 (.int .u64 (n : Int)))) (grown_set _ q 2 (.int .u64 ((now + 6 : Nat) : Int))))
  obtain ⟨h0, h1, h2, -, -⟩ := (h.drew 1).cells
  have f0 := (h.drew 1).froz 0
  have f1 := (h.drew 1).froz 1
  have f2 := (h.drew 1).froz 2
  have cs : (sh l.c (l.steps n) + 1) < 65536 := by omega
  clear S1 h hok hT ev lt hs
  generalize l.steps n = s at *
  generalize sh l.c s = C at *
  generalize l.c = c at *
  go_enter Tryd.func10, Tryd.ntmps10
  go_wp2
  refine wp_region_still_tail 12 (by kernel_rfl) (by kernel_rfl) ?_
  simp only [List.take_succ_cons, List.take_zero, List.drop_succ_cons, List.drop_zero]
  change wpStill _ _ w.drew (fun a' => wpList _ _ _ _ a' w.drew) _ _
  change Hid (w.grownBy (((w.drew.setCell _ _).setCell _ _).setCell _ _) _) at HG
  change Hid (LkAt (((w.drew.setCell _ _).setCell _ _).setCell _ _) _ _) at HS
  change w.drew.cell? _ = _ at h0 h1 h2
  change w.drew.frozen? _ = _ at f0 f1 f2
  generalize w.drew = wd at *
  repeat still_step
  still_call c16
  repeat still_step
  refine wpStill_nil ?_
  go_wp2
  go_returns
  exact ⟨rfl, by rw [HL.out]; exact HS.out, HG.out⟩

theorem receives_any (w : World) (q : Nat) (l : L) (h : LkAt w q l) (hc : l.c < 65536) :
    Calls Tryd.prog 13 #[.pointer (some ⟨q, 0, none⟩)] w fun e w' => e = .returned (.int .u16 (recv l.c : Nat)) ∧ ∃ n, w' = w.drewN n := by
  obtain ⟨h0, -, -, -, -⟩ := h.cells
  have hsh : IntKind.u16.wrap ((l.c : Int) * 8192) = ((8192 * (l.c % 8) : Nat) : Int) := by rw [IntKind.wrap_u16]; omega
  have hr : recv l.c = if 2 ≤ (l.c % 8) % 2 + (l.c % 8) / 2 % 2 + (l.c % 8) / 4 then 96 else 65535 := by
    unfold recv
    have : l.c % 2 = l.c % 8 % 2 ∧ l.c / 2 % 2 = l.c % 8 / 2 % 2 ∧ l.c / 4 % 2 = l.c % 8 / 4 := by omega
    rw [this.1, this.2.1, this.2.2]
  rw [hr]
  have hk : l.c % 8 < 8 := by omega
  generalize l.c % 8 = k at *
  have c17 := pop_any k hk w
  obtain ⟨X, hX⟩ : ∃ X : Int, ((8192 * k : Nat) : Int) = X := ⟨_, rfl⟩
  rw [hX] at c17 hsh
  clear h hr hX
  by_cases h2 : 2 ≤ k % 2 + k / 2 % 2 + k / 4
  · rw [if_pos h2]
    generalize k % 2 + k / 2 % 2 + k / 4 = p at *
    have hd : decide ((p : Int) < 2) = false := by simp; omega
    go_enter Tryd.func13, Tryd.ntmps13
    go_wp2_with (first | (go_at_call 17; ((with_reducible refine c17.mono ?_); rintro e w' ⟨rfl, n, rfl⟩)) | simp only [hsh])
    go_ret
    exact ⟨rfl, _, rfl⟩
  · rw [if_neg h2]
    generalize k % 2 + k / 2 % 2 + k / 4 = p at *
    have hd : decide ((p : Int) < 2) = true := by simp; omega
    go_enter Tryd.func13, Tryd.ntmps13
    go_wp2_with (first | (go_at_call 17; ((with_reducible refine c17.mono ?_); rintro e w' ⟨rfl, n, rfl⟩)) | simp only [hsh])
    go_ret
    exact ⟨rfl, _, rfl⟩
theorem cost_any (w : World) (q : Nat) (l : L) (h : LkAt w q l) (hc : l.c < 65536) :
    Calls Tryd.prog 14 #[.pointer (some ⟨q, 0, none⟩)] w fun e w' => e = .returned (.int .u16 (l.cost : Nat)) ∧ ∃ n, w' = w.drewN n := by
  have c13 := receives_any w q l h hc
  obtain ⟨-, -, -, h3, -⟩ := h.cells
  by_cases hr : recv l.c = 96
  · rw [hr] at c13
    rw [show l.cost = l.t by simp [L.cost, hr]]
    clear h hr
    go_enter Tryd.func14, Tryd.ntmps14
    go_wp2_with (first | (go_at_call 13; refine c13.mono ?_; rintro e w' ⟨rfl, n, rfl⟩))
    go_ret
    exact ⟨rfl, _, rfl⟩
  · have e : recv l.c = 65535 := by
      unfold recv at hr ⊢; split <;> simp_all
    rw [e] at c13
    rw [show l.cost = 65535 by simp [L.cost, hr]]
    clear h hr
    go_enter Tryd.func14, Tryd.ntmps14
    go_wp2_with (first | (go_at_call 13; refine c13.mono ?_; rintro e w' ⟨rfl, n, rfl⟩))
    go_ret
    exact ⟨rfl, _, rfl⟩
theorem alive_any (w : World) (q : Nat) (l : L) (h : LkAt w q l) (b : Bool) (hb : b = decide (l.c ≠ 0)) :
    Calls Tryd.prog 15 #[.pointer (some ⟨q, 0, none⟩)] w fun e w' => e = .returned (.bool b) ∧ w = w' := by
  obtain ⟨h0, -, -, -, -⟩ := h.cells
  have hz : ((l.c : Int) != 0) = b := by rw [hb, Bool.eq_iff_iff]; simp
  clear h hb
  go_enter Tryd.func15, Tryd.ntmps15
  go_wp2
  go_ret
  exact ⟨by rw [← hz]; rfl, rfl⟩
end Go.Proofs.YtmpcfnlddpofgaaDoor.Lk

/- Links: a tick; the document's example. -/
import Derived.Test.YtmpcfnlddpofgaaDoorLb
namespace Go.Proofs.YtmpcfnlddpofgaaDoor.Lk
open Go.ChangeShapes Go.WideShapes Go.ChangeAt Go.RowKit
set_option linter.unusedVariables false

theorem sh_zero (c : Nat) (h : c < 65536) : sh c 0 = c := by unfold sh; simp; omega
theorem sh_succ (c k : Nat) : sh c k * 2 % 65536 = sh c (k + 1) := by
  unfold sh
  by_cases h : k < 16
  · rw [show min k 16 = k by omega, show min (k + 1) 16 = k + 1 by omega, Nat.pow_succ, ← Nat.mul_assoc]
    omega
  · rw [show min k 16 = 16 by omega, show min (k + 1) 16 = 16 by omega]
    omega
theorem sh_16 (c k : Nat) (h : 16 ≤ k) : sh c k = 0 := by
  unfold sh
  rw [show min k 16 = 16 by omega]
  omega
theorem sh_lt (c k : Nat) : sh c k < 65536 := Nat.mod_lt _ (by decide)
def L.after (l : L) (k now : Nat) : L := { l with c := sh l.c k, m := l.m + 6 * k, t := if l.h ≤ now then 65535 else l.t }
def Ticked (l : L) (now k : Nat) : Prop := (∀ i, i < k → sh l.c i ≠ 0 ∧ l.m + 6 * i ≤ now) ∧ (sh l.c k = 0 ∨ now < l.m + 6 * k)
def TickSaid (w : World) (q : Nat) (l : L) (now : Nat) (e : Ending) (w' : World) : Prop :=
  e = .returned (.tuple #[]) ∧ ∃ k, Ticked l now k ∧ LkAt w' q (l.after k now) ∧ w.grownBy w' (some q)
structure TickAt (w wr : World) (q : Nat) (l : L) (now : Nat) (k : Nat) : Prop where
  at' : LkAt wr q { l with c := sh l.c k, m := l.m + 6 * k }
  grown : w.grownBy wr (some q)
  was : ∀ i, i < k → sh l.c i ≠ 0 ∧ l.m + 6 * i ≤ now
def msr (q : Nat) (now : Nat) (w : World) : Nat :=
  match w.cell? ⟨q, 2, none⟩ with
  | some (.int .u64 m) => now + 1 - m.toNat
  | _ => 0
theorem msr_at {wr : World} {q : Nat} {l : L} (now : Nat) (h : LkAt wr q l) : msr q now wr = now + 1 - l.m := by
  unfold msr; rw [h.cells.2.2.1]; simp
theorem TickAt.yes {w wr : World} {q : Nat} {l : L} {now k : Nat} (h : TickAt w wr q l now k) (he : sh l.c k = 0 ∨ now < l.m + 6 * k) (hh : l.h ≤ now) :
    TickSaid w q l now (.returned (.tuple #[])) (wr.setCell ⟨q, 3, none⟩ (.int .u16 65535)) := by
  refine ⟨rfl, k, ⟨h.was, he⟩, ?_, grown_trans h.grown (grown_set _ _ _ _)⟩
  have := h.at'.set3 65535
  unfold L.after
  rw [if_pos hh]
  exact this
theorem TickAt.no {w wr : World} {q : Nat} {l : L} {now k : Nat} (h : TickAt w wr q l now k) (he : sh l.c k = 0 ∨ now < l.m + 6 * k) (hh : ¬ l.h ≤ now) :
    TickSaid w q l now (.returned (.tuple #[])) wr := by
  refine ⟨rfl, k, ⟨h.was, he⟩, ?_, h.grown⟩
  unfold L.after
  rw [if_neg hh]
  exact h.at'
theorem TickAt.next {w wr : World} {q : Nat} {l : L} {now k : Nat} (h : TickAt w wr q l now k) (hc : sh l.c k ≠ 0) (hm : l.m + 6 * k ≤ now) (C M : Nat) (hC : C = sh l.c (k + 1)) (hM : M = l.m + 6 * (k + 1)) :
    TickAt w ((wr.setCell ⟨q, 0, none⟩ (.int .u16 (C : Int))).setCell ⟨q, 2, none⟩ (.int .u64 (M : Int))) q l now (k + 1) := by
  subst hC hM
  refine ⟨(h.at'.set0 _).set2 _, grown_trans (grown_trans h.grown (grown_set _ _ _ _)) (grown_set _ _ _ _), fun i hi => ?_⟩
  rcases Nat.lt_or_ge i k with hl | hl
  · exact h.was i hl
  · obtain rfl : i = k := by omega
    exact ⟨hc, hm⟩
set_option maxHeartbeats 1000000 in
theorem tick_any (w : World) (q : Nat) (l : L) (now : Nat) (h : LkAt w q l) (hok : l.Ok) (hnow : now ≤ 4611686018427387000) :
    Calls Tryd.prog 12 #[.pointer (some ⟨q, 0, none⟩), .int .u64 now] w (TickSaid w q l now) := by
  have H0 : Hid (TickAt w w q l now 0) := Lib.hid ⟨by
    have := h; unfold LkAt at this ⊢; rw [this]; simp [sh_zero _ hok.c], ⟨rfl, rfl, rfl, Nat.le_refl _, fun _ _ _ => rfl⟩, fun i hi => by omega⟩
  have HM := hok.m
  have HOK := Lib.hid hok
  have hmsr : ∀ wr : World, Hid (msr q now wr = msr q now wr) := fun _ => Lib.hid rfl
  clear h hok hmsr
  go_enter Tryd.func12, Tryd.ntmps12
  go_wp2
  go_loopw [6] (fun _ wr => ∃ k : Nat, Hid (TickAt w wr q l now k)) (fun _ wr => msr q now wr)
  case atStart => exact ⟨0, H0⟩
  case round =>
    clear H0
    obtain ⟨k, HT⟩ := hrel
    have K0 := HT.out.at'
    obtain ⟨h0, h1, h2, h3, h4⟩ := K0.cells
    simp only at h0 h1 h2 h3 h4
    have f0 := K0.froz 0
    have f2 := K0.froz 2
    have f3 := K0.froz 3
    have HMS := Lib.hid (msr_at now K0)
    have HL := sh_lt l.c k
    have HS := Lib.hid (sh_succ l.c k)
    have HH := HOK.out.h
    clear K0
    by_cases hc : sh l.c k = 0
    · have c15 := alive_any wr q _ HT.out.at' false (by simp [hc])
      have HY := Lib.hid (HT.out.yes (.inl hc))
      have HN := Lib.hid (HT.out.no (.inl hc))
      clear hc HMS HS HL
      generalize l.m + 6 * k = M at *
      generalize sh l.c k = C at *
      by_cases hh : l.h ≤ now
      · have hd : decide ((l.h : Int) ≤ (now : Int)) = true := by simp; omega
        go_wp2_with (first | (go_at_call 15; ((with_reducible refine c15.mono ?_); rintro e w' ⟨rfl, rfl⟩)))
        go_returns
        exact HY.out hh
      · have hd : decide ((l.h : Int) ≤ (now : Int)) = false := by simp; omega
        go_wp2_with (first | (go_at_call 15; ((with_reducible refine c15.mono ?_); rintro e w' ⟨rfl, rfl⟩)))
        go_returns
        exact HN.out hh
    · have c15 := alive_any wr q _ HT.out.at' true (by simp [hc])
      by_cases hm : l.m + 6 * k ≤ now
      · have HX := Lib.hid (HT.out.next hc hm (sh l.c k * 2 % 65536) (l.m + 6 * k + 6) (sh_succ l.c k) (by omega))
        have hd : decide (((l.m + 6 * k : Nat) : Int) ≤ (now : Int)) = true := by simp; omega
        have hw1 : IntKind.u16.wrap ((sh l.c k : Int) * 2) = ((sh l.c k * 2 % 65536 : Nat) : Int) := by rw [IntKind.wrap_u16]; omega
        have hmw := hm
        generalize hM : l.m + 6 * k = M at *
        have HMM := Lib.hid hM
        have hw2 : IntKind.u64.wrap ((M : Int) + 6) = ((M + 6 : Nat) : Int) := by rw [IntKind.wrap_u64]; omega
        clear hM HS hc
        generalize sh l.c k * 2 % 65536 = C1 at *
        generalize hM1 : M + 6 = M1 at *
        have HM1 := Lib.hid hM1
        clear hM1
        generalize sh l.c k = C at *
        go_wp2_with (first | (go_at_call 15; ((with_reducible refine c15.mono ?_); rintro e w' ⟨rfl, rfl⟩)) | simp only [hw1, hw2])
        go_roundw
        case rel => exact ⟨k + 1, HX⟩
        case measure =>
          have h1 := msr_at now HX.out.at'
          have h2 := HMS.out
          have h3 := HMM.out
          simp only at h1 h2
          rw [h1, h2]
          omega
      · have HY := Lib.hid (HT.out.yes (.inr (by omega)))
        have HN := Lib.hid (HT.out.no (.inr (by omega)))
        have hd' : decide (((l.m + 6 * k : Nat) : Int) ≤ (now : Int)) = false := by simp; omega
        clear hc HMS HS HL
        generalize l.m + 6 * k = M at *
        generalize sh l.c k = C at *
        by_cases hh : l.h ≤ now
        · have hd : decide ((l.h : Int) ≤ (now : Int)) = true := by simp; omega
          go_wp2_with (first | (go_at_call 15; ((with_reducible refine c15.mono ?_); rintro e w' ⟨rfl, rfl⟩)))
          go_returns
          exact HY.out hh
        · have hd : decide ((l.h : Int) ≤ (now : Int)) = false := by simp; omega
          go_wp2_with (first | (go_at_call 15; ((with_reducible refine c15.mono ?_); rintro e w' ⟨rfl, rfl⟩)))
          go_returns
          exact HN.out hh
end Go.Proofs.YtmpcfnlddpofgaaDoor.Lk

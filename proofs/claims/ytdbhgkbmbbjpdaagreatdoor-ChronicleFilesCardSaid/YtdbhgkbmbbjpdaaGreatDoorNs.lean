/- Two calls one behind the other; all volumes but the last. -/
import Derived.Test.YtdbhgkbmbbjpdaaGreatDoorNr
namespace Go.Proofs.YtdbhgkbmbbjpdaaGreatDoor.Chr
variable {lo : Nat}
open Go.ChangeShapes Go.WideShapes Go.ChangeAt Go.RowKit
open Shf (S str)
open Coin (Rd Row Own sz coin got Pur takeV endV CoinSaid)
open Frm (pack err size kind cnt body noItem itemV OneSaid)
set_option maxRecDepth 8000
set_option linter.unusedVariables false
open Shf (Tag Ext Rep M RdN)
set_option maxHeartbeats 4000000 in
theorem io_23_84 (w : World) (p b : Nat) (S0 S1 : World → Prop) (PE : Nat → World → Prop) (hw : S0 w) (hb0 : ∀ y, S0 y → y.heap[b]? = some (.cells #[.func (.func 23) #[.pointer (some ⟨p, 0, none⟩)] #[], .func (.func 84) #[.pointer (some ⟨p, 0, none⟩)] #[]] 39)) (hb1 : ∀ y, S1 y → y.heap[b]? = some (.cells #[.func (.func 23) #[.pointer (some ⟨p, 0, none⟩)] #[], .func (.func 84) #[.pointer (some ⟨p, 0, none⟩)] #[]] 39))
    (h0 : ∀ y, S0 y → Calls Tryz.prog 23 #[.pointer (some ⟨p, 0, none⟩)] y fun e w' => ∃ en : Nat, e = .returned (.int .i64 (en : Int)) ∧ (en = 0 → S1 w') ∧ (en ≠ 0 → PE en w'))
    (h1 : ∀ y, S1 y → Calls Tryz.prog 84 #[.pointer (some ⟨p, 0, none⟩)] y fun e w' => ∃ en : Nat, e = .returned (.int .i64 (en : Int)) ∧ PE en w') :
    Calls Tryz.prog 41 #[.slice (some ⟨b, 0, none⟩) 2 2] w fun e w' => ∃ en : Nat, e = .returned (.int .i64 (en : Int)) ∧ PE en w' := by
  have HB := Lib.hid (And.intro hb0 hb1)
  have HS0 := Lib.hid hw
  have HK := Lib.hid (And.intro h0 h1)
  clear hb0 hb1 hw h0 h1
  go_enter Tryz.func41, Tryz.ntmps41
  go_wp2
  go_loopw [8] (fun i wr => (i = .int .i64 0 ∧ Hid (S0 wr)) ∨ (i = .int .i64 1 ∧ Hid (S1 wr)) ∨ (i = .int .i64 2 ∧ Hid (PE 0 wr))) (fun i _ => 2 - (intOf i).toNat)
  case atStart => exact Or.inl ⟨rfl, HS0⟩
  case round =>
    rcases hrel with ⟨rfl, HR⟩ | ⟨rfl, HR⟩ | ⟨rfl, HR⟩
    · have c9 := HK.out.1 wr HR.out
      have hcl : wr.cell? ⟨b, 0, none⟩ = some (.func (.func 23) #[.pointer (some ⟨p, 0, none⟩)] #[]) := cell_of_row wr b 0 _ 39 (0, 0) (HB.out.1 wr HR.out)
      clear HR
      go_upto_region 5 with (go_at_call 23; (refine c9.mono ?_); rintro e w2 ⟨en, rfl, z⟩; have H2 := Lib.hid z; clear z c9)
      by_cases h0 : en = 0
      · have h0' : (en : Int) = 0 := by omega
        have HC0 := Lib.hid h0
        clear h0
        go_wp2
        go_roundw
        case rel => exact Or.inr (Or.inl ⟨rfl, H2.out.1 HC0.out⟩)
        case measure => simp [intOf]
      · have h0' : ¬ (en : Int) = 0 := by omega
        have HC0 := Lib.hid h0
        clear h0
        go_wp2
        go_ret
        exact ⟨en, rfl, H2.out.2 HC0.out⟩
    · have c9 := HK.out.2 wr HR.out
      have hcl : wr.cell? ⟨b, 1, none⟩ = some (.func (.func 84) #[.pointer (some ⟨p, 0, none⟩)] #[]) := cell_of_row wr b 1 _ 39 (0, 0) (HB.out.2 wr HR.out)
      clear HR
      go_upto_region 5 with (go_at_call 84; (refine c9.mono ?_); rintro e w2 ⟨en, rfl, z⟩; have H2 := Lib.hid z; clear z c9)
      by_cases h0 : en = 0
      · have h0' : (en : Int) = 0 := by omega
        have HC0 := Lib.hid h0
        clear h0
        go_wp2
        go_roundw
        case rel => exact Or.inr (Or.inr ⟨rfl, HC0.out ▸ H2.out⟩)
        case measure => simp [intOf]
      · have h0' : ¬ (en : Int) = 0 := by omega
        have HC0 := Lib.hid h0
        clear h0
        go_wp2
        go_ret
        exact ⟨en, rfl, H2.out⟩
    · go_wp2
      go_ret
      exact ⟨0, rfl, HR.out⟩
set_option maxHeartbeats 4000000 in
theorem io_42_43 (w : World) (p b : Nat) (S0 S1 : World → Prop) (PE : Nat → World → Prop) (hw : S0 w) (hb0 : ∀ y, S0 y → y.heap[b]? = some (.cells #[.func (.func 42) #[.pointer (some ⟨p, 0, none⟩)] #[], .func (.func 43) #[.pointer (some ⟨p, 0, none⟩)] #[]] 39)) (hb1 : ∀ y, S1 y → y.heap[b]? = some (.cells #[.func (.func 42) #[.pointer (some ⟨p, 0, none⟩)] #[], .func (.func 43) #[.pointer (some ⟨p, 0, none⟩)] #[]] 39))
    (h0 : ∀ y, S0 y → Calls Tryz.prog 42 #[.pointer (some ⟨p, 0, none⟩)] y fun e w' => ∃ en : Nat, e = .returned (.int .i64 (en : Int)) ∧ (en = 0 → S1 w') ∧ (en ≠ 0 → PE en w'))
    (h1 : ∀ y, S1 y → Calls Tryz.prog 43 #[.pointer (some ⟨p, 0, none⟩)] y fun e w' => ∃ en : Nat, e = .returned (.int .i64 (en : Int)) ∧ PE en w') :
    Calls Tryz.prog 41 #[.slice (some ⟨b, 0, none⟩) 2 2] w fun e w' => ∃ en : Nat, e = .returned (.int .i64 (en : Int)) ∧ PE en w' := by
  have HB := Lib.hid (And.intro hb0 hb1)
  have HS0 := Lib.hid hw
  have HK := Lib.hid (And.intro h0 h1)
  clear hb0 hb1 hw h0 h1
  go_enter Tryz.func41, Tryz.ntmps41
  go_wp2
  go_loopw [8] (fun i wr => (i = .int .i64 0 ∧ Hid (S0 wr)) ∨ (i = .int .i64 1 ∧ Hid (S1 wr)) ∨ (i = .int .i64 2 ∧ Hid (PE 0 wr))) (fun i _ => 2 - (intOf i).toNat)
  case atStart => exact Or.inl ⟨rfl, HS0⟩
  case round =>
    rcases hrel with ⟨rfl, HR⟩ | ⟨rfl, HR⟩ | ⟨rfl, HR⟩
    · have c9 := HK.out.1 wr HR.out
      have hcl : wr.cell? ⟨b, 0, none⟩ = some (.func (.func 42) #[.pointer (some ⟨p, 0, none⟩)] #[]) := cell_of_row wr b 0 _ 39 (0, 0) (HB.out.1 wr HR.out)
      clear HR
      go_upto_region 5 with (go_at_call 42; (refine c9.mono ?_); rintro e w2 ⟨en, rfl, z⟩; have H2 := Lib.hid z; clear z c9)
      by_cases h0 : en = 0
      · have h0' : (en : Int) = 0 := by omega
        have HC0 := Lib.hid h0
        clear h0
        go_wp2
        go_roundw
        case rel => exact Or.inr (Or.inl ⟨rfl, H2.out.1 HC0.out⟩)
        case measure => simp [intOf]
      · have h0' : ¬ (en : Int) = 0 := by omega
        have HC0 := Lib.hid h0
        clear h0
        go_wp2
        go_ret
        exact ⟨en, rfl, H2.out.2 HC0.out⟩
    · have c9 := HK.out.2 wr HR.out
      have hcl : wr.cell? ⟨b, 1, none⟩ = some (.func (.func 43) #[.pointer (some ⟨p, 0, none⟩)] #[]) := cell_of_row wr b 1 _ 39 (0, 0) (HB.out.2 wr HR.out)
      clear HR
      go_upto_region 5 with (go_at_call 43; (refine c9.mono ?_); rintro e w2 ⟨en, rfl, z⟩; have H2 := Lib.hid z; clear z c9)
      by_cases h0 : en = 0
      · have h0' : (en : Int) = 0 := by omega
        have HC0 := Lib.hid h0
        clear h0
        go_wp2
        go_roundw
        case rel => exact Or.inr (Or.inr ⟨rfl, HC0.out ▸ H2.out⟩)
        case measure => simp [intOf]
      · have h0' : ¬ (en : Int) = 0 := by omega
        have HC0 := Lib.hid h0
        clear h0
        go_wp2
        go_ret
        exact ⟨en, rfl, H2.out⟩
    · go_wp2
      go_ret
      exact ⟨0, rfl, HR.out⟩
theorem OwnO.init {w : World} {e : TypeId} {sz g off n cap : Nat} {xs ys : List Value} (h : OwnO w e sz (.slice (some ⟨g, off, none⟩) (n + 1) cap) (n + 1) (xs ++ ys) (some g)) (hl : xs.length = n * sz) : OwnO w e sz (.slice (some ⟨g, off, none⟩) n cap) n xs (some g) := by
  obtain ⟨h0, A, cap', e1, h2, h3, h4, h5, h6⟩ := h
  injection e1 with e1 _ e2
  subst e1 e2
  refine ⟨hl, _, cap, rfl, by omega, h3, (fun h => by cases h), h5, fun hc => ?_⟩
  obtain ⟨g', off', cur, k1, k2, k3, k4, k5⟩ := h6 hc
  refine ⟨g', off', cur, k1, k2, k3, k4, ?_⟩
  have e := congrArg (List.take (n * sz)) k5
  have e2 : (xs ++ ys).take (n * sz) = xs := by rw [← hl]; exact List.take_left
  rw [List.take_take, Nat.min_eq_left (Nat.mul_le_mul_right _ (Nat.le_succ n)), e2] at e
  exact e
theorem VsP.init {w : World} {T : Nat → Tag} {g off n cap : Nat} {vs0 : List (VolD × Value × Option Nat)} {x : VolD × Value × Option Nat} (h : VsP lo w T (.slice (some ⟨g, off, none⟩) n cap) (vs0 ++ [x]) (some g)) : VsP lo w T (.slice (some ⟨g, off, none⟩) vs0.length cap) vs0 (some g) ∧ n = vs0.length + 1 := by
  obtain ⟨h2, h3, h4, h5⟩ := h
  obtain ⟨_, _, e, _⟩ := h2.form
  injection e with _ e _
  rw [List.length_append, List.length_singleton] at e h2
  subst e
  rw [List.flatMap_append] at h2
  exact ⟨⟨h2.init (flat_len vs0), h3, fun y hy => h4 y (List.mem_append_left _ hy), (List.pairwise_append.1 h5.1).1, h5.2.1, fun y hy => h5.2.2 y (List.mem_append_left _ hy)⟩, rfl⟩
end Go.Proofs.YtdbhgkbmbbjpdaaGreatDoor.Chr

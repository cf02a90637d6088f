/-
  'For every input the Go function milestonelaw14.LinkMisses returns true, and each argument reads behind the call as it read before.'
  Conditions: none but the row's own (linux/amd64, sizes of what is read within the address space).
-/
import Derived.Test.YtmpcfnlddpofgaaDoorRows
import Derived.WalkKit
import Derived.ProofKit
import Derived.OpenShut
import Derived.ShutString
import Derived.ChangeOld
import Derived.Below
import Derived.Lib.SmallJoins
import Derived.Lib.Hide
import Derived.Test.YtmpcfnlddpofgaaDoorLg
import Derived.Test.YtmpcfnlddpofgaaDoorLaid
import Derived.Test.YtmpcfnlddpofgaaDoorCards
import Derived.Test.YtmpcfnlddpofgaaDoorTie
import Derived.SevenTiedAt
import Derived.Laws.Closers25b
namespace Go.Proofs.YtmpcfnlddpofgaaDoor.linkMisses
open Lk
open Go.Sort
open Go.ChangeShapes Go.WideShapes Go.ChangeAt Go.RowKit
open Go.ChangeMaps (open_string shut_string)
set_option linter.unusedVariables false

theorem own : ownKnob Tryd.prog.godebug = none := by kernel_rfl
theorem laidOut : laidOutB Tryd.prog = true := by kernel_rfl

set_option maxHeartbeats 2000000 in
set_option maxRecDepth 100000 in
theorem walk (a0 : Option Addr) (len0 cap0 : Nat) (z0 : Nat → Bool) (w : World) (w0 : IsBools w a0 len0 cap0 z0) (hp : Tab w) :
    Calls Tryd.prog 7 #[.slice a0 len0 cap0] w fun e w' => e = .returned (.bool true) ∧ Below w.heap.size w w' := by
  have c8 := awake_any w hp
  by_cases hbig : 60 < len0
  · have HP := Lib.hid hp
    clear hp w0
    have hd : decide ((60 : Int) < (len0 : Int)) = true := by simp; omega
    go_enter Tryd.func7, Tryd.ntmps7
    go_wp2_with fail
    refine c8.mono ?_
    rintro e wa ⟨rfl, hb⟩
    have c8b := awake_any wa (tab_below HP.out hb (tab_size HP.out))
    go_wp2_with (go_at_call 8; refine c8b.mono ?_; rintro e w' ⟨rfl, hb2⟩)
    go_ret
    exact ⟨rfl, bstep hb hb2⟩
  have hd : decide ((60 : Int) < (len0 : Int)) = false := by simp; omega
  have HP := Lib.hid hp
  have HZ := Lib.hid w0
  clear hp w0
  go_enter Tryd.func7, Tryd.ntmps7
  go_wp2_with fail
  refine c8.mono ?_
  rintro e wa ⟨rfl, hb⟩
  have HB := Lib.hid hb
  clear hb
  go_wp2_with fail
  refine (in_new HB.out HP.out 0 (by omega)).mono ?_
  rintro e wb ⟨rfl, hi⟩
  have H0 : Hid (Mis w wb wa.heap.size z0 0 (L.new 0) (.slice none 0 0)) := Lib.hid ⟨hi, new_ok 0 (by omega), World.ownsRow_nil _ _ _ _, .inl ⟨rfl, fun j hj => by omega⟩⟩
  clear hi c8
  generalize wa.heap.size = Q at *
  go_wp2
  go_loopw [4, 5] (fun v4 v5 wr => ∃ (i : Nat) (l : L) (A0 : Option Addr) (c0 : Nat), i ≤ len0 ∧ v4 = .slice A0 i c0 ∧ v5 = .int .i64 (i : Int) ∧ Hid (Mis w wr Q z0 i l (.slice A0 i c0))) (fun _ v5 _ => len0 - (intOf v5).toNat)
  case atStart => exact ⟨0, _, none, 0, by omega, rfl, rfl, H0⟩
  case round =>
    clear H0
    obtain ⟨i, l, A0, c0, hi, rfl, rfl, HM⟩ := hrel
    by_cases hlt : i < len0
    · obtain ⟨b, o, rfl, hbl, -, hcell⟩ := HZ.out.cell (by omega)
      have hc := ((HM.out.in'.below.cell (p := ⟨b, o + i, none⟩) hbl)).trans (hcell i hlt)
      have hdl : decide (i < len0) = true := by simp; omega
      have HLT := Lib.hid hlt
      have hib : i ≤ 1000 := by omega
      clear hcell hlt
      cases hz : z0 i
      · have HZI := Lib.hid hz
        rw [hz] at hc
        clear hz
        obtain ⟨g, cp, w', hrun, c10⟩ := HM.out.came hib HZI.out
        obtain ⟨n1, hn1⟩ : ∃ n1, n1 = i + 1 := ⟨_, rfl⟩
        rw [← hn1] at hrun c10
        have HN1 := Lib.hid hn1
        have C10 := Lib.hid c10
        have hn1b : n1 ≤ 1001 := by omega
        have HODD := Lib.hid (hello_c l i (2 * i)).1
        have hwi : IntKind.u64.wrap (i : Int) = (i : Int) := by rw [IntKind.wrap_u64]; omega
        clear hn1 c10
        go_wp2_with (first | (at_builtin; refine Lib.wpList_append_run _ rfl (.tmp 32) (.tmp 33) 27 27 rfl _ _ rfl rfl _ _ hrun ?_) | (go_at_call 10; ((with_reducible refine C10.out.mono ?_); rintro e w5 ⟨rfl, H5⟩)))
        clear hrun C10 hc
        go_loop [6, 8] (fun v6 v8 => ∃ (d : Nat) (x : Int), d ≤ 3 ∧ d ≤ n1 ∧ v8 = .int .i64 x ∧ ((∃ p : Nat, x = p ∧ p + 1 + d = n1) ∨ (x = -1 ∧ d = n1)) ∧ v6 = .int .i64 (cn z0 n1 d : Nat)) (fun _ v8 => (intOf v8 + 1).toNat)
        case atStart => exact ⟨0, (n1 : Int) - 1, by omega, by omega, rfl, .inl ⟨i, by have := HN1.out; omega, by have := HN1.out; omega⟩, rfl⟩
        case round =>
          obtain ⟨d, x, hd3, hdn, rfl, hx, rfl⟩ := hrel
          obtain ⟨NN, HNN⟩ : ∃ NN, Hid (cn z0 n1 d = NN) := ⟨_, Lib.hid rfl⟩
          rw [HNN.out]
          have hNNb : NN ≤ d := by
            rw [← HNN.out]
            have : ∀ d, cn z0 n1 d ≤ d := fun d => by
              induction d with
              | zero => exact Nat.le_refl _
              | succ d ih => simp only [cn]; split <;> omega
            exact this d
          rcases hx with ⟨p, rfl, hp⟩ | ⟨rfl, hp⟩
          · have HPP := Lib.hid hp
            have hpc := H5.out.cell p (by omega)
            have hpn : p < n1 := by omega
            clear hp
            by_cases hd2 : d < 3
            · have HS : Hid (cn z0 n1 (d + 1) = NN + if z0 p then 0 else 1) := Lib.hid (by simp only [cn]; rw [HNN.out, show n1 - 1 - d = p by have := HPP.out; omega])
              have hdc : decide ((n1 : Int) - 3 ≤ (p : Int)) = true := by have := HPP.out; simp; omega
              cases hzp : z0 p
              · rw [hzp] at hpc HS
                clear hzp
                go_wp2
                go_round
                case rel => exact ⟨d + 1, (p : Int) - 1, by omega, by have := HPP.out; omega, rfl, down HPP.out, by rw [HS.out]; rfl⟩
                case measure => simp [intOf] <;> omega
              · rw [hzp] at hpc HS
                clear hzp
                go_wp2
                go_round
                case rel => exact ⟨d + 1, (p : Int) - 1, by omega, by have := HPP.out; omega, rfl, down HPP.out, by rw [HS.out]; rfl⟩
                case measure => simp [intOf] <;> omega
            · have hdc : decide ((n1 : Int) - 3 ≤ (p : Int)) = false := by have := HPP.out; simp; omega
              have HD3 : Hid (d = 3 ∨ d = n1) := Lib.hid (.inl (by omega))
              clear hpc HPP
              clear hpn hd2
              go_wp2
              clear hdc
              go_loop [7, 9] (fun v7 v9 => ∃ (g0 : Nat) (x : Int), g0 ≤ i ∧ v7 = .int .i64 (g0 : Int) ∧ v9 = .int .i64 x ∧ ((∃ p : Nat, x = p ∧ p + 1 + g0 = i) ∨ (x = -1 ∧ g0 = i)) ∧ Hid (∀ t, t < i → i ≤ t + g0 → z0 t = true)) (fun _ v9 => (intOf v9 + 1).toNat)
              case atStart => exact ⟨0, (n1 : Int) - 2, by omega, rfl, rfl, down2 HN1.out, Lib.hid (fun t h1 h2 => by omega)⟩
              case round =>
                obtain ⟨g0, x, hg0, rfl, rfl, hx, HG⟩ := hrel
                rcases hx with ⟨p, rfl, hp⟩ | ⟨rfl, hp⟩
                · have HPP := Lib.hid hp
                  have hpc := H5.out.cell p (by have := HN1.out; omega)
                  have hpi : p < i := by omega
                  have hpn : p < n1 := by have := HN1.out; omega
                  clear hp
                  cases hzp : z0 p
                  · have HE : Hid (g0 = i ∨ z0 (i - 1 - g0) = false) := Lib.hid (.inr (by rw [show i - 1 - g0 = p by have := HPP.out; omega]; exact hzp))
                    rw [hzp] at hpc
                    clear hzp
                    obtain ⟨hr, hg16, hN2⟩ | ⟨hr, hx⟩ := HM.out.li.asks (2 * i) HZI.out (by have := HN1.out; have := HD3.out; omega) hd3 (by have := HN1.out; omega) HG.out (by omega) HE.out
                    · have C13 := Lib.hid (H5.out.receives 96 hr.symm)
                      rw [← HN1.out, HNN.out] at hN2
                      have hgd : decide ((16 : Int) ≤ (g0 : Int)) = false := by simp; omega
                      have hnd : decide ((2 : Int) ≤ (NN : Int)) = true := by simp; omega
                      clear hr hg16 hN2
                      go_wp2_with (first | (go_at_call 13; ((with_reducible refine C13.out.mono ?_); rintro e w6 ⟨rfl, H6⟩)) | (go_at_call 15; ((with_reducible refine (H6.out.alive HODD.out).mono ?_); rintro e w7 ⟨rfl, rfl⟩)))
                      go_roundw
                      case rel => exact ⟨n1, _, _, _, by have := HN1.out; have := HLT.out; omega, rfl, by have := HN1.out; congr 1; omega, H6⟩
                      case measure => have := HLT.out; simp [intOf] <;> omega
                    · have C13 := Lib.hid (H5.out.receives 65535 hr.symm)
                      by_cases h16 : 16 ≤ g0
                      · have hgd : decide ((16 : Int) ≤ (g0 : Int)) = true := by simp; omega
                        clear hr h16 hx
                        go_wp2_with (first | (go_at_call 13; ((with_reducible refine C13.out.mono ?_); rintro e w6 ⟨rfl, H6⟩)) | (go_at_call 15; ((with_reducible refine (H6.out.alive HODD.out).mono ?_); rintro e w7 ⟨rfl, rfl⟩)))
                        go_roundw
                        case rel => exact ⟨n1, _, _, _, by have := HN1.out; have := HLT.out; omega, rfl, by have := HN1.out; congr 1; omega, H6⟩
                        case measure => have := HLT.out; simp [intOf] <;> omega
                      · rw [← HN1.out, HNN.out] at hx
                        have hgd : decide ((16 : Int) ≤ (g0 : Int)) = false := by simp; omega
                        have hnd : decide ((2 : Int) ≤ (NN : Int)) = false := by simp; omega
                        clear hr h16 hx
                        go_wp2_with (first | (go_at_call 13; ((with_reducible refine C13.out.mono ?_); rintro e w6 ⟨rfl, H6⟩)) | (go_at_call 15; ((with_reducible refine (H6.out.alive HODD.out).mono ?_); rintro e w7 ⟨rfl, rfl⟩)))
                        go_roundw
                        case rel => exact ⟨n1, _, _, _, by have := HN1.out; have := HLT.out; omega, rfl, by have := HN1.out; congr 1; omega, H6⟩
                        case measure => have := HLT.out; simp [intOf] <;> omega
                  · have HG2 : Hid (∀ t, t < i → i ≤ t + (g0 + 1) → z0 t = true) := Lib.hid (fun t h1 h2 => by
                      rcases Nat.lt_or_ge t (p + 1) with hl | hl
                      · rw [show t = p by have := HPP.out; omega]; exact hzp
                      · exact HG.out t h1 (by have := HPP.out; omega))
                    rw [hzp] at hpc
                    clear hzp
                    have hgb : g0 ≤ 1000 := by omega
                    go_wp2
                    go_round
                    case rel => exact ⟨g0 + 1, (p : Int) - 1, by have := HPP.out; omega, by congr 1, rfl, down HPP.out, HG2⟩
                    case measure => simp [intOf] <;> omega
                · have HE : Hid (g0 = i ∨ z0 (i - 1 - g0) = false) := Lib.hid (.inl hp)
                  have HPP := Lib.hid hp
                  clear hp
                  obtain ⟨hr, hg16, hN2⟩ | ⟨hr, hx⟩ := HM.out.li.asks (2 * i) HZI.out (by have := HN1.out; have := HD3.out; omega) hd3 (by have := HN1.out; omega) HG.out (by omega) HE.out
                  · have C13 := Lib.hid (H5.out.receives 96 hr.symm)
                    rw [← HN1.out, HNN.out] at hN2
                    have hgd : decide ((16 : Int) ≤ (g0 : Int)) = false := by simp; omega
                    have hnd : decide ((2 : Int) ≤ (NN : Int)) = true := by simp; omega
                    clear hr hg16 hN2
                    go_wp2_with (first | (go_at_call 13; ((with_reducible refine C13.out.mono ?_); rintro e w6 ⟨rfl, H6⟩)) | (go_at_call 15; ((with_reducible refine (H6.out.alive HODD.out).mono ?_); rintro e w7 ⟨rfl, rfl⟩)))
                    go_roundw
                    case rel => exact ⟨n1, _, _, _, by have := HN1.out; have := HLT.out; omega, rfl, by have := HN1.out; congr 1; omega, H6⟩
                    case measure => have := HLT.out; simp [intOf] <;> omega
                  · have C13 := Lib.hid (H5.out.receives 65535 hr.symm)
                    by_cases h16 : 16 ≤ g0
                    · have hgd : decide ((16 : Int) ≤ (g0 : Int)) = true := by simp; omega
                      clear hr h16 hx
                      go_wp2_with (first | (go_at_call 13; ((with_reducible refine C13.out.mono ?_); rintro e w6 ⟨rfl, H6⟩)) | (go_at_call 15; ((with_reducible refine (H6.out.alive HODD.out).mono ?_); rintro e w7 ⟨rfl, rfl⟩)))
                      go_roundw
                      case rel => exact ⟨n1, _, _, _, by have := HN1.out; have := HLT.out; omega, rfl, by have := HN1.out; congr 1; omega, H6⟩
                      case measure => have := HLT.out; simp [intOf] <;> omega
                    · rw [← HN1.out, HNN.out] at hx
                      have hgd : decide ((16 : Int) ≤ (g0 : Int)) = false := by simp; omega
                      have hnd : decide ((2 : Int) ≤ (NN : Int)) = false := by simp; omega
                      clear hr h16 hx
                      go_wp2_with (first | (go_at_call 13; ((with_reducible refine C13.out.mono ?_); rintro e w6 ⟨rfl, H6⟩)) | (go_at_call 15; ((with_reducible refine (H6.out.alive HODD.out).mono ?_); rintro e w7 ⟨rfl, rfl⟩)))
                      go_roundw
                      case rel => exact ⟨n1, _, _, _, by have := HN1.out; have := HLT.out; omega, rfl, by have := HN1.out; congr 1; omega, H6⟩
                      case measure => have := HLT.out; simp [intOf] <;> omega
          · have HD3 : Hid (d = 3 ∨ d = n1) := Lib.hid (.inr hp)
            clear hp
            go_wp2
            go_loop [7, 9] (fun v7 v9 => ∃ (g0 : Nat) (x : Int), g0 ≤ i ∧ v7 = .int .i64 (g0 : Int) ∧ v9 = .int .i64 x ∧ ((∃ p : Nat, x = p ∧ p + 1 + g0 = i) ∨ (x = -1 ∧ g0 = i)) ∧ Hid (∀ t, t < i → i ≤ t + g0 → z0 t = true)) (fun _ v9 => (intOf v9 + 1).toNat)
            case atStart => exact ⟨0, (n1 : Int) - 2, by omega, rfl, rfl, down2 HN1.out, Lib.hid (fun t h1 h2 => by omega)⟩
            case round =>
              obtain ⟨g0, x, hg0, rfl, rfl, hx, HG⟩ := hrel
              rcases hx with ⟨p, rfl, hp⟩ | ⟨rfl, hp⟩
              · have HPP := Lib.hid hp
                have hpc := H5.out.cell p (by have := HN1.out; omega)
                have hpi : p < i := by omega
                have hpn : p < n1 := by have := HN1.out; omega
                clear hp
                cases hzp : z0 p
                · have HE : Hid (g0 = i ∨ z0 (i - 1 - g0) = false) := Lib.hid (.inr (by rw [show i - 1 - g0 = p by have := HPP.out; omega]; exact hzp))
                  rw [hzp] at hpc
                  clear hzp
                  obtain ⟨hr, hg16, hN2⟩ | ⟨hr, hx⟩ := HM.out.li.asks (2 * i) HZI.out (by have := HN1.out; have := HD3.out; omega) hd3 (by have := HN1.out; omega) HG.out (by omega) HE.out
                  · have C13 := Lib.hid (H5.out.receives 96 hr.symm)
                    rw [← HN1.out, HNN.out] at hN2
                    have hgd : decide ((16 : Int) ≤ (g0 : Int)) = false := by simp; omega
                    have hnd : decide ((2 : Int) ≤ (NN : Int)) = true := by simp; omega
                    clear hr hg16 hN2
                    go_wp2_with (first | (go_at_call 13; ((with_reducible refine C13.out.mono ?_); rintro e w6 ⟨rfl, H6⟩)) | (go_at_call 15; ((with_reducible refine (H6.out.alive HODD.out).mono ?_); rintro e w7 ⟨rfl, rfl⟩)))
                    go_roundw
                    case rel => exact ⟨n1, _, _, _, by have := HN1.out; have := HLT.out; omega, rfl, by have := HN1.out; congr 1; omega, H6⟩
                    case measure => have := HLT.out; simp [intOf] <;> omega
                  · have C13 := Lib.hid (H5.out.receives 65535 hr.symm)
                    by_cases h16 : 16 ≤ g0
                    · have hgd : decide ((16 : Int) ≤ (g0 : Int)) = true := by simp; omega
                      clear hr h16 hx
                      go_wp2_with (first | (go_at_call 13; ((with_reducible refine C13.out.mono ?_); rintro e w6 ⟨rfl, H6⟩)) | (go_at_call 15; ((with_reducible refine (H6.out.alive HODD.out).mono ?_); rintro e w7 ⟨rfl, rfl⟩)))
                      go_roundw
                      case rel => exact ⟨n1, _, _, _, by have := HN1.out; have := HLT.out; omega, rfl, by have := HN1.out; congr 1; omega, H6⟩
                      case measure => have := HLT.out; simp [intOf] <;> omega
                    · rw [← HN1.out, HNN.out] at hx
                      have hgd : decide ((16 : Int) ≤ (g0 : Int)) = false := by simp; omega
                      have hnd : decide ((2 : Int) ≤ (NN : Int)) = false := by simp; omega
                      clear hr h16 hx
                      go_wp2_with (first | (go_at_call 13; ((with_reducible refine C13.out.mono ?_); rintro e w6 ⟨rfl, H6⟩)) | (go_at_call 15; ((with_reducible refine (H6.out.alive HODD.out).mono ?_); rintro e w7 ⟨rfl, rfl⟩)))
                      go_roundw
                      case rel => exact ⟨n1, _, _, _, by have := HN1.out; have := HLT.out; omega, rfl, by have := HN1.out; congr 1; omega, H6⟩
                      case measure => have := HLT.out; simp [intOf] <;> omega
                · have HG2 : Hid (∀ t, t < i → i ≤ t + (g0 + 1) → z0 t = true) := Lib.hid (fun t h1 h2 => by
                    rcases Nat.lt_or_ge t (p + 1) with hl | hl
                    · rw [show t = p by have := HPP.out; omega]; exact hzp
                    · exact HG.out t h1 (by have := HPP.out; omega))
                  rw [hzp] at hpc
                  clear hzp
                  have hgb : g0 ≤ 1000 := by omega
                  go_wp2
                  go_round
                  case rel => exact ⟨g0 + 1, (p : Int) - 1, by have := HPP.out; omega, by congr 1, rfl, down HPP.out, HG2⟩
                  case measure => simp [intOf] <;> omega
              · have HE : Hid (g0 = i ∨ z0 (i - 1 - g0) = false) := Lib.hid (.inl hp)
                have HPP := Lib.hid hp
                clear hp
                obtain ⟨hr, hg16, hN2⟩ | ⟨hr, hx⟩ := HM.out.li.asks (2 * i) HZI.out (by have := HN1.out; have := HD3.out; omega) hd3 (by have := HN1.out; omega) HG.out (by omega) HE.out
                · have C13 := Lib.hid (H5.out.receives 96 hr.symm)
                  rw [← HN1.out, HNN.out] at hN2
                  have hgd : decide ((16 : Int) ≤ (g0 : Int)) = false := by simp; omega
                  have hnd : decide ((2 : Int) ≤ (NN : Int)) = true := by simp; omega
                  clear hr hg16 hN2
                  go_wp2_with (first | (go_at_call 13; ((with_reducible refine C13.out.mono ?_); rintro e w6 ⟨rfl, H6⟩)) | (go_at_call 15; ((with_reducible refine (H6.out.alive HODD.out).mono ?_); rintro e w7 ⟨rfl, rfl⟩)))
                  go_roundw
                  case rel => exact ⟨n1, _, _, _, by have := HN1.out; have := HLT.out; omega, rfl, by have := HN1.out; congr 1; omega, H6⟩
                  case measure => have := HLT.out; simp [intOf] <;> omega
                · have C13 := Lib.hid (H5.out.receives 65535 hr.symm)
                  by_cases h16 : 16 ≤ g0
                  · have hgd : decide ((16 : Int) ≤ (g0 : Int)) = true := by simp; omega
                    clear hr h16 hx
                    go_wp2_with (first | (go_at_call 13; ((with_reducible refine C13.out.mono ?_); rintro e w6 ⟨rfl, H6⟩)) | (go_at_call 15; ((with_reducible refine (H6.out.alive HODD.out).mono ?_); rintro e w7 ⟨rfl, rfl⟩)))
                    go_roundw
                    case rel => exact ⟨n1, _, _, _, by have := HN1.out; have := HLT.out; omega, rfl, by have := HN1.out; congr 1; omega, H6⟩
                    case measure => have := HLT.out; simp [intOf] <;> omega
                  · rw [← HN1.out, HNN.out] at hx
                    have hgd : decide ((16 : Int) ≤ (g0 : Int)) = false := by simp; omega
                    have hnd : decide ((2 : Int) ≤ (NN : Int)) = false := by simp; omega
                    clear hr h16 hx
                    go_wp2_with (first | (go_at_call 13; ((with_reducible refine C13.out.mono ?_); rintro e w6 ⟨rfl, H6⟩)) | (go_at_call 15; ((with_reducible refine (H6.out.alive HODD.out).mono ?_); rintro e w7 ⟨rfl, rfl⟩)))
                    go_roundw
                    case rel => exact ⟨n1, _, _, _, by have := HN1.out; have := HLT.out; omega, rfl, by have := HN1.out; congr 1; omega, H6⟩
                    case measure => have := HLT.out; simp [intOf] <;> omega
      · have HZI := Lib.hid hz
        rw [hz] at hc
        clear hz
        obtain ⟨g, cp, w', hrun, hm⟩ := HM.out.lost hib HZI.out
        obtain ⟨n1, hn1⟩ : ∃ n1, n1 = i + 1 := ⟨_, rfl⟩
        rw [← hn1] at hrun hm
        have HN1 := Lib.hid hn1
        have H6 := Lib.hid hm
        clear hn1 hm
        go_wp2_with (first | (at_builtin; refine Lib.wpList_append_run _ rfl (.tmp 29) (.tmp 30) 27 27 rfl _ _ rfl rfl _ _ hrun ?_))
        go_roundw
        case rel => exact ⟨n1, _, _, _, by have := HN1.out; have := HLT.out; omega, rfl, by have := HN1.out; congr 1; omega, H6⟩
        case measure => have := HLT.out; simp [intOf] <;> omega
    · obtain rfl : i = len0 := by omega
      go_wp2
      go_ret
      exact ⟨rfl, HM.out.in'.below⟩

set_option maxRecDepth 100000 in
theorem lifted (os : Os) (started : os.Started) (H : Type) (enc : TypeId × Value → H) :
    ReturnsInHanded {} Tryd.checked os 7 .any (fun w args => (Rows.linkMissesSpec.pre enc Tryd.prog Tryd.f7 Rows.linkMissesRow.domain false w args ∧ laidMet Tryd.prog Rows.linkMissesRow.laid w) ∧ sizedMet enc Tryd.prog Tryd.f7 (OpenSpec.ofChange Rows.linkMissesSpec) false w args)
      (Rows.linkMissesSpec.post enc Tryd.prog Tryd.f7 false true false false) := by
  refine returnsInHanded_of_change_and (C := Tryd.checked) (X := fun w _ => laidMet Tryd.prog Rows.linkMissesRow.laid w) (fun _ _ _ hh h => h.of_heap hh) own started (by kernel_rfl) Tryd.func7
    (ChangeSpec.witness_at (enc := enc) (C := Tryd.checked) (os := os) (X := fun w _ => laidMet Tryd.prog Rows.linkMissesRow.laid w) false (laidWorld os) #[.slice none 0 0] 8 rfl (by kernel_rfl) (by kernel_rfl) (by kernel_rfl) (by kernel_rfl) (by kernel_rfl) (laid_met os _)) ?_
  intro W base args ds gs before hval0 hW hcnd _ hL _
  have hval : ∀ (j : Nat) t v, Tryd.f7.params[j]? = some t → args[j]? = some v → Value.okWide Tryd.prog W .any base t v := hval0
  have hW' := hW
  obtain ⟨p, q, hA0, hV, rfl, hfz, hnd⟩ := hW
  have hA : DataW.TrodAll enc Tryd.prog W 0 (fun _ => true) true Tryd.f7.params.toList args.toList ds p := hA0
  rw [Tryd.params7] at hA hval
  obtain ⟨v0, vs0, d0, ds0, p0, q0, hargs, rfl, rfl, h0, r0⟩ := trodAll_cons hA
  obtain ⟨rfl, rfl, rfl⟩ := trodAll_nil r0
  obtain rfl : args = #[v0] := by cases args; simp_all
  obtain ⟨rfl, rfl⟩ := trodVars_none hV
  obtain ⟨a0, len0, cap0, rfl⟩ := okWide_slice Tryd.underlying27 (hval 0 27 v0 rfl rfl)
  have k0 := h0
  have lt0 : ∀ x ∈ p0, x.block < W.heap.size := by obtain ⟨m, hm⟩ := k0; exact DataW.trod_lt m _ _ _ hm
  obtain ⟨z0, w0⟩ : ∃ zs, IsBools W a0 len0 cap0 zs := by
    obtain ⟨fuel, hf⟩ := h0
    obtain ⟨a, l, c, ds, hcs, hds⟩ := bools_of hf
    simp [Value.cells] at hcs
    obtain ⟨rfl, rfl, rfl⟩ := hcs
    exact ⟨ds, hds⟩
  clear hA0 hval0
  refine (walk a0 len0 cap0 z0 W w0 (tab_of_laid hL)).mono fun e W' ⟨he, bel⟩ => ?_
  subst he
  exact ⟨_, rfl, _, _, _, [], _, [], hW', trodAll_mk1 (shut_bool Tryd.underlying4 _), (trodAll_cons_mk (Below.trod laidOut (by kernel_rfl) (of_decide_eq_true (by kernel_rfl)) k0 bel lt0) trodAll_mk0), rfl, bel.frame _, fun h => by cases h⟩

theorem over : Rows.linkMissesRow.holds Tryd.pinned (OpenSpec.ofChange Rows.linkMissesSpec) :=
  OpenClaim.holds_of_wide 7 Tryd.f7 rfl rfl rfl rfl rfl rfl rfl ⟨rfl, rfl, rfl, rfl, rfl⟩ rfl rfl rfl rfl rfl (by kernel_rfl) Tryd.func7 (by kernel_rfl)
    (of_decide_eq_true (by kernel_rfl)) (by unfold Func.isWrapper; first | (rw [if_pos (by decide +kernel)]; kernel_rfl) | (rw [if_neg (by decide +kernel)]; exact ⟨rfl, rfl⟩))
    (fun os started H enc _ => lifted os started H enc)

theorem proved : Rows.LinkMissesCardSaid :=
  Claim7.holds_tied_plain_at .later [] [.data] true (true, "87b2e38641a56b7eaff657e7b5cc2fff9b28ffdf80f2b3f016b7b4f823f5af9e") false
    over (fun _ h => by cases h) (by kernel_rfl) (fun _ h => by cases h) linkMisses_row_tie rfl ⟨rfl, rfl⟩ (by kernel_rfl) rfl
    (fun f fn hf hfn => by
      obtain rfl : f = 7 := Option.some.inj ((show Tryd.prog.funcNamed "milestone/milestonelaw14.LinkMisses" = some 7 by kernel_rfl).symm.trans hf) |>.symm
      obtain rfl : fn = Tryd.f7 := (Option.some.inj (Tryd.func7.symm.trans hfn)).symm
      exact ⟨by kernel_rfl, fun j t ht => by
        rw [Tryd.params7] at ht
        have hm : t ∈ [27] := by simpa using Array.mem_of_getElem? ht
        have hall : ([27].all fun u => !Tryd.prog.wantsStandIn u) = true := by kernel_rfl
        exact (show Tryd.prog.wantsStandIn t = false by simpa using List.all_eq_true.1 hall t hm)⟩)
    (by kernel_rfl)
#print axioms proved
end Go.Proofs.YtmpcfnlddpofgaaDoor.linkMisses

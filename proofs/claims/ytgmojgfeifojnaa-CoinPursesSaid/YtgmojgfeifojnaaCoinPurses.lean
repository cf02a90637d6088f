/-
  'For every input the Go function milestonelaw03.CoinPurses returns true, and each argument reads behind the call as it read before.'
  Conditions: none but the row's own (linux/amd64, sizes of what is read within the address space).
-/
import Derived.Test.YtgmojgfeifojnaaRows
import Derived.WalkKit
import Derived.ProofKit
import Derived.OpenShut
import Derived.ShutString
import Derived.ChangeOld
import Derived.Below
import Derived.Lib.SmallJoins
import Derived.Lib.Hide
import Derived.Test.YtgmojgfeifojnaaPrs
import Derived.Deep.QuietTactic
import Derived.BigQuiet
namespace Go.Proofs.Ytgmojgfeifojnaa.coinPurses
open Go.Proofs.Ytgmojgfeifojnaa.Coin
open Go.ChangeShapes Go.WideShapes Go.ChangeAt Go.RowKit
open Go.ChangeMaps (open_string shut_string)
set_option linter.unusedVariables false

theorem own : ownKnob Try.prog.godebug = none := by kernel_rfl
theorem laidOut : laidOutB Try.prog = true := by kernel_rfl

/-- What the walk is told of a slice of integers that came in. -/
def IsRow (k : IntKind) (w : World) (a : Option Addr) (len cap : Nat) (zs : List Int) : Prop :=
  (a = none ∧ len = 0 ∧ cap = 0 ∧ zs = []) ∨
  ∃ x, a = some x ∧ len ≤ cap ∧ cap ≤ maxLen ∧ zs.length = cap ∧ (∀ i, i < zs.length → w.cell? (x.add i) = some (.int k (zs.getD i 0))) ∧ ∀ n ∈ zs, (Lit.int k n).wf = true

theorem bytes_of {w : World} {a : Option Addr} {len cap : Nat} {z : List Int} (h : IsRow .u8 w a len cap z) : ∃ l : List UInt8, len = l.length ∧ len ≤ maxLen ∧ len ≤ cap ∧ Rd w w.heap.size a l ∧ (a = none → cap = 0) := by
  rcases h with ⟨rfl, rfl, rfl, rfl⟩ | ⟨x, rfl, h1, h2, h3, h4, h5⟩
  · exact ⟨[], rfl, by unfold maxLen; omega, Nat.le_refl _, Rd.nil _ _ _, fun _ => rfl⟩
  · refine ⟨(z.take len).map fun n => UInt8.ofNat n.toNat, by simp; omega, by omega, h1, fun h0 => ⟨x, rfl, ?_, fun j hj => ?_⟩, fun h => by cases h⟩
    · have hc := h4 0 (by simp at h0; omega)
      have := block_lt_of_cell hc
      rwa [Coin.block_add] at this
    · simp at hj
      have hz : z[j] ∈ z := List.getElem_mem _
      have hb := bounds_u8 (h5 _ hz)
      have hc := h4 j (by omega)
      have e : z.getD j 0 = z[j] := by rw [List.getD_eq_getElem?_getD, List.getElem?_eq_getElem]; rfl
      rw [e] at hc
      rw [hc]
      simp only [List.getElem_map, List.getElem_take, b8]
      congr 2
      simp; omega

set_option maxHeartbeats 4000000 in
set_option maxRecDepth 100000 in
theorem walk (a0 : Option Addr) (len0 cap0 : Nat) (z0 : List Int) (a1 : Option Addr) (len1 cap1 : Nat) (z1 : List Int) (w : World) (w0 : IsRow .u8 w a0 len0 cap0 z0) (w1 : IsRow .u8 w a1 len1 cap1 z1) :
    Calls Try.prog 7 #[.slice a0 len0 cap0, .slice a1 len1 cap1] w fun e w' => e = .returned (.bool true) ∧ Below w.heap.size w w' := by
  obtain ⟨p, hp1, hp2, hp3, RP, hpn⟩ := bytes_of w0
  obtain ⟨acts, hr1, hr2, hr3, RA, hrn⟩ := bytes_of w1
  clear w0 w1
  unfold maxLen at hp2 hr2
  subst hp1 hr1
  by_cases h1 : 100 < p.length
  · have h1' : (100 : Int) < p.length := by omega
    generalize p.length = m at *
    generalize acts.length = k at *
    go_enter Try.func7, Try.ntmps7
    go_wp2_with fail
    refine (awake_any _).mono ?_
    rintro e w1 ⟨rfl, h1⟩
    go_wp2_with fail
    refine (awake_any _).mono ?_
    rintro e w2 ⟨rfl, h2⟩
    go_wp2_with fail
    go_ret
    exact ⟨rfl, h1.trans (h2.mono h1.size)⟩
  by_cases h2 : 40 < acts.length
  · have h1' : ¬ (100 : Int) < p.length := by omega
    have h2' : (40 : Int) < acts.length := by omega
    generalize p.length = m at *
    generalize acts.length = k at *
    go_enter Try.func7, Try.ntmps7
    go_wp2_with fail
    refine (awake_any _).mono ?_
    rintro e w1 ⟨rfl, h1⟩
    go_wp2_with fail
    refine (awake_any _).mono ?_
    rintro e w2 ⟨rfl, h2⟩
    go_wp2_with fail
    go_ret
    exact ⟨rfl, h1.trans (h2.mono h1.size)⟩
  have h1' : ¬ (100 : Int) < p.length := by omega
  have h2' : ¬ (40 : Int) < acts.length := by omega
  obtain ⟨m, hm⟩ : ∃ m, m = p.length := ⟨_, rfl⟩
  obtain ⟨k, hk⟩ : ∃ k, k = acts.length := ⟨_, rfl⟩
  rw [← hm] at h1 h1' hp3
  rw [← hk] at h2 h2' hr3
  rw [← hm, ← hk]
  have HM := Lib.hid hm
  have HK := Lib.hid hk
  clear hm hk hp2 hr2
  go_enter Try.func7, Try.ntmps7
  go_wp2_with fail
  refine (awake_any _).mono ?_
  rintro e wa ⟨rfl, ha⟩
  have hp9 : p.length ≤ 900000 := by rw [← HM.out]; omega
  have cn := new_any a0 cap0 p wa hp9 ((RP.below ha (Nat.le_refl _)).more ha.size)
  rw [← HM.out] at cn
  clear hp9
  go_wp2_with fail
  refine cn.mono ?_
  rintro e w1 ⟨q, rfl, P, hq1, hq2, B1⟩
  have hqw : w.heap.size ≤ q := Nat.le_trans ha.size hq1
  have B2 := ha.trans (B1.mono ha.size)
  clear cn B1 ha hq1 hq2
  go_wp2_with fail
  go_loopw [6, 7, 8] (fun v f i wr => ∃ j : Nat, j ≤ k ∧ i = .int .i64 j ∧ Below w.heap.size w wr ∧ ∃ fu : Nat, f = .int .i64 fu ∧ fu ≤ 12 ∧ ∃ r : List UInt8, r.length ≤ 100 ∧ Pur wr q r fu ∧ ∃ A c, v = .slice A r.length c ∧ r.length ≤ c ∧ Rd w w.heap.size A r ∧ (A = none → c = 0)) (fun _ _ i _ => k - (intOf i).toNat)
  case atStart => exact ⟨0, by omega, rfl, B2, 0, rfl, by omega, p, by rw [← HM.out]; omega, P, a0, cap0, by rw [← HM.out], by rw [← HM.out]; exact hp3, RP, hpn⟩
  case round =>
    clear B2 P RP hpn hp3
    obtain ⟨j, hj, rfl, B, fu, rfl, hfu, r, hr100, P, A, c, rfl, hrc, R, hAn⟩ := hrel
    by_cases hlt : j < k
    · have hlt' : (j : Int) < k := by omega
      have hj' : j < acts.length := by rw [← HK.out]; exact hlt
      obtain ⟨ad, rfl, hab, hc⟩ := RA (by omega)
      have hcell : wr.cell? (ad.add j) = some (.int .u8 ((acts[j]).toNat : Int)) := (B.cell (by rw [Coin.block_add]; exact hab)).trans (hc j hj')
      have ha8 : (acts[j]).toNat < 256 := UInt8.toNat_lt _
      generalize (acts[j]).toNat = a at *
      clear hc
      obtain ⟨kk, hkk⟩ : ∃ kk, kk = a / 3 := ⟨_, rfl⟩
      have hk3 : ((a : Int) / 3) = (kk : Int) := by rw [hkk]; omega
      have hkl : kk ≤ 85 := by omega
      clear hkk
      obtain ⟨m0, hm0⟩ : ∃ m0, m0 = r.length := ⟨_, rfl⟩
      rw [← hm0] at hr100 hrc ⊢
      have HM0 := Lib.hid hm0
      clear hm0
      by_cases t0 : a % 3 = 0
      · have ht0 : (((a : Int) % 3) == 0) = true := by simp; omega
        have cb := bytes_any wr q r fu ((kk : Int) - 1) P (by omega)
        by_cases hf : fu = 0
        · subst hf
          by_cases hz : kk = 0
          · have hT : bytesV r 0 ((kk : Int) - 1) = ([], r, 0) := by unfold bytesV; rw [if_pos (by omega)]
            rw [hT] at cb
            have hkz : ((kk : Int) == 0) = true := by simp; omega
            have hnl : ¬ (m0 : Int) < (kk : Int) - 1 := by omega
            have HZ := Lib.hid hz
            clear hz hT
            go_wp2_with fail
            refine cb.mono ?_
            rintro e w2 ⟨A2, c2, rfl, R2, P2, G2⟩
            have B2 := below_grown B G2 hqw
            have P2' : Pur w2 q r 0 := P2
            clear cb R2 P2 G2
            go_wp2_with fail
            go_roundw
            case rel => exact ⟨j + 1, by omega, by go_num, B2, 0, rfl, hfu, r, by rw [← HM0.out]; exact hr100, P2', A, c, by rw [← HM0.out], by rw [← HM0.out]; exact hrc, R, hAn⟩
            case measure => simp [intOf]; omega
          · by_cases hlong : m0 < kk - 1
            · have hT : bytesV r 0 ((kk : Int) - 1) = ([], r, 5) := by unfold bytesV; rw [if_neg (by omega), if_pos (by rw [← HM0.out]; omega)]
              rw [hT] at cb
              have hnl : (m0 : Int) < (kk : Int) - 1 := by omega
              clear hT
              go_wp2_with fail
              refine cb.mono ?_
              rintro e w2 ⟨A2, c2, rfl, R2, P2, G2⟩
              have B2 := below_grown B G2 hqw
              have P2' : Pur w2 q r 5 := P2
              clear cb R2 P2 G2
              go_wp2_with fail
              go_roundw
              case rel => exact ⟨j + 1, by omega, by go_num, B2, 5, rfl, by omega, r, by rw [← HM0.out]; exact hr100, P2', A, c, by rw [← HM0.out], by rw [← HM0.out]; exact hrc, R, hAn⟩
              case measure => simp [intOf]; omega
            · obtain ⟨d, rfl⟩ : ∃ d, kk = d + 1 := ⟨kk - 1, by omega⟩
              have hdm : d ≤ m0 := by omega
              have e1 : ((d + 1 : Nat) : Int) = (d : Int) + 1 := by omega
              have e2 : ((d + 1 : Nat) : Int) - 1 = (d : Int) := by omega
              rw [e1] at hk3
              rw [e2] at cb
              have hT : bytesV r 0 (d : Int) = (r.take d, r.drop d, 0) := by unfold bytesV; rw [if_neg (by omega), if_neg (by rw [← HM0.out]; omega)]; simp
              rw [hT] at cb
              have hnl : ¬ (m0 : Int) < (d : Int) := by omega
              have hkz : ((d : Int) + 1 == 0) = false := by simp; omega
              have hw : IntKind.i64.wrap ((d : Int) + 1 - 1) = d := by rw [IntKind.wrap_i64]; omega
              have hXl : (r.take d).length = d := by simp; have := HM0.out; omega
              obtain ⟨A', hsl, R', hA'⟩ := cut_any R m0 c d HM0.out hrc hAn hdm
              have hup := upto_any (A := A) m0 c d hAn hrc hdm
              have hld : (r.drop d).length = m0 - d := by rw [List.length_drop, HM0.out]
              have RT := R.take d
              have HXL := Lib.hid hXl
              have HLD := Lib.hid hld
              clear hz hlong hT e1 e2 hXl hld
              go_wp2_with fail
              refine cb.mono ?_
              rintro e w2 ⟨A2, c2, rfl, R2, P2, G2⟩
              have B2 := below_grown B G2 hqw
              have P2' : Pur w2 q (r.drop d) 0 := P2
              have hcv1 : ∀ x, (convert 23 9 (.slice A2 d c2)).run Try.prog (w2.drewN x) = .ok (.string (str (r.take d))) (w2.drewN x) := fun x => conv_any (w := w2.drewN x) (B := w2.heap.size) R2 d c2 HXL.out.symm
              have hRT2 : Rd w2 w.heap.size A (r.take d) := RT.below B2 (Nat.le_refl _)
              have hcv2 : ∀ x, (convert 23 9 (.slice A d c)).run Try.prog (w2.drewN x) = .ok (.string (str (r.take d))) (w2.drewN x) := fun x => conv_any (w := w2.drewN x) (B := w.heap.size) hRT2 d c HXL.out.symm
              have ed : (r.take d, r.drop d, 0).1.length = d := HXL.out
              rw [ed]
              clear cb R2 P2 G2 ed
              generalize str (r.take d) = ST at *
              go_wp2_with fail
              go_quiet (fail)
              clear hcv1 hcv2
              go_wp2_with fail
              go_roundw
              case rel => exact ⟨j + 1, by omega, by go_num, B2.trans ⟨rfl, rfl, rfl, Nat.le_refl _, fun _ _ => rfl⟩, 0, rfl, hfu, r.drop d, by rw [HLD.out]; omega, P2', A', c - d, by rw [HLD.out], by rw [HLD.out]; omega, R', hA'⟩
              case measure => simp [intOf]; omega
        · -- behind a fault
          have hb : (((fu : Nat) : Int) == 0) = false := by simp; omega
          have hb' : (((fu : Nat) : Int) != 0) = true := by simp; omega
          have hT : bytesV r fu ((kk : Int) - 1) = ([], r, fu) := by simp [bytesV, hf]
          rw [hT] at cb
          go_wp2_with fail
          refine cb.mono ?_
          rintro e w2 ⟨A2, c2, rfl, R2, P2, G2⟩
          have B2 := below_grown B G2 hqw
          have P2' : Pur w2 q r fu := P2
          clear cb R2 P2 G2
          go_wp2_with fail
          go_roundw
          case rel => exact ⟨j + 1, by omega, by go_num, B2, fu, rfl, hfu, r, by rw [← HM0.out]; exact hr100, P2', A, c, by rw [← HM0.out], by rw [← HM0.out]; exact hrc, R, hAn⟩
          case measure => simp [intOf]; omega
      · have ht0 : (((a : Int) % 3) == 0) = false := by simp; omega
        by_cases t1 : a % 3 = 1
        · have ht1 : (((a : Int) % 3) == 1) = true := by simp; omega
          have ct := take_any wr q r fu 18446744073709551615 P hfu (by omega)
          have ct : Calls Try.prog 19 #[.pointer (some ⟨q, 0, none⟩), .int .u64 18446744073709551615] wr fun e w' => e = .returned (.int .u64 ((takeV r fu 18446744073709551615).1 : Nat)) ∧ Pur w' q (takeV r fu 18446744073709551615).2.1 (takeV r fu 18446744073709551615).2.2 ∧ wr.grownBy w' (some q) := ct
          by_cases hf : fu = 0
          · subst hf
            have g1 := got_lt r
            have crt := fun W (h : Below w.heap.size w W) => rtake_any A c w.heap.size r W (by rw [← HM0.out]; omega) (by rw [← HM0.out]; exact hrc) h.size (R.below h (Nat.le_refl _))
            have htv : takeV r 0 18446744073709551615 = if (got r).2.2 ≠ 0 then (0, r, (got r).2.2) else if 18446744073709551615 < (got r).1 then (0, r, 6) else ((got r).1, r.drop (got r).2.1, 0) := by simp [takeV]
            unfold TakeSaid at crt
            rw [← HM0.out] at crt
            obtain ⟨gn, hgn⟩ : ∃ gn, gn = (got r).1 := ⟨_, rfl⟩
            obtain ⟨gk, hgk⟩ : ∃ gk, gk = (got r).2.1 := ⟨_, rfl⟩
            obtain ⟨ge, hge⟩ : ∃ ge, ge = (got r).2.2 := ⟨_, rfl⟩
            rw [← hgn, ← hgk, ← hge] at crt htv g1
            clear hgn hgk hge
            have hgkm : gk ≤ m0 := by rw [HM0.out]; exact g1.2.2.1
            have CRT : Hid (∀ W, Below w.heap.size w W → Calls Try.prog 14 #[.slice A m0 c] W fun e w' => e = .returned (.tuple #[.int .u64 (gn : Nat), .int .i64 (gk : Nat), .int .i64 (ge : Nat)]) ∧ Below W.heap.size W w') := crt
            clear crt
            obtain ⟨g1n, _, _, g1e⟩ := g1
            by_cases he : ge = 0
            · subst he
              by_cases hlong : 18446744073709551615 < gn
              · have hT : takeV r 0 18446744073709551615 = (0, r, 6) := by rw [htv, if_neg (by simp), if_pos hlong]
                rw [hT] at ct
                have hml : (18446744073709551615 : Int) < (gn : Int) := by omega
                clear htv hT
                go_wp2_with fail
                refine ct.mono ?_
                rintro e w2 ⟨rfl, P2, G2⟩
                have B2 := below_grown B G2 hqw
                clear ct G2
                go_wp2_with fail
                refine (CRT.out w2 B2).mono ?_
                rintro e w3 ⟨rfl, D3⟩
                have B3 := B2.trans (D3.mono B2.size)
                have P3 : Pur w3 q r 6 := P2.below D3
                clear P2 D3
                go_wp2_with fail
                go_roundw
                case rel => exact ⟨j + 1, by omega, by go_num, B3, 6, rfl, by omega, r, by rw [← HM0.out]; exact hr100, P3, A, c, by rw [← HM0.out], by rw [← HM0.out]; exact hrc, R, hAn⟩
                case measure => simp [intOf]; omega
              · have hT : takeV r 0 18446744073709551615 = (gn, r.drop gk, 0) := by rw [htv, if_neg (by simp), if_neg hlong]
                rw [hT] at ct
                have hml : ¬ (18446744073709551615 : Int) < (gn : Int) := by omega
                obtain ⟨A', hsl, R', hA'⟩ := cut_any R m0 c gk HM0.out hrc hAn hgkm
                have hld : (r.drop gk).length = m0 - gk := by rw [List.length_drop, HM0.out]
                have HLD := Lib.hid hld
                clear htv hT hld
                go_wp2_with fail
                refine ct.mono ?_
                rintro e w2 ⟨rfl, P2, G2⟩
                have B2 := below_grown B G2 hqw
                clear ct G2
                go_wp2_with fail
                refine (CRT.out w2 B2).mono ?_
                rintro e w3 ⟨rfl, D3⟩
                have B3 := B2.trans (D3.mono B2.size)
                have P3 : Pur w3 q (r.drop gk) 0 := P2.below D3
                clear P2 D3
                go_wp2_with fail
                go_roundw
                case rel => exact ⟨j + 1, by omega, by go_num, B3, 0, rfl, hfu, r.drop gk, by rw [HLD.out]; omega, P3, A', c - gk, by rw [HLD.out], by rw [HLD.out]; omega, R', hA'⟩
                case measure => simp [intOf]; omega
            · have hT : takeV r 0 18446744073709551615 = (0, r, ge) := by rw [htv, if_pos he]
              rw [hT] at ct
              have hb : (((ge : Nat) : Int) == 0) = false := by simp; omega
              have hb' : (((ge : Nat) : Int) != 0) = true := by simp; omega
              clear htv hT
              go_wp2_with fail
              refine ct.mono ?_
              rintro e w2 ⟨rfl, P2, G2⟩
              have B2 := below_grown B G2 hqw
              clear ct G2
              go_wp2_with fail
              refine (CRT.out w2 B2).mono ?_
              rintro e w3 ⟨rfl, D3⟩
              have B3 := B2.trans (D3.mono B2.size)
              have P3 : Pur w3 q r ge := P2.below D3
              clear P2 D3
              go_wp2_with fail
              go_roundw
              case rel => exact ⟨j + 1, by omega, by go_num, B3, ge, rfl, by omega, r, by rw [← HM0.out]; exact hr100, P3, A, c, by rw [← HM0.out], by rw [← HM0.out]; exact hrc, R, hAn⟩
              case measure => simp [intOf]; omega
          · have hb : (((fu : Nat) : Int) == 0) = false := by simp; omega
            have hb' : (((fu : Nat) : Int) != 0) = true := by simp; omega
            have hT : takeV r fu 18446744073709551615 = (0, r, fu) := by simp [takeV, hf]
            rw [hT] at ct
            clear hT
            go_wp2_with fail
            refine ct.mono ?_
            rintro e w2 ⟨rfl, P2, G2⟩
            have B2 := below_grown B G2 hqw
            have P2' : Pur w2 q r fu := P2
            clear ct P2 G2
            go_wp2_with fail
            go_roundw
            case rel => exact ⟨j + 1, by omega, by go_num, B2, fu, rfl, hfu, r, by rw [← HM0.out]; exact hr100, P2', A, c, by rw [← HM0.out], by rw [← HM0.out]; exact hrc, R, hAn⟩
            case measure => simp [intOf]; omega
        · have ht1 : (((a : Int) % 3) == 1) = false := by simp; omega
          have ct := take_any wr q r fu kk P hfu (by omega)
          by_cases hf : fu = 0
          · subst hf
            have g1 := got_lt r
            have crt := fun W (h : Below w.heap.size w W) => rtake_any A c w.heap.size r W (by rw [← HM0.out]; omega) (by rw [← HM0.out]; exact hrc) h.size (R.below h (Nat.le_refl _))
            have htv : takeV r 0 kk = if (got r).2.2 ≠ 0 then (0, r, (got r).2.2) else if kk < (got r).1 then (0, r, 6) else ((got r).1, r.drop (got r).2.1, 0) := by simp [takeV]
            unfold TakeSaid at crt
            rw [← HM0.out] at crt
            obtain ⟨gn, hgn⟩ : ∃ gn, gn = (got r).1 := ⟨_, rfl⟩
            obtain ⟨gk, hgk⟩ : ∃ gk, gk = (got r).2.1 := ⟨_, rfl⟩
            obtain ⟨ge, hge⟩ : ∃ ge, ge = (got r).2.2 := ⟨_, rfl⟩
            rw [← hgn, ← hgk, ← hge] at crt htv g1
            clear hgn hgk hge
            have hgkm : gk ≤ m0 := by rw [HM0.out]; exact g1.2.2.1
            have CRT : Hid (∀ W, Below w.heap.size w W → Calls Try.prog 14 #[.slice A m0 c] W fun e w' => e = .returned (.tuple #[.int .u64 (gn : Nat), .int .i64 (gk : Nat), .int .i64 (ge : Nat)]) ∧ Below W.heap.size W w') := crt
            clear crt
            obtain ⟨g1n, _, _, g1e⟩ := g1
            by_cases he : ge = 0
            · subst he
              by_cases hlong : kk < gn
              · have hT : takeV r 0 kk = (0, r, 6) := by rw [htv, if_neg (by simp), if_pos hlong]
                rw [hT] at ct
                have hml : (kk : Int) < (gn : Int) := by omega
                clear htv hT
                go_wp2_with fail
                refine ct.mono ?_
                rintro e w2 ⟨rfl, P2, G2⟩
                have B2 := below_grown B G2 hqw
                clear ct G2
                go_wp2_with fail
                refine (CRT.out w2 B2).mono ?_
                rintro e w3 ⟨rfl, D3⟩
                have B3 := B2.trans (D3.mono B2.size)
                have P3 : Pur w3 q r 6 := P2.below D3
                clear P2 D3
                go_wp2_with fail
                go_roundw
                case rel => exact ⟨j + 1, by omega, by go_num, B3, 6, rfl, by omega, r, by rw [← HM0.out]; exact hr100, P3, A, c, by rw [← HM0.out], by rw [← HM0.out]; exact hrc, R, hAn⟩
                case measure => simp [intOf]; omega
              · have hT : takeV r 0 kk = (gn, r.drop gk, 0) := by rw [htv, if_neg (by simp), if_neg hlong]
                rw [hT] at ct
                have hml : ¬ (kk : Int) < (gn : Int) := by omega
                obtain ⟨A', hsl, R', hA'⟩ := cut_any R m0 c gk HM0.out hrc hAn hgkm
                have hld : (r.drop gk).length = m0 - gk := by rw [List.length_drop, HM0.out]
                have HLD := Lib.hid hld
                clear htv hT hld
                go_wp2_with fail
                refine ct.mono ?_
                rintro e w2 ⟨rfl, P2, G2⟩
                have B2 := below_grown B G2 hqw
                clear ct G2
                go_wp2_with fail
                refine (CRT.out w2 B2).mono ?_
                rintro e w3 ⟨rfl, D3⟩
                have B3 := B2.trans (D3.mono B2.size)
                have P3 : Pur w3 q (r.drop gk) 0 := P2.below D3
                clear P2 D3
                go_wp2_with fail
                go_roundw
                case rel => exact ⟨j + 1, by omega, by go_num, B3, 0, rfl, hfu, r.drop gk, by rw [HLD.out]; omega, P3, A', c - gk, by rw [HLD.out], by rw [HLD.out]; omega, R', hA'⟩
                case measure => simp [intOf]; omega
            · have hT : takeV r 0 kk = (0, r, ge) := by rw [htv, if_pos he]
              rw [hT] at ct
              have hb : (((ge : Nat) : Int) == 0) = false := by simp; omega
              have hb' : (((ge : Nat) : Int) != 0) = true := by simp; omega
              clear htv hT
              go_wp2_with fail
              refine ct.mono ?_
              rintro e w2 ⟨rfl, P2, G2⟩
              have B2 := below_grown B G2 hqw
              clear ct G2
              go_wp2_with fail
              refine (CRT.out w2 B2).mono ?_
              rintro e w3 ⟨rfl, D3⟩
              have B3 := B2.trans (D3.mono B2.size)
              have P3 : Pur w3 q r ge := P2.below D3
              clear P2 D3
              go_wp2_with fail
              go_roundw
              case rel => exact ⟨j + 1, by omega, by go_num, B3, ge, rfl, by omega, r, by rw [← HM0.out]; exact hr100, P3, A, c, by rw [← HM0.out], by rw [← HM0.out]; exact hrc, R, hAn⟩
              case measure => simp [intOf]; omega
          · have hb : (((fu : Nat) : Int) == 0) = false := by simp; omega
            have hb' : (((fu : Nat) : Int) != 0) = true := by simp; omega
            have hT : takeV r fu kk = (0, r, fu) := by simp [takeV, hf]
            rw [hT] at ct
            clear hT
            go_wp2_with fail
            refine ct.mono ?_
            rintro e w2 ⟨rfl, P2, G2⟩
            have B2 := below_grown B G2 hqw
            have P2' : Pur w2 q r fu := P2
            clear ct P2 G2
            go_wp2_with fail
            go_roundw
            case rel => exact ⟨j + 1, by omega, by go_num, B2, fu, rfl, hfu, r, by rw [← HM0.out]; exact hr100, P2', A, c, by rw [← HM0.out], by rw [← HM0.out]; exact hrc, R, hAn⟩
            case measure => simp [intOf]; omega
    · obtain rfl : j = k := by omega
      have c20 := fault_any wr q r fu P
      have c21 := left_any wr q r fu P
      have c22 := end_any wr q r fu P
      have cbn : ∀ W, Calls Try.prog 18 #[.pointer none, .int .i64 1] W fun e w' => e = .returned (.slice none 0 0) ∧ W = w' := fun W => bytes_nil 1 W
      obtain ⟨m0, hm0⟩ : ∃ m0, m0 = r.length := ⟨_, rfl⟩
      rw [← hm0] at c21 ⊢
      have hE : endV r fu = if fu = 0 ∧ 0 < m0 then 4 else fu := by rw [hm0]; rfl
      generalize endV r fu = E at *
      have HM0 := Lib.hid hm0
      clear hm0
      have hcase : (fu = 0 ∧ 0 < m0 ∧ E = 4) ∨ (fu = 0 ∧ m0 = 0 ∧ E = 0) ∨ (fu ≠ 0 ∧ E = fu) := by
        rw [hE]
        by_cases hf : fu = 0
        · by_cases hz : 0 < m0
          · rw [if_pos ⟨hf, hz⟩]; exact .inl ⟨hf, hz, rfl⟩
          · rw [if_neg (fun h => hz h.2)]; exact .inr (.inl ⟨hf, by omega, hf⟩)
        · rw [if_neg (fun h => hf h.1)]; exact .inr (.inr ⟨hf, rfl⟩)
      clear hE
      rcases hcase with ⟨rfl, hz, rfl⟩ | ⟨rfl, rfl, rfl⟩ | ⟨hf, rfl⟩
      · have hz' : (0 : Int) < m0 := by omega
        go_wp2_with (first | (go_at_call 20; (with_reducible refine c20.mono ?_); rintro e w' ⟨rfl, rfl⟩) | (go_at_call 21; (with_reducible refine c21.mono ?_); rintro e w' ⟨rfl, rfl⟩) | (go_at_call 22; (with_reducible refine c22.mono ?_); rintro e w' ⟨rfl, rfl⟩) | (go_at_call 19; (with_reducible refine (take_nil 9 _).mono ?_); rintro e w' ⟨rfl, rfl⟩) | (go_at_call 18; (with_reducible refine (cbn _).mono ?_); rintro e w' ⟨rfl, rfl⟩) | (go_at_call 21; (with_reducible refine (left_nil _).mono ?_); rintro e w' ⟨rfl, rfl⟩) | (go_at_call 20; (with_reducible refine (fault_nil _).mono ?_); rintro e w' ⟨rfl, rfl⟩) | (go_at_call 22; (with_reducible refine (end_nil _).mono ?_); rintro e w' ⟨rfl, rfl⟩))
        go_ret
        exact ⟨rfl, B⟩
      · go_wp2_with (first | (go_at_call 20; (with_reducible refine c20.mono ?_); rintro e w' ⟨rfl, rfl⟩) | (go_at_call 21; (with_reducible refine c21.mono ?_); rintro e w' ⟨rfl, rfl⟩) | (go_at_call 22; (with_reducible refine c22.mono ?_); rintro e w' ⟨rfl, rfl⟩) | (go_at_call 19; (with_reducible refine (take_nil 9 _).mono ?_); rintro e w' ⟨rfl, rfl⟩) | (go_at_call 18; (with_reducible refine (cbn _).mono ?_); rintro e w' ⟨rfl, rfl⟩) | (go_at_call 21; (with_reducible refine (left_nil _).mono ?_); rintro e w' ⟨rfl, rfl⟩) | (go_at_call 20; (with_reducible refine (fault_nil _).mono ?_); rintro e w' ⟨rfl, rfl⟩) | (go_at_call 22; (with_reducible refine (end_nil _).mono ?_); rintro e w' ⟨rfl, rfl⟩))
        go_ret
        exact ⟨rfl, B⟩
      · have hb : (((E : Nat) : Int) == 0) = false := by simp; omega
        go_wp2_with (first | (go_at_call 20; (with_reducible refine c20.mono ?_); rintro e w' ⟨rfl, rfl⟩) | (go_at_call 21; (with_reducible refine c21.mono ?_); rintro e w' ⟨rfl, rfl⟩) | (go_at_call 22; (with_reducible refine c22.mono ?_); rintro e w' ⟨rfl, rfl⟩) | (go_at_call 19; (with_reducible refine (take_nil 9 _).mono ?_); rintro e w' ⟨rfl, rfl⟩) | (go_at_call 18; (with_reducible refine (cbn _).mono ?_); rintro e w' ⟨rfl, rfl⟩) | (go_at_call 21; (with_reducible refine (left_nil _).mono ?_); rintro e w' ⟨rfl, rfl⟩) | (go_at_call 20; (with_reducible refine (fault_nil _).mono ?_); rintro e w' ⟨rfl, rfl⟩) | (go_at_call 22; (with_reducible refine (end_nil _).mono ?_); rintro e w' ⟨rfl, rfl⟩))
        go_ret
        exact ⟨rfl, B⟩

set_option maxRecDepth 100000 in
theorem lifted (os : Os) (started : os.Started) (H : Type) (enc : TypeId × Value → H) :
    ReturnsInHanded {} Try.checked os 7 .any (Rows.coinPursesSpec.pre6 enc Try.prog Try.f7 Rows.coinPursesRow.domain false) (Rows.coinPursesSpec.post enc Try.prog Try.f7 false true false false) := by
  refine returnsInHanded_of_change (C := Try.checked) own started (by kernel_rfl) Try.func7
    (ChangeSpec.witness6 (enc := enc) (C := Try.checked) false ⟨#[], #[.slice none 0 0, .slice none 0 0], []⟩ 8 (by kernel_rfl) (by kernel_rfl) (by kernel_rfl) (by kernel_rfl)) ?_
  intro W base args ds gs before hval0 hW hcnd _
  have hval : ∀ (j : Nat) t v, Try.f7.params[j]? = some t → args[j]? = some v → Value.okWide Try.prog W .any base t v := hval0
  have hW' := hW
  obtain ⟨p, q, hA0, hV, rfl, hfz, hnd⟩ := hW
  have hA : DataW.TrodAll enc Try.prog W 0 (fun _ => true) true Try.f7.params.toList args.toList ds p := hA0
  rw [Try.params7] at hA hval
  obtain ⟨v0, vs0, d0, ds0, p0, q0, hargs, rfl, rfl, h0, r0⟩ := trodAll_cons hA
  obtain ⟨v1, vs1, d1, ds1, p1, q1, rfl, rfl, rfl, h1, r1⟩ := trodAll_cons r0
  obtain ⟨rfl, rfl, rfl⟩ := trodAll_nil r1
  obtain rfl : args = #[v0, v1] := by cases args; simp_all
  obtain ⟨rfl, rfl⟩ := trodVars_none hV
  obtain ⟨a0, len0, cap0, rfl⟩ := okWide_slice Try.underlying23 (hval 0 23 v0 rfl rfl)
  have k0 := h0
  have lt0 : ∀ x ∈ p0, x.block < W.heap.size := by obtain ⟨m, hm⟩ := k0; exact DataW.trod_lt m _ _ _ hm
  obtain ⟨z0, w0⟩ : ∃ zs, IsRow .u8 W a0 len0 cap0 zs := by
    obtain ⟨fuel, hf⟩ := h0
    rcases open_ints Try.underlying23 Try.underlying5 (by kernel_rfl) hf with ⟨hcs, _⟩ | ⟨x, l, c, zs, hcs, _, hl, hm, hz, _, hcell, hwz⟩
    · simp [Value.cells] at hcs
      obtain ⟨rfl, rfl, rfl⟩ := hcs
      exact ⟨[], .inl ⟨rfl, rfl, rfl, rfl⟩⟩
    · simp [Value.cells] at hcs
      obtain ⟨rfl, rfl, rfl⟩ := hcs
      exact ⟨zs, .inr ⟨_, rfl, hl, hm, by simpa using hz, hcell, hwz⟩⟩
  obtain ⟨a1, len1, cap1, rfl⟩ := okWide_slice Try.underlying23 (hval 1 23 v1 rfl rfl)
  have k1 := h1
  have lt1 : ∀ x ∈ p1, x.block < W.heap.size := by obtain ⟨m, hm⟩ := k1; exact DataW.trod_lt m _ _ _ hm
  obtain ⟨z1, w1⟩ : ∃ zs, IsRow .u8 W a1 len1 cap1 zs := by
    obtain ⟨fuel, hf⟩ := h1
    rcases open_ints Try.underlying23 Try.underlying5 (by kernel_rfl) hf with ⟨hcs, _⟩ | ⟨x, l, c, zs, hcs, _, hl, hm, hz, _, hcell, hwz⟩
    · simp [Value.cells] at hcs
      obtain ⟨rfl, rfl, rfl⟩ := hcs
      exact ⟨[], .inl ⟨rfl, rfl, rfl, rfl⟩⟩
    · simp [Value.cells] at hcs
      obtain ⟨rfl, rfl, rfl⟩ := hcs
      exact ⟨zs, .inr ⟨_, rfl, hl, hm, by simpa using hz, hcell, hwz⟩⟩
  clear hA0 hval0
  refine (walk a0 len0 cap0 z0 a1 len1 cap1 z1 W w0 w1).mono fun e W' ⟨he, bel⟩ => ?_
  subst he
  exact ⟨_, rfl, _, _, _, [], _, [], hW', trodAll_mk1 (shut_bool Try.underlying4 _), (trodAll_cons_mk (Below.trod laidOut (by kernel_rfl) (of_decide_eq_true (by kernel_rfl)) k0 bel lt0) (trodAll_cons_mk (Below.trod laidOut (by kernel_rfl) (of_decide_eq_true (by kernel_rfl)) k1 bel lt1) trodAll_mk0)), rfl, bel.frame _, fun h => by cases h⟩

theorem over : Rows.coinPursesRow.holds Try.pinned (OpenSpec.ofChange Rows.coinPursesSpec) :=
  OpenClaim.holds_of_wide 7 Try.f7 rfl rfl rfl rfl rfl rfl rfl ⟨rfl, rfl, rfl, rfl, rfl⟩ rfl rfl rfl rfl rfl (by kernel_rfl) Try.func7 (by kernel_rfl)
    (of_decide_eq_true (by kernel_rfl)) (by unfold Func.isWrapper; first | (rw [if_pos (by decide +kernel)]; kernel_rfl) | (rw [if_neg (by decide +kernel)]; exact ⟨rfl, rfl⟩))
    (fun os started H enc _ => lifted os started H enc)

theorem proved : Rows.CoinPursesSaid := over
#print axioms proved
end Go.Proofs.Ytgmojgfeifojnaa.coinPurses

/- The document's own answer: the number ahead of some bytes. -/
import Derived.Test.YtjhkgdgbmmpegaaRco
import Derived.Deep.RegionWith
import Derived.Deep.RegionHeld3
namespace Go.Proofs.Ytjhkgdgbmmpegaa.Coin
open Go.ChangeShapes Go.WideShapes Go.ChangeAt Go.RowKit

/-- What is told of some bytes. -/
def TakeSaid (w : World) (l : List UInt8) (e : Ending) (w' : World) : Prop := e = .returned (.tuple #[.int .u64 (got l).1, .int .i64 (got l).2.1, .int .i64 (got l).2.2]) ∧ Below w.heap.size w w'
theorem lead_step (b k : Nat) (hb : b < 256) (h1 : 1 ≤ k) (h : k < lead b) : 128 ≤ b * 2 ^ (k - 1) % 256 ∧ k < 9 ∧ b * 2 ^ (k - 1) % 256 * 2 % 256 = b * 2 ^ k % 256 := by
  have h9 := (lead_le b).2
  have h := (by decide +kernel : ∀ b : Fin 256, ∀ k : Fin 10, 1 ≤ k.val → k.val < lead b.val → 128 ≤ b.val * 2 ^ (k.val - 1) % 256 ∧ k.val < 9 ∧ b.val * 2 ^ (k.val - 1) % 256 * 2 % 256 = b.val * 2 ^ k.val % 256) ⟨b, hb⟩ ⟨k, by omega⟩ h1 h
  exact h
theorem lead_end (b : Nat) (hb : b < 256) : lead b = 9 ∨ b * 2 ^ (lead b - 1) % 256 < 128 := by
  have h := (by decide +kernel : ∀ b : Fin 256, lead b.val = 9 ∨ b.val * 2 ^ (lead b.val - 1) % 256 < 128) ⟨b, hb⟩
  exact h
theorem sub_step (i : Nat) (h1 : 1 ≤ i) (h8 : i ≤ 8) : ones (i - 1) + 128 / 2 ^ (i - 1) = ones i ∧ 0 < 128 / 2 ^ (i - 1) ∧ 128 / 2 ^ (i - 1) / 2 = 128 / 2 ^ (i + 1 - 1) ∧ 128 / 2 ^ (i - 1) ≤ 128 := by
  have h := (by decide +kernel : ∀ i : Fin 9, 1 ≤ i.val → ones (i.val - 1) + 128 / 2 ^ (i.val - 1) = ones i.val ∧ 0 < 128 / 2 ^ (i.val - 1) ∧ 128 / 2 ^ (i.val - 1) / 2 = 128 / 2 ^ (i.val + 1 - 1) ∧ 128 / 2 ^ (i.val - 1) ≤ 128) ⟨i, by omega⟩ h1
  exact h
theorem ones_mono (i j : Nat) (h : i ≤ j) : ones i ≤ ones j := by
  unfold ones
  have := Nat.pow_le_pow_right (n := 2) (by decide) (show 8 - j ≤ 8 - i by omega)
  omega

set_option maxRecDepth 100000 in
set_option maxHeartbeats 4000000 in
theorem rtake_any (A : Option Addr) (cap B : Nat) (l : List UInt8) (w : World) (hl : l.length ≤ 1000000) (hcap : l.length ≤ cap) (hB : B ≤ w.heap.size) (hr : Rd w B A l) :
    Calls Try.prog 21 #[.slice A l.length cap] w (TakeSaid w l) := by
  rcases l with _ | ⟨b, r⟩
  · go_enter Try.func21, Try.ntmps21
    go_wp2
    refine bodyPost_ret (results_tmp3 rfl _ _ _) rfl ?_
    exact ⟨rfl, Below.refl _ _⟩
  · have hr' := hr
    obtain ⟨ad, rfl, hab, hc⟩ := hr (by simp)
    obtain ⟨m, hm⟩ : ∃ m, m = (b :: r).length := ⟨_, rfl⟩
    have h0 : w.cell? ad = some (.int .u8 (b.toNat : Int)) := hc 0 (by simp)
    have hb : b.toNat < 256 := b.toNat_lt
    have hk := lead_le b.toNat
    obtain ⟨q, hq⟩ : ∃ q, q = lead b.toNat := ⟨_, rfl⟩
    have hls : ∀ k, 1 ≤ k → k < q → 128 ≤ b.toNat * 2 ^ (k - 1) % 256 ∧ k < 9 ∧ b.toNat * 2 ^ (k - 1) % 256 * 2 % 256 = b.toNat * 2 ^ k % 256 := by rw [hq]; exact fun k => lead_step b.toNat k hb
    have hle := lead_end b.toNat hb
    have hol := ones_le b.toNat hb
    have hsz := fun i (hi : i < r.length) => hc (i + 1) (by simp; omega)
    simp only [List.getElem_cons_succ] at hsz
    have hG : got (b :: r) = if r.length + 1 < q then (0, 0, 5) else if sz (val b r) = q then (val b r, q, 0) else (0, 0, 4) := by rw [hq]; rfl
    have hV : val b r = num (b.toNat - ones (q - 1)) (r.take (q - 1)) := by rw [hq]; rfl
    have hvl : q ≤ r.length + 1 → val b r < 18446744073709551616 := by rw [hq]; exact val_lt b r
    have hci : q ≤ r.length + 1 → (coin (val b r) = (b :: r).take q ↔ sz (val b r) = q) := by rw [hq]; exact coin_val_iff b r
    rw [← hq] at hk hle hol
    rw [← hm]
    have hlen : m = r.length + 1 := by simp at hm; omega
    have HL := Lib.hid hlen
    have HLS : Hid (∀ k, 1 ≤ k → k < q → 128 ≤ b.toNat * 2 ^ (k - 1) % 256 ∧ k < 9 ∧ b.toNat * 2 ^ (k - 1) % 256 * 2 % 256 = b.toNat * 2 ^ k % 256) := hls
    have HS : Hid (∀ i, (hi : i < r.length) → w.cell? (ad.add (i + 1)) = some (b8 r[i])) := hsz
    have HG : Hid (got (b :: r) = if m < q then (0, 0, 5) else if sz (val b r) = q then (val b r, q, 0) else (0, 0, 4)) := by rw [hlen]; exact hG
    have HV := Lib.hid hV
    have HVL : Hid (q ≤ m → val b r < 18446744073709551616) := by rw [hlen]; exact hvl
    have HCI : Hid (q ≤ m → (coin (val b r) = (b :: r).take q ↔ sz (val b r) = q)) := by rw [hlen]; exact hci
    have hm9 : m ≤ 1000000 := by omega
    have hmc : m ≤ cap := by omega
    have HR' : Hid (Rd w B (some ad) (b :: r)) := hr'
    have hx1 : b.toNat * 2 ^ (1 - 1) % 256 = b.toNat := by simp
    have HX1 := Lib.hid hx1
    have HLE : Hid (q = 9 ∨ b.toNat * 2 ^ (q - 1) % 256 < 128) := hle
    have hm1 : 1 ≤ m := by omega
    clear hlen hls hsz hG hV hvl hci hm hl hcap hr hr' hc hx1 hq hle
    generalize hv : val b r = V at *
    have HVV := Lib.hid hv
    clear hv
    generalize b.toNat = x at *
    go_enter Try.func21, Try.ntmps21
    go_wp2
    go_loop [5, 6] (fun t u => ∃ k : Nat, 1 ≤ k ∧ k ≤ q ∧ t = .int .i64 k ∧ ∃ y : Nat, u = .int .u8 y ∧ y < 256 ∧ Hid (y = x * 2 ^ (k - 1) % 256)) (fun t _ => q - (intOf t).toNat)
    case atStart => exact ⟨1, by omega, by omega, rfl, x, rfl, hb, HX1.out.symm⟩
    case round =>
      obtain ⟨k, hk1, hk2, rfl, y, rfl, hy, HY⟩ := hrel
      by_cases hlt : k < q
      · obtain ⟨g1, g2, g3⟩ := HLS.out k hk1 hlt
        rw [← HY.out] at g1 g3
        have G3 := Lib.hid g3
        clear g3
        go_wp2_with fail
        go_round
        case rel => exact ⟨k + 1, by omega, by omega, by go_num, y * 2 % 256, rfl, by omega, by rw [Nat.add_sub_cancel]; exact G3⟩
        case measure => simp [intOf]; omega
      · obtain rfl : k = q := by omega
        clear HX1
        by_cases hmq : m < k
        · have e1 : got (b :: r) = (0, 0, 5) := by rw [HG.out, if_pos hmq]
          have he : (¬ (k : Int) < 9) ∨ ((k : Int) < 9 ∧ y < 128) := by have := HLE.out; rw [← HY.out] at this; omega
          have E1 := Lib.hid e1
          clear e1
          rcases he with he | ⟨he, he2⟩
          all_goals
            go_wp2_with fail
            refine bodyPost_ret (results_tmp3 rfl _ _ _) rfl ?_
            refine ⟨?_, Below.refl _ _⟩
            rw [E1.out]; rfl
        · have he : (¬ (k : Int) < 9) ∨ ((k : Int) < 9 ∧ y < 128) := by have := HLE.out; rw [← HY.out] at this; omega
          have hmq' : k ≤ m := by omega
          have hvl := HVL.out hmq'
          have HCI := Lib.hid (HCI.out hmq')
          have HG : Hid (got (b :: r) = if sz V = k then (V, k, 0) else (0, 0, 4)) := by rw [HG.out, if_neg hmq]; rfl
          clear HLS HLE HVL hmq
          have hr0 : k - 1 ≤ r.length := by have := HL.out; omega
          rcases he with he | ⟨he, he2⟩
          all_goals
            go_wp2_with fail
            go_loop [7, 8, 9] (fun a c i => ∃ j : Nat, 1 ≤ j ∧ j ≤ k ∧ i = .int .i64 j ∧ ∃ u : Nat, a = .int .u64 u ∧ u < 256 ∧ Hid (u = x - ones (j - 1)) ∧ ∃ z : Nat, c = .int .u64 z ∧ z ≤ 128 ∧ Hid (z = 128 / 2 ^ (j - 1))) (fun _ _ i => k - (intOf i).toNat)
            case atStart => exact ⟨1, by omega, hk1, rfl, x, rfl, hb, show x = x - ones 0 from (Nat.sub_zero x).symm, 128, rfl, by omega, show 128 = 128 / 2 ^ (1 - 1) from rfl⟩
            case round =>
              obtain ⟨j, hj1, hj2, rfl, u, rfl, hu, HU, z, rfl, hz, HZ⟩ := hrel
              by_cases hlt : j < k
              · obtain ⟨g1, g2, g3, _⟩ := sub_step j hj1 (by omega)
                have g4 := ones_mono j (k - 1) (by omega)
                have g5 : z ≤ u := by have := HU.out; have := HZ.out; omega
                have HU' : Hid (u - z = x - ones (j + 1 - 1)) := by show _ = _; rw [Nat.add_sub_cancel, HU.out, HZ.out]; omega
                have HZ' : Hid (z / 2 = 128 / 2 ^ (j + 1 - 1)) := by show _ = _; rw [← g3, ← HZ.out]
                rw [← HZ.out] at g2
                clear g1 g3 g4
                have eu : ((u - z : Nat) : Int) = (u : Int) - z := by omega
                have EU := Lib.hid eu
                clear eu
                go_wp2_with fail
                go_round
                case rel => exact ⟨j + 1, by omega, by omega, by go_num, u - z, by rw [EU.out], by omega, HU', z / 2, by go_num, by omega, HZ'⟩
                case measure => simp [intOf]; omega
              · obtain rfl : j = k := by omega
                clear HZ hz hlt
                go_wp2_with fail
                go_loop [7, 10] (fun a i => ∃ p : Nat, 1 ≤ p ∧ p ≤ j ∧ i = .int .i64 p ∧ ∃ v : Nat, a = .int .u64 v ∧ Hid (v = num (x - ones (j - 1)) (r.take (p - 1)))) (fun _ i => j - (intOf i).toNat)
                case atStart => exact ⟨1, by omega, hk1, rfl, u, rfl, by show _ = _; rw [HU.out]; rfl⟩
                case round =>
                  obtain ⟨p, hp1, hp2, rfl, v, rfl, HP⟩ := hrel
                  by_cases hlt : p < j
                  · obtain ⟨hn1, hn2⟩ := num_next (x - ones (j - 1)) r (p - 1) (j - 1) (by omega) hr0
                    have hcell : w.cell? (ad.add p) = some (.int .u8 ((r[p - 1]'(by omega)).toNat : Int)) := by
                      have := HS.out (p - 1) (by omega)
                      rw [show p - 1 + 1 = p by omega] at this
                      exact this
                    have hb' : (r[p - 1]'(by omega)).toNat < 256 := UInt8.toNat_lt _
                    rw [← HV.out, ← HP.out] at *
                    generalize (r[p - 1]'(by omega)).toNat = c at *
                    rw [show p - 1 + 1 = p + 1 - 1 by omega] at hn1 hn2
                    have hbd : v * 256 + c < 18446744073709551616 := by omega
                    have HP' : Hid (v * 256 + c = num (x - ones (j - 1)) (r.take (p + 1 - 1))) := hn1
                    clear hn1 hn2
                    go_wp2_with fail
                    go_round
                    case rel => exact ⟨p + 1, by omega, by omega, by go_num, v * 256 + c, by go_num, HP'⟩
                    case measure => simp [intOf]; omega
                  · obtain rfl : p = j := by omega
                    rw [← HV.out] at HP
                    obtain rfl : v = V := HP.out
                    obtain ⟨T, hT⟩ : ∃ T, T = (b :: r).take p := ⟨_, rfl⟩
                    have hTl : p = T.length := by rw [hT]; have := HL.out; simp; omega
                    have hrd : Rd w B (some ad) T := by rw [hT]; exact HR'.out.take p
                    have heq : ((str (coin v)).toList == (str T).toList) = decide (sz v = p) := by
                      rw [str_toList, str_toList, hT, Bool.eq_iff_iff, beq_iff_eq, decide_eq_true_eq]; exact HCI.out
                    have hcl := length_coin v
                    have crc := fun W => rcoin_any v hvl W
                    clear hT HCI HR' HS HV HU HP
                    generalize coin v = CV at *
                    have HTL := Lib.hid hTl
                    have HCL := Lib.hid hcl
                    clear hTl hcl
                    have cv : ∀ W, Below w.heap.size w W → (convert 22 9 (.slice (some ad) p cap)).run Try.prog W = .ok (.string (str T)) W := fun W hW => conv_any (hrd.below hW hB) p cap HTL.out
                    have CV1 := cv w.drew (Below.refl _ _).drew
                    have HCV : Hid (∀ W, Below w.heap.size w W → (convert 22 9 (.slice (some ad) p cap)).run Try.prog W = .ok (.string (str T)) W) := cv
                    clear cv
                    obtain ⟨d, hd⟩ : ∃ d, d = decide (sz v = p) := ⟨_, rfl⟩
                    rw [← hd] at heq
                    have HD := Lib.hid hd
                    clear hd
                    have HGV : Hid (got (b :: r) = if d then (v, p, 0) else (0, 0, 4)) := by show _ = _; rw [HG.out, HD.out]; simp
                    clear HG
                    go_wp2_with fail
                    go_region_with (go_at_call 18; refine (crc _).mono ?_; rintro e w' ⟨A, c, rfl, R, hlc, B⟩; have CV2 := HCV.out _ ((Below.refl _ _).drew.trans B); have CV3 := conv_any R _ c rfl)
                    all_goals
                      clear CV1 CV2 CV3 crc
                      have HEQ := Lib.hid heq
                      clear heq
                      cases d
                      · go_wp2_with fail
                        refine bodyPost_ret (results_tmp3 rfl _ _ _) rfl ?_
                        refine ⟨?_, (Below.refl _ _).drew.trans B⟩
                        rw [HGV.out]; rfl
                      · go_wp2_with fail
                        refine bodyPost_ret (results_tmp3 rfl _ _ _) rfl ?_
                        refine ⟨?_, (Below.refl _ _).drew.trans B⟩
                        rw [HGV.out]; rfl
end Go.Proofs.Ytjhkgdgbmmpegaa.Coin

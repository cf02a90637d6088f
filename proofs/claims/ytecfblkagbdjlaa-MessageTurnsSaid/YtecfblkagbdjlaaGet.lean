/- What coin.Get answers. -/
import Derived.Test.YtecfblkagbdjlaaPut
namespace Go.Proofs.Ytecfblkagbdjlaa.Coin
open Go.ChangeShapes Go.WideShapes Go.ChangeAt Go.RowKit

theorem not_u8 (x : Nat) (h : x < 256) : bits .xor .u8 IntKind.u8.max (x : Int) = ((255 - x : Nat) : Int) := by
  have e : IntKind.u8.max = ((255 : Nat) : Int) := by rfl
  rw [e, u8_xor_nat 255 x (by decide) h]
  congr 1
  exact (by decide +kernel : ∀ x : Fin 256, 255 ^^^ x.val = 255 - x.val) ⟨x, h⟩
theorem clear_u8 (x : Nat) (h : x < 256) : bits .andNot .u8 (x : Int) (ones (lead x - 1) : Nat) = ((x - ones (lead x - 1) : Nat) : Int) := by
  rw [u8_andNot_nat x _ h (by unfold ones; have := Nat.two_pow_pos (8 - (lead x - 1)); omega)]
  congr 1
  exact (by decide +kernel : ∀ x : Fin 256, x.val &&& (255 - ones (lead x.val - 1)) = x.val - ones (lead x.val - 1)) ⟨x, h⟩
theorem shl_or (x b : Nat) (h : x * 256 + b < 18446744073709551616) (hb : b < 256) : bits .or .u64 (IntKind.u64.wrap ((x : Int) * 256)) (b : Int) = ((x * 256 + b : Nat) : Int) := by
  have h1 : x * 256 < 18446744073709551616 := Nat.lt_of_le_of_lt (Nat.le_add_right _ _) h
  have h2 : b < 18446744073709551616 := by omega
  have h3 : x * 256 ||| b = x * 256 + b := nat_join 8 (x * 256) b (by omega) (by omega)
  have e : IntKind.u64.wrap ((x : Int) * 256) = ((x * 256 : Nat) : Int) := by rw [wrap_u64]; omega
  rw [e, u64_or_nat _ _ h1 h2, h3]
theorem num_grow (a : Nat) (l r : List UInt8) : num a l ≤ num a (l ++ r) := by
  induction r generalizing l with
  | nil => simp
  | cons b r ih =>
    have := ih (l ++ [b])
    rw [num_snoc, List.append_assoc] at this
    simp only [List.cons_append, List.nil_append] at this
    omega
theorem num_next (a : Nat) (r : List UInt8) (i j : Nat) (hi : i < j) (hr : j ≤ r.length) : num a (r.take i) * 256 + (r[i]'(by omega)).toNat = num a (r.take (i + 1)) ∧ num a (r.take (i + 1)) ≤ num a (r.take j) := by
  constructor
  · rw [List.take_succ_eq_append_getElem (by omega), num_snoc]
  · have e : r.take j = r.take (i + 1) ++ (r.drop (i + 1)).take (j - (i + 1)) := by
      rw [← List.take_add]; congr 1; omega
    rw [e]; exact num_grow _ _ _

theorem get_any (A : Option Addr) (cap B : Nat) (l : List UInt8) (w : World) (hl : l.length ≤ 1000000) (hr : Rd w B A l) :
    Calls Try.prog 47 #[.slice A l.length cap] w fun e w' => e = .returned (.tuple #[.int .u64 (got l).1, .int .i64 (got l).2.1, .int .i64 (got l).2.2]) ∧ ∃ m, w' = w.drewN m := by
  rcases l with _ | ⟨b, r⟩
  · go_enter Try.func47, Try.ntmps47
    go_wp2
    refine bodyPost_ret (results_tmp3 rfl _ _ _) rfl ?_
    exact ⟨rfl, 0, rfl⟩
  · obtain ⟨ad, rfl, _, hc⟩ := hr (by simp)
    obtain ⟨m, hm⟩ : ∃ m, m = (b :: r).length := ⟨_, rfl⟩
    have h0 : w.cell? ad = some (.int .u8 (b.toNat : Int)) := hc 0 (by simp)
    have hb : b.toNat < 256 := b.toNat_lt
    have hk := lead_le b.toNat
    have clz := fun W => lz8_any b.toNat hb W
    rw [← not_u8 _ hb] at clz
    have con := fun W => (ones_any (lead b.toNat - 1) (by omega) W).mono fun _ _ h => And.intro h.1 h.2.symm
    have hm9 : m ≤ 1000000 := by omega
    obtain ⟨j, hj⟩ : ∃ j, lead b.toNat = j + 1 := ⟨lead b.toNat - 1, by omega⟩
    rw [← hm]
    by_cases h : r.length + 1 < lead b.toNat
    · simp only [got, if_pos h]
      rw [hj] at clz hk h
      have h' : m < j + 1 := by simp at hm; omega
      have h1 : 1 ≤ m := by simp at hm; omega
      clear hm con hj
      generalize b.toNat = x at *
      simp only [Nat.add_sub_cancel] at clz
      clear hl hc hr
      go_enter Try.func47, Try.ntmps47
      go_wp2_with (go_at_call 52; refine (clz _).mono ?_; rintro e w' ⟨rfl, rfl⟩)
      refine bodyPost_ret (results_tmp3 rfl _ _ _) rfl ?_
      exact ⟨rfl, 0, rfl⟩
    · have hcl := clear_u8 b.toNat hb
      have hsz := fun i (hi : i < r.length) => hc (i + 1) (by simp; omega)
      simp only [List.getElem_cons_succ] at hsz
      have hvl := val_lt b r (by omega)
      have HG := Lib.hid (show got (b :: r) = if sz (val b r) = lead b.toNat then (val b r, lead b.toNat, 0) else (0, 0, 4) by simp only [got, if_neg h])
      have hx : num (b.toNat - ones (lead b.toNat - 1)) (r.take 0) = b.toNat - ones (lead b.toNat - 1) := by simp [num]
      have HV := Lib.hid (show val b r = num (b.toNat - ones (lead b.toNat - 1)) (r.take (lead b.toNat - 1)) by rfl)
      generalize got (b :: r) = G at *
      have hlen : m = r.length + 1 := by simp at hm; omega
      clear hm hl hr hc
      rw [hj] at clz hk h con hcl HG HV hx
      simp only [Nat.add_sub_cancel] at clz con hcl HV hx
      have h' : j + 1 ≤ m := by omega
      have hL := Lib.hid hlen
      clear hlen h hj
      have HX := Lib.hid hx
      clear hx
      have HS : Hid (∀ i, (hi : i < r.length) → w.cell? (ad.add (i + 1)) = some (b8 r[i])) := hsz
      clear hsz
      generalize b.toNat = x at *
      generalize ones j = y at *
      have hz : x - y < 256 := by omega
      generalize x - y = z at *
      obtain ⟨V, hVV⟩ : ∃ V, V = val b r := ⟨_, rfl⟩
      rw [← hVV] at hvl HG HV
      clear hVV
      have hzw : IntKind.u64.wrap (z : Int) = z := by rw [wrap_u64]; omega
      have hjw : IntKind.i64.wrap ((j : Int) + 1 - 1) = (j : Int) := by rw [IntKind.wrap_i64]; omega
      go_enter Try.func47, Try.ntmps47
      go_wp2_with (go_at_call 52; refine (clz _).mono ?_; rintro e w' ⟨rfl, rfl⟩)
      go_quiet ((go_at_call 34; exact Calls.quiet_of_same (con _)))
      go_wp2_with fail
      go_loop [6, 31] (fun t i => ∃ k : Nat, k ≤ j ∧ i = .int .i64 k ∧ t = .int .u64 (num z (r.take k) : Nat)) (fun _ i => j - (intOf i).toNat)
      case atStart => exact ⟨0, by omega, rfl, by rw [HX.out]⟩
      case round =>
        obtain ⟨k, hk2, rfl, rfl⟩ := hrel
        by_cases hlt : k < j
        · obtain ⟨hn1, hn2⟩ := num_next z r k j hlt (by have := hL.out; omega)
          have hn3 : num z (r.take j) < 18446744073709551616 := by rw [← HV.out]; exact hvl
          have hcell : w.cell? (ad.add (1 + k)) = some (.int .u8 ((r[k]'(by have := hL.out; omega)).toNat : Int)) := by rw [Nat.add_comm]; exact HS.out k (by have := hL.out; omega)
          have hb' : (r[k]'(by have := hL.out; omega)).toNat < 256 := UInt8.toNat_lt _
          generalize (r[k]'(by have := hL.out; omega)).toNat = c at *
          have hor := shl_or (num z (r.take k)) c (by omega) hb'
          rw [hn1] at hor
          obtain ⟨v, hv⟩ : ∃ v, v = num z (r.take (k + 1)) := ⟨_, rfl⟩
          rw [← hv] at hor
          have HVV := Lib.hid hv
          clear hv
          generalize num z (r.take k) = u at *
          clear hn1 hn2 hn3
          go_wp2
          go_round
          case rel => exact ⟨k + 1, by omega, by go_num, by rw [← HVV.out]⟩
          case measure => simp [intOf]; omega
        · obtain rfl : k = j := by omega
          rw [← HV.out]
          have c13 := fun W => size_any V hvl W
          by_cases hs : sz V = k + 1
          · have hG : G = (V, k + 1, 0) := by rw [HG.out, if_pos hs]
            subst hG
            go_wp2_with (go_at_call 33; refine (c13 _).mono ?_; rintro e w' ⟨rfl, rfl⟩)
            refine bodyPost_ret (results_tmp3 rfl _ _ _) rfl ?_
            exact ⟨rfl, nq, rfl⟩
          · have hG : G = (0, 0, 4) := by rw [HG.out, if_neg hs]
            subst hG
            go_wp2_with (go_at_call 33; refine (c13 _).mono ?_; rintro e w' ⟨rfl, rfl⟩)
            refine bodyPost_ret (results_tmp3 rfl _ _ _) rfl ?_
            exact ⟨rfl, nq, rfl⟩
end Go.Proofs.Ytecfblkagbdjlaa.Coin

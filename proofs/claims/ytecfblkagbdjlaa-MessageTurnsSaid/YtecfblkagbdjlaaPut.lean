/- What coin.Put answers, and the law's own 'awake'. -/
import Derived.Test.YtecfblkagbdjlaaMem
import Derived.StillTailTactics
import Derived.Deep.QuietTactic
import Derived.BigQuiet
namespace Go.Proofs.Ytecfblkagbdjlaa.Coin
open Go.ChangeShapes Go.WideShapes Go.ChangeAt Go.RowKit

set_option maxRecDepth 4000 in
theorem put_any (A : Option Addr) (cap : Nat) (l : List UInt8) (n : Nat) (w : World) (hn : n < 18446744073709551616) (hl : l.length ≤ 900000) (hr : Rd w w.heap.size A l) :
    Calls Try.prog 20 #[.slice A l.length cap, .int .u64 n] w fun e w' => e = .returned (.slice (some ⟨w.heap.size, 0, none⟩) (l.length + sz n) (l.length + sz n)) ∧ Row w' w.heap.size (l ++ coin n) ∧ Below w.heap.size w w' := by
  have hs := sz_le n
  obtain ⟨m, hm⟩ : ∃ m, m = l.length := ⟨_, rfl⟩
  obtain ⟨k, hk⟩ : ∃ k, k = sz n := ⟨_, rfl⟩
  have hmk := make_any (m + k) (by omega)
  have ec : ((m + k : Nat) : Int) = (m : Int) + (k : Int) := by omega
  rw [ec] at hmk
  clear ec
  have cs := size_any n hn
  rw [← hk] at hs cs
  rw [← hm, ← hk]
  have HK := Lib.hid hk
  have HM := Lib.hid hm
  have hm' : m ≤ 900000 := by omega
  clear hk hm
  have R0 := Row.new w (m + k)
  have R1 : Rd (w.alloc (.cells (madeCells #[.int .u8 0] (m + k)) 5)) w.heap.size A l := hr.below ((Below.refl _ _).alloc (Nat.le_refl _) _) (Nat.le_refl _)
  have B1 : Below w.heap.size w (w.alloc (.cells (madeCells #[.int .u8 0] (m + k)) 5)) := (Below.refl _ _).alloc (Nat.le_refl _) _
  obtain ⟨w1, hw1⟩ : ∃ w1, w1 = w.alloc (.cells (madeCells #[.int .u8 0] (m + k)) 5) := ⟨_, rfl⟩
  rw [← hw1] at R0 R1 B1
  have hmk' : (Instr.makeSlice 30 (.int .i64 ((m : Int) + k)) (.int .i64 ((m : Int) + k))).run Try.prog w = .ok (.slice (some ⟨w.heap.size, 0, none⟩) (m + k) (m + k)) w1 := by rw [hw1]; exact hmk w
  clear hmk hw1
  go_enter Try.func20, Try.ntmps20
  go_wp2_with (first | (go_at_call 33; refine (cs _).mono ?_; rintro e w' ⟨rfl, rfl⟩) | (with_reducible refine copy_row rfl (.tmp 15) (.tmp 16) rfl w.heap.size (m + k) m cap A rfl rfl l ?c1 _ R1 R0 w.heap.size w B1 (Nat.le_refl _) ?_))
  case c1 => rw [← HM.out]; exact (Nat.min_eq_left (by omega)).symm
  intro w2 R2 B2
  clear R0 B1 R1 hmk'
  rw [← HM.out]
  go_wp2
  have R3 : Row w2 w.heap.size (l ++ (List.replicate (k - 0) 0 ++ be 0 n)) := by
    have e : m + k - l.length = k := by rw [← HM.out]; omega
    rw [e] at R2
    simpa [be] using R2
  clear R2
  go_loopw [1, 19] (fun x i wr => ∃ j : Nat, j ≤ k ∧ i = .int .i64 j ∧ x = .int .u64 (n / 256 ^ j : Nat) ∧ Row wr w.heap.size (l ++ (List.replicate (k - j) 0 ++ be j n)) ∧ Below w.heap.size w wr) (fun _ i _ => k - (intOf i).toNat)
  case atStart => exact ⟨0, by omega, rfl, by simp, R3, B2⟩
  case round =>
    obtain ⟨j, hj, rfl, rfl, R, B⟩ := hrel
    clear R3 B2
    by_cases hlt : j < k
    · have hx : n / 256 ^ j < 18446744073709551616 := Nat.lt_of_le_of_lt (Nat.div_le_self _ _) hn
      have hd := Lib.hid (show n / 256 ^ j / 256 = n / 256 ^ (j + 1) by rw [Nat.pow_succ, Nat.div_div_eq_div_mul])
      have hlen : (l ++ (List.replicate (k - j) 0 ++ be j n)).length = m + k := by simp [length_be]; have := HM.out; omega
      have ea : m + k - 1 - j = m + (k - 1 - j) := by omega
      obtain ⟨q, hcell⟩ : ∃ q : Int, wr.cell? ⟨w.heap.size, m + k - 1 - j, none⟩ = some (.int .u8 q) := ⟨_, R.cell (m + k - 1 - j) (by rw [hlen]; omega)⟩
      have hfz := R.frozen (m + k - 1 - j)
      have R' := R.set (m + k - 1 - j) (UInt8.ofNat (n / 256 ^ j))
      have hset := set_be l k j n hlt
      rw [← HM.out, ← ea] at hset
      rw [hset, b8_ofNat] at R'
      clear hset hlen ea
      have B' := B.setCell (p := ⟨w.heap.size, m + k - 1 - j, none⟩) (Nat.le_refl _) (.int .u8 ((n / 256 ^ j : Nat) % 256))
      generalize n / 256 ^ j = x at *
      go_wp2
      go_roundw
      case rel => exact ⟨j + 1, by omega, by go_num, by rw [← hd.out]; rfl, R', B'⟩
      case measure => simp [intOf]; omega
    · obtain rfl : j = k := by omega
      have ht := top_sz n hn
      have hor := or_ones (sz n) _ (sz_le n).1 (sz_le n).2 ht
      have hlo := (lead_top (sz n) _ (sz_le n).1 (sz_le n).2 ht).2
      have hset := set_coin l n
      rw [← HK.out] at ht hor hset hlo
      rw [Nat.sub_self, List.replicate_zero, List.nil_append] at R
      have hlen : (l ++ be j n).length = m + j := by simp [length_be]; have := HM.out; omega
      have hcell : wr.cell? ⟨w.heap.size, m, none⟩ = some (.int .u8 ((n / 256 ^ (j - 1) : Nat) : Int)) := by
        rw [R.cell m (by rw [hlen]; omega), ← b8_small _ (by omega)]
        congr 2
        rw [List.getElem_append_right (by have := HM.out; omega)]
        obtain ⟨i, rfl⟩ : ∃ i, j = i + 1 := ⟨j - 1, by omega⟩
        simp [be, HM.out]
      have hfz := R.frozen m
      have R' := R.set m (UInt8.ofNat (n / 256 ^ (j - 1) + ones (j - 1)))
      rw [← HM.out] at hset
      rw [hset, b8_small _ hlo] at R'
      have hb : bits .or .u8 ((n / 256 ^ (j - 1) : Nat) : Int) (ones (j - 1) : Nat) = ((n / 256 ^ (j - 1) + ones (j - 1) : Nat) : Int) := by
        rw [u8_or_nat _ _ (by omega) (by have : ones (j - 1) < 256 := by unfold ones; have := Nat.two_pow_pos (8 - (j - 1)); omega
                                         omega), hor]
      have hcell : wr.drew.cell? ⟨w.heap.size, m, none⟩ = some (.int .u8 ((n / 256 ^ (j - 1) : Nat) : Int)) := hcell
      have hfz : wr.drew.frozen? ⟨w.heap.size, m, none⟩ = false := hfz
      have R' : Row (wr.drew.setCell ⟨w.heap.size, m, none⟩ (.int .u8 ((n / 256 ^ (j - 1) + ones (j - 1) : Nat) : Int))) w.heap.size (l ++ coin n) := R'
      have B' := B.drew.setCell (p := ⟨w.heap.size, m, none⟩) (Nat.le_refl _) (.int .u8 ((n / 256 ^ (j - 1) + ones (j - 1) : Nat) : Int))
      have co := fun W => (ones_any (j - 1) (by omega) W).mono fun _ _ h => And.intro h.1 h.2.symm
      have ej : ((j - 1 : Nat) : Int) = (j : Int) - 1 := by omega
      rw [ej] at co
      clear hset hlen hor ht hlo ej
      generalize n / 256 ^ (j - 1) + ones (j - 1) = y at *
      generalize n / 256 ^ (j - 1) = x at *
      generalize ones (j - 1) = z at *
      go_wp2
      refine wp_region_still_tail 10 (by kernel_rfl) (by kernel_rfl) ?_
      simp only [List.take_succ_cons, List.take_zero, List.drop_succ_cons, List.drop_zero]
      change wpStill _ _ wr.drew (fun a' => wpList _ _ _ _ a' wr.drew) _ _
      generalize wr.drew = wd at *
      have hin : (m : Int) < (m : Int) + (j : Int) := by omega
      have hjw : IntKind.i64.wrap ((j : Int) - 1) = (j : Int) - 1 := by rw [IntKind.wrap_i64]; omega
      repeat still_step
      still_call (co _)
      repeat still_step
      refine wpStill_nil ?_
      go_wp2
      go_ret
      exact ⟨rfl, R', B'⟩

end Go.Proofs.Ytecfblkagbdjlaa.Coin

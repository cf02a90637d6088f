/- The document's own answer: a number as bytes. -/
import Derived.Test.YtecfblkagbdjlaaApp
namespace Go.Proofs.Ytecfblkagbdjlaa.Coin
open Go.ChangeShapes Go.WideShapes Go.ChangeAt Go.RowKit
set_option maxRecDepth 4000

/-- What the document's Coin answers: bytes in new memory. -/
def CoinSaid (w : World) (l : List UInt8) (e : Ending) (w' : World) : Prop := ∃ A c, e = .returned (.slice A l.length c) ∧ Rd w' w'.heap.size A l ∧ l.length ≤ c ∧ Below w.heap.size w w'
/-- The same, in memory that is the call's own. -/
def CoinOwn (w : World) (l : List UInt8) (e : Ending) (w' : World) : Prop := ∃ v, e = .returned v ∧ Own w' w.heap.size v l ∧ Below w.heap.size w w'
theorem Row.own {w : World} {g B : Nat} {l : List UInt8} (h : Row w g l) (hB : B ≤ g) (hl : l.length ≤ 1000000) : Own w B (.slice (some ⟨g, 0, none⟩) l.length l.length) l :=
  ⟨by simp, .inr ⟨g, l.length, _, rfl, hB, h, Nat.le_refl _, by unfold maxLen; omega, by simp, by rw [Nat.mul_one, List.take_of_length_le (by simp)]⟩⟩
theorem be_get (m n c : Nat) (h : c < m) : (be m n).take (c + 1) = (be m n).take c ++ [UInt8.ofNat (n / 256 ^ (m - 1 - c))] := by
  rw [List.take_succ_eq_append_getElem (by rw [length_be]; exact h)]
  congr 2
  induction m generalizing c with
  | zero => omega
  | succ m ih =>
    rcases c with _ | c
    · simp [be]
    · simp only [be, List.getElem_cons_succ]
      rw [ih c (by omega)]
      congr 3; omega
theorem new_byte (w : World) (n k : Nat) : Row (w.alloc (.cells #[.int .u8 ((n : Int) / 2 ^ k % 256)] 5)) w.heap.size [UInt8.ofNat (n / 2 ^ k)] := by
  have h := Row.lit w [UInt8.ofNat (n / 2 ^ k)]
  have e : ([UInt8.ofNat (n / 2 ^ k)].map b8).toArray = #[.int .u8 ((n : Int) / 2 ^ k % 256)] := by
    simp only [List.map_cons, List.map_nil, b8_ofNat]; simp
  rwa [e] at h
theorem ones_step (i : Nat) (h1 : 1 ≤ i) (h8 : i ≤ 8) : ones (i - 1) + 2 ^ (8 - i) = ones i ∧ 2 ^ (8 - i) < 256 := by
  have h := (by decide +kernel : ∀ i : Fin 9, 1 ≤ i.val → ones (i.val - 1) + 2 ^ (8 - i.val) = ones i.val ∧ 2 ^ (8 - i.val) < 256) ⟨i, by omega⟩ h1
  exact h
theorem half_step (i : Nat) (h8 : i < 8) : 2 ^ (8 - i) / 2 = 2 ^ (8 - (i + 1)) := by
  have h := (by decide +kernel : ∀ i : Fin 8, 2 ^ (8 - i.val) / 2 = 2 ^ (8 - (i.val + 1))) ⟨i, by omega⟩
  exact h
theorem coin9 (n : Nat) (hn : n < 18446744073709551616) (h : sz n = 9) : coin n = 255 :: be 8 n := by
  have h0 : n / 256 ^ 8 = 0 := by
    simp only [Nat.reducePow]; omega
  unfold coin
  rw [h]
  simp only [Nat.reduceSub, h0]
  rfl
theorem rcoin_own (n : Nat) (hn : n < 18446744073709551616) (w : World) : Calls Try.prog 15 #[.int .u64 n] w (CoinOwn w (coin n)) := by
  have hs := sz_le n
  have hsl := sz_len n hn
  have c25 := fun W => bits_any n hn W
  have hl := len_le n hn
  have hco : (coin n).length = sz n := length_coin n
  have hc9 := coin9 n hn
  obtain ⟨q, hq⟩ : ∃ q, q = sz n := ⟨_, rfl⟩
  rw [← hq] at hs hsl hco hc9
  have HQ := Lib.hid hq
  have HC := Lib.hid hco
  have H9 : Hid (q = 9 → coin n = 255 :: be 8 n) := hc9
  clear hq hco hc9
  generalize Lib.bitLen n = L at *
  have HSL := Lib.hid hsl
  clear hsl
  go_enter Try.func15, Try.ntmps15
  go_wp2
  go_loop [3] (fun t => ∃ k : Nat, 1 ≤ k ∧ k ≤ q ∧ t = .int .i64 k) (fun t => q - (intOf t).toNat)
  case atStart => exact ⟨1, by omega, by omega, rfl⟩
  case round =>
    obtain ⟨k, hk1, hk2, rfl⟩ := hrel
    by_cases hlt : k < q
    · have h1 : 7 * (k : Int) < L := by have := HSL.out; omega
      have h2 : (k : Int) < 9 := by omega
      go_wp2_with (go_at_call 27; refine (c25 _).mono ?_; rintro e w' ⟨rfl, rfl⟩)
      go_round
      case rel => exact ⟨k + 1, by omega, by omega, by go_num⟩
      case measure => simp [intOf]; omega
    · obtain rfl : k = q := by omega
      by_cases h9 : k = 9
      · subst h9
        have hc := H9.out rfl
        have O0 : Own (w.alloc (.cells #[.int .u8 255] 5)) w.heap.size (.slice (some ⟨w.heap.size, 0, none⟩) 1 1) [255] := Own.lit w w.heap.size [255] (Nat.le_refl _) (by simp)
        have B0 : Below w.heap.size w (w.alloc (.cells #[.int .u8 255] 5)) := (Below.refl _ _).alloc (Nat.le_refl _) _
        have HC9 := Lib.hid hc
        clear hc H9 HC c25
        go_wp2_with fail
        go_loopw [4, 5] (fun v i wr => Own wr w.heap.size v (255 :: (be 8 n).take (7 - intOf i).toNat) ∧ Below w.heap.size w wr ∧ ((∃ j : Nat, j ≤ 7 ∧ i = .int .i64 j) ∨ i = .int .i64 (-1))) (fun _ i _ => (intOf i + 1).toNat)
        case atStart => exact ⟨O0, B0, .inl ⟨7, by omega, rfl⟩⟩
        case round =>
          obtain ⟨O, B, ⟨j, hj, rfl⟩ | rfl⟩ := hrel
          · have R1 := (new_byte wr n (8 * j)).rd
            have B1 : Below w.heap.size w (wr.alloc (.cells #[.int .u8 ((n : Int) / 2 ^ (8 * j) % 256)] 5)) := B.alloc B.size _
            have O1 := O.kept (w' := wr.alloc (.cells #[.int .u8 ((n : Int) / 2 ^ (8 * j) % 256)] 5)) ((Below.refl _ _).alloc (Nat.le_refl _) _)
            have e1 : (be 8 n).take (7 - intOf (Value.int IntKind.i64 j)).toNat = (be 8 n).take (7 - j) := by congr 1; simp [intOf]
            rw [e1] at O1
            have e2 : (be 8 n).take (7 - j) ++ [UInt8.ofNat (n / 2 ^ (8 * j))] = (be 8 n).take (7 - j + 1) := by
              rw [be_get 8 n (7 - j) (by omega)]
              congr 3
              have e3 : 2 ^ (8 * j) = 256 ^ j := by rw [Nat.pow_mul]
              rw [e3]; congr 2; omega
            have hlen : (255 :: (be 8 n).take (7 - j)).length + [UInt8.ofNat (n / 2 ^ (8 * j))].length ≤ 1000000 := by simp [length_be]; omega
            have HE := Lib.hid e2
            have hsz : w.heap.size ≤ (wr.alloc (.cells #[.int .u8 ((n : Int) / 2 ^ (8 * j) % 256)] 5)).heap.size := B1.size
            clear e1 e2 O B
            generalize (be 8 n).take (7 - j) = X at *
            go_wp2_with (first | (at_builtin; with_reducible refine app_any rfl (.tmp 28) (.tmp 34) rfl w.heap.size u4 (255 :: X) [UInt8.ofNat (n / 2 ^ (8 * j))] (some ⟨wr.heap.size, 0, none⟩) 1 1 _ rfl rfl O1 R1 rfl (fun h => by cases h) hlen hsz w.heap.size w B1 (Nat.le_refl _) ?_))
            intro v' w2 O2 B2 _
            rw [HE.out] at O2
            clear O1 R1 B1 HE hlen hsz
            go_wp2
            go_roundw
            case rel =>
              refine ⟨?_, B2, ?_⟩
              · have e : (7 - intOf (Value.int IntKind.i64 ((j : Int) - 1))).toNat = 7 - j + 1 := by simp [intOf]; omega
                rw [e]; exact O2
              · rcases j with _ | j
                · exact .inr rfl
                · exact .inl ⟨j, by omega, by go_num⟩
            case measure => simp [intOf]
          · go_wp2
            go_ret
            have e : List.take (7 - intOf (Value.int IntKind.i64 (-1))).toNat (be 8 n) = be 8 n := List.take_of_length_le (by rw [length_be]; decide)
            rw [e, ← HC9.out] at O
            exact ⟨_, rfl, O, B⟩
      · have h1 : ¬ 7 * (k : Int) < L := by have := HSL.out; omega
        have h2 : (k : Int) < 9 := by omega
        have h3 : ((k : Int) == 9) = false := by simp; omega
        have hmk := make_any k (by omega) w
        go_wp2_with (go_at_call 27; refine (c25 _).mono ?_; rintro e w' ⟨rfl, rfl⟩)
        have R0 := Row.new w k
        have B0 : Below w.heap.size w (w.alloc (.cells (madeCells #[.int .u8 0] k) 5)) := (Below.refl _ _).alloc (Nat.le_refl _) _
        generalize w.alloc (.cells (madeCells #[.int .u8 0] k) 5) = w1 at *
        clear hmk c25 h1 H9
        go_loopw [0, 7] (fun x i wr => Below w.heap.size w wr ∧ ((∃ j : Nat, j < k ∧ i = .int .i64 j ∧ x = .int .u64 (n / 256 ^ (k - 1 - j) : Nat) ∧ Row wr w.heap.size (List.replicate (j + 1) 0 ++ be (k - 1 - j) n)) ∨ (i = .int .i64 (-1) ∧ Row wr w.heap.size (be k n)))) (fun _ i _ => (intOf i + 1).toNat)
        case atStart =>
          refine ⟨B0, .inl ⟨k - 1, by omega, by go_num, ?_, ?_⟩⟩
          · rw [Nat.sub_self, Nat.pow_zero, Nat.div_one]
          · rw [Nat.sub_self, show k - 1 + 1 = k by omega]
            simpa [be] using R0
        case round =>
          obtain ⟨B, ⟨j, hj, rfl, rfl, R⟩ | ⟨rfl, R⟩⟩ := hrel
          · have hx : n / 256 ^ (k - 1 - j) < 18446744073709551616 := Nat.lt_of_le_of_lt (Nat.div_le_self _ _) hn
            have hd := Lib.hid (show n / 256 ^ (k - 1 - j) / 256 = n / 256 ^ (k - 1 - j + 1) by rw [Nat.pow_succ, Nat.div_div_eq_div_mul])
            obtain ⟨q0, hcell⟩ : ∃ q : Int, wr.cell? ⟨w.heap.size, j, none⟩ = some (.int .u8 q) := ⟨_, R.cell j (by simp [length_be]; omega)⟩
            have hfz := R.frozen j
            have R' := R.set j (UInt8.ofNat (n / 256 ^ (k - 1 - j)))
            have hset := set_be [] k (k - 1 - j) n (by omega)
            have e1 : k - (k - 1 - j) = j + 1 := by omega
            have e2 : k - 1 - (k - 1 - j) = j := by omega
            have e3 : k - (k - 1 - j + 1) = j := by omega
            rw [e1, e2, e3] at hset
            simp only [List.nil_append, List.length_nil, Nat.zero_add] at hset
            rw [hset, b8_ofNat] at R'
            have B' := B.setCell (p := ⟨w.heap.size, j, none⟩) (Nat.le_refl _) (.int .u8 ((n / 256 ^ (k - 1 - j) : Nat) % 256))
            clear hset e1 e2 e3 R
            generalize n / 256 ^ (k - 1 - j) = x at *
            go_wp2
            go_roundw
            case rel =>
              refine ⟨B', ?_⟩
              rcases j with _ | j
              · refine .inr ⟨rfl, ?_⟩
                have e : k - 1 - 0 + 1 = k := by omega
                rw [e] at R'
                simpa using R'
              · have e : k - 1 - (j + 1) + 1 = k - 1 - j := by omega
                rw [e] at R' hd
                exact .inl ⟨j, by omega, by go_num, by rw [← hd.out]; simp, R'⟩
            case measure => simp [intOf]
          · obtain ⟨k0, rfl⟩ : ∃ k0, k = k0 + 1 := ⟨k - 1, by omega⟩
            have ht := top_sz n hn
            rw [← HQ.out, Nat.add_sub_cancel] at ht
            have R1 : Row wr w.heap.size (UInt8.ofNat (n / 256 ^ k0 + ones 0) :: be k0 n) := R
            have HCO := Lib.hid (show coin n = UInt8.ofNat (n / 256 ^ k0 + ones k0) :: be k0 n by unfold coin; rw [← HQ.out, Nat.add_sub_cancel])
            have hlt2 : ∀ i, i ≤ k0 → n / 256 ^ k0 + ones i < 256 := by
              intro i hi
              have h := (lead_top (k0 + 1) _ (by omega) (by omega) ht).2
              rw [Nat.add_sub_cancel] at h
              have ho : ones i ≤ ones k0 := by
                unfold ones
                have := Nat.pow_le_pow_right (n := 2) (by decide) (show 8 - k0 ≤ 8 - i by omega)
                omega
              omega
            have HLT : Hid (∀ i, i ≤ k0 → n / 256 ^ k0 + ones i < 256) := hlt2
            clear R hlt2 ht R0 B0
            generalize n / 256 ^ k0 = y at *
            generalize hbe : be k0 n = T at *
            have HBE := Lib.hid hbe
            clear hbe
            go_wp2_with fail
            go_loopw [8, 9] (fun x i wr => Below w.heap.size w wr ∧ ∃ j : Nat, 1 ≤ j ∧ j ≤ k0 + 1 ∧ i = .int .i64 j ∧ x = .int .i64 (2 ^ (8 - j) : Nat) ∧ Row wr w.heap.size (UInt8.ofNat (y + ones (j - 1)) :: T)) (fun _ i _ => (k0 + 2) - (intOf i).toNat)
            case atStart => exact ⟨B, 1, by omega, by omega, rfl, rfl, R1⟩
            case round =>
              clear R1 B
              obtain ⟨B, j, hj1, hj2, rfl, rfl, R⟩ := hrel
              by_cases hlt : j < k0 + 1
              · obtain ⟨hs1, hs2⟩ := ones_step j hj1 (by omega)
                have hh := Lib.hid (half_step j (by omega))
                have hy1 := HLT.out j (by omega)
                have hy0 := HLT.out (j - 1) (by omega)
                have hcell : wr.cell? ⟨w.heap.size, 0, none⟩ = some (.int .u8 ((y + ones (j - 1) : Nat) : Int)) := by
                  rw [R.cell 0 (by simp)]
                  exact congrArg some (b8_small _ (by omega))
                have hfz := R.frozen 0
                have R' := R.set 0 (UInt8.ofNat (y + ones j))
                rw [b8_small _ hy1, List.set_cons_zero] at R'
                have B' := B.setCell (p := ⟨w.heap.size, 0, none⟩) (Nat.le_refl _) (.int .u8 ((y + ones j : Nat) : Int))
                clear R
                generalize hz : 2 ^ (8 - j) = z at *
                generalize hp : ones (j - 1) = p at *
                generalize hq : ones j = q1 at *
                have hsum : ((y + p : Nat) : Int) + z = ((y + q1 : Nat) : Int) := by omega
                have hb : y + q1 < 256 := hy1
                obtain ⟨s, hs⟩ : ∃ s, s = y + p := ⟨_, rfl⟩
                obtain ⟨t, ht⟩ : ∃ t, t = y + q1 := ⟨_, rfl⟩
                rw [← hs] at hcell hsum
                rw [← ht] at hsum R' B' hb
                have HZ := Lib.hid hz
                have HQ1 := Lib.hid hq
                have HT := Lib.hid ht
                clear hs ht hz hp hq hs1 hy1 hy0
                have hsw : IntKind.u8.wrap ((s : Int) + z) = t := by rw [hsum, IntKind.wrap_u8']; omega
                clear hsum
                go_wp2
                go_roundw
                case rel =>
                  refine ⟨B', j + 1, by omega, by omega, by go_num, ?_, ?_⟩
                  · rw [← hh.out]; simp
                  · rw [Nat.add_sub_cancel, HQ1.out, ← HT.out]; exact R'
                case measure => simp [intOf]; omega
              · obtain rfl : j = k0 + 1 := by omega
                rw [Nat.add_sub_cancel, ← HCO.out] at R
                have R' := Lib.hid R
                clear R
                go_wp2
                go_ret
                have O := R'.out.own (Nat.le_refl _) (by rw [HC.out]; omega)
                rw [HC.out] at O
                exact ⟨_, rfl, O, B⟩
theorem rcoin_any (n : Nat) (hn : n < 18446744073709551616) (w : World) : Calls Try.prog 15 #[.int .u64 n] w (CoinSaid w (coin n)) :=
  (rcoin_own n hn w).mono fun e w' ⟨v, h1, h2, h3⟩ => by
    obtain ⟨A, c, rfl, R, hlc, _⟩ := h2.form
    exact ⟨A, c, h1, R, hlc, h3⟩
end Go.Proofs.Ytecfblkagbdjlaa.Coin
